import PyProof.Rows.All
import Wide.All
import OpenK.AllK
import Wide.FinOn
import Lean
import PyProof.EqAt
import PyProof.EqKinds
import PyProof.TupleCall
import PyProof.P3Eq
import PyProof.NeData
import PyProof.FitsBits
import PyProof.ZipIter
import PyProof.TupleIter
import KE.KRevIter
import PyProof.TupleOfGen
import PyProof.ListRange
import KE.KIsAll
import PyProof.ExcArgsOwn
import OpenK.KDescr
import PyProof.StationsW
import PyProof.ExcBaseAll.ValueError
import OpenK.KOwn
import PyProof.RulesAs
import PyProof.RulesDel
import PyProof.Rows.SortWalk
import PyProof.CompUse
import KE.KDictSum
import PyProof.WalkInts
import KE.KSortTup
import PyProof.Rows.TupDisplay
import KE.KIntText
import PyProof.JoinWalk
import PyProof.ExcInit
import PyProof.ExcClass2
import KE.KRevSl
import KE.KSetAt
import PyProof.DictUpdate
import PySem.Challenge.RW_pebbletoll_k64_rows_refused
set_option Elab.async false
set_option linter.all false
set_option maxRecDepth 100000
def cN:=@Array.getElem?_eq_some_iff
def ka:=@Array.getElem?_toList
def eE:=@Array.length_toList
def kR:=@Array.mem_toList_iff
def aZ:=@Bool.and_eq_true
def kQ:=@Bool.and_eq_true_iff
def fG:=@Bool.eq_iff_iff
def ee:=@Bool.false_and
def ck:=@Bool.false_eq_true
def aN:=@Bool.false_ne_true
def fS:=@Bool.not_eq_true'
def ja:=@Bool.or_true
def fX:=@Bool.true_and
def iu:=@PySem.Calls.Name_function_global
def fe:=@PySem.Calls.evalArgs_plain
def ir:=@PySem.Calls.spliced_cons
def iQ:=@PySem.Calls.spliced_nil
def ic:=@PySem.F.args_str_split_2
def gL:=@PySem.F.args_tuple_iterator_next_1
def iU:=@PySem.F.entry_str_split
def gX:=@PySem.F.entry_tuple_iterator_next
def jg:=@PySem.F.slot_str_split
def dX:=@PySem.F.slot_tuple_iterator_next
def gC:=@PySem.F.slot_zip_next
def d0:=@PySem.Heap.get?_none_of_le
def ak:=@PySem.Heap.get?_push_of_some
def aL:=@PySem.Heap.get?_push_size
def bL:=@PySem.Heap.get?_update_other
def cx:=@PySem.Heap.get?_update_self
def av:=@PySem.Heap.lt_size
def cg:=@PySem.Heap.size_push
def bE:=@Int.emod_lt_of_pos
def be:=@Int.emod_nonneg
def iz:=@Int.fdiv_eq_ediv_of_nonneg
def ju:=@Int.le_refl
def gD:=@Int.mul_le_mul_of_nonneg_left
def fT:=@Int.toNat_natCast
def cK:=@Int.toNat_of_nonneg
def ly:=@Int.zero_add
def jM:=@List.Perm.append_left
def ku:=@List.all_cons
def bQ:=@List.all_eq_true
def eU:=@List.any_cons
def bO:=@List.append_assoc
def cn:=@List.append_nil
def eT:=@List.concat_eq_append
def fY:=@List.cons.inj
def cQ:=@List.contains_cons
def kf:=@List.dropLast_concat
def jF:=@List.drop_of_length_le
def eS:=@List.eq_nil_or_concat
def ft:=@List.filterMap_cons
def dv:=@List.find?_cons
def gq:=@List.findSome?_append
def gQ:=@List.findSome?_cons
def kJ:=@List.flatMap_append
def cX:=@List.flatMap_cons
def dW:=@List.flatten_cons
def jK:=@List.forIn_cons
def gR:=@List.getD_cons_succ
def bD:=@List.getD_eq_getElem?_getD
def d6:=@List.getElem?_append_left
def cL:=@List.getElem?_append_right
def aG:=@List.getElem?_eq_getElem
def dS:=@List.getElem?_eq_none
def aH:=@List.getElem?_eq_some_iff
def aY:=@List.getElem?_map
def cU:=@List.getElem?_of_mem
def kD:=@List.getElem?_range
def fP:=@List.getElem?_replicate
def jT:=@List.getElem?_reverse
def dZ:=@List.getElem?_set_ne
def dc:=@List.getElem?_set_self
def fJ:=@List.getElem?_take_of_lt
def jA:=@List.getElem_cons_drop
def gf:=@List.getElem_map
def eY:=@List.getElem_mem
def ao:=@List.length_append
def aO:=@List.length_cons
def cz:=@List.length_drop
def jm:=@List.length_eq_zero_iff
def jN:=@List.length_filter_le
def am:=@List.length_map
def cS:=@List.length_nil
def gW:=@List.length_pos_iff
def bW:=@List.length_replicate
def cJ:=@List.length_reverse
def bT:=@List.length_set
def dR:=@List.length_singleton
def bc:=@List.length_take
def bN:=@List.lookup_cons
def aQ:=@List.map_append
def kI:=@List.map_congr_left
def ba:=@List.map_cons
def kG:=@List.map_eq_nil_iff
def jd:=@List.map_map
def dB:=@List.map_nil
def fH:=@List.map_replicate
def gA:=@List.map_set
def aV:=@List.mem_append
def bi:=@List.mem_append_left
def aE:=@List.mem_append_right
def az:=@List.mem_cons
def aK:=@List.mem_cons_of_mem
def aR:=@List.mem_cons_self
def jS:=@List.mem_erase_of_ne
def d9:=@List.mem_filter
def fV:=@List.mem_flatMap
def bu:=@List.mem_map
def cW:=@List.mem_nil_iff
def bd:=@List.mem_of_getElem?
def eP:=@List.mem_of_mem_drop
def gu:=@List.mem_of_mem_take
def ff:=@List.mem_or_eq_of_mem_set
def cR:=@List.mem_range
def gS:=@List.mem_replicate
def ax:=@List.mem_singleton
def jh:=@List.nil_append
def fA:=@List.nodup_append
def bn:=@List.nodup_cons
def cm:=@List.not_mem_nil
def ji:=@List.of_mem_zip
def dq:=@List.pairwise_iff_getElem
def g9:=@List.perm_append_singleton
def ci:=@List.replicate_succ
def j8:=@List.reverse_append
def aJ:=@List.size_toArray
def f6:=@List.take_append_drop
def cj:=@List.take_length
def b9:=@List.take_of_length_le
def bA:=@List.take_succ
def dy:=@List.take_zero
def jP:=@Nat.add_le_add_right
def fU:=@Nat.le_add_right
def iJ:=@Nat.le_of_eq
def iG:=@Nat.le_of_lt
def aB:=@Nat.le_refl
def dC:=@Nat.le_succ
def bh:=@Nat.le_trans
def iR:=@Nat.log2_le_self
def cA:=@Nat.lt_irrefl
def eu:=@Nat.lt_of_le_of_lt
def aI:=@Nat.lt_of_lt_of_le
def dj:=@Nat.lt_succ_of_lt
def cV:=@Nat.lt_succ_self
def eg:=@Nat.ne_of_gt
def aF:=@Nat.ne_of_lt
def iK:=@Nat.sub_self
def kz:=@Nat.succ.inj
def bJ:=@Nat.zero_le
def cq:=@PySem.Obj.data_mapFields
def de:=@PySem.Obj.isFreed_of_fields
def iT:=@Option.bind_some
def d4:=@Option.isSome_iff_exists
def iC:=@Option.isSome_map
def bP:=@Option.map_eq_some_iff
def bo:=@Option.some.inj
def cD:=@PyProof.Rows.callWith_type1
def eZ:=@PySem.F.excBase_ValueError
def iL:=@PySem.F.slot_list_insert
def iM:=@PySem.W.any_some
def fu:=@PySem.W.callWith_K
def jo:=@PySem.W.cellsFrom_some
def gG:=@PySem.W.looks_clsIn
def jO:=@PySem.W.looks_findIn
def gK:=@PySem.W.looks_mroIn
def f8:=@PySem.W.methodCall_KW
def aW:=@PySem.W.mg_of
def gI:=@PySem.W.plainGet_of
def gN:=@PySem.W.tail_of_in
def cG:=@PySem.mem_of_lookup
def fM:=@beq_iff_eq
def eC:=@PySem.codeAny_compStart_list
def eW:=@PySem.codeAny_mono
def bt:=@decide_eq_false
def jb:=@decide_eq_false_iff_not
def bI:=@decide_eq_true
def bZ:=@decide_eq_true_eq
def fq:=@decide_eq_true_iff
def ag:=@if_neg
def aj:=@if_pos
def bg:=@of_decide_eq_true
def eh:=@PySem.wpAny_Call_Name_kw
def ig:=@PySem.wpAny_Call_ofName
def ah:=@PySem.wpAny_bind
def fK:=@PySem.wpAny_call
def fW:=@PySem.wpAny_call_entry
def d5:=@PySem.wpAny_comprehension_free
def iP:=@PySem.wpAny_execs_cons
def d8:=@PySem.wpAny_execs_nil
def bF:=@PySem.wpAny_field
def eK:=@PySem.wpAny_holding
def iX:=@PySem.wpAny_letGo
def dI:=@PySem.wpAny_loadPart_at
def aX:=@PySem.wpAny_mono
def eN:=@PySem.wpAny_newFunctionEnv
def dk:=@PySem.wpAny_newObj_type
def gV:=@PySem.wpAny_onRaise
def dD:=@PySem.wpAny_passesOwn
def aD:=@PySem.wpAny_pure
def fD:=@PySem.wpAny_pyIter_list
def gO:=@PySem.wpAny_pyIter_tuple
def dz:=@PySem.wpAny_seqItems
def dN:=@PySem.wpAny_setField
def dF:=@PySem.wpAny_setField_rec
def bR:=@PySem.wpAny_standAt
def bX:=@PySem.wpAny_truthy_bool
def gr:=@PySem.wpAny_updateSeq_pair
namespace Hd
open PySem
def top(i:Nat):Stmt:=PySem.Challenge.pw_pebbletoll_k64_rows_refused.main.body.getD i (.Pass ⟨0,0,0,0⟩)
def Zb(s:Stmt)(j:Nat):Stmt:=match s with
 | .ClassDef _ _ _ b _ _ _ _ _ _ _=>b.getD j (.Pass ⟨0,0,0,0⟩)
 | _=>.Pass ⟨0,0,0,0⟩
def kA(s:Stmt):Arguments:=match s with
 | .FunctionDef _ a _ _ _ _ _ _ _ _=>a
 | _=>{ posonlyargs:=[],args:=[],vararg:=none,kwonlyargs:=[],kw_defaults:=[],kwarg:=none,defaults:=[] }
def kB(s:Stmt):List Stmt:=match s with
 | .FunctionDef _ _ b _ _ _ _ _ _ _=>b
 | _=>[]
def kS(s:Stmt):Scope:=match s with
 | .FunctionDef _ _ _ _ _ _ sc _ _ _=>sc
 | _=>{ kind:=.function,names:=[],isGenerator:=false,isCoroutine:=false }
theorem ws:(PySem.Challenge.rw_pebbletoll_k64_rows_refused).wellSaid=true:=by kernel_rfl
open PySem.W PySem.Calls PyProof.Rows
def en(P:Params)(s:Str)(t:Tok)(v:Value):DictEntry:=.mk (PyData.keyHash P s) (.str s t) v
def cO(a b:Str)(s j h:Tok)(o f m q c:Int)(p:Value)(i:Bool)(k:Int)(g u l r d:Value)(e t:Int)(n:Tok):Obj:=.mk (.type "code") none (.fields #[.str a s,.str b j,.str "/claim/cut.py" h,.int o 0,.int f 0,.int m 0,.int q 0,.int c 0,p,.bool i,.int k 0,g,u,l,r,d,.int e 0,.int t 0,.str "/claim/cut.py" n]) #[]
def fR(a b:Str)(s:Stmt):Obj:=.mk .none none (.func (.mk a b (kA s) (.stmts (kB s)) (kS s) 0 [] .none .none .none .none none .none .none 0)) #[]
def fO(a b:Str)(s:Stmt)(c d:Value):Obj:=.mk (.type "function") none (.func (PySem.W.fnOf a b (kA s) (kB s) (kS s) .none .none .none c none d .none)) #[]
def tO(a:Array Value):Obj:=.mk (.type "tuple") none (.seq a 0) #[]
def fr(a:Str)(s:Stmt):Obj:=fR a a s
def fo(a:Str)(s:Stmt)(c b:Value):Obj:=fO a a s c b
def cF(a:Str)(t:Nat)(i j k:Int)(n q:Nat):Obj:=cO a a t (t+1) (t+2) i j 0 0 k (.ref n) true 181 (.ref (n+1)) .none (.ref (n+2)) (.ref (n+3)) (.ref (n+4)) q i (q+1)
def sT(t:Nat):List Str->List Value
 | []=>[]
 | s::l=>.str s t::sT (t+1) l
def tS(t:Nat)(l:List Str):Obj:=tO (sT t l).toArray
def tF:List (Int×Nat)->List Value
 | []=>[]
 | (i,a)::l=>.int i 0::.int 0 0::.ref a::tF l
def x0:Obj:=(tO #[])
def x1:Obj:=(.mk .none none (.fields #[]) #[])
def x2:Obj:=(cO "<module>" "<module>" 182 183 184 1 0 0 0 0 (.ref 11) false 181 (.ref 12) .none .none .none .none 185 1 186)
def x3:Obj:=(.mk (.type "frame") none .plain #[(some (.ref 13)),(some (.ref 3)),(some (.ref 3)),none,(some (.str "__main__" 164)),none,(some (.ref 0))])
noncomputable def ha(P:Params):Heap:=.mk (.mk (boot_o_0 P::boot_o_1 P::boot_o_2 P::boot_o_3 P::boot_o_4 P::boot_o_5 P::boot_o_6 P::boot_o_7 P::boot_o_8 P::boot_o_9 P::boot_o_10 P::x0::x1::x2::x3::[])) (.mk [] [] [] 0 [] [] false #[] [] 0 false false false 0 [2000,10,10] false 0 true [] [] 0 false)
noncomputable def hb(P:Params):Heap:=ha P
abbrev st0:List Stmt:=[top 0,top 1,top 2,top 3,top 4,top 5,top 6,top 7,top 8,top 9]
abbrev st1:List Stmt:=[top 10,top 11,top 12,top 13,top 14,top 15,top 16,top 17,top 18,top 19,top 20,top 21,top 22,top 23,top 24,top 25,top 26,top 27,top 28,top 29,top 30,top 31,top 32,top 33,top 34,top 35,top 36,top 37,top 38,top 39,top 40,top 41,top 42,top 43,top 44,top 45,top 46,top 47,top 48,top 49,top 50,top 51,top 52,top 53,top 54,top 55,top 56,top 57,top 58,top 59,top 60]
abbrev st2:List Stmt:=[top 61,top 62,top 63,top 64,top 65,top 66,top 67,top 68,top 69,top 70,top 71,top 72,top 73,top 74,top 75,top 76,top 77,top 78,top 79,top 80,top 81,top 82,top 83,top 84,top 85,top 86,top 87,top 88,top 89,top 90,top 91,top 92,top 93,top 94,top 95,top 96,top 97,top 98,top 99,top 100,top 101,top 102,top 103,top 104,top 105]
abbrev st3:List Stmt:=[top 106]
abbrev st4:List Stmt:=[top 107,top 108,top 109,top 110,top 111,top 112,top 113,top 114,top 115,top 116,top 117,top 118,top 119,top 120,top 121]
abbrev bb:List Stmt:=st0++(st1++(st2++(st3++(st4++([])))))
def env:Env:={ scope:=PySem.Challenge.pw_pebbletoll_k64_rows_refused.main.scope,locals:=mainNs,globals:=mainNs,cells:=[],code:=(.ref 13),frame:=some 14 }
abbrev cE:Code:=.body bb env
theorem Yz(w:World)(os:OsState):topGo treeTable PySem.Challenge.pw_pebbletoll_k64_rows_refused w 11 (some (.ref 6)) 12 (Shared.mk (boot_heap w.params) (.mk []) boot_drawn boot_toks os) (topStub PySem.Challenge.pw_pebbletoll_k64_rows_refused)=some ((Shared.mk (ha w.params) (.mk []) (.mk 0 0 0 0) 187 os),Thread.mk (denote treeTable cE) cE (.mk 0 0 0 0) [topFrame (.mk 0 0 0 0)]):=by kernel_rfl
theorem Yr(w:World)(os:OsState):segRun treeTable PySem.Challenge.pw_pebbletoll_k64_rows_refused w 11 (some (.ref 6)) 1 1 (Shared.mk (ha w.params) (.mk []) (.mk 0 0 0 0) 187 os) (blockOf bb env cE (.mk 0 0 0 0) [topFrame (.mk 0 0 0 0)])=some (.next,(Shared.mk (hb w.params) (.mk []) (.mk 0 0 0 0) 187 os),cE,(.mk 0 0 0 0)):=by kernel_rfl
def x4(P:Params):Obj:=(.mk (.type "dict") none (.dict #[(en P "__name__" 165 (.str "pebbletoll.errors" 187)),(en P "__doc__" 166 .none),(en P "__package__" 167 .none),(en P "__loader__" 168 (.builtin "__main__.__loader__#opaque")),(en P "__spec__" 169 .none),(en P "__annotations__" 170 (.ref 6)),(en P "__builtins__" 171 (.ref 4)),(en P "__file__" 173 (.str "/claim/cut.py" 172)),(en P "__cached__" 174 .none),(en P "TollError" 206 (.ref 24)),(en P "BadWeb" 222 (.ref 37)),(en P "NoPlace" 238 (.ref 49)),(en P "NoRoad" 254 (.ref 61)),(en P "BadLaying" 270 (.ref 73)),(en P "BadWish" 286 (.ref 85)),(en P "NoWorst" 302 (.ref 97)),(en P "NoDeed" 318 (.ref 109)),(en P "BadStep" 343 (.ref 128))] 18) #[])
def x5:Obj:=(.mk .none none (.fields (tF [(2,20),(4,33),(6,45),(8,57),(10,69),(12,81),(14,93),(16,105),(18,117)]).toArray) #[])
def x6:Obj:=(tO #[(.type "ValueError")])
def x7:Obj:=(.mk (.type "builtin_function_or_method") none (.fields #[(.builtin "type.__prepare__"),(.type "type")]) #[])
def x8(P:Params):Obj:=(.mk (.type "dict") none (.dict #[(en P "__module__" 196 (.str "pebbletoll.errors" 187)),(en P "__qualname__" 198 (.str "TollError" 197)),(en P "__firstlineno__" 200 (.int 2 199)),(en P "__static_attributes__" 201 (.ref 22))] 4) #[])
def x9:Obj:=(cO "TollError" "TollError" 191 192 193 2 0 0 0 0 (.ref 18) false 181 (.ref 19) .none .none .none .none 194 2 195)
def x10:Obj:=(.mk (.type "frame") none .plain #[(some (.ref 20)),(some (.ref 3)),(some (.ref 17)),none,(some (.str "pebbletoll.errors" 187)),none,(some (.ref 0))])
def x11(P:Params):Obj:=(.mk (.type "dict") none (.dict #[(en P "__module__" 196 (.str "pebbletoll.errors" 187)),(en P "__firstlineno__" 200 (.int 2 199)),(en P "__static_attributes__" 201 (.ref 22)),(en P "__weakref__" 203 (.ref 25)),(en P "__doc__" 204 .none)] 3) #[])
def x12:Obj:=(.mk (.type "type") none (.cls (.mk "TollError" [(.type "ValueError")] [(.ref 24),(.type "ValueError"),(.type "Exception"),(.type "BaseException"),(.type "object")] 23 "TollError" true [] [(.ref 37),(.ref 49),(.ref 61),(.ref 73),(.ref 85),(.ref 97),(.ref 109),(.ref 128)] false none false)) #[(some (.ref 15)),none,(some (.str "TollError" 189)),(some (.str "TollError" 197)),(some (.builtin "ValueError.__new__")),(some (.bool true))])
def x13:Obj:=(.mk (.type "getset_descriptor") none (.fields #[(.str "__weakref__" 202),(.ref 24),(.builtin "ExceptionGroup.__weakref__"),.none]) #[])
def x14:Obj:=(.mk (.type "super") none (.fields #[(.ref 24),(.ref 24),(.ref 24)]) #[])
def x15:Obj:=(.mk (.type "builtin_function_or_method") none (.fields #[(.builtin "object.__init_subclass__"),(.ref 24)]) #[])
def ϩ:Obj:=(tO #[(.ref 24)])
def x17(P:Params):Obj:=(.mk (.type "dict") none (.dict #[(en P "__module__" 214 (.str "pebbletoll.errors" 187)),(en P "__qualname__" 216 (.str "BadWeb" 215)),(en P "__firstlineno__" 218 (.int 4 217)),(en P "__static_attributes__" 219 (.ref 35))] 4) #[])
def x18:Obj:=(cO "BadWeb" "BadWeb" 209 210 211 4 0 0 0 0 (.ref 31) false 181 (.ref 32) .none .none .none .none 212 4 213)
def x19:Obj:=(.mk (.type "frame") none .plain #[(some (.ref 33)),(some (.ref 3)),(some (.ref 30)),none,(some (.str "pebbletoll.errors" 187)),none,(some (.ref 0))])
def x20(P:Params):Obj:=(.mk (.type "dict") none (.dict #[(en P "__module__" 214 (.str "pebbletoll.errors" 187)),(en P "__firstlineno__" 218 (.int 4 217)),(en P "__static_attributes__" 219 (.ref 35)),(en P "__doc__" 220 .none)] 2) #[])
def x21:Obj:=(.mk (.type "type") none (.cls (.mk "BadWeb" [(.ref 24)] [(.ref 37),(.ref 24),(.type "ValueError"),(.type "Exception"),(.type "BaseException"),(.type "object")] 36 "BadWeb" true [] [] false none false)) #[(some (.ref 28)),none,(some (.str "BadWeb" 207)),(some (.str "BadWeb" 215)),(some (.builtin "ValueError.__new__")),(some (.bool true))])
def x22:Obj:=(.mk (.type "super") none (.fields #[(.ref 37),(.ref 37),(.ref 37)]) #[])
def x23:Obj:=(.mk (.type "builtin_function_or_method") none (.fields #[(.builtin "object.__init_subclass__"),(.ref 37)]) #[])
def x24(P:Params):Obj:=(.mk (.type "dict") none (.dict #[(en P "__module__" 230 (.str "pebbletoll.errors" 187)),(en P "__qualname__" 232 (.str "NoPlace" 231)),(en P "__firstlineno__" 234 (.int 6 233)),(en P "__static_attributes__" 235 (.ref 47))] 4) #[])
def x25:Obj:=(cO "NoPlace" "NoPlace" 225 226 227 6 0 0 0 0 (.ref 43) false 181 (.ref 44) .none .none .none .none 228 6 229)
def x26:Obj:=(.mk (.type "frame") none .plain #[(some (.ref 45)),(some (.ref 3)),(some (.ref 42)),none,(some (.str "pebbletoll.errors" 187)),none,(some (.ref 0))])
def x27(P:Params):Obj:=(.mk (.type "dict") none (.dict #[(en P "__module__" 230 (.str "pebbletoll.errors" 187)),(en P "__firstlineno__" 234 (.int 6 233)),(en P "__static_attributes__" 235 (.ref 47)),(en P "__doc__" 236 .none)] 2) #[])
def x28:Obj:=(.mk (.type "type") none (.cls (.mk "NoPlace" [(.ref 24)] [(.ref 49),(.ref 24),(.type "ValueError"),(.type "Exception"),(.type "BaseException"),(.type "object")] 48 "NoPlace" true [] [] false none false)) #[(some (.ref 40)),none,(some (.str "NoPlace" 223)),(some (.str "NoPlace" 231)),(some (.builtin "ValueError.__new__")),(some (.bool true))])
def x29:Obj:=(.mk (.type "super") none (.fields #[(.ref 49),(.ref 49),(.ref 49)]) #[])
def x30:Obj:=(.mk (.type "builtin_function_or_method") none (.fields #[(.builtin "object.__init_subclass__"),(.ref 49)]) #[])
def x31(P:Params):Obj:=(.mk (.type "dict") none (.dict #[(en P "__module__" 246 (.str "pebbletoll.errors" 187)),(en P "__qualname__" 248 (.str "NoRoad" 247)),(en P "__firstlineno__" 250 (.int 8 249)),(en P "__static_attributes__" 251 (.ref 59))] 4) #[])
def x32:Obj:=(cO "NoRoad" "NoRoad" 241 242 243 8 0 0 0 0 (.ref 55) false 181 (.ref 56) .none .none .none .none 244 8 245)
def x33:Obj:=(.mk (.type "frame") none .plain #[(some (.ref 57)),(some (.ref 3)),(some (.ref 54)),none,(some (.str "pebbletoll.errors" 187)),none,(some (.ref 0))])
def x34(P:Params):Obj:=(.mk (.type "dict") none (.dict #[(en P "__module__" 246 (.str "pebbletoll.errors" 187)),(en P "__firstlineno__" 250 (.int 8 249)),(en P "__static_attributes__" 251 (.ref 59)),(en P "__doc__" 252 .none)] 2) #[])
def x35:Obj:=(.mk (.type "type") none (.cls (.mk "NoRoad" [(.ref 24)] [(.ref 61),(.ref 24),(.type "ValueError"),(.type "Exception"),(.type "BaseException"),(.type "object")] 60 "NoRoad" true [] [] false none false)) #[(some (.ref 52)),none,(some (.str "NoRoad" 239)),(some (.str "NoRoad" 247)),(some (.builtin "ValueError.__new__")),(some (.bool true))])
def x36:Obj:=(.mk (.type "super") none (.fields #[(.ref 61),(.ref 61),(.ref 61)]) #[])
def x37:Obj:=(.mk (.type "builtin_function_or_method") none (.fields #[(.builtin "object.__init_subclass__"),(.ref 61)]) #[])
def x38(P:Params):Obj:=(.mk (.type "dict") none (.dict #[(en P "__module__" 262 (.str "pebbletoll.errors" 187)),(en P "__qualname__" 264 (.str "BadLaying" 263)),(en P "__firstlineno__" 266 (.int 10 265)),(en P "__static_attributes__" 267 (.ref 71))] 4) #[])
def x39:Obj:=(cO "BadLaying" "BadLaying" 257 258 259 10 0 0 0 0 (.ref 67) false 181 (.ref 68) .none .none .none .none 260 10 261)
def x40:Obj:=(.mk (.type "frame") none .plain #[(some (.ref 69)),(some (.ref 3)),(some (.ref 66)),none,(some (.str "pebbletoll.errors" 187)),none,(some (.ref 0))])
def x41(P:Params):Obj:=(.mk (.type "dict") none (.dict #[(en P "__module__" 262 (.str "pebbletoll.errors" 187)),(en P "__firstlineno__" 266 (.int 10 265)),(en P "__static_attributes__" 267 (.ref 71)),(en P "__doc__" 268 .none)] 2) #[])
def x42:Obj:=(.mk (.type "type") none (.cls (.mk "BadLaying" [(.ref 24)] [(.ref 73),(.ref 24),(.type "ValueError"),(.type "Exception"),(.type "BaseException"),(.type "object")] 72 "BadLaying" true [] [] false none false)) #[(some (.ref 64)),none,(some (.str "BadLaying" 255)),(some (.str "BadLaying" 263)),(some (.builtin "ValueError.__new__")),(some (.bool true))])
def x43:Obj:=(.mk (.type "super") none (.fields #[(.ref 73),(.ref 73),(.ref 73)]) #[])
def x44:Obj:=(.mk (.type "builtin_function_or_method") none (.fields #[(.builtin "object.__init_subclass__"),(.ref 73)]) #[])
def x45(P:Params):Obj:=(.mk (.type "dict") none (.dict #[(en P "__module__" 278 (.str "pebbletoll.errors" 187)),(en P "__qualname__" 280 (.str "BadWish" 279)),(en P "__firstlineno__" 282 (.int 12 281)),(en P "__static_attributes__" 283 (.ref 83))] 4) #[])
def x46:Obj:=(cO "BadWish" "BadWish" 273 274 275 12 0 0 0 0 (.ref 79) false 181 (.ref 80) .none .none .none .none 276 12 277)
def x47:Obj:=(.mk (.type "frame") none .plain #[(some (.ref 81)),(some (.ref 3)),(some (.ref 78)),none,(some (.str "pebbletoll.errors" 187)),none,(some (.ref 0))])
def x48(P:Params):Obj:=(.mk (.type "dict") none (.dict #[(en P "__module__" 278 (.str "pebbletoll.errors" 187)),(en P "__firstlineno__" 282 (.int 12 281)),(en P "__static_attributes__" 283 (.ref 83)),(en P "__doc__" 284 .none)] 2) #[])
def x49:Obj:=(.mk (.type "type") none (.cls (.mk "BadWish" [(.ref 24)] [(.ref 85),(.ref 24),(.type "ValueError"),(.type "Exception"),(.type "BaseException"),(.type "object")] 84 "BadWish" true [] [] false none false)) #[(some (.ref 76)),none,(some (.str "BadWish" 271)),(some (.str "BadWish" 279)),(some (.builtin "ValueError.__new__")),(some (.bool true))])
def x50:Obj:=(.mk (.type "super") none (.fields #[(.ref 85),(.ref 85),(.ref 85)]) #[])
def x51:Obj:=(.mk (.type "builtin_function_or_method") none (.fields #[(.builtin "object.__init_subclass__"),(.ref 85)]) #[])
def x52(P:Params):Obj:=(.mk (.type "dict") none (.dict #[(en P "__module__" 294 (.str "pebbletoll.errors" 187)),(en P "__qualname__" 296 (.str "NoWorst" 295)),(en P "__firstlineno__" 298 (.int 14 297)),(en P "__static_attributes__" 299 (.ref 95))] 4) #[])
def x53:Obj:=(cO "NoWorst" "NoWorst" 289 290 291 14 0 0 0 0 (.ref 91) false 181 (.ref 92) .none .none .none .none 292 14 293)
def x54:Obj:=(.mk (.type "frame") none .plain #[(some (.ref 93)),(some (.ref 3)),(some (.ref 90)),none,(some (.str "pebbletoll.errors" 187)),none,(some (.ref 0))])
def x55(P:Params):Obj:=(.mk (.type "dict") none (.dict #[(en P "__module__" 294 (.str "pebbletoll.errors" 187)),(en P "__firstlineno__" 298 (.int 14 297)),(en P "__static_attributes__" 299 (.ref 95)),(en P "__doc__" 300 .none)] 2) #[])
def x56:Obj:=(.mk (.type "type") none (.cls (.mk "NoWorst" [(.ref 24)] [(.ref 97),(.ref 24),(.type "ValueError"),(.type "Exception"),(.type "BaseException"),(.type "object")] 96 "NoWorst" true [] [] false none false)) #[(some (.ref 88)),none,(some (.str "NoWorst" 287)),(some (.str "NoWorst" 295)),(some (.builtin "ValueError.__new__")),(some (.bool true))])
def x57:Obj:=(.mk (.type "super") none (.fields #[(.ref 97),(.ref 97),(.ref 97)]) #[])
def x58:Obj:=(.mk (.type "builtin_function_or_method") none (.fields #[(.builtin "object.__init_subclass__"),(.ref 97)]) #[])
def x59(P:Params):Obj:=(.mk (.type "dict") none (.dict #[(en P "__module__" 310 (.str "pebbletoll.errors" 187)),(en P "__qualname__" 312 (.str "NoDeed" 311)),(en P "__firstlineno__" 314 (.int 16 313)),(en P "__static_attributes__" 315 (.ref 107))] 4) #[])
def x60:Obj:=(cO "NoDeed" "NoDeed" 305 306 307 16 0 0 0 0 (.ref 103) false 181 (.ref 104) .none .none .none .none 308 16 309)
def x61:Obj:=(.mk (.type "frame") none .plain #[(some (.ref 105)),(some (.ref 3)),(some (.ref 102)),none,(some (.str "pebbletoll.errors" 187)),none,(some (.ref 0))])
def x62(P:Params):Obj:=(.mk (.type "dict") none (.dict #[(en P "__module__" 310 (.str "pebbletoll.errors" 187)),(en P "__firstlineno__" 314 (.int 16 313)),(en P "__static_attributes__" 315 (.ref 107)),(en P "__doc__" 316 .none)] 2) #[])
def x63:Obj:=(.mk (.type "type") none (.cls (.mk "NoDeed" [(.ref 24)] [(.ref 109),(.ref 24),(.type "ValueError"),(.type "Exception"),(.type "BaseException"),(.type "object")] 108 "NoDeed" true [] [] false none false)) #[(some (.ref 100)),none,(some (.str "NoDeed" 303)),(some (.str "NoDeed" 311)),(some (.builtin "ValueError.__new__")),(some (.bool true))])
def x64:Obj:=(.mk (.type "super") none (.fields #[(.ref 109),(.ref 109),(.ref 109)]) #[])
def x65:Obj:=(.mk (.type "builtin_function_or_method") none (.fields #[(.builtin "object.__init_subclass__"),(.ref 109)]) #[])
def x66(P:Params):Obj:=(.mk (.type "dict") none (.dict #[(en P "__module__" 326 (.str "pebbletoll.errors" 187)),(en P "__qualname__" 328 (.str "BadStep" 327)),(en P "__firstlineno__" 330 (.int 18 329)),(en P "__init__" 338 (.ref 125)),(en P "__static_attributes__" 340 (.ref 126))] 5) #[])
def x67:Obj:=(.mk .none none (.fields #[(.int 20 0),(.int 4 0),(.ref 124)]) #[])
def x68:Obj:=(cO "BadStep" "BadStep" 321 322 323 18 0 0 0 0 (.ref 115) false 181 (.ref 116) .none .none .none .none 324 18 325)
def x69:Obj:=(.mk (.type "frame") none .plain #[(some (.ref 117)),(some (.ref 3)),(some (.ref 114)),none,(some (.str "pebbletoll.errors" 187)),none,(some (.ref 0))])
def x70:Obj:=(tS 334 ["self","at"])
def x71:Obj:=(fR "__init__" "BadStep.__init__" (Zb (top 9) 0))
def x72:Obj:=(cO "__init__" "BadStep.__init__" 331 332 333 20 2 0 0 3 (.ref 119) true 181 (.ref 120) .none (.ref 121) (.ref 122) (.ref 123) 336 20 337)
def x73:Obj:=(fO "__init__" "BadStep.__init__" (Zb (top 9) 0) (.str "pebbletoll.errors" 187) (.ref 124))
def x74:Obj:=(tO #[(.str "at" 339)])
def x75(P:Params):Obj:=(.mk (.type "dict") none (.dict #[(en P "__module__" 326 (.str "pebbletoll.errors" 187)),(en P "__firstlineno__" 330 (.int 18 329)),(en P "__init__" 338 (.ref 125)),(en P "__static_attributes__" 340 (.ref 126)),(en P "__doc__" 341 .none)] 2) #[])
def x76:Obj:=(.mk (.type "type") none (.cls (.mk "BadStep" [(.ref 24)] [(.ref 128),(.ref 24),(.type "ValueError"),(.type "Exception"),(.type "BaseException"),(.type "object")] 127 "BadStep" true [] [] false none false)) #[(some (.ref 112)),none,(some (.str "BadStep" 319)),(some (.str "BadStep" 327)),(some (.builtin "ValueError.__new__")),(some (.bool true))])
def x77:Obj:=(.mk (.type "super") none (.fields #[(.ref 128),(.ref 128),(.ref 128)]) #[])
def x78:Obj:=(.mk (.type "builtin_function_or_method") none (.fields #[(.builtin "object.__init_subclass__"),(.ref 128)]) #[])
noncomputable def h0(P:Params):Heap:=.mk (.mk (boot_o_0 P::boot_o_1 P::boot_o_2 P::x4 P::boot_o_4 P::boot_o_5 P::boot_o_6 P::boot_o_7 P::boot_o_8 P::boot_o_9 P::boot_o_10 P::x0::x5::x2::x3::x6::x7::x8 P::x0::x1::x9::x10::x0::x11 P::x12::x13::x14::x15::ϩ::x7::x17 P::x0::x1::x18::x19::x0::x20 P::x21::x22::x23::ϩ::x7::x24 P::x0::x1::x25::x26::x0::x27 P::x28::x29::x30::ϩ::x7::x31 P::x0::x1::x32::x33::x0::x34 P::x35::x36::x37::ϩ::x7::x38 P::x0::x1::x39::x40::x0::x41 P::x42::x43::x44::ϩ::x7::x45 P::x0::x1::x46::x47::x0::x48 P::x49::x50::x51::ϩ::x7::x52 P::x0::x1::x53::x54::x0::x55 P::x56::x57::x58::ϩ::x7::x59 P::x0::x1::x60::x61::x0::x62 P::x63::x64::x65::ϩ::x7::x66 P::x0::x67::x68::x69::x0::x1::x70::x0::x71::x72::x73::x74::x75 P::x76::x77::x78::[])) (.mk [] [] [] 0 [] [] false #[] [] 0 false false false 0 [2000,10,10] false 0 true [] [] 0 false)
theorem YW(w:World)(os:OsState):segRun treeTable PySem.Challenge.pw_pebbletoll_k64_rows_refused w 11 (some (.ref 6)) 1 1932 (Shared.mk (hb w.params) (.mk []) (.mk 0 0 0 0) 187 os) (piecesOf st0 env cE (.mk 0 0 0 0) [topFrame (.mk 0 0 0 0)])=some (.next,(Shared.mk (h0 w.params) (.mk []) (.mk 0 0 0 0) 344 os),cE,(.mk 18 0 22 20)):=by kernel_rfl
def x79(P:Params):Obj:=(.mk (.type "dict") none (.dict #[(en P "__name__" 165 (.str "pebbletoll.always" 718)),(en P "__doc__" 166 .none),(en P "__package__" 167 .none),(en P "__loader__" 168 (.builtin "__main__.__loader__#opaque")),(en P "__spec__" 169 .none),(en P "__annotations__" 170 (.ref 6)),(en P "__builtins__" 171 (.ref 4)),(en P "__file__" 173 (.str "/claim/cut.py" 172)),(en P "__cached__" 174 .none),(en P "TollError" 206 (.ref 24)),(en P "BadWeb" 222 (.ref 37)),(en P "NoPlace" 238 (.ref 49)),(en P "NoRoad" 254 (.ref 61)),(en P "BadLaying" 270 (.ref 73)),(en P "BadWish" 286 (.ref 85)),(en P "NoWorst" 302 (.ref 97)),(en P "NoDeed" 318 (.ref 109)),(en P "BadStep" 343 (.ref 128)),(en P "BadText" 368 (.ref 147)),(en P "MOST_PLACES" 372 (.int 24 371)),(en P "LEAST_TOLL" 374 (.int 2 373)),(en P "MOST_TOLL" 376 (.int 1000000 375)),(en P "Web" 404 (.ref 164)),(en P "toll" 417 (.ref 175)),(en P "neighbours" 425 (.ref 182)),(en P "check_place" 433 (.ref 189)),(en P "is_place" 441 (.ref 196)),(en P "check_counts" 449 (.ref 203)),(en P "check_ends" 457 (.ref 210)),(en P "check_tolls" 465 (.ref 217)),(en P "check_joined" 477 (.ref 224)),(en P "other_ends" 487 (.ref 231)),(en P "laying_of" 497 (.ref 238)),(en P "is_filled" 503 (.ref 243)),(en P "total" 510 (.ref 250)),(en P "pile" 519 (.ref 257)),(en P "put" 530 (.ref 264)),(en P "ahead" 545 (.ref 271)),(en P "down" 558 (.ref 278)),(en P "kids" 564 (.ref 283)),(en P "inward" 570 (.ref 288)),(en P "walked" 581 (.ref 295)),(en P "layings" 593 (.ref 302)),(en P "can_be_done" 602 (.ref 309)),(en P "is_step" 610 (.ref 316)),(en P "taken" 618 (.ref 323)),(en P "behind" 628 (.ref 330)),(en P "wish_of" 638 (.ref 337)),(en P "standings" 644 (.ref 342)),(en P "handed_on" 654 (.ref 349)),(en P "standing" 664 (.ref 356)),(en P "is_met" 673 (.ref 363)),(en P "meeting" 682 (.ref 370)),(en P "steps_in" 697 (.ref 377)),(en P "steps_out" 711 (.ref 384)),(en P "lacks_of" 717 (.ref 389)),(en P "needs" 731 (.ref 396)),(en P "always" 739 (.ref 403)),(en P "fails" 745 (.ref 408)),(en P "is_idle" 753 (.ref 415)),(en P "failing" 762 (.ref 422)),(en P "Outlook" 792 (.ref 437)),(en P "idle_load" 801 (.ref 448))] 63) #[])
def x80:Obj:=(.mk .none none (.fields (tF [(2,20),(4,33),(6,45),(8,57),(10,69),(12,81),(14,93),(16,105),(18,117),(23,136),(32,155),(43,174),(52,181),(55,188),(58,195),(60,202),(65,209),(70,216),(74,223),(85,230),(94,237),(98,242),(100,249),(102,256),(104,263),(110,270),(121,277),(131,282),(133,287),(137,294),(139,301),(146,308),(148,315),(150,322),(152,329),(158,336),(162,341),(169,348),(173,355),(175,362),(177,369),(181,376),(189,383),(196,388),(199,395),(204,402),(208,407),(213,414),(215,421),(217,428),(226,447)]).toArray) #[])
def x81:Obj:=(.mk (.type "type") none (.cls (.mk "TollError" [(.type "ValueError")] [(.ref 24),(.type "ValueError"),(.type "Exception"),(.type "BaseException"),(.type "object")] 23 "TollError" true [] [(.ref 37),(.ref 49),(.ref 61),(.ref 73),(.ref 85),(.ref 97),(.ref 109),(.ref 128),(.ref 147)] false none false)) #[(some (.ref 15)),none,(some (.str "TollError" 189)),(some (.str "TollError" 197)),(some (.builtin "ValueError.__new__")),(some (.bool true))])
def x82(P:Params):Obj:=(.mk (.type "dict") none (.dict #[(en P "__module__" 351 (.str "pebbletoll.errors" 187)),(en P "__qualname__" 353 (.str "BadText" 352)),(en P "__firstlineno__" 355 (.int 23 354)),(en P "__init__" 363 (.ref 144)),(en P "__static_attributes__" 365 (.ref 145))] 5) #[])
def x83:Obj:=(.mk .none none (.fields #[(.int 25 0),(.int 4 0),(.ref 143)]) #[])
def x84:Obj:=(cO "BadText" "BadText" 346 347 348 23 0 0 0 0 (.ref 134) false 181 (.ref 135) .none .none .none .none 349 23 350)
def x85:Obj:=(.mk (.type "frame") none .plain #[(some (.ref 136)),(some (.ref 3)),(some (.ref 133)),none,(some (.str "pebbletoll.errors" 187)),none,(some (.ref 0))])
def x86:Obj:=(tS 359 ["self","at"])
def x87:Obj:=(fR "__init__" "BadText.__init__" (Zb (top 10) 0))
def x88:Obj:=(cO "__init__" "BadText.__init__" 356 357 358 25 2 0 0 3 (.ref 138) true 181 (.ref 139) .none (.ref 140) (.ref 141) (.ref 142) 361 25 362)
def x89:Obj:=(fO "__init__" "BadText.__init__" (Zb (top 10) 0) (.str "pebbletoll.errors" 187) (.ref 143))
def x90:Obj:=(tO #[(.str "at" 364)])
def x91(P:Params):Obj:=(.mk (.type "dict") none (.dict #[(en P "__module__" 351 (.str "pebbletoll.errors" 187)),(en P "__firstlineno__" 355 (.int 23 354)),(en P "__init__" 363 (.ref 144)),(en P "__static_attributes__" 365 (.ref 145)),(en P "__doc__" 366 .none)] 2) #[])
def x92:Obj:=(.mk (.type "type") none (.cls (.mk "BadText" [(.ref 24)] [(.ref 147),(.ref 24),(.type "ValueError"),(.type "Exception"),(.type "BaseException"),(.type "object")] 146 "BadText" true [] [] false none false)) #[(some (.ref 131)),none,(some (.str "BadText" 344)),(some (.str "BadText" 352)),(some (.builtin "ValueError.__new__")),(some (.bool true))])
def x93:Obj:=(.mk (.type "super") none (.fields #[(.ref 147),(.ref 147),(.ref 147)]) #[])
def x94:Obj:=(.mk (.type "builtin_function_or_method") none (.fields #[(.builtin "object.__init_subclass__"),(.ref 147)]) #[])
def x95(P:Params):Obj:=(.mk (.type "dict") none (.dict #[(en P "__module__" 384 (.str "pebbletoll.webs" 369)),(en P "__qualname__" 386 (.str "Web" 385)),(en P "__firstlineno__" 388 (.int 32 387)),(en P "__init__" 394 (.ref 161)),(en P "__static_attributes__" 397 (.ref 162))] 5) #[])
def x96:Obj:=(.mk .none none (.fields #[(.int 34 0),(.int 4 0),(.ref 160)]) #[])
def x97:Obj:=(cO "Web" "Web" 379 380 381 32 0 0 0 0 (.ref 153) false 181 (.ref 154) .none .none .none .none 382 32 383)
def x98:Obj:=(.mk (.type "frame") none .plain #[(some (.ref 155)),(some (.ref 3)),(some (.ref 152)),none,(some (.str "pebbletoll.webs" 369)),none,(some (.ref 0))])
def x99:Obj:=(fR "__init__" "Web.__init__" (Zb (top 15) 0))
def FK:Obj:=(cO "__init__" "Web.__init__" 389 390 391 34 3 0 0 3 (.ref 157) true 181 (.ref 158) .none .none .none (.ref 159) 392 34 393)
def GA:Obj:=(fO "__init__" "Web.__init__" (Zb (top 15) 0) (.str "pebbletoll.webs" 369) (.ref 160))
def MN:Obj:=(tS 395 ["many","roads"])
def DN(P:Params):Obj:=(.mk (.type "dict") none (.dict #[(en P "__module__" 384 (.str "pebbletoll.webs" 369)),(en P "__firstlineno__" 388 (.int 32 387)),(en P "__init__" 394 (.ref 161)),(en P "__static_attributes__" 397 (.ref 162)),(en P "__dict__" 399 (.ref 165)),(en P "__weakref__" 401 (.ref 166)),(en P "__doc__" 402 .none)] 4) #[])
def FX:Obj:=(.mk (.type "type") none (.cls (.mk "Web" [(.type "object")] [(.ref 164),(.type "object")] 163 "Web" true [] [] false none false)) #[none,none,(some (.str "Web" 377)),(some (.str "Web" 385)),(some (.builtin "object.__new__")),(some (.bool true))])
def FZ:Obj:=(.mk (.type "getset_descriptor") none (.fields #[(.str "__dict__" 398),(.ref 164),(.builtin "function.__dict__"),(.builtin "function.__dict__#set")]) #[])
def CV:Obj:=(.mk (.type "getset_descriptor") none (.fields #[(.str "__weakref__" 400),(.ref 164),(.builtin "ExceptionGroup.__weakref__"),.none]) #[])
def MP:Obj:=(.mk (.type "super") none (.fields #[(.ref 164),(.ref 164),(.ref 164)]) #[])
def Lb:Obj:=(.mk (.type "builtin_function_or_method") none (.fields #[(.builtin "object.__init_subclass__"),(.ref 164)]) #[])
def JA:Obj:=(tS 408 ["web","a","b","one","other","there","back"])
def LL:Obj:=(fr "toll" (top 16))
def DQ:Obj:=(cF "toll" 405 43 3 3 169 415)
def Dg:Obj:=(fo "toll" (top 16) (.str "pebbletoll.webs" 369) (.ref 174))
def NR:Obj:=(tS 421 ["web","a"])
def JN:Obj:=(fr "neighbours" (top 17))
def Fn:Obj:=(cF "neighbours" 418 52 2 3 176 423)
def DJ:Obj:=(fo "neighbours" (top 17) (.str "pebbletoll.webs" 369) (.ref 181))
def Kj:Obj:=(tS 429 ["web","number"])
def Lo:Obj:=(fr "check_place" (top 18))
def Dc:Obj:=(cF "check_place" 426 55 2 3 183 431)
def Fh:Obj:=(fo "check_place" (top 18) (.str "pebbletoll.webs" 369) (.ref 188))
def KQ:Obj:=(tS 437 ["many","number"])
def NH:Obj:=(fr "is_place" (top 19))
def GX:Obj:=(cF "is_place" 434 58 2 3 190 439)
def F1:Obj:=(fo "is_place" (top 19) (.str "pebbletoll.webs" 369) (.ref 195))
def Ls:Obj:=(tS 445 ["many","roads"])
def LB:Obj:=(fr "check_counts" (top 20))
def DD:Obj:=(cF "check_counts" 442 60 2 3 197 447)
def Dw:Obj:=(fo "check_counts" (top 20) (.str "pebbletoll.webs" 369) (.ref 202))
def Ke:Obj:=(tS 453 ["many","road"])
def Nk:Obj:=(fr "check_ends" (top 21))
def F2:Obj:=(cF "check_ends" 450 65 2 3 204 455)
def Dp:Obj:=(fo "check_ends" (top 21) (.str "pebbletoll.webs" 369) (.ref 209))
def JV:Obj:=(tS 461 ["road","number"])
def LA:Obj:=(fr "check_tolls" (top 22))
def Gk:Obj:=(cF "check_tolls" 458 70 1 3 211 463)
def Fd:Obj:=(fo "check_tolls" (top 22) (.str "pebbletoll.webs" 369) (.ref 216))
def Mf:Obj:=(tS 469 ["many","roads","reached","waiting","place","end"])
def Nx:Obj:=(fr "check_joined" (top 23))
def Ds:Obj:=(cF "check_joined" 466 74 2 3 218 475)
def FR:Obj:=(fo "check_joined" (top 23) (.str "pebbletoll.webs" 369) (.ref 223))
def LG:Obj:=(tS 481 ["roads","place","ends","road"])
def LX:Obj:=(fr "other_ends" (top 24))
def ER:Obj:=(cF "other_ends" 478 85 2 3 225 485)
def FC:Obj:=(fo "other_ends" (top 24) (.str "pebbletoll.webs" 369) (.ref 230))
def Lp:Obj:=(tS 493 ["web","numbers"])
def MF:Obj:=(fr "laying_of" (top 26))
def E2:Obj:=(cF "laying_of" 490 94 2 3 232 495)
def F5:Obj:=(fo "laying_of" (top 26) (.str "pebbletoll.layings" 488) (.ref 237))
def NB:Obj:=(fr "is_filled" (top 27))
def CZ:Obj:=(cO "is_filled" "is_filled" 498 499 500 98 2 0 0 3 (.ref 239) true 181 (.ref 240) .none .none .none (.ref 241) 501 98 502)
def Fp:Obj:=(fo "is_filled" (top 27) (.str "pebbletoll.layings" 488) (.ref 242))
def J9:Obj:=(tO #[(.str "numbers" 507)])
def Lv:Obj:=(fr "total" (top 28))
def FL:Obj:=(cF "total" 504 100 1 3 244 508)
def GW:Obj:=(fo "total" (top 28) (.str "pebbletoll.layings" 488) (.ref 249))
def LP:Obj:=(tS 514 ["web","place","many"])
def Js:Obj:=(fr "pile" (top 29))
def FE:Obj:=(cF "pile" 511 102 3 3 251 517)
def Gf:Obj:=(fo "pile" (top 29) (.str "pebbletoll.layings" 488) (.ref 256))
def Ll:Obj:=(tS 523 ["web","laying","place","many","counts"])
def Kn:Obj:=(fr "put" (top 30))
def D1:Obj:=(cF "put" 520 104 4 3 258 528)
def Ep:Obj:=(fo "put" (top 30) (.str "pebbletoll.layings" 488) (.ref 263))
def Lf:Obj:=(tS 536 ["web","r","nearer","waiting","place","front","kid"])
def KW:Obj:=(fr "ahead" (top 32))
def Dn:Obj:=(cF "ahead" 533 110 2 3 265 543)
def Ei:Obj:=(fo "ahead" (top 32) (.str "pebbletoll.ways" 531) (.ref 270))
def Kp:Obj:=(tS 549 ["web","r","nearer","places","waiting","place","kid"])
def Lk:Obj:=(fr "down" (top 33))
def EA:Obj:=(cF "down" 546 121 2 3 272 556)
def DI:Obj:=(fo "down" (top 33) (.str "pebbletoll.ways" 531) (.ref 277))
def NO:Obj:=(fr "kids" (top 34))
def GM:Obj:=(cO "kids" "kids" 559 560 561 131 3 0 0 3 (.ref 279) true 181 (.ref 280) .none .none .none (.ref 281) 562 131 563)
def Fv:Obj:=(fo "kids" (top 34) (.str "pebbletoll.ways" 531) (.ref 282))
def Kh:Obj:=(fr "inward" (top 35))
def Ed:Obj:=(cO "inward" "inward" 565 566 567 133 2 0 0 3 (.ref 284) true 181 (.ref 285) .none .none .none (.ref 286) 568 133 569)
def Du:Obj:=(fo "inward" (top 35) (.str "pebbletoll.ways" 531) (.ref 287))
def JP:Obj:=(tS 576 ["web","laying","steps"])
def MO:Obj:=(fr "walked" (top 37))
def Eh:Obj:=(cF "walked" 573 137 3 3 289 579)
def FQ:Obj:=(fo "walked" (top 37) (.str "pebbletoll.steps" 571) (.ref 294))
def Ml:Obj:=(tS 585 ["web","laying","steps","passed","at","step"])
def Nh:Obj:=(fr "layings" (top 38))
def Gi:Obj:=(cF "layings" 582 139 3 3 296 591)
def Fi:Obj:=(fo "layings" (top 38) (.str "pebbletoll.steps" 571) (.ref 301))
def JY:Obj:=(tS 597 ["web","laying","step"])
def Nw:Obj:=(fr "can_be_done" (top 39))
def FO:Obj:=(cF "can_be_done" 594 146 3 3 303 600)
def CS:Obj:=(fo "can_be_done" (top 39) (.str "pebbletoll.steps" 571) (.ref 308))
def KR:Obj:=(tS 606 ["web","step"])
def Nl:Obj:=(fr "is_step" (top 40))
def ED:Obj:=(cF "is_step" 603 148 2 3 310 608)
def DP:Obj:=(fo "is_step" (top 40) (.str "pebbletoll.steps" 571) (.ref 315))
def Ku:Obj:=(tS 614 ["web","step"])
def Jj:Obj:=(fr "taken" (top 41))
def Eo:Obj:=(cF "taken" 611 150 2 3 317 616)
def Fy:Obj:=(fo "taken" (top 41) (.str "pebbletoll.steps" 571) (.ref 322))
def Nz:Obj:=(tS 622 ["web","laying","step","counts"])
def KU:Obj:=(fr "behind" (top 42))
def Dz:Obj:=(cF "behind" 619 152 3 3 324 626)
def Fc:Obj:=(fo "behind" (top 42) (.str "pebbletoll.steps" 571) (.ref 329))
def Mt:Obj:=(tS 634 ["web","numbers"])
def Jp:Obj:=(fr "wish_of" (top 44))
def GC:Obj:=(cF "wish_of" 631 158 2 3 331 636)
def DW:Obj:=(fo "wish_of" (top 44) (.str "pebbletoll.wishes" 629) (.ref 336))
def Li:Obj:=(fr "standings" (top 45))
def EF:Obj:=(cO "standings" "standings" 639 640 641 162 4 0 0 3 (.ref 338) true 181 (.ref 339) .none .none .none (.ref 340) 642 162 643)
def Gv:Obj:=(fo "standings" (top 45) (.str "pebbletoll.wishes" 629) (.ref 341))
def KI:Obj:=(tS 648 ["web","over","place","front"])
def LZ:Obj:=(fr "handed_on" (top 46))
def Fo:Obj:=(cF "handed_on" 645 169 4 3 343 652)
def DA:Obj:=(fo "handed_on" (top 46) (.str "pebbletoll.wishes" 629) (.ref 348))
def KL:Obj:=(tS 658 ["web","laying","wish","r"])
def Kq:Obj:=(fr "standing" (top 47))
def DF:Obj:=(cF "standing" 655 173 4 3 350 662)
def Et:Obj:=(fo "standing" (top 47) (.str "pebbletoll.wishes" 629) (.ref 355))
def KO:Obj:=(tS 668 ["web","laying","wish"])
def NG:Obj:=(fr "is_met" (top 48))
def Dl:Obj:=(cF "is_met" 665 175 3 3 357 671)
def D3:Obj:=(fo "is_met" (top 48) (.str "pebbletoll.wishes" 629) (.ref 362))
def L8:Obj:=(tS 677 ["web","laying","wish"])
def Mo:Obj:=(fr "meeting" (top 49))
def ET:Obj:=(cF "meeting" 674 177 3 3 364 680)
def Fz:Obj:=(fo "meeting" (top 49) (.str "pebbletoll.wishes" 629) (.ref 369))
def NS:Obj:=(tS 686 ["web","laying","wish","r","over","steps","place","front","times"])
def Ka:Obj:=(fr "steps_in" (top 50))
def FM:Obj:=(cF "steps_in" 683 181 4 3 371 695)
def Ey:Obj:=(fo "steps_in" (top 50) (.str "pebbletoll.wishes" 629) (.ref 376))
def J8:Obj:=(tS 701 ["web","laying","wish","r","over","steps","place","front"])
def NA:Obj:=(fr "steps_out" (top 51))
def Gb:Obj:=(cF "steps_out" 698 189 4 3 378 709)
def DX:Obj:=(fo "steps_out" (top 51) (.str "pebbletoll.wishes" 629) (.ref 383))
def JS:Obj:=(fr "lacks_of" (top 52))
def Dk:Obj:=(cO "lacks_of" "lacks_of" 712 713 714 196 3 0 0 3 (.ref 385) true 181 (.ref 386) .none .none .none (.ref 387) 715 196 716)
def Fu:Obj:=(fo "lacks_of" (top 52) (.str "pebbletoll.wishes" 629) (.ref 388))
def LN:Obj:=(tS 723 ["web","wish","r","found","place","front"])
def Nr:Obj:=(fr "needs" (top 54))
def Go:Obj:=(cF "needs" 720 199 3 3 390 729)
def En:Obj:=(fo "needs" (top 54) (.str "pebbletoll.always" 718) (.ref 395))
def JJ:Obj:=(tS 735 ["web","wish"])
def JL:Obj:=(fr "always" (top 55))
def DV:Obj:=(cF "always" 732 204 2 3 397 737)
def GS:Obj:=(fo "always" (top 55) (.str "pebbletoll.always" 718) (.ref 402))
def NZ:Obj:=(fr "fails" (top 56))
def Dq:Obj:=(cO "fails" "fails" 740 741 742 208 2 0 0 3 (.ref 404) true 181 (.ref 405) .none .none .none (.ref 406) 743 208 744)
def GY:Obj:=(fo "fails" (top 56) (.str "pebbletoll.always" 718) (.ref 407))
def MM:Obj:=(tS 749 ["web","wish"])
def Lg:Obj:=(fr "is_idle" (top 57))
def D4:Obj:=(cF "is_idle" 746 213 2 3 409 751)
def Gy:Obj:=(fo "is_idle" (top 57) (.str "pebbletoll.always" 718) (.ref 414))
def NJ:Obj:=(tS 757 ["web","wish","r"])
def Lh:Obj:=(fr "failing" (top 58))
def EJ:Obj:=(cF "failing" 754 215 3 3 416 760)
def DM:Obj:=(fo "failing" (top 58) (.str "pebbletoll.always" 718) (.ref 421))
def MV(P:Params):Obj:=(.mk (.type "dict") none (.dict #[(en P "__module__" 770 (.str "pebbletoll.always" 718)),(en P "__qualname__" 772 (.str "Outlook" 771)),(en P "__firstlineno__" 774 (.int 217 773)),(en P "__init__" 780 (.ref 434)),(en P "__static_attributes__" 785 (.ref 435))] 5) #[])
def Jy:Obj:=(.mk .none none (.fields #[(.int 219 0),(.int 4 0),(.ref 433)]) #[])
def NC:Obj:=(cO "Outlook" "Outlook" 765 766 767 217 0 0 0 0 (.ref 426) false 181 (.ref 427) .none .none .none .none 768 217 769)
def Mu:Obj:=(.mk (.type "frame") none .plain #[(some (.ref 428)),(some (.ref 3)),(some (.ref 425)),none,(some (.str "pebbletoll.always" 718)),none,(some (.ref 0))])
def Km:Obj:=(fR "__init__" "Outlook.__init__" (Zb (top 59) 0))
def GP:Obj:=(cO "__init__" "Outlook.__init__" 775 776 777 219 4 0 0 3 (.ref 430) true 181 (.ref 431) .none .none .none (.ref 432) 778 219 779)
def EH:Obj:=(fO "__init__" "Outlook.__init__" (Zb (top 59) 0) (.str "pebbletoll.always" 718) (.ref 433))
def Nn:Obj:=(tS 781 ["idle","kids","needs","web"])
def CP(P:Params):Obj:=(.mk (.type "dict") none (.dict #[(en P "__module__" 770 (.str "pebbletoll.always" 718)),(en P "__firstlineno__" 774 (.int 217 773)),(en P "__init__" 780 (.ref 434)),(en P "__static_attributes__" 785 (.ref 435)),(en P "__dict__" 787 (.ref 438)),(en P "__weakref__" 789 (.ref 439)),(en P "__doc__" 790 .none)] 4) #[])
def Db:Obj:=(.mk (.type "type") none (.cls (.mk "Outlook" [(.type "object")] [(.ref 437),(.type "object")] 436 "Outlook" true [] [] false none false)) #[none,none,(some (.str "Outlook" 763)),(some (.str "Outlook" 771)),(some (.builtin "object.__new__")),(some (.bool true))])
def Ef:Obj:=(.mk (.type "getset_descriptor") none (.fields #[(.str "__dict__" 786),(.ref 437),(.builtin "function.__dict__"),(.builtin "function.__dict__#set")]) #[])
def Ek:Obj:=(.mk (.type "getset_descriptor") none (.fields #[(.str "__weakref__" 788),(.ref 437),(.builtin "ExceptionGroup.__weakref__"),.none]) #[])
def NP:Obj:=(.mk (.type "super") none (.fields #[(.ref 437),(.ref 437),(.ref 437)]) #[])
def Mx:Obj:=(.mk (.type "builtin_function_or_method") none (.fields #[(.builtin "object.__init_subclass__"),(.ref 437)]) #[])
def NN:Obj:=(tS 796 ["outlook","place","front"])
def Kv:Obj:=(fr "idle_load" (top 60))
def EV:Obj:=(cF "idle_load" 793 226 3 3 442 799)
def Fk:Obj:=(fo "idle_load" (top 60) (.str "pebbletoll.always" 718) (.ref 447))
noncomputable def h1(P:Params):Heap:=.mk (.mk (boot_o_0 P::boot_o_1 P::boot_o_2 P::x79 P::boot_o_4 P::boot_o_5 P::boot_o_6 P::boot_o_7 P::boot_o_8 P::boot_o_9 P::boot_o_10 P::x0::x80::x2::x3::x6::x7::x8 P::x0::x1::x9::x10::x0::x11 P::x81::x13::x14::x15::ϩ::x7::x17 P::x0::x1::x18::x19::x0::x20 P::x21::x22::x23::ϩ::x7::x24 P::x0::x1::x25::x26::x0::x27 P::x28::x29::x30::ϩ::x7::x31 P::x0::x1::x32::x33::x0::x34 P::x35::x36::x37::ϩ::x7::x38 P::x0::x1::x39::x40::x0::x41 P::x42::x43::x44::ϩ::x7::x45 P::x0::x1::x46::x47::x0::x48 P::x49::x50::x51::ϩ::x7::x52 P::x0::x1::x53::x54::x0::x55 P::x56::x57::x58::ϩ::x7::x59 P::x0::x1::x60::x61::x0::x62 P::x63::x64::x65::ϩ::x7::x66 P::x0::x67::x68::x69::x0::x1::x70::x0::x71::x72::x73::x74::x75 P::x76::x77::x78::ϩ::x7::x82 P::x0::x83::x84::x85::x0::x1::x86::x0::x87::x88::x89::x90::x91 P::x92::x93::x94::x0::x7::x95 P::x0::x96::x97::x98::x0::x1::x99::FK::GA::MN::DN P::FX::FZ::CV::MP::Lb::x0::x1::JA::x0::LL::DQ::Dg::x0::x1::NR::x0::JN::Fn::DJ::x0::x1::Kj::x0::Lo::Dc::Fh::x0::x1::KQ::x0::NH::GX::F1::x0::x1::Ls::x0::LB::DD::Dw::x0::x1::Ke::x0::Nk::F2::Dp::x0::x1::JV::x0::LA::Gk::Fd::x0::x1::Mf::x0::Nx::Ds::FR::x0::x1::LG::x0::LX::ER::FC::x0::x1::Lp::x0::MF::E2::F5::x0::x1::NB::CZ::Fp::x0::x1::J9::x0::Lv::FL::GW::x0::x1::LP::x0::Js::FE::Gf::x0::x1::Ll::x0::Kn::D1::Ep::x0::x1::Lf::x0::KW::Dn::Ei::x0::x1::Kp::x0::Lk::EA::DI::x0::x1::NO::GM::Fv::x0::x1::Kh::Ed::Du::x0::x1::JP::x0::MO::Eh::FQ::x0::x1::Ml::x0::Nh::Gi::Fi::x0::x1::JY::x0::Nw::FO::CS::x0::x1::KR::x0::Nl::ED::DP::x0::x1::Ku::x0::Jj::Eo::Fy::x0::x1::Nz::x0::KU::Dz::Fc::x0::x1::Mt::x0::Jp::GC::DW::x0::x1::Li::EF::Gv::x0::x1::KI::x0::LZ::Fo::DA::x0::x1::KL::x0::Kq::DF::Et::x0::x1::KO::x0::NG::Dl::D3::x0::x1::L8::x0::Mo::ET::Fz::x0::x1::NS::x0::Ka::FM::Ey::x0::x1::J8::x0::NA::Gb::DX::x0::x1::JS::Dk::Fu::x0::x1::LN::x0::Nr::Go::En::x0::x1::JJ::x0::JL::DV::GS::x0::x1::NZ::Dq::GY::x0::x1::MM::x0::Lg::D4::Gy::x0::x1::NJ::x0::Lh::EJ::DM::x0::x7::MV P::x0::Jy::NC::Mu::x0::x1::Km::GP::EH::Nn::CP P::Db::Ef::Ek::NP::Mx::x0::x1::NN::x0::Kv::EV::Fk::[])) (.mk [] [] [] 0 [] [] false #[] [] 0 false false false 0 [2000,10,10] false 0 true [] [] 0 false)
theorem Y3(w:World)(os:OsState):segRun treeTable PySem.Challenge.pw_pebbletoll_k64_rows_refused w 11 (some (.ref 6)) 1 1970 (Shared.mk (h0 w.params) (.mk []) (.mk 0 0 0 0) 344 os) (piecesOf st1 env cE (.mk 18 0 22 20) [topFrame (.mk 0 0 0 0)])=some (.next,(Shared.mk (h1 w.params) (.mk []) (.mk 0 0 0 0) 802 os),cE,(.mk 226 0 229 77)):=by kernel_rfl
def YL(P:Params):Obj:=(.mk (.type "dict") none (.dict #[(en P "__name__" 165 (.str "pebbletoll.desk" 1144)),(en P "__doc__" 166 .none),(en P "__package__" 167 .none),(en P "__loader__" 168 (.builtin "__main__.__loader__#opaque")),(en P "__spec__" 169 .none),(en P "__annotations__" 170 (.ref 6)),(en P "__builtins__" 171 (.ref 4)),(en P "__file__" 173 (.str "/claim/cut.py" 172)),(en P "__cached__" 174 .none),(en P "TollError" 206 (.ref 24)),(en P "BadWeb" 222 (.ref 37)),(en P "NoPlace" 238 (.ref 49)),(en P "NoRoad" 254 (.ref 61)),(en P "BadLaying" 270 (.ref 73)),(en P "BadWish" 286 (.ref 85)),(en P "NoWorst" 302 (.ref 97)),(en P "NoDeed" 318 (.ref 109)),(en P "BadStep" 343 (.ref 128)),(en P "BadText" 368 (.ref 147)),(en P "MOST_PLACES" 372 (.int 24 371)),(en P "LEAST_TOLL" 374 (.int 2 373)),(en P "MOST_TOLL" 376 (.int 1000000 375)),(en P "Web" 404 (.ref 164)),(en P "toll" 417 (.ref 175)),(en P "neighbours" 425 (.ref 182)),(en P "check_place" 433 (.ref 189)),(en P "is_place" 441 (.ref 196)),(en P "check_counts" 449 (.ref 203)),(en P "check_ends" 457 (.ref 210)),(en P "check_tolls" 465 (.ref 217)),(en P "check_joined" 477 (.ref 224)),(en P "other_ends" 487 (.ref 231)),(en P "laying_of" 497 (.ref 238)),(en P "is_filled" 503 (.ref 243)),(en P "total" 510 (.ref 250)),(en P "pile" 519 (.ref 257)),(en P "put" 530 (.ref 264)),(en P "ahead" 545 (.ref 271)),(en P "down" 558 (.ref 278)),(en P "kids" 564 (.ref 283)),(en P "inward" 570 (.ref 288)),(en P "walked" 581 (.ref 295)),(en P "layings" 593 (.ref 302)),(en P "can_be_done" 602 (.ref 309)),(en P "is_step" 610 (.ref 316)),(en P "taken" 618 (.ref 323)),(en P "behind" 628 (.ref 330)),(en P "wish_of" 638 (.ref 337)),(en P "standings" 644 (.ref 342)),(en P "handed_on" 654 (.ref 349)),(en P "standing" 664 (.ref 356)),(en P "is_met" 673 (.ref 363)),(en P "meeting" 682 (.ref 370)),(en P "steps_in" 697 (.ref 377)),(en P "steps_out" 711 (.ref 384)),(en P "lacks_of" 717 (.ref 389)),(en P "needs" 731 (.ref 396)),(en P "always" 739 (.ref 403)),(en P "fails" 745 (.ref 408)),(en P "is_idle" 753 (.ref 415)),(en P "failing" 762 (.ref 422)),(en P "Outlook" 792 (.ref 437)),(en P "idle_load" 801 (.ref 448)),(en P "idle_kids" 812 (.ref 455)),(en P "added" 818 (.ref 460)),(en P "greatest_load" 831 (.ref 467)),(en P "load_by" 843 (.ref 474)),(en P "gathered" 857 (.ref 481)),(en P "most" 866 (.ref 488)),(en P "bring" 880 (.ref 495)),(en P "borne" 892 (.ref 502)),(en P "bound_by" 905 (.ref 509)),(en P "check_wanted" 914 (.ref 516)),(en P "least_weights" 925 (.ref 523)),(en P "enough" 934 (.ref 530)),(en P "worst" 940 (.ref 535)),(en P "bearers" 952 (.ref 542)),(en P "is_heavy" 962 (.ref 549)),(en P "hardest" 968 (.ref 554)),(en P "FIGURES" 972 (.str "0123456789" 971)),(en P "MOST_FIGURES" 974 (.int 60 973)),(en P "PIECE" 976 (.int 1000000000000000000 975)),(en P "PIECE_FIGURES" 978 (.int 18 977)),(en P "number_text" 986 (.ref 561)),(en P "numbers_text" 992 (.ref 566)),(en P "steps_text" 998 (.ref 571)),(en P "read_words" 1004 (.ref 576)),(en P "read_number" 1012 (.ref 583)),(en P "is_number" 1018 (.ref 588)),(en P "differences" 1026 (.ref 593)),(en P "value_at" 1038 (.ref 600)),(en P "first_values" 1044 (.ref 605)),(en P "parted" 1050 (.ref 610)),(en P "parted_at" 1056 (.ref 615)),(en P "worst_many" 1067 (.ref 622)),(en P "Tally" 1099 (.ref 637)),(en P "rests_of" 1105 (.ref 646)),(en P "is_free" 1114 (.ref 653)),(en P "ways_of" 1123 (.ref 660)),(en P "ways_given" 1133 (.ref 667)),(en P "held_for" 1143 (.ref 674)),(en P "DEEDS" 1150 (.ref 675))] 102) #[])
def Xb:Obj:=(.mk .none none (.fields (tF [(2,20),(4,33),(6,45),(8,57),(10,69),(12,81),(14,93),(16,105),(18,117),(23,136),(32,155),(43,174),(52,181),(55,188),(58,195),(60,202),(65,209),(70,216),(74,223),(85,230),(94,237),(98,242),(100,249),(102,256),(104,263),(110,270),(121,277),(131,282),(133,287),(137,294),(139,301),(146,308),(148,315),(150,322),(152,329),(158,336),(162,341),(169,348),(173,355),(175,362),(177,369),(181,376),(189,383),(196,388),(199,395),(204,402),(208,407),(213,414),(215,421),(217,428),(226,447),(230,454),(236,459),(238,466),(247,473),(252,480),(257,487),(259,494),(268,501),(270,508),(276,515),(280,522),(285,529),(287,534),(296,541),(303,548),(305,553),(314,560),(321,565),(323,570),(327,575),(331,582),(335,587),(340,592),(347,599),(354,604),(356,609),(358,614),(361,621),(364,628),(375,645),(387,652),(389,659),(391,666),(393,673)]).toArray) #[])
def Qo:Obj:=(tS 805 ["outlook","place","left_out","load","kid"])
def Sh:Obj:=(fr "idle_kids" (top 61))
def NF:Obj:=(cF "idle_kids" 802 230 3 3 449 810)
def JU:Obj:=(fo "idle_kids" (top 61) (.str "pebbletoll.always" 718) (.ref 454))
def SN:Obj:=(fr "added" (top 62))
def Kt:Obj:=(cO "added" "added" 813 814 815 236 2 0 0 3 (.ref 456) true 181 (.ref 457) .none .none .none (.ref 458) 816 236 817)
def M0:Obj:=(fo "added" (top 62) (.str "pebbletoll.always" 718) (.ref 459))
def QT:Obj:=(tS 822 ["outlook","place","over","room","best","kid","load"])
def Q9:Obj:=(fr "greatest_load" (top 63))
def KM:Obj:=(cF "greatest_load" 819 238 3 3 461 829)
def KJ:Obj:=(fo "greatest_load" (top 63) (.str "pebbletoll.always" 718) (.ref 466))
def Q6:Obj:=(tS 835 ["outlook","place","kid","room","given","over"])
def Sx:Obj:=(fr "load_by" (top 64))
def Kf:Obj:=(cF "load_by" 832 247 4 3 468 841)
def MZ:Obj:=(fo "load_by" (top 64) (.str "pebbletoll.always" 718) (.ref 473))
def QS:Obj:=(tS 849 ["web","laying","r","counts","place","front"])
def QL:Obj:=(fr "gathered" (top 66))
def Kk:Obj:=(cF "gathered" 846 252 3 3 475 855)
def MH:Obj:=(fo "gathered" (top 66) (.str "pebbletoll.bringing" 844) (.ref 480))
def Rt:Obj:=(tS 861 ["web","laying","r"])
def Qs:Obj:=(fr "most" (top 67))
def Mj:Obj:=(cF "most" 858 257 3 3 482 864)
def KB:Obj:=(fo "most" (top 67) (.str "pebbletoll.bringing" 844) (.ref 487))
def QM:Obj:=(tS 870 ["web","laying","r","counts","steps","place","front","times"])
def Rm:Obj:=(fr "bring" (top 68))
def KY:Obj:=(cF "bring" 867 259 3 3 489 878)
def Jv:Obj:=(fo "bring" (top 68) (.str "pebbletoll.bringing" 844) (.ref 494))
def Qd:Obj:=(tS 886 ["web","weights","place","front"])
def RJ:Obj:=(fr "borne" (top 70))
def JG:Obj:=(cF "borne" 883 268 4 3 496 890)
def Ln:Obj:=(fo "borne" (top 70) (.str "pebbletoll.enough" 881) (.ref 501))
def Rf:Obj:=(tS 896 ["web","r","wanted","weights","bound","place","front"])
def R5:Obj:=(fr "bound_by" (top 71))
def NL:Obj:=(cF "bound_by" 893 270 4 3 503 903)
def Nf:Obj:=(fo "bound_by" (top 71) (.str "pebbletoll.enough" 881) (.ref 508))
def Qn:Obj:=(tS 909 ["web","r","wanted"])
def SU:Obj:=(fr "check_wanted" (top 72))
def KN:Obj:=(cF "check_wanted" 906 276 3 3 510 912)
def Kl:Obj:=(fo "check_wanted" (top 72) (.str "pebbletoll.enough" 881) (.ref 515))
def SG:Obj:=(tS 918 ["web","r","weights","place","front"])
def Rg:Obj:=(fr "least_weights" (top 73))
def J7:Obj:=(cF "least_weights" 915 280 2 3 517 923)
def NK:Obj:=(fo "least_weights" (top 73) (.str "pebbletoll.enough" 881) (.ref 522))
def S8:Obj:=(tS 929 ["web","r","wanted"])
def Sy:Obj:=(fr "enough" (top 74))
def Mr:Obj:=(cF "enough" 926 285 3 3 524 932)
def Ky:Obj:=(fo "enough" (top 74) (.str "pebbletoll.enough" 881) (.ref 529))
def RG:Obj:=(fr "worst" (top 75))
def Ji:Obj:=(cO "worst" "worst" 935 936 937 287 3 0 0 3 (.ref 531) true 181 (.ref 532) .none .none .none (.ref 533) 938 287 939)
def J5:Obj:=(fo "worst" (top 75) (.str "pebbletoll.enough" 881) (.ref 534))
def So:Obj:=(tS 944 ["web","r","weights","chosen","place","front"])
def Sk:Obj:=(fr "bearers" (top 76))
def Ms:Obj:=(cF "bearers" 941 296 2 3 536 950)
def Jk:Obj:=(fo "bearers" (top 76) (.str "pebbletoll.enough" 881) (.ref 541))
def Td:Obj:=(tS 956 ["web","weights","place","front"])
def QW:Obj:=(fr "is_heavy" (top 77))
def Jr:Obj:=(cF "is_heavy" 953 303 4 3 543 960)
def Mn:Obj:=(fo "is_heavy" (top 77) (.str "pebbletoll.enough" 881) (.ref 548))
def Ro:Obj:=(fr "hardest" (top 78))
def Oa:Obj:=(cO "hardest" "hardest" 963 964 965 305 2 0 0 3 (.ref 550) true 181 (.ref 551) .none .none .none (.ref 552) 966 305 967)
def MG:Obj:=(fo "hardest" (top 78) (.str "pebbletoll.enough" 881) (.ref 553))
def QE:Obj:=(tS 982 ["number","pieces"])
def Qj:Obj:=(fr "number_text" (top 84))
def LK:Obj:=(cF "number_text" 979 314 1 3 555 984)
def MD:Obj:=(fo "number_text" (top 84) (.str "pebbletoll.texts" 969) (.ref 560))
def Sz:Obj:=(fr "numbers_text" (top 85))
def JC:Obj:=(cO "numbers_text" "numbers_text" 987 988 989 321 1 0 0 3 (.ref 562) true 181 (.ref 563) .none .none .none (.ref 564) 990 321 991)
def MA:Obj:=(fo "numbers_text" (top 85) (.str "pebbletoll.texts" 969) (.ref 565))
def Tf:Obj:=(fr "steps_text" (top 86))
def J6:Obj:=(cO "steps_text" "steps_text" 993 994 995 323 1 0 0 3 (.ref 567) true 181 (.ref 568) .none .none .none (.ref 569) 996 323 997)
def MQ:Obj:=(fo "steps_text" (top 86) (.str "pebbletoll.texts" 969) (.ref 570))
def RE:Obj:=(fr "read_words" (top 87))
def Lu:Obj:=(cO "read_words" "read_words" 999 1000 1001 327 3 0 0 3 (.ref 572) true 181 (.ref 573) .none .none .none (.ref 574) 1002 327 1003)
def Lj:Obj:=(fo "read_words" (top 87) (.str "pebbletoll.texts" 969) (.ref 575))
def RO:Obj:=(tS 1008 ["word","at"])
def Q7:Obj:=(fr "read_number" (top 88))
def La:Obj:=(cF "read_number" 1005 331 2 3 577 1010)
def L9:Obj:=(fo "read_number" (top 88) (.str "pebbletoll.texts" 969) (.ref 582))
def Rs:Obj:=(fr "is_number" (top 89))
def LH:Obj:=(cO "is_number" "is_number" 1013 1014 1015 335 1 0 0 3 (.ref 584) true 181 (.ref 585) .none .none .none (.ref 586) 1016 335 1017)
def Ks:Obj:=(fo "is_number" (top 89) (.str "pebbletoll.texts" 969) (.ref 587))
def SZ:Obj:=(fr "differences" (top 91))
def NQ:Obj:=(cO "differences" "differences" 1021 1022 1023 340 1 0 0 3 (.ref 589) true 181 (.ref 590) .none .none .none (.ref 591) 1024 340 1025)
def Nu:Obj:=(fo "differences" (top 91) (.str "pebbletoll.polynomials" 1019) (.ref 592))
def RA:Obj:=(tS 1030 ["found","at","value","choices","k","difference"])
def SY:Obj:=(fr "value_at" (top 92))
def MI:Obj:=(cF "value_at" 1027 347 2 3 594 1036)
def Mv:Obj:=(fo "value_at" (top 92) (.str "pebbletoll.polynomials" 1019) (.ref 599))
def QO:Obj:=(fr "first_values" (top 93))
def MB:Obj:=(cO "first_values" "first_values" 1039 1040 1041 354 2 0 0 3 (.ref 601) true 181 (.ref 602) .none .none .none (.ref 603) 1042 354 1043)
def Lr:Obj:=(fo "first_values" (top 93) (.str "pebbletoll.polynomials" 1019) (.ref 604))
def QB:Obj:=(fr "parted" (top 94))
def JR:Obj:=(cO "parted" "parted" 1045 1046 1047 356 2 0 0 3 (.ref 606) true 181 (.ref 607) .none .none .none (.ref 608) 1048 356 1049)
def Kc:Obj:=(fo "parted" (top 94) (.str "pebbletoll.polynomials" 1019) (.ref 609))
def Tc:Obj:=(fr "parted_at" (top 95))
def LR:Obj:=(cO "parted_at" "parted_at" 1051 1052 1053 358 3 0 0 3 (.ref 611) true 181 (.ref 612) .none .none .none (.ref 613) 1054 358 1055)
def MY:Obj:=(fo "parted_at" (top 95) (.str "pebbletoll.polynomials" 1019) (.ref 614))
def Sl:Obj:=(tS 1062 ["web","r","wanted"])
def Qk:Obj:=(fr "worst_many" (top 97))
def MT:Obj:=(cF "worst_many" 1059 361 3 3 616 1065)
def LW:Obj:=(fo "worst_many" (top 97) (.str "pebbletoll.worsts" 1057) (.ref 621))
def R4(P:Params):Obj:=(.mk (.type "dict") none (.dict #[(en P "__module__" 1075 (.str "pebbletoll.worsts" 1057)),(en P "__qualname__" 1077 (.str "Tally" 1076)),(en P "__firstlineno__" 1079 (.int 364 1078)),(en P "__init__" 1085 (.ref 634)),(en P "__static_attributes__" 1092 (.ref 635))] 5) #[])
def Q2:Obj:=(.mk .none none (.fields #[(.int 366 0),(.int 4 0),(.ref 633)]) #[])
def Q4:Obj:=(cO "Tally" "Tally" 1070 1071 1072 364 0 0 0 0 (.ref 626) false 181 (.ref 627) .none .none .none .none 1073 364 1074)
def QI:Obj:=(.mk (.type "frame") none .plain #[(some (.ref 628)),(some (.ref 3)),(some (.ref 625)),none,(some (.str "pebbletoll.worsts" 1057)),none,(some (.ref 0))])
def SR:Obj:=(fR "__init__" "Tally.__init__" (Zb (top 98) 0))
def JT:Obj:=(cO "__init__" "Tally.__init__" 1080 1081 1082 366 3 0 0 3 (.ref 630) true 181 (.ref 631) .none .none .none (.ref 632) 1083 366 1084)
def MW:Obj:=(fO "__init__" "Tally.__init__" (Zb (top 98) 0) (.str "pebbletoll.worsts" 1057) (.ref 633))
def SH:Obj:=(tS 1086 ["bearers","down","kids","rests","web","weights"])
def Kz(P:Params):Obj:=(.mk (.type "dict") none (.dict #[(en P "__module__" 1075 (.str "pebbletoll.worsts" 1057)),(en P "__firstlineno__" 1079 (.int 364 1078)),(en P "__init__" 1085 (.ref 634)),(en P "__static_attributes__" 1092 (.ref 635)),(en P "__dict__" 1094 (.ref 638)),(en P "__weakref__" 1096 (.ref 639)),(en P "__doc__" 1097 .none)] 4) #[])
def My:Obj:=(.mk (.type "type") none (.cls (.mk "Tally" [(.type "object")] [(.ref 637),(.type "object")] 636 "Tally" true [] [] false none false)) #[none,none,(some (.str "Tally" 1068)),(some (.str "Tally" 1076)),(some (.builtin "object.__new__")),(some (.bool true))])
def Jx:Obj:=(.mk (.type "getset_descriptor") none (.fields #[(.str "__dict__" 1093),(.ref 637),(.builtin "function.__dict__"),(.builtin "function.__dict__#set")]) #[])
def MR:Obj:=(.mk (.type "getset_descriptor") none (.fields #[(.str "__weakref__" 1095),(.ref 637),(.builtin "ExceptionGroup.__weakref__"),.none]) #[])
def RI:Obj:=(.mk (.type "super") none (.fields #[(.ref 637),(.ref 637),(.ref 637)]) #[])
def RZ:Obj:=(.mk (.type "builtin_function_or_method") none (.fields #[(.builtin "object.__init_subclass__"),(.ref 637)]) #[])
def RC:Obj:=(fr "rests_of" (top 99))
def L7:Obj:=(cO "rests_of" "rests_of" 1100 1101 1102 375 2 0 0 3 (.ref 642) true 181 (.ref 643) .none .none .none (.ref 644) 1103 375 1104)
def Kx:Obj:=(fo "rests_of" (top 99) (.str "pebbletoll.worsts" 1057) (.ref 645))
def Sd:Obj:=(tS 1109 ["tally","place","kid"])
def RS:Obj:=(fr "is_free" (top 100))
def NV:Obj:=(cF "is_free" 1106 387 3 3 647 1112)
def Np:Obj:=(fo "is_free" (top 100) (.str "pebbletoll.worsts" 1057) (.ref 652))
def Sv:Obj:=(tS 1118 ["tally","place","held"])
def Ry:Obj:=(fr "ways_of" (top 101))
def Jq:Obj:=(cF "ways_of" 1115 389 3 3 654 1121)
def Mq:Obj:=(fo "ways_of" (top 101) (.str "pebbletoll.worsts" 1057) (.ref 659))
def Rn:Obj:=(tS 1127 ["tally","place","kid","given"])
def Ti:Obj:=(fr "ways_given" (top 102))
def M7:Obj:=(cF "ways_given" 1124 391 4 3 661 1131)
def Ma:Obj:=(fo "ways_given" (top 102) (.str "pebbletoll.worsts" 1057) (.ref 666))
def Qh:Obj:=(tS 1137 ["tally","place","kid","given"])
def SO:Obj:=(fr "held_for" (top 103))
def MX:Obj:=(cF "held_for" 1134 393 4 3 668 1141)
def Md:Obj:=(fo "held_for" (top 103) (.str "pebbletoll.worsts" 1057) (.ref 673))
def LJ:Obj:=(tS 1146 ["put","want","step","back"])
noncomputable def h2(P:Params):Heap:=.mk (.mk (boot_o_0 P::boot_o_1 P::boot_o_2 P::YL P::boot_o_4 P::boot_o_5 P::boot_o_6 P::boot_o_7 P::boot_o_8 P::boot_o_9 P::boot_o_10 P::x0::Xb::x2::x3::x6::x7::x8 P::x0::x1::x9::x10::x0::x11 P::x81::x13::x14::x15::ϩ::x7::x17 P::x0::x1::x18::x19::x0::x20 P::x21::x22::x23::ϩ::x7::x24 P::x0::x1::x25::x26::x0::x27 P::x28::x29::x30::ϩ::x7::x31 P::x0::x1::x32::x33::x0::x34 P::x35::x36::x37::ϩ::x7::x38 P::x0::x1::x39::x40::x0::x41 P::x42::x43::x44::ϩ::x7::x45 P::x0::x1::x46::x47::x0::x48 P::x49::x50::x51::ϩ::x7::x52 P::x0::x1::x53::x54::x0::x55 P::x56::x57::x58::ϩ::x7::x59 P::x0::x1::x60::x61::x0::x62 P::x63::x64::x65::ϩ::x7::x66 P::x0::x67::x68::x69::x0::x1::x70::x0::x71::x72::x73::x74::x75 P::x76::x77::x78::ϩ::x7::x82 P::x0::x83::x84::x85::x0::x1::x86::x0::x87::x88::x89::x90::x91 P::x92::x93::x94::x0::x7::x95 P::x0::x96::x97::x98::x0::x1::x99::FK::GA::MN::DN P::FX::FZ::CV::MP::Lb::x0::x1::JA::x0::LL::DQ::Dg::x0::x1::NR::x0::JN::Fn::DJ::x0::x1::Kj::x0::Lo::Dc::Fh::x0::x1::KQ::x0::NH::GX::F1::x0::x1::Ls::x0::LB::DD::Dw::x0::x1::Ke::x0::Nk::F2::Dp::x0::x1::JV::x0::LA::Gk::Fd::x0::x1::Mf::x0::Nx::Ds::FR::x0::x1::LG::x0::LX::ER::FC::x0::x1::Lp::x0::MF::E2::F5::x0::x1::NB::CZ::Fp::x0::x1::J9::x0::Lv::FL::GW::x0::x1::LP::x0::Js::FE::Gf::x0::x1::Ll::x0::Kn::D1::Ep::x0::x1::Lf::x0::KW::Dn::Ei::x0::x1::Kp::x0::Lk::EA::DI::x0::x1::NO::GM::Fv::x0::x1::Kh::Ed::Du::x0::x1::JP::x0::MO::Eh::FQ::x0::x1::Ml::x0::Nh::Gi::Fi::x0::x1::JY::x0::Nw::FO::CS::x0::x1::KR::x0::Nl::ED::DP::x0::x1::Ku::x0::Jj::Eo::Fy::x0::x1::Nz::x0::KU::Dz::Fc::x0::x1::Mt::x0::Jp::GC::DW::x0::x1::Li::EF::Gv::x0::x1::KI::x0::LZ::Fo::DA::x0::x1::KL::x0::Kq::DF::Et::x0::x1::KO::x0::NG::Dl::D3::x0::x1::L8::x0::Mo::ET::Fz::x0::x1::NS::x0::Ka::FM::Ey::x0::x1::J8::x0::NA::Gb::DX::x0::x1::JS::Dk::Fu::x0::x1::LN::x0::Nr::Go::En::x0::x1::JJ::x0::JL::DV::GS::x0::x1::NZ::Dq::GY::x0::x1::MM::x0::Lg::D4::Gy::x0::x1::NJ::x0::Lh::EJ::DM::x0::x7::MV P::x0::Jy::NC::Mu::x0::x1::Km::GP::EH::Nn::CP P::Db::Ef::Ek::NP::Mx::x0::x1::NN::x0::Kv::EV::Fk::x0::x1::Qo::x0::Sh::NF::JU::x0::x1::SN::Kt::M0::x0::x1::QT::x0::Q9::KM::KJ::x0::x1::Q6::x0::Sx::Kf::MZ::x0::x1::QS::x0::QL::Kk::MH::x0::x1::Rt::x0::Qs::Mj::KB::x0::x1::QM::x0::Rm::KY::Jv::x0::x1::Qd::x0::RJ::JG::Ln::x0::x1::Rf::x0::R5::NL::Nf::x0::x1::Qn::x0::SU::KN::Kl::x0::x1::SG::x0::Rg::J7::NK::x0::x1::S8::x0::Sy::Mr::Ky::x0::x1::RG::Ji::J5::x0::x1::So::x0::Sk::Ms::Jk::x0::x1::Td::x0::QW::Jr::Mn::x0::x1::Ro::Oa::MG::x0::x1::QE::x0::Qj::LK::MD::x0::x1::Sz::JC::MA::x0::x1::Tf::J6::MQ::x0::x1::RE::Lu::Lj::x0::x1::RO::x0::Q7::La::L9::x0::x1::Rs::LH::Ks::x0::x1::SZ::NQ::Nu::x0::x1::RA::x0::SY::MI::Mv::x0::x1::QO::MB::Lr::x0::x1::QB::JR::Kc::x0::x1::Tc::LR::MY::x0::x1::Sl::x0::Qk::MT::LW::x0::x7::R4 P::x0::Q2::Q4::QI::x0::x1::SR::JT::MW::SH::Kz P::My::Jx::MR::RI::RZ::x0::x1::RC::L7::Kx::x0::x1::Sd::x0::RS::NV::Np::x0::x1::Sv::x0::Ry::Jq::Mq::x0::x1::Rn::x0::Ti::M7::Ma::x0::x1::Qh::x0::SO::MX::Md::LJ::[])) (.mk [] [] [] 0 [] [] false #[] [] 0 false false false 0 [2000,10,10] false 0 true [] [] 0 false)
theorem Yo(w:World)(os:OsState):segRun treeTable PySem.Challenge.pw_pebbletoll_k64_rows_refused w 11 (some (.ref 6)) 1 1322 (Shared.mk (h1 w.params) (.mk []) (.mk 0 0 0 0) 802 os) (piecesOf st2 env cE (.mk 226 0 229 77) [topFrame (.mk 0 0 0 0)])=some (.next,(Shared.mk (h2 w.params) (.mk []) (.mk 0 0 0 0) 1151 os),cE,(.mk 396 0 396 5)):=by kernel_rfl
def YR(P:Params):Obj:=(.mk (.type "dict") none (.dict #[(en P "__name__" 165 (.str "pebbletoll.desk" 1144)),(en P "__doc__" 166 .none),(en P "__package__" 167 .none),(en P "__loader__" 168 (.builtin "__main__.__loader__#opaque")),(en P "__spec__" 169 .none),(en P "__annotations__" 170 (.ref 6)),(en P "__builtins__" 171 (.ref 4)),(en P "__file__" 173 (.str "/claim/cut.py" 172)),(en P "__cached__" 174 .none),(en P "TollError" 206 (.ref 24)),(en P "BadWeb" 222 (.ref 37)),(en P "NoPlace" 238 (.ref 49)),(en P "NoRoad" 254 (.ref 61)),(en P "BadLaying" 270 (.ref 73)),(en P "BadWish" 286 (.ref 85)),(en P "NoWorst" 302 (.ref 97)),(en P "NoDeed" 318 (.ref 109)),(en P "BadStep" 343 (.ref 128)),(en P "BadText" 368 (.ref 147)),(en P "MOST_PLACES" 372 (.int 24 371)),(en P "LEAST_TOLL" 374 (.int 2 373)),(en P "MOST_TOLL" 376 (.int 1000000 375)),(en P "Web" 404 (.ref 164)),(en P "toll" 417 (.ref 175)),(en P "neighbours" 425 (.ref 182)),(en P "check_place" 433 (.ref 189)),(en P "is_place" 441 (.ref 196)),(en P "check_counts" 449 (.ref 203)),(en P "check_ends" 457 (.ref 210)),(en P "check_tolls" 465 (.ref 217)),(en P "check_joined" 477 (.ref 224)),(en P "other_ends" 487 (.ref 231)),(en P "laying_of" 497 (.ref 238)),(en P "is_filled" 503 (.ref 243)),(en P "total" 510 (.ref 250)),(en P "pile" 519 (.ref 257)),(en P "put" 530 (.ref 264)),(en P "ahead" 545 (.ref 271)),(en P "down" 558 (.ref 278)),(en P "kids" 564 (.ref 283)),(en P "inward" 570 (.ref 288)),(en P "walked" 581 (.ref 295)),(en P "layings" 593 (.ref 302)),(en P "can_be_done" 602 (.ref 309)),(en P "is_step" 610 (.ref 316)),(en P "taken" 618 (.ref 323)),(en P "behind" 628 (.ref 330)),(en P "wish_of" 638 (.ref 337)),(en P "standings" 644 (.ref 342)),(en P "handed_on" 654 (.ref 349)),(en P "standing" 664 (.ref 356)),(en P "is_met" 673 (.ref 363)),(en P "meeting" 682 (.ref 370)),(en P "steps_in" 697 (.ref 377)),(en P "steps_out" 711 (.ref 384)),(en P "lacks_of" 717 (.ref 389)),(en P "needs" 731 (.ref 396)),(en P "always" 739 (.ref 403)),(en P "fails" 745 (.ref 408)),(en P "is_idle" 753 (.ref 415)),(en P "failing" 762 (.ref 422)),(en P "Outlook" 792 (.ref 437)),(en P "idle_load" 801 (.ref 448)),(en P "idle_kids" 812 (.ref 455)),(en P "added" 818 (.ref 460)),(en P "greatest_load" 831 (.ref 467)),(en P "load_by" 843 (.ref 474)),(en P "gathered" 857 (.ref 481)),(en P "most" 866 (.ref 488)),(en P "bring" 880 (.ref 495)),(en P "borne" 892 (.ref 502)),(en P "bound_by" 905 (.ref 509)),(en P "check_wanted" 914 (.ref 516)),(en P "least_weights" 925 (.ref 523)),(en P "enough" 934 (.ref 530)),(en P "worst" 940 (.ref 535)),(en P "bearers" 952 (.ref 542)),(en P "is_heavy" 962 (.ref 549)),(en P "hardest" 968 (.ref 554)),(en P "FIGURES" 972 (.str "0123456789" 971)),(en P "MOST_FIGURES" 974 (.int 60 973)),(en P "PIECE" 976 (.int 1000000000000000000 975)),(en P "PIECE_FIGURES" 978 (.int 18 977)),(en P "number_text" 986 (.ref 561)),(en P "numbers_text" 992 (.ref 566)),(en P "steps_text" 998 (.ref 571)),(en P "read_words" 1004 (.ref 576)),(en P "read_number" 1012 (.ref 583)),(en P "is_number" 1018 (.ref 588)),(en P "differences" 1026 (.ref 593)),(en P "value_at" 1038 (.ref 600)),(en P "first_values" 1044 (.ref 605)),(en P "parted" 1050 (.ref 610)),(en P "parted_at" 1056 (.ref 615)),(en P "worst_many" 1067 (.ref 622)),(en P "Tally" 1099 (.ref 637)),(en P "rests_of" 1105 (.ref 646)),(en P "is_free" 1114 (.ref 653)),(en P "ways_of" 1123 (.ref 660)),(en P "ways_given" 1133 (.ref 667)),(en P "held_for" 1143 (.ref 674)),(en P "DEEDS" 1150 (.ref 675)),(en P "NUMBERS_BEHIND" 1199 (.ref 676))] 103) #[])
def QD(P:Params):Obj:=(.mk (.type "dict") none (.dict #[(en P "put" 1151 (.int 2 1152)),(en P "want" 1154 (.int 2 1155)),(en P "step" 1157 (.int 3 1158)),(en P "back" 1160 (.int 0 1161)),(en P "laying" 1163 (.int 0 1164)),(en P "wish" 1166 (.int 0 1167)),(en P "most" 1169 (.int 1 1170)),(en P "bring" 1172 (.int 1 1173)),(en P "stands" 1175 (.int 1 1176)),(en P "meet" 1178 (.int 0 1179)),(en P "enough" 1181 (.int 2 1182)),(en P "hardest" 1184 (.int 1 1185)),(en P "worst" 1187 (.int 2 1188)),(en P "many" 1190 (.int 2 1191)),(en P "always" 1193 (.int 0 1194)),(en P "fails" 1196 (.int 0 1197))] 16) #[])
noncomputable def h3(P:Params):Heap:=.mk (.mk (boot_o_0 P::boot_o_1 P::boot_o_2 P::YR P::boot_o_4 P::boot_o_5 P::boot_o_6 P::boot_o_7 P::boot_o_8 P::boot_o_9 P::boot_o_10 P::x0::Xb::x2::x3::x6::x7::x8 P::x0::x1::x9::x10::x0::x11 P::x81::x13::x14::x15::ϩ::x7::x17 P::x0::x1::x18::x19::x0::x20 P::x21::x22::x23::ϩ::x7::x24 P::x0::x1::x25::x26::x0::x27 P::x28::x29::x30::ϩ::x7::x31 P::x0::x1::x32::x33::x0::x34 P::x35::x36::x37::ϩ::x7::x38 P::x0::x1::x39::x40::x0::x41 P::x42::x43::x44::ϩ::x7::x45 P::x0::x1::x46::x47::x0::x48 P::x49::x50::x51::ϩ::x7::x52 P::x0::x1::x53::x54::x0::x55 P::x56::x57::x58::ϩ::x7::x59 P::x0::x1::x60::x61::x0::x62 P::x63::x64::x65::ϩ::x7::x66 P::x0::x67::x68::x69::x0::x1::x70::x0::x71::x72::x73::x74::x75 P::x76::x77::x78::ϩ::x7::x82 P::x0::x83::x84::x85::x0::x1::x86::x0::x87::x88::x89::x90::x91 P::x92::x93::x94::x0::x7::x95 P::x0::x96::x97::x98::x0::x1::x99::FK::GA::MN::DN P::FX::FZ::CV::MP::Lb::x0::x1::JA::x0::LL::DQ::Dg::x0::x1::NR::x0::JN::Fn::DJ::x0::x1::Kj::x0::Lo::Dc::Fh::x0::x1::KQ::x0::NH::GX::F1::x0::x1::Ls::x0::LB::DD::Dw::x0::x1::Ke::x0::Nk::F2::Dp::x0::x1::JV::x0::LA::Gk::Fd::x0::x1::Mf::x0::Nx::Ds::FR::x0::x1::LG::x0::LX::ER::FC::x0::x1::Lp::x0::MF::E2::F5::x0::x1::NB::CZ::Fp::x0::x1::J9::x0::Lv::FL::GW::x0::x1::LP::x0::Js::FE::Gf::x0::x1::Ll::x0::Kn::D1::Ep::x0::x1::Lf::x0::KW::Dn::Ei::x0::x1::Kp::x0::Lk::EA::DI::x0::x1::NO::GM::Fv::x0::x1::Kh::Ed::Du::x0::x1::JP::x0::MO::Eh::FQ::x0::x1::Ml::x0::Nh::Gi::Fi::x0::x1::JY::x0::Nw::FO::CS::x0::x1::KR::x0::Nl::ED::DP::x0::x1::Ku::x0::Jj::Eo::Fy::x0::x1::Nz::x0::KU::Dz::Fc::x0::x1::Mt::x0::Jp::GC::DW::x0::x1::Li::EF::Gv::x0::x1::KI::x0::LZ::Fo::DA::x0::x1::KL::x0::Kq::DF::Et::x0::x1::KO::x0::NG::Dl::D3::x0::x1::L8::x0::Mo::ET::Fz::x0::x1::NS::x0::Ka::FM::Ey::x0::x1::J8::x0::NA::Gb::DX::x0::x1::JS::Dk::Fu::x0::x1::LN::x0::Nr::Go::En::x0::x1::JJ::x0::JL::DV::GS::x0::x1::NZ::Dq::GY::x0::x1::MM::x0::Lg::D4::Gy::x0::x1::NJ::x0::Lh::EJ::DM::x0::x7::MV P::x0::Jy::NC::Mu::x0::x1::Km::GP::EH::Nn::CP P::Db::Ef::Ek::NP::Mx::x0::x1::NN::x0::Kv::EV::Fk::x0::x1::Qo::x0::Sh::NF::JU::x0::x1::SN::Kt::M0::x0::x1::QT::x0::Q9::KM::KJ::x0::x1::Q6::x0::Sx::Kf::MZ::x0::x1::QS::x0::QL::Kk::MH::x0::x1::Rt::x0::Qs::Mj::KB::x0::x1::QM::x0::Rm::KY::Jv::x0::x1::Qd::x0::RJ::JG::Ln::x0::x1::Rf::x0::R5::NL::Nf::x0::x1::Qn::x0::SU::KN::Kl::x0::x1::SG::x0::Rg::J7::NK::x0::x1::S8::x0::Sy::Mr::Ky::x0::x1::RG::Ji::J5::x0::x1::So::x0::Sk::Ms::Jk::x0::x1::Td::x0::QW::Jr::Mn::x0::x1::Ro::Oa::MG::x0::x1::QE::x0::Qj::LK::MD::x0::x1::Sz::JC::MA::x0::x1::Tf::J6::MQ::x0::x1::RE::Lu::Lj::x0::x1::RO::x0::Q7::La::L9::x0::x1::Rs::LH::Ks::x0::x1::SZ::NQ::Nu::x0::x1::RA::x0::SY::MI::Mv::x0::x1::QO::MB::Lr::x0::x1::QB::JR::Kc::x0::x1::Tc::LR::MY::x0::x1::Sl::x0::Qk::MT::LW::x0::x7::R4 P::x0::Q2::Q4::QI::x0::x1::SR::JT::MW::SH::Kz P::My::Jx::MR::RI::RZ::x0::x1::RC::L7::Kx::x0::x1::Sd::x0::RS::NV::Np::x0::x1::Sv::x0::Ry::Jq::Mq::x0::x1::Rn::x0::Ti::M7::Ma::x0::x1::Qh::x0::SO::MX::Md::LJ::QD P::[])) (.mk [] [] [] 0 [] [] false #[] [] 0 false false false 0 [2000,10,10] false 0 true [] [] 0 false)
theorem Y0(w:World)(os:OsState):segRun treeTable PySem.Challenge.pw_pebbletoll_k64_rows_refused w 11 (some (.ref 6)) 1 252 (Shared.mk (h2 w.params) (.mk []) (.mk 0 0 0 0) 1151 os) (piecesOf st3 env cE (.mk 396 0 396 5) [topFrame (.mk 0 0 0 0)])=some (.next,(Shared.mk (h3 w.params) (.mk []) (.mk 0 0 0 0) 1200 os),cE,(.mk 397 0 397 14)):=by
 have a:∀(b:Bool)(v:World),v=w.withFollow "special-get-raises" b->(segRun treeTable PySem.Challenge.pw_pebbletoll_k64_rows_refused v 11 (some (.ref 6)) 1 252 (Shared.mk (h2 v.params) (.mk []) (.mk 0 0 0 0) 1151 os) (piecesOf st3 env cE (.mk 396 0 396 5) [topFrame (.mk 0 0 0 0)])=some (.next,(Shared.mk (h3 v.params) (.mk []) (.mk 0 0 0 0) 1200 os),cE,(.mk 397 0 397 14))):=λb v e=>by subst e;cases b<;>kernel_rfl
 exact a (w.params.followText "special-get-raises") w (World.withFollow_self w "special-get-raises").symm
def V3(P:Params):Obj:=(.mk (.type "dict") none (.dict #[(en P "__name__" 165 (.str "law_pebbletoll_k64_rows_refused" 1353)),(en P "__doc__" 166 .none),(en P "__package__" 167 .none),(en P "__loader__" 168 (.builtin "__main__.__loader__#opaque")),(en P "__spec__" 169 .none),(en P "__annotations__" 170 (.ref 6)),(en P "__builtins__" 171 (.ref 4)),(en P "__file__" 173 (.str "/claim/cut.py" 172)),(en P "__cached__" 174 .none),(en P "TollError" 206 (.ref 24)),(en P "BadWeb" 222 (.ref 37)),(en P "NoPlace" 238 (.ref 49)),(en P "NoRoad" 254 (.ref 61)),(en P "BadLaying" 270 (.ref 73)),(en P "BadWish" 286 (.ref 85)),(en P "NoWorst" 302 (.ref 97)),(en P "NoDeed" 318 (.ref 109)),(en P "BadStep" 343 (.ref 128)),(en P "BadText" 368 (.ref 147)),(en P "MOST_PLACES" 372 (.int 24 371)),(en P "LEAST_TOLL" 374 (.int 2 373)),(en P "MOST_TOLL" 376 (.int 1000000 375)),(en P "Web" 404 (.ref 164)),(en P "toll" 417 (.ref 175)),(en P "neighbours" 425 (.ref 182)),(en P "check_place" 433 (.ref 189)),(en P "is_place" 441 (.ref 196)),(en P "check_counts" 449 (.ref 203)),(en P "check_ends" 457 (.ref 210)),(en P "check_tolls" 465 (.ref 217)),(en P "check_joined" 477 (.ref 224)),(en P "other_ends" 487 (.ref 231)),(en P "laying_of" 497 (.ref 238)),(en P "is_filled" 503 (.ref 243)),(en P "total" 510 (.ref 250)),(en P "pile" 519 (.ref 257)),(en P "put" 530 (.ref 264)),(en P "ahead" 545 (.ref 271)),(en P "down" 558 (.ref 278)),(en P "kids" 564 (.ref 283)),(en P "inward" 570 (.ref 288)),(en P "walked" 581 (.ref 295)),(en P "layings" 593 (.ref 302)),(en P "can_be_done" 602 (.ref 309)),(en P "is_step" 610 (.ref 316)),(en P "taken" 618 (.ref 323)),(en P "behind" 628 (.ref 330)),(en P "wish_of" 638 (.ref 337)),(en P "standings" 644 (.ref 342)),(en P "handed_on" 654 (.ref 349)),(en P "standing" 664 (.ref 356)),(en P "is_met" 673 (.ref 363)),(en P "meeting" 682 (.ref 370)),(en P "steps_in" 697 (.ref 377)),(en P "steps_out" 711 (.ref 384)),(en P "lacks_of" 717 (.ref 389)),(en P "needs" 731 (.ref 396)),(en P "always" 739 (.ref 403)),(en P "fails" 745 (.ref 408)),(en P "is_idle" 753 (.ref 415)),(en P "failing" 762 (.ref 422)),(en P "Outlook" 792 (.ref 437)),(en P "idle_load" 801 (.ref 448)),(en P "idle_kids" 812 (.ref 455)),(en P "added" 818 (.ref 460)),(en P "greatest_load" 831 (.ref 467)),(en P "load_by" 843 (.ref 474)),(en P "gathered" 857 (.ref 481)),(en P "most" 866 (.ref 488)),(en P "bring" 880 (.ref 495)),(en P "borne" 892 (.ref 502)),(en P "bound_by" 905 (.ref 509)),(en P "check_wanted" 914 (.ref 516)),(en P "least_weights" 925 (.ref 523)),(en P "enough" 934 (.ref 530)),(en P "worst" 940 (.ref 535)),(en P "bearers" 952 (.ref 542)),(en P "is_heavy" 962 (.ref 549)),(en P "hardest" 968 (.ref 554)),(en P "FIGURES" 972 (.str "0123456789" 971)),(en P "MOST_FIGURES" 974 (.int 60 973)),(en P "PIECE" 976 (.int 1000000000000000000 975)),(en P "PIECE_FIGURES" 978 (.int 18 977)),(en P "number_text" 986 (.ref 561)),(en P "numbers_text" 992 (.ref 566)),(en P "steps_text" 998 (.ref 571)),(en P "read_words" 1004 (.ref 576)),(en P "read_number" 1012 (.ref 583)),(en P "is_number" 1018 (.ref 588)),(en P "differences" 1026 (.ref 593)),(en P "value_at" 1038 (.ref 600)),(en P "first_values" 1044 (.ref 605)),(en P "parted" 1050 (.ref 610)),(en P "parted_at" 1056 (.ref 615)),(en P "worst_many" 1067 (.ref 622)),(en P "Tally" 1099 (.ref 637)),(en P "rests_of" 1105 (.ref 646)),(en P "is_free" 1114 (.ref 653)),(en P "ways_of" 1123 (.ref 660)),(en P "ways_given" 1133 (.ref 667)),(en P "held_for" 1143 (.ref 674)),(en P "DEEDS" 1150 (.ref 675)),(en P "NUMBERS_BEHIND" 1199 (.ref 676)),(en P "Desk" 1301 (.ref 754)),(en P "answer_of" 1311 (.ref 765)),(en P "do_deed" 1320 (.ref 772)),(en P "told_of_desk" 1329 (.ref 779)),(en P "told_of_web" 1338 (.ref 786)),(en P "standing_text" 1345 (.ref 793)),(en P "meeting_text" 1352 (.ref 800)),(en P "_law_cell" 1362 (.ref 807)),(en P "_law_row" 1376 (.ref 814)),(en P "_law_tolls" 1385 (.ref 821)),(en P "_law_roads" 1403 (.ref 828)),(en P "_law_odd_row" 1418 (.ref 835)),(en P "_law_refused_row" 1429 (.ref 842)),(en P "law" 1445 (.ref 849))] 117) #[])
def Ys:Obj:=(.mk .none none (.fields (tF [(2,20),(4,33),(6,45),(8,57),(10,69),(12,81),(14,93),(16,105),(18,117),(23,136),(32,155),(43,174),(52,181),(55,188),(58,195),(60,202),(65,209),(70,216),(74,223),(85,230),(94,237),(98,242),(100,249),(102,256),(104,263),(110,270),(121,277),(131,282),(133,287),(137,294),(139,301),(146,308),(148,315),(150,322),(152,329),(158,336),(162,341),(169,348),(173,355),(175,362),(177,369),(181,376),(189,383),(196,388),(199,395),(204,402),(208,407),(213,414),(215,421),(217,428),(226,447),(230,454),(236,459),(238,466),(247,473),(252,480),(257,487),(259,494),(268,501),(270,508),(276,515),(280,522),(285,529),(287,534),(296,541),(303,548),(305,553),(314,560),(321,565),(323,570),(327,575),(331,582),(335,587),(340,592),(347,599),(354,604),(356,609),(358,614),(361,621),(364,628),(375,645),(387,652),(389,659),(391,666),(393,673),(398,682),(452,764),(461,771),(470,778),(488,785),(496,792),(500,799),(505,806),(509,813),(521,820),(530,827),(545,834),(567,841),(578,848)]).toArray) #[])
def XZ(P:Params):Obj:=(.mk (.type "dict") none (.dict #[(en P "__module__" 1207 (.str "pebbletoll.desk" 1144)),(en P "__qualname__" 1209 (.str "Desk" 1208)),(en P "__firstlineno__" 1211 (.int 398 1210)),(en P "__init__" 1220 (.ref 690)),(en P "put" 1226 (.ref 695)),(en P "want" 1236 (.ref 702)),(en P "step" 1246 (.ref 709)),(en P "keep" 1255 (.ref 716)),(en P "back" 1262 (.ref 723)),(en P "laying" 1269 (.ref 730)),(en P "wish" 1276 (.ref 737)),(en P "deeds" 1283 (.ref 744)),(en P "answer" 1291 (.ref 751)),(en P "__static_attributes__" 1294 (.ref 752))] 14) #[])
def X4:Obj:=(.mk .none none (.fields #[(.int 400 0),(.int 4 0),(.ref 689),(.int 405 0),(.int 4 0),(.ref 694),(.int 409 0),(.int 4 0),(.ref 701),(.int 415 0),(.int 4 0),(.ref 708),(.int 418 0),(.int 4 0),(.ref 715),(.int 421 0),(.int 4 0),(.ref 722),(.int 426 0),(.int 4 0),(.ref 729),(.int 429 0),(.int 4 0),(.ref 736),(.int 432 0),(.int 4 0),(.ref 743),(.int 435 0),(.int 4 0),(.ref 750)]) #[])
def YC:Obj:=(cO "Desk" "Desk" 1202 1203 1204 398 0 0 0 0 (.ref 680) false 181 (.ref 681) .none .none .none .none 1205 398 1206)
def Yn:Obj:=(.mk (.type "frame") none .plain #[(some (.ref 682)),(some (.ref 3)),(some (.ref 679)),none,(some (.str "pebbletoll.desk" 1144)),none,(some (.ref 0))])
def Yi:Obj:=(tS 1215 ["self","web","noughts"])
def X8:Obj:=(fR "__init__" "Desk.__init__" (Zb (top 107) 0))
def WJ:Obj:=(cO "__init__" "Desk.__init__" 1212 1213 1214 400 2 0 0 3 (.ref 684) true 181 (.ref 685) .none (.ref 686) (.ref 687) (.ref 688) 1218 400 1219)
def VR:Obj:=(fO "__init__" "Desk.__init__" (Zb (top 107) 0) (.str "pebbletoll.desk" 1144) (.ref 689))
def X5:Obj:=(fR "put" "Desk.put" (Zb (top 107) 1))
def VI:Obj:=(cO "put" "Desk.put" 1221 1222 1223 405 3 0 0 3 (.ref 691) true 181 (.ref 692) .none .none .none (.ref 693) 1224 405 1225)
def WD:Obj:=(fO "put" "Desk.put" (Zb (top 107) 1) (.str "pebbletoll.desk" 1144) (.ref 694))
def YX:Obj:=(tS 1230 ["self","place","many","wanted"])
def X2:Obj:=(fR "want" "Desk.want" (Zb (top 107) 2))
def V7:Obj:=(cO "want" "Desk.want" 1227 1228 1229 409 3 0 0 3 (.ref 696) true 181 (.ref 697) .none (.ref 698) (.ref 699) (.ref 700) 1234 409 1235)
def Wv:Obj:=(fO "want" "Desk.want" (Zb (top 107) 2) (.str "pebbletoll.desk" 1144) (.ref 701))
def Yk:Obj:=(tS 1240 ["self","a","b","times"])
def YA:Obj:=(fR "step" "Desk.step" (Zb (top 107) 3))
def V8:Obj:=(cO "step" "Desk.step" 1237 1238 1239 415 4 0 0 3 (.ref 703) true 181 (.ref 704) .none (.ref 705) (.ref 706) (.ref 707) 1244 415 1245)
def WV:Obj:=(fO "step" "Desk.step" (Zb (top 107) 3) (.str "pebbletoll.desk" 1144) (.ref 708))
def Yp:Obj:=(tS 1250 ["self","laying","wish"])
def X7:Obj:=(fR "keep" "Desk.keep" (Zb (top 107) 4))
def Vs:Obj:=(cO "keep" "Desk.keep" 1247 1248 1249 418 3 0 0 3 (.ref 710) true 181 (.ref 711) .none (.ref 712) (.ref 713) (.ref 714) 1253 418 1254)
def WK:Obj:=(fO "keep" "Desk.keep" (Zb (top 107) 4) (.str "pebbletoll.desk" 1144) (.ref 715))
def Yv:Obj:=(tO #[(.str "self" 1259)])
def X6:Obj:=(fR "back" "Desk.back" (Zb (top 107) 5))
def Wy:Obj:=(cO "back" "Desk.back" 1256 1257 1258 421 1 0 0 3 (.ref 717) true 181 (.ref 718) .none (.ref 719) (.ref 720) (.ref 721) 1260 421 1261)
def Vp:Obj:=(fO "back" "Desk.back" (Zb (top 107) 5) (.str "pebbletoll.desk" 1144) (.ref 722))
def XU:Obj:=(tO #[(.str "self" 1266)])
def YT:Obj:=(fR "laying" "Desk.laying" (Zb (top 107) 6))
def Vj:Obj:=(cO "laying" "Desk.laying" 1263 1264 1265 426 1 0 0 3 (.ref 724) true 181 (.ref 725) .none (.ref 726) (.ref 727) (.ref 728) 1267 426 1268)
def Wi:Obj:=(fO "laying" "Desk.laying" (Zb (top 107) 6) (.str "pebbletoll.desk" 1144) (.ref 729))
def Yw:Obj:=(tO #[(.str "self" 1273)])
def XY:Obj:=(fR "wish" "Desk.wish" (Zb (top 107) 7))
def Vo:Obj:=(cO "wish" "Desk.wish" 1270 1271 1272 429 1 0 0 3 (.ref 731) true 181 (.ref 732) .none (.ref 733) (.ref 734) (.ref 735) 1274 429 1275)
def WT:Obj:=(fO "wish" "Desk.wish" (Zb (top 107) 7) (.str "pebbletoll.desk" 1144) (.ref 736))
def Yx:Obj:=(tO #[(.str "self" 1280)])
def Yg:Obj:=(fR "deeds" "Desk.deeds" (Zb (top 107) 8))
def V1:Obj:=(cO "deeds" "Desk.deeds" 1277 1278 1279 432 1 0 0 3 (.ref 738) true 181 (.ref 739) .none (.ref 740) (.ref 741) (.ref 742) 1281 432 1282)
def WQ:Obj:=(fO "deeds" "Desk.deeds" (Zb (top 107) 8) (.str "pebbletoll.desk" 1144) (.ref 743))
def YF:Obj:=(tS 1287 ["self","row"])
def Yj:Obj:=(fR "answer" "Desk.answer" (Zb (top 107) 9))
def WL:Obj:=(cO "answer" "Desk.answer" 1284 1285 1286 435 2 0 0 3 (.ref 745) true 181 (.ref 746) .none (.ref 747) (.ref 748) (.ref 749) 1289 435 1290)
def WZ:Obj:=(fO "answer" "Desk.answer" (Zb (top 107) 9) (.str "pebbletoll.desk" 1144) (.ref 750))
def Yc:Obj:=(tS 1292 ["past","web"])
def Wo(P:Params):Obj:=(.mk (.type "dict") none (.dict #[(en P "__module__" 1207 (.str "pebbletoll.desk" 1144)),(en P "__firstlineno__" 1211 (.int 398 1210)),(en P "__init__" 1220 (.ref 690)),(en P "put" 1226 (.ref 695)),(en P "want" 1236 (.ref 702)),(en P "step" 1246 (.ref 709)),(en P "keep" 1255 (.ref 716)),(en P "back" 1262 (.ref 723)),(en P "laying" 1269 (.ref 730)),(en P "wish" 1276 (.ref 737)),(en P "deeds" 1283 (.ref 744)),(en P "answer" 1291 (.ref 751)),(en P "__static_attributes__" 1294 (.ref 752)),(en P "__dict__" 1296 (.ref 755)),(en P "__weakref__" 1298 (.ref 756)),(en P "__doc__" 1299 .none)] 4) #[])
def Wl:Obj:=(.mk (.type "type") none (.cls (.mk "Desk" [(.type "object")] [(.ref 754),(.type "object")] 753 "Desk" true [] [] false none false)) #[none,none,(some (.str "Desk" 1200)),(some (.str "Desk" 1208)),(some (.builtin "object.__new__")),(some (.bool true))])
def VB:Obj:=(.mk (.type "getset_descriptor") none (.fields #[(.str "__dict__" 1295),(.ref 754),(.builtin "function.__dict__"),(.builtin "function.__dict__#set")]) #[])
def Vz:Obj:=(.mk (.type "getset_descriptor") none (.fields #[(.str "__weakref__" 1297),(.ref 754),(.builtin "ExceptionGroup.__weakref__"),.none]) #[])
def Y1:Obj:=(.mk (.type "super") none (.fields #[(.ref 754),(.ref 754),(.ref 754)]) #[])
def XV:Obj:=(.mk (.type "builtin_function_or_method") none (.fields #[(.builtin "object.__init_subclass__"),(.ref 754)]) #[])
def XO:Obj:=(tS 1305 ["desk","row","words","numbers"])
def YS:Obj:=(fr "answer_of" (top 108))
def WU:Obj:=(cF "answer_of" 1302 452 2 3 759 1309)
def VZ:Obj:=(fo "answer_of" (top 108) (.str "pebbletoll.desk" 1144) (.ref 764))
def Yh:Obj:=(tS 1315 ["desk","word","numbers"])
def X3:Obj:=(fr "do_deed" (top 109))
def W3:Obj:=(cF "do_deed" 1312 461 3 3 766 1318)
def W0:Obj:=(fo "do_deed" (top 109) (.str "pebbletoll.desk" 1144) (.ref 771))
def YQ:Obj:=(tS 1324 ["desk","word","numbers"])
def Ye:Obj:=(fr "told_of_desk" (top 110))
def Vi:Obj:=(cF "told_of_desk" 1321 470 3 3 773 1327)
def Xf:Obj:=(fo "told_of_desk" (top 110) (.str "pebbletoll.desk" 1144) (.ref 778))
def YJ:Obj:=(tS 1333 ["web","word","numbers"])
def XT:Obj:=(fr "told_of_web" (top 111))
def WC:Obj:=(cF "told_of_web" 1330 488 3 3 780 1336)
def Vr:Obj:=(fo "told_of_web" (top 111) (.str "pebbletoll.desk" 1144) (.ref 785))
def YK:Obj:=(tO #[(.str "number" 1342)])
def YI:Obj:=(fr "standing_text" (top 112))
def V9:Obj:=(cF "standing_text" 1339 496 1 3 787 1343)
def Wq:Obj:=(fo "standing_text" (top 112) (.str "pebbletoll.desk" 1144) (.ref 792))
def Yb:Obj:=(tO #[(.str "found" 1349)])
def YZ:Obj:=(fr "meeting_text" (top 113))
def We:Obj:=(cF "meeting_text" 1346 500 1 3 794 1350)
def WM:Obj:=(fo "meeting_text" (top 113) (.str "pebbletoll.desk" 1144) (.ref 799))
def YD:Obj:=(tS 1358 ["script","k"])
def Yl:Obj:=(fr "_law_cell" (top 115))
def VQ:Obj:=(cF "_law_cell" 1355 505 2 3 801 1360)
def WO:Obj:=(fo "_law_cell" (top 115) (.str "law_pebbletoll_k64_rows_refused" 1353) (.ref 806))
def YM:Obj:=(tS 1366 ["cell","mode","many","base","found","rest","k","m"])
def YE:Obj:=(fr "_law_row" (top 116))
def VY:Obj:=(cF "_law_row" 1363 509 4 3 808 1374)
def V0:Obj:=(fo "_law_row" (top 116) (.str "law_pebbletoll_k64_rows_refused" 1353) (.ref 813))
def YN:Obj:=(tS 1380 ["t","there","back"])
def XQ:Obj:=(fr "_law_tolls" (top 117))
def VL:Obj:=(cF "_law_tolls" 1377 521 1 3 815 1383)
def Wf:Obj:=(fo "_law_tolls" (top 117) (.str "law_pebbletoll_k64_rows_refused" 1353) (.ref 820))
def X9:Obj:=(tS 1389 ["script","mode","shape","tolls","many","roads","k","one","other","there","back","road"])
def Yy:Obj:=(fr "_law_roads" (top 118))
def Wa:Obj:=(cF "_law_roads" 1386 530 1 3 822 1401)
def Xe:Obj:=(fo "_law_roads" (top 118) (.str "law_pebbletoll_k64_rows_refused" 1353) (.ref 827))
def Yq:Obj:=(tS 1407 ["cell","many","words","sizes","at","numbers","odd","spot","mode"])
def YY:Obj:=(fr "_law_odd_row" (top 119))
def WE:Obj:=(cF "_law_odd_row" 1404 545 2 3 829 1416)
def V6:Obj:=(fo "_law_odd_row" (top 119) (.str "law_pebbletoll_k64_rows_refused" 1353) (.ref 834))
def Ym:Obj:=(tS 1422 ["cell","many","far","place","some"])
def YV:Obj:=(fr "_law_refused_row" (top 120))
def Wh:Obj:=(cF "_law_refused_row" 1419 567 2 3 836 1427)
def WA:Obj:=(fo "_law_refused_row" (top 120) (.str "law_pebbletoll_k64_rows_refused" 1353) (.ref 841))
def YH:Obj:=(tS 1433 ["script","many","roads","desk","k","state","cell","row","due","word"])
def XX:Obj:=(fr "law" (top 121))
def VE:Obj:=(cF "law" 1430 578 1 3 843 1443)
def Xa:Obj:=(fo "law" (top 121) (.str "law_pebbletoll_k64_rows_refused" 1353) (.ref 848))
noncomputable def h4(P:Params):Heap:=.mk (.mk (boot_o_0 P::boot_o_1 P::boot_o_2 P::V3 P::boot_o_4 P::boot_o_5 P::boot_o_6 P::boot_o_7 P::boot_o_8 P::boot_o_9 P::boot_o_10 P::x0::Ys::x2::x3::x6::x7::x8 P::x0::x1::x9::x10::x0::x11 P::x81::x13::x14::x15::ϩ::x7::x17 P::x0::x1::x18::x19::x0::x20 P::x21::x22::x23::ϩ::x7::x24 P::x0::x1::x25::x26::x0::x27 P::x28::x29::x30::ϩ::x7::x31 P::x0::x1::x32::x33::x0::x34 P::x35::x36::x37::ϩ::x7::x38 P::x0::x1::x39::x40::x0::x41 P::x42::x43::x44::ϩ::x7::x45 P::x0::x1::x46::x47::x0::x48 P::x49::x50::x51::ϩ::x7::x52 P::x0::x1::x53::x54::x0::x55 P::x56::x57::x58::ϩ::x7::x59 P::x0::x1::x60::x61::x0::x62 P::x63::x64::x65::ϩ::x7::x66 P::x0::x67::x68::x69::x0::x1::x70::x0::x71::x72::x73::x74::x75 P::x76::x77::x78::ϩ::x7::x82 P::x0::x83::x84::x85::x0::x1::x86::x0::x87::x88::x89::x90::x91 P::x92::x93::x94::x0::x7::x95 P::x0::x96::x97::x98::x0::x1::x99::FK::GA::MN::DN P::FX::FZ::CV::MP::Lb::x0::x1::JA::x0::LL::DQ::Dg::x0::x1::NR::x0::JN::Fn::DJ::x0::x1::Kj::x0::Lo::Dc::Fh::x0::x1::KQ::x0::NH::GX::F1::x0::x1::Ls::x0::LB::DD::Dw::x0::x1::Ke::x0::Nk::F2::Dp::x0::x1::JV::x0::LA::Gk::Fd::x0::x1::Mf::x0::Nx::Ds::FR::x0::x1::LG::x0::LX::ER::FC::x0::x1::Lp::x0::MF::E2::F5::x0::x1::NB::CZ::Fp::x0::x1::J9::x0::Lv::FL::GW::x0::x1::LP::x0::Js::FE::Gf::x0::x1::Ll::x0::Kn::D1::Ep::x0::x1::Lf::x0::KW::Dn::Ei::x0::x1::Kp::x0::Lk::EA::DI::x0::x1::NO::GM::Fv::x0::x1::Kh::Ed::Du::x0::x1::JP::x0::MO::Eh::FQ::x0::x1::Ml::x0::Nh::Gi::Fi::x0::x1::JY::x0::Nw::FO::CS::x0::x1::KR::x0::Nl::ED::DP::x0::x1::Ku::x0::Jj::Eo::Fy::x0::x1::Nz::x0::KU::Dz::Fc::x0::x1::Mt::x0::Jp::GC::DW::x0::x1::Li::EF::Gv::x0::x1::KI::x0::LZ::Fo::DA::x0::x1::KL::x0::Kq::DF::Et::x0::x1::KO::x0::NG::Dl::D3::x0::x1::L8::x0::Mo::ET::Fz::x0::x1::NS::x0::Ka::FM::Ey::x0::x1::J8::x0::NA::Gb::DX::x0::x1::JS::Dk::Fu::x0::x1::LN::x0::Nr::Go::En::x0::x1::JJ::x0::JL::DV::GS::x0::x1::NZ::Dq::GY::x0::x1::MM::x0::Lg::D4::Gy::x0::x1::NJ::x0::Lh::EJ::DM::x0::x7::MV P::x0::Jy::NC::Mu::x0::x1::Km::GP::EH::Nn::CP P::Db::Ef::Ek::NP::Mx::x0::x1::NN::x0::Kv::EV::Fk::x0::x1::Qo::x0::Sh::NF::JU::x0::x1::SN::Kt::M0::x0::x1::QT::x0::Q9::KM::KJ::x0::x1::Q6::x0::Sx::Kf::MZ::x0::x1::QS::x0::QL::Kk::MH::x0::x1::Rt::x0::Qs::Mj::KB::x0::x1::QM::x0::Rm::KY::Jv::x0::x1::Qd::x0::RJ::JG::Ln::x0::x1::Rf::x0::R5::NL::Nf::x0::x1::Qn::x0::SU::KN::Kl::x0::x1::SG::x0::Rg::J7::NK::x0::x1::S8::x0::Sy::Mr::Ky::x0::x1::RG::Ji::J5::x0::x1::So::x0::Sk::Ms::Jk::x0::x1::Td::x0::QW::Jr::Mn::x0::x1::Ro::Oa::MG::x0::x1::QE::x0::Qj::LK::MD::x0::x1::Sz::JC::MA::x0::x1::Tf::J6::MQ::x0::x1::RE::Lu::Lj::x0::x1::RO::x0::Q7::La::L9::x0::x1::Rs::LH::Ks::x0::x1::SZ::NQ::Nu::x0::x1::RA::x0::SY::MI::Mv::x0::x1::QO::MB::Lr::x0::x1::QB::JR::Kc::x0::x1::Tc::LR::MY::x0::x1::Sl::x0::Qk::MT::LW::x0::x7::R4 P::x0::Q2::Q4::QI::x0::x1::SR::JT::MW::SH::Kz P::My::Jx::MR::RI::RZ::x0::x1::RC::L7::Kx::x0::x1::Sd::x0::RS::NV::Np::x0::x1::Sv::x0::Ry::Jq::Mq::x0::x1::Rn::x0::Ti::M7::Ma::x0::x1::Qh::x0::SO::MX::Md::LJ::QD P::x0::x7::XZ P::x0::X4::YC::Yn::x0::x1::Yi::x0::X8::WJ::VR::x0::x1::X5::VI::WD::x0::x1::YX::x0::X2::V7::Wv::x0::x1::Yk::x0::YA::V8::WV::x0::x1::Yp::x0::X7::Vs::WK::x0::x1::Yv::x0::X6::Wy::Vp::x0::x1::XU::x0::YT::Vj::Wi::x0::x1::Yw::x0::XY::Vo::WT::x0::x1::Yx::x0::Yg::V1::WQ::x0::x1::YF::x0::Yj::WL::WZ::Yc::Wo P::Wl::VB::Vz::Y1::XV::x0::x1::XO::x0::YS::WU::VZ::x0::x1::Yh::x0::X3::W3::W0::x0::x1::YQ::x0::Ye::Vi::Xf::x0::x1::YJ::x0::XT::WC::Vr::x0::x1::YK::x0::YI::V9::Wq::x0::x1::Yb::x0::YZ::We::WM::x0::x1::YD::x0::Yl::VQ::WO::x0::x1::YM::x0::YE::VY::V0::x0::x1::YN::x0::XQ::VL::Wf::x0::x1::X9::x0::Yy::Wa::Xe::x0::x1::Yq::x0::YY::WE::V6::x0::x1::Ym::x0::YV::Wh::WA::x0::x1::YH::x0::XX::VE::Xa::[])) (.mk [] [] [] 0 [] [] false #[] [] 0 false false false 0 [2000,10,10] false 0 true [] [] 0 false)
theorem Yd(w:World)(os:OsState):segRun treeTable PySem.Challenge.pw_pebbletoll_k64_rows_refused w 11 (some (.ref 6)) 1 947 (Shared.mk (h3 w.params) (.mk []) (.mk 0 0 0 0) 1200 os) (piecesOf st4 env cE (.mk 397 0 397 14) [topFrame (.mk 0 0 0 0)])=some (.next,(Shared.mk (h4 w.params) (.mk []) (.mk 0 0 0 0) 1446 os),cE,(.mk 578 0 595 15)):=by kernel_rfl
noncomputable def hf(P:Params):Heap:=h4 P
theorem Yu(w:World)(os:OsState):topRun treeTable PySem.Challenge.pw_pebbletoll_k64_rows_refused w 11 (some (.ref 6)) 2 (Shared.mk (h4 w.params) (.mk []) (.mk 0 0 0 0) 1446 os) (restOf [] env cE (.mk 578 0 595 15) [topFrame (.mk 0 0 0 0)])=some (Shared.mk (hf w.params) (.mk []) (.mk 0 0 0 0) 1446 os):=by kernel_rfl
theorem run(w:World)(os:OsState):topRun treeTable PySem.Challenge.pw_pebbletoll_k64_rows_refused w 11 (some (.ref 6)) (12+(1+(1932+(1970+(1322+(252+(947+(2)))))))) (Shared.mk (boot_heap w.params) (.mk []) boot_drawn boot_toks os) (topStub PySem.Challenge.pw_pebbletoll_k64_rows_refused)=some (Shared.mk (hf w.params) (.mk []) (.mk 0 0 0 0) 1446 os):=go_top (Yz w os) (piece_block (Yr w os) (piece_app (YW w os) (piece_app (Y3 w os) (piece_app (Yo w os) (piece_app (Y0 w os) (piece_app (Yd w os) (Yu w os)))))))
theorem opn:∀w:World,(fencedOpening treeTable PySem.Challenge.pw_pebbletoll_k64_rows_refused w 12962).map (λs=>(s.heap,s.gens,s.drawn,s.toks))=some (boot_heap w.params,Array.mk [],boot_drawn,boot_toks):=boot_open (by kernel_rfl) (by decide) λs=>by kernel_rfl
theorem siz(w:World):((boot_heap w.params).isNs mainGlobals&&(Array.mk ([]:List GenState)).size==0,(boot_heap w.params).objs.size,(boot_heap w.params).nsMap mainGlobals "__annotations__")=(true,11,(some (.ref 6))):=by kernel_rfl
noncomputable def KK:Params->Frag:=λP=>
 (nat_lit 2,boot_o_2 P)::(nat_lit 3,V3 P)::(nat_lit 23,x11 P)::(nat_lit 24,x81)::(nat_lit 25,x13)::(nat_lit 36,x20 P)::(nat_lit 37,x21)::(nat_lit 48,x27 P)::(nat_lit 49,x28)::(nat_lit 60,x34 P)::(nat_lit 61,x35)::(nat_lit 72,x41 P)::(nat_lit 73,x42)::(nat_lit 84,x48 P)::(nat_lit 85,x49)::(nat_lit 96,x55 P)::(nat_lit 97,x56)::(nat_lit 108,x62 P)::(nat_lit 109,x63)::(nat_lit 124,x72)::(nat_lit 125,x73)::(nat_lit 127,x75 P)::(nat_lit 128,x76)::(nat_lit 143,x88)::(nat_lit 144,x89)::(nat_lit 146,x91 P)::(nat_lit 147,x92)::(nat_lit 160,FK)::(nat_lit 161,GA)::(nat_lit 163,DN P)::(nat_lit 164,FX)::(nat_lit 165,FZ)::(nat_lit 166,CV)::(nat_lit 174,DQ)::(nat_lit 175,Dg)::(nat_lit 181,Fn)::(nat_lit 182,DJ)::(nat_lit 188,Dc)::(nat_lit 189,Fh)::(nat_lit 195,GX)::(nat_lit 196,F1)::(nat_lit 202,DD)::(nat_lit 203,Dw)::(nat_lit 209,F2)::(nat_lit 210,Dp)::(nat_lit 216,Gk)::(nat_lit 217,Fd)::(nat_lit 223,Ds)::(nat_lit 224,FR)::(nat_lit 230,ER)::(nat_lit 231,FC)::(nat_lit 237,E2)::(nat_lit 238,F5)::(nat_lit 242,CZ)::(nat_lit 243,Fp)::(nat_lit 249,FL)::(nat_lit 250,GW)::(nat_lit 256,FE)::(nat_lit 257,Gf)::(nat_lit 263,D1)::(nat_lit 264,Ep)::(nat_lit 270,Dn)::(nat_lit 271,Ei)::(nat_lit 277,EA)::(nat_lit 278,DI)::(nat_lit 282,GM)::(nat_lit 283,Fv)::(nat_lit 287,Ed)::(nat_lit 288,Du)::(nat_lit 294,Eh)::(nat_lit 295,FQ)::(nat_lit 301,Gi)::(nat_lit 302,Fi)::(nat_lit 308,FO)::(nat_lit 309,CS)::(nat_lit 315,ED)::(nat_lit 316,DP)::(nat_lit 322,Eo)::(nat_lit 323,Fy)::(nat_lit 329,Dz)::(nat_lit 330,Fc)::(nat_lit 336,GC)::(nat_lit 337,DW)::(nat_lit 341,EF)::(nat_lit 342,Gv)::(nat_lit 348,Fo)::(nat_lit 349,DA)::(nat_lit 355,DF)::(nat_lit 356,Et)::(nat_lit 362,Dl)::(nat_lit 363,D3)::(nat_lit 369,ET)::(nat_lit 370,Fz)::(nat_lit 376,FM)::(nat_lit 377,Ey)::(nat_lit 383,Gb)::(nat_lit 384,DX)::(nat_lit 388,Dk)::(nat_lit 389,Fu)::(nat_lit 395,Go)::(nat_lit 396,En)::(nat_lit 402,DV)::(nat_lit 403,GS)::(nat_lit 407,Dq)::(nat_lit 408,GY)::(nat_lit 414,D4)::(nat_lit 415,Gy)::(nat_lit 421,EJ)::(nat_lit 422,DM)::(nat_lit 433,GP)::(nat_lit 434,EH)::(nat_lit 436,CP P)::(nat_lit 437,Db)::(nat_lit 438,Ef)::(nat_lit 439,Ek)::(nat_lit 447,EV)::(nat_lit 448,Fk)::(nat_lit 454,NF)::(nat_lit 455,JU)::(nat_lit 459,Kt)::(nat_lit 460,M0)::(nat_lit 466,KM)::(nat_lit 467,KJ)::(nat_lit 473,Kf)::(nat_lit 474,MZ)::(nat_lit 480,Kk)::(nat_lit 481,MH)::(nat_lit 487,Mj)::(nat_lit 488,KB)::(nat_lit 494,KY)::(nat_lit 495,Jv)::(nat_lit 501,JG)::(nat_lit 502,Ln)::(nat_lit 508,NL)::(nat_lit 509,Nf)::(nat_lit 515,KN)::(nat_lit 516,Kl)::(nat_lit 522,J7)::(nat_lit 523,NK)::(nat_lit 529,Mr)::(nat_lit 530,Ky)::(nat_lit 534,Ji)::(nat_lit 535,J5)::(nat_lit 541,Ms)::(nat_lit 542,Jk)::(nat_lit 548,Jr)::(nat_lit 549,Mn)::(nat_lit 553,Oa)::(nat_lit 554,MG)::(nat_lit 560,LK)::(nat_lit 561,MD)::(nat_lit 565,JC)::(nat_lit 566,MA)::(nat_lit 570,J6)::(nat_lit 571,MQ)::(nat_lit 575,Lu)::(nat_lit 576,Lj)::(nat_lit 582,La)::(nat_lit 583,L9)::(nat_lit 587,LH)::(nat_lit 588,Ks)::(nat_lit 592,NQ)::(nat_lit 593,Nu)::(nat_lit 599,MI)::(nat_lit 600,Mv)::(nat_lit 604,MB)::(nat_lit 605,Lr)::(nat_lit 609,JR)::(nat_lit 610,Kc)::(nat_lit 614,LR)::(nat_lit 615,MY)::(nat_lit 621,MT)::(nat_lit 622,LW)::(nat_lit 633,JT)::(nat_lit 634,MW)::(nat_lit 636,Kz P)::(nat_lit 637,My)::(nat_lit 638,Jx)::(nat_lit 639,MR)::(nat_lit 645,L7)::(nat_lit 646,Kx)::(nat_lit 652,NV)::(nat_lit 653,Np)::(nat_lit 659,Jq)::(nat_lit 660,Mq)::(nat_lit 666,M7)::(nat_lit 667,Ma)::(nat_lit 673,MX)::(nat_lit 674,Md)::(nat_lit 675,LJ)::(nat_lit 676,QD P)::(nat_lit 689,WJ)::(nat_lit 690,VR)::(nat_lit 694,VI)::(nat_lit 695,WD)::(nat_lit 701,V7)::(nat_lit 702,Wv)::(nat_lit 708,V8)::(nat_lit 709,WV)::(nat_lit 715,Vs)::(nat_lit 716,WK)::(nat_lit 722,Wy)::(nat_lit 723,Vp)::(nat_lit 729,Vj)::(nat_lit 730,Wi)::(nat_lit 736,Vo)::(nat_lit 737,WT)::(nat_lit 743,V1)::(nat_lit 744,WQ)::(nat_lit 750,WL)::(nat_lit 751,WZ)::(nat_lit 753,Wo P)::(nat_lit 754,Wl)::(nat_lit 755,VB)::(nat_lit 756,Vz)::(nat_lit 764,WU)::(nat_lit 765,VZ)::(nat_lit 771,W3)::(nat_lit 772,W0)::(nat_lit 778,Vi)::(nat_lit 779,Xf)::(nat_lit 785,WC)::(nat_lit 786,Vr)::(nat_lit 792,V9)::(nat_lit 793,Wq)::(nat_lit 799,We)::(nat_lit 800,WM)::(nat_lit 806,VQ)::(nat_lit 807,WO)::(nat_lit 813,VY)::(nat_lit 814,V0)::(nat_lit 820,VL)::(nat_lit 821,Wf)::(nat_lit 827,Wa)::(nat_lit 828,Xe)::(nat_lit 834,WE)::(nat_lit 835,V6)::(nat_lit 841,Wh)::(nat_lit 842,WA)::(nat_lit 848,VE)::(nat_lit 849,Xa)::[]
abbrev qq:Program:=PySem.W.view PySem.Challenge.pw_pebbletoll_k64_rows_refused [1,2,3,4,5,6,7,8,9,10,12,13,14,15,16,17,18,19,20,21,22,23,24,26,27,28,29,30,32,33,34,35,37,38,39,40,41,42,44,45,46,47,48,49,50,51,52,54,55,56,57,58,59,60,61,62,63,64,66,67,68,70,71,72,73,74,75,76,77,78,80,81,82,83,84,85,86,87,88,89,91,92,93,94,95,97,98,99,100,101,102,103,105,106,107,108,109,110,111,112,113,115,116,117,118,119,120,121]
abbrev asK:List Addr:=[2,3,23,24,25,36,37,48,49,60,61,72,73,84,85,96,97,108,109,124,125,127,128,143,144,146,147,160,161,163,164,165,166,174,175,181,182,188,189,195,196,202,203,209,210,216,217,223,224,230,231,237,238,242,243,249,250,256,257,263,264,270,271,277,278,282,283,287,288,294,295,301,302,308,309,315,316,322,323,329,330,336,337,341,342,348,349,355,356,362,363,369,370,376,377,383,384,388,389,395,396,402,403,407,408,414,415,421,422,433,434,436,437,438,439,447,448,454,455,459,460,466,467,473,474,480,481,487,488,494,495,501,502,508,509,515,516,522,523,529,530,534,535,541,542,548,549,553,554,560,561,565,566,570,571,575,576,582,583,587,588,592,593,599,600,604,605,609,610,614,615,621,622,633,634,636,637,638,639,645,646,652,653,659,660,666,667,673,674,675,676,689,690,694,695,701,702,708,709,715,716,722,723,729,730,736,737,743,744,750,751,753,754,755,756,764,765,771,772,778,779,785,786,792,793,799,800,806,807,813,814,820,821,827,828,834,835,841,842,848,849]
theorem ϖ:∀P,asK=(KK P).map (·.1):=λ_=>by kernel_rfl
theorem lk0(w:World):(λos=>seen ((recsOf qq).map (·.name)) (ownsOf qq) [] { (Shared.mk (Hd.hf w.params) (.mk []) (.mk 0 0 0 0) 1446 os)with gens:=#[] })=λ_=>expectedOf qq:=by kernel_rfl
theorem lk1(w:World):(λos=>((Shared.mk (Hd.hf w.params) (.mk []) (.mk 0 0 0 0) 1446 os)).heap.bltView)=λ_=>bltViewBooted:=by kernel_rfl
theorem lk2(w:World):(λos=>(((Shared.mk (Hd.hf w.params) (.mk []) (.mk 0 0 0 0) 1446 os)).heap.keysOk (looseW qq ["NUMBERS_BEHIND"]) ((recsOf qq).map (·.name)) ((litsOf qq).map (·.1)) ((clssOf qq (looseW qq ["NUMBERS_BEHIND"])).map (·.name))&&((Shared.mk (Hd.hf w.params) (.mk []) (.mk 0 0 0 0) 1446 os)).heap.accountedOkI (importedModules PySem.Challenge.pw_pebbletoll_k64_rows_refused.main.body)&&((Shared.mk (Hd.hf w.params) (.mk []) (.mk 0 0 0 0) 1446 os)).heap.isNs mainGlobals&&((Shared.mk (Hd.hf w.params) (.mk []) (.mk 0 0 0 0) 1446 os)).heap.isNs builtinsNs&&tablesOk qq ((Shared.mk (Hd.hf w.params) (.mk []) (.mk 0 0 0 0) 1446 os)).heap&&(λs=>PySem.W.xlAt Hd.qq [] s&&PySem.W.recOk (PySem.W.RowW.records (PySem.W.OpenRow.toRowW (PySem.Challenge.rw_pebbletoll_k64_rows_refused).row)) s) (Shared.mk (Hd.hf w.params) (.mk []) (.mk 0 0 0 0) 1446 os)&&(if true then((Shared.mk (Hd.hf w.params) (.mk []) (.mk 0 0 0 0) 1446 os)).gens.size==0 else !leftWithCleanup ((Shared.mk (Hd.hf w.params) (.mk []) (.mk 0 0 0 0) 1446 os)).gens)))=λ_=>true:=by kernel_rfl
theorem lk3(w:World):(λos=>tabsOk qq (Shared.mk (Hd.hf w.params) (.mk []) (.mk 0 0 0 0) 1446 os))=λ_=>true:=by kernel_rfl
theorem lk4(w:World):(λos=>pinSeenD qq (drecsOf qq) (Shared.mk (Hd.hf w.params) (.mk []) (.mk 0 0 0 0) 1446 os))=λ_=>pinGoodD (drecsOf qq):=by kernel_rfl
theorem lk5(w:World):(λos=>plainSeenE qq (looseW qq ["NUMBERS_BEHIND"]) (Shared.mk (Hd.hf w.params) (.mk []) (.mk 0 0 0 0) 1446 os))=λ_=>plainGoodE qq (looseW qq ["NUMBERS_BEHIND"]):=by kernel_rfl
theorem lk6(w:World):(λos=>plainSeenD qq ["NUMBERS_BEHIND"] (Shared.mk (Hd.hf w.params) (.mk []) (.mk 0 0 0 0) 1446 os))=λ_=>plainGoodD qq ["NUMBERS_BEHIND"]:=by kernel_rfl
theorem lk7(w:World):(λos=>wideSeen qq (Shared.mk (Hd.hf w.params) (.mk []) (.mk 0 0 0 0) 1446 os))=λ_=>wideGood qq:=by kernel_rfl
theorem lk8(w:World):(λos=>clsSeenW qq ["NUMBERS_BEHIND"] (Shared.mk (Hd.hf w.params) (.mk []) (.mk 0 0 0 0) 1446 os))=λ_=>clsGoodW qq ["NUMBERS_BEHIND"]:=by kernel_rfl
theorem Xn(w:World):(λos=>(staticsOk (importedModules PySem.Challenge.pw_pebbletoll_k64_rows_refused.main.body) (boot_heap w.params) (hf w.params)&&namesBound PySem.Challenge.pw_pebbletoll_k64_rows_refused (hf w.params)&&gensDone (Shared.mk (Hd.hf w.params) (.mk []) (.mk 0 0 0 0) 1446 os)&&laidKept (boot_heap w.params) (hf w.params)))=λ_=>true:=by kernel_rfl
theorem XE(w:World):(λos=>openSeen qq ["NUMBERS_BEHIND"] (importedModules PySem.Challenge.pw_pebbletoll_k64_rows_refused.main.body) (λs=>PySem.W.xlAt Hd.qq [] s&&PySem.W.recOk (PySem.W.RowW.records (PySem.W.OpenRow.toRowW (PySem.Challenge.rw_pebbletoll_k64_rows_refused).row)) s) true (Shared.mk (Hd.hf w.params) (.mk []) (.mk 0 0 0 0) 1446 os))=λ_=>openGood qq ["NUMBERS_BEHIND"]:=funext λos=>congr (congrArg Prod.mk (congrFun (lk0 w) os)) (congr (congrArg Prod.mk (congrFun (lk1 w) os)) (congr (congrArg Prod.mk (congrFun (lk2 w) os)) (congr (congrArg Prod.mk (congrFun (lk3 w) os)) (congr (congrArg Prod.mk (congrFun (lk4 w) os)) (congr (congrArg Prod.mk (congrFun (lk5 w) os)) (congr (congrArg Prod.mk (congrFun (lk6 w) os)) (congr (congrArg Prod.mk (congrFun (lk7 w) os)) (congrFun (lk8 w) os))))))))
theorem Xj(w:World):(λos=>Hook.obs (PySem.W.kHook Hd.KK Hd.asK Hd.ϖ) (Shared.mk (Hd.hf w.params) (.mk []) (.mk 0 0 0 0) 1446 os))=λ_=>Hook.val (PySem.W.kHook Hd.KK Hd.asK Hd.ϖ) w:=by kernel_rfl
theorem Xx(w:World):(λos=>((staticsOk (importedModules PySem.Challenge.pw_pebbletoll_k64_rows_refused.main.body) (boot_heap w.params) (hf w.params)&&namesBound PySem.Challenge.pw_pebbletoll_k64_rows_refused (hf w.params)&&gensDone (Shared.mk (Hd.hf w.params) (.mk []) (.mk 0 0 0 0) 1446 os)&&laidKept (boot_heap w.params) (hf w.params)),openSeen qq ["NUMBERS_BEHIND"] (importedModules PySem.Challenge.pw_pebbletoll_k64_rows_refused.main.body) (λs=>PySem.W.xlAt Hd.qq [] s&&PySem.W.recOk (PySem.W.RowW.records (PySem.W.OpenRow.toRowW (PySem.Challenge.rw_pebbletoll_k64_rows_refused).row)) s) true (Shared.mk (Hd.hf w.params) (.mk []) (.mk 0 0 0 0) 1446 os),Hook.obs (PySem.W.kHook Hd.KK Hd.asK Hd.ϖ) (Shared.mk (Hd.hf w.params) (.mk []) (.mk 0 0 0 0) 1446 os)))=λ_=>(true,openGood qq ["NUMBERS_BEHIND"],Hook.val (PySem.W.kHook Hd.KK Hd.asK Hd.ϖ) w):=funext λos=>congr (congrArg Prod.mk (congrFun (Xn w) os)) (congr (congrArg Prod.mk (congrFun (XE w) os)) (congrFun (Xj w) os))
theorem left:PySem.W.LeftO (PySem.Challenge.rw_pebbletoll_k64_rows_refused).row.prog qq ["NUMBERS_BEHIND"] (λs=>PySem.W.xlAt Hd.qq [] s&&PySem.W.recOk (PySem.W.RowW.records (PySem.W.OpenRow.toRowW (PySem.Challenge.rw_pebbletoll_k64_rows_refused).row)) s) (PySem.W.Hook.obs (PySem.W.kHook Hd.KK Hd.asK Hd.ϖ)) (PySem.W.Hook.val (PySem.W.kHook Hd.KK Hd.asK Hd.ϖ)) 12962:=LeftO.of_pieces opn siz run (by decide) Xx
end Hd
abbrev hB:=Int->Int->Int
abbrev gy:=List PySem.Str
abbrev f5:=PySem.Str->Option PySem.Value
abbrev fy:=List PySem.Value
abbrev fx:=List PySem.Addr
abbrev fv:=List (PySem.Addr×PySem.Obj)
abbrev fg:=PySem.W.Frag
abbrev eF:=PySem.Value->PySem.Shared->Prop
abbrev ew:=Int->Nat
abbrev ek:=Int->Int
abbrev ej:=List Int
namespace L2
open PySem PySem.Spec PyProof.Rows
abbrev Key:=Sum Int Str
def vw:Key->Value->Bool
 | .inl k,v=>Value.isInt k v
 | .inr x,v=>Value.isStrOf x v
def Wc(w:World):Key->Int
 | .inl k=>hashInt k
 | .inr x=>hashStr w x
theorem gm:∀{k:Key}{v:Value},vw k v=true->(∃i t,k=Sum.inl i/\v=Value.int i t)\/(∃x t,k=Sum.inr x/\v=Value.str x t)
 | .inl i,v,h=>by
   obtain⟨t,e⟩:=Value.isInt_shape (k:=i) (v:=v) h;exact .inl ⟨i,t,rfl,e⟩
 | .inr x,v,h=>by
   obtain⟨t,e⟩:=Value.isStrOf_shape (x:=x) (v:=v) h;exact .inr ⟨x,t,rfl,e⟩
theorem OZ(i:Int)(t:Tok):vw (.inl i) (.int i t)=true:=by simp[vw,Value.isInt]
theorem OG(x:Str)(t:Tok):vw (.inr x) (.str x t)=true:=by simp[vw,Value.isStrOf]
theorem VP(a b:Int):decide ((Sum.inl a:Key)=Sum.inl b)=(a==b):=by
 by_cases e:a=b
 .subst e;simp
 .have h:¬(Sum.inl a:Key)=Sum.inl b:=λq=>e (Sum.inl.inj q);rw[bt h];exact(beq_eq_false_iff_ne.mpr e).symm
theorem VU(a b:Str):decide ((Sum.inr a:Key)=Sum.inr b)=decide (a=b):=by
 by_cases e:a=b
 .subst e;simp
 .have h:¬(Sum.inr a:Key)=Sum.inr b:=λq=>e (Sum.inr.inj q);rw[bt h,bt e]
theorem Wz(a:Int)(b:Str):decide ((Sum.inl a:Key)=Sum.inr b)=false:=bt (λq=>nomatch q)
theorem VS(a:Str)(b:Int):decide ((Sum.inr a:Key)=Sum.inl b)=false:=bt (λq=>nomatch q)
def eV(prog:Program)(w:World):PySem.KeyKind prog w Key where
 is:=vw
 hash:=Wc w
 inj:=λv a b g d=>by
  rcases gm g with⟨i,t,rfl,rfl⟩|⟨x,t,rfl,rfl⟩
  .rcases gm d with⟨j,u,rfl,e⟩|⟨y,u,rfl,e⟩
   .injection e with e1 _;rw[e1]
   .exact nomatch e
  .rcases gm d with⟨j,u,rfl,e⟩|⟨y,u,rfl,e⟩
   .exact nomatch e
   .injection e with e1 _;rw[e1]
 byValue:=λk v h=>by
  rcases gm h with⟨i,t,rfl,rfl⟩|⟨x,t,rfl,rfl⟩<;>rfl
 pyHash:=λc h=>by
  rcases gm c with⟨i,t,rfl,rfl⟩|⟨x,t,rfl,rfl⟩
  .exact wpAny_pyHash_int h
  .exact wpAny_pyHash_str h
 eqBool:=λf c h=>by
  rcases gm f with⟨i,t,rfl,rfl⟩|⟨x,t,rfl,rfl⟩
  .rcases gm c with⟨j,u,rfl,rfl⟩|⟨y,u,rfl,rfl⟩
   .rw[VP]at h;exact wpAny_eqBool_int h
   .rw[Wz]at h;exact SeqAt.EqAt.int_str i t y u _ _ _ _ h
  .rcases gm c with⟨j,u,rfl,rfl⟩|⟨y,u,rfl,rfl⟩
   .rw[VS]at h;exact SeqAt.EqAt.str_int x t j u _ _ _ _ h
   .rw[VU]at h;exact wpAny_eqBool_str h
 «strs»:=λk x t v h=>by
  rcases gm h with⟨i,u,rfl,e⟩|⟨y,u,rfl,e⟩
  .exact nomatch e
  .injection e with e1 _
   subst e1;cases v<;>rfl
theorem HH(a:Program)(w:World)(i:Int)(t:Tok):(eV a w).is (.inl i) (.int i t)=true:=OZ i t
theorem qR(a:Program)(w:World)(x:Str)(t:Tok):(eV a w).is (.inr x) (.str x t)=true:=OG x t
inductive V where
 | Θ|bl (b:Bool)|int (i:Int)|str (x:Str)|byt (b:Array UInt8)|flt (b:UInt64)|ref (a:Addr)|ty (n:String)
 deriving DecidableEq
def RelV:V->Value->Prop
 | .Θ,u=>u=Value.none
 | .bl b,u=>u=Value.bool b
 | .int i,u=>∃t,u=Value.int i t
 | .str x,u=>∃t,u=Value.str x t
 | .byt b,u=>∃t,u=Value.bytes b t
 | .flt b,u=>∃t,u=Value.float b t
 | .ref a,u=>u=Value.ref a
 | .ty n,u=>u=Value.type n
abbrev Vals:List V->List Value->Prop:=Paired RelV
theorem Vals.length{a:List V}{b:fy}(r:Vals a b):a.length=b.length:=Paired.length r
theorem Vals.get:∀{a:List V}{b:fy}{i:Nat}{x:V},Vals a b->a[i]?=some x->∃u,b[i]?=some u/\RelV x u
 | _,_,_,_,.nil,e=>by simp at e
 | _,_,0,_,.cons r _,e=>by simp at e;subst e;exact⟨_,rfl,r⟩
 | _,_,i+1,x,.cons _ t,e=>by
   obtain⟨u,d,c⟩:=Vals.get (i:=i) (x:=x) t (by simpa using e);exact⟨u,by simpa using d,c⟩
theorem Vals.set{x:V}{u:Value}(r:RelV x u):∀{a:List V}{b:fy}(i:Nat),Vals a b->Vals (a.set i x) (b.set i u)
 | _,_,_,.nil=>.nil
 | _,_,0,.cons _ t=>.cons r t
 | _,_,i+1,.cons q t=>.cons q (Vals.set r i t)
theorem Vals.append:∀{a c:List V}{b d:fy},Vals a b->Vals c d->Vals (a++c) (b++d)
 | _,_,_,_,.nil,s=>s
 | _,_,_,_,.cons r t,s=>.cons r (Vals.append t s)
theorem Vals.take:∀{a:List V}{b:fy}(n:Nat),Vals a b->Vals (a.take n) (b.take n)
 | _,_,0,_=>.nil
 | _,_,_+1,.nil=>.nil
 | _,_,n+1,.cons r t=>.cons r (Vals.take n t)
theorem Vals.drop:∀{a:List V}{b:fy}(n:Nat),Vals a b->Vals (a.drop n) (b.drop n)
 | _,_,0,r=>r
 | _,_,_+1,.nil=>.nil
 | _,_,n+1,.cons _ t=>Vals.drop n t
def As:Option V->Option Value->Prop
 | some v,some u=>RelV v u
 | none,none=>True
 | _,_=>False
def KV{a:Type}:List (a×V)->List (a×Value)->Prop:=Paired λ(p:a×V)(q:a×Value)=>p.1=q.1/\RelV p.2 q.2
def kV:Key->V
 | .inl i=>.int i
 | .inr x=>.str x
inductive HO where
 /-- a list -/
 | lst (xs:List V)
 /-- a tuple (never changes) -/
 | tup (xs:List V)
 /-- a dict ahc keys are ints and texts;one ahc keys are tuples of ints and texts (the empty one is both) -/
 | dK (ν:List (Key×V))|dT (ν:List (List Key×V))
 /-- a set of ints: ι members,ι size -/
 | set (S:Int->Bool) (n:Nat)
 /-- an instance of the class at C,ι dict at dx,ι attributes -/
 | ins (C dx:Addr) (fs:List (Str×V))
 /-- the dict of the instance at x -/
 | own (x:Addr)
 /-- the dict of an exception -/
 | xd (fs:List (Str×V))
 /-- a bound method,f of x -/
 | met (f x:Addr)
 /-- a range object lo,lo+1,.. dE hi -/
 | iS (lo hi:Int)
 /-- a thing ajQ is known to the object (the script;a dict while a loop walks it): read,never written while it is so -/
 | frz (o:Obj) (u:HO)
 /-- a code ahd table -/
 | tbl (ps:Array Value)
 /-- any other thing,by aef is true of ι one object (a def of alN own: aos a S n:=HO.ext λh=>..) -/
 | ext (φ:Heap->Prop)
abbrev Hp:=Addr->Option HO
def upd(H:Hp)(a:Addr)(o:HO):Hp:=λb=>if b=a then some o else H b
theorem aq{H:Hp}{a:Addr}{o:HO}:upd H a o a=some o:=by unfold upd;rw[aj rfl]
theorem aU{H:Hp}{a b:Addr}{o:HO}(h:b≠a):upd H a o b=H b:=by unfold upd;rw[ag h]
theorem mK{H:Hp}{a:Addr}{o u:HO}:upd (upd H a o) a u=upd H a u:=by
 funext b;unfold upd;split<;>rfl
theorem fm{H:Hp}{a b:Addr}{o u:HO}(h:H a=some o)(c:H b=some u)(d:o≠u):a≠b:=by
 intro e;subst e;rw[h]at c;exact d (bo c)
theorem cC{H:Hp}{a b:Addr}{o:HO}(h:H a=some o)(c:H b=none):a≠b:=by
 intro e;subst e;rw[h]at c;cases c
section
variable(P:Program)(w:World)
def Μ(H:Hp)(h:Heap)(a:Addr):HO->Prop
 | .lst b=>b.length<=sizeLine/\∃(d:fy)(n:Nat),Vals b d/\h.get? a=some { cls:=.type "list",data:=.seq d.toArray n }
 | .tup b=>b.length<=sizeLine/\∃d:List Value,Vals b d/\IsTup h a d.toArray
 | .dK ν=>ν.length<=sizeLine/\(a==sysModules)=false/\∃i,KV ν i/\h.DictOf (eV P w) a i
 | .dT ν=>ν.length<=sizeLine/\(a==sysModules)=false/\∃b:List (List Key×Addr×Value),Paired (λ(p:List Key×V)(q:List Key×Addr×Value)=>p.1=q.1/\H q.2.1=some (.tup (p.1.map kV))/\RelV p.2 q.2.2) ν b/\∃o g k,h.get? a=some o/\o.ExactDict/\o.data=.dict g k/\g.toList=b.map (entryOfKey (tupleKind (eV P w)))/\(b.map (·.1)).Nodup
 | .set S n=>h.SetOf (intKind P w) a S n
 | .ins C dx fs=>H dx=some (.own a)/\fs.length<=1000/\dx≠a/\h.get? a=some (PySem.W.instObj C dx)/\∃c,h.Ns1 dx c/\(∀f,As (fs.lookup f) (c f))/\PySem.Within c (fs.map (·.1))
 | .own _=>∃o,h.get? a=some o
 | .xd fs=>∃c,h.Ns1 a c/\∀f,As (fs.lookup f) (c f)
 | .iS lo hi=>∃t u v,h.get? a=some { cls:=.type "range",data:=.fields #[.int lo t,.int hi u,.int 1 v] }
 | .frz o u=>h.get? a=some o/\Μ H h a u
 | .tbl ps=>h.get? a=some { cls:=.none,data:=.fields ps }
 | .met f x=>h.get? a=some (PySem.W.methodObj (.ref f) (.ref x))
 | .ext φ=>φ h/\(∃o,h.get? a=some o)/\∀e j:Heap,φ e->(∀o,e.get? a=some o->j.get? a=some o)->φ j
def lE(H:Hp)(h:Heap):Prop:=∀a o,H a=some o->Μ P w H h a o
end
section
variable{P:Program}{w:World}{H g:Hp}{h h':Heap}{a:Addr}{o:HO}
theorem Μ.lt(x:Μ P w H h a o):a<h.objs.size:=by
 cases o with
 | lst xs=>obtain⟨_,_,_,_,e⟩:=x;exact av e
 | tup xs=>obtain⟨_,_,_,p⟩:=x;exact p.lt
 | dK ν=>obtain⟨_,_,_,_,o,_,_,e,_⟩:=x;exact av e
 | dT ν=>obtain⟨_,_,_,_,o,_,_,e,_⟩:=x;exact av e
 | set S n=>obtain⟨o,_,_,_,e,_⟩:=x;exact av e
 | ins C dx fs=>obtain⟨_,_,_,e,_⟩:=x;exact av e
 | own y=>obtain⟨_,e⟩:=x;exact av e
 | xd fs=>obtain⟨_,⟨_,_,_,e,_⟩,_⟩:=x;exact av e
 | iS lo hi=>obtain⟨_,_,_,e⟩:=x;exact av e
 | frz ob u=>obtain⟨e,_⟩:=x;exact av e
 | tbl ps=>exact av (show h.get? a=some _ from x)
 | met f y=>exact av (show h.get? a=some _ from x)
 | ext φ=>obtain⟨_,⟨_,e⟩,_⟩:=x;exact av e
theorem Paired.acS{i e:Type}{F G:i->e->Prop}:∀{d:List i}{c:List e},Paired F d c->(∀a b,F a b->G a b)->Paired G d c
 | _,_,.nil,_=>.nil
 | _,_,.cons r t,f=>.cons (f _ _ r) (Paired.acS t f)
theorem Paired.imp'{i e:Type}{F G:i->e->Prop}(f:∀a b,F a b->G a b){d:List i}{c:List e}(r:Paired F d c):Paired G d c:=Paired.acS r f
theorem Μ.Bv(x:Μ P w H h a o)(k:∀b u,(b=a\/H b=some (.own a))->h.get? b=some u->h'.get? b=some u)(E:∀b,H b=some (.own a)->g b=some (.own a))(D:∀b m,H b=some (.tup m)->g b=some (.tup m)):Μ P w g h' a o:=by
 induction o with
 | lst m=>obtain⟨z,B,n,r,e⟩:=x;exact⟨z,B,n,r,k _ _ (.inl rfl) e⟩
 | tup m=>obtain⟨z,B,r,i,e,c⟩:=x;exact⟨z,B,r,i,k _ _ (.inl rfl) e,c⟩
 | dK ν=>obtain⟨z,y,F,r,i,j,l,e,c⟩:=x;exact⟨z,y,F,r,i,j,l,k _ _ (.inl rfl) e,c⟩
 | dT ν=>
   obtain⟨z,y,m,r,i,j,l,e,c⟩:=x;exact⟨z,y,m,Paired.acS r λp q z=>⟨z.1,D _ _ z.2.1,z.2.2⟩,i,j,l,k _ _ (.inl rfl) e,c⟩
 | set S n=>obtain⟨i,j,l,t,e,c⟩:=x;exact⟨i,j,l,t,k _ _ (.inl rfl) e,c⟩
 | ins C dx fs=>
   obtain⟨d,z,ne,e,s,⟨A,j,l,G,c⟩,r⟩:=x;exact⟨E _ d,z,ne,k _ _ (.inl rfl) e,s,⟨A,j,l,k _ _ (.inr d) G,c⟩,r⟩
 | own y=>obtain⟨i,e⟩:=x;exact⟨i,k _ _ (.inl rfl) e⟩
 | xd fs=>obtain⟨s,⟨A,j,l,e,c⟩,r⟩:=x;exact⟨s,⟨A,j,l,k _ _ (.inl rfl) e,c⟩,r⟩
 | iS lo hi=>obtain⟨t,u,v,e⟩:=x;exact⟨t,u,v,k _ _ (.inl rfl) e⟩
 | frz i u ih=>obtain⟨e,q⟩:=x;exact⟨k _ _ (.inl rfl) e,ih q⟩
 | tbl ps=>
   have e:h.get? a=some { cls:=.none,data:=.fields ps }:=x;show h'.get? a=some { cls:=.none,data:=.fields ps };exact k a _ (.inl rfl) e
 | met f y=>
   have e:h.get? a=some (PySem.W.methodObj (.ref f) (.ref y)):=x;show h'.get? a=some (PySem.W.methodObj (.ref f) (.ref y));exact k a _ (.inl rfl) e
 | ext φ=>obtain⟨p,⟨o,e⟩,st⟩:=x;exact⟨st _ _ p λo q=>k _ _ (.inl rfl) q,⟨o,k _ _ (.inl rfl) e⟩,st⟩
theorem lE.lt(x:lE P w H h)(e:H a=some o):a<h.objs.size:=(x a o e).lt
theorem lE.fresh(x:lE P w H h)(e:h.objs.size<=a):H a=none:=by
 cases q:H a with
 | none=>rfl
 | some u=>exact absurd (aI (x.lt q) e) (cA _)
theorem lE.kept(x:lE P w H h)(k:∀b u,h.get? b=some u->h'.get? b=some u):lE P w H h':=λa o e=>
 (x a o e).Bv (λb u _ q=>k b u q) (λ_ q=>q) λ_ _ q=>q
theorem lE.laid(x:lE P w H h)(k:∀b u,h.get? b=some u->h'.get? b=some u)(j:h.objs.size<=a)(d:Μ P w (upd H a o) h' a o):lE P w (upd H a o) h':=λb u e=>by
 have f:=x.fresh j;by_cases i:b=a
 .subst i;rw[aq]at e;cases e;exact d
 .rw[aU i]at e;exact(x b u e).Bv (λc v _ q=>k c v q) (λc q=>by rw[aU (cC q f)];exact q) λc l q=>by rw[aU (cC q f)];exact q
end
def Rd(H:Hp)(a:Addr)(u:HO):Prop:=H a=some u\/∃o,H a=some (.frz o u)
theorem Rd.ok{P:Program}{w:World}{H:Hp}{h:Heap}{a:Addr}{u:HO}(r:Rd H a u)(x:lE P w H h):Μ P w H h a u:=by
 rcases r with r|⟨o,r⟩
 .exact x a u r
 .obtain⟨_,q⟩:=x a _ r;exact q
def Mut:Option HO->Prop
 | some (.lst _)=>True
 | some (.dK _)=>True
 | some (.dT _)=>True
 | some (.set _ _)=>True
 | some (.ins _ _ _)=>True
 | some (.ext _)=>True
 | _=>False
section
variable{P:Program}{w:World}{H:Hp}{h h':Heap}{x e:Addr}{a:HO}
theorem lE.write(s:lE P w H h)(g:Mut (H x))(o:e=x\/H e=some (.own x))(k:∀b u,b≠e->h.get? b=some u->h'.get? b=some u)(m:∃u,h'.get? e=some u)(n:Μ P w (upd H x a) h' x a):lE P w (upd H x a) h':=λb u q=>by
 have f:∀c y,H c=some (.own y)->c≠x:=λc y r z=>by subst z;rw[r]at g;exact g
 have l:∀c i,H c=some (.tup i)->c≠x:=λc i r z=>by subst z;rw[r]at g;exact g
 by_cases j:b=x
 .subst j;rw[aq]at q;cases q;exact n
 .rw[aU j]at q;by_cases d:b=e
  .have q':H b=some (.own x):=by
    rcases o with z|z
    .exact absurd (d.trans z) j
    .rw[d];exact z
   rw[q]at q';cases q';obtain⟨v,p⟩:=m;exact⟨v,by rw[d];exact p⟩
  .refine(s b u q).Bv (λc v hc r=>k c v ?_ r) (λc r=>by rw[aU (f c b r)];exact r) λc i r=>by rw[aU (l c i r)];exact r
   rcases hc with rfl|hc
   .exact d
   .rintro rfl;rcases o with z|z
    .exact f c b hc z
    .rw[hc]at z;cases z;exact j rfl
end
structure Un(fs ex:fx)(H H':Hp)(h h':Heap):Prop where
 keep:∀b o,h.get? b=some o->H b=none->b∉fs->b∉ex->h'.get? b=some o
 slot:∀b o,h.get? b=some o->H b=none->b∈fs->b∉ex->∃sl,h'.get? b=some { o with slots:=sl }
 free:∀b o,h.get? b=some o->H b=none->b∉ex->H' b=none
 there:∀b o,h.get? b=some o->b∉ex->∃o',h'.get? b=some o'
 By:∀b xs,H b=some (.tup xs)->H' b=some (.tup xs)
 lT:∀b o u,H b=some (.frz o u)->H' b=some (.frz o u)
 BV:∀b ps,H b=some (.tbl ps)->∃more,H' b=some (.tbl (ps++more))
section
variable{c g d i:fx}{H j l:Hp}{h f m h':Heap}{a x e:Addr}{o:HO}
theorem Un.any(u:Un c d H j h f){b:Addr}{k:Obj}(q:h.get? b=some k)(n:H b=none)(r:b∉d):∃s,f.get? b=some { k with slots:=s }:=by
 by_cases p:b∈c
 .exact u.slot b k q n p r
 .exact⟨k.slots,u.keep b k q n p r⟩
theorem Un.kept(k:∀b u,h.get? b=some u->h'.get? b=some u):Un c d H H h h':=⟨λb p q _ _ _=>k b p q,λb p q _ _ _=>⟨p.slots,k b p q⟩,λ_ _ _ n _=>n,λb p q _=>⟨p,k b p q⟩,λ_ _ q=>q,λ_ _ _ q=>q,λ_ r q=>⟨#[],by rw[q];simp⟩⟩
theorem Un.refl:Un c d H H h h:=Un.kept λ_ _ q=>q
theorem Un.laid(k:∀b u,h.get? b=some u->h'.get? b=some u)(s:h.objs.size<=a)(p:H a=none):Un c d H (upd H a o) h h' where
 keep:=λb u q _ _ _=>k b u q
 slot:=λb u q _ _ _=>⟨u.slots,k b u q⟩
 free:=λb u q n _=>by rw[aU (aF (aI (av q) s))];exact n
 there:=λb u q _=>⟨u,k b u q⟩
 By:=λb r q=>by rw[aU (cC q p)];exact q
 lT:=λb u r q=>by rw[aU (cC q p)];exact q
 BV:=λb t q=>⟨#[],by rw[aU (cC q p),q];simp⟩
theorem Un.write(s:Mut (H x))(B:e=x\/H e=some (.own x))(k:∀b u,b≠e->h.get? b=some u->h'.get? b=some u)(t:∃u,h'.get? e=some u):Un c d H (upd H x o) h h':=by
 have y:∀b,H b=none->b≠x:=λb n z=>by subst z;rw[n]at s;exact s
 have w:∀b,H b=none->b≠e:=λb n z=>by
  subst z;rcases B with r|r
  .exact y b n r
  .rw[n]at r;cases r
 have v:∀b u,H b=some u->¬Mut (some u)->b≠x:=λb u q C z=>by subst z;rw[q]at s;exact C s
 refine⟨λb u q n _ _=>k b u (w b n) q,λb u q n _ _=>⟨u.slots,k b u (w b n) q⟩,λb u q n _=>by rw[aU (y b n)];exact n,λb u q _=>?_,λb A q=>by rw[aU (v b _ q λz=>z)];exact q,λb u A q=>by rw[aU (v b _ q λz=>z)];exact q,λb D q=>⟨#[],by rw[aU (v b _ q λz=>z),q];simp⟩⟩
 by_cases p:b=e
 .subst p;exact t
 .exact⟨u,k b u p q⟩
end
def trk(h:Heap)(H:Hp):List Addr:=(List.range h.objs.size).filter λa=>(H a).isSome
def sj(h:Heap)(H:Hp):Heap:=PySem.W.hideAll h (trk h H)
theorem OB(h:Heap)(H:Hp):(sj h H).objs.size=h.objs.size:=PySem.W.hideAll_size _ _
theorem Ra{h:Heap}{H:Hp}{b:Addr}{o:Obj}(e:h.get? b=some o)(n:H b=none):(sj h H).get? b=some o:=PySem.W.hideAll_get _ e λa=>by
 have q:(H b).isSome=true:=(d9.mp a).2;rw[n]at q;simp at q
theorem Vb{h:Heap}{H:Hp}{b:Addr}{o:Obj}(e:(sj h H).get? b=some o):h.get? b=some o/\H b=none:=by
 have a:h.get? b=some o:=PySem.W.of_hideAll (trk h H) e;refine⟨a,?_⟩;cases q:H b with
 | none=>rfl
 | some x=>
   have c:b∈trk h H:=d9.mpr ⟨cR.mpr (av a),by simp[q]⟩;have z:(sj h H).get? b=none:=PySem.W.hideAll_none (trk h H) c;rw[z]at e;cases e
def U8(g h:Heap)(L:Addr):List (Addr×Obj):=(List.range h.objs.size).filterMap λa=>if a=L\/(g.get? a).isSome=true then none else(h.get? a).map λo=>(a,o)
def eG(g h:Heap)(L d:Addr):List (Addr×Obj):=(U8 g h L).filter λp=>decide (p.1≠d)
structure Mod(K:fg)(mg:f5)(base:Heap):Prop where
 kin:K.In base
 glob:base.Ns mainGlobals mg
 blt:∃mb,base.Ns builtinsNs mb/\∀x:Str,x≠"__name__"->mb x=bootBuiltins x
 nolimit:base.NoLimit
structure Cx where
 prog:Program
 w:World
 K:PySem.W.Frag
 mg:Str->Option Value
 base:Heap
 A:Around
 N:List Str
 s₀:Shared
 H₀:Hp
 env:Env
 outer:List Env
 stack:List Env
 ex:List Addr
 fn:Str->Bool
 calm:Bool
 pn:List (Addr×Obj)
 xe:Value->Shared->Prop
def ϗ(l:List Env):List Addr:=l.filterMap (·.frame)
abbrev Cx.fs(X:Cx):List Addr:=ϗ X.outer
def Vis(a:Scope)(x:Str):Prop:=a.names.lookup x=some .local\/a.names.lookup x=some .cell\/a.names.lookup x=some .free
def Loc(a:Scope)(x:Str):Prop:=a.names.lookup x=some .local\/a.names.lookup x=some .cell
def YO(a:Env)(h:Heap)(m:f5)(x:Str)(u:Value):Prop:=(a.kindOf x=some .local/\m x=some u)\/((a.kindOf x=some .cell\/a.kindOf x=some .free)/\∃c,a.cells.lookup x=some c/\h.IsCell c (some u))
structure Cx.Ok(X:Cx):Prop where
 mod:Mod X.K X.mg X.base
 kind:X.env.scope.kind=.function
 glob:X.env.globals=mainGlobals
 blt:X.env.builtins=builtinsNs
 above:X.s₀.heap.objs.size<=X.env.locals
 inj:∀x y c,X.env.cells.lookup x=some c->X.env.cells.lookup y=some c->x=y
 has:∀x,(X.env.kindOf x=some .cell\/X.env.kindOf x=some .free)->∃c,X.env.cells.lookup x=some c
 cab:∀x c,X.fn x=true->X.env.cells.lookup x=some c->X.s₀.heap.objs.size<=c
 hd:X.calm=true->X.A.handled=none
 frames:X.A.frames=some X.stack
 stk:X.stack=X.outer\/(X.stack=X.env::X.outer/\X.env.frame=some X.env.locals)
 exf:∀b∈X.ex,b≠X.env.locals/\∀x c,X.env.cells.lookup x=some c->c≠b
 bs:∀b o,X.base.get? b=some o->X.s₀.heap.get? b=some o/\X.H₀ b=none
 bsz:X.base.objs.size<=X.s₀.heap.objs.size
 aaI:∀b o,X.base.get? b=some o->b∉X.ex
 ZI:∀b∈X.ex,b∉X.fs
 Za:X.s₀.heap.FunFrames X.base X.outer
 frf:∀b∈X.fs,X.H₀ b=none
structure Inv(X:Cx)(pins:fv)(σ:List (Option V))(H:Hp)(s:Shared):Prop where
 ok:X.Ok
 os:s.os=X.s₀.os
 bare:AllBare s.gens
 base:Un X.fs X.ex X.H₀ H X.s₀.heap s.heap
 loc:∃m,s.heap.Ns X.env.locals m/\∀(i:Nat)(x:Str)(v:V),X.N[i]?=some x->σ[i]?=some (some v)->Vis X.env.scope x->∃u,RelV v u/\YO X.env s.heap m x u
 cell:∀x c,X.env.cells.lookup x=some c->∃v,s.heap.IsCell c v
 free:H X.env.locals=none
 ύ:∀x c,X.env.cells.lookup x=some c->H c=none
 pin:∀p∈X.pn++pins,s.heap.get? p.1=some p.2/\H p.1=none/\p.1≠X.env.locals/\p.1∉X.fs/\∀v,p.2.data≠.cell v
 Β:lE X.prog X.w H s.heap
 len:σ.length=X.N.length
section
variable{X:Cx}{f:fv}{g:List (Option V)}{H B:Hp}{s:Shared}{h':Heap}
theorem Cx.Ok.ajT(c:X.Ok){b:Addr}{o:Obj}(e:X.base.get? b=some o):b∉X.fs:=λa=>by
 have:=(c.Za.mem a).1;rw[e]at this;cases this
theorem Inv.bs(I:Inv X f g H s):∀b o,X.base.get? b=some o->s.heap.get? b=some o/\H b=none:=λb o e=>
 ⟨I.base.keep b o (I.ok.bs b o e).1 (I.ok.bs b o e).2 (I.ok.ajT e) (I.ok.aaI b o e),I.base.free b o (I.ok.bs b o e).1 (I.ok.bs b o e).2 (I.ok.aaI b o e)⟩
theorem Inv.bk(I:Inv X f g H s):∀b o,X.base.get? b=some o->s.heap.get? b=some o:=λb o e=>(I.bs b o e).1
theorem Inv.mod(I:Inv X f g H s):Mod X.K X.mg X.base:=I.ok.mod
theorem Inv.ZD(I:Inv X f g H s):X.K.In s.heap:=I.ok.mod.kin.keeps I.bk
theorem Inv.lt(I:Inv X f g H s):X.env.locals<s.heap.objs.size:=let ⟨_,hn,_⟩:=I.loc;hn.lt
theorem Inv.sz(I:Inv X f g H s):X.s₀.heap.objs.size<=s.heap.objs.size:=bh I.ok.above (iG I.lt)
theorem Inv.ajU(I:Inv X f g H s){a:Addr}(h:s.heap.objs.size<=a):a∉X.fs:=λc=>by
 obtain⟨_,o,b,_⟩:=I.ok.Za.mem c;exact absurd (aI (av b) (bh I.sz h)) (cA _)
theorem Inv.cne(I:Inv X f g H s):∀x c,X.env.cells.lookup x=some c->c≠X.env.locals:=λx c e z=>by
 obtain⟨v,o,b,d⟩:=I.cell x c e;obtain⟨m,⟨i,j,k,h,a,_⟩,_⟩:=I.loc;rw[z,h]at b;cases b;rw[a]at d;cases d
theorem Inv.Za(I:Inv X f g H s):s.heap.FunFrames X.base X.outer:=by
 have c:∀(l:List Env),(∀b∈ϗ l,b∈X.fs)->X.s₀.heap.FunFrames X.base l->s.heap.FunFrames X.base l:=by
  intro l
  induction l with
  | nil=>intro _ _;trivial
  | cons env r ih=>
    intro i q;obtain⟨k,⟨L,o,d,n,j,p⟩,m⟩:=q;have a:L∈X.fs:=i L (by unfold ϗ;rw[ft,d];exact aR);obtain⟨t,e⟩:=I.base.slot L o j (I.ok.frf L a) a λz=>I.ok.ZI L z a;exact⟨k,⟨L,_,d,n,e,p⟩,ih (λb h=>i b (by unfold ϗ;rw[ft,d];exact aK _ h)) m⟩
 exact c X.outer (λ_ h=>h) I.ok.Za
theorem Inv.stack(I:Inv X f g H s):s.heap.FunFrames X.base X.stack:=by
 rcases I.ok.stk with e|⟨e,b⟩
 .rw[e];exact I.Za
 .rw[e];obtain⟨m,a,_⟩:=I.loc;refine .cons (by rw[I.ok.kind];decide) b a ?_ I.Za;exact d0 (bh I.ok.bsz I.ok.above)
theorem Inv.aag(I:Inv X f g H s):∀b∈ϗ X.stack,b∈X.env.locals::X.fs:=λb a=>by
 rcases I.ok.stk with e|⟨e,c⟩
 .rw[e]at a;exact aK _ a
 .rw[e]at a;unfold ϗ at a;rw[ft,c]at a;exact a
theorem Inv.eQ(I:Inv X f g H s):∀b∈ϗ X.stack,H b=none:=λb hb=>by
 rcases az.mp (I.aag b hb)with e|hb
 .rw[e];exact I.free
 .obtain⟨_,o,ho,_⟩:=I.ok.Za.mem hb;exact I.base.free b o ho (I.ok.frf b hb) λz=>I.ok.ZI b z hb
theorem Inv.step{g':Array GenState}{t':Nat}{d':Drawn}{ch:fx}(I:Inv X f g H s)(h:∀b∈ch,(b∈X.ex\/X.s₀.heap.objs.size<=b)/\b≠X.env.locals/\(∀x c,X.env.cells.lookup x=some c->c≠b)/\∀p∈X.pn++f,p.1≠b)(keep:∀b o,b≠X.env.locals->b∉X.fs->b∉ch->s.heap.get? b=some o->H b=none->h'.get? b=some o)(slot:∀b o,b≠X.env.locals->b∈X.fs->b∉ch->s.heap.get? b=some o->H b=none->∃N,h'.get? b=some { o with slots:=N })(free:∀b o,b∉ch->s.heap.get? b=some o->H b=none->B b=none)(there:∀b o,b∉ch->s.heap.get? b=some o->∃G,h'.get? b=some G)(By:∀b C,H b=some (.tup C)->B b=some (.tup C))(lT:∀b o u,H b=some (.frz o u)->B b=some (.frz o u))(BV:∀b L,H b=some (.tbl L)->∃F,B b=some (.tbl (L++F)))(R:∀m,s.heap.Ns X.env.locals m->h'.Ns X.env.locals m)(S:lE X.prog X.w B h')(U:AllBare g'):Inv X f g B { s with heap:=h',gens:=g',drawn:=d',toks:=t' }:=by
 have J:∀b o,X.s₀.heap.get? b=some o->b≠X.env.locals:=λb o e=>aF (aI (av e) I.ok.above);have y:∀b o,X.s₀.heap.get? b=some o->b∉X.ex->b∉ch:=λb o e a D=>by
  rcases(h b D).1 with z|z
  .exact a z
  .exact absurd (aI (av e) z) (cA _)
 have t:∀x c,X.env.cells.lookup x=some c->∀v,s.heap.IsCell c v->h'.IsCell c v:=λx c e v ⟨o,E,M⟩=>by
  have j:c∉ch:=λz=>(h c z).2.2.1 x c e rfl;by_cases P:c∈X.fs
  .obtain⟨N,q⟩:=slot c o (I.cne x c e) P j E (I.ύ x c e);exact⟨_,q,M⟩
  .exact⟨o,keep c o (I.cne x c e) P j E (I.ύ x c e),M⟩
 refine⟨I.ok,I.os,U,⟨λb o e n D a=>?_,λb o e n D a=>?_,λb o e n a=>?_,λb o e a=>?_,λb C e=>By b C (I.base.By b C e),λb o C e=>lT b o C (I.base.lT b o C e),λb L e=>?_⟩,?_,λx c e=>?_,?_,λx c e=>?_,λp Q=>?_,S,I.len⟩
 .exact keep b o (J b o e) D (y b o e a) (I.base.keep b o e n D a) (I.base.free b o e n a)
 .obtain⟨N,A⟩:=I.base.slot b o e n D a;obtain⟨O,K⟩:=slot b _ (J b o e) D (y b o e a) A (I.base.free b o e n a);exact⟨O,K⟩
 .obtain⟨G,A⟩:=I.base.there b o e a;exact free b G (y b o e a) A (I.base.free b o e n a)
 .obtain⟨G,A⟩:=I.base.there b o e a;exact there b G (y b o e a) A
 .obtain⟨m1,A⟩:=I.base.BV b L e;obtain⟨T,K⟩:=BV b _ A;exact⟨m1++T,by rw[K,Array.append_assoc]⟩
 .obtain⟨m,hn,hl⟩:=I.loc;refine⟨m,R m hn,λi x v A K V=>?_⟩;obtain⟨u,r,l⟩:=hl i x v A K V;refine⟨u,r,?_⟩;rcases l with l|⟨k,c,e,z⟩
  .exact .inl l
  .exact .inr ⟨k,c,e,t x c e _ z⟩
 .obtain⟨v,z⟩:=I.cell x c e;exact⟨v,t x c e v z⟩
 .obtain⟨m,⟨o,_,_,E,_⟩,_⟩:=I.loc;exact free _ o (λz=>(h _ z).2.1 rfl) E I.free
 .obtain⟨v,o,E,M⟩:=I.cell x c e;exact free c o (λz=>(h c z).2.2.1 x c e rfl) E (I.ύ x c e)
 .obtain⟨e,n,ne,nf,d⟩:=I.pin p Q;have j:p.1∉ch:=λz=>(h p.1 z).2.2.2 p Q rfl;exact⟨keep p.1 p.2 ne nf j e n,free p.1 p.2 j e n,ne,nf,d⟩
theorem Inv.un{t':Nat}(I:Inv X f g H s)(u:Un X.fs [] H B s.heap h')(k:lE X.prog X.w B h'):Inv X f g B { s with heap:=h',toks:=t' }:=by
 obtain⟨m,⟨o,t,v,h,r⟩,_⟩:=id I.loc;obtain⟨x,j⟩:=u.any h I.free (by simp);exact I.step (g':=s.gens) (d':=s.drawn) (ch:=[]) (λ_ z=>nomatch z) (λb o _ d _ e n=>u.keep b o e n d (by simp)) (λb o _ d _ e n=>u.slot b o e n d (by simp)) (λb o _ e n=>u.free b o e n (by simp)) (λb o _ e=>u.there b o e (by simp)) u.By u.lT u.BV (λy l=>by
  obtain⟨q,a,c,i,p⟩:=l;rw[h]at i;cases i;exact⟨_,a,c,j,p⟩) k I.bare
theorem Inv.call{g':Array GenState}{t':Nat}{d':Drawn}{ch:fx}(I:Inv X f g H s)(u:Un (ϗ X.stack) ch H B s.heap h')(q:lE X.prog X.w B h')(y:AllBare g')(d:∀b∈ch,(b∈X.ex\/X.s₀.heap.objs.size<=b)/\b≠X.env.locals/\(∀x c,X.env.cells.lookup x=some c->c≠b)/\∀p∈X.pn++f,p.1≠b):Inv X f g B { s with heap:=h',gens:=g',drawn:=d',toks:=t' }:=by
 obtain⟨m,⟨o,D,E,k,r⟩,_⟩:=id I.loc;obtain⟨F,h⟩:=u.any k I.free λz=>(d _ z).2.1 rfl;exact I.step (ch:=ch) d (λb o h v a e n=>u.keep b o e n (λz=>(az.mp (I.aag b z)).elim h v) a) (λb o _ _ a e n=>u.any e n a) (λb o a e n=>u.free b o e n a) (λb o a e=>u.there b o e a) u.By u.lT u.BV (λG t=>by
  obtain⟨C,i,j,l,A⟩:=t;rw[k]at l;cases l;exact⟨_,i,j,h,A⟩) q y
theorem Inv.turned{t':Nat}{it:Addr}(I:Inv X f g H s)(k:∀b o,b≠it->s.heap.get? b=some o->h'.get? b=some o)(j:H it=none)(h:it≠X.env.locals)(i:it∈X.ex\/X.s₀.heap.objs.size<=it)(y:∀x c,X.env.cells.lookup x=some c->c≠it)(w:∀p∈X.pn++f,p.1≠it):Inv X f g H { s with heap:=h',toks:=t' }:=by
 have d:∀b u,H b=some u->b≠it:=λb u e z=>by rw[z,j]at e;cases e
 refine I.step (g':=s.gens) (d':=s.drawn) (ch:=[it]) (λb t=>?_) (λb o _ _ a e _=>k b o (λz=>a (by simp[z])) e) (λb o _ _ a e _=>⟨o.slots,k b o (λz=>a (by simp[z])) e⟩) (λ_ _ _ _ n=>n)
  (λb o a e=>⟨o,k b o (λz=>a (by simp[z])) e⟩) (λ_ _ e=>e) (λ_ _ _ e=>e) (λb A e=>⟨#[],by rw[e];simp⟩) (λm l=>?_) (λb u e=>?_) I.bare
 .have e:b=it:=by simpa using t
  subst e;exact⟨i,h,y,w⟩
 .obtain⟨o,es,ep,ho,r⟩:=l;exact⟨o,es,ep,k _ o (Ne.symm h) ho,r⟩
 .refine(I.Β b u e).Bv (λc v a q=>k c v ?_ q) (λ_ q=>q) λ_ _ q=>q;rcases a with z|z
  .rw[z];exact d b u e
  .exact d c _ z
theorem Inv.tok(I:Inv X f g H s)(t:Nat):Inv X f g H { s with toks:=t }:=I.un (h':=s.heap) (t':=t) Un.refl I.Β
theorem Inv.kept{t':Nat}(I:Inv X f g H s)(k:∀b u,s.heap.get? b=some u->h'.get? b=some u):Inv X f g H { s with heap:=h',toks:=t' }:=I.un (Un.kept k) (I.Β.kept k)
theorem Inv.laid{a:Addr}{o:HO}{t':Nat}(I:Inv X f g H s)(k:∀b u,s.heap.get? b=some u->h'.get? b=some u)(c:s.heap.objs.size<=a)(d:Μ X.prog X.w (upd H a o) h' a o):Inv X f g (upd H a o) { s with heap:=h',toks:=t' }:=I.un (Un.laid k c (I.Β.fresh c)) (I.Β.laid k c d)
theorem Inv.write{x e:Addr}{o:HO}{t':Nat}(I:Inv X f g H s)(h:Mut (H x))(d:e=x\/H e=some (.own x))(k:∀b u,b≠e->s.heap.get? b=some u->h'.get? b=some u)(a:∃u,h'.get? e=some u)(c:Μ X.prog X.w (upd H x o) h' x o):Inv X f g (upd H x o) { s with heap:=h',toks:=t' }:=I.un (Un.write h d k a) (I.Β.write h d k a c)
theorem Inv.abu{a:fv}(I:Inv X f g H s)(h:∀p∈a,s.heap.get? p.1=some p.2/\H p.1=none/\p.1≠X.env.locals/\p.1∉X.fs/\∀v,p.2.data≠.cell v):Inv X a g H s:=⟨I.ok,I.os,I.bare,I.base,I.loc,I.cell,I.free,I.ύ,λp b=>(aV.mp b).elim (λz=>I.pin p (bi _ z)) (h p),I.Β,I.len⟩
theorem DZ{N:gy}(e:N.Nodup){i j:Nat}{x:Str}(a:N[i]?=some x)(b:N[j]?=some x):i=j:=by
 obtain⟨h,d⟩:=aH.mp a;obtain⟨k,c⟩:=aH.mp b;exact(List.getElem_inj e).mp (d.trans c.symm)
theorem uu{M:Model}{A:Around}{E:eF}{i:Nat}{x:Str}{v:V}{u:Value}{Q:Unit->Shared->Prop}(I:Inv X f g H s)(hN:X.N.Nodup)(O:X.N[i]?=some x)(D:Loc X.env.scope x)(r:RelV v u)(h:∀T,Inv X f (g.set i (some v)) H T->(∃a,Heap.SameBut a s.heap T.heap/\(a=X.env.locals\/X.env.cells.lookup x=some a))->Q () T)(hf:X.fn x=true\/X.env.scope.names.lookup x=some .local:=by first|exact .inl rfl|exact .inr rfl|assumption):wpAny M A (storeName X.env x u) Q E s:=by
 obtain⟨m,U,hl⟩:=id I.loc;have W:(X.env.scope.kind==.class||(X.env.scope.kind==.module&&X.env.locals != X.env.globals))=false:=by rw[I.ok.kind];rfl
 have P:i<g.length:=by rw[I.len];exact(aH.mp O).1
 have cne:=I.cne;have t:∀{a:Addr}{h':Heap},(∃o,s.heap.get? a=some o/\H a=none)->Heap.SameBut a s.heap h'->lE X.prog X.w H h':=λ{a h'} ha l b ob e=>by
  obtain⟨_,_,J⟩:=ha;refine(I.Β b ob e).Bv (λc S hc q=>(l.2 c ?_).trans q) (λ_ q=>q) λ_ _ q=>q;rintro rfl;rcases hc with rfl|hc
  .rw[J]at e;cases e
  .rw[J]at hc;cases hc
 rcases D with hk|hk
 .refine wpAny_storeName_local hk U (λh' Z l=>?_) W;obtain⟨oL,_,_,ac,_⟩:=id U;refine h _ ⟨I.ok,I.os,I.bare,⟨λb o e n G D=>?_,λb o e n G D=>?_,I.base.free,λb o e D=>?_,I.base.By,I.base.lT,I.base.BV⟩,⟨_,Z,λj y v' C F e3=>?_⟩,λy c e=>?_,I.free,I.ύ,λp hp=>?_,t ⟨oL,ac,I.free⟩ l,by simpa using I.len⟩ ⟨_,l,.inl rfl⟩
  .exact(l.2 b (aF (aI (av e) I.ok.above))).trans (I.base.keep b o e n G D)
  .obtain⟨sl,C⟩:=I.base.slot b o e n G D;exact⟨sl,(l.2 b (aF (aI (av e) I.ok.above))).trans C⟩
  .obtain⟨o',C⟩:=I.base.there b o e D;exact⟨o',(l.2 b (aF (aI (av e) I.ok.above))).trans C⟩
  .by_cases hj:j=i
   .subst hj;rw[O]at C;cases C;rw[dc P]at F;cases F;exact⟨u,r,.inl ⟨hk,by simp⟩⟩
   .rw[dZ (Ne.symm hj)]at F;obtain⟨u',r',q⟩:=hl j y v' C F e3;refine⟨u',r',?_⟩;rcases q with⟨k,e⟩|⟨k,c,e,z⟩
    .refine .inl ⟨k,?_⟩;have:y≠x:=λe=>hj (DZ hN C (e▸O));simp[this,e]
    .exact .inr ⟨k,c,e,z.sameBut l (cne y c e)⟩
  .obtain⟨S,z⟩:=I.cell y c e;exact⟨S,z.sameBut l (cne y c e)⟩
  .obtain⟨e,n,ne,nf,d⟩:=I.pin p hp;exact⟨(l.2 p.1 ne).trans e,n,ne,nf,d⟩
 .have hfn:X.fn x=true:=by
   rcases hf with z|z
   .exact z
   .rw[z]at hk;cases hk
  obtain⟨c,hc⟩:=I.ok.has x (.inl hk);obtain⟨S,z⟩:=I.cell x c hc;refine wpAny_storeName_cell I.ok.kind hk hc z (λh' L l=>?_);obtain⟨oc,K,Y⟩:=id z;refine h { s with heap:=h' } ⟨I.ok,I.os,I.bare,⟨λb o e n G D=>?_,λb o e n G D=>?_,I.base.free,λb o e D=>?_,I.base.By,I.base.lT,I.base.BV⟩,⟨m,U.sameBut l (Ne.symm (cne x c hc)),λj y v' C F e3=>?_⟩,λy R e=>?_,I.free,I.ύ,λp hp=>?_,t ⟨oc,K,I.ύ x c hc⟩ l,by simpa using I.len⟩ ⟨c,l,.inr hc⟩
  .exact(l.2 b (aF (aI (av e) (I.ok.cab x c hfn hc)))).trans (I.base.keep b o e n G D)
  .obtain⟨sl,C⟩:=I.base.slot b o e n G D;exact⟨sl,(l.2 b (aF (aI (av e) (I.ok.cab x c hfn hc)))).trans C⟩
  .obtain⟨o',C⟩:=I.base.there b o e D;exact⟨o',(l.2 b (aF (aI (av e) (I.ok.cab x c hfn hc)))).trans C⟩
  .by_cases hj:j=i
   .subst hj;rw[O]at C;cases C;rw[dc P]at F;cases F;exact⟨u,r,.inr ⟨.inl hk,c,hc,L⟩⟩
   .rw[dZ (Ne.symm hj)]at F;obtain⟨u',r',q⟩:=hl j y v' C F e3;refine⟨u',r',?_⟩;rcases q with q|⟨k,R,e,z'⟩
    .exact .inl q
    .refine .inr ⟨k,R,e,z'.sameBut l ?_⟩;rintro rfl;exact hj (DZ hN C (I.ok.inj _ _ _ e hc▸O))
  .by_cases hcc:R=c
   .subst hcc;exact⟨_,L⟩
   .obtain⟨w2,z2⟩:=I.cell y R e;exact⟨w2,z2.sameBut l hcc⟩
  .obtain⟨e,n,ne,nf,d⟩:=I.pin p hp;refine⟨(l.2 p.1 ?_).trans e,n,ne,nf,d⟩;intro q;rw[q,K]at e;have q':oc=p.2:=bo e;exact d S (by rw[<-q'];exact Y)
theorem Er{M:Model}{A:Around}{E:eF}{i:Nat}{x:Str}{v:V}{u:Value}{Q:Unit->Shared->Prop}(I:Inv X f g H s)(j:X.N.Nodup)(e:X.N[i]?=some x)(d:Loc X.env.scope x)(r:RelV v u)(h:∀a,Inv X f (g.set i (some v)) H a->Q () a)(b:X.fn x=true\/X.env.scope.names.lookup x=some .local:=by first|exact .inl rfl|exact .inr rfl|assumption):wpAny M A (storeName X.env x u) Q E s:=uu I j e d r (λa c _=>h a c) b
theorem Inv.abv{s':Shared}{ch:fx}(I:Inv X f g H s)(h:s'.os=s.os)(u:Un (ϗ X.stack) ch H B s.heap s'.heap)(j:lE X.prog X.w B s'.heap)(i:AllBare s'.gens)(a:∀b∈ch,(b∈X.ex\/X.s₀.heap.objs.size<=b)/\b≠X.env.locals/\(∀x c,X.env.cells.lookup x=some c->c≠b)/\∀p∈X.pn++f,p.1≠b):Inv X f g B s':=by
 obtain⟨h',g',d',t',d⟩:=s';have e:d=s.os:=h;subst e;exact I.call (g':=g') (t':=t') (d':=d') u j i a
end
abbrev XK:=Value->Option Addr->Hp->Prop
abbrev St:=List (Option V)
abbrev VK:=V->Hp->Prop
abbrev TE:=St->Hp->VK->Prop
abbrev TT:=St->Hp->(Bool->Hp->Prop)->Prop
abbrev TA:=St->Hp->(List V->Hp->Prop)->Prop
structure Ends where
 nx:St->Hp->Prop
 rt:VK
 bk:St->Hp->Prop:=λ_ _=>False
 ct:St->Hp->Prop:=λ_ _=>False
abbrev TS:=Ends->St->Hp->Prop
def EP(X:Cx)(a:fv)(d:St)(Q:VK)(u:Value)(c:Shared):Prop:=∃v b,Inv X a d b c/\RelV v u/\Q v b
def TP(X:Cx)(a:fv)(e:St)(Q:Bool->Hp->Prop)(b:Bool)(d:Shared):Prop:=∃c,Inv X a e c d/\Q b c
def AP(X:Cx)(a:fv)(e:St)(Q:List V->Hp->Prop)(f:fy)(d:Shared):Prop:=∃b c,Inv X a e c d/\Vals b f/\Q b c
def SP(X:Cx)(b:fv)(D:Ends)(f:Flow)(d:Shared):Prop:=match f with
 | .next=>∃a c,Inv X b a c d/\D.nx a c
 | .brk=>∃a c,Inv X b a c d/\D.bk a c
 | .cont=>∃a c,Inv X b a c d/\D.ct a c
 | .ret u=>∃v a c,Inv X b a c d/\RelV v u/\D.rt v c
def PE(X:Cx)(e:Expr)(t:TE):Prop:=∀(a:fv)(s:Shared)(b:St)(H:Hp)(Q:VK),Inv X a b H s->t b H Q->wpAny (model X.prog X.w) X.A (eval e X.env) (EP X a b Q) X.xe s
def PT(X:Cx)(e:Expr)(t:TT):Prop:=∀(a:fv)(s:Shared)(b:St)(H:Hp)(Q:Bool->Hp->Prop),Inv X a b H s->t b H Q->wpAny (model X.prog X.w) X.A (isTrue e X.env (eval e X.env)) (TP X a b Q) X.xe s
def PW(X:Cx)(e:Expr)(t:TT):Prop:=∀(b:Sem Value)(a:fv)(s:Shared)(c:St)(H:Hp)(Q:Bool->Hp->Prop),Inv X a c H s->t c H Q->wpAny (model X.prog X.w) X.A (isTrue e X.env b) (TP X a c Q) X.xe s
theorem PW.pt{X:Cx}{e:Expr}{t:TT}(h:PW X e t):PT X e t:=h _
def PA(X:Cx)(d:List Expr)(t:TA):Prop:=∀(b:Pos)(a:fv)(s:Shared)(c:St)(H:Hp)(Q:List V->Hp->Prop),Inv X a c H s->t c H Q->wpAny (model X.prog X.w) X.A (spliced (backTo b (starEach d X.env))) (AP X a c Q) X.xe s
def PS(X:Cx)(st:Stmt)(t:TS):Prop:=∀(a:fv)(s:Shared)(b:St)(H:Hp)(D:Ends),Inv X a b H s->t D b H->wpAny (model X.prog X.w) X.A (exec st X.env) (SP X a D) X.xe s
def PSs(X:Cx)(st:List Stmt)(t:TS):Prop:=∀(a:fv)(s:Shared)(b:St)(H:Hp)(D:Ends),Inv X a b H s->t D b H->wpAny (model X.prog X.w) X.A (execs st X.env) (SP X a D) X.xe s
theorem Ψ{b:Type}{t:Sem b}{Q c:b->Shared->Prop}{M:Model}{A:Around}{E:eF}{s:Shared}(h:wpAny M A t Q E s)(d:∀a s,Q a s->c a s):wpAny M A t c E s:=aX h d λ_ _ x=>x
theorem cP{t:Sem Value}{X:Cx}{a:fv}{b:St}{Q:VK}{c:eF}{M:Model}{A:Around}{E:eF}{s:Shared}(h:wpAny M A t (EP X a b Q) E s)(d:∀u s v H,Inv X a b H s->RelV v u->Q v H->c u s):wpAny M A t c E s:=Ψ h λu s ⟨v,H,I,r,q⟩=>d u s v H I r q
theorem pM{t:Sem (List Value)}{X:Cx}{a:fv}{b:St}{Q:List V->Hp->Prop}{c:List Value->Shared->Prop}{M:Model}{A:Around}{E:eF}{s:Shared}(h:wpAny M A t (AP X a b Q) E s)(d:∀u s v H,Inv X a b H s->Vals v u->Q v H->c u s):wpAny M A t c E s:=Ψ h λu s ⟨v,H,I,r,q⟩=>d u s v H I r q
theorem uy{t:Sem Bool}{X:Cx}{a:fv}{b:St}{Q:Bool->Hp->Prop}{c:Bool->Shared->Prop}{M:Model}{A:Around}{E:eF}{s:Shared}(h:wpAny M A t (TP X a b Q) E s)(d:∀u s H,Inv X a b H s->Q u H->c u s):wpAny M A t c E s:=Ψ h λu s ⟨H,I,q⟩=>d u s H I q
section
variable{X:Cx}
def u6(i:Nat):TE:=λa H Q=>∃v,a[i]?=some (some v)/\Q v H
def tC(v:V):TE:=λ_ H Q=>Q v H
theorem CY{i:Nat}{x:Str}{f:Pos}(p:X.N[i]?=some x)(k:Vis X.env.scope x)(g:(x==("__debug__":Str))=false:=by decide)(d:(x==("__classdict__":Str))=false:=by decide):PE X (.Name x f) (u6 i):=by
 intro b s o H Q I h;obtain⟨v,e,h⟩:=h;obtain⟨m,j,n⟩:=I.loc;obtain⟨u,r,l⟩:=n i x v p e k;have a:EP X b o Q u s:=⟨v,H,I,r,h⟩;rcases l with⟨hk,hm⟩|⟨hk,c,hc,Zt⟩
 .exact wpAny_Name (wpAny_loadName_local I.ok.kind hk j hm a) g
 .rcases hk with hk|hk
  .exact wpAny_Name (wpAny_loadName_cell I.ok.kind hk hc Zt a) g
  .exact wpAny_Name (wpAny_loadName_free I.ok.kind hk hc Zt a d) g
theorem ay{i j pos}:PE X (.Constant (.int i) j pos) (tC (.int i)):=λ_ _ _ H _ I h=>wpAny_Constant_int ⟨.int i,H,I.tok _,⟨_,rfl⟩,h⟩
theorem vK{b j pos}:PE X (.Constant (.bool b) j pos) (tC (.bl b)):=λ_ _ _ H _ I h=>Constant_bool ⟨.bl b,H,I,rfl,h⟩
theorem W6{j pos}:PE X (.Constant .none j pos) (tC .Θ):=λ_ _ _ H _ I h=>Constant_none ⟨.Θ,H,I,rfl,h⟩
theorem aM{x j pos}:PE X (.Constant (.str x) j pos) (tC (.str x)):=λ_ _ _ H _ I h=>Calls.Constant_str ⟨.str x,H,I.tok _,⟨_,rfl⟩,h⟩
def Gl(X:Cx)(x:Str):Prop:=X.env.kindOf x=some .globalImplicit
theorem mQ{E:eF}{a:fv}{s:Shared}{c:St}{H:Hp}{x:Str}{u:Value}{b:Pos}{Q:eF}(I:Inv X a c H s)(d:Gl X x)(f:X.mg x=some u)(h:Q u s)(e:(x==("__debug__":Str))=false:=by decide):wpAny (model X.prog X.w) X.A (eval (.Name x b) X.env) Q E s:=iu I.ok.kind d (Calls.loadGlobal_global (by rw[I.ok.glob];exact I.mod.glob.keeps I.bk) f h) e
theorem pW{E:eF}{a:fv}{s:Shared}{i:St}{H:Hp}{x:Str}{u:Value}{b:Pos}{Q:eF}(I:Inv X a i H s)(j:Gl X x)(f:X.mg x=none)(g:bootBuiltins x=some u)(h:Q u s)(d:x≠"__name__":=by decide)(e:(x==("__debug__":Str))=false:=by decide):wpAny (model X.prog X.w) X.A (eval (.Name x b) X.env) Q E s:=by
 obtain⟨l,c,k⟩:=I.mod.blt;exact iu I.ok.kind j (Calls.loadGlobal_builtin (by rw[I.ok.glob];exact I.mod.glob.keeps I.bk) f (by rw[I.ok.blt];exact c.keeps I.bk) ((k x d).trans g) h) e
theorem AD{x:Str}{v:V}{u:Value}{a:Pos}(b:Gl X x)(d:X.mg x=some u)(r:RelV v u)(c:(x==("__debug__":Str))=false:=by decide):PE X (.Name x a) (tC v):=λ_ _ _ H _ I h=>mQ I b d ⟨v,H,I,r,h⟩ c
variable{a b:Expr}{k o:TE}{pos:Pos}
def PC(X:Cx)(g:CmpOp)(a b:Expr)(t:TE):Prop:=∀(c:fv)(s:Shared)(f:St)(H:Hp)(Q:VK),Inv X c f H s->t f H Q->wpAny (model X.prog X.w) X.A (eval a X.env) (λv e=>wpAny (model X.prog X.w) X.A (eval b X.env) (λu d=>wpAny (model X.prog X.w) X.A (compareOp g v u) (EP X c f Q) X.xe d) X.xe e) X.xe s
def tB(t:TE):TT:=λd H Q=>t d H λx e=>∃c,x=.bl c/\Q c e
theorem V5{g:CmpOp}{t:TE}(h:PC X g a b t)(f:behindInMarks g b=false:=by first|exact ahk _ (by decide) (by decide)|rfl):PT X (.Compare a [g] [b] pos) (tB t):=by
 intro e s p H Q I j;refine wpAny_isTrue_Compare1 (Ψ (h e s p H _ I j) λv w f=>Ψ f λu z r=>Ψ r λc y ⟨x,m,l,n,i⟩=>?_) f;obtain⟨d,rfl,q⟩:=i;cases n;exact bX ⟨m,l,q⟩
theorem nj{e:Expr}{t:TE}(h:PE X e t)(m:∀c,isTrue e X.env c=(do let v <-c;standAt e.pos;holding [v] (truthy v)):=by intro _;rfl):PT X e (tB t):=by
 intro f s p H Q I i;refine isTrue_plain (cP (h f s p H _ I i) λv r x l j n g=>?_) (m _);obtain⟨d,rfl,q⟩:=g;cases n;exact bX ⟨l,j,q⟩
variable{f g:TT}{n:List Expr}
def Qt(t u:TT):TT:=λd H Q=>t d H λc e=>if c=true then u d e Q else Q false e
def tOr(t u:TT):TT:=λd H Q=>t d H λc e=>if c=true then Q true e else u d e Q
def Qi(t:TT):TT:=λd H Q=>t d H λc e=>Q (!c) e
theorem vz(j:PT X a f):PW X (.BoolOp .And [a] pos) f:=by
 intro m d s i H Q I h;refine isTrue_and (Ψ (j d s i H Q I h) λc l e=>?_);cases c with
 | true=>exact isTrue_and_nil e
 | false=>exact e
theorem rM(j:PT X a f):PW X (.BoolOp .Or [a] pos) f:=by
 intro m d s i H Q I h;refine isTrue_or (Ψ (j d s i H Q I h) λc l e=>?_);cases c with
 | false=>exact isTrue_or_nil e
 | true=>exact e
theorem yq(q:PT X a f)(p:PW X (.BoolOp .And (b::n) pos) g):PW X (.BoolOp .And (a::b::n) pos) (Qt f g):=by
 intro r d s j H Q I h;refine isTrue_and (uy (q d s j H _ I h) λc m l i e=>?_);cases c with
 | true=>exact p r d m j l Q i e
 | false=>exact⟨l,i,e⟩
theorem vL(q:PT X a f)(p:PW X (.BoolOp .Or (b::n) pos) g):PW X (.BoolOp .Or (a::b::n) pos) (tOr f g):=by
 intro r d s j H Q I h;refine isTrue_or (uy (q d s j H _ I h) λc m l i e=>?_);cases c with
 | true=>exact⟨l,i,e⟩
 | false=>exact p r d m j l Q i e
theorem kU(i:PT X a f):PT X (.UnaryOp .Not a pos) (Qi f):=by
 intro d s e H Q I h;exact isTrue_not (i d s e H (λc j=>Q (!c) j) I h)
def LI(k o:TE):TE:=λd H Q=>k d H λx e=>∃c,x=.bl c/\if c=true then o d e Q else Q (.bl false) e
def Q3(k o:TE):TE:=λd H Q=>k d H λx e=>∃c,x=.bl c/\if c=true then Q (.bl true) e else o d e Q
theorem yB{op}{t:TE}(h:PE X a t):PE X (.BoolOp op [a] pos) t:=λc s e H Q I d=>BoolOp_one (h c s e H Q I d)
theorem zh(r:PE X a k)(q:PE X (.BoolOp .And (b::n) pos) o):PE X (.BoolOp .And (a::b::n) pos) (LI k o):=by
 intro d s j H Q I h;refine BoolOp_and (cP (r d s j H _ I h) λv m x l i p e=>?_);obtain⟨c,rfl,e⟩:=e;cases p;refine bX ?_;cases c with
 | true=>exact q d m j l Q i e
 | false=>exact⟨.bl false,l,i,rfl,e⟩
theorem Xo(r:PE X a k)(q:PE X (.BoolOp .Or (b::n) pos) o):PE X (.BoolOp .Or (a::b::n) pos) (Q3 k o):=by
 intro d s j H Q I h;refine BoolOp_or (cP (r d s j H _ I h) λv m x l i p e=>?_);obtain⟨c,rfl,e⟩:=e;cases p;refine bX ?_;cases c with
 | false=>exact q d m j l Q i e
 | true=>exact⟨.bl true,l,i,rfl,e⟩
end
def Η(K:fg)(H:Hp)(a:Addr)(xs:List V):Prop:=Rd H a (.lst xs)\/∃(o:Obj)(b:Array Value)(n:Nat),K.lookup a=some o/\o.cls=.type "list"/\o.dict=none/\o.data=.seq b n/\b.size<=sizeLine/\Vals xs b.toList
def Ξ(K:fg)(H:Hp)(a:Addr)(xs:List V):Prop:=Rd H a (.tup xs)\/∃(o:Obj)(b:Array Value)(n:Nat),K.lookup a=some o/\o.cls=.type "tuple"/\o.data=.seq b n/\b.size<=sizeLine/\Vals xs b.toList
def YB:Value->Option V
 | .none=>some .Θ
 | .bool b=>some (.bl b)
 | .int i _=>some (.int i)
 | .str x _=>some (.str x)
 | .bytes b _=>some (.byt b)
 | .float b _=>some (.flt b)
 | .ref a=>some (.ref a)
 | .type n=>some (.ty n)
 | _=>none
theorem RelV.abs{x:V}{u:Value}(r:RelV x u):YB u=some x:=by
 cases x with
 | Θ=>cases r;rfl
 | bl _=>cases r;rfl
 | int _=>obtain⟨t,rfl⟩:=r;rfl
 | str _=>obtain⟨t,rfl⟩:=r;rfl
 | byt _=>obtain⟨t,rfl⟩:=r;rfl
 | flt _=>obtain⟨t,rfl⟩:=r;rfl
 | ref _=>cases r;rfl
 | ty _=>cases r;rfl
theorem RelV.inj{x y:V}{u:Value}(r:RelV x u)(q:RelV y u):x=y:=bo (r.abs.symm.trans q.abs)
theorem Vals.inj{b a:List V}{c:fy}(h:Vals b c)(d:Vals a c):b=a:=by
 induction h generalizing a with
 | nil=>cases d;rfl
 | cons r _ ih=>cases d with|cons r2 t2=>rw[r.inj r2,ih t2]
section
variable{X:Cx}{b:fv}{f:St}{H:Hp}{s:Shared}{a:Addr}{xs c:List V}
theorem Η.of{K:fg}(h:H a=some (.lst xs)):Η K H a xs:=.inl (.inl h)
theorem Ξ.of{K:fg}(h:H a=some (.tup xs)):Ξ K H a xs:=.inl (.inl h)
theorem Inv.list(I:Inv X b f H s)(h:Η X.K H a xs):∃d:List Value,Vals xs d/\PlainL s.heap a d.toArray/\xs.length<=sizeLine:=by
 rcases h with h|⟨o,d,n,i,k,j,g,l,r⟩
 .obtain⟨z,d,n,r,e⟩:=h.ok I.Β;exact⟨d,r,⟨_,n,e,rfl,rfl,rfl⟩,z⟩
 .refine⟨d.toList,r,⟨o,n,I.ZD a o i,k,j,by simpa using g⟩,?_⟩;have e:=r.length;simp only[eE]at e
  lia
theorem Inv.tuple(I:Inv X b f H s)(h:Ξ X.K H a xs):∃d:List Value,Vals xs d/\IsTup s.heap a d.toArray/\xs.length<=sizeLine:=by
 rcases h with h|⟨o,d,n,i,j,g,k,r⟩
 .obtain⟨z,d,r,p⟩:=h.ok I.Β;exact⟨d,r,p,z⟩
 .refine⟨d.toList,r,⟨o,I.ZD a o i,j,n,by simpa using g⟩,?_⟩;have e:=r.length;simp only[eE]at e
  lia
theorem Inv.ZJ(I:Inv X b f H s)(h:Η X.K H a xs)(l:Η X.K H a c):xs=c:=by
 obtain⟨k,r,⟨o,n,e,_,_,d⟩,_⟩:=I.list h;obtain⟨g,m,⟨p,q,i,_,_,j⟩,_⟩:=I.list l;rw[e]at i;cases i;rw[d]at j;injection j with d1 _
 have:k=g:=by simpa using congrArg Array.toList d1
 subst this;exact r.inj m
theorem Inv.aac(I:Inv X b f H s)(h:Ξ X.K H a xs)(l:Ξ X.K H a c):xs=c:=by
 obtain⟨k,r,⟨o,e,_,n,d⟩,_⟩:=I.tuple h;obtain⟨g,m,⟨p,i,_,q,j⟩,_⟩:=I.tuple l;rw[e]at i;cases i;rw[d]at j;injection j with d1 _
 have:k=g:=by simpa using congrArg Array.toList d1
 subst this;exact r.inj m
end
abbrev Cx.wish(X:Cx)(E:eF):Cx:={ X with xe:=E }
abbrev Cx.nox(X:Cx):Cx:=X.wish λ_ _=>False
theorem Cx.Ok.wish{X:Cx}(a:X.Ok)(E:eF):(X.wish E).Ok:=⟨a.mod,a.kind,a.glob,a.blt,a.above,a.inj,a.has,a.cab,a.hd,a.frames,a.stk,a.exf,a.bs,a.bsz,a.aaI,a.ZI,a.Za,a.frf⟩
theorem Cx.Ok.Ϙ{X:Cx}{E:eF}(a:(X.wish E).Ok):X.Ok:=⟨a.mod,a.kind,a.glob,a.blt,a.above,a.inj,a.has,a.cab,a.hd,a.frames,a.stk,a.exf,a.bs,a.bsz,a.aaI,a.ZI,a.Za,a.frf⟩
section
variable{X:Cx}{a:fv}{b:St}{H:Hp}{s:Shared}{E:eF}
theorem Inv.wish(I:Inv X a b H s)(E:eF):Inv (X.wish E) a b H s:=⟨I.ok.wish E,I.os,I.bare,I.base,I.loc,I.cell,I.free,I.ύ,I.pin,I.Β,I.len⟩
theorem Inv.Ϙ(I:Inv (X.wish E) a b H s):Inv X a b H s:=⟨I.ok.Ϙ,I.os,I.bare,I.base,I.loc,I.cell,I.free,I.ύ,I.pin,I.Β,I.len⟩
theorem SP.Ϙ{D:Ends}{f:Flow}{e:Shared}(h:SP (X.wish E) a D f e):SP X a D f e:=by
 cases f with
 | next=>obtain⟨c,d,I,q⟩:=h;exact⟨c,d,I.Ϙ,q⟩
 | brk=>obtain⟨c,d,I,q⟩:=h;exact⟨c,d,I.Ϙ,q⟩
 | cont=>obtain⟨c,d,I,q⟩:=h;exact⟨c,d,I.Ϙ,q⟩
 | ret u=>obtain⟨v,c,d,I,r,q⟩:=h;exact⟨v,c,d,I.Ϙ,r,q⟩
theorem PSs.nox{st:List Stmt}{t:TS}(h:PSs X.nox st t):PSs X st t:=λa s b H D I c=>
 aX (h a s b H D (I.wish _) c) (λ_ _ q=>q.Ϙ) λ_ _ z=>False.elim z
end
section
variable{X:Cx}{j:Stmt}{k:List Stmt}{t u:TS}{e:Expr}{i:TE}{g:Pos}
def acg:TS:=λD a H=>D.nx a H
def Mw(t u:TS):TS:=λD a H=>t { D with nx:=u D } a H
theorem bK:PSs X [] acg:=λ_ _ a H _ I h=>d8 ⟨a,H,I,h⟩
theorem au(o:PS X j t)(n:PSs X k u):PSs X (j::k) (Mw t u):=by
 intro a s d H D I h;refine iP (Ψ (o a s d H { D with nx:=u D } I h) λf c q=>?_);cases f with
 | next=>
   obtain⟨b,m,l,q⟩:=q;exact n a c b m D l q
 | ret v=>exact q
 | brk=>exact q
 | cont=>exact q
theorem aA(c:PS X j t):PSs X [j] t:=by
 intro a s b H D I h;refine iP (Ψ (c a s b H D I h) λf d q=>?_);cases f with
 | next=>exact d8 q
 | ret v=>exact q
 | brk=>exact q
 | cont=>exact q
theorem Inv.quiet{a:fv}{b:St}{H:Hp}{s:Shared}(I:Inv X a b H s):interactive X.env=false:=by simp[interactive,I.ok.kind]
def MJ(i:TE):TS:=λD a H=>i a H λ_ b=>D.nx a b
theorem bU(d:PE X e i)(f:swapsWith e none g.line X.env=pure false:=by rfl):PS X (.Expr e g) (MJ i):=by
 intro a s b H D I h;exact wpAny_Expr_any (cP (d a s b H _ I h) λv n x m l o c=>⟨b,m,l,c⟩) I.quiet f
def Sm(i:TE):TS:=λD a H=>i a H D.rt
theorem bx(d:PE X e i):PS X (.Return (some e) g) (Sm i):=by
 intro a s b H D I h;exact wpAny_Return_some (cP (d a s b H _ I h) λv n x m l f c=>⟨x,b,m,l,f,c⟩)
def Sb(c:TT)(t u:TS):TS:=λD a H=>c a H λb d=>if b=true then t D a d else u D a d
theorem cf{c:Expr}{a b:List Stmt}{q:TT}(r:PT X c q)(w:PSs X a t)(v:PSs X b u):PS X (.If c a b g) (Sb q t u):=by
 intro f s l H D I h;refine wpAny_If (uy (r f s l H _ I h) λd n p o m=>?_);cases d with
 | true=>exact w f n l p D o m
 | false=>exact v f n l p D o m
def ach:TS:=λ_ _ _=>False
theorem cr:PS X j ach:=λ_ _ _ _ _ _ h=>h.elim
end
abbrev TG:=V->St->Hp->(St->Hp->Prop)->Prop
abbrev TGs:=List V->St->Hp->(St->Hp->Prop)->Prop
def PG(X:Cx)(a:Expr)(t:TG):Prop:=∀(b:fv)(s:Shared)(d:St)(H:Hp)(v:V)(u:Value)(Q:St->Hp->Prop),Inv X b d H s->RelV v u->t v d H Q->wpAny (model X.prog X.w) X.A (assign a X.env u) (λ_ f=>∃c e,Inv X b c e f/\Q c e) X.xe s
def PGs(X:Cx)(h:List Expr)(t:TGs):Prop:=∀(a:fv)(s:Shared)(d:St)(H:Hp)(c:List V)(e:fy)(Q:St->Hp->Prop),Inv X a d H s->Vals c e->t c d H Q->wpAny (model X.prog X.w) X.A (assignInOrder ((assignEach h X.env).map (·.2)) e) (λ_ g=>∃b f,Inv X a b f g/\Q b f) X.xe s
abbrev C1:=V->V->V->Hp->(Hp->Prop)->Prop
def Si(X:Cx)(t:C1):Prop:=∀(a:fv)(s:Shared)(b:St)(H:Hp)(o i v:V)(c e u:Value)(Q:Hp->Prop),Inv X a b H s->RelV o c->RelV i e->RelV v u->t o i v H Q->wpAny (model X.prog X.w) X.A (setItem c e u) (λ_ f=>∃d,Inv X a b d f/\Q d) X.xe s
abbrev TIp:=V->V->Hp->VK->Prop
def PIp(X:Cx)(c:Operator)(t:TIp):Prop:=∀(a:fv)(s:Shared)(b:St)(H:Hp)(x y:V)(v u:Value)(Q:VK),Inv X a b H s->RelV x v->RelV y u->t x y H Q->wpAny (model X.prog X.w) X.A (inplaceOp c v u) (EP X a b Q) X.xe s
section
variable{X:Cx}{c:Pos}
def qv(i:Nat):TG:=λv a H Q=>Q (a.set i (some v)) H
theorem jB{i:Nat}{x:Str}(g:X.N.Nodup)(f:X.N[i]?=some x)(e:Loc X.env.scope x)(b:X.fn x=true\/X.env.scope.names.lookup x=some .local:=by first|exact .inl rfl|exact .inr rfl|assumption):PG X (.Name x c) (qv i):=by
 intro a s k H v u Q I r h;exact wpAny_assign_Name (Er I g f e r (λj d=>⟨_,H,d,h⟩) b)
def aej:TGs:=λa b H Q=>a=[]/\Q b H
def Mi(t:TG)(u:TGs):TGs:=λb d H Q=>∃v r,b=v::r/\t v d H λa e=>u r a e Q
theorem lJ:PGs X [] aej:=by
 intro a s b H d f Q I r h;obtain⟨e,h⟩:=h;subst e;cases r;exact assignInOrder_nil ⟨b,H,I,h⟩
theorem dH{e:Expr}{b:List Expr}{t:TG}{u:TGs}(j:PG X e t)(o:PGs X b u)(l:(assignEach (e::b) X.env).map (·.2)=assign e X.env::(assignEach b X.env).map (·.2):=by rfl):PGs X (e::b) (Mi t u):=by
 intro a s m H w p Q I r h;obtain⟨v,q,n,h⟩:=h;subst n;cases r with
 | cons r rr=>
   rw[l];refine assignInOrder_cons (Ψ (j a s m H _ _ _ I r h) λ_ g ⟨d,k,i,f⟩=>?_);exact o a g d k _ _ Q i rr f
def LV(K:fg)(n:Nat)(t:TGs):TG:=λv d H Q=>∃a b,v=.ref a/\Ξ K H a b/\b.length=n/\t b d H Q
theorem mV{f:List Expr}{k:Nat}{t:TGs}{n:Nat}(x:X.calm=true)(h:PGs X f t)(q:(assignEach f X.env).length=n:=by rfl)(i:(assignEach f X.env).findIdx? (·.1)=none:=by rfl):PG X (.Tuple f k c) (LV X.K n t):=by
 intro d s l H v u Q I r g;obtain⟨a,w,C,B,A,g⟩:=g;subst C;cases r;obtain⟨E,j,m,D⟩:=I.tuple B;refine assign_Tuple_tuple (I.ok.hd x) m (by simp[q,<-A,j.length]) i λz y=>?_;have p:Inv X d l H { s with heap:=z }:=I.kept (t':=s.toks) λb o e=>y b o (aF (av e)) e;exact h d _ l H w _ Q p (by simpa using j) g
def RT(e f:TE)(t:C1):TG:=λv a H Q=>e a H λo g=>f a g λi b=>t o i v b λd=>Q a d
theorem Di{o i:Expr}{f g:TE}{t:C1}(l:PE X o f)(G:PE X i g)(C:Si X t)(E:∀v,assign (.Subscript o i c) X.env v=(do
 let b <-holding [v] (eval o X.env)
 let d <-holding [v,b] (eval i X.env)
 standAt c
 holding [v,b,d] (setItem b d v)
 release [v,b,d] []):=by intro _;rfl):PG X (.Subscript o i c) (RT f g t):=by
 intro a s e H v u Q I r h;rw[E];refine ah (eK (cP (l a s e H _ I h) λb k x A m D j=>?_));refine ah (eK (cP (G a k e A _ m j) λd J y B z p F=>?_));refine ah (bR (ah (eK (Ψ (C a J e B x y v b d u _ z D p r F) λ_ K ⟨q,w,n⟩=>?_))));exact wpAny_release ⟨e,q,w,n⟩
def xq(b:TE)(g:TG):TS:=λD a H=>b a H λx d=>g x a d D.nx
theorem rj{b e:Expr}{d:TE}{g:TG}(o:PE X e d)(t:PG X b g)(p:swapsWithSole [b] e c.line X.env=pure false:=by rfl)(k:swappedStores [b] e X.env=pure none:=by rfl)(m:(assignEach [b] X.env).map (·.2)=[assign b X.env]:=by rfl):PS X (.Assign [b] e c) (xq d g):=by
 intro a s f H D I h;refine wpAny_Assign_stores (cP (o a s f H _ I h) λv j x n l r i=>?_) p k;rw[m];exact Ψ (t a j f n x v _ l r i) λ_ u q=>q
theorem yP{i:Nat}{x:Str}{e:Expr}{d:TE}{a:Pos}(t:X.N.Nodup)(q:X.N[i]?=some x)(k:Loc X.env.scope x)(n:PE X e d)(o:swapsWith e (some (.Name x a)) c.line X.env=pure false:=by rfl)(j:X.fn x=true\/X.env.scope.names.lookup x=some .local:=by first|exact .inl rfl|exact .inr rfl|assumption):PS X (.Assign [.Name x a] e c) (xq d (qv i)):=by
 intro b s r H D I h;refine wpAny_Assign_Name (cP (n b s r H _ I h) λv u y m g p f=>?_) o;exact Er g t q k p (λw l=>⟨_,m,l,f⟩) j
def J0(f p l:TE)(d:V->V->Hp->VK->Prop)(b:TIp)(e:C1):TS:=λD a H=>f a H λo h=>p a h λi j=>d o i j λx g=>l a g λy k=>b x y k λz n=>e o i z n λm=>D.nx a m
def Xd(X:Cx)(t:V->V->Hp->VK->Prop):Prop:=∀(a:fv)(s:Shared)(b:St)(H:Hp)(o i:V)(d e:Value)(Q:VK),Inv X a b H s->RelV o d->RelV i e->t o i H Q->wpAny (model X.prog X.w) X.A (getItem d e) (EP X a b Q) X.xe s
theorem AK{o i e:Expr}{n x u:TE}{k:V->V->Hp->VK->Prop}{j:TIp}{l:C1}{w:Operator}{Zw:Pos}(B:PE X o n)(hi:PE X i x)(hg:Xd X k)(U:PE X e u)(T:PIp X w j)(W:Si X l)(ha:∀d f b,augStore i d f b=(do holding [b,d,f] (setItem d f b);release [b,d,f] [];pure .next):=by intros;rfl):PS X (.AugAssign (.Subscript o i Zw) w e c) (J0 n x u k j l):=by
 intro a s g H D I h;refine wpAny_AugAssign_SubscriptAny (cP (B a s g H _ I h) λd z q R E r y=>?_) ha;refine cP (hi a z g R _ E y) λf s2 t S P p q2=>?_;refine Ψ (hg a s2 g S q t d f _ P r p q2) λm A ⟨L,K,O,C,F⟩=>?_;refine cP (U a A g K _ O F) λv s4 J Y M r4 G=>?_;refine Ψ (T a s4 g Y L J m v _ M C r4 G) λb Q ⟨x5,H5,Z,r5,N⟩=>?_;exact Ψ (W a Q g H5 q t x5 d f b _ Z r p r5 N) λ_ s6 ⟨H6,I6,q6⟩=>⟨g,H6,I6,q6⟩
def ipI(f:hB):TIp:=λx y H Q=>∃i j,x=.int i/\y=.int j/\Q (.int (f i j)) H
theorem Pe:PIp X .Add (ipI λi j=>i+j):=by
 intro a s g H x y v u Q I d b h;obtain⟨i,j,f,e,q⟩:=h;subst f;subst e;obtain⟨t,rfl⟩:=d;obtain⟨k,rfl⟩:=b;exact iadd_int ⟨.int _,H,I.tok _,⟨_,rfl⟩,q⟩
theorem Vl:PIp X .Sub (ipI λi j=>i-j):=by
 intro a s g H x y v u Q I d b h;obtain⟨i,j,f,e,q⟩:=h;subst f;subst e;obtain⟨t,rfl⟩:=d;obtain⟨k,rfl⟩:=b;exact isub_int ⟨.int _,H,I.tok _,⟨_,rfl⟩,q⟩
end
section
variable{X:Cx}{a:Pos}
def Gc(c:TT)(i:TS):TS:=λD d H=>∃W:Nat->St->Hp->Prop,(∃m,W m d H)/\∀m d H,W m d H->c d H λb h=>if b=true then ∃N:St->Hp->Prop,(∀e f,N e f->∃g,g<m/\W g e f)/\i { D with nx:=N,ct:=N,bk:=D.nx } d h else D.nx d h
theorem xD{c:Expr}{i:List Stmt}{C:TT}{F:TS}(B:PassesOwn (model X.prog X.w) X.A X.env X.xe)(O:PT X c C)(Q:PSs X i F):PS X (.While c i [] a) (Gc C F):=by
 intro e s T H D I h;obtain⟨W,⟨M,R⟩,k⟩:=h;refine wpAny_While (codeAny_whileLoop (λn K=>∃l E,Inv X e l E K/\W n l E) ?_ M ⟨T,H,I,R⟩);rintro n J ⟨g,y,L,P⟩;refine dD B (uy (O e J g y _ L (k n g y P)) λb S z x o=>?_);cases b with
 | true=>
   obtain⟨N,G,o⟩:=o;rw[aj rfl];refine dD B (Ψ (Q e S g z _ x o) λf U m=>?_);cases f with
   | next=>
     obtain⟨d,j,p,t⟩:=m;obtain⟨r,q,u⟩:=G d j t;exact⟨r,q,d,j,p,u⟩
   | cont=>
     obtain⟨d,j,p,t⟩:=m;obtain⟨r,q,u⟩:=G d j t;exact⟨r,q,d,j,p,u⟩
   | brk=>exact m
   | ret v=>exact m
 | false=>
   rw[ag aN];exact d8 ⟨g,z,x,o⟩
end
structure It where
 go:Nat->Hp->Prop
 yld:Nat->Hp->V->Hp->Prop
 stop:Nat->Hp->Prop
def kC(X:Cx)(a:fv)(H:Hp)(b:Addr):Prop:=H b=none/\b≠X.env.locals/\b∉X.fs/\(b∈X.ex\/X.s₀.heap.objs.size<=b)/\(∀x c,X.env.cells.lookup x=some c->c≠b)/\∀p∈X.pn++a,p.1≠b
theorem Inv.abf{X:Cx}{a:fv}{i:St}{H f:Hp}{s:Shared}{b:Addr}(I:Inv X a i H s)(d:s.heap.objs.size<=b)(g:f b=none):kC X a f b:=by
 refine⟨g,eg (aI I.lt d),I.ajU d,.inr (bh I.sz d),λx c e z=>?_,λp h z=>?_⟩
 .obtain⟨v,q⟩:=I.cell x c e;exact absurd (aI q.lt (by rw[z];exact d)) (cA _)
 .exact absurd (aI (av (I.pin p h).1) (by rw[z];exact d)) (cA _)
structure Turn(P:Program)(w:World)(K:fg)(tg:Expr)(J:It)(fp:fx)(it:Addr)(tn:Nat->Heap->Prop):Prop where
 mem:it∈fp
 obj:∀i h,tn i h->∀b∈fp,∃o,h.get? b=some o/\∀v,o.data≠.cell v
 keep:∀i h h',tn i h->(∀b∈fp,∀o,h.get? b=some o->h'.get? b=some o)->tn i h'
 item:∀(X:Cx),X.prog=P->X.w=w->X.K=K->X.calm=true->∀(i:Nat)(pins:fv)(s:Shared)(σ:St)(H:Hp)(E:eF),Inv X pins σ H s->(∀b∈fp,kC X pins H b)->tn i s.heap->J.go i H->wpAny (model P w) X.A (pyNext (.ref it)) (λr s1=>∃u,r=some u/\wpAny (model P w) X.A (letOwnedTupleGo tg (.ref it) u) (λ_ s2=>∃x H',Inv X pins σ H' s2/\RelV x u/\J.yld i H x H'/\tn (i+1) s2.heap/\∀b∈fp,H' b=none) E s1) E s
 done:∀(X:Cx),X.prog=P->X.w=w->X.K=K->X.calm=true->∀(i:Nat)(pins:fv)(s:Shared)(σ:St)(H:Hp)(E:eF),Inv X pins σ H s->(∀b∈fp,kC X pins H b)->tn i s.heap->J.stop i H->wpAny (model P w) X.A (pyNext (.ref it)) (λr s1=>r=none/\Inv X pins σ H s1) E s
 self:∀(A:Around)(i:Nat)(s:Shared)(Q:eF)(E:eF),tn i s.heap->Q (.ref it) s->wpAny (model P w) A (pyIter (.ref it)) Q E s
abbrev TI:=St->Hp->(It->Hp->Prop)->Prop
def PIE(X:Cx)(a:fv)(j:St)(i:Expr)(R:It->Hp->Prop)(c:Value)(e:Shared):Prop:=∃(f:Addr)(g:fx)(h:Nat->Heap->Prop)(J:It)(d:Hp),c=.ref f/\Inv X a j d e/\Turn X.prog X.w X.K i J g f h/\h 0 e.heap/\(∀b∈g,kC X a d b)/\R J d
def PI(X:Cx)(e b:Expr)(f:TI):Prop:=∀(a:fv)(s:Shared)(c:St)(H:Hp)(R:It->Hp->Prop),Inv X a c H s->f c H R->wpAny (model X.prog X.w) X.A (eval b X.env) (λv d=>wpAny (model X.prog X.w) X.A (pyIter v) (PIE X a c e R) X.xe d) X.xe s
theorem zn{M:Model}{A:Around}{E:eF}{s:Shared}{c:Expr}{d:Addr}{u:Value}{o:Obj}{n:String}{b:Array Value}{Q:Unit->Shared->Prop}(f:s.heap.get? d=some o)(i:o.cls=.type n)(g:o.data=.fields b)(e:["enumerate","zip","dict_itemiterator","dict_reverseitemiterator","odict_iterator","itertools.zip_longest","itertools.pairwise"].contains n=false)(a:Q () s):wpAny M A (letOwnedTupleGo c (.ref d) u) Q E s:=by
 unfold letOwnedTupleGo;cases c<;>first
  | exact aD a
  | (cases u<;>first
   | exact aD a
   | (refine ah (wpAny_load f ?_)
      rw[i,g];show wpAny M A (if(["enumerate","zip","dict_itemiterator","dict_reverseitemiterator","odict_iterator","itertools.zip_longest","itertools.pairwise"].contains n&&b[0]?==some (rawInt _))=true then _ else _) Q E s;rw[ag (by intro h;rw[e,ee]at h;cases h)];exact aD a))
def Itl(K:fg)(a:Addr):It:=⟨λi H=>∃b x,Η K H a b/\b[i]?=some x,λi H x c=>c=H/\∀b,Η K H a b->b[i]?=some x,λi H=>∃b,Η K H a b/\b.length<=i⟩
def Itt(K:fg)(a:Addr):It:=⟨λi H=>∃b x,Ξ K H a b/\b[i]?=some x,λi H x c=>c=H/\∀b,Ξ K H a b->b[i]?=some x,λi H=>∃b,Ξ K H a b/\b.length<=i⟩
def Itr(lo:Int)(n:Nat):It:=⟨λi _=>i<n,λi H x a=>a=H/\x=.int (lo+i),λi _=>n<=i⟩
theorem Oh{P:Program}{w:World}{K:fg}{T:Expr}(a j:Addr):Turn P w K T (Itl K a) [j] j (λi h=>h.IsListIter j a i) where
 mem:=by simp
 obj:=λi h st b g=>by
  have e:b=j:=by simpa using g
  subst e;obtain⟨o,e,c,d⟩:=st;exact⟨o,e,λv z=>by rw[d]at z;cases z⟩
 keep:=λi h n st k=>st.at λo e=>k j (by simp) o e
 item:=by
  intro X B t r M i f s N H E I m st L;subst B t r;obtain⟨S,x,q,C⟩:=L;obtain⟨Z,A,p,R⟩:=I.list q;obtain⟨u,V,U⟩:=A.get C;obtain⟨J,y,f2,D,F,G⟩:=m j (by simp);refine wpAny_pyNext_list_item st p.isList (x:=u) (by simpa using V) λn l sb=>?_;have Q:Inv X f N H { s with heap:=n }:=I.turned (t':=s.toks) (λb o g e=>(sb.2 b g).trans e) J y D F G;obtain⟨o,e,c,d⟩:=id l;exact⟨u,rfl,zn (s:={ s with heap:=n }) e c d (by decide) ⟨x,H,Q,U,⟨rfl,λys Y=>by rw[I.ZJ Y q];exact C⟩,l,λb g=>(m b g).1⟩⟩
 done:=by
  intro X B t r M i f s N H E I m st L;subst B t r;obtain⟨S,q,C⟩:=L;obtain⟨Z,A,p,R⟩:=I.list q;obtain⟨J,y,f2,D,F,G⟩:=m j (by simp);have hl:=A.length;exact wpAny_pyNext_list_end (I.ok.hd M) st p.isList (by simp;lia) λn O=>⟨rfl,I.turned (t':=s.toks) (λb o g e=>O b o g e) J y D F G⟩
 self:=λ_ _ _ _ _ st h=>wpAny_pyIter_listiter st h
theorem JZ{P:Program}{w:World}{K:fg}{U:Expr}(a j:Addr):Turn P w K U (Itt K a) [j] j (λi h=>h.IsTupleIter j a i) where
 mem:=by simp
 obj:=λi h st b g=>by
  have e:b=j:=by simpa using g
  subst e;obtain⟨o,e,c,d⟩:=st;exact⟨o,e,λv z=>by rw[d]at z;cases z⟩
 keep:=λi h n st k=>st.at λo e=>k j (by simp) o e
 item:=by
  intro X B t r N i f s O H E I m st M;subst B t r;obtain⟨T,x,q,C⟩:=M;obtain⟨F,A,p,S⟩:=I.tuple q;obtain⟨u,Y,V⟩:=A.get C;obtain⟨L,y,f2,D,G,J⟩:=m j (by simp);refine wpAny_pyNext_tuple_item st (show s.heap.IsTuple a F.toArray from p) (x:=u) (by simpa using Y) λn l sb=>?_;have R:Inv X f O H { s with heap:=n }:=I.turned (t':=s.toks) (λb o g e=>(sb.2 b g).trans e) L y D G J;obtain⟨o,e,c,d⟩:=id l;exact⟨u,rfl,zn (s:={ s with heap:=n }) e c d (by decide) ⟨x,H,R,V,⟨rfl,λys Z=>by rw[I.aac Z q];exact C⟩,l,λb g=>(m b g).1⟩⟩
 done:=by
  intro X B t r N i f s O H E I m st M;subst B t r;obtain⟨T,q,C⟩:=M;obtain⟨F,A,p,S⟩:=I.tuple q;obtain⟨L,y,f2,D,G,J⟩:=m j (by simp);have hl:=A.length;exact wpAny_pyNext_tuple_end (I.ok.hd N) st (show s.heap.IsTuple a F.toArray from p) (by simp;lia) λn Q=>⟨rfl,I.turned (t':=s.toks) (λb o g e=>Q b o g e) L y D G J⟩
 self:=λ_ _ _ _ _ st h=>wpAny_pyIter_tupleiter st h
theorem Jo{P:Program}{w:World}{K:fg}{G:Expr}(a:Addr)(lo:Int)(n:Nat):Turn P w K G (Itr lo n) [a] a (λi h=>IsRangeIter h a (lo+(i:Nat)*1) ((n:Int)-(i:Nat)) 1) where
 mem:=by simp
 obj:=λi h st b d=>by
  have e:b=a:=by simpa using d
  subst e;exact⟨_,st,λv z=>by
   have J:Data.fields _=Data.cell v:=z;cases J⟩
 keep:=λi h j st k=>k a (by simp) _ st
 item:=by
  intro X q m l r i c s C H E I g st B;subst q m l;obtain⟨A,p,N,u,x,y⟩:=g a (by simp);have W:=Walks.range (prog:=X.prog) (w:=X.w) (I.ok.hd r) a lo 1 n;refine W.item i s _ _ B st λv j tk M f L=>?_;obtain⟨t,rfl⟩:=M;have F:Inv X c C H { s with heap:=j,toks:=tk }:=I.turned (λb o d e=>L b o (by simpa using d) e) A p u x y;refine⟨_,rfl,zn (s:={ s with heap:=j,toks:=tk }) (n:="range_iterator") f rfl rfl (by decide) ⟨.int (lo+i),H,F,⟨t,?_⟩,⟨rfl,rfl⟩,f,λb d=>(g b d).1⟩⟩;rw[Int.mul_one]
 done:=by
  intro X q m l r i c s C H E I g st B;subst q m l;obtain⟨A,p,N,u,x,y⟩:=g a (by simp);exact wpAny_pyNext_range_end (I.ok.hd r) st (by have:n<=i:=B;lia) λj D=>⟨rfl,I.turned (t':=s.toks) (λb o d e=>D b o d e) A p u x y⟩
 self:=λ_ _ _ _ _ st h=>wpAny_pyIter_rangeiter st h
section
variable{X:Cx}{c:Expr}
def Ny(K:fg)(f:TE):TI:=λe H R=>f e H λx b=>∃a,x=.ref a/\(∃d,Η K b a d)/\R (Itl K a) b
def Ss(K:fg)(f:TE):TI:=λe H R=>f e H λx b=>∃a,x=.ref a/\(∃d,Ξ K b a d)/\R (Itt K a) b
theorem lB{l:Expr}{i:TE}(r:PE X l i):PI X c l (Ny X.K i):=by
 intro d s t H R I h;refine cP (r d s t H _ I h) λv f x k g m j=>?_;obtain⟨a,e,⟨z,u⟩,q⟩:=j;subst e;cases m;obtain⟨A,w,p,y⟩:=g.list u;refine fD p.isList ?_;refine⟨f.heap.objs.size,[f.heap.objs.size],_,_,k,rfl,g.kept (t':=f.toks) λb o e=>ak _ e,Oh a _,⟨_,aL _ rfl,rfl,rfl⟩,λb n=>?_,q⟩;have e:b=f.heap.objs.size:=by simpa using n
 subst e;exact g.abf (aB _) (g.Β.fresh (aB _))
theorem ut{l:Expr}{i:TE}(t:PE X l i):PI X c l (Ss X.K i):=by
 intro f s u H R I h;refine cP (t f s u H _ I h) λv d x k g n j=>?_;obtain⟨a,e,⟨A,w⟩,q⟩:=j;subst e;cases n;obtain⟨m,y,p,z⟩:=g.tuple w;refine gO (show d.heap.IsTuple a m.toArray from p) ?_;refine⟨d.heap.objs.size,[d.heap.objs.size],_,_,k,rfl,g.kept (t':=d.toks) λb o e=>ak _ e,JZ a _,⟨_,aL _ rfl,rfl,rfl⟩,λb r=>?_,q⟩;have e:b=d.heap.objs.size:=by simpa using r
 subst e;exact g.abf (aB _) (g.Β.fresh (aB _))
theorem GO{d:fv}{h:St}{H:Hp}{s:Shared}{R:It->Hp->Prop}{E:eF}{lo a:Int}{t u v:Tok}{g:Nat}(I:Inv X d h H s)(i:-(2^62)<=lo)(n:lo<2^62)(l:-(2^62)<=a)(j:a<2^62)(q:R (Itr lo (a-lo).toNat) H):wpAny (model X.prog X.w) X.A (pyIter (.ref s.heap.objs.size)) (PIE X d h c R) E { s with heap:=s.heap.push { cls:=.type "range",data:=.fields #[.int lo t,.int a u,.int 1 v] },toks:=g }:=by
 refine wpAny_pyIter_range (IsRange.new ..) (small_one i n l j) ?_;have f:Inv X d h H { s with heap:=s.heap.push { cls:=.type "range",data:=.fields #[.int lo t,.int a u,.int 1 v] },toks:=g }:=I.kept λb o e=>ak _ e;refine⟨(s.heap.push { cls:=.type "range",data:=.fields #[.int lo t,.int a u,.int 1 v] }).objs.size,[(s.heap.push { cls:=.type "range",data:=.fields #[.int lo t,.int a u,.int 1 v] }).objs.size],_,_,H,rfl,f.kept (t':=g) λb o e=>ak _ e,Jo _ lo (a-lo).toNat,?_,λb k=>?_,q⟩
 .have e1:lo+((0:Nat):Int)*1=lo:=by simp
  have m:(((a-lo).toNat:Nat):Int)-((0:Nat):Int)=Builtin.Range.rangeSize lo a 1:=by rw[rangeSize_one];split<;>lia
  show IsRangeIter _ _ (lo+((0:Nat):Int)*1) ((((a-lo).toNat:Nat):Int)-((0:Nat):Int)) 1;rw[e1,m];exact aL _ rfl
 .have e:b=(s.heap.push { cls:=.type "range",data:=.fields #[.int lo t,.int a u,.int 1 v] }).objs.size:=by simpa using k
  subst e;exact f.abf (aB _) (f.Β.fresh (aB _))
def Kg(b:TA):TI:=λd H R=>b d H λa e=>∃j:Int,a=[.int j]/\-(2^62)<=j/\j<2^62/\R (Itr 0 j.toNat) e
def JW(b:TA):TI:=λd H R=>b d H λa e=>∃i j:Int,a=[.int i,.int j]/\(-(2^62)<=i/\i<2^62/\-(2^62)<=j/\j<2^62)/\R (Itr i (j-i).toNat) e
theorem qG{a:Expr}{g:TA}{p b:Pos}(v:Gl X "range")(k:X.mg "range"=none)(n:PA X [a] g)(l:starEach [a] X.env=[(false,eval a X.env)]:=by rfl):PI X c (.Call (.Name "range" p) [a] [] b) (Kg g):=by
 intro d s u H R I h;refine Call_ (pW I v k boot_range (cD (pM (n b d s u H _ I h) λx w z y i m f=>?_) l rfl));obtain⟨j,e,f,o,q⟩:=f;subst e;cases m with
 | cons r rr=>
   cases rr;obtain⟨t,rfl⟩:=r;exact call_range_1 (GO i (by lia) (by lia) f o (by simpa using q))
theorem PP{a b:Expr}{l:TA}{p f:Pos}(A:Gl X "range")(u:X.mg "range"=none)(x:PA X [a,b] l)(v:starEach [a,b] X.env=[(false,eval a X.env),(false,eval b X.env)]:=by rfl)(d:starEach [b] X.env=[(false,eval b X.env)]:=by rfl):PI X c (.Call (.Name "range" p) [a,b] [] f) (JW l):=by
 intro g s z H R I h;refine Call_ (pW I A u boot_range (cD (pM (x f g s z H _ I h) λC B E D m w k=>?_) (by rw[v,d]) (by rw[d];rfl)));obtain⟨i,j,e,⟨k,y,n,o⟩,q⟩:=k;subst e;cases w with
 | cons r rr=>
   cases rr with
   | cons r' rr=>
     cases rr;obtain⟨t,rfl⟩:=r;obtain⟨F,rfl⟩:=r';exact call_range_2 (GO m k y n o q)
def V2(k:TI)(g:TG)(j:TS):TS:=λD a H=>k a H λJ l=>∃W:Nat->Nat->St->Hp->Prop,(∃m,W 0 m a l)/\∀i m a H,W i m a H->(J.stop i H/\D.nx a H)\/(J.go i H/\∃N:St->Hp->Prop,(∀b d,N b d->∃f,f<m/\W (i+1) f b d)/\∀x d,J.yld i H x d->g x a d λe h=>j { D with nx:=N,ct:=N,bk:=D.nx } e h)
def jL(a:fx)(h:Heap):List (Addr×Obj):=a.filterMap λb=>(h.get? b).map λo=>(b,o)
theorem fF{a:fx}{h:Heap}{b:Addr}{o:Obj}(d:b∈a)(e:h.get? b=some o):(b,o)∈jL a h:=List.mem_filterMap.mpr ⟨b,d,by rw[e];rfl⟩
theorem OY{a:fx}{h:Heap}{p:Addr×Obj}(d:p∈jL a h):p.1∈a/\h.get? p.1=some p.2:=by
 obtain⟨b,f,e⟩:=List.mem_filterMap.mp d;cases q:h.get? b with
 | none=>rw[q]at e;cases e
 | some o=>
   rw[q]at e;have g:(b,o)=p:=bo e;subst g;exact⟨f,q⟩
theorem Inv.pinned{a:fv}{i:St}{H:Hp}{s:Shared}{f:fx}(I:Inv X a i H s)(l:∀b∈f,kC X a H b)(j:∀b∈f,∃o,s.heap.get? b=some o/\∀v,o.data≠.cell v):Inv X (a++jL f s.heap) i H s:=I.abu λp m=>(aV.mp m).elim (λz=>I.pin p (aE _ z)) λz=>by
 obtain⟨h,e⟩:=OY z;obtain⟨q,k,n,_⟩:=l p.1 h;obtain⟨o,g,d⟩:=j p.1 h;rw[e]at g;cases g;exact⟨e,q,k,n,d⟩
theorem Inv.Ϗ{a e:fv}{b:St}{H:Hp}{s:Shared}(I:Inv X (a++e) b H s):Inv X a b H s:=I.abu λp d=>I.pin p (aE _ (bi _ d))
theorem iA{l:Expr}{E:List Stmt}{wi:TI}{g:TG}{tb:TS}{S:Pos}(P:PassesOwn (model X.prog X.w) X.A X.env X.xe)(hc:X.calm=true)(hi:PI X c l wi)(hg:PG X c g)(q:PSs X E tb)(hs:∀x,foldedSetIterable l X.env x=pure x:=by intro _;rfl):PS X (.For c l E [] S) (V2 wi g tb):=by
 intro j s σ H D I h;refine wpAny_For (Ψ (hi j s σ H _ I h) λv s1 h1=>Ψ h1 λa2 s2 h2=>?_) hs;obtain⟨it,M,tn,J,H2,e,I2,T,V,f2,W,⟨m0,w0⟩,G⟩:=h2;subst e;have z:∀{C:Hp},(∀b∈M,C b=none)->∀b∈M,kC X j C b:=λhn b q=>⟨hn b q,(f2 b q).2⟩;refine codeAny_forLoop_any (λn s'=>∃i p C,Inv X j p C s'/\tn i s'.heap/\(∀b∈M,C b=none)/\W i n p C) ?_ m0 ⟨0,σ,H2,I2,V,λb q=>(f2 b q).1,w0⟩;rintro n s3 ⟨i,B,Q,I3,O,K,w3⟩;rcases G i n B Q w3 with⟨stop,qn⟩|⟨go,N,hN,step⟩
 .refine dD P (Ψ (T.done X rfl rfl rfl hc i j s3 B Q X.xe I3 (z K) O stop) λr s4 ⟨R,I4⟩=>?_);subst R;exact d8 ⟨B,Q,I4,qn⟩
 .refine dD P (Ψ (T.item X rfl rfl rfl hc i j s3 B Q X.xe I3 (z K) O go) λr s4 ⟨u,R,h4⟩=>?_);subst R;refine dD P (Ψ h4 λ_ s5 ⟨x,H5,I5,r5,y5,U,Y⟩=>?_);have ac:=I5.pinned (z Y) (T.obj _ _ U);refine dD P (Ψ (hg _ s5 B H5 x u _ ac r5 (step x H5 y5)) λ_ s6 ⟨Z,H6,I6,q6⟩=>?_);refine dD P (Ψ (q _ s6 Z H6 _ I6 q6) λf s7 F=>?_);have y:∀{a:St}{t:Hp},Inv X (j++jL M s5.heap) a t s7->N a t->∃m,m<n/\∃i p C,Inv X j p C s7/\tn i s7.heap/\(∀b∈M,C b=none)/\W i m p C:=λ{a t} k L=>by
   obtain⟨m',hm,w7⟩:=hN a t L;refine⟨m',hm,i+1,a,t,k.Ϗ,T.keep _ _ _ U λb q o e=>(k.pin (b,o) (aE _ (aE _ (fF q e)))).1,λb q=>?_,w7⟩;obtain⟨o,e,d⟩:=T.obj _ _ U b q;exact(k.pin (b,o) (aE _ (aE _ (fF q e)))).2.1
  cases f with
  | next=>obtain⟨a,t,k,L⟩:=F;exact y k L
  | cont=>obtain⟨a,t,k,L⟩:=F;exact y k L
  | brk=>obtain⟨a,t,k,F⟩:=F;exact⟨a,t,k.Ϗ,F⟩
  | ret v=>obtain⟨x7,a,t,k,r7,F⟩:=F;exact⟨x7,a,t,k.Ϗ,r7,F⟩
end
theorem R9{K:fg}{a:Addr}{c:List V}{g:TG}{l:TS}{D:Ends}{b:St}{H:Hp}(d:Nat->St->Hp->Prop)(s:d 0 b H)(v:∀i b H,i<=c.length->d i b H->Η K H a c)(t:∀i x b H,c[i]?=some x->d i b H->g x b H λh k=>l { D with nx:=d (i+1),ct:=d (i+1),bk:=D.nx } h k)(r:∀b H,d c.length b H->D.nx b H):∃W:Nat->Nat->St->Hp->Prop,(∃m,W 0 m b H)/\∀i m b H,W i m b H->((Itl K a).stop i H/\D.nx b H)\/((Itl K a).go i H/\∃N:St->Hp->Prop,(∀f j,N f j->∃n,n<m/\W (i+1) n f j)/\∀x j,(Itl K a).yld i H x j->g x b j λh k=>l { D with nx:=N,ct:=N,bk:=D.nx } h k):=by
 refine⟨λi m b H=>m=c.length-i/\i<=c.length/\d i b H,⟨c.length,by simp,bJ _,s⟩,?_⟩;rintro i m b H ⟨rfl,u,p⟩;have q:=v i b H u p;by_cases o:i<c.length
 .refine .inr ⟨⟨c,c[i],q,by simp[o]⟩,d (i+1),λf j w=>⟨c.length-(i+1),by lia,rfl,o,w⟩,λx j y=>?_⟩;obtain⟨e,y⟩:=y;subst e;exact t i x b _ (y c q) p
 .have e:i=c.length:=by lia
  subst e;exact .inl ⟨⟨c,q,aB _⟩,r b H p⟩
theorem zp{K:fg}{a:Addr}{xs:List V}{g:TG}{k:TS}{D:Ends}{b:St}{H:Hp}(c:Nat->St->Hp->Prop)(r:c 0 b H)(u:∀i b H,i<=xs.length->c i b H->Ξ K H a xs)(s:∀i x b H,xs[i]?=some x->c i b H->g x b H λf j=>k { D with nx:=c (i+1),ct:=c (i+1),bk:=D.nx } f j)(o:∀b H,c xs.length b H->D.nx b H):∃W:Nat->Nat->St->Hp->Prop,(∃m,W 0 m b H)/\∀i m b H,W i m b H->((Itt K a).stop i H/\D.nx b H)\/((Itt K a).go i H/\∃N:St->Hp->Prop,(∀d h,N d h->∃l,l<m/\W (i+1) l d h)/\∀x h,(Itt K a).yld i H x h->g x b h λf j=>k { D with nx:=N,ct:=N,bk:=D.nx } f j):=by
 refine⟨λi m b H=>m=xs.length-i/\i<=xs.length/\c i b H,⟨xs.length,by simp,bJ _,r⟩,?_⟩;rintro i m b H ⟨rfl,t,p⟩;have q:=u i b H t p;by_cases n:i<xs.length
 .refine .inr ⟨⟨xs,xs[i],q,by simp[n]⟩,c (i+1),λd h v=>⟨xs.length-(i+1),by lia,rfl,n,v⟩,λx h y=>?_⟩;obtain⟨e,y⟩:=y;subst e;exact s i x b _ (y xs q) p
 .have e:i=xs.length:=by lia
  subst e;exact .inl ⟨⟨xs,q,aB _⟩,o b H p⟩
theorem Od{lo:Int}{n:Nat}{g:TG}{k:TS}{D:Ends}{a:St}{H:Hp}(f:Nat->St->Hp->Prop)(q:f 0 a H)(r:∀i a H,i<n->f i a H->g (.int (lo+i)) a H λc h=>k { D with nx:=f (i+1),ct:=f (i+1),bk:=D.nx } c h)(o:∀a H,f n a H->D.nx a H):∃W:Nat->Nat->St->Hp->Prop,(∃m,W 0 m a H)/\∀i m a H,W i m a H->((Itr lo n).stop i H/\D.nx a H)\/((Itr lo n).go i H/\∃N:St->Hp->Prop,(∀b d,N b d->∃l,l<m/\W (i+1) l b d)/\∀x d,(Itr lo n).yld i H x d->g x a d λc h=>k { D with nx:=N,ct:=N,bk:=D.nx } c h):=by
 refine⟨λi m a H=>m=n-i/\i<=n/\f i a H,⟨n,by simp,bJ _,q⟩,?_⟩;rintro i m a H ⟨rfl,t,p⟩;by_cases j:i<n
 .refine .inr ⟨j,f (i+1),λb d s=>⟨n-(i+1),by lia,rfl,j,s⟩,λx d y=>?_⟩;obtain⟨e,y⟩:=y;subst e y;exact r i a _ j p
 .have e:i=n:=by lia
  subst e;exact .inl ⟨aB _,o a H p⟩
abbrev R2:=V->V->Hp->VK->Prop
def RW(X:Cx)(f:Value->Value->Sem Value)(r:R2):Prop:=∀(a:fv)(s:Shared)(b:St)(H:Hp)(x y:V)(v u:Value)(Q:VK),Inv X a b H s->RelV x v->RelV y u->r x y H Q->wpAny (model X.prog X.w) X.A (f v u) (EP X a b Q) X.xe s
def UnR(X:Cx)(f:Value->Sem Value)(r:V->Hp->VK->Prop):Prop:=∀(a:fv)(s:Shared)(b:St)(H:Hp)(x:V)(v:Value)(Q:VK),Inv X a b H s->RelV x v->r x H Q->wpAny (model X.prog X.w) X.A (f v) (EP X a b Q) X.xe s
def jq(X:Cx)(f:Value)(r:List V->Hp->VK->Prop):Prop:=∀(a:fv)(s:Shared)(c:St)(H:Hp)(b:List V)(d:fy)(Q:VK),Inv X a c H s->Vals b d->r b H Q->wpAny (model X.prog X.w) X.A (call f d) (EP X a c Q) X.xe s
def Yt(X:Cx)(r:V->Hp->(Bool->Hp->Prop)->Prop):Prop:=∀(a:fv)(s:Shared)(b:St)(H:Hp)(x:V)(v:Value)(Q:Bool->Hp->Prop),Inv X a b H s->RelV x v->r x H Q->wpAny (model X.prog X.w) X.A (truthy v) (TP X a b Q) X.xe s
def tOp(r:R2)(c d:TE):TE:=λa H Q=>c a H λx e=>d a e λy b=>r x y b Q
def tUn(r:V->Hp->VK->Prop)(a:TE):TE:=λb H Q=>a b H λx c=>r x c Q
def rI(C:Int->Int->Prop)(g:Int->Int->V):R2:=λx y H Q=>∃i j,x=.int i/\y=.int j/\C i j/\Q (g i j) H
def rI0(g:Int->Int->V):R2:=λx y H Q=>∃i j,x=.int i/\y=.int j/\Q (g i j) H
def rU(g:Int->V):V->Hp->VK->Prop:=λx H Q=>∃i,x=.int i/\Q (g i) H
section
variable{X:Cx}{a b c:Expr}{d k l:TE}{e:Pos}
theorem Rc(F:PE X a d)(E:PE X b k){g:fv}{s:Shared}{j:St}{H:Hp}{R:V->V->Hp->Prop}(I:Inv X g j H s)(h:d j H λx p=>k j p λy i=>R x y i){Q:eF}{f:Value->Value->Sem Value}(B:∀v u o x y i,Inv X g j i o->RelV x v->RelV y u->R x y i->wpAny (model X.prog X.w) X.A (f v u) Q X.xe o):wpAny (model X.prog X.w) X.A (eval a X.env) (λv n=>wpAny (model X.prog X.w) X.A (eval b X.env) (λu m=>wpAny (model X.prog X.w) X.A (f v u) Q X.xe m) X.xe n) X.xe s:=by
 refine cP (F g s j H _ I h) λv r x p t D q=>?_;refine cP (E g r j p _ t q) λu o y i C z G=>?_;exact B v u o x y i C D z G
theorem aP{g:Operator}{r:R2}(i:RW X (binaryOp g) r)(t:PE X a d)(p:PE X b k):PE X (.BinOp a g b e) (tOp r d k):=by
 intro f s z H Q I h;exact wpAny_BinOp (Rc t p I h λv u w x y o n j m q=>i f w z o x y v u Q n j m q)
theorem yD{i:UnaryOp}{r:V->Hp->VK->Prop}(o:UnR X (unaryOp i) r)(q:PE X a d):PE X (.UnaryOp i a e) (tUn r d):=by
 intro f s g H Q I h;exact UnaryOp_ (cP (q f s g H _ I h) λv m x t p n j=>o f m g t x v Q p n j)
theorem opI{f:Value->Value->Sem Value}{C:Int->Int->Prop}{g:hB}(m:∀(i j:Int) (t u:Tok) (s:Shared) (Q:eF) (E:eF),C i j->Q (.int (g i j) s.toks) { s with toks:=s.toks+1 }->wpAny (model X.prog X.w) X.A (f (.int i t) (.int j u)) Q E s):RW X f (rI C λi j=>.int (g i j)):=by
 intro n s B H x y v u Q I o p h;obtain⟨i,j,rfl,rfl,r,q⟩:=h;obtain⟨t,rfl⟩:=o;obtain⟨z,rfl⟩:=p;exact m i j t z s _ _ r ⟨.int (g i j),H,I.tok _,⟨_,rfl⟩,q⟩
theorem VW{f:Value->Value->Sem Value}{g:hB}(m:∀(i j:Int) (t u:Tok) (s:Shared) (Q:eF) (E:eF),Q (.int (g i j) s.toks) { s with toks:=s.toks+1 }->wpAny (model X.prog X.w) X.A (f (.int i t) (.int j u)) Q E s):RW X f (rI0 λi j=>.int (g i j)):=by
 intro n s z H x y v u Q I o p h;obtain⟨i,j,rfl,rfl,q⟩:=h;obtain⟨t,rfl⟩:=o;obtain⟨r,rfl⟩:=p;exact m i j t r s _ _ ⟨.int (g i j),H,I.tok _,⟨_,rfl⟩,q⟩
theorem S7{f:Value->Value->Sem Value}{g:Int->Int->Bool}(m:∀(i j:Int) (t u:Tok) (s:Shared) (Q:eF) (E:eF),Q (.bool (g i j)) s->wpAny (model X.prog X.w) X.A (f (.int i t) (.int j u)) Q E s):RW X f (rI0 λi j=>.bl (g i j)):=by
 intro n s z H x y v u Q I o p h;obtain⟨i,j,rfl,rfl,q⟩:=h;obtain⟨t,rfl⟩:=o;obtain⟨r,rfl⟩:=p;exact m i j t r s _ _ ⟨.bl (g i j),H,I,rfl,q⟩
def wT(i j:Int):Prop:=0<j/\j<1073741824
def XN(i j:Int):Prop:=0<=j/\j<=1000000/\i.natAbs<2^64
def ael(i j:Int):Prop:=(-(2^64)<i/\i<2^64)\/(-(2^64)<j/\j<2^64)
theorem ael.ok{i j:Int}(h:ael i j):IntMulOk i j:=by
 rcases h with⟨h1,h2⟩|⟨h1,h2⟩
 .exact .of_left (intBits_le_64 h1 h2)
 .exact .of_right (intBits_le_64 h1 h2)
theorem fB:RW X (binaryOp .Add) (rI0 λi j=>.int (i+j)):=VW λ_ _ _ _ _ _ _ q=>add_int q
theorem C9:RW X (binaryOp .Sub) (rI0 λi j=>.int (i-j)):=VW λ_ _ _ _ _ _ _ q=>sub_int q
theorem pQ:RW X (binaryOp .Mult) (rI ael λi j=>.int (i*j)):=opI λ_ _ _ _ _ _ _ f q=>mul_int q f.ok
theorem eB:RW X (binaryOp .FloorDiv) (rI wT λi j=>.int (i/j)):=opI λi j _ _ _ _ _ f q=>by
 have h:(0:Int)<j:=f.1;have g:j<1073741824:=f.2;exact floordiv_int (by lia) (by rw[iz i (by lia)];exact q) (.inl (PyProof.noPylong_small (by lia)))
theorem dh:RW X (binaryOp .Mod) (rI (λ_ j=>0<j) λi j=>.int (i%j)):=opI λi j _ _ _ _ _ f q=>by
 have g:(0:Int)<j:=f;exact mod_int' (by lia) (by rw[Int.fmod_eq_emod_of_nonneg i (by lia)];exact q)
theorem OI:RW X (binaryOp .Pow) (rI XN λi j=>.int (i^j.toNat)):=opI λ_ _ _ _ _ _ _ f q=>pow_int_small f.1 f.2.1 f.2.2 q
theorem unI{f:Value->Sem Value}{g:ek}(j:∀(i:Int) (t:Tok) (s:Shared) (Q:eF) (E:eF),Q (.int (g i) s.toks) { s with toks:=s.toks+1 }->wpAny (model X.prog X.w) X.A (f (.int i t)) Q E s):UnR X f (rU λi=>.int (g i)):=by
 intro m s o H x v Q I n h;obtain⟨i,rfl,q⟩:=h;obtain⟨t,rfl⟩:=n;exact j i t s _ _ ⟨.int (g i),H,I.tok _,⟨_,rfl⟩,q⟩
theorem uB:UnR X (unaryOp .USub) (rU λi=>.int (-i)):=unI λ_ _ _ _ _ q=>neg_int q
end
def su:V->V->Bool
 | .Θ,.Θ=>true|.Θ,.int _=>true|.int _,.Θ=>true|.Θ,.bl _=>true|.bl _,.Θ=>true|.Θ,.str _=>true|.str _,.Θ=>true
 | .int _,.int _=>true|.bl _,.bl _=>true|.str _,.str _=>true|.byt _,.byt _=>true
 | .int _,.str _=>true|.str _,.int _=>true|.bl _,.str _=>true|.str _,.bl _=>true
 | _,_=>false
def rEq:R2:=λx y H Q=>su x y=true/\Q (.bl (decide (x=y))) H
def rNe:R2:=λx y H Q=>su x y=true/\Q (.bl (!decide (x=y))) H
theorem Iw{i j:Int}:decide (V.int i=V.int j)=(i==j):=by
 rw[fG];simp
theorem Oj{i j:Bool}:decide (V.bl i=V.bl j)=(i==j):=by
 rw[fG];simp
theorem IE{i j:Str}:decide (V.str i=V.str j)=(i==j):=by
 rw[fG];simp
theorem IZ{i j:Array UInt8}:decide (V.byt i=V.byt j)=(i.toList==j.toList):=by
 rw[fG];cases i;cases j;simp
section
variable{X:Cx}{a b c:Expr}{f g l:TE}{pos:Pos}
theorem di{d:fv}{i:St}{H:Hp}{s:Shared}{Q:VK}{k h:Bool}(I:Inv X d i H s)(q:Q (.bl k) H)(e:k=h):EP X d i Q (.bool h) s:=by
 subst e;exact⟨.bl k,H,I,rfl,q⟩
theorem cY:RW X (compareOp .Eq) rEq:=by
 intro n s o H x y v u Q I m d h;obtain⟨k,q⟩:=h;cases x with
 | Θ=>
   cases m;cases y with
   | Θ=>cases d;exact PySem.EqNone.eq_none_none (di I q (by simp))
   | bl j=>cases d;exact PySem.EqNone.eq_none_bool (di I q (by simp))
   | int j=>obtain⟨e,rfl⟩:=d;exact PySem.EqNone.eq_none_int (di I q (by simp))
   | str j=>obtain⟨e,rfl⟩:=d;exact PySem.EqNone.eq_none_str (di I q (by simp))
   | _=>exact absurd (show false=true from k) aN
 | bl i=>
   cases m;cases y with
   | Θ=>cases d;exact PySem.EqNone.eq_bool_none (di I q (by simp))
   | bl j=>cases d;exact eq_bool (di I q Oj)
   | str j=>obtain⟨e,rfl⟩:=d;exact PySem.EqMixed.eq_bool_str (di I q (by simp))
   | _=>exact absurd (show false=true from k) aN
 | int i=>
   obtain⟨t,rfl⟩:=m;cases y with
   | Θ=>cases d;exact PySem.EqNone.eq_int_none (di I q (by simp))
   | int j=>obtain⟨e,rfl⟩:=d;exact eq_int (di I q Iw)
   | str j=>obtain⟨e,rfl⟩:=d;exact PySem.EqMixed.eq_int_str (di I q (by simp))
   | _=>exact absurd (show false=true from k) aN
 | str i=>
   obtain⟨t,rfl⟩:=m;cases y with
   | Θ=>cases d;exact PySem.EqNone.eq_str_none (di I q (by simp))
   | bl j=>cases d;exact PySem.EqMixed.eq_str_bool (di I q (by simp))
   | int j=>obtain⟨e,rfl⟩:=d;exact PySem.EqMixed.eq_str_int (di I q (by simp))
   | str j=>obtain⟨e,rfl⟩:=d;exact eq_str (di I q IE)
   | _=>exact absurd (show false=true from k) aN
 | byt i=>
   obtain⟨t,rfl⟩:=m;cases y with
   | byt j=>obtain⟨e,rfl⟩:=d;exact PySem.W.eq_bytes (di I q IZ)
   | _=>exact absurd (show false=true from k) aN
 | _=>cases y<;>exact absurd (show false=true from k) aN
theorem o8:RW X (compareOp .NotEq) rNe:=by
 intro n s o H x y v u Q I m d h;obtain⟨k,q⟩:=h;cases x with
 | Θ=>
   cases m;cases y with
   | Θ=>cases d;exact PySem.EqNone.ne_none_none (di I q (by simp))
   | bl j=>cases d;exact PySem.EqNone.ne_none_bool (di I q (by simp))
   | int j=>obtain⟨e,rfl⟩:=d;exact PySem.EqNone.ne_none_int (di I q (by simp))
   | str j=>obtain⟨e,rfl⟩:=d;exact PySem.EqNone.ne_none_str (di I q (by simp))
   | _=>exact absurd (show false=true from k) aN
 | bl i=>
   cases m;cases y with
   | Θ=>cases d;exact PySem.EqNone.ne_bool_none (di I q (by simp))
   | bl j=>cases d;exact ne_bool (di I q (congrArg not Oj))
   | str j=>obtain⟨e,rfl⟩:=d;exact PySem.EqMixed.ne_bool_str (di I q (by simp))
   | _=>exact absurd (show false=true from k) aN
 | int i=>
   obtain⟨t,rfl⟩:=m;cases y with
   | Θ=>cases d;exact PySem.EqNone.ne_int_none (di I q (by simp))
   | int j=>obtain⟨e,rfl⟩:=d;exact ne_int (di I q (congrArg not Iw))
   | str j=>obtain⟨e,rfl⟩:=d;exact PySem.EqMixed.ne_int_str (di I q (by simp))
   | _=>exact absurd (show false=true from k) aN
 | str i=>
   obtain⟨t,rfl⟩:=m;cases y with
   | Θ=>cases d;exact PySem.EqNone.ne_str_none (di I q (by simp))
   | bl j=>cases d;exact PySem.EqMixed.ne_str_bool (di I q (by simp))
   | int j=>obtain⟨e,rfl⟩:=d;exact PySem.EqMixed.ne_str_int (di I q (by simp))
   | str j=>obtain⟨e,rfl⟩:=d;exact ne_str (di I q (congrArg not IE))
   | _=>exact absurd (show false=true from k) aN
 | byt i=>
   obtain⟨t,rfl⟩:=m;cases y with
   | byt j=>obtain⟨e,rfl⟩:=d;exact PySem.W.ne_bytes (di I q (congrArg not IZ))
   | _=>exact absurd (show false=true from k) aN
 | _=>cases y<;>exact absurd (show false=true from k) aN
theorem No:RW X (compareOp .Lt) (rI0 λi j=>.bl (decide (i<j))):=S7 λ_ _ _ _ _ _ _ q=>lt_int q
theorem sC:RW X (compareOp .LtE) (rI0 λi j=>.bl (decide (i<=j))):=S7 λ_ _ _ _ _ _ _ q=>le_int q
theorem MU:RW X (compareOp .GtE) (rI0 λi j=>.bl (decide (j<=i))):=S7 λ_ _ _ _ _ _ _ q=>ge_int q
theorem O0:RW X (compareOp .In) (λx y H Q=>∃i j,x=.str i/\y=.str j/\Q (.bl (!(Builtin.Str.occurrences j i 0 j.length 1).isEmpty)) H):=by
 intro d s m H x y v u Q I k e h;obtain⟨i,j,rfl,rfl,q⟩:=h;obtain⟨t,rfl⟩:=k;obtain⟨n,rfl⟩:=e;exact in_str (di I q rfl)
theorem mf(b:Expr){d:CmpOp}(h:d≠.In:=by decide)(j:d≠.NotIn:=by decide):behindInMarks d b=false:=by
 have i:(d==CmpOp.In)=false:=by cases d<;>first|rfl|exact absurd rfl h
 have e:(d==CmpOp.NotIn)=false:=by cases d<;>first|rfl|exact absurd rfl j
 cases b<;>simp[behindInMarks,i,e]
theorem lP{e:CmpOp}{r:R2}(i:RW X (compareOp e) r)(t:PE X a f)(p:PE X b g)(n:behindInMarks e b=false):PE X (.Compare a [e] [b] pos) (tOp r f g):=by
 intro d s z H Q I h;exact wpAny_Compare1 (Rc t p I h λv u w x y o m j k q=>i d w z o x y v u Q m j k q) n
def y6(t:TE):TT:=λd H Q=>t d H λx e=>∃k,x=.bl k/\Q k e
theorem rp{i:CmpOp}{r:R2}(o:RW X (compareOp i) r)(K:PE X a f)(J:PE X b g)(D:behindInMarks i b=false):PT X (.Compare a [i] [b] pos) (y6 (tOp r f g)):=by
 intro d s j H Q I h;refine wpAny_isTrue_Compare1 (cP (K d s j H _ I h) λv n x E q G m=>cP (J d n j E _ q m) λu M y F C w L=>
  cP (o d M j F x y v u _ C G w L) λc N z A B p ⟨k,e,t⟩=>?_) D
 subst e;cases p;exact bX ⟨A,B,t⟩
def zg(r m:R2)(f g l:TE):TE:=λd H Q=>f d H λx n=>g d n λy h=>r x y h λz e=>∃k,z=.bl k/\(if k=true then l d e λj i=>m y j i Q else Q (.bl false) e)
theorem Qv{n j:CmpOp}{r w:R2}(D:RW X (compareOp n) r)(E:RW X (compareOp j) w)(V:PE X a f)(T:PE X b g)(M:PE X c l)(O:lastMarks [n,j] [b,c]=false:=by with_unfolding_all rfl):PE X (.Compare a [n,j] [b,c] pos) (zg r w f g l):=by
 intro i s m H Q I h;refine Compare_chain (cP (V i s m H _ I h) λv B x P G S A=>chain_link (cP (T i B m P _ G A) λu Y y R N p W=>
  cP (D i Y m R x y v u _ N S p W) λd C z q t F ⟨k,e,o⟩=>?_)) O
 subst e;cases F;refine bX ?_;cases k with
 | false=>exact ite_ff ⟨.bl false,q,t,rfl,o⟩
 | true=>exact ite_tt (chain_last (Ψ (M i C m q _ t o) λw' s4 ⟨K,U,L,Z,J⟩=>E i s4 m U y K u w' Q L p Z J))
theorem xk{n j:CmpOp}{r w:R2}(D:RW X (compareOp n) r)(E:RW X (compareOp j) w)(ha:PE X a f)(W:PE X b g)(P:PE X c l)(S:lastMarks [n,j] [b,c]=false:=by with_unfolding_all rfl):PT X (.Compare a [n,j] [b,c] pos) (y6 (zg r w f g l)):=by
 intro i s m H Q I h;refine isTrue_chain (cP (ha i s m H _ I h) λv B x T G V A=>test_link (cP (W i B m T _ G A) λu s2 y U R p q2=>
  cP (D i s2 m U x y v u _ R V p q2) λd C z q t F ⟨k,e,o⟩=>?_)) S
 subst e;cases F;refine bX ?_;cases k with
 | false=>
   obtain⟨k',J,L⟩:=o;cases J;exact ite_ff ⟨q,t,L⟩
 | true=>
   refine ite_tt (test_last (Ψ (P i C m q _ t o) λw' s4 ⟨M,Y,N,r4,K⟩=>Ψ (E i s4 m Y y M u w' _ N p r4 K) λd' s5 ⟨z2,H5,Z,r5,k2,e2,O⟩=>?_));subst e2;cases r5;exact bX ⟨H5,Z,O⟩
def WR(K:fg)(x:V)(H:Hp)(k:Bool):Prop:=match x with
 | .Θ=>k=false
 | .bl b=>k=b
 | .int i=>k=(i != 0)
 | .str y=>y.length<=sizeLine/\k=((y.length:Int) != 0)
 | .byt y=>y.size<=sizeLine/\k=((y.size:Int) != 0)
 | .ref p=>(∃d,Η K H p d/\k=!d.isEmpty)\/(∃d,Ξ K H p d/\k=!d.isEmpty)\/∃e,H p=some (.dK e)/\k=!e.isEmpty
 | _=>False
theorem KP{h:Type}{e:List (h×V)}{d:List (h×Value)}(r:KV e d):(!d.isEmpty)=!e.isEmpty:=by
 cases r<;>rfl
theorem ze{d:List V}{e:fy}(r:Vals d e):(!e.toArray.isEmpty)=!d.isEmpty:=by
 cases r<;>simp
theorem ni:(sizeLine:Nat)<2^63:=by rw[sizeLine_eq];decide
theorem VH:Yt X (λx H Q=>∃k,WR X.K x H k/\Q k H):=by
 intro C s L H x v Q I o h;obtain⟨k,e,q⟩:=h;have J:=ni;have G:sizeLine=16777216:=sizeLine_eq;cases x with
 | Θ=>
   cases o;have d:k=false:=e;subst d;exact truthy_none ⟨H,I,q⟩
 | bl b=>
   cases o;have d:k=b:=e;subst d;exact bX ⟨H,I,q⟩
 | int i=>
   obtain⟨t,rfl⟩:=o;have d:k=(i != 0):=e;subst d;exact PySem.P.truthy_int ⟨H,I,q⟩
 | str y=>
   obtain⟨t,rfl⟩:=o;obtain⟨E,d⟩:y.length<=sizeLine/\k=((y.length:Int) != 0):=e;subst d;exact PySem.P.truthy_str (by lia) ⟨H,I.tok _,q⟩
 | byt y=>
   obtain⟨t,rfl⟩:=o;obtain⟨E,d⟩:y.size<=sizeLine/\k=((y.size:Int) != 0):=e;subst d;exact PySem.W.truthy_bytes (by lia) ⟨H,I.tok _,q⟩
 | ref p=>
   cases o;have d:(∃n,Η X.K H p n/\k=!n.isEmpty)\/(∃n,Ξ X.K H p n/\k=!n.isEmpty)\/∃u,H p=some (.dK u)/\k=!u.isEmpty:=e;rcases d with⟨n,hx,d⟩|⟨n,hx,d⟩|⟨u,hx,d⟩
   .subst d;obtain⟨F,r,A,B⟩:=I.list hx;have j:=r.length;exact wpAny_truthy_list A.isList (by simp only[aJ];lia) ⟨H,I.tok _,by rw[ze r];exact q⟩
   .subst d;obtain⟨F,r,A,B⟩:=I.tuple hx;have j:=r.length;exact truthy_tuple A (by simp only[aJ];lia) ⟨H,I.tok _,by rw[ze r];exact q⟩
   .subst d;obtain⟨B,D,z,r,m⟩:u.length<=sizeLine/\(p==sysModules)=false/\∃z,KV u z/\s.heap.DictOf (eV X.prog X.w) p z:=I.Β p _ hx;have j:u.length=z.length:=Paired.length r;exact wpAny_truthy_dict D m (by lia) ⟨H,I.tok _,by rw[KP r];exact q⟩
 | _=>exact(show False from e).elim
theorem xm(t:PE X a f)(q:∀d,isTrue a X.env d=(do let v <-d;standAt a.pos;holding [v] (truthy v))):PT X a (λi H Q=>f i H λx j=>∃k,WR X.K x j k/\Q k j):=by
 intro e s i H Q I h;exact isTrue_plain (cP (t e s i H _ I h) λv n x p o r m=>VH e n i p x v Q o r m) (q _)
theorem bH:RW X (binaryOp .Add) (λx y H Q=>∃i j,x=.str i/\y=.str j/\i.length+j.length<=sizeLine/\Q (.str (i++j)) H):=by
 intro d s p H x y v u Q I e k h;obtain⟨i,j,rfl,rfl,m,q⟩:=h;obtain⟨t,rfl⟩:=e;obtain⟨n,rfl⟩:=k;exact add_str (λn o=>⟨.str (i++j),H,I.tok _,⟨_,rfl⟩,q⟩) m
theorem my{x:V}{d:fy}(r:Vals [x] d):∃u,d=[u]/\RelV x u:=by
 cases r with
 | cons r1 r2=>cases r2;exact⟨_,rfl,r1⟩
theorem Tv{x y:V}{d:fy}(r:Vals [x,y] d):∃u e,d=[u,e]/\RelV x u/\RelV y e:=by
 cases r with
 | cons r1 r2=>
   cases r2 with
   | cons r3 r4=>cases r4;exact⟨_,_,rfl,r1,r3⟩
theorem Px(n:X.calm=true):jq X (.builtin "max") (λe H Q=>∃i j,e=[.int i,.int j]/\Q (.int (if j>i then j else i)) H):=by
 intro m s w H e o Q I r h;obtain⟨i,j,rfl,q⟩:=h;obtain⟨u,y,rfl,⟨t,rfl⟩,⟨x,rfl⟩⟩:=Tv r;refine max_two_ints (I.ok.hd n) λv p k=>⟨_,H,I.kept k,?_,q⟩;by_cases d:j>i
 .rw[aj d,aj d];exact⟨_,rfl⟩
 .rw[ag d,ag d];exact⟨_,rfl⟩
theorem dM:jq X (.type "str") (λd H Q=>∃i,d=[.int i]/\i.natAbs.log2<1920/\Q (.str (toString i)) H):=by
 intro e s k H d m Q I r h;obtain⟨i,rfl,j,q⟩:=h;obtain⟨u,rfl,t,rfl⟩:=my r;exact PySem.P.str_of_int j ⟨.str _,H,I.tok _,⟨_,rfl⟩,q⟩
end
structure abh(h:Heap)(x dx C:Addr)(mA:f5):Prop where
 obj:h.get? x=some (PySem.W.instObj C dx)
 ns:h.Ns1 dx mA
 ne:dx≠x
theorem Ou{h:Heap}{i:Addr}{d:f5}(n:h.Ns1 i d):∃g,h.get? i=some g/\∀b,PySem.W.lookIn b g=some (d b):=by
 obtain⟨o,f,s,j,m,k,_,p⟩:=n;refine⟨o,j,λb=>?_⟩;have e:=p b;unfold nsFind findBy at e;rw[<-Array.find?_toList]at e;unfold PySem.W.lookIn;rw[m];dsimp only;split
 .rename_i y q
  rw[q]at e;exact congrArg some e
 .rename_i q
  rw[q]at e;have a:f.toList.any (·.refKey)=false:=by
   rw[List.any_eq_false];intro y l;obtain⟨z,t,c⟩:=k y (kR.mp l);simp[DictEntry.refKey,c]
  have r:¬f.toList.any (·.refKey)=true:=by rw[a];exact aN
  rw[ag r];exact congrArg some e
theorem abh.look{h:Heap}{x c C:Addr}{d:f5}(I:abh h x c C d):∃b,PySem.W.InstAt h x (PySem.W.instObj C c) C (some b)/\∀a,PySem.W.lookIn a b=some (d a):=let ⟨b,ho,hl⟩:=Ou I.ns
 ⟨b,⟨I.obj,rfl,rfl,ho⟩,hl⟩
section
variable{e:Program}{w:World}{A:Around}{E:eF}{s:Shared}{K:fg}{x i C f:Addr}{j:f5}{c:Str}{v:Value}
theorem TV{a:Bool}{Q:eF}(X:K.In s.heap)(I:abh s.heap x i C j)(g:PySem.W.plainGet K C c=true)(d:PySem.W.hasDictIn K C=true)(k:PySem.W.findIn K (.ref C) c=some none)(l:j c=some v)(b:PySem.W.handedIn v=true)(h:Q v { s with toks:=s.toks+1 }):wpAny (model e w) A (getAttr (.ref x) c a) Q E s:=by
 obtain⟨n,J,m⟩:=I.look;exact PySem.W.get_value X J (gI g).1 (PySem.W.findObj_own d k rfl (by rw[m,l])) b h
theorem Qy{g:Sem Bool}{Q:Value×List Value->Shared->Prop}(X:K.In s.heap)(I:abh s.heap x i C j)(a:PySem.W.plainGet K C c=true)(b:PySem.W.findIn K (.ref C) c=some (some (.ref f)))(d:PySem.W.isFn K (.ref f)=true)(l:j c=none)(h:Q (.ref f,[.ref x]) s):wpAny (model e w) A (getMethod (.ref x) c g) Q E s:=by
 obtain⟨k,J,m⟩:=I.look;exact PySem.W.method_fn X J (gI a).1 (gI a).2 b (fM.mp d) (by show(PySem.W.lookIn c k).map (·.isSome)=some false;rw[m,l];rfl) h
theorem TY{ns:gy}{Q:Unit->Shared->Prop}(X:K.In s.heap)(I:abh s.heap x i C j)(F:PySem.W.findIn K (.ref C) "__setattr__"=some (some (.builtin "object.__setattr__")))(D:PySem.W.plainOver K C=true)(p:PySem.W.takerIn K C c=some none)(u:PySem.W.hasDictIn K C=true)(q:PySem.Within j ns)(H:ns.length<=sizeLine)(h:∀k,abh k x i C (λy=>if y=c then some v else j y)->Heap.SameBut i s.heap k->Q () { s with heap:=k,toks:=s.toks+2 }):wpAny (model e w) A (setAttr (.ref x) c v) Q E s:=by
 obtain⟨L,J,O⟩:=I.look;refine PySem.W.set_plain X J F (PySem.W.osa_open (s:={ s with toks:=s.toks+1 }) (r:=none) X J D p λb=>?_);obtain⟨M,z,l⟩:=iM u;have B:s.heap.get? x=some ⟨.ref C,some i,.plain,#[]⟩:=I.obj;refine ah (aD (ah (ah (wpAny_loadPart B (ah (PySem.W.Looks.here (s:={ s with toks:=s.toks+1 }) (gG X z) ?_))))));rw[l];refine aD (a:=some i) (ah (aD (ah ?_)));refine wpAny_nsSet1 (s:={ s with toks:=s.toks+1 }) I.ns λk g d=>?_;obtain⟨N,t,G,m,o,n⟩:=g.count (PySem.Within.cons c v q);refine ah (wpAny_lookBehind m (by rw[o];exact pastItsLine_dict (bh n (by rw[aO];lia))) ?_);exact aD (h _ ⟨(d.2 _ (Ne.symm I.ne)).trans I.obj,g,I.ne⟩ d)
theorem SE{R:Result->Shared->Prop}{b:fy}{k:List (Str×Value)}(X:K.In s.heap)(m:PySem.W.makesIn K C=true)(n:PySem.W.findIn K (.ref C) "__init__"=some (some (.ref f)))(l:PySem.W.typeIn K (.ref f)=some (.type "function"))(h:codeAny (model e w) (A.under (.builtin "type.__call__" ⟨.ref C::b,k⟩)) (.call (.ref f) ⟨.ref (s.heap.objs.size+1)::b,k⟩) (PySem.W.InitBack (s.heap.objs.size+1) R)
 { s with heap:=(s.heap.push PySem.W.emptyDict).push (PySem.W.instObj C s.heap.objs.size) }):codeAny (model e w) A (.call (.ref C) ⟨b,k⟩) R s:=by
 obtain⟨o,g,d,t,os⟩:=s;exact PySem.W.make_core (PySem.W.makes_of X m) (jO X n) (λa=>PySem.W.bind_fn X a l) (.inl rfl) h
end
def fQ(f:Str)(v:V):List (Str×V)->List (Str×V)
 | []=>[(f,v)]
 | (g,x)::r=>if g=f then(g,v)::r else(g,x)::fQ f v r
theorem fw(f g:Str)(v:V):∀b:List (Str×V),(fQ f v b).lookup g=if g=f then some v else b.lookup g
 | []=>by
   show List.lookup g [(f,v)]=_;by_cases h:g=f
   .have hb:(g==f)=true:=fM.mpr h;simp only[List.lookup,hb,aj h]
   .have hb:(g==f)=false:=beq_eq_false_iff_ne.mpr h;simp only[List.lookup,hb,ag h]
 | (k,x)::r=>by
   have c:=fw f g v r;rw[show fQ f v ((k,x)::r)=(if k=f then(k,v)::r else(k,x)::fQ f v r)from rfl];by_cases a:k=f
   .rw[aj a];by_cases h:g=k
    .have hb:(g==k)=true:=fM.mpr h;simp only[List.lookup,hb,aj (h.trans a)]
    .have hb:(g==k)=false:=beq_eq_false_iff_ne.mpr h;simp only[List.lookup,hb,ag (λe:g=f=>h (e.trans a.symm))]
   .rw[ag a];by_cases h:g=k
    .have hb:(g==k)=true:=fM.mpr h;simp only[List.lookup,hb,ag (λe:g=f=>a (h.symm.trans e))]
    .have hb:(g==k)=false:=beq_eq_false_iff_ne.mpr h;simp only[List.lookup,hb];exact c
theorem uR(f:Str)(v:V):∀a:List (Str×V),f∈(fQ f v a).map (·.1)/\∀g,g∈a.map (·.1)->g∈(fQ f v a).map (·.1)
 | []=>⟨by simp[fQ],λg h=>by simp at h⟩
 | (k,x)::r=>by
   obtain⟨c,d⟩:=uR f v r;rw[show fQ f v ((k,x)::r)=(if k=f then(k,v)::r else(k,x)::fQ f v r)from rfl];by_cases b:k=f
   .rw[aj b];subst b;exact⟨by simp,λg h=>by simpa using h⟩
   .rw[ag b];refine⟨?_,λg h=>?_⟩
    .rw[ba];exact aK _ c
    .rw[ba]at h ⊢;rcases az.mp h with e|e
     .exact az.mpr (.inl e)
     .exact aK _ (d g e)
theorem wa(f:Str)(v:V):∀a:List (Str×V),(fQ f v a).length<=a.length+1
 | []=>by simp[fQ]
 | (k,x)::r=>by
   have c:=wa f v r;rw[show fQ f v ((k,x)::r)=(if k=f then(k,v)::r else(k,x)::fQ f v r)from rfl];by_cases b:k=f
   .rw[aj b,aO,aO];lia
   .rw[ag b,aO,aO];lia
theorem As.some_of{v:V}{o:Option Value}(r:As (some v) o):∃u,o=some u/\RelV v u:=by
 cases o with
 | none=>exact(show False from r).elim
 | some u=>exact⟨u,rfl,r⟩
theorem As.none_of{o:Option Value}(r:As none o):o=none:=by
 cases o with
 | none=>rfl
 | some u=>exact(show False from r).elim
theorem PJ{v:V}{u:Value}(r:RelV v u):PySem.W.handedIn u=true:=by
 cases v with
 | Θ=>cases(show u=Value.none from r);rfl
 | bl b=>cases(show u=Value.bool b from r);rfl
 | int i=>obtain⟨t,e⟩:=(show ∃t,u=Value.int i t from r);cases e;rfl
 | str x=>obtain⟨t,e⟩:=(show ∃t,u=Value.str x t from r);cases e;rfl
 | byt b=>obtain⟨t,e⟩:=(show ∃t,u=Value.bytes b t from r);cases e;rfl
 | flt b=>obtain⟨t,e⟩:=(show ∃t,u=Value.float b t from r);cases e;rfl
 | ref a=>cases(show u=Value.ref a from r);rfl
 | ty n=>cases(show u=Value.type n from r);rfl
section
variable{P:Program}{w:World}{H j:Hp}{h i:Heap}{a C c:Addr}{b g:List (Str×V)}
theorem zo(m:lE P w H h)(e:H a=some (.ins C c b)):∃k,abh h a c C k/\(∀f,As (b.lookup f) (k f))/\PySem.Within k (b.map (·.1))/\b.length<=1000/\H c=some (.own a):=by
 obtain⟨d,z,ne,l,k,n,r,q⟩:=(show Μ P w H h a (.ins C c b)from m a _ e);exact⟨k,⟨l,n,ne⟩,r,q,z,d⟩
end
structure Cls(K:fg)(C:Addr):Prop where
 pg:PySem.W.plainGet K C Str.empty=true
 hd:PySem.W.hasDictIn K C=true
 po:PySem.W.plainOver K C=true
 sa:PySem.W.findIn K (.ref C) "__setattr__"=some (some (.builtin "object.__setattr__"))
theorem Cls.get{K:fg}{C:Addr}(c:Cls K C)(f:Str):PySem.W.plainGet K C f=true:=c.pg
def ϐ(K:fg)(C:Addr)(f:Str):Prop:=PySem.W.findIn K (.ref C) f=some none
theorem ϐ.ahm{K:fg}{C:Addr}{f:Str}(n:ϐ K C f):PySem.W.takerIn K C f=some none:=by
 unfold PySem.W.takerIn;rw[show PySem.W.findIn K (.ref C) f=some none from n]
 rfl
structure Meth(K:fg)(C:Addr)(m:Str)(f:Addr):Prop where
 at_:PySem.W.findIn K (.ref C) m=some (some (.ref f))
 fn:PySem.W.isFn K (.ref f)=true
 kp:PySem.W.keepIn K (.ref f)=true
section
variable{X:Cx}{d:fv}{j:St}{H:Hp}{s:Shared}{a C p:Addr}{i:List (Str×V)}{f:Str}{v:V}{A:Around}{E:eF}
theorem KF{b:Bool}{Q:eF}(I:Inv X d j H s)(e:H a=some (.ins C p i))(c:Cls X.K C)(n:ϐ X.K C f)(l:i.lookup f=some v)(h:∀u k,Inv X d j H k->RelV v u->Q u k):wpAny (model X.prog X.w) A (getAttr (.ref a) f b) Q E s:=by
 obtain⟨q,O,r,_,_,_⟩:=zo I.Β e;obtain⟨u,m,g⟩:=As.some_of (v:=v) (o:=q f) (by rw[<-l];exact r f);exact TV I.ZD O (c.get f) c.hd n m (PJ g) (h u _ (I.tok _) g)
theorem yd{m:Str}{g:Addr}{n:Sem Bool}{Q:Value×List Value->Shared->Prop}(I:Inv X d j H s)(e:H a=some (.ins C p i))(c:Cls X.K C)(k:Meth X.K C m g)(l:i.lookup m=none)(h:Q (.ref g,[.ref a]) s):wpAny (model X.prog X.w) A (getMethod (.ref a) m n) Q E s:=by
 obtain⟨o,O,r,_,_,_⟩:=zo I.Β e;have b:o m=none:=As.none_of (by rw[<-l];exact r m);exact Qy I.ZD O (c.get m) k.at_ k.fn b h
theorem ND{y:V}{u:Value}{Q:Unit->Shared->Prop}(I:Inv X d j H s)(e:H a=some (.ins C p i))(c:Cls X.K C)(n:ϐ X.K C f)(N:i.length<1000)(D:RelV y u)(h:∀l,Inv X d j (upd H a (.ins C p (fQ f y i))) l->Q () l):wpAny (model X.prog X.w) A (setAttr (.ref a) f u) Q E s:=by
 obtain⟨t,O,r,B,_,m⟩:=zo I.Β e;have F:(i.map (·.1)).length<=sizeLine:=by rw[am,sizeLine_eq];lia
 refine TY I.ZD O c.sa c.po n.ahm c.hd B F λJ k L=>h _ ?_;have hd:∃o,J.get? p=some o:=let ⟨o,_,_,e',_⟩:=k.ns;⟨o,e'⟩;refine I.write (x:=a) (e:=p) (by rw[e];exact True.intro) (.inr m) (λb q G z=>(L.2 b G).trans z) hd ?_;refine⟨by rw[aU O.ne];exact m,?_,O.ne,k.obj,_,k.ns,λg=>?_,λg M=>?_⟩
 .have:=wa f y i;lia
 .show As ((fQ f y i).lookup g) (if g=f then some u else t g);rw[fw];by_cases q:g=f
  .rw[aj q,aj q];exact D
  .rw[ag q,ag q];exact r g
 .by_cases q:g=f
  .rw[q];exact(uR f y i).1
  .refine(uR f y i).2 g (B g λz=>M ?_);show(if g=f then some u else t g)=none;rw[ag q];exact z
theorem Inv.made(I:Inv X d j H s):Inv X d j (upd (upd H s.heap.objs.size (.own (s.heap.objs.size+1))) (s.heap.objs.size+1) (.ins C s.heap.objs.size []))
 { s with heap:=(s.heap.push PySem.W.emptyDict).push (PySem.W.instObj C s.heap.objs.size) }:=by
 have c:(s.heap.push PySem.W.emptyDict).get? s.heap.objs.size=some PySem.W.emptyDict:=aL s.heap rfl;have k:((s.heap.push PySem.W.emptyDict).push (PySem.W.instObj C s.heap.objs.size)).get? (s.heap.objs.size+1)=some (PySem.W.instObj C s.heap.objs.size):=by
  have:=aL (s.heap.push PySem.W.emptyDict) (o:=PySem.W.instObj C s.heap.objs.size) rfl
  rwa [cg]at this
 have m:(s.heap.push PySem.W.emptyDict).Ns s.heap.objs.size (λ_=>none):=⟨PySem.W.emptyDict,#[],_,c,rfl,(λe g=>absurd g (by simp)),λ_=>rfl⟩;have h:=I.laid (a:=s.heap.objs.size) (o:=.own (s.heap.objs.size+1)) (h':=s.heap.push PySem.W.emptyDict) (t':=s.toks) (λb u q=>ak _ q) (aB _) ⟨_,c⟩;refine h.laid (a:=s.heap.objs.size+1) (o:=.ins C s.heap.objs.size []) (t':=s.toks) (λb u q=>ak _ q) (iJ (cg _ _)) ?_;have ne:s.heap.objs.size≠s.heap.objs.size+1:=aF (cV _);refine⟨by rw[aU ne,aq],bJ _,ne,k,λ_=>none,(Heap.Ns1.of_empty m).at λo q=>ak _ q,λ_=>True.intro,λy l=>absurd rfl l⟩
theorem U7{c:Program}{w:World}{b:Env}{e:Expr}{f:Str}{k:Pos}{s:Shared}{Q:eF}(l:attributeBase e f b (eval e b)=eval e b)(h:wpAny (model c w) A (eval e b) (λo g=>wpAny (model c w) A (getAttr o f true) Q E g) E s):wpAny (model c w) A (eval (.Attribute e f k) b) Q E s:=Attribute_any_ h (by rw[arm_eval_Attribute,l])
end
def Rl(K:fg)(d:TE)(f:Str):TE:=λe H Q=>d e H λx c=>∃a C g b v,x=.ref a/\c a=some (.ins C g b)/\Cls K C/\ϐ K C f/\b.lookup f=some v/\Q v c
def RK(K:fg)(h g:TE)(f:Str):TS:=λD c H=>g c H λy i=>h c i λx d=>∃a C e b,x=.ref a/\d a=some (.ins C e b)/\Cls K C/\ϐ K C f/\b.length<1000/\D.nx c (upd d a (.ins C e (fQ f y b)))
section
variable{X:Cx}{o e b:Expr}{f:Str}{g d k:Pos}{i j:TE}
theorem dJ(A:PE X e i)(B:attributeBase e f X.env (eval e X.env)=eval e X.env):PE X (.Attribute e f g) (Rl X.K i f):=by
 intro m s D H Q I h;refine U7 B (cP (A m s D H _ I h) λu F x z p r ⟨a,C,L,G,v,E,w,c,n,l,q⟩=>?_);subst E;obtain rfl:u=Value.ref a:=r;exact KF p w c n l λJ M y t=>⟨v,z,y,t,q⟩
theorem zi(L:PE X o i)(F:PE X b j)(G:swapsWith b (some (.Attribute o f d)) g.line X.env=pure false):PS X (.Assign [.Attribute o f d] b g) (RK X.K i j f):=by
 intro m s p H D I h;refine plainObj_wpAny_Assign_Attribute (cP (F m s p H _ I h) λu r y E t w q=>cP (L m r p E _ t q) λJ S x Q A v ⟨a,C,R,P,N,z,c,n,l,M⟩=>?_) G;subst N;obtain rfl:J=Value.ref a:=v;exact ND A z c n l w λO B=>⟨p,_,B,M⟩
end
structure Τ(k:Nat)(A:Around):Prop where
 hd:A.handled=none
 dp:A.depth+3*k+5<recursionLimit
 un:A.units+16*k+200<cLine
theorem Τ.mono{j k:Nat}{A:Around}(r:Τ k A)(h:j<=k):Τ j A:=⟨r.hd,by have:=r.dp;lia,by have:=r.un;lia⟩
theorem Τ.deeper{k:Nat}{A:Around}(r:Τ (k+1) A)(a:Env):Τ k (A.deeper a):=⟨r.hd,by have:=r.dp;show A.depth+1+3*k+5<_;lia,by have:=r.un;show A.units+3+16*k+200<_;lia⟩
theorem MS{A:Around}{C:Addr}{a:fy}{b:List (Str×Value)}:(A.under (.builtin "type.__call__" ⟨.ref C::a,b⟩)).depth=A.depth+1:=by
 first|rfl|simp[Around.under,Code.weight,Code.isCreation,Code.isGuard,Code.isCaller,Code.frames,Code.isFrame,guardIds]
theorem JI{A:Around}{C:Addr}{a:fy}{b:List (Str×Value)}:(A.under (.builtin "type.__call__" ⟨.ref C::a,b⟩)).units=A.units+1:=by
 first|rfl|simp[Around.under,Code.cUnits,Code.frames,Code.isFrame]
theorem Τ.make{k:Nat}{A:Around}(r:Τ (k+1) A)(C:Addr)(a:fy)(b:List (Str×Value)):Τ k (A.under (.builtin "type.__call__" ⟨.ref C::a,b⟩)):=⟨r.hd,by have:=r.dp;rw[MS];lia,by have:=r.un;rw[JI];lia⟩
theorem Τ.depth{k:Nat}{A:Around}(r:Τ k A):A.depth<recursionLimit:=by have:=r.dp;lia
theorem Τ.units{k:Nat}{A:Around}(r:Τ k A):A.units+64<cLine:=by have:=r.un;lia
def adb:TA:=λ_ H Q=>Q [] H
def Ni(d:TE)(e:TA):TA:=λa H Q=>d a H λx f=>e a f λc b=>Q (x::c) b
section
variable{X:Cx}{e:Expr}{c:List Expr}{d:TE}{t:TA}{a:Pos}
theorem ap:PA X [] adb:=λ_ _ _ _ H Q I h=>iQ ⟨[],H,I,.nil,h⟩
theorem aa(v:PE X e d)(k:PA X c t)(q:starEach (e::c) X.env=(false,eval e X.env)::starEach c X.env:=by rfl):PA X (e::c) (Ni d t):=by
 intro a b s f H Q I h;rw[q];show wpAny _ _ (spliced ((false,eval e X.env)::backTo a (starEach c X.env))) _ _ s;refine ir (cP (v b s f H _ I h) λu i x o j r g=>?_);exact pM (k a b i f o _ j g) λy z m p n l w=>⟨x::m,p,n,.cons r l,w⟩
def Te(t:TA):TE:=λg H Q=>t g H λb f=>b.length<=sizeLine/\∀p,f p=none->Q (.ref p) (upd f p (.tup b))
def QV(t:TA):TE:=λg H Q=>t g H λb f=>b.length<=sizeLine/\∀p,f p=none->Q (.ref p) (upd f p (.lst b))
theorem dL{x1}(h:PA X c t):PE X (.Tuple c x1 a) (Te t):=by
 intro f s n H Q I o;refine wpAny_Tuple_spliced (pM (h a f s n H _ I o) λk g l j i r ⟨z,q⟩=>⟨by rw[<-r.length];exact z,?_⟩);have m:j g.heap.objs.size=none:=i.Β.fresh (aB _);refine⟨.ref g.heap.objs.size,upd j g.heap.objs.size (.tup l),i.laid (t':=g.toks) (λb u e=>ak _ e) (aB _) ?_,rfl,q _ m⟩;exact⟨z,k,r,⟨_,aL _ rfl,rfl,_,rfl⟩⟩
theorem cM(h:PA X c t):PE X (.List c a) (QV t):=by
 intro f s n H Q I o;refine wpAny_List_spliced (pM (h a f s n H _ I o) λk g l j i r ⟨z,q⟩=>⟨by rw[<-r.length];exact z,?_⟩);have m:j g.heap.objs.size=none:=i.Β.fresh (aB _);refine⟨.ref g.heap.objs.size,upd j g.heap.objs.size (.lst l),i.laid (t':=g.toks) (λb u e=>ak _ e) (aB _) ?_,rfl,q _ m⟩;exact⟨z,k,0,r,aL _ rfl⟩
end
abbrev Sp:=List V->Hp->VK->XK->Prop
abbrev Zu:=List Env->Hp->Shared->XK->Value->Shared->Prop
structure abi(P:Program)(w:World)(K:fg)(mg:f5)(base:Heap)(A:Around)(outer:List Env)(s:Shared)(H:Hp):Prop where
 frames:A.frames=some outer
 mod:Mod K mg base
 bs:∀b o,base.get? b=some o->s.heap.get? b=some o/\H b=none
 bsz:base.objs.size<=s.heap.objs.size
 Za:s.heap.FunFrames base outer
 frf:∀b∈ϗ outer,H b=none
 Β:lE P w H s.heap
 bare:AllBare s.gens
def CE(a:List Env)(P:Program)(w:World)(H:Hp)(s:Shared)(Q:VK)(u:Value)(b:Shared):Prop:=∃v c,b.os=s.os/\AllBare b.gens/\Un (ϗ a) [] H c s.heap b.heap/\lE P w c b.heap/\RelV v u/\Q v c
def CR(c:Zu)(a:List Env)(P:Program)(w:World)(H:Hp)(s:Shared)(Q:VK)(E:XK)(r:Result)(b:Shared):Prop:=match r with
 | .ok (.ret u)=>CE a P w H s Q u b
 | .ok _=>False
 | .error e=>c a H s E e b
structure υ(P:Program)(w:World)(K:fg)(mg:f5)(base:Heap)(CX:Zu)(k:Nat)(f:Addr)(fd:FuncData)(ps:gy)(sp:Sp):Prop where
 len:∀vs H Q E,sp vs H Q E->vs.length=ps.length
 run:∀(A:Around)(outer:List Env)(s:Shared)(H:Hp)(args:Args)(us:fy)(vs:List V)(Q:VK)(E:XK),Τ k A->abi P w K mg base A outer s H->BindsTo s fd args (ps.zip us)->Vals vs us->sp vs H Q E->codeAny (model P w) A (.call (.ref f) args) (CR CX outer P w H s Q E) s
theorem abi.make{P:Program}{w:World}{K:fg}{c:f5}{b:Heap}{A:Around}{a:List Env}{s:Shared}{H:Hp}(e:abi P w K c b A a s H)(C:Addr)(d:fy)(f:List (Str×Value)):abi P w K c b (A.under (.builtin "type.__call__" ⟨.ref C::d,f⟩)) a s H:=⟨by first|exact e.frames|(simpa[Around.under,Code.envs,Code.isFrame,pushEnvs]using e.frames),e.mod,e.bs,e.bsz,e.Za,e.frf,e.Β,e.bare⟩
section
variable{X:Cx}{a:fv}{e:St}{H:Hp}{s c:Shared}
theorem Inv.ade(I:Inv X a e H s):abi X.prog X.w X.K X.mg X.base X.A X.stack s H:=⟨I.ok.frames,I.ok.mod,I.bs,bh I.ok.bsz I.sz,I.stack,I.eQ,I.Β,I.bare⟩
theorem Inv.after{Q:VK}{u:Value}(I:Inv X a e H s)(h:CE X.stack X.prog X.w H s Q u c):EP X a e Q u c:=by
 obtain⟨v,m,os,f,l,k,r,q⟩:=h;obtain⟨j,g,d,t,i⟩:=c;obtain rfl:i=s.os:=os;exact⟨v,m,I.call (h':=j) (g':=g) (d':=d) (t':=t) (ch:=[]) l k f (λb z=>absurd z (by simp)),r,q⟩
end
def og(b:Sp)(d:List V)(E:XK)(t:TA):TE:=λc H Q=>t c H λa e=>b (a++d) e Q E
def CM(C:Addr)(m:Str)(g:Sp)(j:List V)(E:XK)(h:TE)(t:TA):TE:=λc H Q=>h c H λx d=>∃a i b,x=.ref a/\d a=some (.ins C i b)/\b.lookup m=none/\t c d λe f=>g (x::(e++j)) f Q E
def JX(C:Addr)(e:Sp)(g:List V)(E:XK)(t:TA):TE:=λf H Q=>t f H λc b=>∀x a,b x=none->b a=none->a≠x->e (.ref x::(c++g)) (upd (upd b a (.own x)) x (.ins C a [])) (λv d=>v=.Θ/\Q (.ref x) d) E
def Binds(K:fg)(d:FuncData)(c:gy)(b:fy):Prop:=∀(s:Shared)(a:fy),K.In s.heap->(a++b).length=c.length->BindsTo s d ⟨a,[]⟩ (c.zip (a++b))
theorem Binds.all{K:fg}{c:FuncData}{b:gy}(h:∀a:List Value,a.length=b.length->bindArgs c ⟨a,[]⟩=pure (b.zip a)):Binds K c b []:=λs a _ d=>by
 rw[cn]at d ⊢;exact .of_eq (h a d)
def mh(c:Zu)(X:Cx)(E:XK):Prop:=∀(a:fv)(d:St)(H:Hp)(s:Shared)(e:Value)(b:Shared),Inv X a d H s->c X.stack H s E e b->X.xe e b
section
variable{X:Cx}{B:Zu}{k:Nat}{f C:Addr}{z:FuncData}{n:gy}{y:Sp}{j:List V}{g:fy}{E:XK}{x m:Str}{p b d:Pos}{e o:Expr}{i:List Expr}{D:TE}{t:TA}
theorem Gu{a:fv}{l:St}{H:Hp}{s:Shared}{Q:VK}{us:fy}{vs:List V}(F:υ X.prog X.w X.K X.mg X.base B k f z n y)(G:Τ k X.A)(M:Binds X.K z n g)(J:Vals j g)(L:mh B X E)(I:Inv X a l H s)(r:Vals vs us)(h:y (vs++j) H Q E):wpAny (model X.prog X.w) X.A (call (.ref f) us) (EP X a l Q) X.xe s:=by
 have q:Vals (vs++j) (us++g):=r.append J;have N:(us++g).length=n.length:=by rw[<-q.length];exact F.len _ _ _ _ h
 refine fK (eW (F.run X.A X.stack s H ⟨us,[]⟩ (us++g) (vs++j) Q E G I.ade (M s us I.ZD N) q h) λr v c=>?_);cases r with
 | error e=>exact L a l H s e v I c
 | ok fl=>
   cases fl with
   | ret u=>exact I.after c
   | next=>exact False.elim c
   | brk=>exact False.elim c
   | cont=>exact False.elim c
theorem IW(F:υ X.prog X.w X.K X.mg X.base B k f z n y)(v:Τ k X.A)(S:Gl X x)(L:X.mg x=some (.ref f))(u:PySem.W.keepIn X.K (.ref f)=true)(N:Binds X.K z n g)(G:Vals j g)(J:mh B X E)(O:PA X (e::i) t)(c:(x==("__debug__":Str))=false:=by decide)(M:starEach (e::i) X.env=(false,eval e X.env)::starEach i X.env:=by rfl)(P:(backTo b (starEach i X.env)).any (·.1)=false:=by rfl):PE X (.Call (.Name x p) (e::i) [] b) (og y j E t):=by
 intro a s R H Q I h;refine eh (mQ I S L ?_ c);refine fu (h₀:=X.base) I.ok.mod.kin u (pM (O b a s R H _ I h) λU T Y V l r q=>⟨l.ZD,?_⟩) M P;exact Gu F v N G J l r q
theorem jv{pl:Sem Bool}(Z:PE X o D)(c:Cls X.K C)(M:Meth X.K C m f)(F:υ X.prog X.w X.K X.mg X.base B k f z n y)(S:Τ k X.A)(hb:Binds X.K z n g)(V:Vals j g)(W:mh B X E)(ha:PA X (e::i) t)(G:starEach (e::i) X.env=(false,eval e X.env)::starEach i X.env:=by rfl)(gT:(backTo b (starEach i X.env)).any (·.1)=false:=by rfl)(R:eval (.Call (.Attribute o m d) (e::i) [] b) X.env=(do
 let N <-eval o X.env
 standAt d.atName
 let (f,first) <-holding [N] (getMethod N m pl)
 callWith b f first (backTo b (starEach (e::i) X.env)) (backToKw b (keywordEach [] X.env))):=by rfl):PE X (.Call (.Attribute o m d) (e::i) [] b) (CM C m y j E D t):=by
 intro v s O H Q I h;refine f8 (pl:=pl) (cP (Z v s O H _ I h) λu P x Y J T ⟨a,dx,fs,ex,U,l,q⟩=>?_) R;subst ex;obtain rfl:u=Value.ref a:=T;refine yd J U c M l ?_;refine fu (first:=[.ref a]) (h₀:=X.base) I.ok.mod.kin M.kp (pM (ha b v P O Y _ J q) λus s2 vs H2 L r q2=>⟨L.ZD,?_⟩) G gT;exact Gu (us:=.ref a::us) (vs:=.ref a::vs) F S hb V W L (.cons rfl r) q2
theorem dY{pl:Sem Bool}(S:PE X o D)(c:Cls X.K C)(G:Meth X.K C m f)(F:υ X.prog X.w X.K X.mg X.base B k f z n y)(M:Τ k X.A)(T:Binds X.K z n g)(P:Vals j g)(R:mh B X E)(L:eval (.Call (.Attribute o m d) [] [] b) X.env=(do
 let J <-eval o X.env
 standAt d.atName
 let (f,first) <-holding [J] (getMethod J m pl)
 callWith b f first (backTo b (starEach [] X.env)) (backToKw b (keywordEach [] X.env))):=by rfl):PE X (.Call (.Attribute o m d) [] [] b) (CM C m y j E D adb):=by
 intro r s U H Q I h;refine f8 (pl:=pl) (cP (S r s U H _ I h) λu Y x H1 v N ⟨a,dx,Z,V,O,l,q⟩=>?_) L;subst V;obtain rfl:u=Value.ref a:=N;refine yd v O c G l ?_;exact PySem.W.callWith_K0 (first:=[.ref a]) v.ZD G.kp (Gu (us:=[.ref a]) (vs:=[.ref a]) F M T P R v (.cons rfl .nil) q)
structure Mk(K:fg)(C f:Addr):Prop where
 makes:PySem.W.makesIn K C=true
 init:PySem.W.findIn K (.ref C) "__init__"=some (some (.ref f))
 fn:PySem.W.isFn K (.ref f)=true
 kp:PySem.W.keepIn K (.ref C)=true
theorem RR{a:fv}{L:St}{H:Hp}{s:Shared}{Q:VK}{c:fy}{J:List V}(M:Mk X.K C f)(F:υ X.prog X.w X.K X.mg X.base B k f z n y)(R:Τ (k+1) X.A)(hb:Binds X.K z n g)(U:Vals j g)(W:mh B X E)(I:Inv X a L H s)(r:Vals J c)(h:∀x G,H x=none->H G=none->G≠x->y (.ref x::(J++j)) (upd (upd H G (.own x)) x (.ins C G [])) (λv Z=>v=.Θ/\Q (.ref x) Z) E):wpAny (model X.prog X.w) X.A (call (.ref C) c) (EP X a L Q) X.xe s:=by
 have O:=h (s.heap.objs.size+1) s.heap.objs.size (I.Β.fresh (dC _)) (I.Β.fresh (aB _)) (aF (cV _));have q:=Inv.made (C:=C) I;have N:Vals (V.ref (s.heap.objs.size+1)::(J++j)) (Value.ref (s.heap.objs.size+1)::(c++g)):=.cons rfl (r.append U);have hl:(Value.ref (s.heap.objs.size+1)::c++g).length=n.length:=by
  have e:=N.length;rw[F.len _ _ _ _ O]at e;exact e.symm
 refine fK (SE (f:=f) I.ZD M.makes M.init (fM.mp M.fn) (eW (F.run _ X.stack _ _ ⟨Value.ref (s.heap.objs.size+1)::c,[]⟩ (Value.ref (s.heap.objs.size+1)::(c++g)) _ _ E (R.make C c [])
  (q.ade.make C c []) (hb _ (Value.ref (s.heap.objs.size+1)::c) q.ZD hl) N O) λr P l=>?_))
 cases r with
 | error e=>exact W a L _ _ e P q l
 | ok fl=>
   cases fl with
   | ret u=>
     obtain⟨v,H',Y,T,ev,S⟩:=q.after l;subst ev;exact⟨T,⟨V.ref (s.heap.objs.size+1),H',Y,rfl,S⟩⟩
   | next=>exact False.elim l
   | brk=>exact False.elim l
   | cont=>exact False.elim l
theorem AH(M:Mk X.K C f)(F:υ X.prog X.w X.K X.mg X.base B k f z n y)(l:Τ (k+1) X.A)(R:Gl X x)(G:X.mg x=some (.ref C))(L:Binds X.K z n g)(u:Vals j g)(v:mh B X E)(N:PA X (e::i) t)(hdb:(x==("__debug__":Str))=false:=by decide)(J:starEach (e::i) X.env=(false,eval e X.env)::starEach i X.env:=by rfl)(O:(backTo b (starEach i X.env)).any (·.1)=false:=by rfl):PE X (.Call (.Name x p) (e::i) [] b) (JX C y j E t):=by
 intro a s P H Q I h;refine eh (mQ I R G ?_ hdb);refine fu (h₀:=X.base) I.ok.mod.kin M.kp (pM (N b a s P H _ I h) λT S V U c r q=>⟨c.ZD,?_⟩) J O;exact RR M F l L u v c r q
end
structure ε(N P:gy)(sc:Scope):Prop where
 kind:sc.kind=.function
 co:sc.isCoroutine=false
 gen:sc.isGenerator=false
 nd:N.Nodup
 pre:N.take P.length=P
 par:∀x∈P,sc.names.lookup x=some .local\/sc.names.lookup x=some .cell
 aeo:∀y∈sc.names,y.2≠.free
theorem Bm{b:Str->Option NameKind}{x:Str}:∀{a:List (Str×Value)}{m:f5},(∀v,(x,v)∉a)->bindL b a m x=m x
 | [],_,_=>rfl
 | (n,v)::r,m,h=>by
   unfold bindL;rw[Bm λw c=>h w (aK _ c)];split
   .have:x≠n:=(by rintro rfl;exact h v aR);simp[this]
   .rfl
theorem BJ{b:Str->Option NameKind}{x:Str}:∀{a:List (Str×Value)}{m:f5},(∀v,(x,v)∉a)->bindC b a m x=m x
 | [],_,_=>rfl
 | (n,v)::r,m,h=>by
   unfold bindC;rw[BJ λw c=>h w (aK _ c)];split
   .rfl
   .have:x≠n:=(by rintro rfl;exact h v aR);simp[this]
theorem AZ{a:Str->Option NameKind}{x:Str}{v:Value}:∀{P:gy}{b:fy}{i:Nat}{m:f5},P.Nodup->P[i]?=some x->b[i]?=some v->a x=some .local->bindL a (P.zip b) m x=some v
 | [],_,_,_,_,h,_,_=>by simp at h
 | _::_,[],_,_,_,_,h,_=>by simp at h
 | p::P,w::b,0,m,nd,h1,h2,hk=>by
   simp at h1 h2;subst h1;subst h2;show bindL a ((p,w)::P.zip b) m p=_;unfold bindL;rw[Bm λv c=>(bn.mp nd).1 (ji c).1,aj hk];simp
 | p::P,w::b,i+1,m,nd,h1,h2,hk=>by
   show bindL a ((p,w)::P.zip b) m x=_;unfold bindL;exact AZ (i:=i) (bn.mp nd).2 (by simpa using h1) (by simpa using h2) hk
theorem BD{a:Str->Option NameKind}{x:Str}{v:Value}:∀{P:gy}{b:fy}{i:Nat}{m:f5},P.Nodup->P[i]?=some x->b[i]?=some v->a x≠some .local->bindC a (P.zip b) m x=some v
 | [],_,_,_,_,h,_,_=>by simp at h
 | _::_,[],_,_,_,_,h,_=>by simp at h
 | p::P,w::b,0,m,nd,h1,h2,hk=>by
   simp at h1 h2;subst h1;subst h2;show bindC a ((p,w)::P.zip b) m p=_;unfold bindC;rw[BJ λv c=>(bn.mp nd).1 (ji c).1,ag hk];simp
 | p::P,w::b,i+1,m,nd,h1,h2,hk=>by
   show bindC a ((p,w)::P.zip b) m x=_;unfold bindC;exact BD (i:=i) (bn.mp nd).2 (by simpa using h1) (by simpa using h2) hk
def start(N:gy)(a:List V):St:=a.map some++List.replicate (N.length-a.length) none
def mS(d:Zu)(P:Program)(w:World)(K:fg)(mg:f5)(base:Heap)(N:gy)(b:Str)(a:Scope)(f:Addr)(cd:Value)(A:Around)(outer:List Env)(s:Shared)(H:Hp)(E:XK):Cx where
 prog:=P
 w:=w
 K:=K
 mg:=mg
 base:=base
 A:=A.deeper (envOfC b a s.heap.objs.size f cd)
 N:=N
 s₀:=s
 H₀:=H
 env:=envOfC b a s.heap.objs.size f cd
 outer:=outer
 stack:=envOfC b a s.heap.objs.size f cd::outer
 ex:=[]
 calm:=true
 fn:=λ_=>true
 pn:=[]
 xe:=λe g=>wpAny (model P w) (A.deeper (envOfC b a s.heap.objs.size f cd)) (leaving (envOfC b a s.heap.objs.size f cd) e) (λ_ c=>d outer H s E e c) (λh c=>d outer H s E h c) g
theorem wD{a:Scope}{n:Nat}{x:Str}(h:a.names.lookup x=some .cell):∃c,(cellsFrom n a.names []).lookup x=some c:=by
 have q:=jo a.names n [] (.inl h);exact d4.mp q
theorem Pq{T:Zu}{P:Program}{w:World}{K:fg}{M:f5}{m:Heap}{N t:gy}{j:Str}{d:Scope}{f:Addr}{I:Value}{A:Around}{g:List Env}{s O:Shared}{H:Hp}{E:XK}{L:fy}{B:List V}(S:ε N t d)(X:A.handled=none)(o:abi P w K M m A g s H)(hl:B.length=t.length)(r:Vals B L)(x:InCallC s s.heap.objs.size (bindL (envOfC j d s.heap.objs.size f I).kindOf (t.zip L) λ_=>none) (cellsFrom (s.heap.objs.size+1) d.names []) (bindC (envOfC j d s.heap.objs.size f I).kindOf (t.zip L) λ_=>none) O):Inv (mS T P w K M m N j d f I A g s H E) [] (start N B) H O:=by
 have gT:t.length<=N.length:=by have:=congrArg List.length S.pre;rw[bc]at this;lia
 obtain⟨G,Z,rfl,Q⟩:=x.done;have C:∀b:Addr,b∉(mS T P w K M m N j d f I A g s H E).ex:=λb z=>absurd (show b∈([]:fx)from z) (by simp);refine⟨⟨o.mod,S.kind,rfl,rfl,aB _,λy z c G l=>?_,λy hy=>?_,λy c _ h=>?_,λ_=>X,Around.frames_deeper o.frames,.inr ⟨rfl,rfl⟩,λb z=>absurd z (C b),o.bs,o.bsz,λb _ _=>C b,λb z=>absurd z (C b),o.Za,o.frf⟩,rfl,o.bare,Un.kept Q,⟨_,x.toInCall.ns,λi y v G l h3=>?_⟩,λy c h=>⟨_,x.cell y c h⟩,o.Β.fresh (aB _),λy c h=>?_,λp D=>absurd (show p∈([]:fv)from D) (by simp),o.Β.kept Q,?_⟩
 .exact name_of_addr x.apart (cG G) (cG l)
 .have hy:d.names.lookup y=some .cell\/d.names.lookup y=some .free:=hy;rcases hy with hy|hy
  .exact wD hy
  .exact absurd rfl (S.aeo _ (cG hy))
 .exact iG (x.above y c (cG h))
 .have J:i<B.length:=by
   unfold start at l;by_cases J:i<B.length
   .exact J
   .rw[cL (by simpa using J)]at l;rw[fP]at l;split at l<;>cases l
  have Y:B[i]?=some v:=by
   unfold start at l;rw[d6 (by simpa using J),aY]at l;cases e:B[i]? with
   | none=>rw[e]at l;cases l
   | some a=>rw[e]at l;cases l;rfl
  obtain⟨u,R,U⟩:=r.get Y;have D:t[i]?=some y:=by
   rw[<-S.pre,fJ (by lia)];exact G
  have F:t.Nodup:=by rw[<-S.pre];exact S.nd.sublist (List.take_sublist _ _)
  refine⟨u,U,?_⟩;rcases S.par y (bd D)with k|k
  .exact .inl ⟨k,AZ F D R k⟩
  .obtain⟨c,e⟩:=wD (n:=s.heap.objs.size+1) k;refine .inr ⟨.inl k,c,e,?_⟩;have q:=x.cell y c e;rw[BD F D R (by show d.names.lookup y≠_;rw[k];decide)]at q;exact q
 .exact o.Β.fresh (iG (x.above y c (cG h)))
 .unfold start;show _=N.length;rw[ao,am,bW]
  lia
theorem To{O:Zu}{P:Program}{w:World}{K:fg}{M:f5}{base:Heap}{k:Nat}{f:Addr}{l d:Str}{g:Arguments}{h:List Stmt}{a:Scope}{dV kV C pm p ct oc:Value}{an od:Option Addr}{ac:Array (Option Value)}{N L:gy}{R:Sp}(lk:K.lookup f=some ⟨oc,od,.func (PySem.W.fnOf l d g h a dV kV C pm an p ct),ac⟩)(T:PySem.W.codeIn K p d=true)(S:ε N L a)(F:∀j H Q E,R j H Q E->j.length=L.length)(Y:∀(A:Around) (c:List Env) (s:Shared) (H:Hp) (j:List V) (Q:VK) (E:XK),Τ k (A.deeper (envOfC d a s.heap.objs.size f p))->R j H Q E->∃t,PSs (mS O P w K M base N d a f p A c s H E) h t/\t { nx:=λ_ m=>Q .Θ m,rt:=Q } (start N j) H):υ P w K M base O (k+1) f (PySem.W.fnOf l d g h a dV kV C pm an p ct) L R:=by
 refine⟨F,λA c s H aS us j Q E X B hb r G=>?_⟩;have hl:=F _ _ _ _ G;have KX:K.In s.heap:=B.mod.kin.keeps λb o e=>(B.bs b o e).1;have ab:s.heap.NoLimit:=B.mod.nolimit.keeps λb o e=>(B.bs b o e).1;have ad:∀y∈L.zip us,a.names.lookup y.1=some .local\/(a.names.lookup y.1=some .cell/\((cellsFrom (s.heap.objs.size+1) a.names []).lookup y.1).isSome=true):=λ⟨n,v⟩ hy=>by
  rcases S.par n (ji hy).1 with q|q
  .exact .inl q
  .exact .inr ⟨q,jo _ _ _ (.inl q)⟩
 refine codeAny_call_function X.depth (KX _ _ lk) rfl S.co S.gen rfl (PySem.W.codeRec_of KX T) (hb _ _ _ _ ?_);refine wpAny_newFunctionEnv_cells S.kind ad λa3 he s1 x=>?_;subst he;refine⟨ab.keeps x.toInCall.keep,codeAny_func ?_⟩;obtain⟨t,ht,hq⟩:=Y A c s H j Q E (X.deeper _) G;have I:Inv (mS O P w K M base N d a f p A c s H E) [] (start N j) H s1:=Pq S X.hd B hl r x;refine aX (ht [] s1 (start N j) H _ I hq) (λfl U z=>?_) λe U z=>z;have D:∀{i:St}{m:Hp}{v:V}{u:Value},Inv (mS O P w K M base N d a f p A c s H E) [] i m U->RelV v u->Q v m->CE c P w H s Q u U:=λ{i m v u} J Z q=>⟨v,m,J.os,J.bare,J.base,J.Β,Z,q⟩
 cases fl with
 | ret u=>
   obtain⟨v,i,m,J,Z,q⟩:=z;exact D J Z q
 | next=>
   obtain⟨i,m,J,q⟩:=z;exact D (v:=V.Θ) (u:=Value.none) J rfl q
 | brk=>
   obtain⟨_,_,_,q⟩:=z;exact False.elim q
 | cont=>
   obtain⟨_,_,_,q⟩:=z;exact False.elim q
section
variable{X:Cx}{x:Str}{p a:Pos}{e:Expr}{b:List Expr}{t:TA}{c T:String}{r:List V->Hp->VK->Prop}
def tCB(r:List V->Hp->VK->Prop)(t:TA):TE:=λf H Q=>t f H λd g=>r d g Q
theorem R6(n:jq X (.builtin c) r)(B:Gl X x)(o:X.mg x=none)(u:bootBuiltins x=some (.builtin c))(z:PA X (e::b) t)(m:x≠"__name__":=by decide)(f:(x==("__debug__":Str))=false:=by decide)(w:starEach (e::b) X.env=(false,eval e X.env)::starEach b X.env:=by rfl)(A:(backTo a (starEach b X.env)).any (·.1)=false:=by rfl):PE X (.Call (.Name x p) (e::b) [] a) (tCB r t):=by
 intro d s g H Q I h;refine eh (pW I B o u ?_ m f);exact PyProof.Rows.callWith_builtin1 (pM (z a d s g H _ I h) λl j v q k y i=>n d j g q v l Q k y i) w A
theorem Bi(n:jq X (.type T) r)(B:Gl X x)(o:X.mg x=none)(u:bootBuiltins x=some (.type T))(z:PA X (e::b) t)(m:x≠"__name__":=by decide)(f:(x==("__debug__":Str))=false:=by decide)(w:starEach (e::b) X.env=(false,eval e X.env)::starEach b X.env:=by rfl)(A:(backTo a (starEach b X.env)).any (·.1)=false:=by rfl):PE X (.Call (.Name x p) (e::b) [] a) (tCB r t):=by
 intro d s g H Q I h;refine eh (pW I B o u ?_ m f);exact cD (pM (z a d s g H _ I h) λl j v q k y i=>n d j g q v l Q k y i) w A
end
end L2
namespace HT
open PySem PyProof.Rows
section
variable{a:Program}{w:World}{A:Around}{E:eF}{s:Shared}
def sIx(n d:Nat):Option Int->Nat
 | none=>d
 | some v=>if v<0 then(v+(n:Int)).toNat else min v.toNat n
end
end HT
namespace L2
open PySem PySem.Spec PyProof.Rows
abbrev TO:=St->Hp->(Option Int->Hp->Prop)->Prop
def PO(X:Cx)(e:Option Expr)(t:TO):Prop:=∀(a:fv)(s:Shared)(b:St)(H:Hp)(Q:Option Int->Hp->Prop),Inv X a b H s->t b H Q->wpAny (model X.prog X.w) X.A (evalPart e X.env) (λu d=>∃o c,Inv X a b c d/\IsPart u o/\Q o c) X.xe s
def aai:TO:=λ_ H Q=>Q none H
def JF(t:TE):TO:=λa H Q=>t a H λx b=>∃i,x=.int i/\Q (some i) b
section
variable{X:Cx}{e:Expr}{d:TE}{a c:Option Expr}{g f:TO}{j k:Pos}
theorem pA:PO X none aai:=by
 intro b s i H Q I h;rw[evalPart_none];exact aD ⟨none,H,I,.none,h⟩
theorem pC(h:PE X e d):PO X (some e) (JF d):=by
 intro b s p H Q I n;rw[evalPart_some];refine cP (h b s p H _ I n) λu v x r o m l=>?_;obtain⟨i,rfl,q⟩:=l;obtain⟨t,rfl⟩:=m;exact⟨some i,r,o,.int i t,q⟩
def SlR(X:Cx)(r:V->Option Int->Option Int->Hp->VK->Prop):Prop:=∀(b:fv)(s:Shared)(i:St)(H:Hp)(x:V)(v l h:Value)(a c:Option Int)(m:Addr)(Q:VK),Inv X b i H s->RelV x v->s.heap.IsSliceOf m l h .none->IsPart l a->IsPart h c->r x a c H Q->∃T id,typeLookup (.type T) "__getitem__"=pure (some (.builtin id))/\s.TypeIs v T/\wpAny (model X.prog X.w) X.A (getItem v (.ref m)) (EP X b i Q) X.xe s
def tSl(r:V->Option Int->Option Int->Hp->VK->Prop)(d:TE)(g f:TO):TE:=λb H Q=>d b H λx m=>g b m λl h=>f b h λu i=>r x l u i Q
theorem nR{r:V->Option Int->Option Int->Hp->VK->Prop}(D:SlR X r)(O:PE X e d)(S:PO X a g)(G:PO X c f):PE X (.Subscript e (.Slice a c none k) j) (tSl r d g f):=by
 intro i s n H Q I h;refine Subscript_ (cP (O i s n H _ I h) λv z x M C P y=>?_);refine wpAny_Slice (Ψ (S i z n M _ C y) λp U ⟨l,N,L,Z,R⟩=>Ψ (G i U n N _ L R) λo m ⟨u,t,K,W,E⟩=>?_);rw[evalPart_none];refine aD ?_;have J:Inv X i n t { m with heap:=m.heap.push { cls:=.type "slice",data:=.fields #[p,o,.none] } }:=K.kept (t':=m.toks) λb ob q=>ak _ q;obtain⟨T,id,F,B,Y⟩:=D i { m with heap:=m.heap.push { cls:=.type "slice",data:=.fields #[p,o,.none] } } n t x v p o l u m.heap.objs.size Q J P (Heap.IsSliceOf.new ..) Z W E;show wpAny (model X.prog X.w) X.A (subscriptTail e (.Slice a c none k) v (.ref m.heap.objs.size)) (EP X i n Q) X.xe { m with heap:=m.heap.push { cls:=.type "slice",data:=.fields #[p,o,.none] } };exact tail_any (ops:=[.ref m.heap.objs.size,v]) B F Y (by with_unfolding_all rfl)
def uE(b:List V)(a c:Option Int):List V:=(b.drop (HT.sIx b.length 0 a)).take (HT.sIx b.length b.length c-HT.sIx b.length 0 a)
theorem Ha(b:List V)(a c:Option Int):(uE b a c).length<=b.length:=by
 unfold uE;rw[bc,cz]
 lia
end
def ixN(n:Nat)(i:Int):Option Nat:=if 0<=i then(if i<n then some i.toNat else none)else if -(n:Int)<=i then some (i+n).toNat else none
def ZE{b:Type}(a:List b)(i:Int):Option b:=(ixN a.length i).bind λj=>a[j]?
theorem IT{n:Nat}{i:Int}{j:Nat}(h:ixN n i=some j):seqIndex? i n=some j/\j<n/\-(n:Int)<=i/\i<n:=by
 unfold ixN at h;by_cases b:0<=i
 .rw[aj b]at h;by_cases a:i<n
  .rw[aj a]at h;have e:i.toNat=j:=bo h;exact⟨by rw[seqIndex_of b a,e],by lia,by lia,a⟩
  .rw[ag a]at h;cases h
 .rw[ag b]at h;by_cases a:-(n:Int)<=i
  .rw[aj a]at h;have e:(i+n).toNat=j:=bo h;exact⟨by rw[seqIndex_neg (by lia) a,e],by lia,a,by lia⟩
  .rw[ag a]at h;cases h
theorem vE{b:Type}{a:List b}{i:Int}{v:b}(h:ZE a i=some v):∃j,seqIndex? i a.length=some j/\a[j]?=some v/\j<a.length/\-(a.length:Int)<=i/\i<a.length:=by
 unfold ZE at h;cases e:ixN a.length i with
 | none=>rw[e]at h;cases h
 | some j=>
   rw[e]at h;obtain⟨c,f,d,g⟩:=IT e;exact⟨j,c,h,f,d,g⟩
theorem Jf{b:Type}{a:List b}{j:Nat}{v:b}(h:a[j]?=some v):ZE a (j:Int)=some v:=by
 have c:j<a.length:=(aH.mp h).1;have e:ixN a.length (j:Int)=some j:=by
  unfold ixN;rw[aj (by lia),aj (by lia)];simp
 unfold ZE;rw[e];exact h
theorem wY{b:Type}(a:List b)(v:b):ZE (a++[v]) (-1)=some v:=by
 have c:(a++[v]).length=a.length+1:=by simp
 have e:ixN (a++[v]).length (-1)=some a.length:=by
  unfold ixN;rw[c,ag (by decide),aj (by lia)]
  congr 1
  lia
 unfold ZE;rw[e];show(a++[v])[a.length]?=some v;simp
def IU(b:Expr):Prop:=∀o i,subscripted b false o i=operate [o,i] (getItem o i)
def IxR(X:Cx)(r:R2):Prop:=∀(c a:Expr)(b:fv)(s:Shared)(d:St)(H:Hp)(x y:V)(v u:Value)(Q:VK),Inv X b d H s->RelV x v->RelV y u->r x y H Q->subscripted a false v u=operate [v,u] (getItem v u)->wpAny (model X.prog X.w) X.A (subscriptTail c a v u) (EP X b d Q) X.xe s
def MtR(X:Cx)(id:String)(r:V->List V->Hp->VK->Prop):Prop:=∀(a:fv)(s:Shared)(c:St)(H:Hp)(x:V)(b:List V)(v:Value)(d:fy)(Q:VK),Inv X a c H s->RelV x v->Vals b d->r x b H Q->wpAny (model X.prog X.w) X.A (call (.builtin id) (v::d)) (EP X a c Q) X.xe s
section
variable{X:Cx}{a b:Expr}{F G:TE}{E:Pos}
theorem o9{r:R2}(d:IxR X r)(l:PE X a F)(k:PE X b G)(j:IU b):PE X (.Subscript a b E) (tOp r F G):=by
 intro c s n H Q I h;exact Subscript_ (Rc l k I h λv u m x y i g e f q=>d a b c m n i x y v u Q g e f q (j _ _))
def Al(K:fg):R2:=λx y H Q=>∃p c i v,x=.ref p/\y=.int i/\Η K H p c/\ZE c i=some v/\Q v H
def LF(K:fg):R2:=λx y H Q=>∃p c i v,x=.ref p/\y=.int i/\Ξ K H p c/\ZE c i=some v/\Q v H
def ahp:R2:=λx y H Q=>∃z i c,x=.str z/\y=.int i/\z.length<=sizeLine/\ZE z.cps.toList i=some c/\Q (.str ⟨#[c]⟩) H
theorem bB:IxR X (Al X.K):=by
 intro f k c s o H x y v u Q I D J h n;obtain⟨p,T,i,z,rfl,rfl,P,N,q⟩:=h;cases D;obtain⟨t,rfl⟩:=J;obtain⟨M,r,l,S⟩:=I.list P;obtain⟨j,e,R,V,L,C⟩:=vE N;obtain⟨w,A,g⟩:=r.get R;have O:=r.length;have U:=ni;have d:EP X c o Q w s:=⟨z,H,I,g,q⟩;by_cases m:0<=i
 .have hj:i.toNat=j:=by
   rw[seqIndex_of m C]at e;exact bo e
  exact item_listR l.isList m (by lia) (by rw[hj];simpa using A) d n
 .have hj:(i+(M.toArray.size:Int)).toNat=j:=by
   rw[seqIndex_neg (by lia) L]at e;rw[aJ,<-O];exact bo e
  exact subscriptTail_builtinR (x:=w) l.isList.typeIs slot_list_getitem.lookup
   (wpAny_getItem_list_neg (Q:=λr B=>r=w/\EP X c o Q r B) l.isList (by lia) (by rw[aJ]<;>lia) (by lia) (by rw[hj];simpa using A) ⟨rfl,d⟩) n
theorem dQ:IxR X (LF X.K):=by
 intro e g c s k H x y v u Q I n A h B;obtain⟨p,P,i,z,rfl,rfl,J,C,q⟩:=h;cases n;obtain⟨t,rfl⟩:=A;obtain⟨T,r,l,O⟩:=I.tuple J;obtain⟨j,o,M,U,R,N⟩:=vE C;obtain⟨w,L,f⟩:=r.get M;have D:=r.length;have S:=ni;have d:EP X c k Q w s:=⟨z,H,I,f,q⟩;exact subscriptTail_builtinR (x:=w) l.typeIs slot_tuple_getitem.lookup
  (getItem_tuple (j:=j) (Q:=λr m=>r=w/\EP X c k Q r m) l (by lia) (by lia) (by rw[aJ,<-D];exact o) (by simpa using L) ⟨rfl,d⟩) B
theorem Wt:IxR X ahp:=by
 intro d e g s K H x y v u Q I l m h o;obtain⟨z,i,c,rfl,rfl,C,p,q⟩:=h;obtain⟨t,rfl⟩:=l;obtain⟨L,rfl⟩:=m;obtain⟨j,f,B,J,n,k⟩:=vE p;have r:z.cps.toList.length=z.length:=by simp[Str.length]
 rw[r]at f n k;have D:=ni;exact tail_any (typeIs_str s z t) slot_str_getitem.lookup (getItem_str (c:=c) (by
  have A:decide (i < -(2^63:Int))=false:=bt (by lia);have w:decide (i ≥ 2^63)=false:=bt (by lia);rw[A,w,Bool.or_false]) (by rw[f];simpa using B) ⟨.str ⟨#[c]⟩,H,I.tok _,⟨_,rfl⟩,q⟩) o
theorem JE(c:fy)(n j:Nat)(u:Value):Obj.mapSeq (·.setIfInBounds j u) { cls:=.type "list",data:=.seq c.toArray n }={ cls:=.type "list",data:=.seq (c.set j u).toArray n }:=by
 simp[Obj.mapSeq]
theorem Inv.lst{c:fv}{g:St}{H:Hp}{s:Shared}{p:Addr}{f:List V}(I:Inv X c g H s)(h:H p=some (.lst f)):∃(d:fy)(n:Nat),Vals f d/\s.heap.get? p=some { cls:=.type "list",data:=.seq d.toArray n }/\f.length<=sizeLine:=by
 obtain⟨z,d,n,r,e⟩:=I.Β p _ h;exact⟨d,n,r,e,z⟩
theorem Inv.aeq{d:fv}{l:St}{H:Hp}{s:Shared}{p:Addr}{v g:List V}{k c:fy}{n i:Nat}{f:Obj->Obj}(I:Inv X d l H s)(h:H p=some (.lst v))(m:s.heap.get? p=some { cls:=.type "list",data:=.seq k.toArray n })(j:f { cls:=.type "list",data:=.seq k.toArray n }={ cls:=.type "list",data:=.seq c.toArray i })(r:Vals g c)(o:g.length<=sizeLine)(t:Nat):Inv X d l (upd H p (.lst g)) { s with heap:=s.heap.update p f,toks:=t }:=by
 have e:(s.heap.update p f).get? p=some { cls:=.type "list",data:=.seq c.toArray i }:=by
  rw[cx f m (by rw[j]<;>rfl),j]
 refine I.write (x:=p) (e:=p) (by rw[h];trivial) (.inl rfl) (λb u w q=>(bL _ _ (Ne.symm w)).trans q) ⟨_,e⟩ ?_;exact⟨o,c,i,r,e⟩
def adN:V->V->V->Hp->(Hp->Prop)->Prop:=λo i v H Q=>∃p c k j,o=.ref p/\i=.int k/\H p=some (.lst c)/\ixN c.length k=some j/\Q (upd H p (.lst (c.set j v)))
theorem nJ:Si X adN:=by
 intro c s J H o i v M N u Q I K z A h;obtain⟨p,C,k,j,rfl,rfl,w,D,q⟩:=h;cases K;obtain⟨t,rfl⟩:=z;obtain⟨x,n,r,e,B⟩:=I.lst w;obtain⟨d,O,y,l⟩:=IT D;have f:=r.length;have L:=ni;have g:Inv X c J (upd H p (.lst (C.set j v))) { s with heap:=s.heap.update p (Obj.mapSeq (·.setIfInBounds j u)) }:=I.aeq w e (JE x n j u) (r.set A j) (by rw[bT];exact B) s.toks
 by_cases m:0<=k
 .have hk:k.toNat=j:=by
   rw[seqIndex_of m l]at d;exact bo d
  exact PySem.W.ki_setAt e m (by lia) (by rw[aJ,<-f];exact l) (by rw[hk];exact⟨_,g,q⟩)
 .have hk:(k+(x.toArray.size:Int)).toNat=j:=by
   rw[seqIndex_neg (by lia) y]at d;rw[aJ,<-f];exact bo d
  exact PySem.W.ki_setBack e (by lia) (by rw[aJ,<-f];exact y) (by lia) (by rw[hk];exact⟨_,g,q⟩)
theorem Dv(lo c:Option Int)(n:Nat):(sliceBounds lo c none n).1=((HT.sIx n 0 lo:Nat):Int)/\(sliceBounds lo c none n).2.1=((HT.sIx n n c:Nat):Int)/\(sliceBounds lo c none n).2.2=1:=by
 refine⟨?_,?_,rfl⟩
 .cases lo with
  | none=>simp[sliceBounds,HT.sIx]
  | some i=>
    simp only[sliceBounds,HT.sIx,Option.getD_none,show(1:Int)>0 by decide,if_true];by_cases h:i<0
    .simp only[h,if_true]<;>lia
    .simp only[h,if_false]<;>lia
 .cases c with
  | none=>simp[sliceBounds,HT.sIx]
  | some i=>
    simp only[sliceBounds,HT.sIx,Option.getD_none,show(1:Int)>0 by decide,if_true];by_cases h:i<0
    .simp only[h,if_true]<;>lia
    .simp only[h,if_false]<;>lia
theorem B0(c:fy)(lo d:Option Int):slicePick c.toArray lo d none=((c.drop (HT.sIx c.length 0 lo)).take (HT.sIx c.length c.length d-HT.sIx c.length 0 lo)).toArray:=by
 obtain⟨g,f,e⟩:=Dv lo d c.toArray.size;unfold slicePick;rw[g,f,e];simp only[sliceRange_one,pick_run,aJ]<;>rfl
def Q5(K:fg):V->Option Int->Option Int->Hp->VK->Prop:=λx lo d H Q=>∃a c,x=.ref a/\Η K H a c/\∀p,H p=none->Q (.ref p) (upd H p (.lst (uE c lo d)))
theorem pD:SlR X (Q5 X.K):=by
 intro g s y H x v z w lo e u Q I i l n m h;obtain⟨a,c,rfl,k,q⟩:=h;cases i;obtain⟨t,r,f,j⟩:=I.list k;have d:=r.length;refine⟨"list",_,slot_list_getitem.lookup,f.isList.typeIs,?_⟩;refine wpAny_getItem_list_slice f.isList l n m .none (by simp) ?_ (by rw[aJ]<;>lia);rw[B0,<-d];refine⟨.ref s.heap.objs.size,_,I.laid (t':=s.toks) (o:=.lst (uE c lo e)) (λb p q=>ak _ q) (aB _) ?_,rfl,q _ (I.Β.fresh (aB _))⟩;exact⟨bh (Ha c lo e) j,_,0,(r.drop (HT.sIx c.length 0 lo)).take (HT.sIx c.length c.length e-HT.sIx c.length 0 lo),aL _ rfl⟩
def pj:V->Bool
 | .Θ=>true
 | .bl _=>true
 | .int _=>true
 | .str _=>true
 | _=>false
def eqV:V->V->Bool
 | .Θ,.Θ=>true
 | .bl a,.bl b=>a==b
 | .bl a,.int b=>(if a then 1 else 0)==b
 | .int a,.bl b=>a==(if b then 1 else 0)
 | .int a,.int b=>a==b
 | .str a,.str b=>a==b
 | _,_=>false
theorem V4{A:Around}{s:Shared}{y x:V}{u v:Value}(f:RelV y u)(c:RelV x v)(g:pj y=true)(e:pj x=true):SeqAt.EqAt A s u v (eqV y x):=by
 cases y with
 | Θ=>
   cases f;cases x with
   | Θ=>cases c;exact SeqAt.EqAt.same _
   | bl b=>cases c;exact SeqAt.EqAt.none_bool b
   | int b=>obtain⟨t,rfl⟩:=c;exact SeqAt.EqAt.none_int b t
   | str b=>obtain⟨t,rfl⟩:=c;exact SeqAt.EqAt.none_str b t
   | _=>exact absurd (show false=true from e) aN
 | bl a=>
   cases f;cases x with
   | Θ=>cases c;exact SeqAt.EqAt.bool_none a
   | bl b=>cases c;exact SeqAt.EqAt.bool_bool a b
   | int b=>obtain⟨t,rfl⟩:=c;exact SeqAt.EqAt.bool_int a b t
   | str b=>obtain⟨t,rfl⟩:=c;exact SeqAt.EqAt.bool_str a b t
   | _=>exact absurd (show false=true from e) aN
 | int a=>
   obtain⟨d,rfl⟩:=f;cases x with
   | Θ=>cases c;exact SeqAt.EqAt.int_none a d
   | bl b=>cases c;exact SeqAt.EqAt.int_bool a d b
   | int b=>obtain⟨t,rfl⟩:=c;exact SeqAt.EqAt.int_int a d b t
   | str b=>obtain⟨t,rfl⟩:=c;exact SeqAt.EqAt.int_str a d b t
   | _=>exact absurd (show false=true from e) aN
 | str a=>
   obtain⟨d,rfl⟩:=f;cases x with
   | Θ=>cases c;exact SeqAt.EqAt.str_none a d
   | bl b=>cases c;exact SeqAt.EqAt.str_bool a d b
   | int b=>obtain⟨t,rfl⟩:=c;exact SeqAt.EqAt.str_int a d b t
   | str b=>obtain⟨t,rfl⟩:=c;exact SeqAt.EqAt.str_str a d b t
   | _=>exact absurd (show false=true from e) aN
 | _=>exact absurd (show false=true from g) aN
def eqU(x:V)(u:Value):Bool:=match u with
 | .none=>eqV .Θ x
 | .bool b=>eqV (.bl b) x
 | .int i _=>eqV (.int i) x
 | .str z _=>eqV (.str z) x
 | _=>false
theorem On{x y:V}{u:Value}(r:RelV y u)(f:pj y=true):eqU x u=eqV y x:=by
 cases y with
 | Θ=>cases r;rfl
 | bl b=>cases r;rfl
 | int i=>obtain⟨t,rfl⟩:=r;rfl
 | str z=>obtain⟨t,rfl⟩:=r;rfl
 | _=>exact absurd (show false=true from f) aN
theorem Ah{x:V}:∀{c:List V}{d:fy},Vals c d->c.all pj=true->d.any (eqU x)=c.any λy=>eqV y x
 | _,_,.nil,_=>rfl
 | y::c,u::d,.cons r t,f=>by
   rw[ku,aZ]at f;rw[eU,eU,On r f.1,Ah t f.2]
theorem wX{A:Around}{s:Shared}{x:V}{v:Value}(g:RelV x v)(e:pj x=true):∀{c:List V}{d:fy},Vals c d->c.all pj=true->∀u∈d,SeqAt.EqAt A s u v (eqU x u)
 | _,_,.nil,_=>λu hu=>by cases hu
 | y::c,u::d,.cons r t,f=>λh hu=>by
   rw[ku,aZ]at f;rcases az.mp hu with rfl|hu
   .rw[On r f.1];exact V4 r g f.1 e
   .exact wX g e t f.2 h hu
def inV(x:V)(c:List V):Bool:=c.any λy=>eqV y x
def rIn(K:fg)(d:Bool):R2:=λx y H Q=>∃p c,y=.ref p/\(Η K H p c\/Ξ K H p c)/\pj x=true/\c.all pj=true/\Q (.bl (if d then !inV x c else inV x c)) H
theorem BG:RW X (compareOp .In) (rIn X.K false):=by
 intro g s k H x y v u Q I e i h;obtain⟨p,j,rfl,hq,f,c,q⟩:=h;cases i;rcases hq with hq|hq
 .obtain⟨ι,r,pl,hz⟩:=I.list hq;refine SeqAt.in_listAt (eqU x) pl.isList (λw d=>wX e f r c w (by simpa using d)) ⟨.bl _,H,I,rfl,?_⟩;rw[show ι.toArray.any (eqU x)=ι.any (eqU x) by simp,Ah r c];exact q
 .obtain⟨ι,r,pl,hz⟩:=I.tuple hq;refine SeqAt.in_tupleAt (eqU x) pl (λw d=>wX e f r c w (by simpa using d)) ⟨.bl _,H,I,rfl,?_⟩;rw[show ι.toArray.any (eqU x)=ι.any (eqU x) by simp,Ah r c];exact q
theorem ik:jq X (.builtin "len") (λe H Q=>∃p d,e=[.ref p]/\(Η X.K H p d\/Ξ X.K H p d)/\Q (.int d.length) H):=by
 intro f s j H e k Q I r h;obtain⟨p,d,rfl,hq,q⟩:=h;obtain⟨u,rfl,g⟩:=my r;cases g;have i:=ni;rcases hq with hq|hq
 .obtain⟨ι,r',pl,hz⟩:=I.list hq;have c:=r'.length;exact Calls.call_len_list pl.isList (by simp only[aJ]<;>lia) ⟨.int d.length,H,I.tok _,⟨s.toks+1,by rw[aJ,c]⟩,q⟩
 .obtain⟨ι,r',pl,hz⟩:=I.tuple hq;have c:=r'.length;exact len_tuple pl (by simp only[aJ]<;>lia) ⟨.int d.length,H,I.tok _,⟨s.toks+1,by rw[aJ,c]⟩,q⟩
theorem GQ:jq X (.builtin "len") (λc H Q=>∃z,c=[.str z]/\z.length<=sizeLine/\Q (.int z.length) H):=by
 intro d s g H c i Q I r h;obtain⟨z,rfl,e,q⟩:=h;obtain⟨u,rfl,t,rfl⟩:=my r;have f:=ni;exact len_str (by lia) ⟨.int z.length,H,I.tok _,⟨_,rfl⟩,q⟩
theorem nC:jq X (.type "list") (λA H Q=>∃p f,A=[.ref p]/\(Η X.K H p f\/Ξ X.K H p f)/\∀l,H l=none->Q (.ref l) (upd H l (.lst f))):=by
 intro v s D H A J Q I r h;obtain⟨p,f,rfl,hq,q⟩:=h;obtain⟨u,rfl,C⟩:=my r;cases C;have j:∀(d:fy),Vals f d->f.length<=sizeLine->∀(c:Heap)(g:Nat),(∀b B,s.heap.get? b=some B->c.get? b=some B)->c.get? s.heap.objs.size=some { cls:=.type "list",dict:=none,data:=.seq d.toArray g,slots:=#[] }->EP X v D Q (.ref s.heap.objs.size) { s with heap:=c }:=λd i k c g m e=>
  ⟨.ref s.heap.objs.size,_,I.laid (t':=s.toks) m (aB _) (show Μ X.prog X.w _ c _ (.lst f)from⟨k,d,g,i,e⟩),rfl,q _ (I.Β.fresh (aB _))⟩
 rcases hq with hq|hq
 .obtain⟨d,i,pl,k⟩:=I.list hq;have t:=i.length;obtain⟨o,x,z,n,y⟩:=pl.isList;exact call_list_seq p (.inl rfl) x z y (λc g m e=>j d i k c g m e) (by simp only[aJ]<;>lia)
 .obtain⟨d,i,pl,k⟩:=I.tuple hq;have t:=i.length;obtain⟨o,x,z,n,y⟩:=pl;exact call_list_seq p (.inr rfl) x z y (λc g m e=>j d i k c g m e) (by simp only[aJ]<;>lia)
theorem gH:jq X (.type "tuple") (λi H Q=>∃p d,i=[.ref p]/\((Η X.K H p d/\∀l,H l=none->Q (.ref l) (upd H l (.tup d)))\/(Ξ X.K H p d/\Q (.ref p) H))):=by
 intro c s j H i v Q I r h;obtain⟨p,d,rfl,h⟩:=h;obtain⟨u,rfl,m⟩:=my r;cases m;rcases h with⟨hq,q⟩|⟨hq,q⟩
 .obtain⟨ι,r',pl,hz⟩:=I.list hq;have k:=r'.length;refine call_tuple_list pl.isList (λf t=>?_) (by simp only[aJ]<;>lia);have g:Inv X c j H { s with heap:=f }:=I.kept (t':=s.toks) t;have n:Inv X c j (upd H f.objs.size (.tup d)) { s with heap:=f.push { cls:=.type "tuple",data:=.seq ι.toArray } }:=g.laid (t':=s.toks) (λb o e=>ak _ e) (aB _) (show Μ X.prog X.w _ _ _ (.tup d)from⟨hz,ι,r',IsTup.new _ _⟩)
  exact⟨.ref f.objs.size,_,n,rfl,q _ (g.Β.fresh (aB _))⟩
 .obtain⟨ι,r',pl,hz⟩:=I.tuple hq;exact call_tuple_same pl ⟨.ref p,H,I,rfl,q⟩
def tyV(K:fg)(T:String)(x:V)(H:Hp):Prop:=match x with
 | .str _=>T="str"
 | .int _=>T="int"
 | .ref p=>(T="list"/\∃d,Η K H p d)\/(T="tuple"/\∃o,K.lookup p=some o/\o.cls=.type "tuple"/\o.dict=none)\/(T="dict"/\((∃c,H p=some (.dK c))\/∃c,H p=some (.dT c)))\/(T="set"/\∃S n,H p=some (.set S n))
 | _=>False
theorem Oe{f:fv}{l:St}{H:Hp}{s:Shared}{T:String}{x:V}{v:Value}(I:Inv X f l H s)(r:RelV x v)(g:tyV X.K T x H):s.TypeIs v T/\∀a,v=.ref a->∃k,s.heap.get? a=some k/\k.dict=none:=by
 cases x with
 | str z=>
   obtain⟨t,rfl⟩:=r;cases(show T="str" from g);exact⟨typeIs_str s z t,λ_ e=>nomatch e⟩
 | int i=>
   obtain⟨t,rfl⟩:=r;cases(show T="int" from g);exact⟨typeIs_int s i t,λ_ e=>nomatch e⟩
 | ref p=>
   cases r;rcases g with⟨rfl,xs,hq⟩|⟨rfl,o,hk,hc,h⟩|⟨rfl,hk⟩|⟨rfl,S,n,hk⟩
   .obtain⟨ι,_,pl,_⟩:=I.list hq;refine⟨pl.isList.typeIs,λa e=>?_⟩;cases e;obtain⟨o,n,e,c,h,_⟩:=pl;exact⟨o,e,h⟩
   .refine⟨⟨o,I.ZD p o hk,hc⟩,λa e=>?_⟩;cases e;exact⟨o,I.ZD _ o hk,h⟩
   .have z:∃o,s.heap.get? p=some o/\o.ExactDict:=by
     rcases hk with⟨ν,hk⟩|⟨ν,hk⟩
     .obtain⟨_,_,_,_,o,_,_,e,d,_⟩:=I.Β p _ hk;exact⟨o,e,d⟩
     .obtain⟨_,_,_,_,o,_,_,e,d,_⟩:=I.Β p _ hk;exact⟨o,e,d⟩
    obtain⟨o,e,d⟩:=z;refine⟨⟨o,e,d.1⟩,λa j=>?_⟩;cases j;exact⟨o,e,d.2.1⟩
   .obtain⟨o,_,_,_,e,d,_⟩:=I.Β p _ hk;refine⟨⟨o,e,d.1⟩,λa j=>?_⟩;cases j;exact⟨o,e,d.2.1⟩
 | _=>exact False.elim g
def Qr(K:fg)(T:String)(r:V->List V->Hp->VK->Prop)(B:TE):TE:=λd H Q=>B d H λx c=>tyV K T x c/\r x [] c Q
def tBM(K:fg)(T:String)(r:V->List V->Hp->VK->Prop)(B:TE)(t:TA):TE:=λc H Q=>B c H λx d=>tyV K T x d/\t c d λf e=>r x f e Q
variable{o e:Expr}{C:List Expr}{B:TE}{t:TA}{d:Str}{g m:Pos}{T D:String}{r:V->List V->Hp->VK->Prop}
theorem uM(w:PlainAttrs T)(i:Slot T d D)(j:typeOf (.builtin D)=pure (.type "method_descriptor"))(A:MtR X D r)(u:PE X o B)(z:attributeBase o d X.env (eval o X.env)=eval o X.env:=by rfl)(f:(g.endLine==m.line)=true:=by rfl):PE X (.Call (.Attribute o d g) [] [] m) (Qr X.K T r B):=by
 intro c s n H Q I h;refine wpAny_Call_method0_late z f (cP (u c s n H _ I h) λv q x J k l ⟨L,p⟩=>?_);obtain⟨y,M⟩:=Oe k l L;exact⟨T,D,w,i,j,y,M,Calls.callWith_builtin rfl (PySem.evalArgs_none (A c q n J x [] v [] Q k l .nil p))⟩
theorem iH(A:PlainAttrs T)(i:Slot T d D)(n:typeOf (.builtin D)=pure (.type "method_descriptor"))(P:MtR X D r)(z:PE X o B)(W:PA X (e::C) t)(N:attributeBase o d X.env (eval o X.env)=eval o X.env:=by rfl)(j:((backTo m (starEach (e::C) X.env)).all (λx=>!x.1)&&(backToKw m (keywordEach [] X.env)).all (λx=>x.1.isSome)
 && decide ((e::C).length+([]:List Keyword).length+(if([]:List Keyword).isEmpty then 0 else 1)<30))=true:=by rfl)(f:(g.endLine==m.line)=true:=by rfl)(V:starEach (e::C) X.env=(false,eval e X.env)::starEach C X.env:=by rfl)(l:(backTo m (starEach C X.env)).any (·.1)=false:=by rfl):PE X (.Call (.Attribute o d g) (e::C) [] m) (tBM X.K T r B t):=by
 intro c s k H Q I h;refine wpAny_Call_method_late N j f rfl (cP (z c s k H _ I h) λv y x R p u ⟨ty,w⟩=>?_);obtain⟨M,h2⟩:=Oe p u ty;refine⟨T,D,A,i,n,M,h2,?_⟩;have q:=W m c y k R _ p w;rw[V]at q ⊢;refine Calls.callWith_builtin (by show(false||(backTo m (starEach C X.env)).any (·.1))=false;rw[l]<;>rfl) (fe ?_);exact Ψ q λJ Z ⟨S,U,O,L,Y⟩=>P c Z k U x S v J Q O u L Y
end
def MtM(X:Cx)(id:String)(r:V->List V->Hp->VK->Prop):Prop:=∀(a:fv)(s:Shared)(c:St)(H:Hp)(x:V)(b:List V)(v:Value)(d:fy)(Q:VK),Inv X a c H s->RelV x v->Vals b d->r x b H Q->wpAny (model X.prog X.w) X.A (call (.builtin id) (v::d)) (EP X a c Q) X.xe s
theorem Vals.one{x:V}{a:fy}(h:Vals [x] a):∃u,a=[u]/\RelV x u:=by
 cases h with
 | cons r t=>cases t;exact⟨_,rfl,r⟩
theorem Vals.two{x y:V}{a:fy}(h:Vals [x,y] a):∃u v,a=[u,v]/\RelV x u/\RelV y v:=by
 cases h with
 | cons r t=>
   obtain⟨v,e,q⟩:=Vals.one t;subst e;exact⟨_,v,rfl,r,q⟩
theorem Vals.zero:∀{a:fy},Vals [] a->a=[]
 | _,.nil=>rfl
theorem Vals.dropLast{a:List V}{b:fy}(h:Vals a b):Vals a.dropLast b.dropLast:=by
 induction h with
 | nil=>exact .nil
 | cons r t ih=>
   cases t with
   | nil=>exact .nil
   | cons q t'=>exact .cons r ih
theorem Vals.rep{a:List V}{b:fy}(h:Vals a b):∀k:Nat,Vals (List.replicate k a).flatten (List.replicate k b).flatten
 | 0=>.nil
 | k+1=>by
   rw[ci,ci,dW,dW];exact Vals.append h (Vals.rep h k)
theorem Nv{c:Type}(l:List c):l.eraseIdx (l.length-1)=l.dropLast:=by
 induction l with
 | nil=>rfl
 | cons a r ih=>
   cases r with
   | nil=>rfl
   | cons b r=>
     have e:(a::b::r).length-1=((b::r).length-1)+1:=by
      have f:(a::b::r).length=r.length+2:=rfl;have d:(b::r).length=r.length+1:=rfl
      lia
     rw[e,List.eraseIdx_cons_succ,ih]
     all_goals rfl
theorem AX(b:fy):∀(k:Nat)(a:fy),List.foldl (λc f=>c++f) a.toArray (List.replicate k b.toArray)=(a++(List.replicate k b).flatten).toArray
 | 0,a=>by simp
 | k+1,a=>by
   have e:a.toArray++b.toArray=(a++b).toArray:=by simp
   have d:(a++b)++(List.replicate k b).flatten=a++(List.replicate (k+1) b).flatten:=by
    rw[ci,dW,bO]
   rw[<-d,<-AX b k (a++b),<-e,ci,List.foldl_cons]
section
variable{X:Cx}{a:fv}{d:St}{H:Hp}{s:Shared}{l b:Addr}{g c i:List V}
theorem Inv.aer{h its':fy}{n:Nat}{f:Array Value->Array Value}{p:Nat}(I:Inv X a d H s)(r:H l=some (.lst g))(e:s.heap.get? l=some { cls:=.type "list",data:=.seq h.toArray n })(k:f h.toArray=its'.toArray)(t:Vals c its')(j:c.length<=sizeLine):Inv X a d (upd H l (.lst c)) { s with heap:=s.heap.update l (Obj.mapSeq f),toks:=p }:=by
 have q:=PySem.IsL.update e f;rw[k]at q;refine I.write (x:=l) (e:=l) (by rw[r];exact trivial) (.inl rfl) (λv u m o=>(bL s.heap (Obj.mapSeq f) (Ne.symm m)).trans o) ⟨_,q⟩ ?_;exact⟨j,its',_,t,q⟩
theorem Inv.aes{e:fy}{t':Nat}(I:Inv X a d H s)(h:Vals c e)(f:c.length<=sizeLine):Inv X a d (upd H s.heap.objs.size (.lst c)) { s with heap:=s.heap.push { cls:=.type "list",data:=.seq e.toArray },toks:=t' }:=I.laid (λ_ _ q=>ak _ q) (aB _) ⟨f,e,0,h,aL _ rfl⟩
theorem Inv.fresh(I:Inv X a d H s):H s.heap.objs.size=none:=I.Β.fresh (aB _)
theorem Inv.abM(I:Inv X a d H s)(h:H l=some (.lst g)):g.length<=sizeLine/\∃(f:fy)(n:Nat),Vals g f/\g.length=f.length/\s.heap.get? l=some { cls:=.type "list",data:=.seq f.toArray n }:=by
 obtain⟨z,f,n,r,e⟩:=I.Β l _ h;exact⟨z,f,n,r,r.length,e⟩
theorem R3{n:Nat}(h:n<=sizeLine):Builtin.List.listTooLong n=false:=by
 unfold Builtin.List.listTooLong;exact bt (by lia)
end
section
variable{X:Cx}
def aby:V->List V->Hp->VK->Prop:=λx b H Q=>∃l a y,x=.ref l/\b=[y]/\H l=some (.lst a)/\a.length<sizeLine/\Q .Θ (upd H l (.lst (a++[y])))
theorem eR:MtM X "list.append" aby:=by
 intro c s p H x m v i Q I d f h;obtain⟨l,k,y,rfl,rfl,a,j,q⟩:=h;cases d;obtain⟨u,rfl,g⟩:=f.one;obtain⟨z,b,n,r,o,e⟩:=I.abM a;refine call_meets F.slot_list_append ⟨_,e,rfl⟩ F.entry_list_append (F.args_list_append_2 _ _) (PySem.list_append l b.toArray n u (by rw[aJ];lia)) ⟨e,?_⟩;refine⟨.Θ,_,I.aer (its':=b++[u]) a e (by simp) (r.append (.cons g .nil)) ?_,rfl,q⟩;rw[ao,dR]
 lia
def ahr:V->List V->Hp->VK->Prop:=λx b H Q=>∃l a y,x=.ref l/\b=[]/\H l=some (.lst a)/\a[a.length-1]?=some y/\Q y (upd H l (.lst a.dropLast))
theorem xU:MtM X "list.pop" ahr:=by
 intro f s A H x w v p Q I g i h;obtain⟨l,t,y,rfl,rfl,d,m,q⟩:=h;cases g;have c:=i.zero;subst c;obtain⟨z,a,n,r,o,e⟩:=I.abM d;obtain⟨u,k,j⟩:=r.get m;have b:a.toArray[a.toArray.size-1]?=some u:=by
  show a.toArray[a.length-1]?=some u;rw[<-ka,<-o];exact k
 refine call_meets F.slot_list_pop ⟨_,e,rfl⟩ F.entry_list_pop (F.args_list_pop_1 _) (MeetsSeq.list_pop_last l a.toArray n u b (by rw[aJ];lia)) ⟨e,?_⟩;refine⟨y,_,I.aer (its':=a.dropLast) d e ?_ r.dropLast ?_,j,q⟩
 .show a.toArray.eraseIdxIfInBounds (a.toArray.size-1)=a.dropLast.toArray;rw[aJ,List.eraseIdxIfInBounds_toArray,Nv]
 .rw[List.length_dropLast]
  lia
def aet:R2:=λx y H Q=>∃l b a c,x=.ref l/\y=.ref b/\H l=some (.lst a)/\H b=some (.lst c)/\a.length+c.length<=sizeLine/\∀p,H p=none->Q (.ref p) (upd H p (.lst (a++c)))
theorem gn:RW X (binaryOp .Add) aet:=by
 intro d s D H x y v u Q I g j h;obtain⟨l,b,w,t,rfl,rfl,o,k,A,q⟩:=h;cases g;cases j;obtain⟨z,c,n,r,B,e⟩:=I.abM o;obtain⟨E,a,C,i,f,p⟩:=I.abM k;refine PySem.P.add_list e p ?_ (by rw[aJ,aJ];lia);have m:c.toArray++a.toArray=(c++a).toArray:=by simp
 rw[m];exact⟨.ref _,_,I.aes (t':=s.toks) (r.append i) (by rw[ao];lia),rfl,q _ I.fresh⟩
def akp:R2:=λx y H Q=>∃l k a,x=.ref l/\y=.int k/\H l=some (.lst a)/\-(2^63)<=k/\k<2^63/\a.length*k.toNat<=sizeLine/\∀p,H p=none->Q (.ref p) (upd H p (.lst (List.replicate k.toNat a).flatten))
theorem UC{b:Type}(a:List b)(k:Nat):(List.replicate k a).flatten.length=k*a.length:=by
 induction k with
 | zero=>simp
 | succ k ih=>rw[ci,dW,ao,ih,Nat.succ_mul,Nat.add_comm]
theorem ub:RW X (binaryOp .Mult) akp:=by
 intro w s M H x y v u Q I B D h;obtain⟨l,k,L,rfl,rfl,E,C,K,p,q⟩:=h;cases B;obtain⟨t,rfl⟩:=D;obtain⟨z,b,n,r,J,e⟩:=I.abM E;have c:b.toArray.size*k.toNat<=sizeLine:=by rw[aJ,<-J];exact p
 have o:¬b.toArray.size*k.toNat>(2^63-1)/8:=by
  have:(sizeLine:Nat)<=(2^63-1)/8:=by decide
  lia
 have g:¬(!Builtin.List.listFitsIndex k)=true:=by
  rw[fitsIndex_both C K];exact aN
 have j:¬Builtin.List.listTooLong (b.toArray.size*k.toNat)=true:=by
  rw[R3 c];exact aN
 have d:List.foldl (λf i=>f++i) #[] (List.replicate (if b.toArray.isEmpty=true then 0 else k.toNat) b.toArray)=(List.replicate k.toNat b).flatten.toArray:=by
  have G:∀m:Nat,List.foldl (λf i=>f++i) #[] (List.replicate m b.toArray)=(List.replicate m b).flatten.toArray:=λm=>by
   have:=AX b m [];rw[jh]at this;exact this
  rw[G];cases b with
  | nil=>simp
  | cons a r'=>rw[ag (by simp)]
 refine wpAny_binaryOp_repeat_ref (T:="list") (U:="int") (by decide) ⟨_,e,rfl⟩ (λA=>typeIs_int A k t) noFill_list_mul F.fills_int_mul F.slot_int_rmul repeat_list F.slot_int_index.lookup
  (call_meets F.slot_int_rmul (typeIs_int s k t) F.entry_int_rmul (F.args_int_rmul_2 _ _) (int___rmul___int_list k t l b.toArray n)
   ⟨e,rfl,⟨_,e,rfl⟩,call_meets F.slot_list_mul ⟨_,e,rfl⟩ F.entry_list_mul (F.args_list_mul_2 _ _) (AutoListH.list___mul___list_int_3 l b.toArray n k t g o j) ⟨e,?_⟩⟩)
 rw[d];exact⟨.ref _,_,I.aes (t':=s.toks) (r.rep k.toNat) (by rw[UC,Nat.mul_comm];exact p),rfl,q _ I.fresh⟩
end
section
variable{a:Program}{w:World}{A:Around}{E:eF}{s:Shared}
set_option maxRecDepth 100000 in
end
section
variable{a:Type}[DecidableEq a]
def kq(c:List (a×V))(k:a):Option V:=(c.find? λb=>decide (b.1=k)).map (·.2)
def ko(c:List (a×V))(k:a)(v:V):List (a×V):=if(c.any λb=>decide (b.1=k))=true then c.map (λb=>if b.1=k then(b.1,v)else b)else c++[(k,v)]
theorem sE{p:a×V}{r:List (a×V)}{k:a}(e:p.1=k):kq (p::r) k=some p.2:=by simp[kq,dv,e]
theorem sK{p:a×V}{r:List (a×V)}{k:a}(e:¬p.1=k):kq (p::r) k=kq r k:=by simp[kq,dv,e]
theorem wM(k:a):∀b:List (a×V),(b.any λc=>decide (c.1=k))=(kq b k).isSome
 | []=>rfl
 | p::r=>by
   rw[eU];by_cases e:p.1=k
   .simp only[sE e,bI e,Bool.true_or,Option.isSome_some]
   .rw[sK e,bt e,Bool.false_or];exact wM k r
theorem rh(b:List (a×V))(k:a)(v:V):(ko b k v).length<=b.length+1:=by
 unfold ko;split
 .rw[am];lia
 .rw[ao,aO,cS];lia
theorem Sq{b:List (a×V)}{k:a}(v:V)(h:kq b k=none):ko b k v=b++[(k,v)]:=by
 unfold ko;rw[wM,h];exact ag (by decide)
theorem As.oR{o:Option V}{u:Option Value}(r:As o u):o.isSome=u.isSome:=by
 cases o with
 | none=>cases u with
   | none=>rfl
   | some _=>exact(show False from r).elim
 | some _=>cases u with
   | none=>exact(show False from r).elim
   | some _=>rfl
theorem KV.val{d:List (a×V)}{c:List (a×Value)}(r:KV d c)(k:a):As (kq d k) (valueAt c k):=by
 unfold KV at r
 induction r with
 | nil=>exact True.intro
 | @cons p q ps qs h t ih=>
   obtain⟨f,g⟩:=h;by_cases e:p.1=k
   .have e':q.1=k:=f.symm.trans e;have b:valueAt (q::qs) k=some q.2:=(by simp[valueAt,dv,e']);rw[sE e,b];exact g
   .have e':¬q.1=k:=λz=>e (f.trans z);have b:valueAt (q::qs) k=valueAt qs k:=(by simp[valueAt,dv,e']);rw[sK e,b];exact ih
theorem KV.any{d:List (a×V)}{c:List (a×Value)}(r:KV d c)(k:a):(d.any λb=>decide (b.1=k))=c.any λb=>decide (b.1=k):=by
 unfold KV at r
 induction r with
 | nil=>rfl
 | cons h t ih=>rw[eU,eU,ih,h.1]
theorem KV.repl{f:List (a×V)}{d:List (a×Value)}(r:KV f d)(k:a){y:V}{u:Value}(i:RelV y u):KV (f.map λb=>if b.1=k then(b.1,y)else b) (d.map λb=>if b.1=k then(b.1,u)else b):=by
 unfold KV at r ⊢
 induction r with
 | nil=>exact .nil
 | @cons p q ps qs h t ih=>
   rw[ba,ba];refine .cons ?_ ih;obtain⟨c,g⟩:=h;by_cases e:p.1=k
   .rw[aj e,aj (c.symm.trans e)];exact⟨c,i⟩
   .rw[ag e,ag (λz=>e (c.trans z))];exact⟨c,g⟩
theorem KV.put{c:List (a×V)}{b:List (a×Value)}(r:KV c b)(k:a){y:V}{u:Value}(d:RelV y u):KV (ko c k y) (stored b k u):=by
 unfold ko stored;rw[r.any k];by_cases e:(b.any λf=>decide (f.1=k))=true
 .rw[aj e,aj e];exact r.repl k d
 .rw[ag e,ag e];exact Paired.snoc r ⟨rfl,d⟩
theorem KV.length{c:List (a×V)}{b:List (a×Value)}(r:KV c b):c.length=b.length:=Paired.length r
end
theorem vJ{P:Program}{w:World}{k:Key}{u:Value}(r:RelV (kV k) u):(eV P w).is k u=true:=by
 cases k with
 | inl i=>obtain⟨t,e⟩:=(show ∃t,u=Value.int i t from r);subst e;exact HH P w i t
 | inr x=>obtain⟨t,e⟩:=(show ∃t,u=Value.str x t from r);subst e;exact qR P w x t
theorem Bc{P:Program}{w:World}:∀{a:List Key}{b:fy},Vals (a.map kV) b->ItemsAre (eV P w) a b
 | [],_,r=>by rw[dB]at r;cases r;exact .nil
 | k::a,_,r=>by
   rw[ba]at r;cases r with
   | cons h t=>exact .cons (vJ h) (Bc t)
abbrev KT(H:Hp):List (List Key×V)->List (List Key×Addr×Value)->Prop:=Paired λp q=>p.1=q.1/\H q.2.1=some (.tup (p.1.map kV))/\RelV p.2 q.2.2
theorem KT.val{H:Hp}{c:List (List Key×V)}{a:List (List Key×Addr×Value)}(r:KT H c a)(k:List Key):As (kq c k) ((atKey a k).map (·.2)):=by
 induction r with
 | nil=>exact True.intro
 | @cons p q ps qs h t ih=>
   obtain⟨d,_,f⟩:=h;by_cases e:p.1=k
   .have e':q.1=k:=d.symm.trans e;have b:atKey (q::qs) k=some q.2:=(by simp[atKey,dv,e']);rw[sE e,b];exact f
   .have e':¬q.1=k:=λz=>e (d.trans z);have b:atKey (q::qs) k=atKey qs k:=(by simp[atKey,dv,e']);rw[sK e,b];exact ih
theorem KT.repl{H:Hp}{d:List (List Key×V)}{c:List (List Key×Addr×Value)}(r:KT H d c)(k:List Key){y:V}{u:Value}(g:RelV y u):KT H (d.map λb=>if b.1=k then(b.1,y)else b) (c.map (putAt k u)):=by
 induction r with
 | nil=>exact .nil
 | @cons p q ps qs h t ih=>
   rw[ba,ba];refine .cons ?_ ih;obtain⟨a,f,i⟩:=h;unfold putAt;by_cases e:p.1=k
   .rw[aj e,aj (a.symm.trans e)];exact⟨a,f,g⟩
   .rw[ag e,ag (λz=>e (a.trans z))];exact⟨a,f,i⟩
theorem KT.put{H:Hp}{c:List (List Key×V)}{a:List (List Key×Addr×Value)}(r:KT H c a)(k:List Key){b:Addr}{y:V}{u:Value}(f:H b=some (.tup (k.map kV)))(d:RelV y u):KT H (ko c k y) (storedH a k b u):=by
 have e:(c.any λg=>decide (g.1=k))=(atKey a k).isSome:=by
  rw[wM,(r.val k).oR,iC]
 unfold ko storedH;rw[e];by_cases q:(atKey a k).isSome=true
 .rw[aj q,aj q];exact r.repl k d
 .rw[ag q,ag q];exact Paired.snoc r ⟨rfl,f,d⟩
theorem KT.keeps{H e:Hp}{d:List (List Key×V)}{a:List (List Key×Addr×Value)}(r:KT H d a)(f:∀b c,H b=some (.tup c)->e b=some (.tup c)):KT e d a:=Paired.acS r λ_ _ z=>⟨z.1,f _ _ z.2.1,z.2.2⟩
section
variable{P:Program}{w:World}{H:Hp}{h:Heap}{a:Addr}
theorem Tx{u:HO}(ok:lE P w H h)(e:Rd H a u):Μ P w H h a u:=e.ok ok
theorem Nj{b:List (Key×V)}(d:lE P w H h)(e:Rd H a (.dK b)):b.length<=sizeLine/\(a==sysModules)=false/\∃c,KV b c/\h.DictOf (eV P w) a c:=show Μ P w H h a (.dK b)from Tx d e
theorem Tz{b:List (Key×V)}(d:lE P w H h)(e:H a=some (.dK b)):b.length<=sizeLine/\(a==sysModules)=false/\∃c,KV b c/\h.DictOf (eV P w) a c:=Nj d (.inl e)
theorem Gx{b:List Key}(i:lE P w H h)(e:H a=some (.tup (b.map kV))):(tupleKind (eV P w)).is h b a:=by
 obtain⟨_,c,r,o,g,d,n,f⟩:=(show Μ P w H h a (.tup (b.map kV))from i a _ e);exact⟨o,c.toArray,n,g,d,f,by simpa using Bc r⟩
theorem Ts{c:List (List Key×V)}(f:lE P w H h)(e:Rd H a (.dT c)):c.length<=sizeLine/\(a==sysModules)=false/\∃b,KT H c b/\h.DictOfH (tupleKind (eV P w)) a b:=by
 obtain⟨z,y,b,r,o,k,n,i,u,s,j,g⟩:=(show Μ P w H h a (.dT c)from Tx f e);refine⟨z,y,b,r,o,k,n,i,u,s,j,λx hx=>?_,g⟩;have d:∀{l:List (List Key×V)}{m:List (List Key×Addr×Value)},KT H l m->∀x∈m,(tupleKind (eV P w)).is h x.1 x.2.1:=by
  intro l m q
  induction q with
  | nil=>intro x hx;exact nomatch hx
  | @cons p q ps qs hq t ih=>
    intro x hx;rcases az.mp hx with e|hx
    .subst e;exact Gx f (by rw[<-hq.1];exact hq.2.1)
    .exact ih x hx
 exact d r x hx
theorem Xs{b:List (List Key×V)}(d:lE P w H h)(e:H a=some (.dT b)):b.length<=sizeLine/\(a==sysModules)=false/\∃c,KT H b c/\h.DictOfH (tupleKind (eV P w)) a c:=Ts d (.inl e)
end
def ack(H:Hp)(a:Addr)(y:V)(r:Option V):Prop:=(∃c k,Rd H a (.dK c)/\y=kV k/\r=kq c k)\/∃c k b,Rd H a (.dT c)/\y=.ref b/\H b=some (.tup (k.map kV))/\r=kq c k
def acm(H:Hp)(a:Addr)(y v:V)(d:Hp):Prop:=(∃c k,H a=some (.dK c)/\y=kV k/\c.length<sizeLine/\d=upd H a (.dK (ko c k v)))\/∃c k b,H a=some (.dT c)/\y=.ref b/\H b=some (.tup (k.map kV))/\c.length<sizeLine/\d=upd H a (.dT (ko c k v))
theorem ack.k{H:Hp}{a:Addr}{b:List (Key×V)}{k:Key}(e:H a=some (.dK b)):ack H a (kV k) (kq b k):=.inl ⟨b,k,.inl e,rfl,rfl⟩
theorem acm.k{H:Hp}{a:Addr}{b:List (Key×V)}{k:Key}{v:V}(e:H a=some (.dK b))(c:b.length<sizeLine):acm H a (kV k) v (upd H a (.dK (ko b k v))):=.inl ⟨b,k,e,rfl,c,rfl⟩
section
variable{X:Cx}{d:fv}{f:St}{H:Hp}{s:Shared}{a:Addr}{y v:V}{u r:Value}{o:Option V}{A:Around}{E:eF}
theorem Inv.big(I:Inv X d f H s):sysModules<s.heap.objs.size:=by
 have h:mainGlobals<s.heap.objs.size:=(I.mod.glob.keeps I.bk).lt;exact Nat.lt_trans (by decide) h
theorem UX{Q:eF}(p:A.units+1<cLine)(I:Inv X d f H s)(g:ack H a y o)(n:RelV y u)(h:∀m,Inv X d f H m->Q (.bool (!o.isSome)) m):wpAny (model X.prog X.w) A (compareOp .NotIn u (.ref a)) Q E s:=by
 rcases g with⟨ν,k,e,ey,l⟩|⟨ν,k,b,e,ey,eb,l⟩
 .subst ey;obtain⟨z,i,t,c,j⟩:=Nj I.Β e;refine wpAny_notIn_of (vJ n) i j.mapOf ?_;rw[<-(c.val k).oR,<-l];exact h _ (I.tok _)
 .subst ey;cases(show u=Value.ref b from n);obtain⟨z,i,x,c,j⟩:=Ts I.Β e;refine wpAny_notIn_heap (tupleKind_room_in1 p) (Gx I.Β eb) i j ?_;have q:=(c.val k).oR;rw[iC]at q;rw[<-q,<-l];exact h _ (I.tok _)
theorem zO{c:Heap}{k:Nat}{h:HO}(I:Inv X d f H s)(m:Mut (H a))(i:Heap.SameBut a s.heap c)(j:∃q,c.get? a=some q)(g:Μ X.prog X.w (upd H a h) c a h):Inv X d f (upd H a h) { s with heap:=c,toks:=k }:=I.write (x:=a) (e:=a) m (.inl rfl) (λb q l z=>(i.2 b l).trans z) j g
theorem OP{P:Program}{w:World}{j:Hp}{g:Heap}{e:List (Key×V)}{b:List (Key×Value)}(z:e.length<=sizeLine)(h:(a==sysModules)=false)(c:KV e b)(i:g.DictOf (eV P w) a b):Μ P w j g a (.dK e):=⟨z,h,b,c,i⟩
theorem O8{K:Hp}{Q:Unit->Shared->Prop}(O:A.units+1<cLine)(I:Inv X d f H s)(g:acm H a y v K)(F:RelV y u)(D:RelV v r)(h:∀C,Inv X d f K C->Q () C):wpAny (model X.prog X.w) A (setItem (.ref a) u r) Q E s:=by
 rcases g with⟨ν,k,e,ey,l,eH⟩|⟨ν,k,b,e,ey,eb,l,eH⟩
 .subst ey eH;obtain⟨z,p,S,i,x⟩:=Tz I.Β e;have n:S.length<=sizeLine:=by rw[<-i.length];exact z
  have B:(ko ν k v).length<=sizeLine:=by have:=rh ν k v;lia
  refine wpAny_setItem_pairs (hsz:=n) (vJ F) x λJ j t=>h _ ?_;have T:∃q,J.get? a=some q:=let ⟨q,_,_,m,_⟩:=j;⟨q,m⟩;exact zO I (by rw[e];exact True.intro) t T (OP B p (i.put k D) j)
 .subst ey eH;cases(show u=Value.ref b from F);obtain⟨z,p,N,i,x⟩:=Xs I.Β e;have n:N.length<=sizeLine:=by rw[<-Paired.length i];exact z
  have B:(ko ν k v).length<=sizeLine:=by have:=rh ν k v;lia
  refine wpAny_setItem_heap (hsz:=n) (tupleKind_room_in1 O) (Gx I.Β eb) x λJ j t=>h _ ?_;obtain⟨q,P,R,m,V,U,M,_,L⟩:=j;refine zO I (by rw[e];exact True.intro) t ⟨q,m⟩ ⟨B,p,_,(i.put k eb D).keeps λc W G=>?_,q,P,R,m,V,U,M,L⟩;rw[aU (fm G e (λz=>nomatch z))];exact G
end
section
variable{X:Cx}{b:fv}{c:St}{H:Hp}{s:Shared}{a:Addr}{d:List (Key×V)}{k:Key}{u:Value}{A:Around}{E:eF}
theorem XH{Q:eF}(I:Inv X b c H s)(e:Rd H a (.dK d))(h:∀t g,Inv X b c H g->Q (.int d.length t) g):wpAny (model X.prog X.w) A (call (.builtin "len") [.ref a]) Q E s:=by
 obtain⟨z,i,l,f,j⟩:=Nj I.Β e;refine call_len_dict i j (by rw[<-f.length];rw[sizeLine_eq]at z;lia) ?_;rw[<-f.length];exact h _ _ (I.tok _)
end
def WH(i:Expr):Prop:=∀b a,subscripted i false b a=operate [b,a] (getItem b a)
theorem U4{a:Program}{w:World}{A:Around}{E:eF}{s:Shared}{k:Env}{c b:Expr}{n:Pos}{T id:String}{Q:eF}(t:typeLookup (.type T) "__getitem__"=pure (some (.builtin id)))(q:WH b)(h:wpAny (model a w) A (eval c k) (λo f=>wpAny (model a w) A (eval b k) (λi d=>d.TypeIs o T/\wpAny (model a w) A (getItem o i) Q E d) E f) E s):wpAny (model a w) A (eval (.Subscript c b n) k) Q E s:=by
 refine Subscript_ (aX h (λo f l=>aX l (λi d e=>?_) λ_ _ x=>x) λ_ _ x=>x);obtain⟨p,e⟩:=e;unfold subscriptTail;refine ah ?_;rw[getitemInPython_of_ne p.not_modules];refine ah (wpAny_specialOf p t ?_);have j:wpAny (model a w) A (subscripted b false o i) (λr g=>wpAny (model a w) A (letTemporaryGo c o r>>=λ_=>pure r) Q E g) E d:=by
  rw[q o i];exact wpAny_operating (aX e (λr g m=>ah (wpAny_letTemporaryGo (aD m))) λ_ _ x=>x)
 first
  | exact aD (ah j)
  | exact ah (aD (ah j))
  | exact ah j
def zD(e d:TE):TE:=λc H Q=>e c H λy f=>d c f λx b=>∃a o,x=.ref a/\ack b a y o/\Q (.bl (!o.isSome)) b
def Ly(f h g:TE):TS:=λD b H=>g b H λv i=>f b i λx d=>h b d λy e=>∃a c,x=.ref a/\acm e a y v c/\D.nx b c
section
variable{X:Cx}{o i e b:Expr}{d c l:Pos}{f j k:TE}
theorem Pl(z:X.A.units+1<cLine)(J:PE X i j)(r:PE X o f):PC X .NotIn i o (zD j f):=by
 intro m s n H Q I h;refine cP (J m s n H _ I h) λM q y D t w p=>cP (r m q n D _ t p) λu N x E C v ⟨a,F,K,g,G⟩=>?_;subst K;obtain rfl:u=Value.ref a:=v;exact UX z C g w λL B=>⟨.bl (!F.isSome),E,B,rfl,G⟩
theorem Vd(F:X.A.units+1<cLine)(t:PE X o f)(R:PE X i j)(M:PE X b k)(O:swapsWith b (some (.Subscript o i c)) d.line X.env=pure false):PS X (.Assign [.Subscript o i c] b d) (Ly f j k):=by
 intro m s n H D I h;refine wpAny_Assign_Subscript (cP (M m s n H _ I h) λr q v L w C p=>cP (t m q n L _ w p) λu S x N K B Q=>cP (R m S n N _ K Q) λW U y V J E ⟨a,P,T,g,z⟩=>?_) O;subst T;obtain rfl:u=Value.ref a:=B;exact O8 F J g E C λY G=>⟨n,P,G,z⟩
end
theorem Ta{P:Program}{w:World}{H:Hp}(h:Heap)(a:sysModules<h.objs.size):Μ P w H (h.push { cls:=.type "dict",data:=.dict #[] }) h.objs.size (.dK []):=⟨bJ _,beq_eq_false_iff_ne.mpr (Ne.symm (aF a)),[],.nil,Heap.DictOf.new h⟩
def vc:List (TE×TE)->St->Hp->(List (V×V)->Hp->Prop)->Prop
 | [],_,H,Q=>Q [] H
 | (tk,tv)::r,σ,H,Q=>tk σ H λx d=>tv σ d λy a=>vc r σ a λc b=>Q ((x,y)::c) b
abbrev VV:List (V×V)->List (Value×Value)->Prop:=Paired λp q=>RelV p.1 q.1/\RelV p.2 q.2
def PPs(X:Cx)(d:Pos)(c:List (Option Expr))(a:List Expr)(f:List (TE×TE)):Prop:=∀(b:fv)(s:Shared)(e:St)(H:Hp)(Q:List (V×V)->Hp->Prop),Inv X b e H s->vc f e H Q->wpAny (model X.prog X.w) X.A (evalPairs (pairTrees c a X.env d)) (λi j=>∃g h,Inv X b e h j/\VV g i/\Q g h) X.xe s
theorem UQ{X:Cx}{a:Pos}:PPs X a [] [] []:=λb s c H Q I h=>pairTrees_nil_walk ⟨[],H,I,.nil,h⟩
theorem QK{X:Cx}{b:Pos}{k v:Expr}{j:List (Option Expr)}{i:List Expr}{g f:TE}{c:List (TE×TE)}(n:PE X k g)(D:PE X v f)(p:PPs X b j i c):PPs X b (some k::j) (v::i) ((g,f)::c):=λa s e H Q I h=>
 pairTrees_cons_walk (cP (n a s e H _ I h) λu m x C o r l=>cP (D a m e C _ o l) λL G y E B t F=>
  Ψ (p a G e E _ B F) λK J ⟨z,w,A,d,q⟩=>⟨(x,y)::z,w,A,.cons ⟨r,t⟩ d,q⟩)
def sd(d a:List (Key×V)):List (Key×V):=a.foldl (λb c=>ko b c.1 c.2) d
theorem KV.merge:∀{a:List (Key×V)}{d:List (Key×Value)}{c:List (Key×V)}{b:List (Key×Value)},KV a d->KV c b->KV (sd c a) (merged b d):=by
 intro a d c b r;unfold KV at r
 induction r generalizing c b with
 | nil=>intro q;exact q
 | @cons p q ps qs h t ih=>
   intro f;have e:KV (ko c p.1 p.2) (stored b q.1 q.2):=by
    have:=f.put p.1 h.2;rw[<-h.1];exact this
   exact ih e
theorem sU:∀(b a:List (Key×V)),(sd a b).length<=a.length+b.length
 | [],a=>by show a.length<=a.length+0;lia
 | p::r,a=>by
   have d:=sU r (ko a p.1 p.2);have c:=rh a p.1 p.2;show(sd (ko a p.1 p.2) r).length<=_;rw[aO];lia
theorem y4{P:Program}{w:World}:∀{e:List (Key×V)}{f:List (Value×Value)},VV (e.map λg=>(kV g.1,g.2)) f->∃d,Carries (eV P w) f d/\KV e d
 | [],_,r=>by rw[dB]at r;cases r;exact⟨[],True.intro,.nil⟩
 | p::e,_,r=>by
   rw[ba]at r;cases r with
   | @cons a b as bs h t=>
     obtain⟨d,c,q⟩:=y4 (P:=P) (w:=w) t;obtain⟨j,i⟩:=b;exact⟨(p.1,i)::d,⟨vJ h.1,rfl,c⟩,.cons ⟨rfl,h.2⟩ q⟩
def JQ(a:List (TE×TE)):TE:=λe H Q=>∀p,H p=none->vc a e (upd H p (.dK [])) λf c=>c p=some (.dK [])/\∃b:List (Key×V),f=b.map (λd=>(kV d.1,d.2))/\b.length<=15/\Q (.ref p) (upd c p (.dK (sd [] b)))
theorem Uh{X:Cx}{g:Pos}{b:List (Option Expr)}{d:List Expr}{i:List (TE×TE)}(h:PPs X g b d i)(l:b.all (·.isSome)=true)(L:b.length=d.length)(A:b≠[])(k:b.length<=15):PE X (.Dict b d g) (JQ i):=by
 intro j s M H Q I q;have v:=I.Β.fresh (aB s.heap.objs.size);have t:=I.laid (a:=s.heap.objs.size) (o:=.dK []) (h':=s.heap.push { cls:=.type "dict",data:=.dict #[] }) (t':=s.toks) (λ_ _ q=>ak _ q) (aB _) (Ta s.heap I.big);refine wpAny_Dict_walk (knd:=eV X.prog X.w) l L A k (Ψ (h j _ M _ _ t (q _ v)) λO T ⟨R,S,n,m,e,p,B,N,K⟩=>?_);subst B;obtain⟨C,c,G⟩:=y4 (P:=X.prog) (w:=X.w) m;obtain⟨z,y,r,E,J⟩:=Tz n.Β e;cases E;refine⟨C,c,J,λh' f D=>⟨.ref s.heap.objs.size,_,?_,rfl,K⟩⟩;have x:(sd [] p).length<=sizeLine:=by
  have u:=sU p [];rw[cS]at u;rw[sizeLine_eq];lia
 have F:∃q,h'.get? s.heap.objs.size=some q:=let ⟨q,_,_,hq,_⟩:=f;⟨q,hq⟩;exact zO n (by rw[e];exact True.intro) D F (OP x y (G.merge .nil) f)
end L2
namespace Att
open PySem PySem.W PySem.Calls PyProof.Rows
theorem yn{P:Params}{h:Heap}:∀(c:ej)(d:fy),WellAll P h d (c.map WData.int)->IntsAre d c:=by
 intro c
 induction c with
 | nil=>
   intro d w;rw[dB]at w;cases w;exact .nil
 | cons n c ih=>
   intro d w;rw[ba]at w;cases w with
   | cons a b=>
     cases a;exact .cons _ _ (ih _ b)
theorem Ob{l:OpenLaw}{n:Nat}(t:l.most=some n){P:Params}{h:Heap}{b:List WData}{e:fy}(f:l.row.toRowW.claim.pre b=true)(m:WellAll P h e b):∃a p c,e=[Value.ref a]/\b=[WData.list (c.map WData.int)]/\h.get? a=some { cls:=.type "list",data:=.seq p.toArray }/\IntsAre p c/\c.length<=n:=by
 have k:WShape.hasAll [] b [.list .int]=true:=(pre_splitW f).1;have o:l.pre.holds [] { args:=b }=true:=(pre_splitW f).2;obtain⟨d,r,rfl,s,w⟩:=hasAllW_cons k;obtain rfl:=hasAllW_nil w;obtain⟨x,rfl,v⟩:=hasW_list s;obtain⟨c,rfl⟩:=items_int v;have g:c.length<=n:=by
  unfold OpenLaw.pre at o;have j:(WTm.not (.lt (.lit (.int (n:Int))) (.len (.arg 0)))).holds [] { args:=[.list (c.map .int)] }=true:=by
   have j:=(holds_andW o).1;rw[t]at j;exact j
  have i:=condW_of j (w_not (w_lt w_lit (w_len_list (w_arg rfl))));rw[am]at i;refine Nat.le_of_not_lt λq=>?_;have u:(n:Int)<((c.length:Nat):Int):=by lia
  first
   | (rw[bI u]at i;exact absurd i (by decide))
   | (simp at i;lia)
 cases m with
 | cons w1 w2=>
   cases w2;cases w1 with
   | list ho aev=>exact⟨_,_,c,rfl,rfl,ho,yn c _ aev,g⟩
theorem PN(l:OpenLaw)(a:List WData):l.row.toRowW.claim.post a (.bool true) a=true:=postW_of (r:=l.row.toRowW) (X:=(true==true))
 (show WShape.has [] (.bool true) .bool=true by first|rfl|decide|simp[WShape.has,WShape.arms,WShape.armsAll])
 (show(WTm.eq .res (.lit (.bool true))).value [] { args:=a,res:=some (.bool true),after:=a }=some (.bool (true==true))from w_eq_bool (w_res rfl) w_lit) rfl
theorem aaL{l:OpenLaw}{n:Nat}{q:Program}{e:gy}{XP:(Str->Option Value)->Heap->Prop}{E:World->Heap->Prop}{d:DefRec}(L:l.most=some n)(v:d.params.defaults=[])(call:∀(w:World) (c b:Shared) (s C:f5) (j:Addr) (o:Obj) (A t g:Value) (a:Addr) (i:fy) (p:ej),Ground q e [] XP w c s C b.heap->E w b.heap->b.heap.get? j=some o->o.data=.func (docDef d.name d.params d.body d.scope A t g)->b.heap.CodeRec t d.name->s d.name=some (.ref j)->b.heap.get? a=some { cls:=.type "list",data:=.seq i.toArray }->IntsAre i p->p.length<=n->b.gens=#[]->codeAny (model l.prog w) callerA (.call (.ref j) ⟨[.ref a],[]⟩) (λr m=>r=.ok (.ret (.bool true))/\OldK b.heap m.heap/\m.os=b.os/\AllBare m.gens) b):WalkO q e XP E l.row.toRowW d [] (λf i=>PySem.call f i):=by
 intro w c b s C G Y j o A t g J kV I M u F y S H D as B P T z O;obtain rfl:J=.none:=Dflts.none F v;obtain rfl:kV=.none:=Dflts.noKw F;obtain⟨a,i,p,rfl,rfl,x,h,k⟩:=Ob L B z;refine enter_call (eW (call w c b s C j o A t g a i p G Y I (fd_plain M) u y x h k S) λr m R=>?_);obtain⟨rfl,U,Q,K⟩:=R;exact⟨.inl ⟨.bool true,.bool true,[],rfl,λ_=>rfl,.bool true,PN l _,λ_=>⟨List.Pairwise.nil,λ_ N=>(nomatch N)⟩⟩,U,Q,K⟩
end Att
namespace L2
open PySem PySem.Spec PyProof.Rows
theorem Bu:∀{a:fy}{b:ej},IntsAre a b->Vals (b.map V.int) a
 | _,_,.nil=>.nil
 | _,_,.cons n t h=>.cons ⟨t,rfl⟩ (Bu h)
def Rp(H:Hp):Prop:=∀b,H b=none\/∃o a,H b=some (.frz o (.lst a))
theorem QX{P:Program}{w:World}{K:fg}{E Y:f5}{CX:Zu}{k:Nat}{N a:Addr}{fd:FuncData}{x:Str}{Z:Sp}{c:Shared}{p:fy}{A:ej}(KX:K.In c.heap)(I:c.heap.Ns mainGlobals E)(f:c.heap.Ns builtinsNs Y)(U:∀x:Str,x≠"__name__"->Y x=bootBuiltins x)(X:c.heap.NoLimit)(hg:c.gens=#[])(J:c.heap.get? a=some { cls:=.type "list",data:=.seq p.toArray })(hi:IntsAre p A)(hl:A.length<=sizeLine)(hr:Τ k callerA)(F:∀i:Heap,K.In i->i.Ns mainGlobals E->υ P w K E i CX k N fd [x] Z)(R:∀(s:Shared) (u:Value),BindsTo s fd ⟨[u],[]⟩ [(x,u)])(O:∀H:Hp,Rp H->Η K H a (A.map V.int)->Z [.ref a] H (λv _=>v=.bl true) λ_ _ _=>False)(T:∀H e g,CX [] H c (λ_ _ _=>False) e g->False):codeAny (model P w) callerA (.call (.ref N) ⟨[.ref a],[]⟩) (λr g=>r=.ok (.ret (.bool true))/\OldK c.heap g.heap/\g.os=c.os/\AllBare g.gens) c:=by
 have rv:=Bu hi;have S:=hi.length;have l:∀H:Hp,Rp H->Η K H a (A.map V.int)->lE P w H c.heap->(∀b,H b≠none->b=a)->(H a≠none->K.lookup a=none)->codeAny (model P w) callerA (.call (.ref N) ⟨[.ref a],[]⟩) (λr g=>r=.ok (.ret (.bool true))/\OldK c.heap g.heap/\g.os=c.os/\AllBare g.gens) c:=by
  intro H hO hS Β hA hK;have y:∀{b:Addr}{o:Obj},c.heap.get? b=some o->H b=none->(sj c.heap H).get? b=some o:=λe n=>Ra e n;have Q:∀{b:Addr}{o:Obj}{C:Array DictEntry}{D:Nat},c.heap.get? b=some o->o.data=.dict C D->H b=none:=λ{b o C D} e d=>by
   cases q:H b with
   | none=>rfl
   | some u=>
     have M:b=a:=hA b (by rw[q];simp);subst M;rw[J]at e;cases e;have d':Data.seq p.toArray _=Data.dict C D:=d;cases d'
  have j:∀{b:Addr}{m:f5},c.heap.Ns b m->(sj c.heap H).Ns b m:=λ{b m} ⟨o,C,D,e,d,r⟩=>⟨o,C,D,y e (Q e d),d,r⟩;have t:K.In (sj c.heap H):=λb o e=>y (KX b o e) (by
   cases q:H b with
   | none=>rfl
   | some u=>
     have M:b=a:=hA b (by rw[q];simp);subst M;rw[hK (by rw[q];simp)]at e;cases e)
  have hM:Mod K E (sj c.heap H):=⟨t,j I,⟨Y,j f,U⟩,let ⟨mc,h1,h2⟩:=X;⟨mc,j h1,h2⟩⟩;have e0:abi P w K E (sj c.heap H) callerA [] c H:=⟨rfl,hM,λb o e=>Vb e,iJ (OB _ _),trivial,λb f=>absurd (show b∈([]:fx)from f) (by simp),Β,.of_eq hg⟩;refine eW ((F _ t (j I)).run callerA [] c H ⟨[.ref a],[]⟩ [.ref a] [.ref a] _ _ hr e0 (R c (.ref a)) (.cons rfl .nil) (O H hO hS)) λr g h=>?_;cases r with
  | error e=>exact(T H e g h).elim
  | ok fl=>
    cases fl with
    | next=>exact False.elim h
    | brk=>exact False.elim h
    | cont=>exact False.elim h
    | ret u=>
      obtain⟨v,H',os,G,un,L,r',q⟩:=h;have q':v=.bl true:=q;subst q';obtain rfl:u=Value.bool true:=r';refine⟨rfl,OldK.of_keep λb o e=>?_,os,G⟩;cases q:H b with
      | none=>exact un.keep b o e q (by intro z;exact absurd (show b∈([]:fx)from z) (by simp)) (by simp)
      | some u=>
        rcases hO b with z|⟨ob,xs,z⟩
        .rw[q]at z;cases z
        .have z2:=un.lT b ob _ z;obtain⟨e1,_⟩:=Β b _ z;obtain⟨e2,_⟩:=L b _ z2;rw[e]at e1;cases e1;exact e2
 cases hk:K.lookup a with
 | some o=>
   have e:=KX a o hk;rw[J]at e;cases e;refine l (λ_=>none) (λ_=>.inl rfl) (.inr ⟨_,p.toArray,_,hk,rfl,rfl,rfl,by rw[aJ,S];exact hl,by simpa using rv⟩) (λb u z=>by have B:(none:Option HO)=some u:=z;cases B) (λb z=>absurd rfl z) λz=>absurd rfl z
 | none=>
   refine l (λb=>if b=a then some (.frz { cls:=.type "list",data:=.seq p.toArray } (.lst (A.map V.int)))else none) (λb=>?_) (.inl (.inr ⟨{ cls:=.type "list",data:=.seq p.toArray },aj rfl⟩)) (λb u z=>?_) (λb z=>?_) λ_=>hk
   .by_cases f:b=a
    .exact .inr ⟨_,_,aj f⟩
    .exact .inl (ag f)
   .by_cases f:b=a
    .have B:=(aj f).symm.trans z;cases B;subst f;exact⟨J,by rw[am];exact hl,p,_,rv,J⟩
    .have B:=(ag f).symm.trans z;cases B
   .by_cases f:b=a
    .exact f
    .exact absurd (ag f) z
theorem adi{l:PySem.W.OpenLaw}{n k:Nat}{q:Program}{m:gy}{XP:(Str->Option Value)->Heap->Prop}{O:World->Heap->Prop}{d:DefRec}{K:Params->PySem.W.Frag}{CX:World->Zu}{sp:World->Sp}{x:Str}(X:l.most=some n)(J:n<=sizeLine)(B:d.params.defaults=[])(S:Τ k callerA)(U:∀(w:World) (h:Heap),O w h->(K w.params).In h)(F:∀(w:World) (p:f5) (y:Addr) (h:Heap),(K w.params).In h->h.Ns mainGlobals p->p d.name=some (.ref y)->∃A:FuncData,(∀(s:Shared) (u:Value),BindsTo s A ⟨[u],[]⟩ [(x,u)])/\∀c:Heap,(K w.params).In c->c.Ns mainGlobals p->υ l.prog w (K w.params) p c (CX w) k y A [x] (sp w))(D:∀(w:World) (H:Hp) (a:Addr) (t:ej),t.length<=n->Rp H->Η (K w.params) H a (t.map V.int)->sp w [.ref a] H (λv _=>v=.bl true) λ_ _ _=>False)(I:∀(w:World) (H:Hp) (s:Shared) (e:Value) (z:Shared),CX w [] H s (λ_ _ _=>False) e z->False):PySem.W.WalkO q m XP O l.row.toRowW d [] (λf N=>PySem.call f N):=by
 refine Att.aaL X B λw M r p mb y o pm cd R a N t G Y ho hd P E C j i hg=>?_;have L:=U w _ Y;obtain⟨A,hb,Z⟩:=F w p y _ L G.T.g E;exact QX L G.T.g G.T.b G.T.builtins G.T.nolimit hg C j (bh i J) S Z hb (λH hO Q=>D w H a t i hO Q) λH e z=>I w H r e z
def hZ(s:Stmt)(j:Nat):Stmt:=match s with
 | .ClassDef _ _ _ body _ _ _ _ _ _ _=>body.getD j (.Pass ⟨0,0,0,0⟩)
 | _=>.Pass ⟨0,0,0,0⟩
def dA(s:Stmt):Arguments:=match s with
 | .FunctionDef _ a _ _ _ _ _ _ _ _=>a
 | _=>{ posonlyargs:=[],args:=[],vararg:=none,kwonlyargs:=[],kw_defaults:=[],kwarg:=none,defaults:=[] }
def df(s:Stmt):List Stmt:=match s with
 | .FunctionDef _ _ b _ _ _ _ _ _ _=>b
 | _=>[]
def aw(s:Stmt):Scope:=match s with
 | .FunctionDef _ _ _ _ _ _ sc _ _ _=>sc
 | _=>{ kind:=.function,names:=[],isGenerator:=false,isCoroutine:=false }
abbrev CX0:Zu:=λ_ _ _ _ _ _=>False
abbrev E0:XK:=λ_ _ _=>False
structure ϑ(K:fg)(x qual:Str)(st:Stmt)(f:Addr)(fd:FuncData):Prop where
 ex:∃(oc:Value)(od:Option Addr)(kV doc pm:Value)(an:Option Addr)(Ζ ct:Value)(osl:Array (Option Value)),fd=PySem.W.fnOf x qual (dA st) (df st) (aw st) .none kV doc pm an Ζ ct/\K.lookup f=some ⟨oc,od,.func fd,osl⟩/\PySem.W.codeIn K Ζ qual=true
 kp:PySem.W.keepIn K (.ref f)=true
section
variable{P:Program}{w:World}{K:fg}{b:f5}{a:Heap}
theorem ϑ.binds{x c:Str}{st:Stmt}{f:Addr}{l:FuncData}{ps:gy}(F:ϑ K x c st f l)(h:∀(kV d k:Value) (j:Option Addr) (g e:Value) (i:fy),i.length=ps.length->bindArgs (PySem.W.fnOf x c (dA st) (df st) (aw st) .none kV d k j g e) ⟨i,[]⟩=pure (ps.zip i)):Binds K l ps []:=by
 obtain⟨p,q,kV,d,k,j,g,e,n,rfl,o,m⟩:=F.ex;exact .all (h kV d k j g e)
theorem iw{x d:Str}{st:Stmt}{f:Addr}{n:Value}{o m:Option Addr}{g:Array (Option Value)}{kV e j h i:Value}(l:K.lookup f=some ⟨n,o,.func (PySem.W.fnOf x d (dA st) (df st) (aw st) .none kV e j m h i),g⟩)(c:PySem.W.codeIn K h d=true)(k:PySem.W.keepIn K (.ref f)=true):ϑ K x d st f (PySem.W.fnOf x d (dA st) (df st) (aw st) .none kV e j m h i):=⟨⟨n,o,kV,e,j,m,h,i,g,rfl,l,c⟩,k⟩
end
theorem Xw{A:Around}{k:Nat}(a:Τ k A):A.units+1<cLine:=eu (Nat.add_le_add_left (by decide:1<=64) _) a.units
section
variable{X:Cx}
theorem pv(i:Nat){x:Str}{b:Pos}(e:X.N[i]?=some x:=by rfl)(d:Vis X.env.scope x:=by first|exact Or.inl rfl|exact Or.inr (Or.inl rfl)|exact Or.inr (Or.inr rfl))(c:(x==("__debug__":Str))=false:=by decide)(a:(x==("__classdict__":Str))=false:=by decide):PE X (.Name x b) (u6 i):=CY e d c a
end
theorem XW{A B:Prop}(h:B):if false=true then A else B:=by
 rw[ag aN];exact h
theorem YG{A B:Prop}(h:A):if true=true then A else B:=by
 rw[aj rfl];exact h
def γ(H a:Hp):Prop:=∀b o,H b=some o->a b=some o
theorem γ.refl(H:Hp):γ H H:=λ_ _ h=>h
theorem γ.trans{H e d:Hp}(a:γ H e)(b:γ e d):γ H d:=λc o h=>b c o (a c o h)
theorem γ.free{H a:Hp}(e:γ H a){l:Addr}(h:a l=Option.none):H l=Option.none:=by
 cases q:H l with
 | none=>rfl
 | some o=>
   rw[e l o q]at h;cases h
theorem γ.seq{K:fg}{H c:Hp}{a:Addr}{b:List V}(e:γ H c)(h:Η K H a b):Η K c a b:=by
 rcases h with(h|⟨o,h⟩)|h
 .exact .inl (.inl (e _ _ h))
 .exact .inl (.inr ⟨o,e _ _ h⟩)
 .exact .inr h
section
variable{X:Cx}
theorem OU:jq X (.builtin "len") (λc H Q=>∃a b,c=[V.ref a]/\H a=some (.dK b)/\Q (.int b.length) H):=by
 intro d s k H c j Q I r h;obtain⟨a,b,rfl,g,q⟩:=h;obtain⟨u,rfl,f⟩:=my r;cases f;exact XH I (.inl g) λt i e=>⟨.int b.length,H,e,⟨t,rfl⟩,q⟩
end
def Cx.comp(X:Cx)(d:gy)(a:Scope)(cl:List (Str×Addr))(C:Addr)(b:Shared)(c:Hp)(e:fx):Cx where
 prog:=X.prog
 w:=X.w
 K:=X.K
 mg:=X.mg
 base:=X.base
 A:=X.A
 N:=d
 s₀:=b
 H₀:=c
 env:=compEnvC a cl C X.env
 outer:=X.stack
 stack:=X.stack
 ex:=e
 fn:=λ_=>false
 calm:=X.calm
 pn:=[]
 xe:=λ_ _=>False
structure ϓ(X:Cx)(Nc:gy)(own:Nat)(js:List Nat)(scope:Scope)(cl:List (Str×Addr)):Prop where
 acn:closureFor scope X.env=pure cl
 kind:scope.kind=.function
 ZK:∀y∈scope.names,y.2≠.cell
 names:∀y∈scope.names,y.2=.local->scope.names.lookup y.1=some .local
 cells:∀x c,cl.lookup x=some c->X.env.cells.lookup x=some c
 has:∀x,((relabel scope X.env).names.lookup x=some .cell\/(relabel scope X.env).names.lookup x=some .free)->∃c,cl.lookup x=some c
 len:Nc.length=own+js.length
 outer:∀i x,Nc[own+i]?=some x->∃j,js[i]?=some j/\X.N[j]?=some x/\X.env.scope.names.lookup x=some .cell/\(relabel scope X.env).names.lookup x=some .cell
def j5(a:Nat)(c:List Nat)(b:St):St:=List.replicate a none++c.map λj=>(b[j]?).getD none
def xH(h:Nat)(u:List Nat)(t:TI)(g:TG)(r:TT)(s:TE):TE:=λo H Q=>t o H λJ k=>∀p,k p=none->∃W:Nat->Nat->List V->St->Hp->Prop,(∃m,W 0 m [] (j5 h u o) (upd k p (.lst [])))/\∀i m c d f,W i m c d f->(J.stop i f/\Q (.ref p) f)\/(J.go i f/\∀x n,J.yld i f x n->g x d n λa q=>r a q λb j=>
 if b=true then s a j λy l=>l p=some (.lst c)/\c.length<sizeLine/\∃e,e<m/\W (i+1) e (c++[y]) a (upd l p (.lst (c++[y])))
 else ∃e,e<m/\W (i+1) e c a j)
def PTs(X:Cx)(d:List Expr)(t:TT):Prop:=∀(a:fv)(s:Shared)(b:St)(H:Hp)(Q:Bool->Hp->Prop),Inv X a b H s->t b H Q->wpAny (model X.prog X.w) X.A (forIn d true λc r=>if r=true then do let e <-isTrue c X.env (eval c X.env);pure (ForInStep.yield e)else pure (ForInStep.yield r)) (TP X a b Q) X.xe s
def aeA:TT:=λ_ H Q=>Q true H
theorem nV{X:Cx}:PTs X [] aeA:=λa s b H Q I h=>wpAny_tests_nil ⟨H,I,h⟩
theorem IR{X:Cx}{c:Expr}{t:TT}(h:PT X c t):PTs X [c] t:=λa s b H Q I q=>wpAny_tests_one (h a s b H Q I q)
section
variable{a:Program}{w:World}{A:Around}{E:eF}{R:Result->Shared->Prop}{s:Shared}
theorem vX{u b p:Expr}{t:List Expr}{j:Scope}{C:Pos}{H y:Value}{e:Env}(I:Nat->Shared->Prop)(D:∀n s,I n s->wpAny (model a w) A (pyNext H) (λr f=>match r with
 | none=>R (.ok .next) f
 | some v=>wpAny (model a w) A (letOwnedTupleGo b H v) (λ_ z=>wpAny (model a w) A (assign b e v) (λ_ k=>
  wpAny (model a w) A (forIn t true λc r=>if r=true then do let ok <-isTrue c e (eval c e);pure (ForInStep.yield ok)else pure (ForInStep.yield r)) (λok i=>
   if ok=true then wpAny (model a w) A (eval u e) (λx q=>
    wpAny (model a w) A (call (.builtin "list.append") [y,x]) (λ_ o=>∃m,m<n/\I m o) (λ_ _=>False) q) (λ_ _=>False) i
   else ∃m,m<n/\I m i) (λ_ _=>False) k) (λ_ _=>False) z) (λ_ _=>False) f) (λ_ _=>False) s)(n:Nat)(h:I n s):codeAny (model a w) A (.compLoop (.ListComp u [⟨b,p,t,0⟩] j C) 0 H y e) R s:=by
 refine codeAny_loop rfl I (λn s K=>?_) n h;show wpAny _ A ((compTurn (.ListComp u [⟨b,p,t,0⟩] j C) 0 H y e).onRaise (λx=>do noteFrame x e;theTreesLotGoes x)) _ _ s;refine wpAny_noted ?_;rw[compTurn_list];refine ah (bR (ah (aX (D n s K) (λr f l=>?_) λ_ _ g=>g.elim)));cases r with
 | none=>exact aD l
 | some v=>
   refine ah (aX l (λ_ z J=>?_) λ_ _ g=>g.elim);refine ah (aX J (λ_ k B=>ah (aX B (λok i d=>?_) λ_ _ g=>g.elim)) λ_ _ g=>g.elim);cases ok with
   | true=>
     rw[aj rfl]at d;simp only[if_true];exact ah (ah (aX d (λx q G=>ah (aX G (λ_ o F=>aD (aD ⟨rfl,F⟩)) λ_ _ g=>g.elim)) λ_ _ g=>g.elim))
   | false=>
     rw[ag aN]at d;simp only[ck,if_false]
     first
      | exact aD ⟨rfl,d⟩
      | exact ah (aD (aD ⟨rfl,d⟩))
end
section
variable{X:Cx}{Nc:gy}{f:Nat}{B:List Nat}{scope:Scope}{l:List (Str×Addr)}
theorem rZ{g:fv}{q:St}{d:Hp}{a:Shared}{C:Addr}{k:fx}(T:ϓ X Nc f B scope l)(I:Inv X g q d a)(m:a.heap.objs.size<=C)(j:∀b∈k,kC X g d b)(r:∀b∈k,b<a.heap.objs.size):(X.comp Nc scope l C a d k).Ok where
 mod:=I.ok.mod
 kind:=by show(relabel scope X.env).kind=_;exact T.kind
 glob:=I.ok.glob
 blt:=I.ok.blt
 above:=m
 inj:=λx y c n s=>I.ok.inj x y c (T.cells x c n) (T.cells y c s)
 has:=λx h=>T.has x h
 cab:=λx c h=>by cases h
 hd:=I.ok.hd
 frames:=I.ok.frames
 stk:=.inl rfl
 exf:=λb i=>⟨aF (aI (r b i) m),λx c h=>(j b i).2.2.2.2.1 x c (T.cells x c h)⟩
 bs:=I.bs
 bsz:=bh I.ok.bsz I.sz
 aaI:=λb o e i=>by
  rcases(j b i).2.2.2.1 with z|z
  .exact I.ok.aaI b o e z
  .exact absurd (aI (av (I.ok.bs b o e).1) z) (cA _)
 ZI:=λb i p=>by
  rcases az.mp (I.aag b p)with z|z
  .exact(j b i).2.1 z
  .exact(j b i).2.2.1 z
 Za:=I.stack
 frf:=I.eQ
theorem sG{s:fv}{w:St}{h:Hp}{a:Shared}{C D:Addr}{L:fx}{g:Heap}{t:Nat}{m:f5}(T:ϓ X Nc f B scope l)(I:Inv X s w h a)(P:a.heap.objs.size<=C)(E:a.heap.objs.size<=D)(F:D≠C)(R:∀b∈L,kC X s h b)(ϕ:∀b∈L,b<a.heap.objs.size)(A:∀b o,a.heap.get? b=some o->g.get? b=some o)(M:g.Ns C m)(H:∃n,g.get? D=some { cls:=.type "list",data:=.seq ([]:fy).toArray n }):Inv (X.comp Nc scope l C a h L) [] (j5 f B w) (upd h D (.lst [])) { a with heap:=g,toks:=t }:=by
 obtain⟨Z,H⟩:=H;have r:∀c v,a.heap.IsCell c v->g.IsCell c v:=λc v ⟨o,G,V⟩=>⟨o,A c o G,V⟩;refine⟨rZ T I P R ϕ,rfl,I.bare,Un.laid A E (I.Β.fresh E),⟨m,M,λi x v e1 e2 e3=>?_⟩,λx c e=>?_,?_,λx c e=>?_,λp Y=>(by cases Y),I.Β.laid A E ?_,?_⟩
 .have hN:Nc[i]?=some x:=e1;have d:(j5 f B w)[i]?=some (some v):=e2;unfold j5 at d;by_cases Q:i<f
  .rw[d6 (by simpa using Q),fP]at d;simp[Q]at d
  .obtain⟨k,rfl⟩:∃k,i=f+k:=⟨i-f,by lia⟩;rw[cL (by simp)]at d;simp only[bW,Nat.add_sub_cancel_left,aY]at d;obtain⟨j,hj,W,N,O⟩:=T.outer k x hN;rw[hj]at d;replace d:some (w[j]?.getD none)=some (some v):=d;have K:w[j]?=some (some v):=by
    cases q:w[j]? with
    | none=>rw[q]at d;simp at d
    | some y=>rw[q]at d;simpa using d
   obtain⟨m0,ad,J⟩:=I.loc;obtain⟨u,U,S⟩:=J j x v W K (.inr (.inl N));refine⟨u,U,.inr ⟨.inl O,?_⟩⟩;rcases S with⟨z,_⟩|⟨_,c,hc,Zt⟩
   .have z':X.env.scope.names.lookup x=some .local:=z;rw[N]at z';cases z'
   .obtain⟨c',hc'⟩:=T.has x (.inl O);have:=T.cells x c' hc';rw[hc]at this;cases this;exact⟨c,hc',r c _ Zt⟩
 .obtain⟨v,z⟩:=I.cell x c (T.cells x c e);exact⟨v,r c v z⟩
 .show upd h D (.lst []) C=none;rw[aU (Ne.symm F)];exact I.Β.fresh P
 .have e':=T.cells x c e;obtain⟨v,o,G,_⟩:=I.cell x c e';rw[aU (aF (aI (av G) E))];exact I.ύ x c e'
 .exact⟨bJ _,[],Z,.nil,H⟩
 .show(j5 f B w).length=Nc.length;rw[T.len];simp[j5]
theorem oG{g:fv}{A x:St}{d i:Hp}{c s':Shared}{C:Addr}{r:fx}{h':Heap}(I:Inv X g A d c)(D:c.heap.objs.size<=C)(s:∀b∈r,kC X g d b)(j:Inv (X.comp Nc scope l C c d r) [] x i s')(E:Heap.SameBut C s'.heap h'):Inv X g A i { s' with heap:=h' }:=by
 have u:Un (ϗ X.stack) r d i c.heap s'.heap:=j.base;have ne:∀b o,c.heap.get? b=some o->b≠C:=λb o e=>aF (aI (av e) D);have k:∀b o,b≠C->s'.heap.get? b=some o->h'.get? b=some o:=λb o n e=>E.extBut b o n e;have F:Un (ϗ X.stack) r d i c.heap h':=⟨λb o e n h p=>k b o (ne b o e) (u.keep b o e n h p),λb o e n h p=>let ⟨sl,q⟩:=u.slot b o e n h p;⟨sl,k b _ (ne b o e) q⟩,u.free,λb o e p=>let ⟨o',q⟩:=u.there b o e p;⟨o',k b o' (ne b o e) q⟩,u.By,u.lT,u.BV⟩
 have m:i C=none:=j.free;have t:lE X.prog X.w i h':=λa o e=>(j.Β a o e).Bv (λb v h q=>k b v (λz=>by
  rcases h with y|y
  .rw[y]at z;rw[z,m]at e;cases e
  .rw[z,m]at y;cases y) q) (λ_ q=>q) λ_ _ q=>q
 exact I.abv (s':={ s' with heap:=h' }) (ch:=r) j.os F t j.bare λb h=>⟨(s b h).2.2.2.1,(s b h).2.1,(s b h).2.2.2.2.1,(s b h).2.2.2.2.2⟩
theorem py{af a F:Expr}{ai:List Expr}{aC:Pos}{wi:TI}{g:TG}{tc:TT}{te:TE}(hc:X.calm=true)(T:ϓ X Nc f B scope l)(hi:PI X a F wi)(hg:∀C z D k,PG (X.comp Nc scope l C z D k) a g)(ht:∀C z D k,PTs (X.comp Nc scope l C z D k) ai tc)(he:∀C z D k,PE (X.comp Nc scope l C z D k) af te)(hs:∀x,foldedSetIterable F X.env x=pure x:=by intro _;rfl):PE X (.ListComp af [⟨a,F,ai,0⟩] scope aC) (xH f B wi g tc te):=by
 intro Z s σ H Q I h;rw[eval_ListComp];refine d5 (use:=none) rfl hs T.acn T.kind T.names (Ψ (hi Z s σ H _ I h) λv s1 h1=>Ψ h1 λcw j h2=>?_);obtain⟨it,k,tn,J,H1,rfl,I1,V,st,f1,R⟩:=h2;have O:∀b∈k,b<j.heap.objs.size:=λb m=>let ⟨o,e,_⟩:=V.obj _ _ st b m;av e;refine dk (eN T.ZK (by intro y hy;simp at hy) (λE Ω Ν=>?_) T.kind);dsimp only at Ω Ν ⊢;generalize ae:j.heap.push { cls:=.type "list",dict:=none,data:=.seq ([]:fy).toArray }=M at Ω Ν ⊢;have hC:M.objs.size=j.heap.objs.size+1:=by rw[<-ae,cg]
 have a2:j.heap.objs.size≠M.objs.size:=by rw[hC];exact aF (cV _)
 have ϒ:j.heap.objs.size<=M.objs.size:=by rw[hC];exact dC _
 have dE:∀b,b<j.heap.objs.size->b≠M.objs.size:=λb m=>by rw[hC];exact aF (dj m)
 have a1:∀b o,j.heap.get? b=some o->E.get? b=some o:=λb o e=>Ν.extBut b o (dE b (av e)) (ak _ (ae▸ak _ e));have ZL:∃n,E.get? j.heap.objs.size=some { cls:=.type "list",data:=.seq ([]:fy).toArray n }:=⟨_,Ν.extBut _ _ a2 (ak _ (ae▸aL _ rfl))⟩;have nE:tn 0 E:=V.keep _ _ _ st λb _ o e=>a1 b o e;obtain⟨W,⟨m0,w0⟩,aS⟩:=R j.heap.objs.size I1.fresh;have Ic:=sG (t:=j.toks+([]:List (Str×Value)).length) T I1 ϒ (aB _) a2 f1 O a1 Ω ZL;generalize N:X.comp Nc scope l M.objs.size j H1 k=Xc at Ic;have L:∀{P:Hp},(∀b∈k,P b=none)->∀b∈k,kC Xc [] P b:=λ{P} hn b m=>by
  subst N;exact⟨hn b m,dE b (O b m),(rZ T I1 ϒ f1 O).ZI b m,.inl m,λx c e=>(f1 b m).2.2.2.2.1 x c (T.cells x c e),λp hp=>by cases hp⟩
 have b0:∀b∈k,upd H1 j.heap.objs.size (.lst []) b=none:=λb m=>by
  rw[aU (aF (O b m))];exact(f1 b m).1
 have c1:Xc.calm=true:=by subst N;exact hc
 have U:∀K:Shared,K={ j with heap:=E,toks:=j.toks+([]:List (Str×Value)).length }->codeAny (model X.prog X.w) X.A (.compLoop (.ListComp af [⟨a,F,ai,0⟩] scope aC) 0 (.ref it) (.ref j.heap.objs.size) (compEnvC scope l M.objs.size X.env))
  (compPost (model X.prog X.w) X.A X.xe none (EP X Z σ Q) (.ref j.heap.objs.size) M.objs.size) K:=by
  rintro K rfl;refine vX (λn s'=>∃i ys aT P,Inv Xc [] aT P s'/\tn i s'.heap/\(∀b∈k,P b=none)/\W i n ys aT P) ?_ m0 ⟨0,[],_,_,Ic,nE,b0,w0⟩;rintro n s3 ⟨i,ys,S,H3,I3,a4,a0,w3⟩;rcases aS i n ys S H3 w3 with⟨stop,q⟩|⟨go,step⟩
  .subst N;refine Ψ (V.done (X.comp Nc scope l M.objs.size j H1 k) rfl rfl rfl hc i [] s3 S H3 _ I3 (L a0) a4 stop) λr s4 ⟨hr,I4⟩=>?_;subst hr;obtain⟨m4,bm,_⟩:=id I4.loc;exact⟨m4,bm,λh' b2=>⟨.ref j.heap.objs.size,H3,oG I1 ϒ f1 I4 b2,rfl,q⟩⟩
  .subst N;refine Ψ (V.item (X.comp Nc scope l M.objs.size j H1 k) rfl rfl rfl hc i [] s3 S H3 _ I3 (L a0) a4 go) λr s4 ⟨u,hr,h4⟩=>?_;subst hr;refine Ψ h4 λ_ s5 ⟨x,H5,I5,r5,y5,Z3,bM⟩=>?_;have b4:=I5.pinned (L bM) (V.obj _ _ Z3);have Y:∀{ac:St}{H7:Hp}{s7:Shared},Inv (X.comp Nc scope l M.objs.size j H1 k) ([]++jL k s5.heap) ac H7 s7->Inv (X.comp Nc scope l M.objs.size j H1 k) [] ac H7 s7/\tn (i+1) s7.heap/\∀b∈k,H7 b=none:=λ{ac H7 s7} I7=>by
    refine⟨I7.Ϗ,V.keep _ _ _ Z3 λb m o e=>(I7.pin (b,o) (aE _ (aE _ (fF m e)))).1,λb m=>?_⟩;obtain⟨o,e,d⟩:=V.obj _ _ Z3 b m;exact(I7.pin (b,o) (aE _ (aE _ (fF m e)))).2.1
   refine Ψ (hg _ _ _ _ _ s5 S H5 x u _ b4 r5 (step x H5 y5)) λ_ s6 ⟨G,H6,I6,q6⟩=>?_;refine uy (ht _ _ _ _ _ s6 G H6 _ I6 q6) λok s7 H7 I7 q7=>?_;cases ok with
   | false=>
     rw[ag aN]at q7 ⊢;obtain⟨m',hm,w7⟩:=q7;obtain⟨J1,J2,J3⟩:=Y I7;exact⟨m',hm,i+1,ys,G,H7,J1,J2,J3,w7⟩
   | true=>
     rw[aj rfl]at q7 ⊢;refine cP (he _ _ _ _ _ s7 G H7 _ I7 q7) λy s8 yv H8 I8 r8 ⟨bz,b6,m',hm,w8⟩=>?_;refine Ψ (eR _ s8 G H8 (.ref j.heap.objs.size) [yv] _ [y] (λv' P=>W (i+1) m' (ys++[yv]) G P) I8 rfl (.cons r8 .nil) ⟨_,ys,yv,rfl,rfl,bz,b6,w8⟩) λv9 s9 ⟨_,H9,I9,_,w9⟩=>?_;obtain⟨J1,J2,J3⟩:=Y I9;exact⟨m',hm,i+1,ys++[yv],G,H9,J1,J2,J3,w9⟩
 exact eC (U _ rfl) (V.self _ 0 _ _ _ nE (U _ rfl))
end
section
variable{X:Cx}
def aal:V->List V->Hp->VK->Prop:=λx b H Q=>∃(l:Addr)(a:List V)(i:Int)(y:V),x=.ref l/\b=[.int i,y]/\H l=some (.lst a)/\0<=i/\i<=a.length/\a.length<sizeLine/\Q .Θ (upd H l (.lst (a.take i.toNat++y::a.drop i.toNat)))
theorem PH:MtM X "list.insert" aal:=by
 intro g s K H x J v A Q I k m h;obtain⟨l,C,i,y,rfl,rfl,f,G,w,B,q⟩:=h;cases k;obtain⟨D,b,rfl,⟨t,rfl⟩,o⟩:=m.two;obtain⟨z,a,n,r,u,e⟩:=I.abM f;have E:=ni;have p:Builtin.List.listFitsIndex i=true:=by
  unfold Builtin.List.listFitsIndex;rw[aZ];exact⟨bI (by lia),bI (by lia)⟩
 have c:¬(!Builtin.List.listFitsIndex i)=true:=by rw[p];decide
 have d:a.toArray.size<=sizeLine:=by rw[aJ,<-u];exact z
 refine call_meets iL ⟨_,e,rfl⟩ PySem.F.entry_list_insert (PySem.F.args_list_insert_3 _ _ _) (PySem.AutoSeq1.list_insert_list_int_val_1 l a.toArray n i t b c d) ⟨e,?_⟩;refine⟨.Θ,_,I.aer (its':=a.take i.toNat++b::a.drop i.toNat) f e ?_ ((r.take i.toNat).append (.cons o (r.drop i.toNat))) ?_,rfl,q⟩
 .show(a.toArray.extract 0 (if i<0 then(i+(a.toArray.size:Int)).toNat else min i.toNat a.toArray.size)).push b++a.toArray.extract (if i<0 then(i+(a.toArray.size:Int)).toNat else min i.toNat a.toArray.size)=_;have j:(if i<0 then(i+(a.toArray.size:Int)).toNat else min i.toNat a.toArray.size)=i.toNat:=by
   rw[ag (by lia),aJ]
   lia
  rw[j];exact PySem.W.kl_ins_eq a i.toNat b
 .rw[ao,aO,bc,cz]
  lia
theorem EW(N:X.calm=true):jq X (.builtin "all") (λt H Q=>∃(p:Addr)(a:List Bool),t=[.ref p]/\Η X.K H p (a.map V.bl)/\Q (.bl (a.all id)) H):=by
 intro C s Y H t U Q I r h;obtain⟨p,a,rfl,P,q⟩:=h;obtain⟨u,rfl,m⟩:=my r;cases m;obtain⟨j,n,B,W⟩:=I.list P;have y:=B.isList;have S:=B.lt;have G:X.A.in1.handled=none:=I.ok.hd N;have c:j.length=a.length:=by rw[<-n.length,am]
 refine call_all_walk (fD y ?_);refine⟨s.heap.objs.size,[s.heap.objs.size,p],[s.heap.objs.size],j.toArray.size,_,_,λi=>(a[i]?).getD true,rfl,Walks.list (A:=X.A.in1) G _ p (aF S) j.toArray,⟨⟨_,aL _ rfl,rfl,rfl⟩,y.push _⟩,λi v D F T J k=>?_,λR L E=>?_⟩
 .have d:j[i]?=some v:=by simpa using J
  have g:i<a.length:=by rw[<-c];exact(aH.mp d).1
  obtain⟨u,w,m⟩:=n.get (i:=i) (x:=V.bl a[i]) (by rw[aY,aG g];rfl);rw[d]at w;cases w;cases m;replace k:F (a[i]?.getD true) D:=k;rw[aG g]at k;exact bX k
 .have e:((List.range j.toArray.size).all λi=>(a[i]?).getD true)=a.all id:=by
   rw[aJ,c];rw[fG,bQ,bQ]
   constructor
   .intro z b hb;obtain⟨i,d,rfl⟩:=List.getElem_of_mem hb;have:=z i (cR.mpr d);rw[aG d]at this;exact this
   .intro z i d;have f:=cR.mp d;rw[aG f];exact z _ (eY f)
  have M:∀b o,s.heap.get? b=some o->R.get? b=some o:=λb o l=>E b o (λO=>by rw[ax.mp O]at l;exact cA _ (av l)) (ak _ l);rw[e];exact⟨.bl _,H,I.kept (t':=L) M,rfl,q⟩
end
mutual
inductive Zm(K:fg)(H:Hp):V->PyData->Prop
 | Θ:Zm K H .Θ .none
 | bl (b:Bool):Zm K H (.bl b) (.bool b)
 | int (i:Int):Zm K H (.int i) (.int i)
 | str {x:Str}:PyData.canLay0 (.str x)=true->Zm K H (.str x) (.str x)
 | lst {a:Addr} {xs:List V} {ds:List PyData}:Η K H a xs->ϋ K H xs ds->Zm K H (.ref a) (.list ds)
 | tup {a:Addr} {xs:List V} {ds:List PyData}:Ξ K H a xs->ϋ K H xs ds->Zm K H (.ref a) (.tuple ds)
inductive ϋ(K:fg)(H:Hp):List V->List PyData->Prop
 | nil:ϋ K H [] []
 | cons {x:V} {d:PyData} {xs:List V} {ds:List PyData}:Zm K H x d->ϋ K H xs ds->ϋ K H (x::xs) (d::ds)
end
mutual
theorem Zm.reads{X:Cx}{f:fv}{q:St}{H:Hp}{s:Shared}(I:Inv X f q H s):∀{x:V}{d:PyData}{u:Value},Zm X.K H x d->RelV x u->(∃as,Reads s.heap u d as)/\d.canLay0=true
 | _,_,_,.Θ,r=>by cases(show _=Value.none from r);exact⟨⟨_,.none⟩,by simp[PyData.canLay0]⟩
 | _,_,_,.bl b,r=>by cases(show _=Value.bool b from r);exact⟨⟨_,.bool b⟩,by simp[PyData.canLay0]⟩
 | _,_,_,.int i,r=>by obtain⟨t,e⟩:=(show ∃t,_=Value.int i t from r);cases e;exact⟨⟨_,.int i t⟩,by simp[PyData.canLay0]⟩
 | _,_,_,.str (x:=x) h,r=>by obtain⟨t,e⟩:=(show ∃t,_=Value.str x t from r);cases e;exact⟨⟨_,.str x t⟩,h⟩
 | _,_,_,.lst (a:=a) h hs,r=>by
   cases(show _=Value.ref a from r);obtain⟨p,j,⟨o,n,e,c,_,l⟩,m⟩:=I.list h;obtain⟨⟨as,g⟩,k⟩:=ϋ.reads I hs j;exact⟨⟨_,.list e c l (by simpa using g)⟩,by simpa[PyData.canLay0]using k⟩
 | _,_,_,.tup (a:=a) h hs,r=>by
   cases(show _=Value.ref a from r);obtain⟨p,j,⟨o,e,c,n,l⟩,m⟩:=I.tuple h;obtain⟨⟨as,g⟩,k⟩:=ϋ.reads I hs j;exact⟨⟨_,.tuple e c l (by simpa using g)⟩,by simpa[PyData.canLay0]using k⟩
theorem ϋ.reads{X:Cx}{a:fv}{e:St}{H:Hp}{s:Shared}(I:Inv X a e H s):∀{c:List V}{b:List PyData}{d:fy},ϋ X.K H c b->Vals c d->(∃as,ReadsAll s.heap d b as)/\PyData.canLayAll0 b=true
 | _,_,_,.nil,.nil=>⟨⟨_,.nil⟩,by simp[PyData.canLayAll0]⟩
 | _,_,_,.cons h hs,.cons r rs=>by
   obtain⟨⟨as,g⟩,f⟩:=Zm.reads I h r;obtain⟨⟨k,j⟩,i⟩:=ϋ.reads I hs rs;exact⟨⟨_,.cons g j⟩,by simp[PyData.canLayAll0,f,i]⟩
end
section
variable{X:Cx}
def W9(K:fg):R2:=λx y H Q=>∃d e,Zm K H x d/\Zm K H y e/\d.depth<=40/\Q (.bl (!PyData.eqv d e)) H
theorem Vg(l:X.A.units+64<cLine):RW X (compareOp .NotEq) (W9 X.K):=by
 intro a s o H x y v u Q I b f h;obtain⟨d,e,g,i,m,q⟩:=h;obtain⟨⟨as,c⟩,j⟩:=g.reads I b;obtain⟨⟨n,k⟩,cb⟩:=i.reads I f;exact PySem.SeqAt.compareNe_reads c k j cb (by lia) ⟨.bl _,H,I,rfl,q⟩
end
structure Zn(P:Program)(w:World)(l:Addr)(ob:Obj)(src:Heap->Array Value->Prop)(at':Addr->Nat->Heap->Prop):Prop where
 start:∀(A:Around)(s:Shared)(vs:Array Value)(Q:eF)(E:eF),src s.heap vs->Q (.ref s.heap.objs.size) { s with heap:=s.heap.push ob }->wpAny (model P w) A (pyIter (.ref l)) Q E s
 first:∀it h,h.get? it=some ob->at' it 0 h
 atK:∀it i h h',at' it i h->(∀o,h.get? it=some o->h'.get? it=some o)->at' it i h'
 aam:∀h h' vs,src h vs->(∀o,h.get? l=some o->h'.get? l=some o)->src h' vs
 obj:∀it i h,at' it i h->∃o,h.get? it=some o/\∀v,o.data≠.cell v
 item:∀(A:Around)(s:Shared)(it:Addr)(i:Nat)(vs:Array Value)(x:Value)(Q:eF)(E:eF),at' it i s.heap->src s.heap vs->vs[i]?=some x->(∀h',at' it (i+1) h'->Heap.SameBut it s.heap h'->Q x { s with heap:=h' })->wpAny (model P w) A (Builtin.SmallTypes.nextOf (.ref it)) Q E s
 fin:∀(A:Around)(s:Shared)(it:Addr)(i:Nat)(vs:Array Value)(Q:eF)(E:eF),A.handled=none->at' it i s.heap->src s.heap vs->vs[i]?=none->(∀h' e,Heap.ExtBut it s.heap h'->(∃o,h'.get? e=some o/\o.cls=.type "StopIteration")->E (.ref e) { s with heap:=h' })->wpAny (model P w) A (Builtin.SmallTypes.nextOf (.ref it)) Q E s
theorem PD{P:Program}{w:World}(l:Addr):Zn P w l { cls:=.type "list_iterator",data:=.fields #[.ref l,.int 0 0] } (λh b=>h.IsList l b) (λa i h=>h.IsListIter a l i) where
 start:=λA s b Q E p c=>fD p c
 first:=λa h e=>⟨_,e,rfl,rfl⟩
 atK:=λa i h n x k=>x.at k
 aam:=λh n b x k=>x.at k
 obj:=λa i h x=>by
  obtain⟨o,j,_,hd⟩:=x;exact⟨o,j,λv z=>by rw[hd]at z;cases z⟩
 item:=λA s a i b x Q E g f d c=>wpAny_nextOf_list_item g f d c
 fin:=λA s a i b Q E m g f d c=>wpAny_nextOf_list_end m g f d c
section
variable{P:Program}{w:World}{A:Around}{E:eF}{s:Shared}
theorem vO{c t:Addr}{i:Nat}{j:Array Value}{x:Value}{Q:eF}(g:s.heap.IsTupleIter c t i)(k:s.heap.IsTuple t j)(l:j[i]?=some x)(m:∀e,e.IsTupleIter c t (i+1)->Heap.SameBut c s.heap e->Q x { s with heap:=e }):wpAny (model P w) A (Builtin.SmallTypes.nextOf (.ref c)) Q E s:=by
 obtain⟨o,b,h,a⟩:=id g;obtain⟨p,d,_,n,f⟩:=k;unfold Builtin.SmallTypes.nextOf;refine ah (wpAny_callSpecial?_slot (name:=Str.ofString "__next__") g.typeIs dX (fW dX g.typeIs gX ?_ (gL _)));show wpAny (model P w) _ (field (.ref c) 0>>=_) _ _ s;refine ah (bF b a (x:=.ref t) rfl ?_);show wpAny (model P w) _ (if(Value.ref t==Value.none)=true then _ else _) _ _ s;rw[ag (by exact aN)];show wpAny (model P w) _ (field (.ref c) 1>>=_) _ _ s;refine ah (bF b a (x:=.int i 0) rfl ?_);show wpAny (model P w) _ (seqItems? (.ref t)>>=_) _ _ s;refine ah (dz d f ?_);simp only[fT,l];refine ah (dN b a (by simp) (aD ⟨x,rfl,aD (m _ ?_ (Heap.SameBut.update ..))⟩));exact⟨_,cx _ b (de (cq a _)),(Obj.cls_mapFields ..).trans h,by rw[cq a];simp[rawInt]⟩
theorem wV{d t:Addr}{i:Nat}{l:Array Value}{Q:eF}(k:A.handled=none)(j:s.heap.IsTupleIter d t i)(n:s.heap.IsTuple t l)(p:l[i]?=none)(q:∀g e,Heap.ExtBut d s.heap g->(∃o,g.get? e=some o/\o.cls=.type "StopIteration")->E (.ref e) { s with heap:=g }):wpAny (model P w) A (Builtin.SmallTypes.nextOf (.ref d)) Q E s:=by
 obtain⟨v,c,r,b⟩:=id j;obtain⟨y,f,_,u,h⟩:=n;unfold Builtin.SmallTypes.nextOf;refine ah (wpAny_callSpecial?_slot (name:=Str.ofString "__next__") j.typeIs dX (fW dX j.typeIs gX ?_ (gL _)));show wpAny (model P w) _ (field (.ref d) 0>>=_) _ _ s;refine ah (bF c b (x:=.ref t) rfl ?_);show wpAny (model P w) _ (if(Value.ref t==Value.none)=true then _ else _) _ _ s;rw[ag (by exact aN)];show wpAny (model P w) _ (field (.ref d) 1>>=_) _ _ s;refine ah (bF c b (x:=.int i 0) rfl ?_);show wpAny (model P w) _ (seqItems? (.ref t)>>=_) _ _ s;refine ah (dz f h ?_);simp only[fT,p];refine ah (wpAny_rule (ah (dN c b (by simp) ?_)));show wpAny (model P w) _ (newExc (.type "StopIteration") []>>=_) _ _ _;refine ah ?_;simp only[newExc,newTuple];refine ah (dk ?_ (by size_fits));refine ah (m:=firstArgMember _ _) (wpAny_of_eq (a:=Value.none) (by first|rfl|(simp only[firstArgMember];rfl)) ?_);refine dk ?_ (by size_fits);simp only[raiseNew];refine ah (wpAny_handled ?_)
 first|rw[show A.in1.handled=none from k]|rw[k]
 refine ah (aD (wpAny_throw ?_));exact q _ _ (((Heap.SameBut.update ..).extBut.push _).push _) ⟨_,aL _ rfl,rfl⟩
end
theorem Rh{P:Program}{w:World}(l:Addr):Zn P w l { cls:=.type "tuple_iterator",data:=.fields #[.ref l,.int 0 0] } (λh c=>h.IsTuple l c) (λa i h=>h.IsTupleIter a l i) where
 start:=λA s c Q E p d=>gO p d
 first:=λa h e=>⟨_,e,rfl,rfl⟩
 atK:=λa i h n x k=>let ⟨o,b,r⟩:=x;⟨o,k o b,r⟩
 aam:=λh n c x k=>let ⟨o,b,r⟩:=x;⟨o,k o b,r⟩
 obj:=λa i h x=>by
  obtain⟨o,b,_,hd⟩:=x;exact⟨o,b,λv z=>by rw[hd]at z;cases z⟩
 item:=λA s a i c x Q E j g f d=>vO j g f d
 fin:=λA s a i c Q E m j g f d=>wV m j g f d
structure ZAp(z TI TO i1 i2 l1 l2:Addr):Prop where
 a1:TI≠z
 a2:TO≠z
 a3:i1≠z
 a4:i2≠z
 a5:TI≠TO
 a6:TI≠i1
 a7:TI≠i2
 a8:TO≠i1
 a9:TO≠i2
 a0:i1≠i2
 b1:l1≠z/\l1≠TO/\l1≠i1/\l1≠i2
 b2:l2≠z/\l2≠TO/\l2≠i1/\l2≠i2
section
variable{P:Program}{w:World}{A:Around}{E:eF}{s:Shared}{p n:Addr}{f i:Obj}{m l:Heap->Array Value->Prop}{j k:Addr->Nat->Heap->Prop}
theorem GF(J:Zn P w p f m j)(M:Zn P w n i l k){z TI TO h g:Addr}{K L:Nat}{U S:Array Value}{x y a b:Value}{Q:eF}(D:ZAp z TI TO h g p n)(F:IsZip s.heap z TI TO .none)(HI:IsPair s.heap TI (.ref h) (.ref g))(ab:IsPair s.heap TO a b)(p1:j h K s.heap)(p2:k g L s.heap)(q1:m s.heap U)(q2:l s.heap S)(hx:U[K]?=some x)(hy:S[L]?=some y)(hQ:∀q,IsZip q z TI TO (rawInt s.heap.objs.size)->IsPair q TO x y->j h (K+1) q->k g (L+1) q->IsPair q s.heap.objs.size x y->q.objs.size=s.heap.objs.size+1->(∀c o,c≠z->c≠TO->c≠h->c≠g->s.heap.get? c=some o->q.get? c=some o)->Q (.ref s.heap.objs.size) { s with heap:=q }):wpAny (model P w) A (Builtin.«zip.__next__» ⟨[.ref z],[]⟩) (λfn s'=>∃v,fn=.done (.ret v)/\Q v s') E s:=by
 show wpAny (model P w) _ (field (.ref z) 2>>=_) _ _ _;refine ah (bF F rfl (x:=.bool false) rfl ?_);show wpAny (model P w) _ (field (.ref z) 3>>=_) _ _ _;refine ah (bF F rfl (x:=.ref TI) rfl ?_);refine ah (dz HI rfl ?_);show wpAny (model P w) _ (Builtin.SmallTypes.ownedTupleIsFree (.ref z)>>=_) _ _ _;refine ah ?_;unfold Builtin.SmallTypes.ownedTupleIsFree;refine ah (bF F rfl (x:=.none) rfl (aD ?_));simp only[if_true];refine ah (wpAny_rule ?_);refine ah (bF F rfl (x:=.ref TO) rfl ?_);refine ah (dF F (by simp) λg1 W t=>?_);replace W:IsZip g1 z TI TO .ellipsis:=W;refine ah ?_;simp only[List.zipIdx_cons,List.zipIdx_nil,jK,List.forIn_nil];refine ah (ah (gV ?_));show wpAny (model P w) _ (Builtin.SmallTypes.nextOf (.ref h)>>=_) _ _ _;refine ah (J.item _ { s with heap:=g1 } h K U x _ _ (J.atK _ _ _ _ p1 λo e=>t.extBut _ _ D.a3 e) (J.aam _ _ _ q1 λo e=>t.extBut _ _ D.b1.1 e) hx λg2 ad u=>aD ?_);have o2:IsPair g2 TO a b:=u.extBut _ _ D.a8 (t.extBut _ _ D.a2 ab);refine ah (dz o2 rfl ?_);refine ah (gr o2 λg3 V B=>?_);replace V:IsPair g3 TO x b:=V;refine ah (iX (aD ?_));refine ah (ah (gV ?_));show wpAny (model P w) _ (Builtin.SmallTypes.nextOf (.ref g)>>=_) _ _ _;refine ah (M.item _ { s with heap:=g3 } g L S y _ _ (M.atK _ _ _ _ p2 λo e=>B.extBut _ _ D.a9.symm (u.extBut _ _ D.a0.symm (t.extBut _ _ D.a4 e))) (M.aam _ _ _ q2 λo e=>B.extBut _ _ D.b2.2.1 (u.extBut _ _ D.b2.2.2.1 (t.extBut _ _ D.b2.1 e))) hy λg4 Z H=>aD ?_);have o4:IsPair g4 TO x b:=H.extBut _ _ D.a9 V;refine ah (dz o4 rfl ?_);refine ah (gr o4 λd N C=>?_);replace N:IsPair d TO x y:=N;refine ah (iX (aD (aD ?_)));refine ah (dz N rfl ?_);refine ah (wpAny_newTuple ?_);have sz:d.objs.size=s.heap.objs.size:=by rw[C.1,H.1,B.1,u.1,t.1]
 have z5:IsZip d z TI TO .ellipsis:=C.extBut _ _ D.a2.symm (H.extBut _ _ D.a4.symm (B.extBut _ _ D.a2.symm (u.extBut _ _ D.a3.symm W)));have k5:∀c o,c≠z->c≠TO->c≠h->c≠g->s.heap.get? c=some o->d.get? c=some o:=λc o r R Y c4 e=>
  C.extBut _ _ R (H.extBut _ _ c4 (B.extBut _ _ R (u.extBut _ _ Y (t.extBut _ _ r e))))
 have ae:j h (K+1) d:=J.atK _ _ _ _ ad λo e=>C.extBut _ _ D.a8.symm (H.extBut _ _ D.a0 (B.extBut _ _ D.a8.symm e));have af:k g (L+1) d:=M.atK _ _ _ _ Z λo e=>C.extBut _ _ D.a9.symm e;have I:z<d.objs.size:=av z5;show wpAny (model P w) _ (Builtin.SmallTypes.ownedTupleHandOut (.ref z) (.ref d.objs.size)>>=_) _ _ _;refine ah ?_;unfold Builtin.SmallTypes.ownedTupleHandOut;have z6:IsZip (d.push { cls:=.type "tuple",data:=.seq #[x,y] }) z TI TO .ellipsis:=ak _ z5;refine ah (dF z6 (by simp) λg7 T X=>?_);replace T:IsZip g7 z TI TO (rawInt d.objs.size):=T;refine dF T (by simp) λG O e8=>?_;replace O:IsZip G z TI TO (rawInt d.objs.size):=O;have up:∀c o,c≠z->d.get? c=some o->G.get? c=some o:=λc o r e=>e8.extBut _ _ r (X.extBut _ _ r (ak _ e));have t8:IsPair G d.objs.size x y:=e8.extBut _ _ (eg I) (X.extBut _ _ (eg I) (aL _ rfl));have s8:G.objs.size=d.objs.size+1:=by rw[e8.1,X.1,cg]
 rw[sz]at O t8 s8;refine aD ⟨_,rfl,?_⟩;show Q (.ref d.objs.size) _;rw[sz];exact hQ G O (up _ _ D.a2 N) (J.atK _ _ _ _ ae λo e=>up _ o D.a3 e) (M.atK _ _ _ _ af λo e=>up _ o D.a4 e) t8 s8 λc o r R Y c4 e=>up c o r (k5 c o r R Y c4 e)
theorem HL(M:Zn P w p f m j)(Z:Zn P w n i l k){z TI TO q y:Addr}{C N:Nat}{B K:Array Value}{a b:Value}{Q:Fin->Shared->Prop}(hh:A.handled=none)(D:ZAp z TI TO q y p n)(G:IsZip s.heap z TI TO .none)(HI:IsPair s.heap TI (.ref q) (.ref y))(V:IsPair s.heap TO a b)(p1:j q C s.heap)(p2:k y N s.heap)(q1:m s.heap B)(q2:l s.heap K)(T:B[C]?=none\/K[N]?=none)(hE:∀W e,(∀c o,c≠z->c≠TO->c≠q->c≠y->s.heap.get? c=some o->W.get? c=some o)->(∃o,W.get? e=some o/\o.cls=.type "StopIteration")->E (.ref e) { s with heap:=W }):wpAny (model P w) A (Builtin.«zip.__next__» ⟨[.ref z],[]⟩) Q E s:=by
 show wpAny (model P w) _ (field (.ref z) 2>>=_) _ _ _;refine ah (bF G rfl (x:=.bool false) rfl ?_);show wpAny (model P w) _ (field (.ref z) 3>>=_) _ _ _;refine ah (bF G rfl (x:=.ref TI) rfl ?_);refine ah (dz HI rfl ?_);show wpAny (model P w) _ (Builtin.SmallTypes.ownedTupleIsFree (.ref z)>>=_) _ _ _;refine ah ?_;unfold Builtin.SmallTypes.ownedTupleIsFree;refine ah (bF G rfl (x:=.none) rfl (aD ?_));simp only[if_true];refine ah (wpAny_rule ?_);refine ah (bF G rfl (x:=.ref TO) rfl ?_);refine ah (dF G (by simp) λH L u=>?_);replace L:IsZip H z TI TO .ellipsis:=L;refine ah ?_;simp only[List.zipIdx_cons,List.zipIdx_nil,jK,List.forIn_nil];refine ah (ah (gV ?_));show wpAny (model P w) _ (Builtin.SmallTypes.nextOf (.ref q)>>=_) _ _ _;have F:j q C H:=M.atK _ _ _ _ p1 λo e=>u.extBut _ _ D.a3 e;have I:m H B:=M.aam _ _ _ q1 λo e=>u.extBut _ _ D.b1.1 e;cases hx:B[C]? with
 | none=>
   refine ah (M.fin _ { s with heap:=H } q C B _ _ hh F I hx λY e r U=>?_);obtain⟨O,d,g⟩:=U;have z2:IsZip Y z TI TO .ellipsis:=r _ _ D.a3.symm L;have X:e≠z:=λt=>by subst t;rw[z2]at d;cases d;simp at g
   refine dF z2 (by simp) λR _ v=>hE R e (λc o J _ S _ t=>v.extBut _ _ J (r _ _ S (u.extBut _ _ J t))) ⟨O,v.extBut _ _ X d,g⟩
 | some x=>
   have hy:K[N]?=none:=by
    rcases T with h|h
    .rw[hx]at h;cases h
    .exact h
   refine ah (M.item _ { s with heap:=H } q C B x _ _ F I hx λY a7 r=>aD ?_);have o2:IsPair Y TO a b:=r.extBut _ _ D.a8 (u.extBut _ _ D.a2 V);refine ah (dz o2 rfl ?_);refine ah (gr o2 λR o3 v=>?_);refine ah (iX (aD ?_));refine ah (ah (gV ?_));show wpAny (model P w) _ (Builtin.SmallTypes.nextOf (.ref y)>>=_) _ _ _;refine ah (Z.fin _ { s with heap:=R } y N K _ _ hh (Z.atK _ _ _ _ p2 λo e=>v.extBut _ _ D.a9.symm (r.extBut _ _ D.a0.symm (u.extBut _ _ D.a4 e))) (Z.aam _ _ _ q2 λo e=>v.extBut _ _ D.b2.2.1 (r.extBut _ _ D.b2.2.2.1 (u.extBut _ _ D.b2.1 e))) hy λg4 e e4 U=>?_);obtain⟨O,d,g⟩:=U;have z4:IsZip g4 z TI TO .ellipsis:=e4 _ _ D.a4.symm (v.extBut _ _ D.a2.symm (r.extBut _ _ D.a3.symm L));have X:e≠z:=λt=>by subst t;rw[z4]at d;cases d;simp at g
   refine dF z4 (by simp) λg5 _ e5=>hE g5 e (λc o J c2 S c4 t=>e5.extBut _ _ J (e4 _ _ c4 (v.extBut _ _ c2 (r.extBut _ _ S (u.extBut _ _ J t))))) ⟨O,e5.extBut _ _ X d,g⟩
abbrev zp1(h:Heap)(f i:Obj):Heap:=(h.push f).push i
abbrev zp2(h:Heap)(f i:Obj):Heap:=(zp1 h f i).push { cls:=.type "tuple",data:=.seq #[.ref h.objs.size,.ref (h.push f).objs.size] }
abbrev zp3(h:Heap)(f i:Obj):Heap:=(zp2 h f i).push { cls:=.type "tuple",data:=.seq #[.none,.none] }
abbrev zp4(h:Heap)(f i:Obj):Heap:=(zp3 h f i).push { cls:=.type "zip",data:=.fields #[.none,.bool false,.bool false,.ref (zp1 h f i).objs.size,.ref (zp2 h f i).objs.size] }
theorem Cy(y:∀P w,Zn P w p f m j)(v:∀P w,Zn P w n i l k)(ne:∀h B,l h B->∃o,h.get? n=some o)(q c:Array Value):Meets (Builtin.«zip.__new__» ⟨[.type "zip",.ref p,.ref n],[]⟩) (λ_ R s=>m s.heap q/\l s.heap c/\R (.ok (.ret (.ref (zp3 s.heap f i).objs.size))) { s with heap:=zp4 s.heap f i }):=.of_wp λa w A R s b=>by
 obtain⟨u,g,d,t,os⟩:=s;obtain⟨x,D,r⟩:=b;have C:=sub_zip;have F:m (Shared.heap ⟨u,g,d,t,os⟩) q:=x;have z:l (Shared.heap ⟨u.push f,g,d,t,os⟩) c:=(v a w).aam _ _ _ D λo e=>ak _ e
 wp_walk using ((y a w).start _ _ _ _ _ F),((v a w).start _ _ _ _ _ z)
 exact⟨_,rfl,r⟩
theorem RQ(x:∀P w,Zn P w p f m j)(C:∀P w,Zn P w n i l k)(ne:∀h H,l h H->∃o,h.get? n=some o){u t:Array Value}{Q:eF}(D:m s.heap u)(J:l s.heap t)(h:∀a,IsZip a (s.heap.objs.size+4) (s.heap.objs.size+2) (s.heap.objs.size+3) .none->IsPair a (s.heap.objs.size+2) (.ref s.heap.objs.size) (.ref (s.heap.objs.size+1))->IsPair a (s.heap.objs.size+3) .none .none->j s.heap.objs.size 0 a->k (s.heap.objs.size+1) 0 a->(∀c o,s.heap.get? c=some o->a.get? c=some o)->Q (.ref (s.heap.objs.size+4)) { s with heap:=a })(G:f.isFreed=false)(I:i.isFreed=false):wpAny (model P w) A (call (.type "zip") [.ref p,.ref n]) Q E s:=by
 refine callType_new F.called_zip (by decide) (F.typeCall_zip_2 _ _) (F.newCall_zip_2 _ _) (λd=>F.args_object_init_3 d _ _) F.entry_zip_new (Cy x C ne u t) ⟨D,J,?_⟩;have r:(s.heap.push f).objs.size=s.heap.objs.size+1:=cg ..;have b:(zp1 s.heap f i).objs.size=s.heap.objs.size+2:=by rw[cg,r]
 have q:(zp2 s.heap f i).objs.size=s.heap.objs.size+3:=by rw[cg,b]
 have y:(zp3 s.heap f i).objs.size=s.heap.objs.size+4:=by rw[cg,q]
 have g:(zp4 s.heap f i).get? (zp3 s.heap f i).objs.size=some _:=aL _ rfl;have B:(zp4 s.heap f i).get? (zp2 s.heap f i).objs.size=some _:=ak _ (aL _ rfl);have v:(zp4 s.heap f i).get? (zp1 s.heap f i).objs.size=some _:=ak _ (ak _ (aL _ rfl));have z:(zp4 s.heap f i).get? (s.heap.push f).objs.size=some i:=ak _ (ak _ (ak _ (aL _ I)));have K:(zp4 s.heap f i).get? s.heap.objs.size=some f:=ak _ (ak _ (ak _ (ak _ (aL _ G))));show _/\_;rw[b,q,y]at g;rw[r,b]at v;rw[q]at B;rw[r]at z;rw[y];exact⟨⟨_,g,rfl⟩,h _ g v B ((x P w).first _ _ K) ((C P w).first _ _ z) λc o e=>ak _ (ak _ (ak _ (ak _ (ak _ e))))⟩
end
def bV(K:fg):Bool->Hp->Addr->List V->Prop
 | true,H,a,xs=>Η K H a xs
 | false,H,a,xs=>Ξ K H a xs
def Itz(K:fg)(c d:Bool)(a b:Addr):It:=⟨λi H=>∃e f x y,bV K c H a e/\bV K d H b f/\e[i]?=some x/\f[i]?=some y,λi H v g=>∃p x y,H p=none/\v=.ref p/\g=upd H p (.tup [x,y])/\(∀e,bV K c H a e->e[i]?=some x)/\∀f,bV K d H b f->f[i]?=some y,λi H=>∃e f,bV K c H a e/\bV K d H b f/\(e.length<=i\/f.length<=i)⟩
def Wr(a:Addr):Bool->Obj
 | true=>{ cls:=.type "list_iterator",data:=.fields #[.ref a,.int 0 0] }
 | false=>{ cls:=.type "tuple_iterator",data:=.fields #[.ref a,.int 0 0] }
def NY(a:Addr):Bool->Heap->Array Value->Prop
 | true,h,vs=>h.IsList a vs
 | false,h,vs=>h.IsTuple a vs
def zAt(a:Addr):Bool->Addr->Nat->Heap->Prop
 | true,it,i,h=>h.IsListIter it a i
 | false,it,i,h=>h.IsTupleIter it a i
theorem gM(a:Addr)(c:Bool)(P:Program)(w:World):Zn P w a (Wr a c) (NY a c) (zAt a c):=by
 cases c
 .exact Rh a
 .exact PD a
theorem ug(a:Addr)(c:Bool):(Wr a c).isFreed=false:=by cases c<;>rfl
theorem pp(a:Addr)(c:Bool)(h:Heap)(b:Array Value)(e:NY a c h b):∃o,h.get? a=some o:=by
 cases c
 .obtain⟨o,ho,_⟩:=e;exact⟨o,ho⟩
 .obtain⟨o,ho,_⟩:=e;exact⟨o,ho⟩
theorem Inv.sqX{X:Cx}{d:fv}{j:St}{H:Hp}{s:Shared}{c:Bool}{a:Addr}{e:List V}(I:Inv X d j H s)(h:bV X.K c H a e):∃b:List Value,Vals e b/\NY a c s.heap b.toArray:=by
 cases c with
 | true=>
   obtain⟨b,r,k,_⟩:=I.list h;exact⟨b,r,k.isList⟩
 | false=>
   obtain⟨b,r,⟨o,f,i,n,g⟩,_⟩:=I.tuple h;exact⟨b,r,⟨o,f,i,n,g⟩⟩
theorem Inv.aan{X:Cx}{b:fv}{g:St}{H:Hp}{s:Shared}{c:Bool}{a:Addr}{d e:List V}(I:Inv X b g H s)(h:bV X.K c H a d)(f:bV X.K c H a e):d=e:=by
 cases c with
 | true=>exact I.ZJ h f
 | false=>exact I.aac h f
theorem Rr{P:Program}{w:World}{K:fg}{V:List Expr}{x1}{Zw:Pos}(c d:Bool)(a b z TI TO i1 i2:Addr)(D:ZAp z TI TO i1 i2 a b):Turn P w K (.Tuple V x1 Zw) (Itz K c d a b) [z,TI,TO,i1,i2] z (λi h=>IsZip h z TI TO .none/\IsPair h TI (.ref i1) (.ref i2)/\(∃u v,IsPair h TO u v)/\zAt a c i1 i h/\zAt b d i2 i h) where
 mem:=by simp
 obj:=λi h t e he=>by
  obtain⟨t1,J,⟨u,v,L⟩,M,N⟩:=t;simp only[az,cW,or_false]at he;rcases he with rfl|rfl|rfl|rfl|rfl
  .exact⟨_,t1,λv z=>by cases z⟩
  .exact⟨_,J,λv z=>by cases z⟩
  .exact⟨_,L,λv z=>by cases z⟩
  .exact(gM a c P w).obj _ _ _ M
  .exact(gM b d P w).obj _ _ _ N
 keep:=λi h h' t k=>by
  obtain⟨t1,J,⟨u,v,L⟩,M,N⟩:=t;exact⟨k z (by simp) _ t1,k TI (by simp) _ J,⟨u,v,k TO (by simp) _ L⟩,(gM a c P w).atK _ _ _ _ M λo e=>k i1 (by simp) o e,(gM b d P w).atK _ _ _ _ N λo e=>k i2 (by simp) o e⟩
 item:=λX e1 e2 e3 hc i C s σ H E I f t g=>by
  subst e1 e2 e3;obtain⟨t1,J,⟨u,v,L⟩,M,N⟩:=t;obtain⟨xs,ys,x,y,s1,s2,hx,hy⟩:=g;obtain⟨us,r1,q1⟩:=I.sqX s1;obtain⟨vs,r2,q2⟩:=I.sqX s2;obtain⟨xu,br,rx⟩:=r1.get hx;obtain⟨yu,a8,ry⟩:=r2.get hy;have Y:s.TypeIs (.ref z) "zip":=⟨_,t1,rfl⟩;unfold pyNext;refine ah (wpAny_attempt (wpAny_callSpecial?_slot (name:=Str.ofString "__next__") Y gC (fW gC Y F.entry_zip_next
   (GF (gM a c _ _) (gM b d _ _) D t1 J L M N q1 q2 (x:=xu) (y:=yu) (by simpa using br) (by simpa using a8) λh' w1 w2 w3 w4 w5 w6 w7=>aD ?_) (F.args_zip_next_1 _))))
  refine⟨_,rfl,wpAny_letOwnedTupleGo_zip w1 λh2 n1 S=>?_⟩;have G:∀q∈[z,TI,TO,i1,i2],kC X C H q:=f;have a0:s.heap.objs.size≠z:=eg (av t1);have new:IsPair h2 s.heap.objs.size xu yu:=S.extBut _ _ a0 w5;have kp:∀q o,q∉[z,TI,TO,i1,i2]->s.heap.get? q=some o->h2.get? q=some o:=λq o j e=>by
   simp only[az,cW,or_false,not_or]at j;exact S.extBut _ _ j.1 (w7 q o j.1 j.2.2.1 j.2.2.2.1 j.2.2.2.2 e)
  have al:h2.get? TI=some _:=S.extBut _ _ D.a1 (w7 TI _ D.a1 D.a5 D.a6 D.a7 J);have Z:∀q u,H q=some u->q∉[z,TI,TO,i1,i2]:=λq u e j=>by rw[(G q j).1]at e;cases e
  have B:Inv X C σ H { s with heap:=h2 }:=by
   refine I.step (g':=s.gens) (d':=s.drawn) (t':=s.toks) (ch:=[z,TI,TO,i1,i2]) (λq j=>⟨(G q j).2.2.2.1,(G q j).2.1,(G q j).2.2.2.2.1,(G q j).2.2.2.2.2⟩) (λq o _ _ j e _=>kp q o j e) (λq o _ _ j e _=>⟨o.slots,kp q o j e⟩) (λ_ _ _ _ n=>n)
    (λq o j e=>⟨o,kp q o j e⟩) (λ_ _ e=>e) (λ_ _ _ e=>e) (λq ps e=>⟨#[],by rw[e];simp⟩) (λm hm=>?_) (λq u e=>?_) I.bare
   .obtain⟨o,es,ep,O,r⟩:=hm;exact⟨o,es,ep,kp _ o (λj=>(G _ j).2.1 rfl) O,r⟩
   .refine(I.Β q u e).Bv (λU v Zk l=>kp U v ?_ l) (λ_ l=>l) λ_ _ l=>l;rcases Zk with rfl|Zk
    .exact Z _ u e
    .exact Z _ _ Zk
  have R:H s.heap.objs.size=none:=I.fresh;have I3:Inv X C σ (upd H s.heap.objs.size (.tup [x,y])) { s with heap:=h2 }:=by
   refine⟨B.ok,B.os,B.bare,?_,B.loc,B.cell,?_,λn c e=>?_,λp hp=>?_,λq u e=>?_,B.len⟩
   .refine⟨B.base.keep,B.base.slot,λq o e n hx=>?_,B.base.there,λq xs e=>?_,λq o u e=>?_,λq ps e=>?_⟩
    .have lt:q<X.s₀.heap.objs.size:=av e;rw[aU (aF (aI lt I.sz))];exact B.base.free q o e n hx
    .have l:=B.base.By q xs e;rw[aU (λz=>by rw[z,R]at l;cases l)];exact l
    .have l:=B.base.lT q o u e;rw[aU (λz=>by rw[z,R]at l;cases l)];exact l
    .obtain⟨more,l⟩:=B.base.BV q ps e;exact⟨more,by rw[aU (λz=>by rw[z,R]at l;cases l)];exact l⟩
   .rw[aU (aF I.lt)];exact B.free
   .obtain⟨vv,o,O,_⟩:=I.cell n c e;rw[aU (aF (av O))];exact B.ύ n c e
   .obtain⟨k1,k2,k3⟩:=I.pin p hp;rw[aU (aF (av k1))];exact B.pin p hp
   .by_cases j:q=s.heap.objs.size
    .subst j;rw[aq]at e;cases e;exact⟨by show 2<=sizeLine;decide,[xu,yu],.cons rx (.cons ry .nil),_,new,rfl,_,rfl⟩
    .rw[aU j]at e;refine(B.Β q u e).Bv (λ_ _ _ l=>l) (λU l=>?_) λU xs l=>?_
     .rw[aU (λz=>by rw[z,R]at l;cases l)];exact l
     .rw[aU (λz=>by rw[z,R]at l;cases l)];exact l
  refine⟨.ref s.heap.objs.size,_,I3,rfl,⟨_,x,y,R,rfl,rfl,λb8 q=>?_,λZc q=>?_⟩,⟨n1,al,⟨_,_,S.extBut _ _ D.a2 w2⟩,(gM a c X.prog X.w).atK _ _ _ _ w3 λo e=>S.extBut _ _ D.a3 e,(gM b d X.prog X.w).atK _ _ _ _ w4 λo e=>S.extBut _ _ D.a4 e⟩,λq j=>?_⟩
  .rw[<-I.aan s1 q];exact hx
  .rw[<-I.aan s2 q];exact hy
  .have ϕ:q<s.heap.objs.size:=by
    simp only[az,cW,or_false]at j;rcases j with rfl|rfl|rfl|rfl|rfl
    .exact av t1
    .exact av J
    .exact av L
    .exact let ⟨o,e,_⟩:=(gM a c X.prog X.w).obj _ _ _ M;av e
    .exact let ⟨o,e,_⟩:=(gM b d X.prog X.w).obj _ _ _ N;av e
   rw[aU (aF ϕ)];exact(G q j).1
 done:=λX e1 e2 e3 hc i C s σ H E I f t g=>by
  subst e1 e2 e3;obtain⟨t1,J,⟨u,v,L⟩,M,N⟩:=t;obtain⟨xs,ys,s1,s2,ai⟩:=g;obtain⟨us,r1,q1⟩:=I.sqX s1;obtain⟨vs,r2,q2⟩:=I.sqX s2;have G:∀q∈[z,TI,TO,i1,i2],kC X C H q:=f;have hh:X.A.handled=none:=I.ok.hd hc;have Y:s.TypeIs (.ref z) "zip":=⟨_,t1,rfl⟩;have bz:us.toArray[i]?=none\/vs.toArray[i]?=none:=by
   rcases ai with e|e
   .exact .inl (by have:=r1.length;simp;lia)
   .exact .inr (by have:=r2.length;simp;lia)
  unfold pyNext;refine ah (wpAny_attempt (wpAny_callSpecial?_slot (name:=Str.ofString "__next__") Y gC (fW gC Y F.entry_zip_next
   (HL (gM a c _ _) (gM b d _ _) hh D t1 J L M N q1 q2 bz λh' e hk he=>?_) (F.args_zip_next_1 _))))
  obtain⟨o,O,bv⟩:=he;refine ah (wpAny_isInstance (T:="StopIteration") (b:=true) ⟨o,O,bv⟩ isSubtype_stop (aD ⟨rfl,?_⟩));have kp:∀q o,q∉[z,TI,TO,i1,i2]->s.heap.get? q=some o->h'.get? q=some o:=λq o j e=>by
   simp only[az,cW,or_false,not_or]at j;exact hk q o j.1 j.2.2.1 j.2.2.2.1 j.2.2.2.2 e
  have Z:∀q u,H q=some u->q∉[z,TI,TO,i1,i2]:=λq u e j=>by rw[(G q j).1]at e;cases e
  refine I.step (g':=s.gens) (d':=s.drawn) (t':=s.toks) (ch:=[z,TI,TO,i1,i2]) (λq j=>⟨(G q j).2.2.2.1,(G q j).2.1,(G q j).2.2.2.2.1,(G q j).2.2.2.2.2⟩) (λq o _ _ j e _=>kp q o j e) (λq o _ _ j e _=>⟨o.slots,kp q o j e⟩) (λ_ _ _ _ n=>n)
   (λq o j e=>⟨o,kp q o j e⟩) (λ_ _ e=>e) (λ_ _ _ e=>e) (λq ps e=>⟨#[],by rw[e];simp⟩) (λm hm=>?_) (λq u e=>?_) I.bare
  .obtain⟨o,es,ep,O,r⟩:=hm;exact⟨o,es,ep,kp _ o (λj=>(G _ j).2.1 rfl) O,r⟩
  .refine(I.Β q u e).Bv (λU v Zk l=>kp U v ?_ l) (λ_ l=>l) λ_ _ l=>l;rcases Zk with rfl|Zk
   .exact Z _ u e
   .exact Z _ _ Zk
 self:=λA i s Q E t q=>wpAny_pyIter_zip t.1 q
theorem iI{a b:Nat}(h:a<b\/b<a):a≠b:=by lia
theorem Vk(n a b:Nat)(c:a<n)(d:b<n):ZAp (n+4) (n+2) (n+3) n (n+1) a b:=⟨iI (by lia),iI (by lia),iI (by lia),iI (by lia),iI (by lia),iI (by lia),iI (by lia),iI (by lia),iI (by lia),iI (by lia),⟨iI (by lia),iI (by lia),iI (by lia),iI (by lia)⟩,⟨iI (by lia),iI (by lia),iI (by lia),iI (by lia)⟩⟩
section
variable{X:Cx}
def Qm(K:fg)(c d:Bool)(i:TA):TI:=λj H R=>i j H λf e=>∃a b,f=[.ref a,.ref b]/\(∃g,bV K c e a g)/\(∃h,bV K d e b h)/\R (Itz K c d a b) e
theorem Vm{i:List Expr}{x1}{Zw:Pos}{ea eb:Expr}{ta:TA}{p pos:Pos}(c d:Bool)(hg:Gl X "zip")(hm:X.mg "zip"=none)(ha:PA X [ea,eb] ta)(hs:starEach [ea,eb] X.env=[(false,eval ea X.env),(false,eval eb X.env)]:=by rfl)(hs2:starEach [eb] X.env=[(false,eval eb X.env)]:=by rfl):PI X (.Tuple i x1 Zw) (.Call (.Name "zip" p) [ea,eb] [] pos) (Qm X.K c d ta):=by
 intro k s O H R I h;refine Call_ (pW I hg hm boot_zip (cD (pM (ha pos k s O H _ I h) λA f J G g o l=>?_) (by rw[hs,hs2]) (by rw[hs2];rfl)));obtain⟨a,b,e,⟨T,L⟩,⟨Q,M⟩,q⟩:=l;subst e;obtain⟨u,v,rfl,C,B⟩:=Tv o;cases C;cases B;obtain⟨A,o,l⟩:=g.sqX L;obtain⟨J,S,t⟩:=g.sqX M;obtain⟨V,n⟩:=pp a c _ _ l;obtain⟨U,m⟩:=pp b d _ _ t;have y:=av n;have z:=av m;refine RQ (gM a c) (gM b d) (pp b d) l t (λW r F N x P E=>?_) (ug a c) (ug b d);refine wpAny_pyIter_zip r ?_;have D:=Vk f.heap.objs.size a b y z;refine⟨_,[f.heap.objs.size+4,f.heap.objs.size+2,f.heap.objs.size+3,f.heap.objs.size,f.heap.objs.size+1],_,_,G,rfl,g.kept (t':=f.toks) E,Rr c d a b _ _ _ _ _ D,⟨r,F,⟨_,_,N⟩,x,P⟩,λq w=>?_,q⟩;have j:f.heap.objs.size<=q:=by
  simp only[az,cW,or_false]at w;rcases w with rfl|rfl|rfl|rfl|rfl
  .exact fU _ 4
  .exact fU _ 2
  .exact fU _ 3
  .exact aB _
  .exact fU _ 1
 exact g.abf j (g.Β.fresh j)
end
end L2
namespace Pb
structure Road where
 a:Int
 b:Int
 t:Int
 u:Int
 deriving DecidableEq
abbrev hD:=List Road
def Pf(m:Int)(c:hD):Prop:=∀S:Int->Prop,S 0->(∀r∈c,(S r.a↔S r.b))->∀v,0<=v->v<m->S v
structure aao(m:Int)(r:Road):Prop where
 a0:0<=r.a
 a1:r.a<m
 b0:0<=r.b
 b1:r.b<m
 ne:r.a≠r.b
 t0:2<=r.t
 t1:r.t<=1000000
 u0:2<=r.u
 u1:r.u<=1000000
structure Good(m:Int)(rs:hD):Prop where
 m1:1<=m
 Ϩ:m<=24
 len:(rs.length:Int)=m-1
 ok:∀r∈rs,aao m r
 jn:Pf m rs
theorem nP{b:Type}[DecidableEq b]:∀{l l':List b},l.Nodup->(∀x∈l,x∈l')->l.length<=l'.length
 | [],_,_,_=>bJ _
 | x::r,l',hn,hs=>by
   obtain⟨f,d⟩:=bn.mp hn;have c:x∈l':=hs x aR;have:r.length<=(l'.erase x).length:=nP d λy a=>(jS (λ(e:y=x)=>f (by rw[<-e];exact a))).mpr (hs y (aK _ a));rw[List.length_erase_of_mem c]at this;have g:0<l'.length:=List.length_pos_of_mem c;rw[aO]
   lia
def dE(n:Nat):List Int:=(List.range n).map λ(k:Nat)=>(k:Int)
theorem gv{n:Nat}{v:Int}:v∈dE n↔0<=v/\v<n:=by
 unfold dE;rw[bu]
 constructor
 .rintro⟨k,hk,rfl⟩;have:=cR.mp hk
  lia
 .rintro⟨h0,h1⟩;exact⟨v.toNat,cR.mpr (by lia),by lia⟩
theorem ip(n:Nat):(dE n).length=n:=by simp[dE]
theorem lZ(n:Nat):(dE n).Nodup:=by
 unfold dE;refine List.Pairwise.map _ (λa b h=>?_) (List.nodup_range (n:=n));intro e;exact h (by lia)
theorem fk{m:Int}{l:ej}(c:0<=m)(b:l.Nodup)(h:∀x∈l,0<=x/\x<m):(l.length:Int)<=m:=by
 have:=nP (l':=dE m.toNat) b λx a=>gv.mpr ⟨(h x a).1,by have:=(h x a).2;lia⟩;rw[ip]at this
 lia
theorem Rk{m:Int}{l:ej}(d:0<=m)(h:∀v,0<=v->v<m->v∈l):m<=(l.length:Int):=by
 have:=nP (l:=dE m.toNat) (l':=l) (lZ _) λx b=>by
  obtain⟨a,c⟩:=gv.mp b;exact h x a (by lia)
 rw[ip]at this
 lia
def qt(p:Int)(r:Road):List Int:=(if r.a=p then[r.b]else[])++(if r.b=p then[r.a]else[])
def eA(a:hD)(p:Int):List Int:=a.flatMap (qt p)
theorem nO{d:hD}{p e:Int}:e∈eA d p↔∃r∈d,(r.a=p/\r.b=e)\/(r.b=p/\r.a=e):=by
 unfold eA qt;rw[fV]
 constructor
 .rintro⟨r,hr,h⟩;refine⟨r,hr,?_⟩;rcases aV.mp h with h|h
  .by_cases c:r.a=p
   .rw[aj c]at h;exact .inl ⟨c,(ax.mp h).symm⟩
   .rw[ag c]at h;cases h
  .by_cases c:r.b=p
   .rw[aj c]at h;exact .inr ⟨c,(ax.mp h).symm⟩
   .rw[ag c]at h;cases h
 .rintro⟨r,hr,h⟩;refine⟨r,hr,aV.mpr ?_⟩;rcases h with⟨h1,h2⟩|⟨h1,h2⟩
  .exact .inl (by rw[aj h1,h2];exact ax.mpr rfl)
  .exact .inr (by rw[aj h1,h2];exact ax.mpr rfl)
theorem DL(e:hD)(p:Int):(eA e p).length<=2*e.length:=by
 unfold eA
 induction e with
 | nil=>simp
 | cons r e ih=>
   rw[cX,ao,aO];have:(qt p r).length<=2:=by
    unfold qt;rw[ao];by_cases c:r.a=p<;>by_cases d:r.b=p<;>simp[c,d]
   lia
theorem qi(a:hD)(r:Road)(p:Int):eA (a++[r]) p=eA a p++qt p r:=by
 unfold eA;rw[kJ];simp
def y0(c:List Int×List Int)(e:Int):List Int×List Int:=if e∈c.1 then c else(c.1++[e],c.2++[e])
structure aaN(m:Int)(rs:hD)(ks ws:ej):Prop where
 nd:ks.Nodup
 zero:0∈ks
 iS:∀k∈ks,0<=k/\k<m
 sub:∀w∈ws,w∈ks
 cl:∀k∈ks,k∉ws->∀e∈eA rs k,e∈ks
 wl:ws.length<=ks.length
theorem Me{l:ej}{e:Int}(h:l.Nodup)(c:e∉l):(l++[e]).Nodup:=by
 rw[fA];refine⟨h,by simp,λa f b d=>?_⟩;rw[ax.mp d];exact λz=>c (z▸f)
structure aap(m:Int)(rs:hD)(p:Int)(es ks ws ks0:ej)(n0:Nat):Prop where
 nd:ks.Nodup
 zero:0∈ks
 iS:∀k∈ks,0<=k/\k<m
 sub:∀w∈ws,w∈ks
 cl:∀k∈ks,k∉ws->k=p\/∀e∈eA rs k,e∈ks
 seen:∀e∈es,e∈ks
 pin:p∈ks
 mu:ks.length+n0=ks0.length+ws.length
 up:ks0.length<=ks.length
 wl:ws.length<=ks.length
theorem aap.start{m:Int}{d:hD}{a b:ej}{p:Int}(h:aaN m d a (b++[p])):aap m d p [] a b a b.length where
 nd:=h.nd
 zero:=h.zero
 iS:=h.iS
 sub:=λw c=>h.sub w (bi _ c)
 cl:=λk g c=>by
  by_cases e:k=p
  .exact .inl e
  .exact .inr (h.cl k g λz=>by
    rcases aV.mp z with z|z
    .exact c z
    .exact e (ax.mp z))
 seen:=λe f=>by cases f
 pin:=h.sub p (aE _ (ax.mpr rfl))
 mu:=rfl
 up:=aB _
 wl:=by have:=h.wl;rw[ao]at this;simp at this;lia
theorem aap.step{m:Int}{l:hD}{p:Int}{j f i b:ej}{n:Nat}{e:Int}(h:aap m l p j f i b n)(q:0<=e)(o:e<m):aap m l p (j++[e]) (y0 (f,i) e).1 (y0 (f,i) e).2 b n:=by
 unfold y0;by_cases c:e∈f
 .rw[aj c];refine⟨h.nd,h.zero,h.iS,h.sub,h.cl,λx a=>?_,h.pin,h.mu,h.up,h.wl⟩;rcases aV.mp a with z|z
  .exact h.seen x z
  .rw[ax.mp z];exact c
 .rw[ag c];dsimp only;refine⟨Me h.nd c,bi _ h.zero,λk g=>?_,λw d=>?_,λk g d=>?_,λx a=>?_,bi _ h.pin,?_,by have:=h.up;simp;lia,by have:=h.wl;simp;exact this⟩
  .rcases aV.mp g with z|z
   .exact h.iS k z
   .rw[ax.mp z];exact⟨q,o⟩
  .rcases aV.mp d with z|z
   .exact bi _ (h.sub w z)
   .exact aE _ z
  .rcases aV.mp g with z|z
   .rcases h.cl k z λy=>d (bi _ y)with y|y
    .exact .inl y
    .exact .inr λx a=>bi _ (y x a)
   .exact absurd (aE _ z) d
  .rcases aV.mp a with z|z
   .exact bi _ (h.seen x z)
   .exact aE _ z
  .have:=h.mu;simp only[ao,aO,cS]
   lia
theorem aap.done{m:Int}{a:hD}{p:Int}{c d b:ej}{g:Nat}(h:aap m a p (eA a p) c d b g):aaN m a c d where
 nd:=h.nd
 zero:=h.zero
 iS:=h.iS
 sub:=h.sub
 cl:=λk f e=>by
  rcases h.cl k f e with z|z
  .rw[z];exact h.seen
  .exact z
 wl:=h.wl
theorem aaN.start{m:Int}{c:hD}(d:1<=m):aaN m c [0] [0] where
 nd:=by simp
 zero:=by simp
 iS:=λk b=>by rw[ax.mp b];lia
 sub:=λw a=>a
 cl:=λk b a=>absurd b a
 wl:=by simp
theorem aaN.all{m:Int}{d:hD}{c:ej}(h:aaN m d c [])(f:1<=m)(j:Pf m d):(c.length:Int)=m:=by
 have up:=fk (by lia) h.nd h.iS;have:∀v,0<=v->v<m->v∈c:=j (λv=>v∈c) h.zero λr e=>by
  constructor
  .intro ha;exact h.cl r.a ha (by simp) r.b (nO.mpr ⟨r,e,.inl ⟨rfl,rfl⟩⟩)
  .intro hb;exact h.cl r.b hb (by simp) r.a (nO.mpr ⟨r,e,.inr ⟨rfl,rfl⟩⟩)
 have:=Rk (by lia) this
 lia
theorem Sr{m:Int}{a:hD}(h:∀r∈a,aao m r){p e:Int}(b:e∈eA a p):0<=e/\e<m:=by
 obtain⟨r,c,z⟩:=nO.mp b;have k:=h r c;rcases z with⟨_,rfl⟩|⟨_,rfl⟩
 .exact⟨k.b0,k.b1⟩
 .exact⟨k.a0,k.a1⟩
structure Row where
 k:Int
 un:Int
 t:Int
 u:Int
 sw:Int
 sp:Int
structure adP(r:Row):Prop where
 u0:0<=r.un
 u1:r.un<r.k
 t0:2<=r.t
 t1:r.t<=1000000
 v0:2<=r.u
 v1:r.u<=1000000
 s0:0<=r.sp
 s1:r.sp<r.k
structure Rows(n:Nat)(rows:List Row):Prop where
 len:rows.length=n
 ok:∀(i:Nat)(r:Row),rows[i]?=some r->r.k=(i:Int)+1/\adP r
structure ZN(n:Nat)(ls:ej):Prop where
 len:ls.length=n
 nd:ls.Nodup
 all:∀v:Int,0<=v->v<n->v∈ls
 iS:∀v∈ls,0<=v/\v<n
theorem xJ{a:Type}{l:List a}{k:Nat}{x y:a}:y∈l.take k++x::l.drop k↔y=x\/y∈l:=by
 rw[aV,az]
 constructor
 .rintro(h|h|h)
  .exact .inr (gu h)
  .exact .inl h
  .exact .inr (eP h)
 .rintro(h|h)
  .exact .inr (.inl h)
  .rw[<-f6 k l]at h;rcases aV.mp h with z|z
   .exact .inl z
   .exact .inr (.inr z)
def ny(a:ej)(r:Row):Road:=if r.sw=1 then⟨a.getD r.un.toNat 0,a.getD r.k.toNat 0,r.t,r.u⟩else⟨a.getD r.k.toNat 0,a.getD r.un.toNat 0,r.t,r.u⟩
structure Put(ls:ej)(rows:List Row)(rs:hD):Prop where
 len:rs.length=rows.length
 of:∀r∈rs,∃w∈rows,r=ny ls w
 to:∀w∈rows,ny ls w∈rs
theorem Put.nil(a:ej):Put a [] []:=⟨rfl,λr h=>(by cases h),λr h=>(by cases h)⟩
theorem Put.step{d:ej}{a:List Row}{b:hD}(h:Put d a b)(w:Row)(k:Nat):Put d (a++[w]) (b.take k++ny d w::b.drop k) where
 len:=by
  rw[ao,aO,bc,cz,ao,h.len];simp
  lia
 of:=λr g=>by
  rcases xJ.mp g with z|z
  .exact⟨w,by simp,z⟩
  .obtain⟨f,c,e⟩:=h.of r z;exact⟨f,bi _ c,e⟩
 to:=λf c=>by
  rw[xJ];rcases aV.mp c with z|z
  .exact .inr (h.to f z)
  .exact .inl (by rw[ax.mp z])
theorem vH{a:ej}{n:Nat}(h:ZN n a){i:Nat}(b:i<n):a[i]?=some (a.getD i 0):=by
 have:i<a.length:=by rw[h.len];exact b
 simp[List.getD,aG this]
theorem ES{a:ej}{n:Nat}(h:ZN n a){i:Nat}(b:i<n):a.getD i 0∈a:=bd (vH h b)
theorem Sg{a:ej}{n:Nat}(h:ZN n a){i j:Nat}(l:i<n)(f:j<n)(e:a.getD i 0=a.getD j 0):i=j:=by
 have b:i<a.length:=by rw[h.len];exact l
 have c:j<a.length:=by rw[h.len];exact f
 have d:=vH h l;have g:=vH h f;rw[e]at d;have k:a[i]'b=a[j]'c:=by
  rw[aG b]at d;rw[aG c]at g;exact bo (d.trans g.symm)
 have nd:=dq.mp h.nd;rcases Nat.lt_trichotomy i j with z|z|z
 .exact absurd k (nd i j b c z)
 .exact z
 .exact absurd k.symm (nd j i c b z)
theorem TF{n:Nat}{g:ej}{a:List Row}{u:hD}(s:1<=n)(D:n<=24)(L:ZN n g)(W:Rows (n-1) a)(P:Put g a u):Good n u where
 m1:=by lia
 Ϩ:=by lia
 len:=by rw[P.len,W.len];lia
 ok:=λr d=>by
  obtain⟨w,x,rfl⟩:=P.of r d;obtain⟨i,f⟩:=cU x;obtain⟨F,ok⟩:=W.ok i w f;have b:i<a.length:=(aH.mp f).1;rw[W.len]at b;have l:w.k.toNat<n:=by lia
  have o:w.un.toNat<n:=by have:=ok.u0;have:=ok.u1;lia
  have p:=L.iS _ (ES L l);have m:=L.iS _ (ES L o);have ne:g.getD w.k.toNat 0≠g.getD w.un.toNat 0:=λe=>by
   have:=Sg L l o e;have:=ok.u0;have:=ok.u1
   lia
  unfold ny;by_cases c:w.sw=1
  .rw[aj c];exact⟨m.1,m.2,p.1,p.2,ne.symm,ok.t0,ok.t1,ok.v0,ok.v1⟩
  .rw[ag c];exact⟨p.1,p.2,m.1,m.2,ne,ok.t0,ok.t1,ok.v0,ok.v1⟩
 jn:=by
  intro S s0 y;have h:∀i:Nat,i<n->(S (g.getD i 0)↔S (g.getD 0 0)):=by
   intro i
   induction i using Nat.strongRecOn with
   | ind i ih=>
     intro f;by_cases z:i=0
     .rw[z]
     .have b:i-1<a.length:=(by rw[W.len];lia);obtain⟨F,ok⟩:=W.ok (i-1) a[i-1] (aG b);have C:=P.to a[i-1] (eY b);have d:=y _ C;have l:(a[i-1]).k.toNat=i:=(by lia);have o:(a[i-1]).un.toNat<i:=(by have:=ok.u0;have:=ok.u1;lia);have t:=ih _ o (by lia);unfold ny at d;rw[l]at d;by_cases c:(a[i-1]).sw=1
      .rw[aj c]at d;exact d.symm.trans t
      .rw[ag c]at d;exact d.trans t
  have at_:∀v,0<=v->v<(n:Int)->∃i,i<n/\g.getD i 0=v:=λv q s=>by
   obtain⟨i,f⟩:=cU (L.all v q s);have b:i<n:=(by have:=(aH.mp f).1;rw[L.len]at this;exact this);refine⟨i,b,?_⟩;have:=vH L b;rw[f]at this;exact(bo this).symm
  intro v q B;obtain⟨i,f,rfl⟩:=at_ v q B;obtain⟨j,E,A⟩:=at_ 0 (by lia) (by lia);refine(h i f).mpr ((h j E).mp ?_);rw[A];exact s0
def Adj(c:hD)(a b:Int):Prop:=∃x∈c,(x.a=a/\x.b=b)\/(x.b=a/\x.a=b)
theorem Adj.symm{c:hD}{a b:Int}(h:Adj c a b):Adj c b a:=by
 obtain⟨x,d,h⟩:=h;rcases h with⟨h1,h2⟩|⟨h1,h2⟩
 .exact⟨x,d,.inr ⟨h2,h1⟩⟩
 .exact⟨x,d,.inl ⟨h2,h1⟩⟩
theorem F8{c:hD}{a b:Int}:b∈eA c a↔Adj c a b:=nO
theorem Good.adj{m:Int}{c:hD}(g:Good m c){a b:Int}(h:Adj c a b):(0<=a/\a<m)/\(0<=b/\b<m)/\a≠b:=by
 obtain⟨x,d,h⟩:=h;have k:=g.ok x d;rcases h with⟨h1,h2⟩|⟨h1,h2⟩
 .subst h1 h2;exact⟨⟨k.a0,k.a1⟩,⟨k.b0,k.b1⟩,k.ne⟩
 .subst h1 h2;exact⟨⟨k.b0,k.b1⟩,⟨k.a0,k.a1⟩,k.ne.symm⟩
theorem Good.from{m:Int}{d:hD}(g:Good m d){r:Int}(k:0<=r)(f:r<m)(S:Int->Prop)(j:S r)(e:∀x∈d,(S x.a↔S x.b)):∀v,0<=v->v<m->S v:=by
 have c:∀v,0<=v->v<m->(S v↔S 0):=g.jn (λv=>S v↔S 0) Iff.rfl λx i=>by
  have:=e x i;exact⟨λh=>this.symm.trans h,λh=>this.trans h⟩
 intro v a b;exact(c v a b).mpr ((c r k f).mp j)
inductive ZO(rs:hD)(r:Int):Nat->Int->Prop
 | zero:ZO rs r 0 r
 | step {n:Nat} {u v:Int}:ZO rs r n u->Adj rs u v->ZO rs r (n+1) v
theorem Xz{P:Nat->Prop}:∀n,P n->∃k,P k/\∀j,j<k->¬P j:=by
 intro n
 induction n using Nat.strongRecOn with
 | ind n ih=>
   intro h;by_cases z:∃j,j<n/\P j
   .obtain⟨j,b,a⟩:=z;exact ih j b a
   .exact⟨n,h,λj b a=>z ⟨j,b,a⟩⟩
structure Λ(m:Int)(rs:hD)(r:Int)(par:ek)(dep:ew):Prop where
 root:dep r=0
 up:∀v,0<=v->v<m->v≠r->(0<=par v/\par v<m)/\Adj rs v (par v)/\dep (par v)+1=dep v
 road:∀x∈rs,(x.a≠r/\par x.a=x.b)\/(x.b≠r/\par x.b=x.a)
 one:(rs.map λx=>if x.a≠r/\par x.a=x.b then x.a else x.b).Nodup
theorem Ub{n:Nat}{l:List Nat}(a:l.Nodup)(d:l.length=n)(b:∀x∈l,x<n):∀i,i<n->i∈l:=by
 intro i c;by_cases z:i∈l
 .exact z
 .have:=nP (l:=i::l) (l':=List.range n) (bn.mpr ⟨z,a⟩) λx hx=>by
   rcases az.mp hx with rfl|hx
   .exact cR.mpr c
   .exact cR.mpr (b x hx)
  rw[aO,List.length_range]at this
  lia
theorem C8{m:Int}{s:hD}(g:Good m s){r:Int}(X:0<=r)(h1:r<m):∃f o,Λ m s r f o:=by
 classical
 have H:∀v,0<=v->v<m->∃n,ZO s r n v:=g.from X h1 (λv=>∃n,ZO s r n v) ⟨0,.zero⟩ λx hx=>by
  constructor
  .rintro⟨n,d⟩;exact⟨n+1,d.step ⟨x,hx,.inl ⟨rfl,rfl⟩⟩⟩
  .rintro⟨n,d⟩;exact⟨n+1,d.step ⟨x,hx,.inr ⟨rfl,rfl⟩⟩⟩
 have hd:∀v,∃k,(0<=v/\v<m)->ZO s r k v/\∀j,j<k->¬ZO s r j v:=λv=>by
  by_cases z:0<=v/\v<m
  .obtain⟨n,d⟩:=H v z.1 z.2;obtain⟨k,h⟩:=Xz (P:=λk=>ZO s r k v) n d;exact⟨k,λ_=>h⟩
  .exact⟨0,λh=>absurd h z⟩
 obtain⟨o,D⟩:∃o:Int->Nat,∀v,0<=v->v<m->ZO s r (o v) v/\∀j,j<o v->¬ZO s r j v:=⟨λv=>(hd v).choose,λv a b=>(hd v).choose_spec ⟨a,b⟩⟩;have dr:o r=0:=by
  have:=(D r X h1).2 0;by_cases z:o r=0
  .exact z
  .exact absurd ZO.zero (this (by lia))
 have hp:∀v,∃u,(0<=v/\v<m/\v≠r)->Adj s v u/\o u+1=o v:=λv=>by
  by_cases z:0<=v/\v<m/\v≠r
  .obtain⟨a,b,c⟩:=z;obtain⟨d,dm⟩:=D v a b;generalize hk:o v=k at d dm;cases d with
   | zero=>exact absurd rfl c
   | @step n u _ d e=>
     refine⟨u,λ_=>⟨e.symm,?_⟩⟩;obtain⟨⟨u0,u1⟩,_⟩:=g.adj e;have l1:o u<=n:=by
      by_cases w:o u<=n
      .exact w
      .exact absurd d ((D u u0 u1).2 n (by lia))
     have l2:¬o u<n:=λw=>dm (o u+1) (by lia) ((D u u0 u1).1.step e)
     lia
  .exact⟨0,λh=>absurd h z⟩
 obtain⟨f,t⟩:∃f:Int->Int,∀v,0<=v->v<m->v≠r->Adj s v (f v)/\o (f v)+1=o v:=⟨λv=>(hp v).choose,λv a b c=>(hp v).choose_spec ⟨a,b,c⟩⟩;have hi:∀v,∃i:Nat,(0<=v/\v<m/\v≠r)->∃x,s[i]?=some x/\((x.a=v/\x.b=f v)\/(x.b=v/\x.a=f v)):=λv=>by
  by_cases z:0<=v/\v<m/\v≠r
  .obtain⟨x,hx,h⟩:=(t v z.1 z.2.1 z.2.2).1;obtain⟨i,e⟩:=cU hx;exact⟨i,λ_=>⟨x,e,h⟩⟩
  .exact⟨0,λh=>absurd h z⟩
 obtain⟨C,A⟩:∃C:Int->Nat,∀v,0<=v->v<m->v≠r->∃x,s[C v]?=some x/\((x.a=v/\x.b=f v)\/(x.b=v/\x.a=f v)):=⟨λv=>(hi v).choose,λv a b c=>(hi v).choose_spec ⟨a,b,c⟩⟩;have Z:∀v u,0<=v->v<m->v≠r->0<=u->u<m->u≠r->C v=C u->v=u:=by
  intro v u a b c N K J e;obtain⟨x,hx,h⟩:=A v a b c;obtain⟨y,T,h'⟩:=A u N K J;rw[e,T]at hx;cases hx;have U:=(t v a b c).2;have R:=(t u N K J).2;rcases h with⟨p,q⟩|⟨p,q⟩<;>rcases h' with⟨p',q'⟩|⟨p',q'⟩
  .exact p.symm.trans p'
  .exfalso
   have I:v=f u:=p.symm.trans q';have M:u=f v:=p'.symm.trans q;rw[<-I]at R;rw[<-M]at U
   lia
  .exfalso
   have I:v=f u:=p.symm.trans q';have M:u=f v:=p'.symm.trans q;rw[<-I]at R;rw[<-M]at U
   lia
  .exact p.symm.trans p'
 let E:List Int:=(dE m.toNat).filter λv=>decide (v≠r)
 have L:∀v,v∈E↔(0<=v/\v<m/\v≠r):=λv=>by
  rw[d9,gv,bZ]
  constructor
  .rintro⟨⟨a,b⟩,c⟩;exact⟨a,by lia,c⟩
  .rintro⟨a,b,c⟩;exact⟨⟨a,by lia⟩,c⟩
 have nv:E.Nodup:=(lZ _).filter _;have lv:E.length=s.length:=by
  have I:(r::E).length<=(dE m.toNat).length:=nP (bn.mpr ⟨λh=>((L r).mp h).2.2 rfl,nv⟩) λx hx=>by
   rcases az.mp hx with rfl|hx
   .exact gv.mpr ⟨X,by lia⟩
   .have:=(L x).mp hx;exact gv.mpr ⟨this.1,by lia⟩
  have M:(dE m.toNat).length<=(r::E).length:=nP (lZ _) λx hx=>by
   have:=gv.mp hx;by_cases z:x=r
   .rw[z];exact aR
   .exact aK _ ((L x).mpr ⟨this.1,by lia,z⟩)
  rw[ip,aO]at I M;have:=g.len;have:=g.m1
  lia
 have il:(E.map C).Nodup:=by
  have:∀(l:ej),l.Nodup->(∀v∈l,0<=v/\v<m/\v≠r)->(l.map C).Nodup:=by
   intro l
   induction l with
   | nil=>intro _ _;simp
   | cons v l ih=>
     intro hn Y;obtain⟨n1,n2⟩:=bn.mp hn;rw[ba];refine bn.mpr ⟨λz=>?_,ih n2 λu S=>Y u (aK _ S)⟩;obtain⟨u,S,e⟩:=bu.mp z;obtain⟨a,b,c⟩:=Y v aR;obtain⟨N,K,J⟩:=Y u (aK _ S);exact n1 (Z u v N K J a b c e▸S)
  exact this E nv λv G=>(L v).mp G
 have ib:∀i∈E.map C,i<s.length:=λi B=>by
  obtain⟨v,G,rfl⟩:=bu.mp B;obtain⟨a,b,c⟩:=(L v).mp G;obtain⟨x,hx,_⟩:=A v a b c;exact(aH.mp hx).1
 have V:=Ub il (by rw[am,lv]) ib;have F:∀i x,s[i]?=some x->∃v,(0<=v/\v<m/\v≠r)/\C v=i/\((x.a=v/\x.b=f v)\/(x.b=v/\x.a=f v)):=λi x e=>by
  obtain⟨v,G,rfl⟩:=bu.mp (V i (aH.mp e).1);obtain⟨a,b,c⟩:=(L v).mp G;obtain⟨y,T,h⟩:=A v a b c;rw[e]at T;cases T;exact⟨v,⟨a,b,c⟩,rfl,h⟩
 have W:∀v,0<=v->v<m->v≠r->f v≠r->f (f v)≠v:=λv a b c J z=>by
  have U:=t v a b c;obtain⟨_,⟨N,K⟩,_⟩:=g.adj U.1;have R:=t (f v) N K J;rw[z]at R
  lia
 have O:∀i x,s[i]?=some x->∃v,(0<=v/\v<m/\v≠r)/\C v=i/\(if x.a≠r/\f x.a=x.b then x.a else x.b)=v:=λi x e=>by
  obtain⟨v,⟨a,b,c⟩,G,h⟩:=F i x e;refine⟨v,⟨a,b,c⟩,G,?_⟩;rcases h with⟨p,q⟩|⟨p,q⟩
  .rw[aj ⟨by rw[p];exact c,by rw[p];exact q.symm⟩];exact p
  .rw[ag]
   .exact p
   .rintro⟨z1,z2⟩;rw[q]at z1 z2;exact W v a b c z1 (z2.trans p)
 refine⟨f,o,dr,λv a b c=>?_,λx hx=>?_,?_⟩
 .obtain⟨p,q⟩:=t v a b c;obtain⟨_,w,_⟩:=g.adj p;exact⟨w,p,q⟩
 .obtain⟨i,e⟩:=cU hx;obtain⟨v,⟨a,b,c⟩,_,h⟩:=F i x e;rcases h with⟨p,q⟩|⟨p,q⟩
  .exact .inl ⟨by rw[p];exact c,by rw[p];exact q.symm⟩
  .exact .inr ⟨by rw[p];exact c,by rw[p];exact q.symm⟩
 .refine dq.mpr λi j B Q lt=>?_;rw[am]at B Q;rw[gf,gf];intro z;obtain⟨v,_,I,k1⟩:=O i s[i] (aG B);obtain⟨u,_,M,k2⟩:=O j s[j] (aG Q);rw[k1,k2]at z;rw[z]at I
  lia
theorem Ju{m:Int}{n:hD}(g:Good m n){p:Int}(A:0<=p)(u:p<m):(eA n p).Nodup:=by
 obtain⟨f,v,R⟩:=C8 g A u;have one:=R.one;have ok:=g.ok;have road:=R.road;clear R g
 induction n with
 | nil=>simp[eA]
 | cons x l ih=>
   have t:=ok x aR;have s:∀y∈l,aao m y:=λy hy=>ok y (aK _ hy);rw[ba]at one;obtain⟨o,C⟩:=bn.mp one;have k:=ih C s λy hy=>road y (aK _ hy);have e:eA (x::l) p=qt p x++eA l p:=by unfold eA;rw[cX]
   rw[e];have i:∀y,aao m y->((y.a≠p/\f y.a=y.b)\/(y.b≠p/\f y.b=y.a))->(y.a=p->(if y.a≠p/\f y.a=y.b then y.a else y.b)=y.b)/\(y.b=p->(if y.a≠p/\f y.a=y.b then y.a else y.b)=y.a):=λy D hy=>by
    constructor
    .intro z;rw[ag (λw=>w.1 z)]
    .intro z;rcases hy with hy|hy
     .rw[aj hy]
     .exact absurd z hy.1
   have q:=i x t (road x aR);have j:∀e∈eA l p,e∈l.map λy=>if y.a≠p/\f y.a=y.b then y.a else y.b:=λe B=>by
    obtain⟨y,hy,h⟩:=nO.mp B;have r:=i y (s y hy) (road y (aK _ hy));refine bu.mpr ⟨y,hy,?_⟩;rcases h with⟨p1,q1⟩|⟨p1,q1⟩
    .rw[r.1 p1];exact q1
    .rw[r.2 p1];exact q1
   unfold qt;by_cases c:x.a=p
   .have d:¬x.b=p:=λz=>t.ne (c.trans z.symm);rw[aj c,ag d,cn];refine bn.mpr ⟨λz=>o ?_,k⟩;rw[q.1 c];exact j _ z
   .rw[ag c,jh];by_cases d:x.b=p
    .rw[aj d];refine bn.mpr ⟨λz=>o ?_,k⟩;rw[q.2 d];exact j _ z
    .rw[ag d];exact k
def jJ(m:Int)(a:hD)(p:Int):List Int:=(dE m.toNat).filter λq=>decide (q∈eA a p)
theorem Bp:∀{l c:ej},l.Perm c->l.Pairwise (·<=·)->c.Pairwise (·<=·)->l=c
 | [],c,p,_,_=>(List.Perm.nil_eq p)
 | a::l,c,p,h,h'=>by
   cases c with
   | nil=>exact absurd p.symm.nil_eq (by simp)
   | cons b r=>
     obtain⟨k,i⟩:=List.pairwise_cons.mp h;obtain⟨d,f⟩:=List.pairwise_cons.mp h';have e:a=b:=by
      have g:a∈b::r:=p.subset aR;have j:b∈a::l:=p.symm.subset aR;rcases az.mp g with z|z
      .exact z
      .rcases az.mp j with w|w
       .exact w.symm
       .have:=k b w;have:=d a z
        lia
     subst e;rw[Bp (List.Perm.cons_inv p) i f]
theorem FP(n:Nat):(dE n).Pairwise (·<=·):=by
 unfold dE;refine List.Pairwise.map _ (λa b (h:a<b)=>?_) List.pairwise_lt_range
 lia
theorem Hb(m:Int)(a:hD)(p:Int):(jJ m a p).Pairwise (·<=·):=(FP _).filter _
theorem yo(m:Int)(a:hD)(p:Int):(jJ m a p).Nodup:=(lZ _).filter _
theorem wJ{m:Int}{c:hD}(g:Good m c){p q:Int}:q∈jJ m c p↔Adj c p q:=by
 unfold jJ;rw[d9,bZ,F8,gv]
 constructor
 .exact λh=>h.2
 .intro h;obtain⟨_,⟨a,b⟩,_⟩:=g.adj h;exact⟨⟨a,by lia⟩,h⟩
theorem sW:∀{l c:ej},l.Nodup->c.Nodup->(∀x,x∈l↔x∈c)->l.Perm c
 | [],c,_,_,h=>by
   cases c with
   | nil=>exact .nil
   | cons b r=>exact absurd ((h b).mpr aR) (by simp)
 | a::l,c,n,n',h=>by
   obtain⟨e,f⟩:=bn.mp n;have d:a∈c:=(h a).mp aR;refine List.Perm.trans (List.Perm.cons a ?_) (List.perm_cons_erase d).symm;refine sW f (n'.erase a) λx=>?_
   constructor
   .intro hx;have ne:x≠a:=λz=>e (z▸hx);exact(jS ne).mpr ((h x).mp (aK _ hx))
   .intro hx;have:x≠a:=λz=>by
     subst z;exact(List.Nodup.not_mem_erase n') hx
    rcases az.mp ((h x).mpr (List.mem_of_mem_erase hx))with z|z
    .exact absurd z this
    .exact z
theorem UV{m:Int}{a:hD}(g:Good m a){p:Int}(f:0<=p)(e:p<m){b:ej}(c:b.Perm (eA a p))(d:b.Pairwise (·<=·)):b=jJ m a p:=by
 refine Bp (c.trans (sW (Ju g f e) (yo m a p) λx=>?_)) d (Hb m a p);rw[wJ g,F8]
def kL(a b:Int)(x:Road):Option Int:=if x.a=a/\x.b=b then some x.t else if x.a=b/\x.b=a then some x.u else none
def fE(c:hD)(a b:Int):Option Int:=c.findSome? (kL a b)
def vF(x:Road)(a b:Int):Prop:=(x.a=a/\x.b=b)\/(x.b=a/\x.a=b)
theorem Oi{m:Int}{c:hD}(g:Good m c){a b:Int}{i j:Nat}{x y:Road}(o:c[i]?=some x)(C:c[j]?=some y)(l:vF x a b)(B:vF y a b):i=j:=by
 obtain⟨⟨E,v⟩,_,_⟩:=g.adj (show Adj c a b from⟨x,bd o,l⟩);obtain⟨d,u,R⟩:=C8 g E v;have e:∀z∈c,vF z a b->(if z.a≠a/\d z.a=z.b then z.a else z.b)=b:=λz s t=>by
  rcases t with⟨p,q⟩|⟨p,q⟩
  .rw[ag (λw=>w.1 p)];exact q
  .rcases R.road z s with w|w
   .rw[aj w];exact q
   .exact absurd p w.1
 have h:=(aH.mp o);have f:=(aH.mp C);obtain⟨h,D⟩:=h;obtain⟨f,A⟩:=f;have k:=dq.mp R.one;have n:(c.map λz=>if z.a≠a/\d z.a=z.b then z.a else z.b)[i]'(by rw[am];exact h)=b:=by
  rw[gf];exact e _ (eY h) (D▸l)
 have r:(c.map λz=>if z.a≠a/\d z.a=z.b then z.a else z.b)[j]'(by rw[am];exact f)=b:=by
  rw[gf];exact e _ (eY f) (A▸B)
 rcases Nat.lt_trichotomy i j with z|z|z
 .exact absurd (n.trans r.symm) (k i j _ _ z)
 .exact z
 .exact absurd (r.trans n.symm) (k j i _ _ z)
theorem Mz{a b:Int}{x:Road}(h:¬vF x a b):kL a b x=none:=by
 unfold kL;rw[ag (λz=>h (.inl z)),ag (λz=>h (.inr ⟨z.2,z.1⟩))]
theorem BH{m:Int}{d:hD}(g:Good m d){a b:Int}{i:Nat}{x:Road}(l:d[i]?=some x)(j:vF x a b):fE d a b=kL a b x:=by
 have lt:=(aH.mp l);obtain⟨lt,s⟩:=lt;have e:d=d.take i++x::d.drop (i+1):=by rw[<-s,jA,f6]
 have f:fE (d.take i) a b=none:=by
  unfold fE;rw[List.findSome?_eq_none_iff];intro y o;refine Mz λr=>?_;obtain⟨k,h⟩:=cU o;have n:=(aH.mp h).1;rw[bc]at n;rw[fJ (by lia)]at h;have:=Oi g h l r j
  lia
 have p:(kL a b x).isSome=true:=by
  unfold kL;rcases j with z|z
  .rw[aj z];rfl
  .by_cases c:x.a=a/\x.b=b
   .rw[aj c];rfl
   .rw[ag c,aj ⟨z.2,z.1⟩];rfl
 obtain⟨v,q⟩:=d4.mp p;have:fE (d.take i++x::d.drop (i+1)) a b=kL a b x:=by
  unfold fE at f ⊢;rw[gq,f,gQ,q]
  rfl
 rw[<-e]at this;exact this
end Pb
namespace L2
open PySem PySem.Spec PyProof.Rows
def bC(c:Zu):Prop:=∀a H s e b,¬c a H s E0 e b
theorem j0{a:Zu}(q:bC a){X:Cx}:mh a X E0:=λ_ _ _ _ _ _ _ h=>(q _ _ _ _ _ h).elim
structure Df(K:fg)(mg:f5)(x:Str)(st:Stmt)(ps:gy)(f:Addr)(fd:FuncData):Prop where
 F:ϑ K x x st f fd
 m:mg x=some (.ref f)
 b:Binds K fd ps []
section
variable{P:Program}{w:World}{K:fg}{c:f5}{a:Heap}{b:Zu}
theorem ϑ.Ac{x e:Str}{st:Stmt}{f:Addr}{r:FuncData}{N o:gy}{k:Nat}{j:Sp}(F:ϑ K x e st f r)(S:ε N o (aw st))(n:∀g H Q E,j g H Q E->g.length=o.length)(m:∀(i:Value) (A:Around) (d:List Env) (s:Shared) (H:Hp) (g:List V) (Q:VK) (E:XK),Τ k (A.deeper (envOfC e (aw st) s.heap.objs.size f i))->j g H Q E->∃t,PSs (mS b P w K c a N e (aw st) f i A d s H E).nox (df st) t/\t { nx:=λ_ B=>Q .Θ B,rt:=Q } (start N g) H):υ P w K c a b (k+1) f r o j:=by
 obtain⟨G,I,kV,u,J,D,i,C,z,rfl,y,l⟩:=F.ex;refine To y l S n λA d s H g Q E v p=>?_;obtain⟨t,h,q⟩:=m i A d s H g Q E v p;exact⟨t,h.nox,q⟩
end
structure NmL(sc:Scope)(x:Str):Prop where
 l:sc.names.lookup x=some .local
 d:(x==("__debug__":Str))=false
 c:(x==("__classdict__":Str))=false
structure NmC(sc:Scope)(x:Str):Prop where
 l:sc.names.lookup x=some .cell
 d:(x==("__debug__":Str))=false
 c:(x==("__classdict__":Str))=false
structure iD(sc:Scope)(x:Str):Prop where
 g:sc.names.lookup x=some .globalImplicit
 d:(x==("__debug__":Str))=false
 n:x≠"__name__"
theorem us1{a:fy}(h:a.length=1):∃b,a=[b]:=List.length_eq_one_iff.mp h
theorem us2{a:fy}(h:a.length=2):∃c b,a=[c,b]:=by
 cases a with
 | nil=>cases h
 | cons c t=>
   obtain⟨b,e⟩:=us1 (kz h);subst e;exact⟨c,b,rfl⟩
theorem us3{a:fy}(h:a.length=3):∃d b c,a=[d,b,c]:=by
 cases a with
 | nil=>cases h
 | cons d t=>
   obtain⟨b,c,e⟩:=us2 (kz h);subst e;exact⟨d,b,c,rfl⟩
theorem us4{b:fy}(h:b.length=4):∃f c d a,b=[f,c,d,a]:=by
 cases b with
 | nil=>cases h
 | cons f t=>
   obtain⟨c,d,a,e⟩:=us3 (kz h);subst e;exact⟨f,c,d,a,rfl⟩
def nmL(a:Scope)(x:Str):Bool:=decide (a.names.lookup x=some .local)&&!(x==("__debug__":Str))&&!(x==("__classdict__":Str))
def nmC(a:Scope)(x:Str):Bool:=decide (a.names.lookup x=some .cell)&&!(x==("__debug__":Str))&&!(x==("__classdict__":Str))
def nmG(a:Scope)(x:Str):Bool:=decide (a.names.lookup x=some .globalImplicit)&&!(x==("__debug__":Str))&&!decide (x="__name__")
theorem NmL.of{a:Scope}{x:Str}(h:nmL a x=true):NmL a x:=by
 unfold nmL at h;simp only[aZ,bZ,fS]at h;exact⟨h.1.1,h.1.2,h.2⟩
theorem NmC.of{a:Scope}{x:Str}(h:nmC a x=true):NmC a x:=by
 unfold nmC at h;simp only[aZ,bZ,fS]at h;exact⟨h.1.1,h.1.2,h.2⟩
theorem iD.of{a:Scope}{x:Str}(h:nmG a x=true):iD a x:=by
 unfold nmG at h;simp only[aZ,bZ,fS,jb]at h;exact⟨h.1.1,h.1.2,h.2⟩
def Vh(N b:gy)(a:Scope):Bool:=decide (a.kind=.function)&&!a.isCoroutine&&!a.isGenerator&&decide N.Nodup&&decide (N.take b.length=b)&&(b.all λx=>decide (a.names.lookup x=some .local\/a.names.lookup x=some .cell))&&(a.names.all λy=>decide (y.2≠.free))
theorem ε.of{N a:gy}{b:Scope}(h:Vh N a b=true:=by kernel_rfl):ε N a b:=by
 unfold Vh at h;simp only[aZ,bZ,fS,bQ]at h;obtain⟨⟨⟨⟨⟨⟨d,i⟩,e⟩,j⟩,c⟩,f⟩,g⟩:=h;exact⟨d,i,e,j,c,f,g⟩
theorem pvl{X:Cx}(i:Nat){x:Str}{a:Pos}(n:NmL X.env.scope x)(b:X.N[i]?=some x:=by rfl):PE X (.Name x a) (u6 i):=CY b (.inl n.l) n.d n.c
theorem pvc{X:Cx}(i:Nat){x:Str}{a:Pos}(n:NmC X.env.scope x)(b:X.N[i]?=some x:=by rfl):PE X (.Name x a) (u6 i):=CY b (.inr (.inl n.l)) n.d n.c
theorem OS{e:Zu}{P:Program}{w:World}{K:fg}{g:f5}{c:Heap}{N:gy}{d:Str}{b:Scope}{f:Addr}{h:Value}{A:Around}{a:List Env}{s:Shared}{H:Hp}{E:XK}:(mS e P w K g c N d b f h A a s H E).K=K:=rfl
theorem BA(D:Ends)(a:St)(H:Hp):ach D a H=False:=rfl
theorem Uy(i j:Int):su (.int i) (.int j)=true:=rfl
theorem TC(i j:Bool):su (.bl i) (.bl j)=true:=rfl
theorem TJ(i:Int):su (.int i) .Θ=true:=rfl
theorem UF(i:Int):su .Θ (.int i)=true:=rfl
theorem UD:su .Θ .Θ=true:=rfl
theorem TQ(i j:Str):su (.str i) (.str j)=true:=rfl
theorem ZP{K:fg}{H:Hp}{p:Addr}{a:List V}{i:Int}{v:V}{Q:VK}(h:H p=some (.tup a))(e:ZE a i=some v)(q:Q v H):LF K (.ref p) (.int i) H Q:=⟨p,a,i,v,rfl,rfl,Ξ.of h,e,q⟩
theorem ϊ{K:fg}{H:Hp}{p:Addr}{a:List V}{i:Int}{v:V}{Q:VK}(h:H p=some (.lst a))(e:ZE a i=some v)(q:Q v H):Al K (.ref p) (.int i) H Q:=⟨p,a,i,v,rfl,rfl,Η.of h,e,q⟩
theorem ixS{K:fg}{H:Hp}{p:Addr}{a:List V}{i:Int}{v:V}{Q:VK}(h:Η K H p a)(e:ZE a i=some v)(q:Q v H):Al K (.ref p) (.int i) H Q:=⟨p,a,i,v,rfl,rfl,h,e,q⟩
theorem tyL{K:fg}{H:Hp}{l:Addr}{a:List V}(h:H l=some (.lst a)):tyV K "list" (.ref l) H:=.inl ⟨rfl,_,Η.of h⟩
theorem re{H:Hp}{l:Addr}{a:List V}{y:V}{Q:VK}(h:H l=some (.lst a))(b:a.length<sizeLine)(q:Q .Θ (upd H l (.lst (a++[y])))):aby (.ref l) [y] H Q:=⟨l,a,y,rfl,rfl,h,b,q⟩
theorem YU{H:Hp}{l:Addr}{a:List V}{i:Int}{y:V}{Q:VK}(h:H l=some (.lst a))(d:0<=i)(c:i<=a.length)(b:a.length<sizeLine)(q:Q .Θ (upd H l (.lst (a.take i.toNat++y::a.drop i.toNat)))):aal (.ref l) [.int i,y] H Q:=⟨l,a,i,y,rfl,rfl,h,d,c,b,q⟩
theorem Tj{H:Hp}{l:Addr}{a:List V}{y:V}{Q:VK}(h:H l=some (.lst (a++[y])))(q:Q y (upd H l (.lst a))):ahr (.ref l) [] H Q:=⟨l,a++[y],y,rfl,rfl,h,by simp,by rw[kf];exact q⟩
theorem gi{n:Nat}(h:n<=100000):n<sizeLine:=eu h (by decide)
theorem bj{n:Nat}(h:n<=100000):n<=sizeLine:=iG (gi h)
theorem jD{b:Type}{a:List b}{i:Int}{v:b}(c:0<=i)(h:a[i.toNat]?=some v):ZE a i=some v:=by
 obtain⟨n,rfl⟩:∃n:Nat,i=n:=⟨i.toNat,by lia⟩;exact Jf (by simpa using h)
theorem sD{X:Cx}{x:Str}{i:Int}{a:Pos}(b:Gl X x)(c:∃t,X.mg x=some (.int i t))(hd:(x==("__debug__":Str))=false:=by decide):PE X (.Name x a) (tC (.int i)):=by
 obtain⟨t,e⟩:=c;exact AD b e ⟨t,rfl⟩ hd
def Itx(K:fg):Bool->Addr->It
 | true,a=>Itl K a
 | false,a=>Itt K a
def Sj(K:fg)(c:Bool)(f:TE):TI:=λe H R=>f e H λx b=>∃a,x=.ref a/\(∃d,bV K c b a d)/\R (Itx K c a) b
theorem P7{X:Cx}{d l:Expr}{a:TE}(c:Bool)(b:PE X l a):PI X d l (Sj X.K c a):=by
 cases c
 .exact ut b
 .exact lB b
def rP(J:It)(p:Addr)(Q:VK)(g:TG)(o:TT)(q:TE)(h:St)(r:Hp):Prop:=∃W:Nat->Nat->List V->St->Hp->Prop,(∃m,W 0 m [] h r)/\∀i m c d f,W i m c d f->(J.stop i f/\Q (.ref p) f)\/(J.go i f/\∀x l,J.yld i f x l->g x d l λa n=>o a n λb j=>
 if b=true then q a j λy k=>k p=some (.lst c)/\c.length<sizeLine/\∃e,e<m/\W (i+1) e (c++[y]) a (upd k p (.lst (c++[y])))
 else ∃e,e<m/\W (i+1) e c a j)
theorem BI{a:Nat}{f:List Nat}{e:TI}{g:TG}{c:TT}{d:TE}{b:St}{H:Hp}{Q:VK}:xH a f e g c d b H Q=e b H λJ h=>∀p,h p=none->rP J p Q g c d (j5 a f b) (upd h p (.lst [])):=rfl
def qe(J:It)(D:Ends)(g:TG)(h:TS)(a:St)(H:Hp):Prop:=∃W:Nat->Nat->St->Hp->Prop,(∃m,W 0 m a H)/\∀i m a H,W i m a H->(J.stop i H/\D.nx a H)\/(J.go i H/\∃N:St->Hp->Prop,(∀c b,N c b->∃e,e<m/\W (i+1) e c b)/\∀x b,J.yld i H x b->g x a b λd f=>h { D with nx:=N,ct:=N,bk:=D.nx } d f)
theorem Je{c:TI}{g:TG}{b:TS}{D:Ends}{a:St}{H:Hp}:V2 c g b D a H=c a H λJ d=>qe J D g b a d:=rfl
theorem sH{K:fg}{c:Bool}{a p:Addr}{xs:List V}{Q:VK}{g:TG}{v:TT}{w:TE}{o:St}{A:Hp}(l:Nat->List V->St->Hp->Prop)(D:l 0 [] o A)(I:∀i d f H,i<=xs.length->l i d f H->bV K c H a xs)(F:∀(i:Nat) (x:V) (d:List V) (f:St) (H:Hp) (N:List V->St->Hp->Prop),(∀n h k,l (i+1) n h k->N n h k)->xs[i]?=some x->l i d f H->g x f H λj E=>v j E λb t=>
 if b=true then w j t λy u=>u p=some (.lst d)/\d.length<sizeLine/\N (d++[y]) j (upd u p (.lst (d++[y])))else N d j t)(B:∀d f H,l xs.length d f H->Q (.ref p) H):rP (Itx K c a) p Q g v w o A:=by
 refine⟨λi m d f H=>m=xs.length-i/\i<=xs.length/\l i d f H,⟨xs.length,by simp,bJ _,D⟩,?_⟩;rintro i m d f H ⟨rfl,G,pv⟩;have q:=I i d f H G pv;by_cases s:i<xs.length
 .refine .inr ⟨?_,λx k y=>?_⟩
  .cases c
   .exact⟨xs,xs[i],q,by simp[s]⟩
   .exact⟨xs,xs[i],q,by simp[s]⟩
  .have e:k=H/\xs[i]?=some x:=by
    cases c
    .exact⟨y.1,y.2 xs q⟩
    .exact⟨y.1,y.2 xs q⟩
   obtain⟨rfl,C⟩:=e;exact F i x d f _ (λn h k=>∃z,z<xs.length-i/\(z=xs.length-(i+1)/\i+1<=xs.length/\l (i+1) n h k)) (λn h k r=>⟨xs.length-(i+1),by lia,rfl,s,r⟩) C pv
 .have e:i=xs.length:=by lia
  subst e;refine .inl ⟨?_,B d f H pv⟩;cases c
  .exact⟨xs,q,aB _⟩
  .exact⟨xs,q,aB _⟩
theorem yL{lo:Int}{n:Nat}{p:Addr}{Q:VK}{g:TG}{t:TT}{u:TE}{l:St}{w:Hp}(j:Nat->List V->St->Hp->Prop)(A:j 0 [] l w)(C:∀(i:Nat) (a:List V) (f:St) (H:Hp) (N:List V->St->Hp->Prop),(∀k c h,j (i+1) k c h->N k c h)->i<n->j i a f H->g (.int (lo+i)) f H λd B=>t d B λb r=>
 if b=true then u d r λy s=>s p=some (.lst a)/\a.length<sizeLine/\N (a++[y]) d (upd s p (.lst (a++[y])))else N a d r)(z:∀a f H,j n a f H->Q (.ref p) H):rP (Itr lo n) p Q g t u l w:=by
 refine⟨λi m a f H=>m=n-i/\i<=n/\j i a f H,⟨n,by simp,bJ _,A⟩,?_⟩;rintro i m a f H ⟨rfl,D,pv⟩;by_cases q:i<n
 .refine .inr ⟨q,λx h y=>?_⟩;obtain⟨rfl,rfl⟩:=y;exact C i a f _ (λk c h=>∃v,v<n-i/\(v=n-(i+1)/\i+1<=n/\j (i+1) k c h)) (λk c h o=>⟨n-(i+1),by lia,rfl,q,o⟩) q pv
 .have e:i=n:=by lia
  subst e;exact .inl ⟨aB _,z a f H pv⟩
theorem Th:bootBuiltins "tuple"=some (.type "tuple"):=by decide +kernel
section
variable{X:Cx}{a b o e:Expr}{k:List Expr}{i m j:TE}{t:TA}{g d q:Pos}{f c:Str}{T n:String}{r:V->List V->Hp->VK->Prop}
theorem AL(K:fg)(h:X.K=K):jq X (.type "tuple") (λu H Q=>∃p s,u=[.ref p]/\((Η K H p s/\∀l,H l=none->Q (.ref l) (upd H l (.tup s)))\/(Ξ K H p s/\Q (.ref p) H))):=by subst h;exact gH
theorem QY(K:fg)(h:X.K=K):IxR X (Al K):=by subst h;exact bB
theorem Jd(K:fg)(h:X.K=K):IxR X (LF K):=by subst h;exact dQ
end
theorem xG{x:Str}{k:NameKind}:∀{l:List (Str×NameKind)},l.lookup x=some k->∃y,(y,k)∈l
 | [],h=>by simp at h
 | (n,j)::r,h=>by
   rw[bN]at h;cases q:x==n with
   | true=>
     rw[q]at h;cases h;exact⟨n,aR⟩
   | false=>
     rw[q]at h;obtain⟨y,a⟩:=xG h;exact⟨y,aK _ a⟩
theorem sJ{X:Cx}{Nc:gy}{a:Scope}(own:Nat)(f:∀y∈a.names,y.2≠.free)(g:∀y∈a.names,y.2≠.cell)(m:a.kind=.function)(o:∀y∈a.names,y.2=.local->a.names.lookup y.1=some .local)(r:Nc.length=own):ϓ X Nc own [] a [] where
 acn:=closureFor_none f
 kind:=m
 ZK:=g
 names:=o
 cells:=λx c h=>by cases h
 has:=λx h=>by
  have b:∀k,(relabel a X.env).names.lookup x=some k->k≠.cell/\k≠.free:=λk e=>by
   obtain⟨y,p⟩:=xG e;obtain⟨⟨n,s⟩,j,l⟩:=bu.mp p;have d:=f _ j;have t:=g _ j;have q:(s==NameKind.free)=false:=(by simpa using d);simp only[q,ee,ck,if_false]at l;cases l;exact⟨t,d⟩
  rcases h with h|h
  .exact absurd rfl (b _ h).1
  .exact absurd rfl (b _ h).2
 len:=by simpa using r
 outer:=λi x h=>by
  rw[dS (by lia)]at h;cases h
theorem Bz{K:fg}{a:Addr}{xs:List V}{g:TG}{h:TS}{D:Ends}{b:St}{H:Hp}(c:Nat->St->Hp->Prop)(l:c 0 b H)(o:∀i b H,i<=xs.length->c i b H->Η K H a xs)(n:∀(i:Nat) (x:V) (b:St) (H:Hp) (N:St->Hp->Prop),(∀d f,c (i+1) d f->N d f)->xs[i]?=some x->c i b H->g x b H λe m=>h { D with nx:=N,ct:=N,bk:=D.nx } e m)(j:∀b H,c xs.length b H->D.nx b H):qe (Itl K a) D g h b H:=R9 c l o (λi x b H k p=>n i x b H (c (i+1)) (λ_ _ z=>z) k p) j
theorem Fb{K:fg}{a:Addr}{xs:List V}{g:TG}{h:TS}{D:Ends}{b:St}{H:Hp}(c:Nat->St->Hp->Prop)(l:c 0 b H)(o:∀i b H,i<=xs.length->c i b H->Ξ K H a xs)(n:∀(i:Nat) (x:V) (b:St) (H:Hp) (N:St->Hp->Prop),(∀d f,c (i+1) d f->N d f)->xs[i]?=some x->c i b H->g x b H λe m=>h { D with nx:=N,ct:=N,bk:=D.nx } e m)(j:∀b H,c xs.length b H->D.nx b H):qe (Itt K a) D g h b H:=zp c l o (λi x b H k p=>n i x b H (c (i+1)) (λ_ _ z=>z) k p) j
theorem yk{lo:Int}{n:Nat}{g:TG}{f:TS}{D:Ends}{a:St}{H:Hp}(b:Nat->St->Hp->Prop)(j:b 0 a H)(l:∀(i:Nat) (a:St) (H:Hp) (N:St->Hp->Prop),(∀c e,b (i+1) c e->N c e)->i<n->b i a H->g (.int (lo+i)) a H λd k=>f { D with nx:=N,ct:=N,bk:=D.nx } d k)(h:∀a H,b n a H->D.nx a H):qe (Itr lo n) D g f a H:=Od b j (λi a H m p=>l i a H (b (i+1)) (λ_ _ z=>z) m p) h
theorem IJ{c:TT}{i:TS}{D:Ends}{e:St}{H:Hp}(W:Nat->St->Hp->Prop)(j:Nat)(l:W j e H)(m:∀(n:Nat) (e:St) (H:Hp) (N:St->Hp->Prop),(∀g a d,g<n->W g a d->N a d)->(∀a d,N a d->∃f,f<n/\W f a d)->W n e H->c e H λb h=>if b=true then ∃N:St->Hp->Prop,(∀a d,N a d->∃f,f<n/\W f a d)/\i { D with nx:=N,ct:=N,bk:=D.nx } e h else D.nx e h):Gc c i D e H:=⟨W,⟨j,l⟩,λn e H w=>m n e H (λa d=>∃f,f<n/\W f a d) (λg _ _ k o=>⟨g,k,o⟩) (λ_ _ z=>z) w⟩
open Pb
def pi(r:Road):List V:=[.int r.a,.int r.b,.int r.t,.int r.u]
abbrev ω(H:Hp):List Addr->List Road->Prop:=Paired λp r=>H p=some (.tup (pi r))
theorem ω.same{H c:Hp}(e:γ H c){b:fx}{a:hD}(h:ω H b a):ω c b a:=Paired.imp' (λp r q=>e p _ q) h
theorem ω.get{H:Hp}:∀{c:fx}{d:hD}{i:Nat}{x:V},ω H c d->(c.map V.ref)[i]?=some x->∃p r,x=.ref p/\c[i]?=some p/\d[i]?=some r/\H p=some (.tup (pi r))
 | _,_,i,x,.nil,e=>by simp at e
 | _,_,0,x,.cons (a:=p) (b:=r) h hs,e=>⟨p,r,by simpa using e.symm,by simp,by simp,h⟩
 | a::l1,_,i+1,x,.cons h hs,e=>by
   have g:(List.map V.ref l1)[i]?=some x:=by simpa using e
   obtain⟨p,r,l,k,j,f⟩:=ω.get hs g;exact⟨p,r,l,by simpa using k,by simpa using j,f⟩
theorem γ.tup{K:fg}{H b:Hp}{a:Addr}{xs:List V}(e:γ H b)(h:Ξ K H a xs):Ξ K b a xs:=by
 rcases h with(h|⟨o,h⟩)|h
 .exact .inl (.inl (e _ _ h))
 .exact .inl (.inr ⟨o,e _ _ h⟩)
 .exact .inr h
theorem γ.sqX{K:fg}{H d:Hp}{c:Bool}{a:Addr}{b:List V}(e:γ H d)(h:bV K c H a b):bV K c d a b:=by
 cases c
 .exact γ.tup e h
 .exact γ.seq e h
theorem γ.new{H:Hp}{p:Addr}(o:HO)(h:H p=none):γ H (upd H p o):=λb u e=>by rw[aU (cC e h)];exact e
end L2
namespace L2
open PySem PySem.Spec PyProof.Rows
abbrev bmV:List Value:=[.type "ValueError",.type "Exception",.type "BaseException",.type "object"]
structure acr(K:fg)(C:Addr):Prop where
 ty:PySem.W.typeIn K (.ref C)=some (.type "type")
 ga:PySem.W.findIn K (.ref C) "__getattribute__"=some (some (.builtin "BaseException.__getattribute__"))
 gt:PySem.W.findIn K (.ref C) "__getattr__"=some none
 cl:PySem.W.findIn K (.ref C) "__class__"=some (some (.builtin "object.__class__"))
 gs:PySem.W.specialIn K (.builtin "object.__class__") "__get__"=some (some (.builtin "getset_descriptor.__get__"))
 tk:PySem.W.takesIn K (.builtin "object.__class__")=some true
 mo:PySem.W.mroIn K C (.type "object")=some true
 mb:PySem.W.mroIn K C (.type "BaseException")=some true
 hd:PySem.W.hasDictIn K C=true
 sf:PySem.W.mroIn K C (.ref C)=some true
def mD(h:Heap)(d:Addr)(cls:Value)(e:Option Addr)(a:Value):Prop:=∃b c,h.get? d=some b/\b.cls=cls/\b.dict=e/\b.data=.fields c/\c[1]?=some a/\c[2]?=some .none
def TbO(h:Heap)(T:Addr)(c:Value):Prop:=∃a b,h.get? T=some a/\a.data=.fields b/\b[3]?=some c
structure Err(h:Heap)(ea T:Addr)(cls:Value)(od:Option Addr)(fl:Value):Prop where
 e:mD h ea cls od (.ref T)
 t:TbO h T fl
 ne:T≠ea
structure Kept(fs xs:fx)(h h':Heap):Prop where
 keep:∀b o,h.get? b=some o->b∉fs->b∉xs->h'.get? b=some o
 slot:∀b o,h.get? b=some o->b∈fs->b∉xs->∃sl,h'.get? b=some { o with slots:=sl }
 there:∀b o,h.get? b=some o->∃o',h'.get? b=some o'
theorem Kept.mono{c a d:fx}{h g:Heap}(k:Kept c a h g)(s:∀b∈a,b∈d):Kept c d h g:=⟨λb o e f x=>k.keep b o e f λz=>x (s b z),λb o e f x=>k.slot b o e f λz=>x (s b z),k.there⟩
theorem Kept.trans{g d:fx}{h j k:Heap}(a:Kept g d h j)(b:Kept g d j k):Kept g d h k where
 keep:=λc o e f x=>b.keep c o (a.keep c o e f x) f x
 slot:=λc o e f x=>by
  obtain⟨s1,i⟩:=a.slot c o e f x;obtain⟨l,n⟩:=b.slot c _ i f x;exact⟨l,n⟩
 there:=λc o e=>by
  obtain⟨m,i⟩:=a.there c o e;exact b.there c m i
theorem Kept.acs{d c:fx}{h a:Heap}(k:∀b o,h.get? b=some o->a.get? b=some o):Kept d c h a:=⟨λb o e _ _=>k b o e,λb o e _ _=>⟨o.slots,k b o e⟩,λb o e=>⟨o,k b o e⟩⟩
theorem pT{j d:fx}{h:Heap}{a:Addr}{f:Obj}{g:Array Value}{i:Nat}{v:Value}(m:h.get? a=some f)(k:f.data=.fields g)(l:a∈d):Kept j d h (h.update a (Obj.mapFields (·.setIfInBounds i v))):=by
 have c:∀b o,h.get? b=some o->b∉d->(h.update a (Obj.mapFields (·.setIfInBounds i v))).get? b=some o:=λb o e x=>by
  rw[bL _ _ (λ(z:a=b)=>x (z▸l))];exact e
 refine⟨λb o e _ x=>c b o e x,λb o e _ x=>⟨o.slots,c b o e x⟩,λb o e=>?_⟩;by_cases z:b=a
 .subst z;exact⟨_,cx _ m (de (cq k _))⟩
 .rw[bL _ _ (Ne.symm z)];exact⟨o,e⟩
theorem Qw{h:Heap}{b:Addr}{a l v:Value}{g:Option Addr}(e:mD h b a g l):mD (h.update b (Obj.mapFields (·.setIfInBounds 1 v))) b a g v:=by
 obtain⟨j,n,k,r,o,f,i,q⟩:=e;have p:1<n.size:=(cN.mp i).1;refine⟨_,_,cx _ k (de (cq f _)),?_,?_,cq f _,by simp[p],by rw[Array.getElem?_setIfInBounds_ne (by decide)];exact q⟩
 .rw[<-r];exact Obj.cls_mapFields _ _
 .rw[<-o];obtain⟨c,d,m,s⟩:=j;cases m<;>rfl
theorem o7{h:Heap}{c a:Addr}{b d:Value}{g:Option Addr}{f:Obj->Obj}(e:mD h c b g d)(ne:a≠c):mD (h.update a f) c b g d:=by
 obtain⟨j,i,k,l⟩:=e;exact⟨j,i,by rw[bL _ _ ne];exact k,l⟩
theorem BL{h c:Heap}{b:Addr}{a d:Value}{f:Option Addr}(e:mD h b a f d)(k:∀o,h.get? b=some o->c.get? b=some o):mD c b a f d:=by
 obtain⟨i,g,j,l⟩:=e;exact⟨i,g,k _ j,l⟩
theorem PF{h a:Heap}{d:Addr}{b k:Value}{m:Option Addr}{l:List Env}(e:mD h d b m k)(f:h.FunFrames a l):d∉ϗ l:=λz=>by
 obtain⟨p,g,j,_,_,n,_⟩:=e;obtain⟨_,o,c,i⟩:=f.mem z;rw[j]at c;cases c;exact i g n
theorem GN{h a:Heap}{T:Addr}{j:Value}{l:List Env}(e:TbO h T j)(f:h.FunFrames a l):T∉ϗ l:=λz=>by
 obtain⟨k,c,g,i,_⟩:=e;obtain⟨_,o,b,d⟩:=f.mem z;rw[g]at b;cases b;exact d c i
section
variable{M:Model}{A:Around}{E:eF}{s:Shared}{Q:Unit->Shared->Prop}{fs:fx}{i T L:Addr}{g l k:Value}{j:Option Addr}{base:Heap}{d:Env}{c:List Env}
theorem rD(r:Err s.heap i T g j l)(h:∀b,Err b i T g j .none->Kept fs [T] s.heap b->Q () { s with heap:=b }):wpAny M A (setFlight (.ref i) none) Q E s:=by
 obtain⟨⟨q,p,m,w,t,o,f,u⟩,⟨y,v,e,a,x⟩,ne⟩:=r;have n:3<v.size:=(cN.mp x).1;unfold setFlight;refine ah (bF m o f ?_);rw[aj (by simp:(Value.ref T != Value.none)=true)];refine dN e a n (h _ ⟨o7 ⟨q,p,m,w,t,o,f,u⟩ ne,⟨_,_,cx _ e (de (cq a _)),cq a _,by simp[n]⟩,ne⟩ (pT e a (by simp)))
theorem xz{m:Value}{u:Bool}(v:A.frames=some (d::c))(F:s.heap.FunFrames base (d::c))(J:d.frame=some L)(r:mD s.heap i g j k)(h:∀w y,Err w i y g j (rawInt L)->Kept (ϗ (d::c)) [i] s.heap w->s.heap.get? y=none->Q () { s with heap:=w }):wpAny M A (do let a <-frameOf d;let p <-entryPlaceOf L u;let b <-EntryCells.newEntry m a .none (rawInt L) .none p;setField (.ref i) 1 b) Q E s:=by
 have K:=PF r F;refine ah (wpAny_frameOf_fun v F J λn q=>ah (wpAny_entryPlaceOf λp N=>?_));unfold EntryCells.newEntry newFields;refine ah (dk ?_ (N.sizeOk5 _ _ _ _ _));have D:mD n i g j k:=BL r λo e=>(q.2.1 i K).trans e;generalize x:({ cls:=.type "traceback",dict:=none,data:=.fields ([m,.ref L,.none,rawInt L,.none]++(if p.isEmpty then List.replicate 6 Value.none else p)).toArray }:Obj)=t;have B:mD (n.push t) i g j k:=BL D λo e=>ak _ e;obtain⟨O,R,G,U,V,C,H,P⟩:=id B;have lt:i<n.objs.size:=by
  obtain⟨_,_,e,_⟩:=D;exact av e
 have I:(n.push t).get? n.objs.size=some t:=aL n (by rw[<-x];rfl);refine dN G C (cN.mp H).1 (h _ n.objs.size ⟨Qw B,⟨t,([m,.ref L,.none,rawInt L,.none]++(if p.isEmpty then List.replicate 6 Value.none else p)).toArray,?_,by rw[<-x],by simp⟩,eg lt⟩ ?_ ?_)
 .rw[bL _ _ (aF lt)];exact I
 .have k1:Kept (ϗ (d::c)) [i] s.heap n:=⟨λb o e f _=>(q.2.1 b f).trans e,λb o e _ _=>q.2.2 b o e,λb o e=>by
   obtain⟨S,z⟩:=q.2.2 b o e;exact⟨_,z⟩⟩
  exact k1.trans ((Kept.acs λb o e=>ak _ e).trans (pT G C (by simp)))
 .exact d0 (by rw[q.1];exact aB _)
theorem Sw(b:A.frames=some (d::c))(p:s.heap.FunFrames base (d::c))(e:d.frame=some L)(r:mD s.heap i g j .none)(h:∀a f,Err a i f g j (rawInt L)->Kept (ϗ (d::c)) [i] s.heap a->s.heap.get? f=none->Q () { s with heap:=a }):wpAny M A (noteFrame (.ref i) d) Q E s:=by
 obtain⟨t,q,o,u,w,n,m,v⟩:=id r;unfold noteFrame;simp only[e];refine ah (bF o n m ?_);rw[ag (by decide)];exact xz b p e r h
theorem zC(u:A.frames=some (d::c))(y:s.heap.FunFrames base (d::c))(w:d.frame=some L)(r:Err s.heap i T g j .none)(h:∀f a,Err f i a g j (rawInt L)->Kept (ϗ (d::c)) [i,T] s.heap f->s.heap.get? a=none->Q () { s with heap:=f }):wpAny M A (noteFrame (.ref i) d) Q E s:=by
 have P:=GN r.t y;obtain⟨⟨J,R,H,S,U,D,B,K⟩,⟨N,C,p,m,v⟩,ne⟩:=id r;unfold noteFrame;simp only[w];refine ah (bF H D B ?_);rw[aj (by simp:(Value.ref T != Value.none)=true)];refine ah (bF p m v ?_);rw[ag (by simp[rawInt])];have x:Kept (ϗ (d::c)) [i,T] s.heap (s.heap.update T (Obj.mapFields (·.setIfInBounds 3 Value.none))):=pT p m (by simp);refine ah (dN p m (cN.mp v).1 ?_);refine xz u (y.of_keeps λb o e F=>⟨o,?_,rfl⟩) w (o7 r.e ne) λf a I G n=>h f a I (x.trans (G.mono (by simp))) ?_
 .by_cases z:b=T
  .subst z;rw[p]at e;cases e;exact absurd m (F C)
  .rw[bL _ _ (Ne.symm z)];exact e
 .cases q:s.heap.get? a with
  | none=>rfl
  | some o=>
    obtain⟨O,z⟩:=x.there a o q;rw[z]at n;cases n
theorem Bj(m:A.frames=some (d::c))(B:s.heap.FunFrames base (d::c))(y:d.frame=some L)(r:mD s.heap i g j .none)(h:∀p t,Err p i t g j .none->Kept (ϗ (d::c)) [i] s.heap p->s.heap.get? t=none->Q () { s with heap:=p }):wpAny M A (leaving d (.ref i)) Q E s:=by
 unfold leaving;refine ah (Sw m B y r λw u z n a=>rD (fs:=ϗ (d::c)) (s:={ s with heap:=w }) z λF v q=>h F u v ⟨λb o e f x=>q.keep b o (n.keep b o e f x) f ?_,λb o e f x=>?_,λb o e=>?_⟩ a)
 .simp only[ax];rintro rfl;rw[a]at e;cases e
 .obtain⟨s1,e1⟩:=n.slot b o e f x;obtain⟨C,D⟩:=q.slot b _ e1 f (by
   simp only[ax];rintro rfl;rw[a]at e;cases e)
  exact⟨C,D⟩
 .obtain⟨o1,e1⟩:=n.there b o e;exact q.there b o1 e1
theorem Qg(m:A.frames=some (d::c))(B:s.heap.FunFrames base (d::c))(y:d.frame=some L)(r:Err s.heap i T g j .none)(h:∀p t,Err p i t g j .none->Kept (ϗ (d::c)) [i,T] s.heap p->s.heap.get? t=none->Q () { s with heap:=p }):wpAny M A (leaving d (.ref i)) Q E s:=by
 unfold leaving;refine ah (zC m B y r λw u z n a=>rD (fs:=ϗ (d::c)) (s:={ s with heap:=w }) z λF v q=>h F u v ⟨λb o e f x=>q.keep b o (n.keep b o e f x) f ?_,λb o e f x=>?_,λb o e=>?_⟩ a)
 .simp only[ax];rintro rfl;rw[a]at e;cases e
 .obtain⟨s1,e1⟩:=n.slot b o e f x;obtain⟨C,D⟩:=q.slot b _ e1 f (by
   simp only[ax];rintro rfl;rw[a]at e;cases e)
  exact⟨C,D⟩
 .obtain⟨o1,e1⟩:=n.there b o e;exact q.there b o1 e1
end
def ς(P:Program)(w:World):Zu:=λa H s E e c=>∃(f T:Addr)(b:Value)(g:Option Addr)(d:Hp),e=.ref f/\c.os=s.os/\AllBare c.gens/\Un (ϗ a) [] H d s.heap c.heap/\lE P w d c.heap/\d f=none/\d T=none/\s.heap.get? f=none/\s.heap.get? T=none/\Err c.heap f T b g .none/\E b g d
theorem bp{P:Program}{w:World}:bC (ς P w):=λa H s e b h=>by
 obtain⟨_,_,_,_,_,_,_,_,_,_,_,_,_,_,_,z⟩:=h;exact z
theorem pN{P:Program}{w:World}{H:Hp}{h g:Heap}{d c:fx}(x:lE P w H h)(k:Kept d c h g)(f:∀b∈d,H b=none)(u:∀b∈c,H b=none):lE P w H g:=λa o e=>by
 refine(x a o e).Bv (λb i hb q=>k.keep b i q ?_ ?_) (λ_ q=>q) λ_ _ q=>q
 .intro z;rcases hb with rfl|hb
  .rw[f _ z]at e;cases e
  .rw[f _ z]at hb;cases hb
 .intro z;rcases hb with rfl|hb
  .rw[u _ z]at e;cases e
  .rw[u _ z]at hb;cases hb
theorem qZ{P:Program}{w:World}{H:Hp}{h:Heap}{b:Addr}(x:lE P w H h)(n:h.get? b=none):H b=none:=by
 cases q:H b with
 | none=>rfl
 | some o=>
   have lt:=x.lt q;cases z:h.get? b with
   | some o'=>rw[z]at n;cases n
   | none=>
     exfalso
     have:=(x b o q);cases o with
     | lst xs=>obtain⟨_,_,_,_,e⟩:=this;rw[n]at e;cases e
     | tup xs=>obtain⟨_,_,_,a,e,_⟩:=this;rw[n]at e;cases e
     | dK ν=>obtain⟨_,_,_,_,a,_,_,e,_⟩:=this;rw[n]at e;cases e
     | dT ν=>obtain⟨_,_,_,_,a,_,_,e,_⟩:=this;rw[n]at e;cases e
     | set S m=>obtain⟨a,_,_,_,e,_⟩:=this;rw[n]at e;cases e
     | ins C dx fs=>obtain⟨_,_,_,e,_⟩:=this;rw[n]at e;cases e
     | own y=>obtain⟨_,e⟩:=this;rw[n]at e;cases e
     | xd fs=>obtain⟨_,⟨_,_,_,e,_⟩,_⟩:=this;rw[n]at e;cases e
     | iS lo hi=>obtain⟨_,_,_,e⟩:=this;rw[n]at e;cases e
     | frz a u=>obtain⟨e,_⟩:=this;rw[n]at e;cases e
     | tbl ps=>have e:h.get? b=some _:=this;rw[n]at e;cases e
     | met f y=>have e:h.get? b=some _:=this;rw[n]at e;cases e
     | ext φ=>obtain⟨_,⟨_,e⟩,_⟩:=this;rw[n]at e;cases e
section
variable{P:Program}{w:World}{K:fg}{i:f5}{base:Heap}{N:gy}{d:Str}{c:Scope}{f:Addr}{g:Value}{A:Around}{a:List Env}{s:Shared}{H:Hp}{E:XK}
theorem sy{y:Zu}{l:fv}{B:St}{t:Hp}{q:Shared}{u:Heap}{r:fx}(J:Inv (mS y P w K i base N d c f g A a s H E) l B t q)(k:Kept (ϗ (envOfC d c s.heap.objs.size f g::a)) r q.heap u)(v:∀b∈r,s.heap.get? b=none):Un (ϗ a) [] H t s.heap u:=by
 have h:Un (ϗ a) [] H t s.heap q.heap:=J.base;have nl:∀b o,s.heap.get? b=some o->b∉r:=λb o e z=>by rw[v b z]at e;cases e
 have x:∀b o,s.heap.get? b=some o->b∉ϗ a->b∉ϗ (envOfC d c s.heap.objs.size f g::a):=λb o e z m=>by
  unfold ϗ at m z;rw[ft]at m;have:(envOfC d c s.heap.objs.size f g).frame=some s.heap.objs.size:=rfl;rw[this]at m;rcases az.mp m with m|m
  .exact absurd (av e) (by rw[m];exact cA _)
  .exact z m
 refine⟨λb o e n p j=>k.keep b o (h.keep b o e n p j) (x b o e p) (nl b o e),λb o e n p j=>?_,h.free,λb o e j=>?_,h.By,h.lT,h.BV⟩
 .obtain⟨sl,e1⟩:=h.slot b o e n p j;by_cases m:b∈ϗ (envOfC d c s.heap.objs.size f g::a)
  .obtain⟨s2,e2⟩:=k.slot b _ e1 m (nl b o e);exact⟨s2,e2⟩
  .exact⟨sl,k.keep b _ e1 m (nl b o e)⟩
 .obtain⟨o1,e1⟩:=h.there b o e j;exact k.there b o1 e1
theorem lF{l:Zu}{h:fv}{m:St}{k:Hp}{j:Shared}(J:Inv (mS l P w K i base N d c f g A a s H E) h m k j){b:Addr}(n:j.heap.get? b=none):s.heap.get? b=none:=by
 cases q:s.heap.get? b with
 | none=>rfl
 | some o=>
   have p:Un (ϗ a) [] H k s.heap j.heap:=J.base;obtain⟨r,e⟩:=p.there b o q (by simp);rw[n]at e;cases e
theorem bq:mh (ς P w) (mS (ς P w) P w K i base N d c f g A a s H E) E:=by
 intro t O L F e G I h;obtain⟨v,T,m,y,r,rfl,os,bare,z,j,o,D,n,B,C,q⟩:=h;have J:=I.abv (ch:=[]) os z j bare (by simp);refine Qg (base:=base) J.ok.frames J.stack rfl C λM u l k p=>?_;have x:∀b∈ϗ (envOfC d c s.heap.objs.size f g::a),r b=none:=J.eQ;refine⟨v,u,m,y,r,rfl,J.os,J.bare,sy J k ?_,pN j k x ?_,o,qZ j p,lF I n,lF J p,l,q⟩
 .intro b hb;simp only[az,cm,or_false]at hb;rcases hb with rfl|rfl
  .exact lF I n
  .exact lF I B
 .intro b hb;simp only[az,cm,or_false]at hb;rcases hb with rfl|rfl
  .exact o
  .exact D
end
def Os(X:Cx)(E:XK):Prop:=∀(c:fv)(g:St)(H:Hp)(s:Shared)(e:Addr)(a:Value)(f:Option Addr)(d:Heap)(h:Nat),Inv X c g H s->(∀b o,s.heap.get? b=some o->d.get? b=some o)->s.heap.get? e=none->mD d e a f .none->E a f H->X.xe (.ref e) { s with heap:=d,toks:=h }
section
variable{P:Program}{w:World}{K:fg}{h:f5}{c:Heap}{N:gy}{e:Str}{d:Scope}{f:Addr}{g:Value}{A:Around}{a:List Env}{s:Shared}{H:Hp}{E:XK}
theorem nW:Os (mS (ς P w) P w K h c N e d f g A a s H E) E:=by
 intro o C m z t l v B r I y i x q;have J:=I.kept (t':=r) y;refine Bj (base:=c) J.ok.frames J.stack rfl x λD p j k n=>?_;have u:∀b∈ϗ (envOfC e d s.heap.objs.size f g::a),m b=none:=J.eQ;refine⟨t,p,l,v,m,rfl,J.os,J.bare,sy J k ?_,pN J.Β k u ?_,qZ I.Β i,qZ J.Β n,lF I i,lF J n,j,q⟩
 .intro b hb;rw[ax.mp hb];exact lF I i
 .intro b hb;rw[ax.mp hb];exact qZ I.Β i
end
def mW(K:fg)(C:Addr):Prop:=∃(k e:Str)(N:Addr)(h d:fy)(a:Bool)(l:gy)(c:fy)(o:Bool)(b:Option Bool)(m:Option Addr)(i f n g j:Option Value),K.lookup C=some (excClassObj k e C N h d a l c o b m i f n g j "ValueError.__new__")/\PySem.W.nsOkIn K N=true/\PySem.W.nsIn K N "__init__"=some none/\PySem.W.tailIn K bmV d=true
theorem Up{K:fg}{C:Addr}{o:Obj}(u j:Str)(N:Addr)(n h:fy)(d:Bool)(i:gy)(g:fy)(r:Bool)(f:Option Bool)(p:Option Addr)(s k q m t:Option Value)(l:K.lookup C=some o)(e:o=excClassObj u j C N n h d i g r f p s k q m t "ValueError.__new__")(a:PySem.W.nsOkIn K N=true)(b:PySem.W.nsIn K N "__init__"=some none)(c:PySem.W.tailIn K bmV h=true):mW K C:=by
 subst e;exact⟨_,_,_,_,_,_,_,_,_,_,_,_,_,_,_,_,l,a,b,c⟩
def P4(C:Addr)(E:XK)(t:TA):TS:=λ_ b H=>t b H λa c=>a.length<=sizeLine/\E (.ref C) none c
section
variable{X:Cx}{x:Str}{e c d:Pos}{b:Expr}{a:List Expr}{t:TA}{C:Addr}{E:XK}
theorem mG(q:mW X.K C)(y:X.calm=true)(M:Os X E)(S:Gl X x)(z:X.mg x=some (.ref C))(O:PA X (b::a) t)(hdb:(x==("__debug__":Str))=false:=by decide)(n:starEach (b::a) X.env=(false,eval b X.env)::starEach a X.env:=by rfl)(Q:(backTo c (starEach a X.env)).any (·.1)=false:=by rfl):PS X (.Raise (some (.Call (.Name x e) (b::a) [] c)) none d) (P4 C E t):=by
 intro f s o H D I h;obtain⟨nm,J,N,bs,bm,hdct,sn,sub,ab,col,dd,k0,k1,k2,k3,k5,r,p,u,R⟩:=q;have B:=I.mod.kin;have l:=gN B R;have P:X.base.Ns N (X.base.nsMap N):=.of_isNs (PySem.W.isNs_of_in B p);have F:(backTo c (starEach (b::a) X.env)).any (·.1)=false:=by
  rw[n];show(false||(backTo c (starEach a X.env)).any (·.1))=false;rw[Q]
  rfl
 refine wpAny_Raise_call_subT (C:=C) (nm:=nm) (q:=J) (N:=N) (bs:=bs) (bm:=bm) (hdct:=hdct) (sn:=sn) (sub:=sub) (ab:=ab) (col:=col) (dd:=dd) (k0:=k0) (k1:=k1) (k2:=k2) (k3:=k3) (k5:=k5) eZ
  (l.hasType (by decide +kernel)) (I.ok.hd y) F (PySem.W.nsMap_none_of_in B p u) (mQ I S z ⟨rfl,?_⟩ hdb)
 have g:=O c f s o H _ I h;rw[n]at g ⊢;refine fe (Ψ g λv k ⟨U,A,i,G,j⟩=>⟨rfl,by show v.length<=_;rw[<-G.length];exact j.1,i.bk _ _ (B _ _ r),P.keeps i.bk,l.keeps i.bk,λL w m=>?_⟩);obtain⟨V,T,_,_⟩:=m.there;exact M f o A k w (.ref C) none L k.toks i m.keeps m.new ⟨_,_,T,rfl,rfl,rfl,rfl,rfl⟩ j.2
end
def XP(CX:Zu)(X:Cx)(a:fv)(c:St)(E:XK)(e:Value)(b:Shared):Prop:=∃H s,Inv X a c H s/\CX X.stack H s E e b
def PEx(c:Zu)(X:Cx)(e:Expr)(t:XK->TE):Prop:=∀(E:XK)(a:fv)(s:Shared)(b:St)(H:Hp)(Q:VK),Inv X a b H s->t E b H Q->wpAny (model X.prog X.w) X.A (eval e X.env) (EP X a b Q) (XP c X a b E) s
abbrev XS(d:Zu)(X:Cx)(a:fv)(f:St->XK)(e:Value)(c:Shared):Prop:=∃b,XP d X a b (f b) e c
def PSx(d:Zu)(X:Cx)(st:Stmt)(t:(St->XK)->TS):Prop:=∀(c:St->XK)(a:fv)(s:Shared)(b:St)(H:Hp)(D:Ends),Inv X a b H s->t c D b H->wpAny (model X.prog X.w) X.A (exec st X.env) (SP X a D) (XS d X a c) s
def Wx(d:Zu)(X:Cx)(st:List Stmt)(t:(St->XK)->TS):Prop:=∀(c:St->XK)(a:fv)(s:Shared)(b:St)(H:Hp)(D:Ends),Inv X a b H s->t c D b H->wpAny (model X.prog X.w) X.A (execs st X.env) (SP X a D) (XS d X a c) s
section
variable{b:Zu}{X:Cx}{k:Nat}{f C:Addr}{m:FuncData}{i:gy}{j:Sp}{g:List V}{c:fy}{x:Str}{p a:Pos}{e:Expr}{d:List Expr}{G:TE}{t:TA}{l:Stmt}{L:List Stmt}{y:TS}{n B:(St->XK)->TS}{o:XK->TE}
theorem wK(F:υ X.prog X.w X.K X.mg X.base b k f m i j)(V:Τ k X.A)(hg:Gl X x)(Z:X.mg x=some (.ref f))(U:PySem.W.keepIn X.K (.ref f)=true)(hb:Binds X.K m i c)(Y:Vals g c)(ha:PA X.nox (e::d) t)(O:(x==("__debug__":Str))=false:=by decide)(he:starEach (e::d) X.env=(false,eval e X.env)::starEach d X.env:=by rfl)(gT:(backTo a (starEach d X.env)).any (·.1)=false:=by rfl):PEx b X (.Call (.Name x p) (e::d) [] a) (λE=>og j g E t):=by
 intro E M s σ H Q I h;refine eh (mQ I hg Z ?_ O);refine fu (h₀:=X.base) I.ok.mod.kin U (aX (ha a M s σ H _ (I.wish _) h) (λv N ⟨T,S,P,r,q⟩=>⟨P.Ϙ.ZD,?_⟩) λ_ _ z=>False.elim z) he gT;have J:=P.Ϙ;have R:Vals (T++g) (v++c):=r.append Y;have hl:(v++c).length=i.length:=by rw[<-R.length];exact F.len _ _ _ _ q
 refine fK (eW (F.run X.A X.stack N S ⟨v,[]⟩ (v++c) (T++g) Q E V J.ade (hb N v J.ZD hl) R q) λr s' D=>?_);cases r with
 | error e=>exact⟨S,N,J,D⟩
 | ok fl=>
   cases fl with
   | ret u=>exact J.after D
   | next=>exact False.elim D
   | brk=>exact False.elim D
   | cont=>exact False.elim D
theorem U3(F:PEx b X e o):PSx b X (.Return (some e) a) (λu D q H=>o (u q) q H D.rt):=by
 intro u r s q H D I h;exact wpAny_Return_some (aX (F (u q) r s q H _ I h) (λv K ⟨x,E,A,J,w⟩=>⟨x,q,E,A,J,w⟩) λe M z=>⟨q,z⟩)
theorem Rv(z:PSx b X l n):Wx b X [l] n:=by
 intro w r s u H D I h;refine iP (Ψ (z w r s u H D I h) λf A q=>?_);cases f with
 | next=>exact d8 q
 | ret v=>exact q
 | brk=>exact q
 | cont=>exact q
end
abbrev Cx.held(X:Cx)(e:Value):Cx:={ X with A:=X.A.mark (some e),calm:=false }
theorem Cx.Ok.held{X:Cx}(a:X.Ok)(e:Value):(X.held e).Ok:=⟨a.mod,a.kind,a.glob,a.blt,a.above,a.inj,a.has,a.cab,(λz=>nomatch z),a.frames,a.stk,a.exf,a.bs,a.bsz,a.aaI,a.ZI,a.Za,a.frf⟩
theorem Cx.Ok.abm{X:Cx}{e:Value}(a:(X.held e).Ok)(b:X.calm=true->X.A.handled=none):X.Ok:=⟨a.mod,a.kind,a.glob,a.blt,a.above,a.inj,a.has,a.cab,b,a.frames,a.stk,a.exf,a.bs,a.bsz,a.aaI,a.ZI,a.Za,a.frf⟩
section
variable{X:Cx}{a:fv}{g:St}{H:Hp}{s:Shared}
theorem Inv.held(I:Inv X a g H s)(e:Value):Inv (X.held e) a g H s:=⟨I.ok.held e,I.os,I.bare,I.base,I.loc,I.cell,I.free,I.ύ,I.pin,I.Β,I.len⟩
theorem Inv.abm{e:Value}(I:Inv (X.held e) a g H s)(b:X.calm=true->X.A.handled=none):Inv X a g H s:=⟨I.ok.abm b,I.os,I.bare,I.base,I.loc,I.cell,I.free,I.ύ,I.pin,I.Β,I.len⟩
theorem Inv.moved{B:fx}{D:Heap}{tk:Nat}(I:Inv X a g H s)(k:Kept (ϗ X.stack) B s.heap D)(t:∀b∈B,H b=none/\X.s₀.heap.get? b=none/\b≠X.env.locals/\(∀x c,X.env.cells.lookup x=some c->c≠b)/\∀p∈X.pn++a,p.1≠b):Inv X a g H { s with heap:=D,toks:=tk }:=by
 have A:∀b o,X.s₀.heap.get? b=some o->b∉B:=λb o e z=>by rw[(t b z).2.1]at e;cases e
 have K:∀b o,X.s₀.heap.get? b=some o->b≠X.env.locals:=λb o e z=>absurd (aI (av e) I.ok.above) (by rw[z];exact cA _);have j:∀b,b≠X.env.locals->b∉X.fs->b∉ϗ X.stack:=λb G L z=>(az.mp (I.aag b z)).elim G L;have h:∀b o,s.heap.get? b=some o->b∉B->∃E,D.get? b=some { o with slots:=E }:=λb o e z=>by
  by_cases f:b∈ϗ X.stack
  .exact k.slot b o e f z
  .exact⟨o.slots,k.keep b o e f z⟩
 have cells:∀x c v,X.env.cells.lookup x=some c->s.heap.IsCell c v->D.IsCell c v:=λx c v e ⟨o,F,N⟩=>by
  obtain⟨E,q⟩:=h c o F λz=>(t c z).2.2.2.1 x c e rfl;exact⟨_,q,N⟩
 refine⟨I.ok,I.os,I.bare,⟨λb o e n C w=>?_,λb o e n C w=>?_,I.base.free,λb o e w=>?_,I.base.By,I.base.lT,I.base.BV⟩,?_,λx c e=>?_,I.free,I.ύ,λp M=>?_,pN I.Β k I.eQ λb Q=>(t b Q).1,I.len⟩
 .exact k.keep b o (I.base.keep b o e n C w) (j b (K b o e) C) (A b o e)
 .obtain⟨E,y⟩:=I.base.slot b o e n C w;obtain⟨S,T⟩:=h b _ y (A b o e);exact⟨S,T⟩
 .obtain⟨o1,y⟩:=I.base.there b o e w;exact k.there b o1 y
 .obtain⟨m,⟨o,es,ep,F,r⟩,l⟩:=I.loc;obtain⟨E,y⟩:=h _ o F λz=>(t _ z).2.2.1 rfl;refine⟨m,⟨_,es,ep,y,r⟩,λi x v G L R=>?_⟩;obtain⟨u,O,J⟩:=l i x v G L R;refine⟨u,O,?_⟩;rcases J with J|⟨P,c,e,z⟩
  .exact .inl J
  .exact .inr ⟨P,c,e,cells x c _ e z⟩
 .obtain⟨v,z⟩:=I.cell x c e;exact⟨v,cells x c v e z⟩
 .obtain⟨e,n,ne,nf,d⟩:=I.pin p M;exact⟨k.keep p.1 p.2 e (j p.1 ne nf) λz=>(t p.1 z).2.2.2.2 p M rfl,n,ne,nf,d⟩
theorem Inv.young(I:Inv X a g H s){b:Addr}(n:s.heap.get? b=none):X.s₀.heap.get? b=none\/b∈X.ex:=by
 by_cases z:b∈X.ex
 .exact .inr z
 .refine .inl ?_;cases q:X.s₀.heap.get? b with
  | none=>rfl
  | some o=>
    obtain⟨c,e⟩:=I.base.there b o q z;rw[n]at e;cases e
theorem Inv.apart(I:Inv X a g H s){b:Addr}(n:s.heap.get? b=none):b≠X.env.locals/\(∀x c,X.env.cells.lookup x=some c->c≠b)/\∀p∈X.pn++a,p.1≠b:=by
 refine⟨?_,λx c e z=>?_,λp f z=>?_⟩
 .rintro rfl;obtain⟨m,⟨o,h,i,d,r⟩,_⟩:=I.loc;rw[n]at d;cases d
 .obtain⟨v,o,d,hd⟩:=I.cell x c e;rw[z,n]at d;cases d
 .obtain⟨e,_⟩:=I.pin p f;rw[z,n]at e;cases e
end
section
variable{K:fg}{C a:Addr}{x:Addr}{c:Obj}{d:Option Obj}{M:Model}{A:Around}{E:eF}{s:Shared}{b:Bool}{Q:Bool->Shared->Prop}
theorem Hy(X:K.In s.heap)(l:∃o,s.heap.get? x=some o/\o.cls=.ref C)(i:acr K a)(m:PySem.W.mroIn K C (.ref a)=some b)(h:Q b s):wpAny M A (excMatches (.ref x) (.ref a)) Q E s:=by
 obtain⟨o,j,n⟩:=l;obtain⟨f,g,G,t,os⟩:=s;have D:PySem.W.Looks M f (typeOf (.ref x)) (.ref C):=n▸(PySem.W.Looks.ld j).andThen .now;have z:=gK (M:=M) X m;have H:=gK (M:=M) X i.mb;have F:=PySem.W.looks_typeIn (M:=M) X i.ty;have w:PySem.W.Looks M f (isSubtype (.type "type") (.type "tuple")) false:=.of_pure tc_notTuple;obtain⟨B,e,_⟩:=iM i.hd;have u:PySem.W.Looks M f (isType (.ref a)) true:=by
  unfold PySem.W.clsIn at e;split at e
  .rename_i Z2
   intro y v r p k q;unfold isType loadHead;exact ah (wpAny_loadPart (k _ _ (X _ _ Z2)) (aD q))
  .cases e
 unfold excMatches isInstance isExcClass;cases b
 all_goals
  repeat lk
  exact h
end
structure Loose(X:Cx)(pins:fv)(H:Hp)(b:Addr):Prop where
 un:H b=none
 new:X.s₀.heap.get? b=none
 loc:b≠X.env.locals
 cel:∀x c,X.env.cells.lookup x=some c->c≠b
 pin:∀p∈X.pn++pins,p.1≠b
theorem Loose.all{X:Cx}{a:fv}{H:Hp}{b:Addr}(l:Loose X a H b):H b=none/\X.s₀.heap.get? b=none/\b≠X.env.locals/\(∀x c,X.env.cells.lookup x=some c->c≠b)/\∀p∈X.pn++a,p.1≠b:=⟨l.un,l.new,l.loc,l.cel,l.pin⟩
abbrev TH:=Ends->St->Value->Option Addr->Hp->Prop
def PHs(X:Cx)(f:List ExceptHandler)(g:TH):Prop:=∀(a:fv)(s:Shared)(d:St)(H:Hp)(D:Ends)(c T:Addr)(b:Value)(e:Option Addr),Inv X a d H s->Err s.heap c T b e .none->Loose X a H c->Loose X a H T->g D d b e H->wpAny (model X.prog X.w) X.A (handleBy (.ref c) X.env f) (SP X a D) X.xe s
def adq:TH:=λ_ _ _ _ _=>False
section
variable{X:Cx}{x n:Str}{g a:Pos}{i:Nat}{d:Addr}{k:Stmt}{c:List Stmt}{j:List ExceptHandler}{m:TS}{l:TH}
theorem Wm:PHs X [] adq:=λ_ _ _ _ _ _ _ _ _ _ _ _ _ h=>h.elim
def RL(p:(St->XK)->TS)(f:TH):TS:=λD h H=>p (λe b q o=>f D e b q o) D h H
theorem WY{r:List Stmt}{S:ExceptHandler}{U:List ExceptHandler}{V:(St->XK)->TS}{O:TH}(Q:X.ex=[])(E:X.stack=X.env::X.outer)(Z:X.env.frame=some X.env.locals)(A:Wx (ς X.prog X.w) X r V)(hh:PHs X (S::U) O):PS X (.Try r (S::U) [] [] a) (RL V O):=by
 intro o s σ H D I h;refine wpAny_Try_except (aX (A _ o s σ H D I h) (λf N q=>?_) λe B z=>?_)
 .cases f with
  | next=>exact d8 q
  | ret v=>exact q
  | brk=>exact q
  | cont=>exact q
 .obtain⟨σ1,H1,N,I1,ea,T,cls,od,H',rfl,os,bare,un,Β,n1,n2,f1,f2,er,q⟩:=z;have J:=I1.abv (ch:=[]) os un Β bare (by simp);have p:∀b,N.heap.get? b=none->H' b=none->Loose X o H' b:=λb z u=>by
   obtain⟨G,M,F⟩:=I1.apart z;refine⟨u,?_,G,M,F⟩;rcases I1.young z with y|y
   .exact y
   .rw[Q]at y;cases y
  have le:=p ea f1 n1;have lt:=p T f2 n2;have R:=J.ok.frames;have st:=J.stack;rw[E]at R st;refine zC R st Z er λY P L W t=>?_;rw[<-E]at W;have J2:Inv X o σ1 H' { B with heap:=Y }:=J.moved (tk:=B.toks) W λb A=>by
   simp only[az,cm,or_false]at A;rcases A with rfl|rfl
   .exact le.all
   .exact lt.all
  have C:Loose X o H' P:=by
   obtain⟨G,M,F⟩:=J.apart t;refine⟨qZ Β t,?_,G,M,F⟩;rcases J.young t with y|y
   .exact y
   .rw[Q]at y;cases y
  refine rD (fs:=ϗ X.stack) (s:={ B with heap:=Y }) L λh3 K k3=>?_;have J3:Inv X o σ1 H' { B with heap:=h3 }:=J2.moved (tk:=B.toks) k3 λb A=>by rw[ax.mp A];exact C.all
  exact hh o _ σ1 H' D ea P cls od J3 K le C q
end
def pX(a:List (Str×Addr)):List (Str×NameKind)->List (Str×Addr)->List (Str×Addr)
 | [],acc=>acc
 | (n,k)::r,acc=>if k==.free then pX a r ((n,(a.lookup n).getD 0)::acc)else pX a r acc
theorem ML{b:Scope}{d:Env}(h:∀y∈b.names,y.2=.free->(d.cells.lookup y.1).isSome=true):closureFor b d=pure (pX d.cells b.names []):=by
 have f:∀(l:List (Str×NameKind))(e:List (Str×Addr)),(∀y∈l,y.2=.free->(d.cells.lookup y.1).isSome=true)->(forIn l e λ(y:Str×NameKind)(c:List (Str×Addr))=>(if y.2==NameKind.free then do let a <-cellOf d y.1;pure (ForInStep.yield ((y.1,a)::c))else pure (ForInStep.yield c):Sem (ForInStep (List (Str×Addr)))))=(pure (pX d.cells l e):Sem (List (Str×Addr))):=by
  intro l
  induction l with
  | nil=>intro e _;rfl
  | cons y l ih=>
    obtain⟨n,k⟩:=y;intro e g;have o:=g (n,k) aR;have i:∀y∈l,y.2=.free->(d.cells.lookup y.1).isSome=true:=λy m=>g y (aK _ m);rw[jK];unfold pX;cases q:k==NameKind.free with
    | false=>
      simp only[ck,if_false,pure_bind];exact ih e i
    | true=>
      obtain⟨c,j⟩:=d4.mp (o (by simpa using q));dsimp only at j;simp only[if_true,cellOf,j,pure_bind,Option.getD_some];exact ih _ i
 have:=f b.names [] h;unfold closureFor;simp only[bind_pure];exact this
theorem xf{b:List (Str×Addr)}{x:Str}{c:Addr}:∀{l:List (Str×NameKind)}{e:List (Str×Addr)},(∀y∈l,y.2=.free->(b.lookup y.1).isSome=true)->(∀x c,e.lookup x=some c->b.lookup x=some c)->(pX b l e).lookup x=some c->b.lookup x=some c
 | [],e,_,h2,h3=>h2 x c h3
 | (n,k)::r,e,h1,h2,h3=>by
   have g:∀y∈r,y.2=.free->(b.lookup y.1).isSome=true:=λy f=>h1 y (aK _ f);unfold pX at h3;cases q:k==NameKind.free with
   | false=>
     rw[q]at h3;exact xf g h2 (by simpa using h3)
   | true=>
     rw[q]at h3;simp only[if_true]at h3;obtain⟨a,h⟩:=d4.mp (h1 (n,k) aR (by simpa using q));dsimp only at h;rw[h]at h3;refine xf g (λy d f=>?_) h3;rw[bN]at f;cases z:y==n with
     | true=>
       rw[z]at f;cases f;rw[eq_of_beq z];exact h
     | false=>
       rw[z]at f;exact h2 y d f
theorem wO{a:List (Str×Addr)}{x:Str}:∀{l:List (Str×NameKind)}{b:List (Str×Addr)},((∃c,b.lookup x=some c)\/(x,NameKind.free)∈l)->∃c,(pX a l b).lookup x=some c
 | [],b,h=>by
   rcases h with h|h
   .exact h
   .cases h
 | (n,k)::r,b,h=>by
   unfold pX;cases q:k==NameKind.free with
   | false=>
     simp only[ck,if_false];refine wO ?_;rcases h with h|h
     .exact .inl h
     .rcases az.mp h with z|z
      .cases z;simp at q
      .exact .inr z
   | true=>
     simp only[if_true];refine wO ?_;by_cases z:x=n
     .subst z;exact .inl ⟨(a.lookup x).getD 0,by rw[bN];simp⟩
     .rcases h with⟨c,h⟩|h
      .refine .inl ⟨c,?_⟩;rw[bN];have:(x==n)=false:=(by simpa using z);rw[this];exact h
      .rcases az.mp h with y|y
       .cases y;exact absurd rfl z
       .exact .inr y
theorem nY{env:Env}{x:Str}{k:NameKind}:∀{l:List (Str×NameKind)},l.lookup x=some k->(l.map λ(n,k)=>if(k==NameKind.free&&env.scope.kind==.function&&env.kindOf n==some .cell)then(n,NameKind.cell)else(n,k)).lookup x=some (if(k==NameKind.free&&env.scope.kind==.function&&env.kindOf x==some .cell)then NameKind.cell else k)
 | [],h=>by simp at h
 | (n,j)::r,h=>by
   have a:=@nY env x k r;rw[ba];rw[bN]at h;cases z:x==n with
   | true=>
     rw[z]at h;cases h;have e:=eq_of_beq z;subst e;by_cases q:(k==NameKind.free&&env.scope.kind==.function&&env.kindOf x==some .cell)=true
     .simp only[q,if_true,bN,z]
     .simp only[q,if_false,bN,z,ck]
   | false=>
     rw[z]at h;dsimp only;by_cases q:(j==NameKind.free&&env.scope.kind==.function&&env.kindOf n==some .cell)=true
     .rw[aj q,bN,z];exact a h
     .rw[ag q,bN,z];exact a h
theorem Uq{X:Cx}{d:gy}{scope:Scope}(a:Nat)(b:List Nat)(o:∀y∈scope.names,y.2≠.cell)(u:scope.kind=.function)(A:∀y∈scope.names,y.2=.local->scope.names.lookup y.1=some .local)(E:d.length=a+b.length)(g:∀y∈scope.names,y.2=.free->X.env.scope.names.lookup y.1=some .cell)(B:X.env.scope.kind=.function)(D:∀x,X.env.scope.names.lookup x=some .cell->∃c,X.env.cells.lookup x=some c)(v:∀i,i<b.length->∃x j,d[a+i]?=some x/\b[i]?=some j/\X.N[j]?=some x/\scope.names.lookup x=some .free):ϓ X d a b scope (pX X.env.cells scope.names []):=by
 have p:∀y∈scope.names,y.2=.free->(X.env.cells.lookup y.1).isSome=true:=λy C e=>by
  obtain⟨c,q⟩:=D _ (g y C e);rw[q]
  rfl
 have f:∀x,scope.names.lookup x=some .free->X.env.scope.names.lookup x=some .cell:=λx h=>g (x,.free) (cG h) rfl;refine⟨ML p,u,o,A,λx c h=>xf p (λx c z=>by simp at z) h,λx h=>?_,E,λi x h=>?_⟩
 .cases q:scope.names.lookup x with
  | none=>
    exfalso
    have:(relabel scope X.env).names.lookup x=none:=by
     unfold relabel;dsimp only
     revert q
     generalize scope.names=l
     induction l with
     | nil=>intro _;rfl
     | cons y l ih=>
       obtain⟨n,k⟩:=y;intro q;rw[bN]at q;cases z:x==n with
       | true=>rw[z]at q;cases q
       | false=>
         rw[z]at q;rw[ba];dsimp only;by_cases w:(k==NameKind.free&&X.env.scope.kind==.function&&X.env.kindOf n==some .cell)=true
         .rw[aj w,bN,z];exact ih q
         .rw[ag w,bN,z];exact ih q
    rw[this]at h;rcases h with h|h<;>cases h
  | some k=>
    have r:(relabel scope X.env).names.lookup x=some _:=nY (env:=X.env) q;cases k with
    | free=>exact wO (.inr (cG q))
    | cell=>exact absurd rfl (o _ (cG q))
    | _=>
      rw[r]at h;simp at h
 .have hi:i<b.length:=by
   have:=(aH.mp h).1
   lia
  obtain⟨y,j,s,F,G,m⟩:=v i hi;rw[h]at s;cases s;have t:=f x m;refine⟨j,F,G,t,?_⟩;have r:(relabel scope X.env).names.lookup x=some _:=nY (env:=X.env) m;rw[r];have:X.env.kindOf x=some .cell:=t;rw[this,B]
  rfl
theorem IP:∀{a:ej}{b:fy},Vals (a.map V.int) b->IntsAre b a
 | [],_,h=>by cases h;exact .nil
 | n::a,_,h=>by
   cases h with
   | cons r t=>
     obtain⟨k,rfl⟩:=(show ∃t,_=Value.int n t from r);exact .cons n k (IP t)
theorem Ip:∀{b:ej}{a:fy},IntsAre a b->Vals (b.map V.int) a
 | _,_,.nil=>.nil
 | _,_,.cons n t r=>.cons ⟨t,rfl⟩ (Ip r)
section
variable{X:Cx}
theorem Ht:jq X (.builtin "sorted") (λg H Q=>∃(p:Addr)(f:ej),g=[.ref p]/\Η X.K H p (f.map V.int)/\f.length<64/\∀(l:Addr)(c:ej),H l=none->c.Perm f->c.Pairwise (·<=·)->Q (.ref l) (upd H l (.lst (c.map V.int)))):=by
 intro k s F H g D Q I r h;obtain⟨p,f,rfl,x,B,q⟩:=h;obtain⟨u,rfl,t⟩:=my r;cases t;obtain⟨y,n,C,E⟩:=I.list x;have i:=IP n;have G:=IntsAre.length i;refine sorted_ints C.isList i (by lia) λd c w j m=>?_;obtain⟨e,z⟩:=sortedAll_at s.heap y d;have v:H (s.heap.objs.size+1)=none:=I.Β.fresh (dC _);have A:c.length=f.length:=j.length_eq;refine⟨.ref (s.heap.objs.size+1),_,I.laid (a:=s.heap.objs.size+1) (o:=.lst (c.map V.int)) (t':=s.toks) (λb o e=>sortedAll_old e) (dC _) ⟨?_,d.toList,e,Ip w,?_⟩,rfl,q _ c v j m⟩
 .rw[am,A];exact bj (by lia)
 .exact z
end
theorem TD{K:fg}{C T:Addr}{i:Value}{f:Option Addr}{e:ClassData}{g:Array (Option Value)}(h:K.lookup C=some ⟨i,f,.cls e,g⟩)(m:e.mro=.ref C::.ref T::bmV)(c:Addr):PySem.W.mroIn K C (.ref c)=some (decide (c=C)||decide (c=T)):=by
 unfold PySem.W.mroIn PySem.W.clsIn;rw[h];simp only[iT,m,List.isEmpty_cons,ck,if_false]
 congr 1
 by_cases d:c=C
 .subst d;simp
 .by_cases h2:c=T
  .subst h2;simp
  .have a:(Value.ref c==Value.ref C)=false:=(by simpa using d);have b:(Value.ref c==Value.ref T)=false:=(by simpa using h2);simp[cQ,a,b,d,h2]
structure aT(K:fg)(T C:Addr):Prop where
 x:acr K C
 mr:∀C',PySem.W.mroIn K C (.ref C')=some (decide (C'=C)||decide (C'=T))
 mv:PySem.W.mroIn K C (.type "ValueError")=some true
theorem zm{K:fg}{C:Addr}{e:Value}{c:Option Addr}{a:ClassData}{d:Array (Option Value)}{r:fy}(h:K.lookup C=some ⟨e,c,.cls a,d⟩)(m:a.mro=.ref C::r){v:Value}(b:(Value.ref C::r).contains v=true):PySem.W.mroIn K C v=some true:=by
 unfold PySem.W.mroIn PySem.W.clsIn;rw[h];simp only[iT,m,List.isEmpty_cons,ck,if_false,b]
section
variable{K:fg}{T C:Addr}{g:Value}{e:Option Addr}{d:ClassData}{f:Array (Option Value)}
theorem Jb{r:fy}(n:PySem.W.typeIn K (.ref C)=some (.type "type"))(l:PySem.W.findIn K (.ref C) "__getattribute__"=some (some (.builtin "BaseException.__getattribute__")))(i:PySem.W.findIn K (.ref C) "__getattr__"=some none)(o:PySem.W.findIn K (.ref C) "__class__"=some (some (.builtin "object.__class__")))(c:PySem.W.specialIn K (.builtin "object.__class__") "__get__"=some (some (.builtin "getset_descriptor.__get__")))(j:PySem.W.takesIn K (.builtin "object.__class__")=some true)(k:PySem.W.hasDictIn K C=true)(h:K.lookup C=some ⟨g,e,.cls d,f⟩)(m:d.mro=.ref C::r)(a:r.contains (.type "object")=true)(b:r.contains (.type "BaseException")=true):acr K C:=⟨n,l,i,o,c,j,zm h m (by rw[cQ,a,ja]),zm h m (by rw[cQ,b,ja]),k,zm h m (by simp)⟩
structure aeM(K:fg)(T:Addr):Prop where
 x:acr K T
theorem T9(k:PySem.W.typeIn K (.ref C)=some (.type "type"))(j:PySem.W.findIn K (.ref C) "__getattribute__"=some (some (.builtin "BaseException.__getattribute__")))(b:PySem.W.findIn K (.ref C) "__getattr__"=some none)(l:PySem.W.findIn K (.ref C) "__class__"=some (some (.builtin "object.__class__")))(a:PySem.W.specialIn K (.builtin "object.__class__") "__get__"=some (some (.builtin "getset_descriptor.__get__")))(c:PySem.W.takesIn K (.builtin "object.__class__")=some true)(i:PySem.W.hasDictIn K C=true)(h:K.lookup C=some ⟨g,e,.cls d,f⟩)(m:d.mro=.ref C::bmV):aeM K C:=⟨Jb k j b l a c i h m (by decide +kernel) (by decide +kernel)⟩
theorem Ug(o:PySem.W.typeIn K (.ref C)=some (.type "type"))(n:PySem.W.findIn K (.ref C) "__getattribute__"=some (some (.builtin "BaseException.__getattribute__")))(j:PySem.W.findIn K (.ref C) "__getattr__"=some none)(p:PySem.W.findIn K (.ref C) "__class__"=some (some (.builtin "object.__class__")))(i:PySem.W.specialIn K (.builtin "object.__class__") "__get__"=some (some (.builtin "getset_descriptor.__get__")))(k:PySem.W.takesIn K (.builtin "object.__class__")=some true)(l:PySem.W.hasDictIn K C=true)(h:K.lookup C=some ⟨g,e,.cls d,f⟩)(m:d.mro=.ref C::.ref T::bmV):aT K T C:=by
 have a:(Value.ref T::bmV).contains (.type "object")=true:=by rw[cQ];simp[bmV]
 have b:(Value.ref T::bmV).contains (.type "BaseException")=true:=by rw[cQ];simp[bmV]
 have c:(Value.ref T::bmV).contains (.type "ValueError")=true:=by rw[cQ];simp[bmV]
 exact⟨Jb o n j p i k l h m a b,TD h m,zm h m (by rw[cQ,c,ja])⟩
end
section
variable{P:Program}{w:World}{K:fg}{b:f5}{a:Heap}
theorem ϑ.iO{x d:Str}{st:Stmt}{f:Addr}{o:FuncData}{N m:gy}{k:Nat}{h:Sp}(F:ϑ K x d st f o)(S:ε N m (aw st))(l:∀e H Q E,h e H Q E->e.length=m.length)(j:∀(g:Value) (A:Around) (c:List Env) (s:Shared) (H:Hp) (e:List V) (Q:VK) (E:XK),Τ k (A.deeper (envOfC d (aw st) s.heap.objs.size f g))->h e H Q E->∃t,PSs (mS (ς P w) P w K b a N d (aw st) f g A c s H E) (df st) t/\t { nx:=λ_ v=>Q .Θ v,rt:=Q } (start N e) H):υ P w K b a (ς P w) (k+1) f o m h:=by
 obtain⟨B,C,kV,p,D,z,g,y,u,rfl,r,i⟩:=F.ex;exact To r i S l λA c s H e Q E q n=>j g A c s H e Q E q n
end
theorem Bt{C:Addr}{E:XK}{t:TA}{D:Ends}{a:St}{H:Hp}:P4 C E t D a H=t a H λb c=>b.length<=sizeLine/\E (.ref C) none c:=rfl
theorem IV{e:(St->XK)->TS}{c:TH}{D:Ends}{d:St}{H:Hp}:RL e c D d H=e (λb a g f=>c D b a g f) D d H:=rfl
theorem u7{H:Hp}{l b:Addr}{a c:List V}{Q:VK}(e:H l=some (.lst a))(f:H b=some (.lst c))(d:a.length+c.length<=sizeLine)(q:∀p,H p=none->Q (.ref p) (upd H p (.lst (a++c)))):aet (.ref l) (.ref b) H Q:=⟨l,b,a,c,rfl,rfl,e,f,d,q⟩
theorem γ.put{H a:Hp}{l:Addr}(e:γ H a)(n:H l=none)(o:HO):γ H (upd a l o):=λb u h=>by rw[aU (cC h n)];exact e b u h
theorem Gs(i:Int):∀a:List Int,inV (.int i) (a.map V.int)=decide (i∈a)
 | []=>by simp[inV]
 | n::a=>by
   have b:=Gs i a;unfold inV at b ⊢;rw[ba,eU,b];have e:eqV (.int n) (.int i)=decide (n=i):=by first|rfl|simp[eqV]
   rw[e];by_cases h:i=n
   .subst h;simp
   .simp[h,Ne.symm h]
theorem BE:∀a:List Int,(a.map V.int).all pj=true
 | []=>rfl
 | n::a=>by rw[ba,ku,BE a];rfl
theorem inL{K:fg}{a:Bool}{H:Hp}{p:Addr}{i:Int}{b:ej}{Q:VK}(h:H p=some (.lst (b.map V.int)))(q:Q (.bl (if a then !decide (i∈b)else decide (i∈b))) H):rIn K a (.int i) (.ref p) H Q:=by
 refine⟨p,_,rfl,.inl (Η.of h),rfl,BE b,?_⟩;rw[Gs];exact q
theorem Ew{M:Model}{A:Around}{E:eF}{s:Shared}{a:Env}{x:Str}{b:Pos}{v:Value}{Q:Unit->Shared->Prop}(h:wpAny M A (storeName a x v) Q E s):wpAny M A (assign (.Name x b) a v) Q E s:=by
 show wpAny M A (do standAt b;bindName a x v) Q E s;exact ah (bR (wpAny_bindName h))
section
variable{X:Cx}{f:gy}{j:Nat}{k:List Nat}{scope:Scope}{a:List (Str×Addr)}
theorem Lx{i:Nat}{x:Str}{px a2:Pos}{V l B:Expr}{Y:List Expr}{Υ:Pos}{wi:TI}{g:TG}{tc:TT}{te:TE}(hN:X.N.Nodup)(c1:X.N[i]?=some x)(bk:X.env.scope.names.lookup x=some .local)(hc:X.calm=true)(T:ϓ X f j k scope a)(hi:PI X l B wi)(hg:∀C F K z,PG (X.comp f scope a C F K z) l g)(ht:∀C F K z,PTs (X.comp f scope a C F K z) Y tc)(he:∀C F K z,PE (X.comp f scope a C F K z) V te)(hs:∀x,foldedSetIterable B X.env x=pure x:=by intro _;rfl)(b6:swapsWith (.ListComp V [⟨l,B,Y,0⟩] scope Υ) (some (.Name x px)) a2.line X.env=pure true:=by rfl):PS X (.Assign [.Name x px] (.ListComp V [⟨l,B,Y,0⟩] scope Υ) a2) (xq (xH j k wi g tc te) (qv i)):=by
 intro Q s σ H D I h;rw[exec_Assign_Name_used _ _ _ _ b6];refine ah (bR (ah ?_));rw[arm_evalThenUse_ListComp];refine ah ?_;refine d5 (use:=some (assign (.Name x px) X.env)) rfl hs T.acn T.kind T.names (Ψ (hi Q s σ H _ I h) λv s1 h1=>Ψ h1 λdm m h2=>?_);obtain⟨it,z,tn,J,H1,rfl,I1,Tn,st,f1,R⟩:=h2;have U:∀b∈z,b<m.heap.objs.size:=λb E=>let ⟨o,e,_⟩:=Tn.obj _ _ st b E;av e;refine dk (eN T.ZK (by intro y hy;simp at hy) (λL Ω Ν=>?_) T.kind);dsimp only at Ω Ν ⊢;generalize aS:m.heap.push { cls:=.type "list",dict:=none,data:=.seq ([]:fy).toArray }=G at Ω Ν ⊢;have hC:G.objs.size=m.heap.objs.size+1:=by rw[<-aS,cg]
 have a8:m.heap.objs.size≠G.objs.size:=by rw[hC];exact aF (cV _)
 have ϒ:m.heap.objs.size<=G.objs.size:=by rw[hC];exact dC _
 have dE:∀b,b<m.heap.objs.size->b≠G.objs.size:=λb E=>by rw[hC];exact aF (dj E)
 have a7:∀b o,m.heap.get? b=some o->L.get? b=some o:=λb o e=>Ν.extBut b o (dE b (av e)) (ak _ (aS▸ak _ e));have ZL:∃n,L.get? m.heap.objs.size=some { cls:=.type "list",data:=.seq ([]:fy).toArray n }:=⟨_,Ν.extBut _ _ a8 (ak _ (aS▸aL _ rfl))⟩;have nE:tn 0 L:=Tn.keep _ _ _ st λb _ o e=>a7 b o e;obtain⟨W,⟨m0,w0⟩,a3⟩:=R m.heap.objs.size I1.fresh;have Ic:=sG (t:=m.toks+([]:List (Str×Value)).length) T I1 ϒ (aB _) a8 f1 U a7 Ω ZL;generalize S:X.comp f scope a G.objs.size m H1 z=Xc at Ic;have P:∀{Z:Hp},(∀b∈z,Z b=none)->∀b∈z,kC Xc [] Z b:=λ{Z} hn b E=>by
  subst S;exact⟨hn b E,dE b (U b E),(rZ T I1 ϒ f1 U).ZI b E,.inl E,λx c e=>(f1 b E).2.2.2.2.1 x c (T.cells x c e),λp hp=>by cases hp⟩
 have ct:∀b∈z,upd H1 m.heap.objs.size (.lst []) b=none:=λb E=>by
  rw[aU (aF (U b E))];exact(f1 b E).1
 have du:Xc.calm=true:=by subst S;exact hc
 have ac:∀O:Shared,O={ m with heap:=L,toks:=m.toks+([]:List (Str×Value)).length }->codeAny (model X.prog X.w) X.A (.compLoop (.ListComp V [⟨l,B,Y,0⟩] scope Υ) 0 (.ref it) (.ref m.heap.objs.size) (compEnvC scope a G.objs.size X.env))
  (compPost (model X.prog X.w) X.A X.xe (some (assign (.Name x px) X.env)) (λ_ s'=>wpAny (model X.prog X.w) X.A (pure ()) (λ_ b8=>wpAny (model X.prog X.w) X.A (pure Flow.next) (SP X Q D) X.xe b8) X.xe s') (.ref m.heap.objs.size) G.objs.size) O:=by
  rintro O rfl;refine vX (λn s'=>∃i ys a4 Z,Inv Xc [] a4 Z s'/\tn i s'.heap/\(∀b∈z,Z b=none)/\W i n ys a4 Z) ?_ m0 ⟨0,[],_,_,Ic,nE,ct,w0⟩;rintro n s3 ⟨i,ys,ab,H3,I3,bf,a5,w3⟩;rcases a3 i n ys ab H3 w3 with⟨stop,q⟩|⟨go,step⟩
  .subst S;refine Ψ (Tn.done (X.comp f scope a G.objs.size m H1 z) rfl rfl rfl hc i [] s3 ab H3 _ I3 (P a5) bf stop) λr s4 ⟨hr,I4⟩=>?_;subst hr;obtain⟨m4,b0,_⟩:=id I4.loc;have J:=oG I1 ϒ f1 I4 (h':=s4.heap) (Heap.SameBut.refl _ _);have a6:G.objs.size≠X.env.locals:=eg (aI I1.lt ϒ);have cy:X.s₀.heap.objs.size<=G.objs.size:=bh I1.sz ϒ;have cc:∀y c,X.env.cells.lookup y=some c->c≠G.objs.size:=λy c e=>by
    obtain⟨v',o',Z2,_⟩:=I1.cell y c e;exact aF (aI (av Z2) ϒ)
   have cp:∀p∈X.pn++Q,p.1≠G.objs.size:=λp hp=>by
    obtain⟨Z2,_⟩:=I1.pin p hp;exact aF (aI (av Z2) ϒ)
   refine Ew (uu (v:=.ref m.heap.objs.size) J hN c1 (.inl bk) rfl (λs5 I5 ⟨ad,sb,had⟩=>?_) (.inr bk));have cd:G.objs.size≠ad:=by
    rcases had with rfl|had
    .exact a6
    .exact(cc _ _ had).symm
   obtain⟨oo,es,ep,e1,e2⟩:=b0;refine⟨m4,⟨oo,es,ep,(sb.2 _ cd).trans e1,e2⟩,λh' cv=>aD (aD ⟨_,H3,?_,q⟩)⟩;exact I5.turned (it:=G.objs.size) (t':=s5.toks) (λb o n e=>cv.extBut b o n e) I4.free a6 (.inr cy) cc cp
  .subst S;refine Ψ (Tn.item (X.comp f scope a G.objs.size m H1 z) rfl rfl rfl hc i [] s3 ab H3 _ I3 (P a5) bf go) λr s4 ⟨u,hr,h4⟩=>?_;subst hr;refine Ψ h4 λ_ s5 ⟨x,H5,I5,r5,y5,Z3,ca⟩=>?_;have cB:=I5.pinned (P ca) (Tn.obj _ _ Z3);have af:∀{ar:St}{H7:Hp}{s7:Shared},Inv (X.comp f scope a G.objs.size m H1 z) ([]++jL z s5.heap) ar H7 s7->Inv (X.comp f scope a G.objs.size m H1 z) [] ar H7 s7/\tn (i+1) s7.heap/\∀b∈z,H7 b=none:=λ{ar H7 s7} I7=>by
    refine⟨I7.Ϗ,Tn.keep _ _ _ Z3 λb E o e=>(I7.pin (b,o) (aE _ (aE _ (fF E e)))).1,λb E=>?_⟩;obtain⟨o,e,d⟩:=Tn.obj _ _ Z3 b E;exact(I7.pin (b,o) (aE _ (aE _ (fF E e)))).2.1
   refine Ψ (hg _ _ _ _ _ s5 ab H5 x u _ cB r5 (step x H5 y5)) λ_ s6 ⟨M,H6,I6,q6⟩=>?_;refine uy (ht _ _ _ _ _ s6 M H6 _ I6 q6) λok s7 H7 I7 q7=>?_;cases ok with
   | false=>
     rw[ag aN]at q7 ⊢;obtain⟨m',hm,w7⟩:=q7;obtain⟨J1,J2,J3⟩:=af I7;exact⟨m',hm,i+1,ys,M,H7,J1,J2,J3,w7⟩
   | true=>
     rw[aj rfl]at q7 ⊢;refine cP (he _ _ _ _ _ s7 M H7 _ I7 q7) λy s8 yv H8 I8 r8 ⟨b7,cT,m',hm,w8⟩=>?_;refine Ψ (eR _ s8 M H8 (.ref m.heap.objs.size) [yv] _ [y] (λv' Z=>W (i+1) m' (ys++[yv]) M Z) I8 rfl (.cons r8 .nil) ⟨_,ys,yv,rfl,rfl,b7,cT,w8⟩) λv9 s9 ⟨_,H9,I9,_,w9⟩=>?_;obtain⟨J1,J2,J3⟩:=af I9;exact⟨m',hm,i+1,ys++[yv],M,H9,J1,J2,J3,w9⟩
 exact eC (ac _ rfl) (Tn.self _ 0 _ _ _ nE (ac _ rfl))
end
theorem uc{K:fg}{H:Hp}:∀a:List Int,ϋ K H (a.map V.int) (a.map PyData.int)
 | []=>.nil
 | n::a=>.cons (.int n) (uc a)
theorem tp:∀a:List Int,PyData.depthAll (a.map PyData.int)<=1
 | []=>by simp[PyData.depthAll]
 | n::a=>by
   simp only[ba,PyData.depthAll];have:=tp a;have:(PyData.int n).depth<=1:=by simp[PyData.depth]
   lia
end L2
namespace Pb
open L2 PySem
def front(r:Int)(a:ek)(p:Int):V:=if p=r then .Θ else .int (a p)
def eD(m:Int)(s:hD)(a:V)(p:Int):List Int:=(jJ m s p).filter λv=>decide (V.int v≠a)
variable{m:Int}{s:hD}{r:Int}{par:ek}{d:ew}
theorem Λ.ne(R:Λ m s r par d){v:Int}(c:0<=v)(a:v<m)(b:v≠r):par v≠v:=λz=>by
 have:=(R.up v c a b).2.2;rw[z]at this
 lia
theorem nQ(g:Good m s)(R:Λ m s r par d){p v:Int}(n:0<=p)(l:p<m):v∈eD m s (front r par p) p↔(0<=v/\v<m)/\v≠r/\par v=p:=by
 unfold eD;rw[d9,wJ g,bZ]
 constructor
 .rintro⟨ad,hf⟩;obtain⟨_,k,_⟩:=g.adj ad;refine⟨k,?_⟩;obtain⟨x,i,j⟩:=ad;have f:∀u w:Int,(u≠r/\par u=w)\/(w≠r/\par w=u)->u=p->w=v->v≠r/\par v=p:=λu w h t o=>by
   subst t o;rcases h with h|h
   .exfalso
    apply hf;unfold front;rw[ag h.1,h.2]
   .exact h
  rcases j with⟨a,b⟩|⟨a,b⟩
  .exact f x.a x.b (R.road x i) a b
  .exact f x.b x.a (R.road x i).symm a b
 .rintro⟨k,hr,hp⟩;have u:=R.up v k.1 k.2 hr;rw[hp]at u;refine⟨?_,λz=>?_⟩
  .obtain⟨x,i,j⟩:=u.2.1;exact⟨x,i,j.elim (λq=>.inr ⟨q.2,q.1⟩) (λq=>.inl ⟨q.2,q.1⟩)⟩
  .unfold front at z;by_cases c:p=r
   .rw[aj c]at z;cases z
   .rw[ag c]at z;have e:v=par p:=(by injection z);have w:=(R.up p n l c).2.2;have y:=u.2.2;rw[<-e]at w
    lia
theorem yJ{a:V}{p:Int}:(eD m s a p).Nodup:=(yo m s p).filter _
def nl(m:Int)(par:ek)(a:ej):List V:=(dE m.toNat).map λv=>if v∈a then .int (par v)else .Θ
def qK(m r:Int)(par:ek):List V:=(dE m.toNat).map (front r par)
theorem qu{a:ej}:(nl m par a).length=m.toNat:=by unfold nl;rw[am,ip]
theorem qH{n i:Nat}(h:i<n):(dE n)[i]?=some (i:Int):=by unfold dE;rw[aY,kD h];rfl
theorem OH{ks:ej}{v:Int}(a:0<=v)(b:v<m):(nl m par ks)[v.toNat]?=some (if v∈ks then .int (par v)else .Θ):=by
 unfold nl;rw[aY,qH (by lia)];show some (if((v.toNat:Nat):Int)∈ks then V.int (par ((v.toNat:Nat):Int))else V.Θ)=_;rw[cK a]
theorem Wp{ks:ej}{v:Int}(f:0<=v)(b:v<m):(nl m par ks).set v.toNat (.int (par v))=nl m par (ks++[v]):=by
 refine List.ext_getElem? λi=>?_;rw[List.getElem?_set];by_cases c:i<m.toNat
 .have e:∀l:List Int,(nl m par l)[i]?=some (if(i:Int)∈l then .int (par (i:Int))else .Θ):=λl=>by
   have:=OH (par:=par) (ks:=l) (v:=(i:Int)) (m:=m) (by lia) (by lia)
   rwa [fT]at this
  rw[e,qu];by_cases z:v.toNat=i
  .have a:v=(i:Int):=(by lia);rw[aj z,aj (by lia),e,aj (by rw[a];simp),<-a]
  .rw[ag z,e];have a:¬((i:Int)=v):=(by lia);simp[a]
 .have e:∀l:List Int,(nl m par l)[i]?=none:=λl=>dS (by rw[qu];lia);rw[e,e,qu];by_cases z:v.toNat=i
  .lia
  .rw[ag z]
structure bY(m:Int)(s:hD)(r:Int)(par:ek)(ks ws:ej):Prop where
 nd:ks.Nodup
 iS:∀k∈ks,0<=k/\k<m
 nr:r∉ks
 sub:∀w∈ws,w=r\/w∈ks
 wnd:ws.Nodup
 ok:∀v∈ks,par v∉ws/\(par v=r\/par v∈ks)
 dn:∀v,0<=v->v<m->v≠r->(par v=r\/par v∈ks)->par v∉ws->v∈ks
theorem bY.start:bY m s r par [] [r] where
 nd:=List.nodup_nil
 iS:=λ_ h=>by cases h
 nr:=λh=>by cases h
 sub:=λw h=>.inl (ax.mp h)
 wnd:=by simp
 ok:=λ_ h=>by cases h
 dn:=λv _ _ _ h n=>by
  rcases h with h|h
  .exact absurd (by rw[h];simp) n
  .cases h
theorem bY.at_(J:bY m s r par ks ws)(c:0<=r)(b:r<m){p:Int}(a:p∈ws):0<=p/\p<m:=by
 rcases J.sub p a with h|h
 .rw[h];exact⟨c,b⟩
 .exact J.iS p h
theorem bY.front(J:bY m s r par ks ws){p:Int}(a:p∈ws):(if p∈ks then V.int (par p)else V.Θ)=front r par p:=by
 unfold Pb.front;by_cases c:p=r
 .rw[aj c,ag (by rw[c];exact J.nr)]
 .rw[ag c,aj ((J.sub p a).resolve_left c)]
theorem bY.step(g:Good m s)(R:Λ m s r par d)(G:0<=r)(H:r<m){l j ws':ej}{p:Int}(J:bY m s r par l j)(e:j.Perm (p::ws')):bY m s r par (l++eD m s (Pb.front r par p) p) (ws'++eD m s (Pb.front r par p) p):=by
 have B:p∈j:=e.mem_iff.mpr aR;have D:=J.at_ G H B;have f:∀v,v∈eD m s (Pb.front r par p) p↔(0<=v/\v<m)/\v≠r/\par v=p:=λv=>nQ g R D.1 D.2;have x:(eD m s (Pb.front r par p) p).Nodup:=yJ;generalize eD m s (Pb.front r par p) p=E at f x ⊢;have i:∀v∈E,v∉l:=λv y z=>(J.ok v z).1 (by rw[((f v).mp y).2.2];exact B);obtain⟨F,K⟩:=bn.mp (e.nodup_iff.mp J.wnd);have u:∀w∈ws',w∈j:=λw t=>e.mem_iff.mpr (aK _ t);refine⟨?_,?_,?_,?_,?_,?_,?_⟩
 .rw[fA];exact⟨J.nd,x,λa C b q z=>i b q (z▸C)⟩
 .intro k hk;rcases aV.mp hk with h|h
  .exact J.iS k h
  .exact((f k).mp h).1
 .intro z;rcases aV.mp z with h|h
  .exact J.nr h
  .exact((f r).mp h).2.1 rfl
 .intro w t;rcases aV.mp t with h|h
  .exact(J.sub w (u w h)).imp id (bi _)
  .exact .inr (aE _ h)
 .rw[fA];refine⟨K,x,λa C b q z=>?_⟩;subst z;rcases J.sub a (u a C)with h|h
  .exact((f a).mp q).2.1 h
  .exact i a q h
 .intro v y;rcases aV.mp y with h|h
  .obtain⟨o1,o2⟩:=J.ok v h;refine⟨λz=>?_,o2.imp id (bi _)⟩;rcases aV.mp z with z|z
   .exact o1 (u _ z)
   .rcases o2 with o|o
    .exact((f _).mp z).2.1 o
    .exact i _ z o
  .obtain⟨q1,q2,q3⟩:=(f v).mp h;rw[q3];refine⟨λz=>?_,(J.sub p B).imp id (bi _)⟩;rcases aV.mp z with z|z
   .exact F z
   .obtain⟨w1,w2,w3⟩:=(f p).mp z;exact R.ne w1.1 w1.2 w2 w3
 .intro v v0 v1 vr h n;have A:par v∉E:=λz=>n (aE _ z);have I:par v=r\/par v∈l:=h.imp id λz=>(aV.mp z).resolve_right A;by_cases c:par v=p
  .exact aE _ ((f v).mpr ⟨⟨v0,v1⟩,vr,c⟩)
  .refine bi _ (J.dn v v0 v1 vr I λz=>?_);rcases az.mp (e.mem_iff.mp z)with z|z
   .exact c z
   .exact n (bi _ z)
theorem bY.perm{b c a:ej}(J:bY m s r par b c)(e:c.Perm a):bY m s r par b a where
 nd:=J.nd
 iS:=J.iS
 nr:=J.nr
 sub:=λw h=>J.sub w (e.mem_iff.mpr h)
 wnd:=e.nodup_iff.mp J.wnd
 ok:=λv h=>⟨λz=>(J.ok v h).1 (e.mem_iff.mpr z),(J.ok v h).2⟩
 dn:=λv i f g h n=>J.dn v i f g h λz=>n (e.mem_iff.mp z)
theorem bY.all(R:Λ m s r par d){g:ej}(J:bY m s r par g []):∀v,0<=v->v<m->v≠r->v∈g:=by
 have h:∀n v,d v=n->0<=v->v<m->v≠r->v∈g:=by
  intro n
  induction n with
  | zero=>
    intro v e b f a;have:=(R.up v b f a).2.2
    lia
  | succ n ih=>
    intro v e b f a;have u:=R.up v b f a;refine J.dn v b f a ?_ (by simp);by_cases c:par v=r
    .exact .inl c
    .exact .inr (ih (par v) (by lia) u.1.1 u.1.2 c)
 exact λv=>h _ v rfl
theorem bY.done(R:Λ m s r par d){b:ej}(J:bY m s r par b []):nl m par b=qK m r par:=by
 unfold nl qK;refine kI λv e=>?_;have a:0<=v/\v<m:=by
  unfold dE at e;obtain⟨k,f,rfl⟩:=bu.mp e;have:=cR.mp f
  lia
 unfold Pb.front;by_cases c:v=r
 .rw[aj c,ag (by rw[c];exact J.nr)]
 .rw[ag c,aj (J.all R v a.1 a.2 c)]
theorem El(n:Nat)(v:V):(List.replicate n [v]).flatten=List.replicate n v:=by
 induction n with
 | zero=>rfl
 | succ n ih=>rw[ci,dW,ih,ci];rfl
theorem Vy:nl m par []=List.replicate m.toNat V.Θ:=by
 unfold nl;refine List.ext_getElem? λi=>?_;by_cases c:i<m.toNat
 .rw[aY,qH c,fP,aj c];simp
 .rw[dS (by rw[am,ip];lia),dS (by rw[bW];lia)]
def nL(par:ek):Nat->Int->List Int
 | 0,v=>[v]
 | n+1,v=>v::nL par n (par v)
theorem Λ.pos(R:Λ m s r par d){v:Int}(c:0<=v)(a:v<m)(b:v≠r):d v=d (par v)+1:=(R.up v c a b).2.2.symm
theorem ye(R:Λ m s r par d):∀(n:Nat)(v:Int),d v=n->0<=v->v<m->(nL par n v).Nodup/\(∀x∈nL par n v,(0<=x/\x<m)/\d x<=n)/\(nL par n v).length=n+1
 | 0,v,e,h0,h1=>⟨by unfold nL;simp,λx hx=>by
  unfold nL at hx;rw[ax.mp hx];exact⟨⟨h0,h1⟩,by lia⟩,rfl⟩
 | n+1,v,e,h0,h1=>by
   have c:v≠r:=λz=>by rw[z,R.root]at e;lia
   have u:=R.up v h0 h1 c;obtain⟨b,a,f⟩:=ye R n (par v) (by lia) u.1.1 u.1.2;unfold nL;refine⟨bn.mpr ⟨λz=>?_,b⟩,λx hx=>?_,by rw[aO,f]⟩
   .have:=(a v z).2
    lia
   .rcases az.mp hx with rfl|hx
    .exact⟨⟨h0,h1⟩,by lia⟩
    .exact⟨(a x hx).1,by have:=(a x hx).2;lia⟩
theorem Vx(R:Λ m s r par d){v:Int}(f:0<=v)(b:v<m):d v+1<=m.toNat:=by
 obtain⟨a,c,g⟩:=ye R _ v rfl f b;have:=fk (m:=m) (by lia) a λx e=>(c x e).1
 lia
theorem EL{v:Int}(a:0<=v)(b:v<m):(qK m r par)[v.toNat]?=some (front r par v):=by
 unfold qK;rw[aY,qH (by lia)];show some (front r par ((v.toNat:Nat):Int))=_;rw[cK a]
theorem UM(g:Good m s)(R:Λ m s r par d){v:Int}(n:0<=v)(f:v<m)(h:v≠r):∃k,fE s v (par v)=some k/\2<=k/\k<=1000000:=by
 obtain⟨x,e,j⟩:=(R.up v n f h).2.1;obtain⟨i,o⟩:=cU e;have ok:=g.ok x e;rw[BH g o j];unfold kL;by_cases c:x.a=v/\x.b=par v
 .rw[aj c];exact⟨_,rfl,ok.t0,ok.t1⟩
 .rw[ag c];have l:x.a=par v/\x.b=v:=by
   rcases j with j|j
   .exact absurd j c
   .exact⟨j.2,j.1⟩
  rw[aj l];exact⟨_,rfl,ok.u0,ok.u1⟩
def oO(m:Int)(s:hD)(r:Int)(par:ek):Nat->Int->List Int
 | 0,v=>[v]
 | n+1,v=>v::(eD m s (front r par v) v).flatMap (oO m s r par n)
def mI(m:Int)(s:hD)(r:Int)(par:ek)(d:ew)(v:Int):List Int:=oO m s r par (m.toNat-1-d v) v
theorem rQ{f h:Int->List Int}:∀{l:ej},(∀x∈l,f x=h x)->l.flatMap f=l.flatMap h
 | [],_=>rfl
 | a::l,e=>by rw[cX,cX,e a aR,rQ λx b=>e x (aK _ b)]
theorem Bq(g:Good m s)(R:Λ m s r par d){v:Int}(k:0<=v)(i:v<m):mI m s r par d v=v::(eD m s (front r par v) v).flatMap (mI m s r par d):=by
 have h:∀u,u∈eD m s (front r par v) v->(0<=u/\u<m)/\u≠r/\par u=v:=λu=>(nQ g R k i).mp;have c:∀u∈eD m s (front r par v) v,d u=d v+1/\d u+1<=m.toNat:=λu a=>by
  obtain⟨b,j,f⟩:=h u a;have:=R.pos b.1 b.2 j;rw[f]at this;exact⟨this,Vx R b.1 b.2⟩
 unfold mI;cases e:m.toNat-1-d v with
 | zero=>
   have:eD m s (front r par v) v=[]:=List.eq_nil_iff_forall_not_mem.mpr λu a=>by
    have:=c u a
    lia
   rw[this]
   rfl
 | succ n=>
   show v::(eD m s (front r par v) v).flatMap (oO m s r par n)=_;rw[rQ λu a=>show oO m s r par n u=oO m s r par (m.toNat-1-d u) u by rw[show m.toNat-1-d u=n by have:=c u a;lia]]
def up(par:ek):Nat->Int->Int
 | 0,x=>x
 | k+1,x=>par (up par k x)
theorem yO{f:Int->List Int}:∀{l:ej},l.Nodup->(∀u∈l,(f u).Nodup)->(∀u∈l,∀w∈l,∀x,x∈f u->x∈f w->u=w)->(l.flatMap f).Nodup
 | [],_,_,_=>by simp
 | a::l,n,h1,h2=>by
   obtain⟨g,j⟩:=bn.mp n;rw[cX,fA];refine⟨h1 a aR,yO j (λu c=>h1 u (aK _ c)) (λu c w b=>h2 u (aK _ c) w (aK _ b)),λx i y h z=>?_⟩;subst z;obtain⟨w,b,e⟩:=fV.mp h;have:=h2 a aR w (aK _ b) x i e;exact g (this▸b)
theorem IM(g:Good m s)(R:Λ m s r par d):∀(n:Nat)(v:Int),0<=v->v<m->(oO m s r par n v).Nodup/\∀x∈oO m s r par n v,(0<=x/\x<m)/\∃k,d x=d v+k/\up par k x=v
 | 0,v,h0,h1=>⟨by unfold oO;simp,λx hx=>by
  unfold oO at hx;rw[ax.mp hx];exact⟨⟨h0,h1⟩,0,rfl,rfl⟩⟩
 | n+1,v,h0,h1=>by
   have h:∀u,u∈eD m s (front r par v) v->(0<=u/\u<m)/\u≠r/\par u=v:=λu=>(nQ g R h0 h1).mp;have q:(eD m s (front r par v) v).Nodup:=yJ;have b:=λu a=>IM g R n u (h u a).1.1 (h u a).1.2;have c:∀u∈eD m s (front r par v) v,d u=d v+1:=λu a=>by
    obtain⟨j,p,A⟩:=h u a;have:=R.pos j.1 j.2 p;rw[A]at this;exact this
   unfold oO;refine⟨bn.mpr ⟨λz=>?_,yO q (λu a=>(b u a).1) λu a w i x hx o=>?_⟩,λx hx=>?_⟩
   .obtain⟨u,a,hv⟩:=fV.mp z;obtain⟨_,k,e,_⟩:=(b u a).2 v hv;have:=c u a
    lia
   .obtain⟨_,k1,e1,f1⟩:=(b u a).2 x hx;obtain⟨_,y,D,t⟩:=(b w i).2 x o;have C:=c u a;have B:=c w i;have:k1=y:=(by lia);rw[<-f1,<-t,this]
   .rcases az.mp hx with rfl|hx
    .exact⟨⟨h0,h1⟩,0,rfl,rfl⟩
    .obtain⟨u,a,hv⟩:=fV.mp hx;obtain⟨l,k,e,f⟩:=(b u a).2 x hv;exact⟨l,k+1,by rw[e,c u a];lia,by show par (up par k x)=v;rw[f];exact(h u a).2.2⟩
theorem RY(g:Good m s)(R:Λ m s r par d){v:Int}(e:0<=v)(b:v<m):(mI m s r par d v).length<=24:=by
 obtain⟨a,f⟩:=IM g R (m.toNat-1-d v) v e b;have:=fk (m:=m) (by lia) a λx c=>(f x c).1;have:=g.Ϩ;unfold mI
 lia
end Pb
namespace L2
open PySem PySem.Spec PyProof.Rows
def Itv(K:fg)(a:Addr)(n:Nat):It:=⟨λi H=>i<n/\∃b x,Η K H a b/\b[n-1-i]?=some x,λi H x c=>c=H/\∀b,Η K H a b->b[n-1-i]?=some x,λi H=>n<=i⟩
theorem SL{P:Program}{w:World}{K:fg}{V:Expr}(a m:Addr)(n:Nat):Turn P w K V (Itv K a n) [m] m (λi h=>i<=n/\h.IsRevIter m a ((n:Int)-1-(i:Int))) where
 mem:=by simp
 obj:=λi h st b j=>by
  have e:b=m:=by simpa using j
  subst e;obtain⟨_,o,e,c,d⟩:=st;exact⟨o,e,λv z=>by rw[d]at z;cases z⟩
 keep:=λi h r st k=>⟨st.1,st.2.at λo e=>k m (by simp) o e⟩
 item:=by
  intro X B y t L i g s N H E I q st J;subst B y t;obtain⟨hi,xs,x,O,M⟩:=J;obtain⟨ι,U,p,hz⟩:=I.list O;obtain⟨u,Z,Y⟩:=U.get M;obtain⟨G,A,f2,C,D,F⟩:=q m (by simp);have Q:(n:Int)-1-(i:Int)=((n-1-i:Nat):Int):=by lia
  have f:=st.2;rw[Q]at f;refine wpAny_pyNext_rev_item f p.isList (x:=u) (by simpa using Z) λr l sb=>?_;have S:Inv X g N H { s with heap:=r }:=I.turned (t':=s.toks) (λb o j e=>(sb.2 b j).trans e) G A C D F;obtain⟨o,e,c,d⟩:=id l;have e1:((n-1-i:Nat):Int)-1=(n:Int)-1-((i+1:Nat):Int):=by lia
  rw[e1]at l;exact⟨u,rfl,zn (s:={ s with heap:=r }) e c d (by decide) ⟨x,H,S,Y,⟨rfl,λys hy=>by rw[I.ZJ hy O];exact M⟩,⟨hi,l⟩,λb j=>(q b j).1⟩⟩
 done:=by
  intro X B y t L i g s N H E I q st J;subst B y t;have T:n<=i:=J;obtain⟨G,A,f2,C,D,F⟩:=q m (by simp);have f:=st.2;have ad:=st.1;rw[show(n:Int)-1-(i:Int)=-1 by lia]at f;exact wpAny_pyNext_rev_end (I.ok.hd L) f λr R=>⟨rfl,I.turned (t':=s.toks) (λb o j e=>R b o j e) G A C D F⟩
 self:=λ_ _ _ _ _ st h=>wpAny_pyIter_revIter st.2 h
def Q0(K:fg)(e:TE):TI:=λd H R=>e d H λx c=>∃a b,x=.ref a/\Η K c a b/\R (Itv K a b.length) c
section
variable{X:Cx}{f e:Expr}{d:TE}{g c:Pos}
theorem PL(E:Gl X "reversed")(v:X.mg "reversed"=none)(z:PE X e d)(p:starEach [e] X.env=[(false,eval e X.env)]:=by rfl):PI X f (.Call (.Name "reversed" g) [e] [] c) (Q0 X.K d):=by
 intro j s D H R I h;refine Call_ (pW I E v boot_reversed (cD ?_ p rfl));rw[p];show wpAny _ _ (spliced ((false,eval e X.env)::backTo c [])) _ _ s;refine ir (cP (z j s D H _ I h) λu k x w m A r=>iQ ?_);obtain⟨a,n,J,C,q⟩:=r;subst J;cases A;obtain⟨y,t,F,L⟩:=m.list C;refine call_reversed_list F.isList ?_;have G:y.toArray.size=n.length:=by rw[aJ,t.length]
 rw[G];refine wpAny_pyIter_revIter (i:=(n.length:Int)-1) (l:=a) ⟨_,aL _ rfl,rfl,rfl⟩ ?_;refine⟨k.heap.objs.size,[k.heap.objs.size],_,_,w,rfl,m.kept (t':=k.toks) λb o e=>ak _ e,SL a _ n.length,⟨bJ _,?_⟩,λb B=>?_,q⟩
 .exact⟨_,aL _ rfl,rfl,by simp[revObj]⟩
 .have e:b=k.heap.objs.size:=by simpa using B
  subst e;exact m.abf (aB _) (m.Β.fresh (aB _))
end
theorem SA{K:fg}{a:Addr}{xs:List V}{g:TG}{k:TS}{D:Ends}{b:St}{H:Hp}(f:Nat->St->Hp->Prop)(o:f 0 b H)(u:∀i b H,i<=xs.length->f i b H->Η K H a xs)(s:∀(i:Nat) (x:V) (b:St) (H:Hp) (N:St->Hp->Prop),(∀c d,f (i+1) c d->N c d)->xs.reverse[i]?=some x->f i b H->g x b H λh r=>k { D with nx:=N,ct:=N,bk:=D.nx } h r)(n:∀b H,f xs.length b H->D.nx b H):qe (Itv K a xs.length) D g k b H:=by
 refine⟨λi m b H=>m=xs.length-i/\i<=xs.length/\f i b H,⟨xs.length,by simp,bJ _,o⟩,?_⟩;rintro i m b H ⟨rfl,t,p⟩;have q:=u i b H t p;by_cases j:i<xs.length
 .have hx:xs[xs.length-1-i]?=some xs[xs.length-1-i]:=aG (by lia);refine .inr ⟨⟨j,xs,_,q,hx⟩,λc d=>∃l,l<xs.length-i/\(l=xs.length-(i+1)/\i+1<=xs.length/\f (i+1) c d),λc d z=>z,λx d y=>?_⟩;obtain⟨e,y⟩:=y;subst e;exact s i x b _ _ (λc d v=>⟨xs.length-(i+1),by lia,rfl,j,v⟩) (by rw[jT j];exact y xs q) p
 .have e:i=xs.length:=by lia
  subst e;exact .inl ⟨aB _,n b H p⟩
theorem vS(a:ej):∀n,n<=a.length->preSum (λi=>a.getD i 0) n=(a.take n).sum
 | 0,_=>by simp[preSum]
 | n+1,h=>by
   have c:=vS a n (by lia);have b:n<a.length:=by lia
   rw[bA,aG b,List.sum_append,<-c];simp[preSum,List.getD,b]
section
variable{X:Cx}
theorem Q8(P:X.calm=true):jq X (.builtin "sum") (λJ H Q=>∃(p:Addr)(c:ej),J=[.ref p]/\(Η X.K H p (c.map V.int)\/Ξ X.K H p (c.map V.int))/\Q (.int c.sum) H):=by
 intro O s S H J R Q I r h;obtain⟨p,c,rfl,hp,q⟩:=h;obtain⟨u,rfl,B⟩:=my r;cases B;have L:X.A.in1.handled=none:=I.ok.hd P;have f:∀{d:fy},Vals (c.map V.int) d->d.length=c.length/\∀(i:Nat)(v:Value),d.toArray[i]?=some v->∃t,v=Value.int (c.getD i 0) t:=by
  intro d j;have a:d.length=c.length:=by rw[<-j.length,am]
  refine⟨a,λi v w=>?_⟩;have N:d[i]?=some v:=by simpa using w
  have m:i<c.length:=by rw[<-a];exact(aH.mp N).1
  obtain⟨u,M,B⟩:=j.get (i:=i) (x:=V.int c[i]) (by rw[aY,aG m];rfl);rw[N]at M;cases M;obtain⟨t,e⟩:=(show ∃t,v=Value.int c[i] t from B);exact⟨t,by rw[e];simp[List.getD,m]⟩
 have l:∀{n:Nat},n=c.length->preSum (λi=>c.getD i 0) n=c.sum:=λ{n} e=>by rw[vS c n (by lia),b9 (by lia)]
 rcases hp with hp|hp
 .obtain⟨d,j,pl,hz⟩:=I.list hp;obtain⟨a,E⟩:=f j;have k:=pl.isList;have y:=pl.lt;refine call_sum_walkG (fD k ?_);refine⟨s.heap.objs.size,[s.heap.objs.size,p],[s.heap.objs.size],d.toArray.size,_,_,λi=>c.getD i 0,rfl,Walks.list (A:=X.A.in1) L _ p (aF y) d.toArray,⟨⟨_,aL _ rfl,rfl,rfl⟩,k.push _⟩,λb F=>?_,λi v w=>E i v w,λG C t' z=>?_⟩
  .simp only[Heap.push,Array.size_push];rcases az.mp F with e|e
   .rw[e];exact cV _
   .rw[ax.mp e];exact dj y
  .have kk:∀b o,s.heap.get? b=some o->G.get? b=some o:=λb o g=>z b o (λD=>by rw[ax.mp D]at g;exact cA _ (av g)) (ak _ g);rw[l (by rw[aJ,a])];exact⟨.int _,H,I.kept (t':=C) kk,⟨t',rfl⟩,q⟩
 .obtain⟨d,j,pl,hz⟩:=I.tuple hp;obtain⟨a,E⟩:=f j;have k:s.heap.IsTuple p d.toArray:=pl;have y:p<s.heap.objs.size:=by
   obtain⟨o,e,_⟩:=id k;exact av e
  refine call_sum_walkG (gO k ?_);refine⟨s.heap.objs.size,[s.heap.objs.size,p],[s.heap.objs.size],d.toArray.size,_,_,λi=>c.getD i 0,rfl,Walks.tuple (A:=X.A.in1) L _ p (aF y) d.toArray,⟨⟨_,aL _ rfl,rfl,rfl⟩,k.push _⟩,λb F=>?_,λi v w=>E i v w,λG C t' z=>?_⟩
  .simp only[Heap.push,Array.size_push];rcases az.mp F with e|e
   .rw[e];exact cV _
   .rw[ax.mp e];exact dj y
  .have kk:∀b o,s.heap.get? b=some o->G.get? b=some o:=λb o g=>z b o (λD=>by rw[ax.mp D]at g;exact cA _ (av g)) (ak _ g);rw[l (by rw[aJ,a])];exact⟨.int _,H,I.kept (t':=C) kk,⟨t',rfl⟩,q⟩
end
def Xy(_ j:Int):Prop:=0<j/\j<18446744073709551616
theorem QC{X:Cx}:RW X (binaryOp .FloorDiv) (rI Xy λi j=>.int (i/j)):=opI λi j _ _ _ _ _ a q=>by
 have e:(0:Int)<j:=a.1;have d:j<18446744073709551616:=a.2;refine floordiv_int (by lia) (by rw[iz i (by lia)];exact q) (.inl ?_);have c:j.natAbs.log2<64:=(Nat.log2_lt (by lia)).mpr (by lia);unfold Builtin.divisionGoesByPylong;have b:(j==0)=false:=by simp;lia
 simp only[b,ck,if_false];have:¬(j.natAbs.log2/30+1>300):=by lia
 simp[this]
theorem TR{X:Cx}(K:fg)(e:X.K=K){a:List Expr}{k:Nat}{b:Pos}{t:TGs}{n:Nat}(f:X.calm=true)(h:PGs X a t)(d:(assignEach a X.env).length=n:=by rfl)(c:(assignEach a X.env).findIdx? (·.1)=none:=by rfl):PG X (.Tuple a k b) (LV K n t):=by
 subst e;exact mV f h d c
theorem Se{K:fg}{c d:Bool}{a b p:Addr}{xs zs:List V}{Q:VK}{g:TG}{A:TT}{B:TE}{r:St}{D:Hp}(l:Nat->List V->St->Hp->Prop)(F:l 0 [] r D)(L:∀i f h H,l i f h H->bV K c H a xs/\bV K d H b zs)(J:∀(i:Nat) (x z:V) (f:List V) (h:St) (H:Hp) (q:Addr) (N:List V->St->Hp->Prop),(∀o j n,l (i+1) o j n->N o j n)->xs[i]?=some x->zs[i]?=some z->l i f h H->H q=none->g (.ref q) h (upd H q (.tup [x,z])) λk G=>A k G λb v=>
 if b=true then B k v λy w=>w p=some (.lst f)/\f.length<sizeLine/\N (f++[y]) k (upd w p (.lst (f++[y])))else N f k v)(E:∀f h H,l (min xs.length zs.length) f h H->Q (.ref p) H):rP (Itz K c d a b) p Q g A B r D:=by
 refine⟨λi m f h H=>m=min xs.length zs.length-i/\i<=min xs.length zs.length/\l i f h H,⟨_,rfl,bJ _,F⟩,?_⟩;rintro i m f h H ⟨rfl,U,pv⟩;obtain⟨s,u⟩:=L i f h H pv;by_cases R:i<min xs.length zs.length
 .refine .inr ⟨⟨xs,zs,xs[i]'(by lia),zs[i]'(by lia),s,u,aG (by lia),aG (by lia)⟩,λx n y=>?_⟩;obtain⟨P,T,M,I,rfl,rfl,S,O⟩:=y;exact J i T M f h H P (λo j n=>∃C,C<min xs.length zs.length-i/\(C=min xs.length zs.length-(i+1)/\i+1<=min xs.length zs.length/\l (i+1) o j n)) (λo j n t=>⟨min xs.length zs.length-(i+1),by lia,rfl,R,t⟩) (S xs s) (O zs u) pv I
 .have e:i=min xs.length zs.length:=by lia
  subst e;exact .inl ⟨⟨xs,zs,s,u,by lia⟩,E f h H pv⟩
theorem EO{H:Hp}{l:Addr}{a:List V}{i:Int}{v:V}{Q:Hp->Prop}(h:H l=some (.lst a))(b:0<=i)(c:i<a.length)(q:Q (upd H l (.lst (a.set i.toNat v)))):adN (.ref l) (.int i) v H Q:=⟨l,a,i,i.toNat,rfl,rfl,h,by unfold ixN;rw[aj b,aj (by lia)],q⟩
theorem atG{xs:ej}{i:Int}(a:0<=i)(b:i<xs.length):ZE (xs.map V.int) i=some (.int (xs.getD i.toNat 0)):=jD a (by
 have h:i.toNat<xs.length:=by lia
 rw[aY,aG h];simp[List.getD,h])
theorem NM(n:Nat)(v:V):(List.replicate n [v]).flatten=List.replicate n v:=by
 induction n with
 | zero=>rfl
 | succ n ih=>rw[ci,dW,ih,ci];rfl
theorem VN{a:ej}{n:Nat}{v:Int}(h:∀x∈a,0<=x)(c:0<=v):∀x∈a.set n v,0<=x:=λx b=>by
 rcases ff b with h1|h1
 .exact h x h1
 .rw[h1];exact c
theorem Iq{a:ej}(h:∀x∈a,0<=x)(n:Nat):0<=a.getD n 0:=by
 by_cases z:n<a.length
 .rw[List.getD,aG z];exact h _ (eY z)
 .rw[List.getD,dS (by lia)];exact ju _
theorem xC{X:Cx}:Xd X (Al X.K):=by
 intro b s C H x y v u Q I l m h;obtain⟨p,G,i,z,rfl,rfl,D,A,q⟩:=h;cases l;obtain⟨t,rfl⟩:=m;obtain⟨o,r,f,F⟩:=I.list D;obtain⟨j,c,E,L,n,k⟩:=vE A;obtain⟨w,g,d⟩:=r.get E;have B:=r.length;have J:=ni;have a:EP X b C Q w s:=⟨z,H,I,d,q⟩;by_cases e:0<=i
 .have hj:i.toNat=j:=by
   rw[seqIndex_of e k]at c;exact bo c
  exact wpAny_getItem_list f.isList e (by lia) (by rw[hj];simpa using g) a
 .have hj:(i+(o.toArray.size:Int)).toNat=j:=by
   rw[seqIndex_neg (by lia) n]at c;rw[aJ,<-B];exact bo c
  exact wpAny_getItem_list_neg f.isList (by lia) (by rw[aJ]<;>lia) (by lia) (by rw[hj];simpa using g) a
theorem RV{K:fg}{a p:Addr}{xs:List V}{Q:VK}{g:TG}{u:TT}{v:TE}{n:St}{z:Hp}(j:Nat->List V->St->Hp->Prop)(B:j 0 [] n z)(F:∀i c d H,i<=xs.length->j i c d H->Η K H a xs)(D:∀(i:Nat) (x:V) (c:List V) (d:St) (H:Hp) (N:List V->St->Hp->Prop),(∀l f k,j (i+1) l f k->N l f k)->xs.reverse[i]?=some x->j i c d H->g x d H λh C=>u h C λb s=>
 if b=true then v h s λy t=>t p=some (.lst c)/\c.length<sizeLine/\N (c++[y]) h (upd t p (.lst (c++[y])))else N c h s)(A:∀c d H,j xs.length c d H->Q (.ref p) H):rP (Itv K a xs.length) p Q g u v n z:=by
 refine⟨λi m c d H=>m=xs.length-i/\i<=xs.length/\j i c d H,⟨xs.length,by simp,bJ _,B⟩,?_⟩;rintro i m c d H ⟨rfl,E,pv⟩;have q:=F i c d H E pv;by_cases r:i<xs.length
 .have hx:xs[xs.length-1-i]?=some xs[xs.length-1-i]:=aG (by lia);refine .inr ⟨⟨r,xs,_,q,hx⟩,λx k y=>?_⟩;obtain⟨e,y⟩:=y;subst e;exact D i x c d _ (λl f k=>∃w,w<xs.length-i/\(w=xs.length-(i+1)/\i+1<=xs.length/\j (i+1) l f k)) (λl f k o=>⟨xs.length-(i+1),by lia,rfl,r,o⟩) (by rw[jT r];exact y xs q) pv
 .have e:i=xs.length:=by lia
  subst e;exact .inl ⟨aB _,A c d H pv⟩
end L2
namespace Pb
open L2
def After(a:ek):List Int->List Int->Prop
 | _,[]=>True
 | S,c::t=>a c∈S/\After a (c::S) t
section
variable{m:Int}{i:hD}{r:Int}{d:ek}{f:ew}
theorem After.mono:∀{l S b:ej},(∀x∈S,x∈b)->After d S l->After d b l
 | [],_,_,_,_=>trivial
 | c::t,S,b,h,a=>⟨h _ a.1,After.mono (λx g=>by
  rcases az.mp g with e|e
  .exact az.mpr (.inl e)
  .exact aK _ (h x e)) a.2⟩
theorem After.append:∀{g e S:ej},After d S g->After d S e->After d S (g++e)
 | [],_,_,_,b=>b
 | c::t,e,S,a,b=>⟨a.1,After.append a.2 (b.mono λx h=>aK _ h)⟩
structure Order(m r:Int)(d:ek)(t:ej):Prop where
 nd:(r::t).Nodup
 iS:∀v∈t,0<=v/\v<m
 all:∀v,0<=v->v<m->v=r\/v∈t
 af:After d [r] t
theorem Order.ne{t:ej}(O:Order m r d t){v:Int}(h:v∈t):v≠r:=λz=>(bn.mp O.nd).1 (z▸h)
theorem xL(g:Good m i)(R:Λ m i r d f):∀(n:Nat)(v:Int)(S:ej),0<=v->v<m->d v∈S->After d S (oO m i r d n v)
 | 0,v,S,_,_,h=>⟨h,trivial⟩
 | n+1,v,S,h0,h1,h=>by
   refine⟨h,?_⟩;have:∀(a:ej)(S:ej),v∈S->(∀u∈a,u∈eD m i (front r d v) v)->After d S (a.flatMap (oO m i r d n)):=by
    intro a
    induction a with
    | nil=>intro S _ _;exact trivial
    | cons u a ih=>
      intro S b c;rw[cX];obtain⟨e,o,j⟩:=(nQ g R h0 h1).mp (c u aR);exact(xL g R n u S e.1 e.2 (by rw[j];exact b)).append (ih S b λx l=>c x (aK _ l))
   exact this _ _ aR λu k=>k
theorem Lq(g:Good m i)(R:Λ m i r d f)(j:0<=r)(k:r<m)(h:(mI m i r d f r).Nodup)(b:∀v,v∈mI m i r d f r↔0<=v/\v<m):∃t,mI m i r d f r=r::t/\Order m r d t:=by
 have e:=Bq g R j k;refine⟨_,e,?_⟩;rw[e]at h b;refine⟨h,λv s=>(b v).mp (aK _ s),λv q n=>az.mp ((b v).mpr ⟨q,n⟩),?_⟩;have:∀a:List Int,(∀u∈a,u∈eD m i (front r d r) r)->After d [r] (a.flatMap (mI m i r d f)):=by
  intro a
  induction a with
  | nil=>intro _;exact trivial
  | cons u a ih=>
    intro c;rw[cX];obtain⟨l,y,w⟩:=(nQ g R j k).mp (c u aR);exact(xL g R _ u [r] l.1 l.2 (by rw[w];exact aR)).append (ih λx p=>c x (aK _ p))
 exact this _ λu o=>o
variable{j:ek}{k:hB}
theorem Order.places{t:ej}(O:Order m r d t):∀x∈t,(0<=x/\x<m)/\x≠r:=λx a=>⟨O.iS x a,O.ne a⟩
end
end Pb
namespace L2
open PySem PySem.Spec PyProof.Rows
theorem Gz:∀a b:List Int,PyData.eqvAll (a.map PyData.int) (b.map PyData.int)=decide (a=b)
 | [],[]=>by simp[PyData.eqvAll]
 | [],y::b=>by simp[PyData.eqvAll]
 | x::a,[]=>by simp[PyData.eqvAll]
 | x::a,y::b=>by
   rw[ba,ba];simp only[PyData.eqvAll];rw[Gz a b];simp[PyData.eqv];by_cases d:x=y<;>by_cases c:a=b<;>simp[d,c]
def VC(K:fg)(c:Bool):R2:=λx y H Q=>∃p a i v,x=.ref p/\y=.int i/\bV K c H p a/\ZE a i=some v/\Q v H
theorem Wb{X:Cx}(c:Bool):IxR X (VC X.K c):=by
 cases c
 .exact dQ
 .exact bB
theorem ixX{K:fg}{c:Bool}{H:Hp}{p:Addr}{a:List V}{i:Int}{v:V}{Q:VK}(h:bV K c H p a)(e:ZE a i=some v)(q:Q v H):VC K c (.ref p) (.int i) H Q:=⟨p,a,i,v,rfl,rfl,h,e,q⟩
theorem Tk{K:fg}{H:Hp}{p:Addr}{a:List V}{i:Int}{v:V}{Q:VK}(h:Ξ K H p a)(e:ZE a i=some v)(q:Q v H):LF K (.ref p) (.int i) H Q:=⟨p,a,i,v,rfl,rfl,h,e,q⟩
theorem F0{P:Program}{w:World}{A:Around}{l:Addr}(c:Bool){it:Addr}(n:A.handled=none)(ne:l≠it)(a:Array Value):Draws P w A it [it,l] a.size (λi v=>a[i]?=some v) (λi h=>zAt l c it i h/\NY l c h a) where
 live:=λi h st=>let ⟨o,e,_⟩:=(gM l c P w).obj _ _ _ st.1;⟨o,e⟩
 frame:=λi h b st k=>⟨(gM l c P w).atK _ _ _ _ st.1 λo e=>k it (by simp) o e,(gM l c P w).aam _ _ _ st.2 λo e=>k l (by simp) o e⟩
 item:=λi s Q E g st f=>(gM l c P w).item A s it i a a[i] Q E st.1 st.2 (by simp[g]) λb d j=>f a[i] b s.toks (by simp[g]) ⟨d,(gM l c P w).aam _ _ _ st.2 λo e=>j.extBut _ _ ne e⟩ j
 done:=λs Q E st f=>(gM l c P w).fin A s it a.size a Q E n st.1 st.2 (by simp) λb e m p=>f b e m p
section
variable{P:Program}{w:World}{A:Around}{E:eF}{s:Shared}{l:Addr}{f:Obj}{a:Heap->Array Value->Prop}{i:Addr->Nat->Heap->Prop}
abbrev CJ(n:Nat):Obj:={ cls:=.type "enumerate",data:=.fields #[.none,.bool false,.ref n,rawInt 0,.none,.none] }
theorem zU(S:∀P w,Zn P w l f a i)(k:Array Value):Meets (Builtin.«enumerate.__new__» ⟨[.type "enumerate",.ref l],[]⟩) (λ_ R s=>a s.heap k/\R (.ok (.ret (.ref (s.heap.push f).objs.size))) { s with heap:=(s.heap.push f).push (CJ s.heap.objs.size) }):=.of_wp λe w A R s j=>by
 obtain⟨q,g,d,n,os⟩:=s;obtain⟨m,r⟩:=j;have p:=sub_enumerate;have h:a (Shared.heap ⟨q,g,d,n,os⟩) k:=m
 wp_walk using ((S e w).start _ _ _ _ _ h)
 refine wpAny_stack_any λst=>?_;dsimp only;refine aD ?_;have o:∀b:Bool,b=true\/b=false:=λb=>by cases b<;>simp
 split
 .rename_i c _ _ _ _ _
  rcases o (c==Value.type "enumerate")with z|z
  .rw[z]
   wp_walk using ((S e w).start _ _ _ _ _ h)
   exact⟨_,rfl,r⟩
  .rw[z]
   wp_walk using ((S e w).start _ _ _ _ _ h)
   exact⟨_,rfl,r⟩
 .wp_walk using ((S e w).start _ _ _ _ _ h)
  exact⟨_,rfl,r⟩
theorem OM(S:∀P w,Zn P w l f a i){j:Array Value}{Q:eF}(m:a s.heap j)(n:f.isFreed=false)(h:∀b,IsEnum b (s.heap.objs.size+1) s.heap.objs.size 0 .none->i s.heap.objs.size 0 b->(∀c o,s.heap.get? c=some o->b.get? c=some o)->Q (.ref (s.heap.objs.size+1)) { s with heap:=b }):wpAny (model P w) A (call (.type "enumerate") [.ref l]) Q E s:=by
 refine callType_new F.called_enumerate (by decide) (F.typeCall_enumerate_1 _) (F.newCall_enumerate_1 _) (λd=>F.args_object_init_2 d _) F.entry_enumerate_new (zU S j) ⟨m,?_⟩;have k:(s.heap.push f).objs.size=s.heap.objs.size+1:=cg ..;have g:((s.heap.push f).push (CJ s.heap.objs.size)).get? (s.heap.push f).objs.size=some (CJ s.heap.objs.size):=aL _ rfl;have p:((s.heap.push f).push (CJ s.heap.objs.size)).get? s.heap.objs.size=some f:=ak _ (aL _ n);show _/\_;rw[k]at g;rw[k];exact⟨⟨_,g,rfl⟩,h _ g ((S P w).first _ _ p) λc o e=>ak _ (ak _ e)⟩
end
def Ite(K:fg)(c:Bool)(a:Addr):It:=⟨λi H=>∃b x,bV K c H a b/\b[i]?=some x,λi H v d=>∃p x,H p=none/\v=.ref p/\d=upd H p (.tup [.int i,x])/\∀b,bV K c H a b->b[i]?=some x,λi H=>∃b,bV K c H a b/\b.length=i⟩
theorem Oo{P:Program}{w:World}{K:fg}{G:List Expr}{x1}{Zw:Pos}(c:Bool)(a e it:Addr)(ne:e≠it)(ae:a≠e)(ai:a≠it):Turn P w K (.Tuple G x1 Zw) (Ite K c a) [e,it] e (λi h=>(∃y,IsEnum h e it (i:Nat) y)/\zAt a c it i h) where
 mem:=by simp
 obj:=λi h t b hb=>by
  obtain⟨⟨y,t1⟩,F⟩:=t;simp only[az,cW,or_false]at hb;rcases hb with rfl|rfl
  .exact⟨_,t1,λv z=>by cases z⟩
  .exact(gM a c P w).obj _ _ _ F
 keep:=λi h V t k=>by
  obtain⟨⟨y,t1⟩,F⟩:=t;exact⟨⟨y,k e (by simp) _ t1⟩,(gM a c P w).atK _ _ _ _ F λo e=>k it (by simp) o e⟩
 item:=λX e1 e2 e3 hc i C s σ H E I f t g=>by
  subst e1 e2 e3;obtain⟨⟨y,t1⟩,F⟩:=t;obtain⟨Z,x,s1,hx⟩:=g;obtain⟨L,r1,q1⟩:=I.sqX s1;obtain⟨xu,R,rx⟩:=r1.get hx;have hh:X.A.in1.handled=none:=I.ok.hd hc;have D:∀q∈[e,it],kC X C H q:=f;have W:=WalksT.enumerateD (A:=X.A) (F0 (P:=X.prog) (w:=X.w) (A:=X.A.in1) (l:=a) c (it:=it) hh ai L.toArray) e ne (by simp;exact⟨ne,ae.symm⟩) (by simp);have a6:i<L.toArray.size:=by
   have:=(aH.mp R).1
   simpa using this
  refine W.item i s _ _ a6 ⟨⟨y,t1⟩,F,q1⟩ λT bm V tk pt le tup U keep=>?_;refine⟨_,rfl,W.go G x1 Zw i T { s with heap:=V,toks:=tk } _ _ U λh2 N S=>?_⟩;obtain⟨tt,xv,px,ev⟩:=pt;have aS:xv=xu:=by
   have h1:L[i]?=some xv:=(by simpa using px);rw[R]at h1;cases h1
   rfl
  subst aS;have Tw:T∉[e,it]:=W.apart i T V U;have kp:∀q o,q∉[e,it]->s.heap.get? q=some o->h2.get? q=some o:=λq o d eo=>S q o d (keep q o d eo);obtain⟨ot,ht,aT,nt,a2⟩:=tup;have new:h2.get? T=some ot:=S T ot Tw ht;have O:∀q u,H q=some u->q∉[e,it]:=λq u e d=>by rw[(D q d).1]at e;cases e
  have J:H T=none:=I.Β.fresh le;have Y:∀q o,s.heap.get? q=some o->q≠T:=λq o eo=>aF (aI (av eo) le);have B:Inv X C σ H { s with heap:=h2,toks:=tk }:=by
   refine I.step (g':=s.gens) (d':=s.drawn) (t':=tk) (ch:=[e,it]) (λq d=>⟨(D q d).2.2.2.1,(D q d).2.1,(D q d).2.2.2.2.1,(D q d).2.2.2.2.2⟩) (λq o _ _ d e _=>kp q o d e) (λq o _ _ d e _=>⟨o.slots,kp q o d e⟩) (λ_ _ _ _ n=>n)
    (λq o d e=>⟨o,kp q o d e⟩) (λ_ _ e=>e) (λ_ _ _ e=>e) (λq ps e=>⟨#[],by rw[e];simp⟩) (λm hm=>?_) (λq u e=>?_) I.bare
   .obtain⟨o,es,ep,ho,r⟩:=hm;exact⟨o,es,ep,kp _ o (λd=>(D _ d).2.1 rfl) ho,r⟩
   .refine(I.Β q u e).Bv (λM v Zk j=>kp M v ?_ j) (λ_ j=>j) λ_ _ j=>j;rcases Zk with rfl|Zk
    .exact O _ u e
    .exact O _ _ Zk
  have I3:Inv X C σ (upd H T (.tup [.int i,x])) { s with heap:=h2,toks:=tk }:=by
   refine⟨B.ok,B.os,B.bare,?_,B.loc,B.cell,?_,λn c e=>?_,λp hp=>?_,λq u e=>?_,B.len⟩
   .refine⟨B.base.keep,B.base.slot,λq o e n hx=>?_,B.base.there,λq Z e=>?_,λq o u e=>?_,λq ps e=>?_⟩
    .have lt:q<X.s₀.heap.objs.size:=av e;rw[aU (aF (aI lt (bh I.sz le)))];exact B.base.free q o e n hx
    .have j:=B.base.By q Z e;rw[aU (λz=>by rw[z,J]at j;cases j)];exact j
    .have j:=B.base.lT q o u e;rw[aU (λz=>by rw[z,J]at j;cases j)];exact j
    .obtain⟨more,j⟩:=B.base.BV q ps e;exact⟨more,by rw[aU (λz=>by rw[z,J]at j;cases j)];exact j⟩
   .rw[aU (aF (aI I.lt le))];exact B.free
   .obtain⟨vv,o,ho,_⟩:=I.cell n c e;rw[aU (Y _ _ ho)];exact B.ύ n c e
   .obtain⟨k1,k2,k3⟩:=I.pin p hp;rw[aU (Y _ _ k1)];exact B.pin p hp
   .by_cases d:q=T
    .subst d;rw[aq]at e;cases e;refine⟨by show 2<=sizeLine;decide,[.int (i:Nat) tt,xv],.cons ⟨tt,rfl⟩ (.cons rx .nil),ot,new,aT,nt,?_⟩;rw[a2,ev]
    .rw[aU d]at e;refine(B.Β q u e).Bv (λ_ _ _ j=>j) (λM j=>?_) λM Z j=>?_
     .rw[aU (λz=>by rw[z,J]at j;cases j)];exact j
     .rw[aU (λz=>by rw[z,J]at j;cases j)];exact j
  refine⟨.ref T,_,I3,rfl,⟨T,x,J,rfl,rfl,λbz q=>?_⟩,⟨N.1,N.2.1⟩,λq d=>?_⟩
  .rw[<-I.aan s1 q];exact hx
  .have ϕ:q≠T:=by
    simp only[az,cW,or_false]at d;rcases d with rfl|rfl
    .exact Y _ _ t1
    .exact let ⟨o,e,_⟩:=(gM a c X.prog X.w).obj _ _ _ F;Y _ _ e
   rw[aU ϕ];exact(D q d).1
 done:=λX e1 e2 e3 hc i C s σ H E I f t g=>by
  subst e1 e2 e3;obtain⟨⟨y,t1⟩,F⟩:=t;obtain⟨Z,s1,bv⟩:=g;obtain⟨L,r1,q1⟩:=I.sqX s1;have hh:X.A.in1.handled=none:=I.ok.hd hc;have D:∀q∈[e,it],kC X C H q:=f;have W:=WalksT.enumerateD (A:=X.A) (F0 (P:=X.prog) (w:=X.w) (A:=X.A.in1) (l:=a) c (it:=it) hh ai L.toArray) e ne (by simp;exact⟨ne,ae.symm⟩) (by simp);have ei:i=L.toArray.size:=by
   have:=r1.length;simp
   lia
  subst ei;refine W.done s _ _ ⟨⟨y,t1⟩,F,q1⟩ λV tk keep=>⟨rfl,?_⟩;have kp:∀q o,q∉[e,it]->s.heap.get? q=some o->V.get? q=some o:=λq o d e=>keep q o d e;have O:∀q u,H q=some u->q∉[e,it]:=λq u e d=>by rw[(D q d).1]at e;cases e
  refine I.step (g':=s.gens) (d':=s.drawn) (t':=tk) (ch:=[e,it]) (λq d=>⟨(D q d).2.2.2.1,(D q d).2.1,(D q d).2.2.2.2.1,(D q d).2.2.2.2.2⟩) (λq o _ _ d e _=>kp q o d e) (λq o _ _ d e _=>⟨o.slots,kp q o d e⟩) (λ_ _ _ _ n=>n)
   (λq o d e=>⟨o,kp q o d e⟩) (λ_ _ e=>e) (λ_ _ _ e=>e) (λq ps e=>⟨#[],by rw[e];simp⟩) (λm hm=>?_) (λq u e=>?_) I.bare
  .obtain⟨o,es,ep,ho,r⟩:=hm;exact⟨o,es,ep,kp _ o (λd=>(D _ d).2.1 rfl) ho,r⟩
  .refine(I.Β q u e).Bv (λM v Zk j=>kp M v ?_ j) (λ_ j=>j) λ_ _ j=>j;rcases Zk with rfl|Zk
   .exact O _ u e
   .exact O _ _ Zk
 self:=λA i s Q E t q=>by
  obtain⟨⟨y,t1⟩,F⟩:=t;exact wpAny_pyIter_enum t1 q
def M8(K:fg)(c:Bool)(f:TE):TI:=λe H R=>f e H λx b=>∃a,x=.ref a/\(∃d,bV K c b a d)/\R (Ite K c a) b
section
variable{X:Cx}{e:Expr}{f:TE}{g d:Pos}
theorem UK{i:List Expr}{x1}{Zw:Pos}(c:Bool)(hg:Gl X "enumerate")(hm:X.mg "enumerate"=none)(he:PE X e f)(h2:starEach [e] X.env=[(false,eval e X.env)]:=by rfl):PI X (.Tuple i x1 Zw) (.Call (.Name "enumerate" g) [e] [] d) (M8 X.K c f):=by
 intro k s B H R I h;refine Call_ (pW I hg hm boot_enumerate (cD ?_ h2 rfl));rw[h2];show wpAny _ _ (spliced ((false,eval e X.env)::backTo d [])) _ _ s;refine ir (cP (he k s B H _ I h) λu m x y n r l=>iQ ?_);obtain⟨a,C,⟨E,z⟩,q⟩:=l;subst C;cases r;obtain⟨D,r,l⟩:=n.sqX z;obtain⟨G,o⟩:=pp a c _ _ l;have p:=av o;refine OM (gM a c) l (ug a c) λF t w A=>?_;refine wpAny_pyIter_enum t ?_;refine⟨_,[m.heap.objs.size+1,m.heap.objs.size],_,_,y,rfl,n.kept (t':=m.toks) A,Oo c a _ _ (Nat.succ_ne_self _) (aF (dj p)) (aF p),⟨⟨_,t⟩,w⟩,λb v=>?_,q⟩;have j:m.heap.objs.size<=b:=by
  simp only[az,cW,or_false]at v;rcases v with rfl|rfl
  .exact dC _
  .exact aB _
 exact n.abf j (n.Β.fresh j)
end
theorem Rq{K:fg}{c:Bool}{a:Addr}{xs:List V}{g:TG}{n:TS}{D:Ends}{b:St}{H:Hp}(h:Nat->St->Hp->Prop)(s:h 0 b H)(w:∀i b H,h i b H->bV K c H a xs)(v:∀(i:Nat) (x:V) (b:St) (H:Hp) (p:Addr) (N:St->Hp->Prop),(∀d f,h (i+1) d f->N d f)->xs[i]?=some x->h i b H->H p=none->g (.ref p) b (upd H p (.tup [.int i,x])) λk t=>n { D with nx:=N,ct:=N,bk:=D.nx } k t)(r:∀b H,h xs.length b H->D.nx b H):qe (Ite K c a) D g n b H:=by
 refine⟨λi m b H=>m=xs.length-i/\i<=xs.length/\h i b H,⟨_,rfl,bJ _,s⟩,?_⟩;rintro i m b H ⟨rfl,C,p⟩;have j:=w i b H p;by_cases q:i<xs.length
 .refine .inr ⟨⟨xs,xs[i],j,aG q⟩,λd f=>∃o,o<xs.length-i/\(o=xs.length-(i+1)/\i+1<=xs.length/\h (i+1) d f),λd f z=>z,λx f y=>?_⟩;obtain⟨l,B,u,rfl,rfl,A⟩:=y;exact v i B b H l _ (λd f l=>⟨xs.length-(i+1),by lia,rfl,q,l⟩) (A xs j) p u
 .have e:i=xs.length:=by lia
  subst e;exact .inl ⟨⟨xs,j,rfl⟩,r b H p⟩
end L2
namespace Pb
open L2 PySem
abbrev Zg:=Int×Int×Int
def vSt(s:Zg):List V:=[.int s.1,.int s.2.1,.int s.2.2]
abbrev ϔ(H:Hp):List Addr->List Zg->Prop:=Paired λq s=>H q=some (.tup (vSt s))
theorem ϔ.same{H c:Hp}{b:fx}{a:List Zg}(e:γ H c)(h:ϔ H b a):ϔ c b a:=Paired.imp' (λq v x=>e q _ x) h
theorem ϔ.get{H:Hp}:∀{c:fx}{d:List Zg}{i:Nat}{x:V},ϔ H c d->(c.map V.ref)[i]?=some x->∃p v,x=.ref p/\c[i]?=some p/\d[i]?=some v/\H p=some (.tup (vSt v))
 | _,_,i,x,.nil,e=>by simp at e
 | _,_,0,x,.cons (a:=p) (b:=r) h hs,e=>⟨p,r,by simpa using e.symm,by simp,by simp,h⟩
 | a::l1,_,i+1,x,.cons h hs,e=>by
   have g:(List.map V.ref l1)[i]?=some x:=by simpa using e
   obtain⟨p,r,j,l,k,f⟩:=ϔ.get hs g;exact⟨p,r,j,by simpa using l,by simpa using k,f⟩
theorem IX{f e:Type}{R:f->e->Prop}{a:f}{b:e}(h:R a b):∀{d:List f}{c:List e},Paired R d c->Paired R (d++[a]) (c++[b])
 | _,_,.nil=>.cons h .nil
 | _,_,.cons x xs=>.cons x (IX h xs)
theorem Dm{c f:Type}{R:c->f->Prop}:∀{g:List c}{d:List f}{i:Nat}{x:c},Paired R g d->g[i]?=some x->∃v,d[i]?=some v/\R x v
 | _,_,i,x,.nil,e=>by simp at e
 | _,_,0,x,.cons (a:=p) (b:=r) h hs,e=>by
   have:p=x:=by simpa using e
   subst this;exact⟨r,by simp,h⟩
 | a::l1,_,i+1,x,.cons h hs,e=>by
   have j:l1[i]?=some x:=by simpa using e
   obtain⟨v,k,l⟩:=Dm hs j;exact⟨v,by simpa using k,l⟩
abbrev O6(H:Hp):List Addr->List (List Int)->Prop:=Paired λq a=>H q=some (.tup (a.map V.int))
def mX(c:hD)(a b:Int):Int:=(fE c a b).getD 1
def qE(b:hD)(a:ej)(s:Zg):List Int:=(a.set s.1.toNat (a.getD s.1.toNat 0-s.2.2*mX b s.1 s.2.1)).set s.2.1.toNat ((a.set s.1.toNat (a.getD s.1.toNat 0-s.2.2*mX b s.1 s.2.1)).getD s.2.1.toNat 0+s.2.2)
theorem Pu(b:hD)(a:ej)(s:Zg):(qE b a s).length=a.length:=by unfold qE;rw[bT,bT]
def mB(m:Int)(a:hD)(s:Zg):Bool:=decide (0<=s.1)&&decide (s.1<m)&&decide (s.2.1∈jJ m a s.1)&&decide (1<=s.2.2)
def jr(m:Int)(a:hD)(b:ej)(s:Zg):Bool:=mB m a s&&decide (s.2.2*mX a s.1 s.2.1<=b.getD s.1.toNat 0)
def kX(b:hD)(a:ej)(c:List Zg)(i:Nat):List Int:=(c.take i).foldl (qE b) a
def qk(c:hD)(b:ej)(a:List Zg):List (List Int):=(List.range (a.length+1)).map (kX c b a)
def Pz(m:Int)(a:hD)(c:ej)(b:List Zg):Prop:=∀i s,b[i]?=some s->jr m a (kX a c b i) s=true
theorem QH(c:hD)(b:ej)(d:List Zg)(i:Nat):(kX c b d i).length=b.length:=by
 unfold kX;have:∀(l:List Zg)(a:ej),(l.foldl (qE c) a).length=a.length:=by
  intro l
  induction l with
  | nil=>intro a;rfl
  | cons s l ih=>intro a;rw[List.foldl_cons,ih,Pu]
 exact this _ _
theorem OA{a:hD}{c:ej}{b:List Zg}{i:Nat}{s:Zg}(h:b[i]?=some s):kX a c b (i+1)=qE a (kX a c b i) s:=by
 unfold kX;rw[bA,h,List.foldl_append]
 rfl
theorem uN(c:hD)(b:ej)(a:List Zg):(qk c b a).length=a.length+1:=by unfold qk;rw[am,List.length_range]
theorem qh{rs:hD}{xs:ej}{ss:List Zg}{i:Nat}(h:i<=ss.length):(qk rs xs ss)[i]?=some (kX rs xs ss i):=by
 unfold qk;rw[aY,kD (by lia)]
 rfl
theorem PK(b:hD)(a:ej)(c:List Zg):kX b a c 0=a:=by unfold kX;rw[dy];rfl
theorem si{m:Int}{a:hD}{s:Zg}(h:mB m a s=true):(0<=s.1/\s.1<m)/\s.2.1∈jJ m a s.1/\1<=s.2.2:=by
 unfold mB at h;rw[aZ,aZ,aZ]at h;exact⟨⟨bg h.1.1.1,bg h.1.1.2⟩,bg h.1.2,bg h.2⟩
theorem Qz{m:Int}{d:hD}(g:Good m d){a b:Int}(h:Adj d a b):∃k,fE d a b=some k/\2<=k/\k<=1000000:=by
 obtain⟨x,f,j⟩:=h;obtain⟨i,n⟩:=cU f;have ok:=g.ok x f;have e:vF x a b:=j;rw[BH g n e];unfold kL;by_cases c:x.a=a/\x.b=b
 .rw[aj c];exact⟨_,rfl,ok.t0,ok.t1⟩
 .rw[ag c];have l:x.a=b/\x.b=a:=by
   rcases e with w|w
   .exact absurd w c
   .exact⟨w.2,w.1⟩
  rw[aj l];exact⟨_,rfl,ok.u0,ok.u1⟩
theorem Bb{m:Int}{a:hD}(g:Good m a){s:Zg}(h:mB m a s=true):∃k,fE a s.1 s.2.1=some k/\mX a s.1 s.2.1=k/\(2<=k/\k<=1000000)/\(0<=s.2.1/\s.2.1<m):=by
 obtain⟨d,c,f⟩:=si h;have b:=(wJ g).mp c;obtain⟨k,e,r⟩:=Qz g b;exact⟨k,e,by unfold mX;rw[e];rfl,r,(g.adj b).2.1⟩
def qW(a:ej):PyData:=.tuple (a.map PyData.int)
theorem sx{K:fg}{H:Hp}{q:Addr}{a:ej}(h:H q=some (.tup (a.map V.int))):Zm K H (.ref q) (qW a):=.tup (Ξ.of h) (uc a)
theorem Bh(a:ej):(qW a).depth<=2:=by
 unfold qW;have:=tp a;simp only[PyData.depth]
 lia
end Pb
namespace L2
open PySem PySem.Spec PyProof.Rows
theorem Ww(a:List V){k:Int}(d:0<=k):uE a none (some k)=a.take k.toNat:=by
 unfold uE;have c:HT.sIx a.length 0 none=0:=rfl;have b:HT.sIx a.length a.length (some k)=min k.toNat a.length:=by
  show(if k<0 then(k+(a.length:Int)).toNat else min k.toNat a.length)=_;rw[ag (by lia)]
 rw[c,b,List.drop_zero,Nat.sub_zero,List.take_eq_take_iff]
 lia
theorem Ox(a:List V){k:Int}(e:0<=k):uE a (some k) none=a.drop k.toNat:=by
 unfold uE;have d:HT.sIx a.length a.length none=a.length:=rfl;have b:HT.sIx a.length 0 (some k)=min k.toNat a.length:=by
  show(if k<0 then(k+(a.length:Int)).toNat else min k.toNat a.length)=_;rw[ag (by lia)]
 rw[d,b,b9 (by rw[cz];lia)];by_cases c:k.toNat<=a.length
 .rw[Nat.min_eq_left c]
 .rw[Nat.min_eq_right (by lia),jF (aB _),jF (by lia)]
end L2
namespace Pb
open L2 PySem
theorem QQ{m:Int}{a:hD}{b:ej}{s:Zg}(h:jr m a b s=true):mB m a s=true/\s.2.2*mX a s.1 s.2.1<=b.getD s.1.toNat 0:=by
 unfold jr at h;rw[aZ]at h;exact⟨h.1,bg h.2⟩
def AtX(c:Bool)(H:Hp)(a:Addr)(b:List V):Prop:=H a=some (if c then .lst b else .tup b)
theorem AtX.sq{K:fg}{c:Bool}{H:Hp}{a:Addr}{b:List V}(h:AtX c H a b):bV K c H a b:=by
 cases c
 .exact Ξ.of h
 .exact Η.of h
end Pb
namespace L2
theorem db{A B:TS}{D:Ends}{b:St}{H:Hp}(h:∀N:St->Hp->Prop,(∀a c,B D a c->N a c)->A { D with nx:=N } b H):Mw A B D b H:=h (B D) λ_ _ z=>z
end L2
namespace L2
open PySem
theorem uU{K:fg}{a:Addr}{xs:List V}{g:TG}{h:TS}{D:Ends}{b:St}{H:Hp}(d:Nat->St->Hp->Prop)(m:d 0 b H)(o:∀i b H,i<=xs.length->d i b H->Η K H a xs)(n:∀(i:Nat) (x:V) (b:St) (H:Hp) (N B:St->Hp->Prop),(∀b H,(g x b H λc f=>h { D with nx:=N,ct:=N,bk:=D.nx } c f)->B b H)->(∀e j,d (i+1) e j->N e j)->xs[i]?=some x->d i b H->B b H)(k:∀(B:St->Hp->Prop) b H,(∀b H,D.nx b H->B b H)->d xs.length b H->B b H):qe (Itl K a) D g h b H:=Bz d m o (λi x b H N q l p=>n i x b H N (λb H=>g x b H λc f=>h { D with nx:=N,ct:=N,bk:=D.nx } c f) (λ_ _ z=>z) q l p) λb H p=>k (λb H=>D.nx b H) b H (λ_ _ z=>z) p
theorem yR{lo:Int}{n:Nat}{g:TG}{f:TS}{D:Ends}{a:St}{H:Hp}(d:Nat->St->Hp->Prop)(k:d 0 a H)(l:∀(i:Nat) (a:St) (H:Hp) (N B:St->Hp->Prop),(∀a H,(g (.int (lo+i)) a H λb e=>f { D with nx:=N,ct:=N,bk:=D.nx } b e)->B a H)->(∀c h,d (i+1) c h->N c h)->i<n->d i a H->B a H)(j:∀(B:St->Hp->Prop) a H,(∀a H,D.nx a H->B a H)->d n a H->B a H):qe (Itr lo n) D g f a H:=yk d k (λi a H N o m p=>l i a H N (λa H=>g (.int (lo+i)) a H λb e=>f { D with nx:=N,ct:=N,bk:=D.nx } b e) (λ_ _ z=>z) o m p) λa H p=>j (λa H=>D.nx a H) a H (λ_ _ z=>z) p
theorem Ix{c:TT}{i:TS}{D:Ends}{d:St}{H:Hp}(W:Nat->St->Hp->Prop)(k:Nat)(l:W k d H)(m:∀(n:Nat) (d:St) (H:Hp) (N:St->Hp->Prop) (B:Nat->St->Hp->Prop),(∀n d H,(c d H λb g=>if b=true then ∃N:St->Hp->Prop,(∀a e,N a e->∃f,f<n/\W f a e)/\i { D with nx:=N,ct:=N,bk:=D.nx } d g else D.nx d g)->B n d H)->(∀j a e,j<n->W j a e->N a e)->(∀a e,N a e->∃f,f<n/\W f a e)->W n d H->B n d H):Gc c i D d H:=IJ W k l λn d H N o h w=>m n d H N (λn d H=>c d H λb g=>if b=true then ∃N:St->Hp->Prop,(∀a e,N a e->∃f,f<n/\W f a e)/\i { D with nx:=N,ct:=N,bk:=D.nx } d g else D.nx d g) (λ_ _ _ z=>z) o h w
theorem an4{c d b a:Prop}(g:c)(h:d)(f:b)(e:a):c/\d/\b/\a:=⟨g,h,f,e⟩
theorem an5{d e c a b:Prop}(h:d)(i:e)(g:c)(f:a)(j:b):d/\e/\c/\a/\b:=⟨h,i,g,f,j⟩
theorem an6{e f d b c a:Prop}(j:e)(k:f)(i:d)(h:b)(l:c)(g:a):e/\f/\d/\b/\c/\a:=⟨j,k,i,h,l,g⟩
end L2
namespace Pb
open PySem L2
theorem fL{f e:Type}{R:f->e->Prop}{a:List f}{b:List e}(h:Paired R a b):∀{d:List f}{c:List e},Paired R d c->Paired R (d++a) (c++b)
 | _,_,.nil=>h
 | _,_,.cons x xs=>.cons x (fL h xs)
end Pb
set_option exponentiation.threshold 5000
namespace L2
open PySem PySem.Spec PyProof.Rows
theorem WW{l:fx}(h:l.Nodup)(i j:Nat){a b:Addr}(m:l[i]?=some a)(k:l[j]?=some b)(g:i≠j):a≠b:=λz=>by
 subst z;obtain⟨d,e⟩:=aH.mp m;obtain⟨f,c⟩:=aH.mp k;rcases Nat.lt_or_gt_of_ne g with q|q
 .exact dq.mp h i j d f q (e.trans c.symm)
 .exact dq.mp h j i f d q (c.trans e.symm)
section
variable{X:Cx}
def XC(K:fg):R2:=λx y H Q=>∃l b a c,x=.ref l/\y=.ref b/\Η K H l a/\Η K H b c/\a.length+c.length<=sizeLine/\∀p,H p=none->Q (.ref p) (upd H p (.lst (a++c)))
theorem TZ:RW X (binaryOp .Add) (XC X.K):=by
 intro z s V H x y v u Q I B E h;obtain⟨l,b,S,O,rfl,rfl,D,N,R,q⟩:=h;cases B;cases E;obtain⟨j,r,⟨⟨c,d,C,J⟩,n,e,w,t,p⟩,_⟩:=I.list D;obtain⟨a,o,⟨⟨T,P,M,k⟩,L,m,f,g,i⟩,_⟩:=I.list N;simp only at w t p f g i;subst w t p f g i;have U:=r.length;have A:=o.length;refine concat_meets ⟨_,e,rfl⟩ ⟨_,m,rfl⟩ noFill_list_add seq_list_add PySem.F.slot_list_add PySem.F.entry_list_add (PySem.F.args_list_add_2 _ _) (list_addW l b j.toArray a.toArray n L none none J k (by rw[aJ,aJ];lia)) ⟨e,m,?_⟩;have G:j.toArray++a.toArray=(j++a).toArray:=by simp
 rw[G];exact⟨.ref _,_,I.aes (t':=s.toks) (r.append o) (by rw[ao];lia),rfl,q _ I.fresh⟩
end
end L2
namespace L2
open PySem PySem.Spec PyProof.Rows PySem.W
section
variable{n:Nat}
variable(a:0<n)
include a
end
end L2
namespace L2
open PySem
def aeQ(K:fg)(a:Addr)(c:List V):Prop:=∃(o:Obj)(b:Array Value)(n:Nat),K.lookup a=some o/\o.cls=.type "tuple"/\o.data=.seq b n/\b.size<=sizeLine/\Vals c b.toList
theorem aeQ.sq{K:fg}{H:Hp}{a:Addr}{b:List V}(h:aeQ K a b):Ξ K H a b:=.inr h
end L2
namespace L2
open PySem PySem.Spec PyProof.Rows PySem.W
section
variable{X:Cx}
theorem Fe:∀{a:gy}{b:fy},Vals (a.map V.str) b->StrsAre b a
 | [],_,.nil=>.nil
 | y::a,_,.cons h r=>by
   obtain⟨t,rfl⟩:=h;exact .cons y t (Fe r)
def Tu(K:fg):V->List V->Hp->VK->Prop:=λx b H Q=>∃z l a,x=.str z/\b=[.ref l]/\Η K H l (a.map V.str)/\(a.map (·.length)).sum+a.length*z.length<=16777216/\Q (.str (Str.join z a)) H
theorem pE:MtM X "str.join" (Tu X.K):=by
 intro a s p H x n v j Q I b c h;obtain⟨z,l,i,rfl,rfl,e,d,q⟩:=h;obtain⟨t,rfl⟩:=b;obtain⟨u,rfl,f⟩:=my c;cases f;obtain⟨o,r,g,m⟩:=I.list e;refine join_list g.isList (by simpa using Fe r) d λw k=>⟨.str _,H,I.tok _,⟨_,rfl⟩,?_⟩;unfold Txt.join;rw[StrLaws.glued_eq_join];exact q
theorem BC:∀l:List (Str×Tok),Vals ((l.map (·.1)).map V.str) (strValues l)
 | []=>.nil
 | (y,t)::l=>.cons ⟨t,rfl⟩ (BC l)
theorem Qf:MtM X "str.split" (λx m H Q=>∃z y,x=.str z/\m=[.str y]/\(y.length==0)=false/\z.length<=60000/\∀l,H l=none->Q (.ref l) (upd H l (.lst ((Txt.split z y).map V.str)))):=by
 intro d s A H x m v B Q I p r h;obtain⟨z,y,rfl,rfl,j,i,q⟩:=h;obtain⟨t,rfl⟩:=p;obtain⟨C,rfl,u,rfl⟩:=my r;have g:z.length<=sizeLine:=bh i (by decide);have c:∀(l:List (Str×Tok))(k:Nat),l.map (·.1)=Txt.split z y->l.length<=sizeLine->EP X d A Q (.ref s.heap.objs.size) { s with toks:=k,heap:=s.heap.push { cls:=.type "list",data:=.seq (strValues l).toArray } }:=λl k e w=>by
  refine⟨.ref s.heap.objs.size,_,I.laid (a:=s.heap.objs.size) (o:=.lst ((Txt.split z y).map V.str)) (t':=k) (λb u e=>ak _ e) (aB _) ⟨?_,strValues l,_,?_,aL _ rfl⟩,rfl,q _ (I.Β.fresh (aB _))⟩
  .rw[am,<-e,am];exact w
  .rw[<-e];exact BC l
 have n:(Txt.split z y).length<=sizeLine:=bh (split_le z y) (bh (jP i 2) (by decide));have f:∀{l:List (Str×Tok)},l.map (·.1)=Txt.split z y->l.length<=sizeLine:=λ{l} e=>by
  have:=congrArg List.length e;rw[am]at this;rw[this];exact n
 cases h1:(decide (z.length<y.length)||decide (Builtin.Str.strKind z<Builtin.Str.strKind y))
 .cases hf:(Builtin.Str.occurrences z y 0 z.length (z.length+1)).isEmpty
  .have es:Txt.split z y=Builtin.Str.partsBetween z (Builtin.Str.occurrences z y 0 z.length (z.length+1)) y.length:=by
    unfold Txt.split;rw[ag (ne_true_of_eq_false h1),ag (ne_true_of_eq_false hf)]
   refine call_meets jg (typeIs_str _ _ _) iU (ic _ _) (meets_str_split_sep z y t u h1 j hf g (by rw[<-es];exact n)) ?_;show wants _ _ _ { s with toks:=_,heap:=s.heap.push { cls:=.type "list",data:=.seq (strsFrom s.toks (Builtin.Str.partsBetween z (Builtin.Str.occurrences z y 0 z.length (z.length+1)) y.length)).toArray } };rw[strsFrom_eq];have e:(numbered s.toks (Builtin.Str.partsBetween z (Builtin.Str.occurrences z y 0 z.length (z.length+1)) y.length)).map (·.1)=Txt.split z y:=(numbered_texts _ _).trans es.symm;exact c _ _ e (f e)
  .have e:[(z,t)].map (·.1)=Txt.split z y:=by
    unfold Txt.split;rw[ag (ne_true_of_eq_false h1),aj hf]
    rfl
   exact call_meets jg (typeIs_str _ _ _) iU (ic _ _) (meets_str_split_not_found z y t u h1 j hf) (c [(z,t)] s.toks e (f e))
 .have e:[(z,t)].map (·.1)=Txt.split z y:=by
   unfold Txt.split;rw[aj h1]
   rfl
  exact call_meets jg (typeIs_str _ _ _) iU (ic _ _) (meets_str_split_cannot_occur z y t u h1) (c [(z,t)] s.toks e (f e))
theorem O5:jq X (.type "int") (λa H Q=>∃z i,a=[.str z]/\PySem.intText? z=some i/\z.length<=640/\Q (.int i) H):=by
 intro b s e H a f Q I r h;obtain⟨z,i,rfl,d,c,q⟩:=h;obtain⟨u,rfl,t,rfl⟩:=my r;exact KIN.call_text d c ⟨.int i,H,I.tok _,⟨_,rfl⟩,q⟩
end
def Its(z:Str):It:=⟨λi _=>i<z.cps.size,λi H x a=>a=H/\∃c,z.cps[i]?=some c/\x=.str ⟨#[c]⟩,λi _=>z.cps.size<=i⟩
theorem RN{P:Program}{w:World}{K:fg}{L:Expr}(j:Addr)(z:Str)(t:Tok):Turn P w K L (Its z) [j] j (λi h=>h.IsStrIter j "str_ascii_iterator" z t i) where
 mem:=by simp
 obj:=λi h st b g=>by
  have e:b=j:=by simpa using g
  subst e;obtain⟨o,e,c,d⟩:=st;exact⟨o,e,λv z=>by rw[d]at z;cases z⟩
 keep:=λi h n st k=>let ⟨o,ho,r⟩:=st;⟨o,k j (by simp) o ho,r⟩
 item:=by
  intro X x q p D i f s F H E I m st a;subst x q p;have a:i<z.cps.size:=a;obtain⟨C,u,M,y,A,B⟩:=m j (by simp);refine wpAny_pyNext_ascii_item st (c:=z.cps[i]) (by simp[a]) λn l N=>?_;have J:Inv X f F H { s with heap:=n,toks:=s.toks+1 }:=I.turned (t':=s.toks+1) (λb o g e=>(N.2 b g).trans e) C u y A B;obtain⟨o,e,c,d⟩:=id l;exact⟨_,rfl,zn (s:={ s with heap:=n,toks:=s.toks+1 }) e c d (by decide) ⟨.str ⟨#[z.cps[i]]⟩,H,J,⟨_,rfl⟩,⟨rfl,_,by simp[a],rfl⟩,l,λb g=>(m b g).1⟩⟩
 done:=by
  intro X x q p D i f s F H E I m st a;subst x q p;have a:z.cps.size<=i:=a;obtain⟨C,u,M,y,A,B⟩:=m j (by simp);exact wpAny_pyNext_ascii_end (I.ok.hd D) st (by simp[a]) λn G=>⟨rfl,I.turned (t':=s.toks) (λb o g e=>G b o g e) C u y A B⟩
 self:=λ_ _ _ _ _ st h=>wpAny_pyIter_striter_ascii st h
section
variable{X:Cx}{a:Expr}
def RF(c:TE):TI:=λb H R=>c b H λx d=>∃z,x=.str z/\z.cps.all (·<128)=true/\R (Its z) d
theorem Wk{l:Expr}{g:TE}(p:PE X l g):PI X a l (RF g):=by
 intro c s r H R I h;refine cP (p c s r H _ I h) λv d x j f k i=>?_;obtain⟨z,e,n,q⟩:=i;subst e;obtain⟨t,rfl⟩:=k;refine wpAny_pyIter_ascii n ?_;refine⟨d.heap.objs.size,[d.heap.objs.size],_,_,j,rfl,f.kept (t':=d.toks) λb o e=>ak _ e,RN _ z t,⟨_,aL _ rfl,rfl,rfl⟩,λb m=>?_,q⟩;have e:b=d.heap.objs.size:=by simpa using m
 subst e;exact f.abf (aB _) (f.Β.fresh (aB _))
end
theorem Qp{X:Cx}{x y:Str}{a:Pos}(b:Gl X x)(d:∃t,X.mg x=some (.str y t))(c:(x==("__debug__":Str))=false:=by decide):PE X (.Name x a) (tC (.str y)):=by
 obtain⟨t,e⟩:=d;exact AD b e ⟨t,rfl⟩ c
theorem Qe{z:Str}{p:Addr}{Q:VK}{g:TG}{s:TT}{t:TE}{n:St}{v:Hp}(k:Nat->List V->St->Hp->Prop)(B:k 0 [] n v)(D:∀(i c:Nat) (a:List V) (h:St) (H:Hp) (N:List V->St->Hp->Prop),(∀l d j,k (i+1) l d j->N l d j)->z.cps.toList[i]?=some c->k i a h H->g (.str ⟨#[c]⟩) h H λf C=>s f C λb q=>
 if b=true then t f q λy r=>r p=some (.lst a)/\a.length<sizeLine/\N (a++[y]) f (upd r p (.lst (a++[y])))else N a f q)(w:∀a h H,k z.cps.toList.length a h H->Q (.ref p) H):rP (Its z) p Q g s t n v:=by
 have G:z.cps.size=z.cps.toList.length:=by simp
 refine⟨λi m a h H=>m=z.cps.toList.length-i/\i<=z.cps.toList.length/\k i a h H,⟨z.cps.toList.length,by simp,bJ _,B⟩,?_⟩;rintro i m a h H ⟨rfl,F,pv⟩;by_cases E:i<z.cps.toList.length
 .refine .inr ⟨by show i<z.cps.size;lia,λx j y=>?_⟩;obtain⟨rfl,c,A,rfl⟩:=y;exact D i c a h _ (λl d j=>∃u,u<z.cps.toList.length-i/\(u=z.cps.toList.length-(i+1)/\i+1<=z.cps.toList.length/\k (i+1) l d j)) (λl d j o=>⟨z.cps.toList.length-(i+1),by lia,rfl,E,o⟩) (by rw[ka];exact A) pv
 .have e:i=z.cps.toList.length:=by lia
  subst e;exact .inl ⟨by show z.cps.size<=_;lia,w a h H pv⟩
end L2
namespace Pb
open L2 PySem PySem.W NumText
def nN(n:Nat):List Nat:=(Nat.toDigits 10 n).map Char.toNat
def FS(n:Nat):Str:=⟨(nN n).toArray⟩
theorem vB(n:Nat):(FS n).cps.toList=nN n:=rfl
theorem lM{a b:Str}(h:a.cps.toList=b.cps.toList):a=b:=by
 cases a;cases b
 congr 1
 exact Array.toList_inj.mp h
theorem qI(n:Nat):Str.ofString (toString ((n:Nat):Int))=FS n:=lM (KIN.signs_num n)
theorem Xg:∀d:Nat,d<10->(Nat.digitChar d).toNat=48+d:=by decide
theorem nU{n:Nat}(h:n<10):nN n=[48+n]:=by
 unfold nN;rw[Nat.toDigits_of_lt_base h];show[(Nat.digitChar n).toNat]=_;rw[Xg n h]
theorem rK{n:Nat}(h:10<=n):nN n=nN (n/10)++[48+n%10]:=by
 have a:n%10<10:=Nat.mod_lt n (by decide);have t:Nat.toDigits 10 (n/10)++Nat.toDigits 10 (n%10)=Nat.toDigits 10 (10*(n/10)+n%10):=Nat.toDigits_append_toDigits (by decide) (by lia) a;rw[Nat.div_add_mod]at t;unfold nN;rw[<-t,aQ]
 congr 1
 exact nU a
theorem Ft(n:Nat):AllDigits (nN n):=by
 induction n using Nat.strongRecOn with
 | _ n ih=>
   by_cases h:n<10
   .rw[nU h];intro c hc;rw[ax.mp hc]
    lia
   .rw[rK (by lia)];intro c hc;rcases aV.mp hc with hc|hc
    .exact ih (n/10) (by lia) c hc
    .rw[ax.mp hc];have:=Nat.mod_lt n (show 10>0 by decide)
     lia
theorem IB(n:Nat):nN n≠[]:=by
 by_cases h:n<10
 .rw[nU h];simp
 .rw[rK (by lia)];simp
theorem ON(n:Nat)(h:0<n):∃c r,nN n=c::r/\c≠48:=by
 induction n using Nat.strongRecOn with
 | _ n ih=>
   by_cases a:n<10
   .exact⟨48+n,[],nU a,by lia⟩
   .obtain⟨c,r,e,hc⟩:=ih (n/10) (by lia) (by lia);exact⟨c,r++[48+n%10],by rw[rK (by lia),e];rfl,hc⟩
theorem xE:∀(k n:Nat),n<10^(k+1)->(nN n).length<=k+1
 | 0,n,h=>by rw[nU (by simpa using h)];simp
 | k+1,n,h=>by
   by_cases a:n<10
   .rw[nU a];simp
   .rw[rK (by lia),ao,dR];have:=xE k (n/10) (by rw[Nat.pow_succ]at h;lia)
    lia
theorem C5(n:Nat):digitsVal (nN n)=n:=KIN.val_back n
theorem app_list(a b:Str):(a++b).cps.toList=a.cps.toList++b.cps.toList:=PySem.W.KT.app_list a b
theorem im(a:Str):a.length=a.cps.toList.length:=by
 show a.cps.size=_;simp
def i9(s:List Nat):List (List Nat)->List Nat
 | []=>[]
 | [x]=>x
 | x::y::r=>x++s++i9 s (y::r)
theorem jZ(z:Str):∀a:List Str,(Str.join z a).cps.toList=i9 z.cps.toList (a.map (·.cps.toList))
 | []=>rfl
 | [x]=>rfl
 | x::y::r=>by
   show(x++z++Str.join z (y::r)).cps.toList=_;rw[app_list,app_list,jZ z (y::r)]
   rfl
theorem xX{c:Nat}:∀{a b X Y:List Nat},c∉a->c∉b->a++c::X=b++c::Y->a=b/\X=Y
 | [],[],X,Y,_,_,e=>⟨rfl,by simpa using e⟩
 | [],b::bs,X,Y,_,hb,e=>by
   have:=(fY e).1;exact absurd (by rw[this];exact .head _) hb
 | a::as,[],X,Y,ha,_,e=>by
   have:=(fY e).1;exact absurd (by rw[<-this];exact .head _) ha
 | a::as,b::bs,X,Y,ha,hb,e=>by
   obtain⟨g,d⟩:=fY e;obtain⟨f,i⟩:=xX (λh=>ha (.tail _ h)) (λh=>hb (.tail _ h)) d;exact⟨by rw[g,f],i⟩
theorem AQ{c:Nat}:∀{A B:List (List Nat)},A≠[]->B≠[]->(∀a∈A,c∉a)->(∀b∈B,c∉b)->i9 [c] A=i9 [c] B->A=B
 | [],_,h,_,_,_,_=>absurd rfl h
 | _,[],_,h,_,_,_=>absurd rfl h
 | [a],[b],_,_,_,_,e=>by rw[show a=b from e]
 | [a],b::b'::r,_,_,ha,_,e=>by
   have:c∈a:=by rw[show a=b++[c]++i9 [c] (b'::r)from e];simp
   exact absurd this (ha a (.head _))
 | a::a'::r,[b],_,_,_,hb,e=>by
   have:c∈b:=by rw[<-show a++[c]++i9 [c] (a'::r)=b from e];simp
   exact absurd this (hb b (.head _))
 | a::a'::r,b::b'::r',_,_,ha,hb,e=>by
   have e:a++[c]++i9 [c] (a'::r)=b++[c]++i9 [c] (b'::r'):=e;rw[bO,bO]at e;obtain⟨f,g⟩:=xX (ha a (.head _)) (hb b (.head _)) e;rw[f,AQ (by simp) (by simp) (λx d=>ha x (.tail _ d)) (λx d=>hb x (.tail _ d)) g]
theorem Kw{c:Nat}{b:gy}(h:b≠[])(p:∀y∈b,c∉y.cps.toList):Txt.split (Str.join ⟨#[c]⟩ b) ⟨#[c]⟩=b:=by
 have e:=StrLaws.join_split (Str.join ⟨#[c]⟩ b) ⟨#[c]⟩;have f:=StrLaws.split_free (Str.join ⟨#[c]⟩ b) c;have n:=PyProof.Rows.split_pos (Str.join ⟨#[c]⟩ b) ⟨#[c]⟩;generalize Txt.split (Str.join ⟨#[c]⟩ b) ⟨#[c]⟩=m at e f n ⊢;have k:=congrArg (λs:Str=>s.cps.toList) e;simp only[jZ]at k;have q:m.map (·.cps.toList)=b.map (·.cps.toList):=AQ (c:=c) (by intro z;rw[kG.mp z]at n;simp at n) (by intro z;exact h (kG.mp z)) (λa j=>by obtain⟨y,g,rfl⟩:=bu.mp j;exact f y g) (λa j=>by obtain⟨y,g,rfl⟩:=bu.mp j;exact p y g) k;have i:∀{l d:gy},l.map (·.cps.toList)=d.map (·.cps.toList)->l=d:=by
  intro l
  induction l with
  | nil=>intro d e;cases d with
    | nil=>rfl
    | cons _ _=>cases e
  | cons x l ih=>
    intro d e;cases d with
    | nil=>cases e
    | cons y d=>
      obtain⟨o,r⟩:=fY e;rw[lM o,ih r]
 exact i q
def vNs(a:List Nat):List V:=a.map λn:Nat=>V.int (n:Int)
theorem _root_.List.Ϫ{b a:Type}{f:b->a}{l:List b}{i:Nat}{y:a}(h:(l.map f)[i]?=some y):∃x,l[i]?=some x/\y=f x:=by
 rw[aY]at h;cases e:l[i]? with
 | none=>rw[e]at h;cases h
 | some x=>rw[e]at h;exact⟨x,rfl,(bo h).symm⟩
theorem Rb(n:Nat)(h:n<10^60):PySem.intText? (FS n)=some (n:Int):=by
 have:=intText_digits (x:=FS n) (Ft n) (IB n) (bh (iJ (im _)) (bh (xE 59 n h) (by decide)));rw[vB,C5]at this;exact this
theorem ixS{z:Str}{i:Nat}{c:Nat}{H:Hp}{Q:VK}(a:z.cps.toList.length<=60)(h:z.cps.toList[i]?=some c)(q:Q (.str ⟨#[c]⟩) H):ahp (.str z) (.int i) H Q:=⟨z,i,c,rfl,rfl,bh (iJ (im z)) (bh a (by decide)),Jf h,q⟩
theorem Y2:∀d:Nat,d<10->(Str.ofString "0123456789").cps.toList[d]?=some (48+d):=by decide +kernel
theorem Xr{c:Nat}(h:48<=c/\c<=57):(!(Builtin.Str.occurrences (Str.ofString "0123456789") ⟨#[c]⟩ 0 (Str.ofString "0123456789").length 1).isEmpty)=true:=by
 rw[StrLaws.found_one,bZ];have:=Y2 (c-48) (by lia);rw[show 48+(c-48)=c by lia]at this;exact bd this
theorem Be{s:List Nat}{m:Nat}:∀{l:List (List Nat)},(∀x∈l,x.length<=m)->(i9 s l).length<=(m+s.length)*l.length
 | [],h=>by simp[i9]
 | [x],h=>by
   have:=h x (.head _);show x.length<=(m+s.length)*1
   lia
 | x::y::r,h=>by
   have c:=h x (.head _);have d:=Be (s:=s) (l:=y::r) λz b=>h z (.tail _ b);show((x++s)++i9 s (y::r)).length<=_;rw[ao,ao,aO (a:=x),Nat.mul_succ]
   lia
theorem IK{b:Type}{R:Addr->b->Prop}:∀{as:fx}{a:List b}{i:Nat}{x:V},Paired R as a->(as.map V.ref)[i]?=some x->∃q r,x=V.ref q/\as[i]?=some q/\a[i]?=some r/\R q r
 | _,_,i,x,.nil,h=>by cases h
 | q::as,r::a,0,x,.cons e _,h=>⟨q,r,(bo h).symm,rfl,rfl,e⟩
 | q::as,r::a,i+1,x,.cons _ t,h=>IK (i:=i) t h
theorem UG(a b:Str):(a++b).length=a.length+b.length:=by
 rw[im,app_list,ao,<-im,<-im]
end Pb
namespace Pb
open L2 PySem
section
variable{m:Int}{d:hD}{r:Int}{c:ek}{b:ew}{a:ek}
theorem Ux{f:ej}(h:∀x∈f,0<=x)(i:Nat):0<=f.getD i 0:=by
 rw[List.getD];cases e:f[i]? with
 | none=>exact ju _
 | some y=>exact h y (bd e)
end
end Pb
namespace L2
open PySem PySem.Spec PyProof.Rows
section
variable{a:Program}{w:World}{A:Around}{E:eF}{R:Result->Shared->Prop}{s:Shared}
theorem uF{y b q:Expr}{u:List Expr}{k:Scope}{D:Pos}{J z:Value}{d:Env}(I:Nat->Shared->Prop)(F:∀n s,I n s->wpAny (model a w) A (pyNext J) (λr g=>match r with
 | none=>R (.ok .next) g
 | some v=>wpAny (model a w) A (letOwnedTupleGo b J v) (λ_ B=>wpAny (model a w) A (assign b d v) (λ_ l=>
  wpAny (model a w) A (forIn u true λc r=>if r=true then do let ok <-isTrue c d (eval c d);pure (ForInStep.yield ok)else pure (ForInStep.yield r)) (λok j=>
   if ok=true then wpAny (model a w) A (eval y d) (λx t=>
    wpAny (model a w) A (call (.builtin "list.append") [z,x]) (λ_ p=>∃m,m<n/\I m p) (λ_ _=>False) t) (notedBy (model a w) A d λe L=>R (.error e) L) j
   else ∃m,m<n/\I m j) (λ_ _=>False) l) (λ_ _=>False) B) (λ_ _=>False) g) (λ_ _=>False) s)(n:Nat)(h:I n s):codeAny (model a w) A (.compLoop (.ListComp y [⟨b,q,u,0⟩] k D) 0 J z d) R s:=by
 refine codeAny_loop rfl I (λn s M=>?_) n h;show wpAny _ A ((compTurn (.ListComp y [⟨b,q,u,0⟩] k D) 0 J z d).onRaise (λx=>do noteFrame x d;theTreesLotGoes x)) _ _ s;refine wpAny_noted ?_;rw[compTurn_list];refine ah (bR (ah (aX (F n s M) (λr g o=>?_) λ_ _ i=>i.elim)));cases r with
 | none=>exact aD o
 | some v=>
   refine ah (aX o (λ_ B K=>?_) λ_ _ i=>i.elim);refine ah (aX K (λ_ l C=>ah (aX C (λok j f=>?_) λ_ _ i=>i.elim)) λ_ _ i=>i.elim);cases ok with
   | true=>
     rw[aj rfl]at f;simp only[if_true];exact ah (ah (aX f (λx t H=>ah (aX H (λ_ p G=>aD (aD ⟨rfl,G⟩)) λ_ _ i=>i.elim)) λ_ _ i=>i))
   | false=>
     rw[ag aN]at f;simp only[ck,if_false]
     first
      | exact aD ⟨rfl,f⟩
      | exact ah (aD (aD ⟨rfl,f⟩))
end
section
variable{M:Model}{A:Around}{E:eF}{s:Shared}{Q:Unit->Shared->Prop}{fs:fx}{g T L:Addr}{c j k:Value}{i:Option Addr}{base:Heap}{env:Env}{a:List Env}
theorem QF{e:Value}{env env':Env}(h:env'.frame=env.frame):noteFrame e env'=noteFrame e env:=by
 unfold noteFrame PySem.frameOf;rw[h]
theorem Uj{p:Option Addr}(r:Err s.heap g T c i j)(h:∀e d,Err e g T c i d->Kept fs [T] s.heap e->Q () { s with heap:=e }):wpAny M A (setFlight (.ref g) p) Q E s:=by
 obtain⟨⟨t,w,n,z,x,o,m,y⟩,⟨B,u,l,b,v⟩,ne⟩:=r;have q:3<u.size:=(cN.mp v).1;unfold setFlight;refine ah (bF n o m ?_);rw[aj (by simp:(Value.ref T != Value.none)=true)];refine dN l b q (h _ (p.elim .none λf=>rawInt f) ⟨o7 ⟨t,w,n,z,x,o,m,y⟩ ne,⟨_,_,cx _ l (de (cq b _)),cq b _,by simp[q]⟩,ne⟩ (pT l b (by simp)))
theorem Qu(p:A.frames=some (env::a))(B:s.heap.FunFrames base (env::a))(w:env.frame=some L)(r:Err s.heap g T c i j)(h:∀f d u,Err f g d c i u->Kept (ϗ (env::a)) [g,T] s.heap f->(d=T\/s.heap.get? d=none)->Q () { s with heap:=f }):wpAny M A (noteFrame (.ref g) env) Q E s:=by
 have R:=GN r.t B;obtain⟨⟨K,S,I,U,V,F,C,N⟩,⟨O,D,m,l,v⟩,ne⟩:=id r;unfold noteFrame;simp only[w];refine ah (bF I F C ?_);rw[aj (by simp:(Value.ref T != Value.none)=true)];refine ah (bF m l v ?_);by_cases x:(j==rawInt L)=true
 .rw[aj x];exact aD (h s.heap T j r (Kept.acs λb o e=>e) (.inl rfl))
 rw[ag x];have y:Kept (ϗ (env::a)) [g,T] s.heap (s.heap.update T (Obj.mapFields (·.setIfInBounds 3 Value.none))):=pT m l (by simp);refine ah (dN m l (cN.mp v).1 ?_);refine xz p (B.of_keeps λb o e G=>⟨o,?_,rfl⟩) w (o7 r.e ne) λf d J H n=>h f d _ J (y.trans (H.mono (by simp))) (.inr ?_)
 .by_cases z:b=T
  .subst z;rw[m]at e;cases e;exact absurd l (G D)
  .rw[bL _ _ (Ne.symm z)];exact e
 .cases q:s.heap.get? d with
  | none=>rfl
  | some o=>
    obtain⟨P,z⟩:=y.there d o q;rw[z]at n;cases n
theorem Pd(p:A.frames=some (env::a))(D:s.heap.FunFrames base (env::a))(y:env.frame=some L)(r:Err s.heap g T c i j)(h:∀t n,Err t g n c i .none->Kept (ϗ (env::a)) [g,T] s.heap t->(n=T\/s.heap.get? n=none)->Q () { s with heap:=t }):wpAny M A (leaving env (.ref g)) Q E s:=by
 unfold leaving;have nl:∀{l b:Addr}{o:Obj},(l=T\/s.heap.get? l=none)->s.heap.get? b=some o->b∉[g,T]->b∉[l]:=λ{l b o} d e x z=>by
  rw[ax.mp z]at e x;rcases d with rfl|d
  .exact x (by simp)
  .rw[d]at e;cases e
 refine ah (Qu p D y r λw l C B q m=>rD (fs:=ϗ (env::a)) (s:={ s with heap:=w }) B λH v u=>h H l v ⟨λb o e f x=>u.keep b o (q.keep b o e f x) f (nl m e x),λb o e f x=>?_,λb o e=>?_⟩ m)
 .obtain⟨s1,e1⟩:=q.slot b o e f x;obtain⟨F,G⟩:=u.slot b _ e1 f (nl m e x);exact⟨F,G⟩
 .obtain⟨o1,e1⟩:=q.there b o e;exact u.there b o1 e1
end
def vG(X:Cx)(E:XK):Prop:=∀(a:fv)(e:St)(H:Hp)(s:Shared)(c T:Addr)(b:Value)(d:Option Addr)(f:Value),Inv X a e H s->Err s.heap c T b d f->Loose X a H c->Loose X a H T->E b d H->X.xe (.ref c) s
section
variable{P:Program}{w:World}{K:fg}{h:f5}{c:Heap}{N:gy}{e:Str}{d:Scope}{f:Addr}{g:Value}{A:Around}{a:List Env}{s:Shared}{H:Hp}{E:XK}
theorem Tr:vG (mS (ς P w) P w K h c N e d f g A a s H E) E:=by
 intro o z j v p T m t x J u le lt q;refine Pd (base:=c) J.ok.frames J.stack rfl u λy i l k nT=>?_;have r:∀b∈ϗ (envOfC e d s.heap.objs.size f g::a),j b=none:=J.eQ;have n:j i=none/\s.heap.get? i=none:=by
  rcases nT with rfl|nT
  .exact⟨lt.un,lt.new⟩
  .exact⟨qZ J.Β nT,lF J nT⟩
 refine⟨p,i,m,t,j,rfl,J.os,J.bare,sy J k ?_,pN J.Β k r ?_,le.un,n.1,le.new,n.2,l,q⟩
 .intro b hb;simp only[az,cm,or_false]at hb;rcases hb with rfl|rfl
  .exact le.new
  .exact lt.new
 .intro b hb;simp only[az,cm,or_false]at hb;rcases hb with rfl|rfl
  .exact le.un
  .exact lt.un
end
section
variable{X:Cx}{d:gy}{f:Nat}{g:List Nat}{a:Scope}{c:List (Str×Addr)}
theorem AR{j:fv}{σ B:St}{i:Hp}{h s':Shared}{C:Addr}{p:fx}{L:Heap}{E:XK}{e aC:Value}{O:Option (Value->Sem Unit)}{Q:eF}{D:Addr->Obj->Prop}(hx:X.ex=[])(S:X.stack=X.env::X.outer)(hf:X.env.frame=some X.env.locals)(hp:vG X E)(I:Inv X j σ i h)(hC:h.heap.objs.size<=C)(f1:∀b∈p,kC X j i b)(ob:∀b∈p,∃o,L.get? b=some o/\D b o)(z:XP (ς X.prog X.w) (X.comp d a c C h i p) ([]++jL p L) B E e s'):notedBy (model X.prog X.w) X.A (compEnvC a c C X.env) (λx ai=>compPost (model X.prog X.w) X.A X.xe O Q aC C (.error x) ai) e s':=by
 obtain⟨H7,s7,I7,Y,T,U,od,v,rfl,os,Z,un,Β,n1,n2,g1,g2,er,q⟩:=z;have J:=I7.abv (ch:=[]) os un Β Z (by simp);have k:∀{s8:Shared}{H8:Hp},Inv (X.comp d a c C h i p) ([]++jL p L) B H8 s8->∀b,s8.heap.get? b=none->v b=none->Loose (X.comp d a c C h i p) ([]++jL p L) v b:=λ{s8 H8} I8 b z u=>by
  obtain⟨H,K,M⟩:=I8.apart z;refine⟨u,?_,H,K,M⟩;rcases I8.young z with y|y
  .exact y
  .obtain⟨o,eo,_⟩:=ob b y;exact absurd rfl (M (b,o) (aE _ (aE _ (fF y eo))))
 have le:=k I7 Y g1 n1;have lt:=k I7 T g2 n2;have fr:=J.ok.frames;have st:=J.stack;replace fr:X.A.frames=some X.stack:=fr;replace st:s'.heap.FunFrames X.base X.stack:=st;rw[S]at fr st;show wpAny _ _ (noteFrame (.ref Y) (compEnvC a c C X.env)) _ _ s';rw[QF (env:=X.env) (env':=compEnvC a c C X.env) rfl];refine zC fr st hf er λW T2 ar k2 R=>?_;rw[<-S]at k2;have J2:Inv (X.comp d a c C h i p) ([]++jL p L) B v { s' with heap:=W }:=J.moved (tk:=s'.toks) k2 λb hb=>by
  simp only[az,cm,or_false]at hb;rcases hb with rfl|rfl
  .exact le.all
  .exact lt.all
 have F:=k J T2 R (qZ Β R);obtain⟨m,hn,_⟩:=id J2.loc;have t:∃m,W.Ns C m/\∀h',Heap.SameBut C W h'->∀G:Env,G.locals=C->wpAny (model X.prog X.w) X.A (passOn "comprehension.variables-let-go" (.ref Y) G:Sem Value) (λ_ _=>False) X.xe { s' with heap:=h' }:=by
  refine⟨m,hn,λV P G _=>?_⟩;have J3:Inv X j σ v { s' with heap:=V }:=oG (s':={ s' with heap:=W }) I hC f1 J2.Ϗ P;have r:∀b,Loose (X.comp d a c C h i p) ([]++jL p L) v b->Loose X j v b:=λb l=>by
   obtain⟨H,K,M⟩:=I.apart l.new;refine⟨l.un,?_,H,K,M⟩;rcases I.young l.new with y|y
   .exact y
   .rw[hx]at y;cases y
  have k3:∀b o,b≠C->W.get? b=some o->V.get? b=some o:=λb o n e=>P.extBut b o n e;have N:Err V Y T2 U od (rawInt X.env.locals):=by
   obtain⟨⟨oe,vs,H,K⟩,⟨oT,ts,b1,b2⟩,ne⟩:=ar;exact⟨⟨oe,vs,k3 _ _ le.loc H,K⟩,⟨oT,ts,k3 _ _ F.loc b1,b2⟩,ne⟩
  obtain⟨⟨oe,vs,H,K,M,a4,a5,a6⟩,_,_⟩:=id N;unfold PySem.passOn;refine ah (bF (s:={ s' with heap:=V }) H a4 a5 ?_);rw[ag (by simp)];refine ah (Uj (fs:=ϗ X.stack) (s:={ s' with heap:=V }) N λh4 aS af k4=>?_);have J4:Inv X j σ v { s' with heap:=h4 }:=J3.moved (tk:=s'.toks) k4 λb hb=>by rw[ax.mp hb];exact(r _ F).all
  exact wpAny_throw (hp j σ v { s' with heap:=h4 } Y T2 U od aS J4 af (r _ le) (r _ F) q)
 cases O with
 | none=>exact t
 | some u=>exact t
end
section
variable{X:Cx}{f:gy}{j:Nat}{k:List Nat}{scope:Scope}{a:List (Str×Addr)}
theorem Su{an l L:Expr}{ar:List Expr}{a1:Pos}{wi:TI}{g:TG}{tc:TT}{ex:XK->TE}{E:XK}(hx:X.ex=[])(b0:X.stack=X.env::X.outer)(hf:X.env.frame=some X.env.locals)(hp:vG X E)(hc:X.calm=true)(T:ϓ X f j k scope a)(hi:PI X l L wi)(hg:∀C F G B,PG (X.comp f scope a C F G B) l g)(ht:∀C F G B,PTs (X.comp f scope a C F G B) ar tc)(he:∀C F G B,PEx (ς X.prog X.w) (X.comp f scope a C F G B) an ex)(hs:∀x,foldedSetIterable L X.env x=pure x:=by intro _;rfl):PE X (.ListComp an [⟨l,L,ar,0⟩] scope a1) (xH j k wi g tc (ex E)):=by
 intro ad s σ H Q I h;rw[eval_ListComp];refine d5 (use:=none) rfl hs T.acn T.kind T.names (Ψ (hi ad s σ H _ I h) λv s1 h1=>Ψ h1 λcT m h2=>?_);obtain⟨it,B,tn,J,H1,rfl,I1,U,st,f1,R⟩:=h2;have V:∀b∈B,b<m.heap.objs.size:=λb D=>let ⟨o,e,_⟩:=U.obj _ _ st b D;av e;refine dk (eN T.ZK (by intro y hy;simp at hy) (λK Ω Ν=>?_) T.kind);dsimp only at Ω Ν ⊢;generalize al:m.heap.push { cls:=.type "list",dict:=none,data:=.seq ([]:fy).toArray }=P at Ω Ν ⊢;have hC:P.objs.size=m.heap.objs.size+1:=by rw[<-al,cg]
 have a6:m.heap.objs.size≠P.objs.size:=by rw[hC];exact aF (cV _)
 have ϒ:m.heap.objs.size<=P.objs.size:=by rw[hC];exact dC _
 have dE:∀b,b<m.heap.objs.size->b≠P.objs.size:=λb D=>by rw[hC];exact aF (dj D)
 have a5:∀b o,m.heap.get? b=some o->K.get? b=some o:=λb o e=>Ν.extBut b o (dE b (av e)) (ak _ (al▸ak _ e));have ZL:∃n,K.get? m.heap.objs.size=some { cls:=.type "list",data:=.seq ([]:fy).toArray n }:=⟨_,Ν.extBut _ _ a6 (ak _ (al▸aL _ rfl))⟩;have nE:tn 0 K:=U.keep _ _ _ st λb _ o e=>a5 b o e;obtain⟨W,⟨m0,w0⟩,a2⟩:=R m.heap.objs.size I1.fresh;have Ic:=sG (t:=m.toks+([]:List (Str×Value)).length) T I1 ϒ (aB _) a6 f1 V a5 Ω ZL;generalize S:X.comp f scope a P.objs.size m H1 B=Xc at Ic;have O:∀{Y:Hp},(∀b∈B,Y b=none)->∀b∈B,kC Xc [] Y b:=λ{Y} hn b D=>by
  subst S;exact⟨hn b D,dE b (V b D),(rZ T I1 ϒ f1 V).ZI b D,.inl D,λx c e=>(f1 b D).2.2.2.2.1 x c (T.cells x c e),λp hp=>by cases hp⟩
 have b5:∀b∈B,upd H1 m.heap.objs.size (.lst []) b=none:=λb D=>by
  rw[aU (aF (V b D))];exact(f1 b D).1
 have c6:Xc.calm=true:=by subst S;exact hc
 have ab:∀N:Shared,N={ m with heap:=K,toks:=m.toks+([]:List (Str×Value)).length }->codeAny (model X.prog X.w) X.A (.compLoop (.ListComp an [⟨l,L,ar,0⟩] scope a1) 0 (.ref it) (.ref m.heap.objs.size) (compEnvC scope a P.objs.size X.env))
  (compPost (model X.prog X.w) X.A X.xe none (EP X ad σ Q) (.ref m.heap.objs.size) P.objs.size) N:=by
  rintro N rfl;refine uF (λn s'=>∃i ys a3 Y,Inv Xc [] a3 Y s'/\tn i s'.heap/\(∀b∈B,Y b=none)/\W i n ys a3 Y) ?_ m0 ⟨0,[],_,_,Ic,nE,b5,w0⟩;rintro n s3 ⟨i,ys,Z,H3,I3,a7,a4,w3⟩;rcases a2 i n ys Z H3 w3 with⟨stop,q⟩|⟨go,step⟩
  .subst S;refine Ψ (U.done (X.comp f scope a P.objs.size m H1 B) rfl rfl rfl hc i [] s3 Z H3 _ I3 (O a4) a7 stop) λr s4 ⟨hr,I4⟩=>?_;subst hr;obtain⟨m4,bz,_⟩:=id I4.loc;exact⟨m4,bz,λh' b7=>⟨.ref m.heap.objs.size,H3,oG I1 ϒ f1 I4 b7,rfl,q⟩⟩
  .subst S;refine Ψ (U.item (X.comp f scope a P.objs.size m H1 B) rfl rfl rfl hc i [] s3 Z H3 _ I3 (O a4) a7 go) λr s4 ⟨u,hr,h4⟩=>?_;subst hr;refine Ψ h4 λ_ s5 ⟨x,H5,I5,r5,y5,Z3,b1⟩=>?_;have ca:=I5.pinned (O b1) (U.obj _ _ Z3);have ac:∀{af:St}{H7:Hp}{s7:Shared},Inv (X.comp f scope a P.objs.size m H1 B) ([]++jL B s5.heap) af H7 s7->Inv (X.comp f scope a P.objs.size m H1 B) [] af H7 s7/\tn (i+1) s7.heap/\∀b∈B,H7 b=none:=λ{af H7 s7} I7=>by
    refine⟨I7.Ϗ,U.keep _ _ _ Z3 λb D o e=>(I7.pin (b,o) (aE _ (aE _ (fF D e)))).1,λb D=>?_⟩;obtain⟨o,e,d⟩:=U.obj _ _ Z3 b D;exact(I7.pin (b,o) (aE _ (aE _ (fF D e)))).2.1
   refine Ψ (hg _ _ _ _ _ s5 Z H5 x u _ ca r5 (step x H5 y5)) λ_ s6 ⟨M,H6,I6,q6⟩=>?_;refine uy (ht _ _ _ _ _ s6 M H6 _ I6 q6) λok s7 H7 I7 q7=>?_;cases ok with
   | false=>
     rw[ag aN]at q7 ⊢;obtain⟨m',hm,w7⟩:=q7;obtain⟨J1,J2,J3⟩:=ac I7;exact⟨m',hm,i+1,ys,M,H7,J1,J2,J3,w7⟩
   | true=>
     rw[aj rfl]at q7 ⊢;refine aX (he _ _ _ _ E _ s7 M H7 _ I7 q7) (λy s8 ⟨yv,H8,I8,r8,bY,cd,m',hm,w8⟩=>?_) λe s8 z=>AR hx b0 hf hp I1 ϒ f1 (U.obj _ _ Z3) z;refine Ψ (eR _ s8 M H8 (.ref m.heap.objs.size) [yv] _ [y] (λv' Y=>W (i+1) m' (ys++[yv]) M Y) I8 rfl (.cons r8 .nil) ⟨_,ys,yv,rfl,rfl,bY,cd,w8⟩) λv9 s9 ⟨_,H9,I9,_,w9⟩=>?_;obtain⟨J1,J2,J3⟩:=ac I9;exact⟨m',hm,i+1,ys++[yv],M,H9,J1,J2,J3,w9⟩
 exact eC (ab _ rfl) (U.self _ 0 _ _ _ nE (ab _ rfl))
theorem Hs{i:Nat}{x:Str}{px a5:Pos}{ab l F:Expr}{ae:List Expr}{Υ:Pos}{wi:TI}{g:TG}{tc:TT}{ex:XK->TE}{E:XK}(hx:X.ex=[])(ce:X.stack=X.env::X.outer)(hf:X.env.frame=some X.env.locals)(hp:vG X E)(hN:X.N.Nodup)(c4:X.N[i]?=some x)(br:X.env.scope.names.lookup x=some .local)(hc:X.calm=true)(T:ϓ X f j k scope a)(hi:PI X l F wi)(hg:∀C K M B,PG (X.comp f scope a C K M B) l g)(ht:∀C K M B,PTs (X.comp f scope a C K M B) ae tc)(he:∀C K M B,PEx (ς X.prog X.w) (X.comp f scope a C K M B) ab ex)(hs:∀x,foldedSetIterable F X.env x=pure x:=by intro _;rfl)(ca:swapsWith (.ListComp ab [⟨l,F,ae,0⟩] scope Υ) (some (.Name x px)) a5.line X.env=pure true:=by rfl):PS X (.Assign [.Name x px] (.ListComp ab [⟨l,F,ae,0⟩] scope Υ) a5) (xq (xH j k wi g tc (ex E)) (qv i)):=by
 intro U s σ H D I h;rw[exec_Assign_Name_used _ _ _ _ ca];refine ah (bR (ah ?_));rw[arm_evalThenUse_ListComp];refine ah ?_;refine d5 (use:=some (assign (.Name x px) X.env)) rfl hs T.acn T.kind T.names (Ψ (hi U s σ H _ I h) λv s1 h1=>Ψ h1 λdr m h2=>?_);obtain⟨it,B,tn,J,H1,rfl,I1,Y,st,f1,R⟩:=h2;have Z:∀b∈B,b<m.heap.objs.size:=λb G=>let ⟨o,e,_⟩:=Y.obj _ _ st b G;av e;refine dk (eN T.ZK (by intro y hy;simp at hy) (λO Ω Ν=>?_) T.kind);dsimp only at Ω Ν ⊢;generalize a0:m.heap.push { cls:=.type "list",dict:=none,data:=.seq ([]:fy).toArray }=L at Ω Ν ⊢;have hC:L.objs.size=m.heap.objs.size+1:=by rw[<-a0,cg]
 have bk:m.heap.objs.size≠L.objs.size:=by rw[hC];exact aF (cV _)
 have ϒ:m.heap.objs.size<=L.objs.size:=by rw[hC];exact dC _
 have dE:∀b,b<m.heap.objs.size->b≠L.objs.size:=λb G=>by rw[hC];exact aF (dj G)
 have bf:∀b o,m.heap.get? b=some o->O.get? b=some o:=λb o e=>Ν.extBut b o (dE b (av e)) (ak _ (a0▸ak _ e));have ZL:∃n,O.get? m.heap.objs.size=some { cls:=.type "list",data:=.seq ([]:fy).toArray n }:=⟨_,Ν.extBut _ _ bk (ak _ (a0▸aL _ rfl))⟩;have nE:tn 0 O:=Y.keep _ _ _ st λb _ o e=>bf b o e;obtain⟨W,⟨m0,w0⟩,a6⟩:=R m.heap.objs.size I1.fresh;have Ic:=sG (t:=m.toks+([]:List (Str×Value)).length) T I1 ϒ (aB _) bk f1 Z bf Ω ZL;generalize V:X.comp f scope a L.objs.size m H1 B=Xc at Ic;have S:∀{H':Hp},(∀b∈B,H' b=none)->∀b∈B,kC Xc [] H' b:=λ{H'} hn b G=>by
  subst V;exact⟨hn b G,dE b (Z b G),(rZ T I1 ϒ f1 Z).ZI b G,.inl G,λx c e=>(f1 b G).2.2.2.2.1 x c (T.cells x c e),λp hp=>by cases hp⟩
 have cw:∀b∈B,upd H1 m.heap.objs.size (.lst []) b=none:=λb G=>by
  rw[aU (aF (Z b G))];exact(f1 b G).1
 have dG:Xc.calm=true:=by subst V;exact hc
 have an:∀Q:Shared,Q={ m with heap:=O,toks:=m.toks+([]:List (Str×Value)).length }->codeAny (model X.prog X.w) X.A (.compLoop (.ListComp ab [⟨l,F,ae,0⟩] scope Υ) 0 (.ref it) (.ref m.heap.objs.size) (compEnvC scope a L.objs.size X.env))
  (compPost (model X.prog X.w) X.A X.xe (some (assign (.Name x px) X.env)) (λ_ s'=>wpAny (model X.prog X.w) X.A (pure ()) (λ_ cl=>wpAny (model X.prog X.w) X.A (pure Flow.next) (SP X U D) X.xe cl) X.xe s') (.ref m.heap.objs.size) L.objs.size) Q:=by
  rintro Q rfl;refine uF (λn s'=>∃i ys a7 H',Inv Xc [] a7 H' s'/\tn i s'.heap/\(∀b∈B,H' b=none)/\W i n ys a7 H') ?_ m0 ⟨0,[],_,_,Ic,nE,cw,w0⟩;rintro n s3 ⟨i,ys,ai,H3,I3,bl,a8,w3⟩;rcases a6 i n ys ai H3 w3 with⟨stop,q⟩|⟨go,step⟩
  .subst V;refine Ψ (Y.done (X.comp f scope a L.objs.size m H1 B) rfl rfl rfl hc i [] s3 ai H3 _ I3 (S a8) bl stop) λr s4 ⟨hr,I4⟩=>?_;subst hr;obtain⟨m4,b4,_⟩:=id I4.loc;have J:=oG I1 ϒ f1 I4 (h':=s4.heap) (Heap.SameBut.refl _ _);have a9:L.objs.size≠X.env.locals:=eg (aI I1.lt ϒ);have cy:X.s₀.heap.objs.size<=L.objs.size:=bh I1.sz ϒ;have cc:∀y c,X.env.cells.lookup y=some c->c≠L.objs.size:=λy c e=>by
    obtain⟨v',o',Z2,_⟩:=I1.cell y c e;exact aF (aI (av Z2) ϒ)
   have cp:∀p∈X.pn++U,p.1≠L.objs.size:=λp hp=>by
    obtain⟨Z2,_⟩:=I1.pin p hp;exact aF (aI (av Z2) ϒ)
   refine Ew (uu (v:=.ref m.heap.objs.size) J hN c4 (.inl br) rfl (λs5 I5 ⟨ad,sb,had⟩=>?_) (.inr br));have cs:L.objs.size≠ad:=by
    rcases had with rfl|had
    .exact a9
    .exact(cc _ _ had).symm
   obtain⟨oo,es,ep,e1,e2⟩:=b4;refine⟨m4,⟨oo,es,ep,(sb.2 _ cs).trans e1,e2⟩,λh' cH=>aD (aD ⟨_,H3,?_,q⟩)⟩;exact I5.turned (it:=L.objs.size) (t':=s5.toks) (λb o n e=>cH.extBut b o n e) I4.free a9 (.inr cy) cc cp
  .subst V;refine Ψ (Y.item (X.comp f scope a L.objs.size m H1 B) rfl rfl rfl hc i [] s3 ai H3 _ I3 (S a8) bl go) λr s4 ⟨u,hr,h4⟩=>?_;subst hr;refine Ψ h4 λ_ s5 ⟨x,H5,I5,r5,y5,Z3,co⟩=>?_;have cT:=I5.pinned (S co) (Y.obj _ _ Z3);have ar:∀{aS:St}{H7:Hp}{s7:Shared},Inv (X.comp f scope a L.objs.size m H1 B) ([]++jL B s5.heap) aS H7 s7->Inv (X.comp f scope a L.objs.size m H1 B) [] aS H7 s7/\tn (i+1) s7.heap/\∀b∈B,H7 b=none:=λ{aS H7 s7} I7=>by
    refine⟨I7.Ϗ,Y.keep _ _ _ Z3 λb G o e=>(I7.pin (b,o) (aE _ (aE _ (fF G e)))).1,λb G=>?_⟩;obtain⟨o,e,d⟩:=Y.obj _ _ Z3 b G;exact(I7.pin (b,o) (aE _ (aE _ (fF G e)))).2.1
   refine Ψ (hg _ _ _ _ _ s5 ai H5 x u _ cT r5 (step x H5 y5)) λ_ s6 ⟨P,H6,I6,q6⟩=>?_;refine uy (ht _ _ _ _ _ s6 P H6 _ I6 q6) λok s7 H7 I7 q7=>?_;cases ok with
   | false=>
     rw[ag aN]at q7 ⊢;obtain⟨m',hm,w7⟩:=q7;obtain⟨J1,J2,J3⟩:=ar I7;exact⟨m',hm,i+1,ys,P,H7,J1,J2,J3,w7⟩
   | true=>
     rw[aj rfl]at q7 ⊢;refine aX (he _ _ _ _ E _ s7 P H7 _ I7 q7) (λy s8 ⟨yv,H8,I8,r8,cd,c2,m',hm,w8⟩=>?_) λe s8 z=>AR hx ce hf hp I1 ϒ f1 (Y.obj _ _ Z3) z;refine Ψ (eR _ s8 P H8 (.ref m.heap.objs.size) [yv] _ [y] (λv' H'=>W (i+1) m' (ys++[yv]) P H') I8 rfl (.cons r8 .nil) ⟨_,ys,yv,rfl,rfl,cd,c2,w8⟩) λv9 s9 ⟨_,H9,I9,_,w9⟩=>?_;obtain⟨J1,J2,J3⟩:=ar I9;exact⟨m',hm,i+1,ys++[yv],P,H9,J1,J2,J3,w9⟩
 exact eC (an _ rfl) (Y.self _ 0 _ _ _ nE (an _ rfl))
end
section
variable{c:Program}{w:World}{A:Around}{E:eF}{h:Heap}{g:Array GenState}{d:Drawn}{t:Nat}{j:OsState}
variable{I q:Str}{C N:Addr}{v n f:fy}{i:Bool}{p:gy}{l:fy}{D:Bool}{k:Option Bool}{y:Option Addr}{G s z u H:Option Value}{B a m:String}
theorem za(F:ExcBaseFacts B a m f)(T:OwnTail h f n){X:f5}{eG:fy}{V:Addr}{Z:Obj}{Q:Fin->Shared->Prop}(L:h.get? C=some (excClassObj I q C N v n i p l D k y G s z u H a))(hn:h.Ns N X)(hi:X "__init__"=some (.ref V))(R:h.get? V=some Z)(P:Z.cls=.type "function")(hq:∀Y e,Heap.MadeExcOf h Y e (.ref C) eG->wpAny (model c w) A (call (.ref V) (.ref e::eG)) (λr W=>r=.none/\Q (.done (.ret (.ref e))) W) E ⟨Y,g,d,t,j⟩)(S:eG.length<=sizeLine):wpAny (model c w) A (Builtin.«type.__call__» ⟨.ref C::eG,[]⟩) Q E ⟨h,g,d,t,j⟩:=by
 repeat (first|with_reducible refine dI L ?_|with_reducible refine wpAny_madeBy_exc L ?_|wp_step)
 refine codeAny_call_builtin_code (Code.quiet_builtin _ F.quiet) (wpAny_check_new_subT F T L ?_);refine codeAny_exc_new_subT F T L ?_ S;show wpAny _ _ _ _ _ _;have up:∀b o,h.get? b=some o->((h.push { cls:=.type "tuple",data:=.seq eG.toArray }).push { cls:=.ref C,data:=.fields #[.ref h.objs.size,.none,.none,.none,.bool false,.none] }).get? b=some o:=λb o e=>ak _ (ak _ e);have J:=up _ _ L;have U:=up _ _ R;have O:=hn.keeps up;have T1:=T.keeps up;have K:((h.push { cls:=.type "tuple",data:=.seq eG.toArray }).push { cls:=.ref C,data:=.fields #[.ref h.objs.size,.none,.none,.none,.bool false,.none] }).get? (h.objs.size+1)=some { cls:=.ref C,data:=.fields #[.ref h.objs.size,.none,.none,.none,.bool false,.none] }:=by heap_get
 have M:(Value.ref C::n).contains (.ref C)=true:=by simp
 unfold isInstance
 repeat (first|with_reducible refine dI K ?_|(with_reducible refine wpAny_isSubtype_exc J ?_;rw[M])|wp_step)
 show wpAny _ _ (typeLookup (.ref C) _) _ _ _;refine wpAny_typeLookup_tail J O T1 F.mroIs F.init.lookup ?_;rw[hi];refine eK (ah ?_);unfold bindSpecial;refine ah (wpAny_typeOf (T:="function") ⟨_,U,P⟩ ?_);rw[aj (by decide)];refine aD (ah (aX (hq _ (h.objs.size+1) ⟨up,d0 (dC _),h.objs.size,K,d0 (aB _),?_⟩) (λr W hr=>?_) λ_ _ x=>x))
 .exact ak _ (Heap.get?_push_at rfl rfl)
 .obtain⟨rfl,hQ⟩:=hr
  wp_walk
  exact hQ
theorem Na(F:ExcBaseFacts B a m f)(T:OwnTail h f n){M:f5}{eG:fy}{L:Addr}{O:Obj}{Q:eF}(b:h.get? C=some (excClassObj I q C N v n i p l D k y G s z u H a))(R:h.Ns N M)(U:M "__init__"=some (.ref L))(J:h.get? L=some O)(x:O.cls=.type "function")(V:∀o e,Heap.MadeExcOf h o e (.ref C) eG->wpAny (model c w) (A.under (.builtin "type.__call__" ⟨.ref C::eG,[]⟩)) (call (.ref L) (.ref e::eG)) (λr P=>r=.none/\Q (.ref e) P) E ⟨o,g,d,t,j⟩)(K:eG.length<=sizeLine):wpAny (model c w) A (call (.ref C) eG) Q E ⟨h,g,d,t,j⟩:=by
 have W:=tc_lookup;have Y:=tc_bind (.ref C);have X:(⟨h,g,d,t,j⟩:Shared).TypeIs (.ref C) "type":=⟨_,b,rfl⟩;refine fK (codeAny_of_tree ?_);show wpAny _ _ (callAny (.ref C) _) _ _ _
 repeat (any_goals (first|assumption|with_reducible refine dI b ?_|wp_step))
 refine⟨rfl,?_⟩;refine codeAny_call_builtin_at (Code.quiet_builtin _ (by decide +kernel)) entry_typeCall (wpAny_check_type_call_sub b (za F T b R U J x (λo e S=>?_) K));exact V o e S
end
section
variable{M:Model}{A:Around}{E:eF}{a:Env}
variable{nm q:Str}{C N:Addr}{bs bm:fy}{hdct:Bool}{sn:gy}{sub:fy}{ab:Bool}{col:Option Bool}{dd:Option Addr}{k0 k1 k2 k3 k5:Option Value}{newId:String}
theorem sk{s:Shared}{x:Sem Value}{Q:Flow->Shared->Prop}(n:bm.contains (.type "BaseException")=true)(m:A.handled=none)(h:wpAny M A x (λv b=>∃e l i k,v=.ref e/\b.heap.get? C=some (excClassObj nm q C N bs bm hdct sn sub ab col dd k0 k1 k2 k3 k5 newId)/\b.heap.get? e=some { cls:=.ref C,dict:=i,data:=.fields #[l,.none,.none,.none,.bool false,.none],slots:=k }/\E (.ref e) b) E s):wpAny M A (raiseStmt a (some x) none) Q E s:=by
 have f:(Value.ref C::bm).contains (.type "BaseException")=true:=by rw[cQ,n,ja]
 unfold raiseStmt;refine ah (aX h (λv b c=>?_) λ_ _ x=>x);obtain⟨e,l,i,k,rfl,j,p,o⟩:=c;obtain⟨t,g,d,r,os⟩:=b
 repeat (first|with_reducible refine dI p ?_|with_reducible refine dI j ?_|(with_reducible refine wpAny_isSubtype_exc j ?_;rw[f])|wp_step)
 exact wpAny_raiseNew_none m o
end
section
variable{c:Program}{w:World}{A:Around}{E:eF}{s:Shared}{i:Env}
variable{nm q:Str}{C N:Addr}{bs bm j:fy}{hdct:Bool}{sn:gy}{sub:fy}{ab:Bool}{col:Option Bool}{dd:Option Addr}{k0 k1 k2 k3 k5:Option Value}{B b k:String}
theorem xc(F:ExcBaseFacts B b k j){x:Str}{np P pos:Pos}{t:List Expr}{Q:Flow->Shared->Prop}(L:bm.contains (.type "BaseException")=true)(K:A.handled=none)(U:(backTo P (starEach t i)).any (·.1)=false)(h:wpAny (model c w) A (eval (.Name x np) i) (λf o=>f=.ref C/\wpAny (model c w) A (evalArgs (.ref C) true (backTo P (starEach t i)) [])
 (λa l=>a.kw=[]/\a.pos.length<=sizeLine/\∃J H V,l.heap.get? C=some (excClassObj nm q C N bs bm hdct sn sub ab col dd k0 k1 k2 k3 k5 b)/\l.heap.Ns N J/\OwnTail l.heap j bm/\J "__init__"=some (.ref H)/\l.heap.get? H=some V/\V.cls=.type "function"/\∀G e,Heap.MadeExcOf l.heap G e (.ref C) a.pos->wpAny (model c w) (A.under (.builtin "type.__call__" ⟨.ref C::a.pos,[]⟩)) (call (.ref H) (.ref e::a.pos)) (λr D=>r=.none/\D.heap.get? C=some (excClassObj nm q C N bs bm hdct sn sub ab col dd k0 k1 k2 k3 k5 b)/\(∃W O S,D.heap.get? e=some { cls:=.ref C,dict:=O,data:=.fields #[W,.none,.none,.none,.bool false,.none],slots:=S })/\E (.ref e) D) E { l with heap:=G }) E o) E s):wpAny (model c w) A (exec (.Raise (some (.Call (.Name x np) t [] P)) none pos) i) Q E s:=by
 rw[arm_exec_Raise]
 first
  | refine ah (bR (sk (C:=C) (nm:=nm) (q:=q) (N:=N) (bs:=bs) (bm:=bm) (hdct:=hdct) (sn:=sn) (sub:=sub) (ab:=ab) (col:=col) (dd:=dd) (k0:=k0) (k1:=k1) (k2:=k2) (k3:=k3) (k5:=k5) (newId:=b) L K (ah (aX (ig (aX h (λf o m=>?_) λ_ _ x=>x)) (λv u n=>ah (bR (aD n))) λ_ _ x=>x))))
  | (simp only[evalOpt,Option.map];refine ah (bR (sk (C:=C) (nm:=nm) (q:=q) (N:=N) (bs:=bs) (bm:=bm) (hdct:=hdct) (sn:=sn) (sub:=sub) (ab:=ab) (col:=col) (dd:=dd) (k0:=k0) (k1:=k1) (k2:=k2) (k3:=k3) (k5:=k5) (newId:=b) L K (ah (aX (ig (aX h (λf o m=>?_) λ_ _ x=>x)) (λv u n=>ah (bR (aD n))) λ_ _ x=>x)))))
  | (refine ah (bR (sk (C:=C) (nm:=nm) (q:=q) (N:=N) (bs:=bs) (bm:=bm) (hdct:=hdct) (sn:=sn) (sub:=sub) (ab:=ab) (col:=col) (dd:=dd) (k0:=k0) (k1:=k1) (k2:=k2) (k3:=k3) (k5:=k5) (newId:=b) L K ?_));refine ah (aX (ig (aX h (λf o m=>?_) λ_ _ x=>x)) (λv u n=>ah (bR (aD n))) λ_ _ x=>x))
 obtain⟨rfl,m⟩:=m;unfold callWith;refine ah (eK (aX m (λa l p=>ah (bR ?_)) λ_ _ x=>x));obtain⟨Y,R⟩:=a;obtain⟨M,z,J,H,V,Z,hn,T,hi,hf,I,p⟩:=p;obtain rfl:R=[]:=M;obtain⟨hp,g,d,tk,os⟩:=l;simp only[U];refine ah (wpAny_keeperOf_exc Z ?_);refine ah (Na F T Z hn hi hf I (λG e hm=>aX (p G e hm) (λr D X=>⟨X.1,ah (eK (wpAny_point (aD ?_)))⟩) λ_ _ y=>y) z);obtain⟨_,c1,⟨W,O,S,c2⟩,c3⟩:=X;exact⟨e,W,O,S,rfl,c1,c2,c3⟩
end
def Z0(c:Addr)(a:Value)(e:Option Addr):HO:=.ext λh=>∃b d,h.get? c=some { cls:=a,dict:=e,data:=.fields #[b,.none,.none,.none,.bool false,.none],slots:=d }
def del(H:Hp)(a:Addr):Hp:=λb=>if b=a then none else H b
theorem pK{H:Hp}{a b:Addr}(h:b≠a):del H a b=H b:=ag h
theorem wC{H:Hp}{a:Addr}:del H a a=none:=aj rfl
section
variable{X:Cx}{d:fv}{f:St}{H:Hp}{s:Shared}
theorem Inv.aeU{g:Addr}{h:Value}{j:Option Addr}(I:Inv X d f H s)(l:Loose X d H g)(e:∃m k,s.heap.get? g=some { cls:=h,dict:=j,data:=.fields #[m,.none,.none,.none,.bool false,.none],slots:=k }):Inv X d f (upd H g (Z0 g h j)) s:=by
 have ne:∀b,b≠g->upd H g (Z0 g h j) b=H b:=λb z=>aU z;have i:∀b u,H b=some u->upd H g (Z0 g h j) b=some u:=λb u z=>by rw[ne b (cC z l.un)];exact z
 refine⟨I.ok,I.os,I.bare,⟨I.base.keep,I.base.slot,λb o q n x=>?_,I.base.there,λb v q=>i _ _ (I.base.By b v q),λb o u q=>i _ _ (I.base.lT b o u q),λb y q=>?_⟩,I.loc,I.cell,?_,λx c q=>?_,λp w=>?_,?_,I.len⟩
 .rw[ne b (by rintro rfl;rw[l.new]at q;cases q)];exact I.base.free b o q n x
 .obtain⟨more,z⟩:=I.base.BV b y q;exact⟨more,i _ _ z⟩
 .rw[ne _ (Ne.symm l.loc)];exact I.free
 .rw[ne _ (l.cel x c q)];exact I.ύ x c q
 .obtain⟨z1,z2,z3,z4,z5⟩:=I.pin p w;exact⟨z1,by rw[ne _ (l.pin p w)];exact z2,z3,z4,z5⟩
 .intro b u q;by_cases z:b=g
  .subst z;rw[aq]at q;cases q;obtain⟨m,k,t⟩:=e;refine⟨⟨m,k,t⟩,⟨_,t⟩,?_⟩;rintro C D ⟨a,l,A⟩ B;exact⟨a,l,B _ A⟩
  .rw[ne b z]at q;exact(I.Β b u q).Bv (λ_ _ _ r=>r) (λc r=>i _ _ r) λc v r=>i _ _ r
theorem Inv.adt{a:Addr}{j:Heap->Prop}(I:Inv X d f H s)(e:H a=some (.ext j)):Inv X d f (del H a) s:=by
 have g:∀b u,H b=some u->b≠a->del H a b=some u:=λb u z n=>by rw[pK n];exact z
 have h:∀b,H b=none->del H a b=none:=λb z=>by
  by_cases q:b=a
  .rw[q,wC]
  .rw[pK q];exact z
 refine⟨I.ok,I.os,I.bare,⟨I.base.keep,I.base.slot,λb o q n x=>h _ (I.base.free b o q n x),I.base.there,λb i q=>?_,λb o u q=>?_,λb k q=>?_⟩,I.loc,I.cell,h _ I.free,λx c q=>h _ (I.ύ x c q),λp l=>?_,?_,I.len⟩
 .have z:=I.base.By b i q;exact g _ _ z (by rintro rfl;rw[e]at z;cases z)
 .have z:=I.base.lT b o u q;exact g _ _ z (by rintro rfl;rw[e]at z;cases z)
 .obtain⟨more,z⟩:=I.base.BV b k q;exact⟨more,g _ _ z (by rintro rfl;rw[e]at z;cases z)⟩
 .obtain⟨z1,z2,z3,z4,z5⟩:=I.pin p l;exact⟨z1,h _ z2,z3,z4,z5⟩
 .intro b u q;have nb:b≠a:=by rintro rfl;rw[wC]at q;cases q
  rw[pK nb]at q;exact(I.Β b u q).Bv (λ_ _ _ r=>r) (λc r=>g _ _ r (by rintro rfl;rw[e]at r;cases r)) λc i r=>g _ _ r (by rintro rfl;rw[e]at r;cases r)
end
def Iy(X:Cx)(E:XK):Prop:=∀(a:fv)(e:St)(H:Hp)(s:Shared)(c:Addr)(b:Value)(d:Option Addr),Inv X a e H s->mD s.heap c b d .none->Loose X a H c->E b d H->X.xe (.ref c) s
section
variable{P:Program}{w:World}{K:fg}{h:f5}{c:Heap}{N:gy}{e:Str}{d:Scope}{f:Addr}{g:Value}{A:Around}{a:List Env}{s:Shared}{H:Hp}{E:XK}
theorem vD:Iy (mS (ς P w) P w K h c N e d f g A a s H E) E:=by
 intro l x m v t i p J r le q;refine Bj (base:=c) J.ok.frames J.stack rfl r λy u j k n=>?_;have o:∀b∈ϗ (envOfC e d s.heap.objs.size f g::a),m b=none:=J.eQ;refine⟨t,u,i,p,m,rfl,J.os,J.bare,sy J k ?_,pN J.Β k o ?_,le.un,qZ J.Β n,le.new,lF J n,j,q⟩
 .intro b hb;rw[ax.mp hb];exact le.new
 .intro b hb;rw[ax.mp hb];exact le.un
end
theorem KS{K:fg}{h:Heap}{N:Addr}{a:f5}{n:Str}{v:Value}(X:K.In h)(G:h.Ns N a)(e:PySem.W.nsIn K N n=some (some v)):a n=some v:=by
 obtain⟨o,i,j,f,g,_,b⟩:=G;unfold PySem.W.nsIn at e;split at e
 .rename_i c d es' n' sl q
  have:=X _ _ q;rw[f]at this;cases this;cases g;split at e
  .rename_i en he
   cases e;rw[<-b];unfold nsFind findBy;rw[<-Array.find?_toList,he]
   rfl
  .rename_i he
   split at e<;>cases e
 .cases e
def lG(K:fg)(C e:Addr):Prop:=∃(p g:Str)(N:Addr)(j d:fy)(a:Bool)(f:gy)(c:fy)(m:Bool)(b:Option Bool)(k:Option Addr)(n h l i o:Option Value),K.lookup C=some (excClassObj p g C N j d a f c m b k n h l i o "ValueError.__new__")/\PySem.W.nsOkIn K N=true/\PySem.W.nsIn K N "__init__"=some (some (.ref e))/\PySem.W.tailIn K bmV d=true/\PySem.W.isFn K (.ref e)=true
def AJ(C:Addr)(f:Sp)(E:XK)(t:TA):TS:=λ_ g H=>t g H λb e=>b.length<=sizeLine/\∀a,e a=none->f (.ref a::b) (upd e a (Z0 a (.ref C) none)) (λv c=>v=.Θ/\∃d,c a=some (Z0 a (.ref C) d)/\E (.ref C) d (del c a)) λ_ _ _=>False
section
variable{X:Cx}{x:Str}{o c f:Pos}{b:Expr}{a:List Expr}{t:TA}{C d:Addr}{E:XK}{l:Zu}{k:Nat}{n:FuncData}{i:gy}{j:Sp}
theorem qm(q:lG X.K C d)(F:υ X.prog X.w X.K X.mg X.base l k d n i j)(hq:bC l)(hr:Τ (k+1) X.A)(hb:Binds X.K n i [])(hx:X.ex=[])(hc:X.calm=true)(hR:Iy X E)(hg:Gl X x)(hm:X.mg x=some (.ref C))(ha:PA X (b::a) t)(hdb:(x==("__debug__":Str))=false:=by decide)(he:starEach (b::a) X.env=(false,eval b X.env)::starEach a X.env:=by rfl)(gT:(backTo c (starEach a X.env)).any (·.1)=false:=by rfl):PS X (.Raise (some (.Call (.Name x o) (b::a) [] c)) none f) (AJ C j E t):=by
 intro G s U H D I h;obtain⟨nm,qn,N,bs,bm,hdct,sn,sub,ab,col,dd,k0,k1,k2,k3,k5,Y,z5,z6,z4,z7⟩:=q;have B:=I.mod.kin;have T0:=gN B z4;have N0:X.base.Ns N (X.base.nsMap N):=.of_isNs (PySem.W.isNs_of_in B z5);have n0:=KS B N0 z6;obtain⟨P,lI,cI⟩:∃P,X.K.lookup d=some P/\P.cls=.type "function":=by
  have z:=fM.mp z7;unfold PySem.W.typeIn at z;exact bP.mp z
 have hp:(backTo c (starEach (b::a) X.env)).any (·.1)=false:=by
  rw[he];show(false||(backTo c (starEach a X.env)).any (·.1))=false;rw[gT]
  rfl
 refine xc (C:=C) (nm:=nm) (q:=qn) (N:=N) (bs:=bs) (bm:=bm) (hdct:=hdct) (sn:=sn) (sub:=sub) (ab:=ab) (col:=col) (dd:=dd) (k0:=k0) (k1:=k1) (k2:=k2) (k3:=k3) (k5:=k5) eZ
  (T0.hasType (by decide +kernel)) (I.ok.hd hc) hp (mQ I hg hm ⟨rfl,?_⟩ hdb)
 have g:=ha c G s U H _ I h;rw[he]at g ⊢;refine fe (Ψ g λL S ⟨vs,Z,J,r1,q1⟩=>⟨rfl,by show L.length<=_;rw[<-r1.length];exact q1.1,X.base.nsMap N,d,P,J.bk _ _ (B _ _ Y),N0.keeps J.bk,T0.keeps J.bk,n0,J.bk _ _ (B _ _ lI),cI,λh' p m=>?_⟩);obtain⟨tt,m1,_,_⟩:=m.there;have le:Loose X G Z p:=by
  obtain⟨a1,a2,a3⟩:=J.apart m.new;refine⟨qZ J.Β m.new,?_,a1,a2,a3⟩;rcases J.young m.new with y|y
  .exact y
  .rw[hx]at y;cases y
 have T:Inv X G U (upd Z p (Z0 p (.ref C) none)) { S with heap:=h' }:=Inv.aeU (J.kept (t':=S.toks) m.keeps) le ⟨_,_,m1⟩;have O:=q1.2 p le.un;have r2:Vals (V.ref p::vs) (Value.ref p::L):=.cons rfl r1;have hl:(Value.ref p::L).length=i.length:=by rw[<-r2.length];exact F.len _ _ _ _ O
 refine fK (eW (F.run _ X.stack _ _ ⟨Value.ref p::L,[]⟩ (Value.ref p::L) _ _ _ (hr.make C L []) (T.ade.make C L []) (by have:=hb { S with heap:=h' } (Value.ref p::L) T.ZD (by rw[cn];exact hl);rw[cn]at this;exact this) r2 O) λr s' M=>?_);cases r with
 | error e=>exact(hq _ _ _ _ _ M).elim
 | ok fl=>
   cases fl with
   | ret u=>
     obtain⟨v,H',Q,rv,ev,R,e3,q3⟩:=T.after M;subst ev;obtain rfl:u=Value.none:=rv;obtain⟨⟨a0,sl,e4⟩,_,_⟩:=(show Μ X.prog X.w H' s'.heap p (Z0 p (.ref C) R)from Q.Β p _ e3);refine⟨rfl,Q.bk _ _ (B _ _ Y),⟨a0,R,sl,e4⟩,?_⟩;refine hR G U (del H' p) s' p (.ref C) R (Q.adt e3) ⟨_,_,e4,rfl,rfl,rfl,rfl,rfl⟩ ⟨wC,le.new,le.loc,le.cel,le.pin⟩ q3
   | next=>exact False.elim M
   | brk=>exact False.elim M
   | cont=>exact False.elim M
end
structure acw(K:fg)(Tl:Addr):Prop where
 ga:PySem.W.specialIn K (.ref Tl) "__getattribute__"=some (some (.builtin "type.__getattribute__"))
 rd:PySem.W.readsIn K Tl (.type "type")=true
 fd:PySem.W.findCls K (.ref Tl) (.type "type") "__init__"=some (.val (.builtin "ValueError.__init__"))
def PQ(K:fg)(t:TA):TE:=λd H Q=>t d H λc b=>∃a C e f eG,c=.ref a::eG/\eG.length<=sizeLine/\lG K C e/\b a=some (Z0 a (.ref C) f)/\Q .Θ b
section
variable{X:Cx}{x:Str}{r j i:Pos}{m:Expr}{k:List Expr}{t:TA}{v:Addr}{p:Sem Bool}
theorem vR(b:acw X.K v)(hg:Gl X x)(hm:X.mg x=some (.ref v))(ha:PA X (m::k) t)(hdb:(x==("__debug__":Str))=false:=by decide)(he:starEach (m::k) X.env=(false,eval m X.env)::starEach k X.env:=by rfl)(gT:(backTo i (starEach k X.env)).any (·.1)=false:=by rfl)(ht:eval (.Call (.Attribute (.Name x r) "__init__" j) (m::k) [] i) X.env=(do
 let Z <-eval (.Name x r) X.env
 standAt j.atName
 let (f,first) <-holding [Z] (getMethod Z "__init__" p)
 callWith i f first (backTo i (starEach (m::k) X.env)) (backToKw i (keywordEach [] X.env))):=by rfl):PE X (.Call (.Attribute (.Name x r) "__init__" j) (m::k) [] i) (PQ X.K t):=by
 intro D s σ H Q I h;refine f8 (pl:=p) (mQ I hg hm ?_ hdb) ht;refine PySem.W.method_cls I.ZD b.ga (PySem.W.cls_value I.ZD b.rd b.fd (by decide +kernel) ?_);have I0:=I.tok (s.toks+1);have U:=ha i D _ σ H _ I0 h;rw[he]at U ⊢;refine PySem.W.callWith_of (P:=λ_=>True) (by show((false||(backTo i (starEach k X.env)).any (·.1))||false)=false;rw[gT];rfl) (λh _=>⟨.machine,.inr (.inl rfl),.now⟩) (fe (Ψ U λus s1 ⟨vs,J,M,r1,y,C,fI,L,eG,ev,hl,q,S,q1⟩=>⟨trivial,?_⟩));subst ev;obtain⟨u,A,rfl,ru,rr⟩:∃u A,us=u::A/\RelV (.ref y) u/\Vals eG A:=by cases r1 with|cons a c=>exact⟨_,_,rfl,a,c⟩
 obtain rfl:u=Value.ref y:=ru;obtain⟨nm,qn,N,bs,bm,Y,sn,a6,ab,a5,dd,k0,k1,k2,k3,k5,ho,z5,z6,z4,z7⟩:=q;have B:=I.mod.kin;have T0:=(gN B z4).keeps M.bk;have hC:=M.bk _ _ (B _ _ ho);obtain⟨⟨O,sl,T⟩,_,_⟩:=(show Μ X.prog X.w J s1.heap y (Z0 y (.ref C) L)from M.Β y _ S);have F:=eZ;obtain⟨E,g,d,V,os⟩:=s1;refine fK (codeAny_call_builtin F.init.plain F.initEntry (wpAny_check_init_subT F T0 hC T rfl ?_))
 wp_walk
 have ul:A.length=eG.length:=rr.length.symm;rw[ag (by rw[aJ];lia)]
 wp_walk
 have lt:y<E.objs.size:=av T;have e5:(E.push { cls:=Value.type "tuple",data:=Data.seq A.toArray }).get? y=some { cls:=.ref C,dict:=L,data:=.fields #[O,.none,.none,.none,.bool false,.none],slots:=sl }:=ak _ T;have G:EP X D σ Q .none ⟨(E.push { cls:=Value.type "tuple",data:=Data.seq A.toArray }).update y (Obj.mapFields λx=>x.setIfInBounds 0 (Value.ref E.objs.size)),g,d,V,os⟩:=by
  have R:=cx (Obj.mapFields λx=>x.setIfInBounds 0 (Value.ref E.objs.size)) e5 rfl;have I2:=M.write (x:=y) (e:=y) (o:=Z0 y (.ref C) L) (t':=V) (h':=(E.push { cls:=Value.type "tuple",data:=Data.seq A.toArray }).update y (Obj.mapFields λx=>x.setIfInBounds 0 (Value.ref E.objs.size))) (by rw[S];trivial) (.inl rfl) (λb u n z=>by rw[bL _ _ (Ne.symm n)];exact ak _ z) ⟨_,R⟩
   ⟨⟨_,_,R⟩,⟨_,R⟩,by
    rintro g1 g2 ⟨a,l,a1⟩ kk;exact⟨a,l,kk _ a1⟩⟩
  have k:upd J y (Z0 y (.ref C) L)=J:=by
   funext b
   by_cases z:b=y
   .rw[z,aq,S]
   .rw[aU z]
  rw[k]at I2;exact⟨.Θ,J,I2,rfl,q1⟩
 show wpAny _ _ (match O with|Value.ref a=>letGo [O]|x=>pure ()) _ _ _;cases O with
 | ref a=>exact iX (aD G)
 | _=>exact aD (aD G)
end
end L2
namespace L2
open PySem PySem.Spec PyProof.Rows PySem.W PySem.Builtin PySem.Builtin.ObjectAttr
theorem LM(a:Value):refuseLoop a "__setattr__" bmV=pure ():=by kernel_rfl
section
variable{K:fg}{k:Program}{w:World}{A:Around}{s:Shared}{x C Tl:Addr}{R:Result->Shared->Prop}
theorem UR{y:Obj}{t:Option Obj}{c:Str}{l:Tok}{v:Value}{m:ClassData}(X:K.In s.heap)(I:PySem.W.InstAt s.heap x y C t)(p:PySem.W.clsIn K C=some m)(g:m.mro=.ref C::.ref Tl::bmV)(q:PySem.W.takerIn K C c=some none)(h:∀b,wpAny (model k w) A.in1 (storeInOwnDict (.ref x) (.ref C) (.str c l) c v b)
 (λn j=>match n with|.done f=>R (.ok f) j|.again c'=>c'.quiet=true/\codeAny (model k w) A c' R j) (λe j=>R (.error e) j) s):codeAny (model k w) A (.call (.builtin "object.__setattr__") ⟨[.ref x,.str c l,v],[]⟩) R s:=by
 have i:=PySem.F.store_object;have ne:m.mro.isEmpty=false:=by rw[g];rfl
 have o:PySem.W.Looks (model k w) s.heap (isInstance (.ref x) (.type "object")) true:=I.type.andThen (gK X (by unfold PySem.W.mroIn;rw[p,iT,ag (by rw[ne];decide),g];simp));refine codeAny_call_builtin i.slot.plain i.entry (@check_slot (model k w) _ _ s "object.__setattr__" "object" "__setattr__" (.ref x) [.str c l,v] [] _ i.kind i.split o (i.args (.ref x) (.str c l) v) ?_);obtain⟨d,E,r⟩:=Option.bind_eq_some_iff.mp q;have u:PySem.W.Looks (model k w) s.heap (mroOf (.ref C)) m.mro:=(gG X p).andThen .now;have D:PySem.W.Looks (model k w) s.heap (storeTaker? d) none:=by
  cases d with
  | none=>exact .now
  | some a=>
    obtain⟨b,B,z⟩:=bP.mp r;refine(PySem.W.looks_takesIn X B).andThen ?_;cases b
    .exact .now
    .cases z
 rw[PySem.W.osa_eq,refuse_eq];refine ah (ah (I.type.here (ah (u.here ?_))));rw[g,refuseLoop_ref,refuseLoop_ref,LM];refine aD (ah (I.type.here (ah ((jO X E).here (ah (D.here ?_))))));exact h _
theorem OQ{a:Str}{F:Tok}{v:Value}{b:Bool}{l:Obj}{U:Array Value}{G:ClassData}{Q:Fin->Shared->Prop}{E:eF}(X:K.In s.heap)(p:s.heap.get? x=some l)(O:l.cls=.ref C)(Y:l.dict=none)(H:l.data=.fields U)(T:PySem.W.clsIn K C=some G)(S:G.hasDict=true)(h:∀m u,s.heap.get? u=none->m.get? x=some { l with dict:=some u }->m.Ns1 u (λy=>if y=a then some v else none)->(∀c o,c≠x->s.heap.get? c=some o->m.get? c=some o)->Q (.done (.ret .none)) { s with heap:=m,toks:=s.toks+1 }):wpAny (model k w) A (storeInOwnDict (.ref x) (.ref C) (.str a F) a v b) Q E s:=by
 obtain⟨f,g,d,t,os⟩:=s;have L:=gG (M:=model k w) X T;unfold storeInOwnDict ownDictForStores instanceDict;refine ah (aD ?_);simp only[show(Value.ref C==Value.type "module")=false from rfl,ck,if_false];refine ah (ah (dI p ?_));rw[O];refine ah (L.at ?_);rw[S,Y,H];show wpAny _ _ (do let d <-alloc { cls:=Value.type "dict",data:=Data.dict #[] };update x λo=>{ cls:=o.cls,dict:=some d,data:=o.data,slots:=o.slots };dictMade (Value.ref C) x d) _ _ _;have I:=ak { cls:=Value.type "dict",data:=Data.dict #[] } p;have lt:x<f.objs.size:=av p;refine ah (wpAny_alloc' (ah (wpAny_update' (o:=l) I ?_)));show wpAny _ _ (pure (some f.objs.size)) _ _ _;refine aD ?_;show wpAny _ _ (storeInDict f.objs.size (Value.str a F) a v) _ _ _;unfold storeInDict;refine ah (aD (ah ?_));have P:((f.push { cls:=Value.type "dict",data:=Data.dict #[] }).update x λo=>{ cls:=o.cls,dict:=some f.objs.size,data:=o.data,slots:=o.slots }).get? f.objs.size=some { cls:=Value.type "dict",data:=Data.dict #[] }:=by
  rw[bL _ _ (aF lt)];exact aL _ rfl
 have ns:((f.push { cls:=Value.type "dict",data:=Data.dict #[] }).update x λo=>{ cls:=o.cls,dict:=some f.objs.size,data:=o.data,slots:=o.slots }).Ns1 f.objs.size (λ_=>none):=by
  refine⟨_,#[],_,P,rfl,?_,?_,λ_=>rfl⟩
  .intro e p;simp at p
  .first|exact acx|(unfold UniqKeys;simp)|(intro i j;simp)|decide
 refine wpAny_nsSet1 (s:=⟨_,g,d,t,os⟩) ns λm q n=>?_;obtain⟨Z,N,V,r,D,B⟩:=q.count (PySem.Within.cons a v (ns:=[]) (λ_ z=>(z rfl).elim));refine ah (wpAny_lookBehind r (by rw[D];exact pastItsLine_dict (bh B (by show 1<=sizeLine+1;lia))) ?_);refine aD (h m f.objs.size (d0 (aB _)) ?_ q λc o J e=>?_)
 .rw[n.2 _ (aF lt),cx _ I (de H)]
 .have lc:=av e;rw[n.2 _ (aF lc),bL _ _ (Ne.symm J)];exact ak _ e
end
section
variable{X:Cx}{d:fv}{e:St}{H:Hp}{s:Shared}
theorem Inv.aeX{a:Addr}{o:HO}(I:Inv X d e H s)(l:Loose X d H a)(ok:Μ X.prog X.w (upd H a o) s.heap a o):Inv X d e (upd H a o) s:=by
 have ne:∀b,b≠a->upd H a o b=H b:=λb z=>aU z;have f:∀b u,H b=some u->upd H a o b=some u:=λb u z=>by rw[ne b (cC z l.un)];exact z
 refine⟨I.ok,I.os,I.bare,⟨I.base.keep,I.base.slot,λb o q n x=>?_,I.base.there,λb g q=>f _ _ (I.base.By b g q),λb o u q=>f _ _ (I.base.lT b o u q),λb i q=>?_⟩,I.loc,I.cell,?_,λx c q=>?_,λp h=>?_,?_,I.len⟩
 .rw[ne b (by rintro rfl;rw[l.new]at q;cases q)];exact I.base.free b o q n x
 .obtain⟨more,z⟩:=I.base.BV b i q;exact⟨more,f _ _ z⟩
 .rw[ne _ (Ne.symm l.loc)];exact I.free
 .rw[ne _ (l.cel x c q)];exact I.ύ x c q
 .obtain⟨z1,z2,z3,z4,z5⟩:=I.pin p h;exact⟨z1,by rw[ne _ (l.pin p h)];exact z2,z3,z4,z5⟩
 .intro b u q;by_cases z:b=a
  .subst z;rw[aq]at q;cases q;exact ok
  .rw[ne b z]at q;exact(I.Β b u q).Bv (λ_ _ _ r=>r) (λc r=>f _ _ r) λc g r=>f _ _ r
end
structure abn(K:fg)(C Tl:Addr)(f:Str):Prop where
 sa:PySem.W.findIn K (.ref C) "__setattr__"=some (some (.builtin "object.__setattr__"))
 cd:∃cd,PySem.W.clsIn K C=some cd/\cd.mro=.ref C::.ref Tl::bmV/\cd.hasDict=true
 tk:PySem.W.takerIn K C f=some none
section
variable{X:Cx}{i:fv}{k:St}{H:Hp}{s:Shared}{A:Around}{E:eF}{d C j:Addr}{f:Str}
theorem Vf{y:V}{u:Value}{Q:Unit->Shared->Prop}(S:X.ex=[])(I:Inv X i k H s)(e:H d=some (Z0 d (.ref C) none))(c:abn X.K C j f)(M:RelV y u)(h:∀B m,H m=none->m≠d->Inv X i k (upd (upd H d (Z0 d (.ref C) (some m))) m (.xd [(f,y)])) B->Q () B):wpAny (model X.prog X.w) A (setAttr (.ref d) f u) Q E s:=by
 obtain⟨⟨a0,sl,r⟩,_,_⟩:=(show Μ X.prog X.w H s.heap d (Z0 d (.ref C) none)from I.Β d _ e);obtain⟨cd,F,T,O⟩:=c.cd;have J:PySem.W.InstAt s.heap d _ C none:=⟨r,rfl,rfl,trivial⟩;refine PySem.W.set_plain I.ZD J c.sa (UR (s:={ s with toks:=s.toks+1 }) (Tl:=j) I.ZD J F T c.tk λb=>OQ (s:={ s with toks:=s.toks+1 }) I.ZD r rfl rfl rfl F O λh' m p v N U=>?_);have ne:m≠d:=λz=>by rw[z]at p;rw[show s.heap.get? d=none from p]at r;cases r
 have D:=qZ I.Β p;have R:=I.write (x:=d) (e:=d) (o:=Z0 d (.ref C) (some m)) (t':=s.toks+1+1) (h':=h') (by rw[e];trivial) (.inl rfl) (λb u n z=>U b u n z) ⟨_,v⟩
  ⟨⟨_,_,v⟩,⟨_,v⟩,by
   rintro Z g2 ⟨a,l,t⟩ P;exact⟨a,l,P _ t⟩⟩
 have L:Loose X i (upd H d (Z0 d (.ref C) (some m))) m:=by
  obtain⟨t,Y,G⟩:=I.apart p;refine⟨by rw[aU ne];exact D,?_,t,Y,G⟩;rcases I.young p with z|z
  .exact z
  .rw[S]at z;cases z
 refine h _ m D ne (R.aeX L ⟨_,N,λg=>?_⟩);show As (List.lookup g [(f,y)]) (if g=f then some u else none);by_cases q:g=f
 .rw[aj q,q,List.lookup_cons_self];exact M
 .rw[ag q,bN,show(g==f)=false from by simpa using q];trivial
end
def Xv(K:fg)(g e:TE)(f:Str):TS:=λD d H=>e d H λy h=>g d h λx c=>∃a C i,x=.ref a/\c a=some (Z0 a (.ref C) none)/\abn K C i f/\∀b,c b=none->b≠a->D.nx d (upd (upd c a (Z0 a (.ref C) (some b))) b (.xd [(f,y)]))
section
variable{X:Cx}{o a:Expr}{g e:TE}{f:Str}{d b:Pos}
theorem II(w:X.ex=[])(F:PE X o g)(A:PE X a e)(B:swapsWith a (some (.Attribute o f b)) d.line X.env=pure false):PS X (.Assign [.Attribute o f b] a d) (Xv X.K g e f):=by
 intro i s j H D I h;refine plainObj_wpAny_Assign_Attribute (cP (A i s j H _ I h) λu k y z l p q=>cP (F i k j z _ l q) λE Q x O t n ⟨r,C,P,ex,M,c,G⟩=>?_) B;subst ex;obtain rfl:E=Value.ref r:=n;exact Vf w t M c p λN J m L v=>⟨j,_,v,G J m L⟩
end
theorem Ve{K:fg}{C d:Addr}{f:Str}{k:Value}{i:Option Addr}{b:ClassData}{j:Array (Option Value)}(l:K.lookup C=some ⟨k,i,.cls b,j⟩)(m:b.mro=.ref C::.ref d::bmV)(h:PySem.W.hasDictIn K C=true)(s:PySem.W.findIn K (.ref C) "__setattr__"=some (some (.builtin "object.__setattr__")))(a:PySem.W.findIn K (.ref C) f=some none):abn K C d f:=by
 obtain⟨g,e,n⟩:=iM h;have c:PySem.W.clsIn K C=some b:=by unfold PySem.W.clsIn;rw[l]
 rw[c]at e;cases e;exact⟨s,⟨b,c,m,n⟩,by unfold PySem.W.takerIn;rw[a];rfl⟩
theorem SS{K:fg}{C i:Addr}{o:Obj}(w m:Str)(N:Addr)(q j:fy)(f:Bool)(k:gy)(h:fy)(t:Bool)(g:Option Bool)(r:Option Addr)(u n s p v:Option Value)(l:K.lookup C=some o)(e:o=excClassObj w m C N q j f k h t g r u n s p v "ValueError.__new__")(a:PySem.W.nsOkIn K N=true)(b:PySem.W.nsIn K N "__init__"=some (some (.ref i)))(c:PySem.W.tailIn K bmV j=true)(d:PySem.W.isFn K (.ref i)=true):lG K C i:=by
 subst e;exact⟨_,_,_,_,_,_,_,_,_,_,_,_,_,_,_,_,l,a,b,c,d⟩
end L2
namespace L2
open PySem
def xM(K:fg)(d:Addr)(f:TS)(e:TH):TH:=λD c a g H=>∃C b,a=.ref C/\PySem.W.mroIn K C (.ref d)=some b/\if b=true then f D c H else e D c a g H
section
variable{X:Cx}{x:Str}{n c:Pos}{d:Addr}{i:Stmt}{a:List Stmt}{g:List ExceptHandler}{l:TS}{j:TH}
theorem sB(O:acr X.K d)(W:Gl X x)(Q:X.mg x=some (.ref d))(A:∀e,PSs (X.held e).nox (i::a) l)(L:PHs X g j)(hdb:(x==("__debug__":Str))=false:=by decide):PHs X (.ExceptHandler (some (.Name x n)) none (i::a) c::g) (xM X.K d l j):=by
 intro o s E H D w T V R I y le lt h;obtain⟨C,b,rfl,m,q⟩:=h;refine wpAny_handleBy_cons (codeAny_handlers_test (mQ (X:=X.held (.ref w)) (I.held _) W Q ?_ hdb)) (by intro z;cases z);obtain⟨G,vs,N,Y,h3,h4,Z,h6⟩:=id y.e;refine Hy I.ZD ⟨G,N,Y⟩ O m ?_;cases b with
 | false=>exact L o s E H D w T _ R I y le lt (by simpa using q)
 | true=>
   rw[aj rfl]at q;refine codeAny_handlers_suite (rD (fs:=ϗ X.stack) y λS U k=>?_);have F:Inv X o E H { s with heap:=S }:=I.moved (tk:=s.toks) k λb A=>by rw[ax.mp A];exact lt.all
   have P:=F.held (.ref w);refine aX (A (.ref w) o _ _ _ _ (P.wish _) q) (λf B z=>?_) λ_ _ z=>False.elim z;have p:∀{r:St}{t:Hp},Inv (X.held (.ref w)).nox o r t B->Inv X o r t B:=λJ=>J.Ϙ.abm I.ok.hd;dsimp only;cases f with
   | next=>
     obtain⟨r,t,J,z⟩:=z;exact⟨_,t,p J,z⟩
   | brk=>
     obtain⟨r,t,J,z⟩:=z;exact⟨_,t,p J,z⟩
   | cont=>
     obtain⟨r,t,J,z⟩:=z;exact⟨_,t,p J,z⟩
   | ret u=>
     obtain⟨v,r,t,J,M,z⟩:=z;exact⟨v,_,t,p J,M,z⟩
end
end L2
namespace Pb
open L2 PySem
theorem vt{H:Hp}{d f:Addr}{a b c:HO}(ne:H d=none)(i:upd H d a f=none)(g:f≠d):γ H (del (upd (upd (upd H d a) d b) f c) d):=λq o e=>by
 have h:q≠d:=cC e ne;have j:q≠f:=λz=>by rw[z]at e;rw[aU g,e]at i;cases i
 rw[pK h,aU j,aU h,aU h];exact e
structure ZQ(m:Int)(rs:hD)(xs:ej)(ss:List Zg)(i:Nat):Prop where
 bef:∀j s,j<i->ss[j]?=some s->jr m rs (kX rs xs ss j) s=true
 bad:∃s,ss[i]?=some s/\jr m rs (kX rs xs ss i) s=false
end Pb
namespace L2
open PySem
def Zh(o:Addr)(H a:Hp):Prop:=∀b x,H b=some x->b≠o->a b=some x
theorem Zh.refl{o:Addr}{H:Hp}:Zh o H H:=λ_ _ h _=>h
theorem Zh.then{o:Addr}{H e d:Hp}(a:Zh o H e)(b:γ e d):Zh o H d:=λc x h n=>b c x (a c x h n)
theorem Zh.put{o:Addr}{H b:Hp}(a:Zh o H b)(x:HO):Zh o H (upd b o x):=λc y h n=>by rw[aU n];exact a c y h n
end L2
namespace Pb
open PySem L2
def uQ(a b:ej):List Int:=List.zipWith (·+·) a b
def Zd(m:Int):List Int:=List.replicate m.toNat 0
theorem Eu{d c:Type}{R:d->c->Prop}{a:d}{b:c}(e:R a b):∀{l:List d}{f:List c},Paired R l f->Paired R (l++[a]) (f++[b])
 | _,_,.nil=>.cons e .nil
 | _,_,.cons x xs=>.cons x (Eu e xs)
theorem US(m:Int):(Zd m).map V.int=List.replicate m.toNat (V.int 0):=by unfold Zd;rw[fH]
section
variable{m:Int}{c:hD}{r:Int}{b:ek}{a:ew}{d:ek}
theorem SQ{e f:ej}{n:Nat}(h:e.length=n)(g:f.length=n):(uQ e f).length=n:=by unfold uQ;rw[List.length_zipWith];lia
theorem Iu(m:Int):(Zd m).length=m.toNat:=bW
end
theorem BK:∀{xs ys:ej},xs.length=ys.length->∀(i:Nat),(uQ xs ys).getD i 0=xs.getD i 0+ys.getD i 0
 | [],[],_,i=>by simp[uQ]
 | a::xs,b::ys,h,0=>by simp[uQ]
 | a::xs,b::ys,h,i+1=>by
   have c:=BK (xs:=xs) (ys:=ys) (by simpa using h) i;unfold uQ at c ⊢;rw[List.zipWith_cons_cons,gR,gR,gR,c]
theorem Eb(m:Int)(i:Nat):(Zd m).getD i 0=0:=by
 rw[bD];cases e:(Zd m)[i]? with
 | none=>rfl
 | some y=>exact(gS.mp (bd e)).2
section
variable{m:Int}{c:hD}{r:Int}{b:ek}{a:ew}{e w:ek}
theorem P2{m v d:Int}(h:0<=v)(j:v<m):((Zd m).set v.toNat d).getD v.toNat 0=d/\∀u,0<=u->u<m->u≠v->((Zd m).set v.toNat d).getD u.toNat 0=0:=by
 refine⟨?_,λu i f g=>?_⟩
 .rw[bD,dc (by rw[Iu];lia)];rfl
 .rw[bD,dZ (by lia),<-bD,Eb]
end
end Pb
namespace L2
open PySem Pb
theorem Xl(a b:ej):PyData.eqv (qW a) (qW b)=decide (a=b):=by
 unfold qW;simp only[PyData.eqv];exact Gz a b
end L2
namespace Pb
open PySem L2
theorem yS{g f:Type}{R:g->f->Prop}:∀{l:List g}{e:List f}{b:f},Paired R l (e++[b])->∃d a,l=d++[a]/\Paired R d e/\R a b
 | _,[],b,.cons (a:=a) h .nil=>⟨[],a,rfl,.nil,h⟩
 | _,c::e,b,.cons (a:=a) h hs=>by
   obtain⟨d,x,rfl,i,j⟩:=yS hs;exact⟨a::d,x,rfl,.cons h i,j⟩
theorem TN{a:Type}(l:List a)(x:a):ZE (l++[x]) (-1)=some x:=by
 unfold ZE ixN;rw[ag (by decide),ao,aO,cS,aj (by lia)];show(l++[x])[(-1+((l.length+(0+1):Nat):Int)).toNat]?=some x;rw[show(-1+((l.length+(0+1):Nat):Int)).toNat=l.length by lia,cL (aB _),iK]
 rfl
theorem W7{a b:ej}(l:a.length=b.length)(h:∀i:Nat,a.getD i 0=b.getD i 0):a=b:=by
 refine List.ext_getElem l λi c d=>?_;have:=h i;rw[bD,bD,aG c,aG d]at this;exact this
theorem Sc{m v n:Int}{a:ej}(j:(a.length:Int)=m)(g:0<=v)(h:v<m):uQ a ((List.replicate m.toNat (0:Int)).set v.toNat n)=a.set v.toNat (a.getD v.toNat 0+n):=by
 have c:a.length=((List.replicate m.toNat (0:Int)).set v.toNat n).length:=by rw[bT,bW];lia
 refine W7 (by rw[SQ rfl c.symm,bT]) λi=>?_;rw[BK c];have f:=P2 (m:=m) (d:=n) g h;by_cases e:i=v.toNat
 .subst e;have b:((List.replicate m.toNat (0:Int)).set v.toNat n).getD v.toNat 0=n:=f.1;rw[b,bD (l:=a.set v.toNat (a.getD v.toNat 0+n)),dc (by lia)]
  rfl
 .have b:((List.replicate m.toNat (0:Int)).set v.toNat n).getD i 0=0:=by
   rw[bD,dZ (Ne.symm e),<-bD];exact Eb m i
  rw[b,bD (l:=a.set v.toNat (a.getD v.toNat 0+n)),dZ (Ne.symm e),<-bD]
  lia
theorem Uv{m:Int}{c:hD}{b:ej}{s:Zg}{i:Nat}(h:ZQ m c b [s] i):i=0/\jr m c b s=false:=by
 obtain⟨st,a,cb⟩:=h.bad
 match i,a with
 | 0,a=>cases a;exact⟨rfl,cb⟩
 | i+1,a=>cases a
end Pb
namespace Pb
open L2 PySem PySem.W NumText
def nv(l:List Nat):Nat:=l.foldl (λa c=>a*10+(c-48)) 0
theorem TU(l:List Nat)(d:Nat):nv (l++[d])=nv l*10+(d-48):=by
 unfold nv;rw[List.foldl_append]
 rfl
structure Fig(l:List Nat):Prop where
 aeZ:1<=l.length
 aaf:l.length<=60
 all:∀c∈l,48<=c/\c<=57
 lead:l=[48]\/l.head?≠some 48
theorem IQ:∀(k:Nat)(l:List Nat),l.length=k->l≠[]->(∀c∈l,48<=c/\c<=57)->(l=[48]\/l.head?≠some 48)->nN (nv l)=l/\(l.head?≠some 48->0<nv l)/\nv l<10^l.length
 | 0,l,hk,ne,_,_=>absurd (jm.mp hk) ne
 | k+1,l,hk,ne,al,ld=>by
   obtain⟨i,d,e⟩:=(eS l).resolve_left ne;rw[eT]at e;subst e;have m:=al d (by simp);rw[TU,ao,dR,Nat.pow_succ];by_cases b:i=[]
   .subst b;have z:nv []=0:=rfl;rw[z,Nat.zero_mul,Nat.zero_add];refine⟨?_,λh=>?_,?_⟩
    .rw[nU (by lia),show 48+(d-48)=d by lia]
     rfl
    .have:d≠48:=λz=>h (by rw[z];rfl)
     lia
    .show d-48<1*10
     lia
   .have hh:(i++[d]).head?=i.head?:=by
     cases i with
     | nil=>exact absurd rfl b
     | cons _ _=>rfl
    have a:i.head?≠some 48:=by
     rcases ld with h|h
     .have:=congrArg List.length h;rw[ao]at this;have p:=gW.mpr b;rw[dR,dR]at this
      lia
     .rw[hh]at h;exact h
    obtain⟨f,j,n⟩:=IQ k i (by rw[ao]at hk;simpa using hk) b (λc g=>al c (aV.mpr (.inl g))) (.inr a);have p:=j a;refine⟨?_,λ_=>by lia,by lia⟩;rw[rK (by lia),show(nv i*10+(d-48))/10=nv i by lia,f,show 48+(nv i*10+(d-48))%10=d by lia]
theorem Fig.fs{w:Str}(h:Fig w.cps.toList):w=FS (nv w.cps.toList)/\nv w.cps.toList<10^60:=by
 have ne:w.cps.toList≠[]:=λz=>by have:=h.aeZ;rw[z]at this;simp at this
 obtain⟨a,_,b⟩:=IQ _ _ rfl ne h.all h.lead;exact⟨lM (by rw[vB,a]),aI b (Nat.pow_le_pow_right (by decide) h.aaf)⟩
theorem xZ{n:Nat}(h:n<10^60):Fig (FS n).cps.toList:=by
 rw[vB];refine⟨gW.mpr (IB n),xE 59 n h,Ft n,?_⟩;by_cases z:n=0
 .subst z;exact .inl rfl
 .obtain⟨c,r,e,hc⟩:=ON n (by lia);refine .inr ?_;rw[e];exact λq=>hc (by injection q)
theorem Xi(n:Nat)(h:n<10^60):nv (FS n).cps.toList=n:=by
 have:=(xZ h).fs.1;have e:=congrArg (λs:Str=>digitsVal s.cps.toList) this;simp only[vB,C5]at e;exact e.symm
open Classical in
noncomputable def gE(w:Str):Option Nat:=if Fig w.cps.toList then some (nv w.cps.toList)else none
theorem Oc{w:Str}{n:Nat}:gE w=some n↔n<10^60/\w=FS n:=by
 unfold gE
 constructor
 .intro h;split at h
  .next f=>
   injection h with h
   rw[<-h];exact⟨f.fs.2,f.fs.1⟩
  .cases h
 .rintro⟨h,rfl⟩;rw[aj (xZ h),Xi n h]
theorem BF{w:Str}:gE w=none↔¬Fig w.cps.toList:=by
 unfold gE;split
 .next f=>exact⟨λh=>(by cases h),λh=>absurd f h⟩
 .next f=>exact⟨λ_=>f,λ_=>rfl⟩
theorem Pg{c:Nat}:(!(Builtin.Str.occurrences (Str.ofString "0123456789") ⟨#[c]⟩ 0 (Str.ofString "0123456789").length 1).isEmpty)=decide (48<=c/\c<=57):=by
 by_cases h:48<=c/\c<=57
 .rw[Xr h,bI h]
 .rw[StrLaws.found_one,bt h,jb];intro m;have l:(Str.ofString "0123456789").cps.toList=[48,49,50,51,52,53,54,55,56,57]:=by decide +kernel
  rw[l]at m;simp at m
  (omega)
def WOk(w:Str):Prop:=(w.cps.all λx=>decide (x<128))=true/\w.length<=60000
def wsp(z:Str):List Str:=Txt.split z (Str.ofString " ")
end Pb
namespace L2
open PySem PySem.Spec PyProof.Rows
theorem UY{X:Cx}:RW X (binaryOp .Mult) (λx y H Q=>∃z n,x=.str z/\y=.int n/\MulOk z n/\Q (.str (Txt.mul z n)) H):=by
 intro a s f H x y v u Q I b c h;obtain⟨z,n,rfl,rfl,d,q⟩:=h;obtain⟨t,rfl⟩:=b;obtain⟨e,rfl⟩:=c;exact SB.mul d λe k=>⟨.str _,H,I.tok _,⟨_,rfl⟩,q⟩
end L2
namespace Pb
open L2 PySem PySem.W NumText
theorem AO{s:List Nat}{B:List (List Nat)}(c:B≠[]):∀{A:List (List Nat)},A≠[]->i9 s (A++B)=i9 s A++s++i9 s B
 | [],h=>absurd rfl h
 | [a],_=>by
   cases B with
   | nil=>exact absurd rfl c
   | cons b B=>rfl
 | a::a'::r,_=>by
   have:=AO (s:=s) c (A:=a'::r) (by simp);show a++s++i9 s ((a'::r)++B)=a++s++i9 s (a'::r)++s++i9 s B;rw[this];simp only[bO]
theorem Sn{m:Nat}{z:Str}{ws:gy}(h:∀w∈ws,w.length<=m):(Str.join z ws).length<=(m+z.length)*ws.length:=by
 rw[im,jZ];have:=Be (s:=z.cps.toList) (m:=m) (l:=ws.map (·.cps.toList)) λx b=>by
  obtain⟨w,a,rfl⟩:=bu.mp b;rw[<-im];exact h w a
 rw[am,<-im]at this;exact this
def ch:Nat->Nat->Nat
 | _,0=>1
 | 0,_+1=>0
 | n+1,k+1=>ch n k+ch n (k+1)
theorem iF{l:fx}(h:l.Nodup)(i j:Nat){a b:Addr}(e:l[i]?=some a:=by rfl)(d:l[j]?=some b:=by rfl)(c:i≠j:=by decide):a≠b:=WW h i j e d c
section
variable{X:Cx}{x:Str}{p a o:Pos}{e:Expr}{d:List Expr}{u:TE}{t:TA}{y:XK->TE}
theorem δ(i:Nat)(n:NmL X.env.scope x:=by exact .of (by kernel_rfl))(b:X.N[i]?=some x:=by rfl):PE X (.Name x a) (u6 i):=pvl i n b
theorem pvn(i:Nat)(n:NmC X.env.scope x:=by exact .of (by kernel_rfl))(b:X.N[i]?=some x:=by rfl):PE X (.Name x a) (u6 i):=pvc i n b
theorem Zj(i:Nat)(c:X.N.Nodup:=by exact bg (by kernel_rfl))(f:X.N[i]?=some x:=by rfl)(b:X.env.scope.names.lookup x=some .local:=by kernel_rfl):PG X (.Name x a) (qv i):=jB c f (.inl b) (.inr b)
theorem Χ(i:Nat)(c:PE X e u)(h:X.N.Nodup:=by exact bg (by kernel_rfl))(g:X.N[i]?=some x:=by rfl)(b:X.env.scope.names.lookup x=some .local:=by kernel_rfl)(f:swapsWith e (some (.Name x o)) a.line X.env=pure false:=by rfl):PS X (.Assign [.Name x o] e a) (xq u (qv i)):=yP h g (.inl b) c f (.inr b)
theorem pgl{C:Addr}(c:X.mg x=some (.ref C))(f:X.env.scope.names.lookup x=some .globalImplicit:=by kernel_rfl)(b:(x==("__debug__":Str))=false:=by kernel_rfl):PE X (.Name x a) (tC (.ref C)):=AD f c rfl b
variable{s:Zu}{k j:Nat}{f:Addr}{fd:FuncData}{h:gy}{g:Sp}{l:Stmt}
theorem pcq(D:Df X.K X.mg x l h f fd)(F:υ X.prog X.w X.K X.mg X.base s k f fd h g)(v:Τ j X.A)(q:bC s)(z:PA X (e::d) t)(B:k<=j:=by decide)(r:X.env.scope.names.lookup x=some .globalImplicit:=by kernel_rfl)(c:(x==("__debug__":Str))=false:=by kernel_rfl)(n:starEach (e::d) X.env=(false,eval e X.env)::starEach d X.env:=by rfl)(i:(backTo a (starEach d X.env)).any (·.1)=false:=by rfl):PE X (.Call (.Name x p) (e::d) [] a) (og g [] E0 t):=IW F (v.mono B) r D.m D.F.kp D.b .nil (j0 q) z c n i
theorem pcx{E:XK}(D:Df X.K X.mg x l h f fd)(F:υ X.prog X.w X.K X.mg X.base s k f fd h g)(r:Τ j X.A)(v:mh s X E)(z:PA X (e::d) t)(B:k<=j:=by decide)(q:X.env.scope.names.lookup x=some .globalImplicit:=by kernel_rfl)(c:(x==("__debug__":Str))=false:=by kernel_rfl)(n:starEach (e::d) X.env=(false,eval e X.env)::starEach d X.env:=by rfl)(i:(backTo a (starEach d X.env)).any (·.1)=false:=by rfl):PE X (.Call (.Name x p) (e::d) [] a) (og g [] E t):=IW F (r.mono B) q D.m D.F.kp D.b .nil v z c n i
theorem pxc(D:Df X.K X.mg x l h f fd)(F:υ X.prog X.w X.K X.mg X.base s k f fd h g)(r:Τ j X.A)(v:PA X.nox (e::d) t)(z:k<=j:=by decide)(q:X.env.scope.names.lookup x=some .globalImplicit:=by kernel_rfl)(c:(x==("__debug__":Str))=false:=by kernel_rfl)(n:starEach (e::d) X.env=(false,eval e X.env)::starEach d X.env:=by rfl)(i:(backTo a (starEach d X.env)).any (·.1)=false:=by rfl):PEx s X (.Call (.Name x p) (e::d) [] a) (λE=>og g [] E t):=wK F (r.mono z) q D.m D.F.kp D.b .nil v c n i
structure Cb(P:Program)(w:World)(K:fg)(mg:f5)(base:Heap)(x:Str)(l:Stmt)(h:gy)(k:Nat)(g:Sp) where
 f:Addr
 fd:FuncData
 D:Df K mg x l h f fd
 G:υ P w K mg base (ς P w) k f fd h g
def cb{P:Program}{w:World}{K:fg}{b:f5}{base:Heap}(D:Df K b x l h f fd)(G:υ P w K b base (ς P w) k f fd h g):Cb P w K b base x l h k g:=⟨f,fd,D,G⟩
theorem Zx(c:Cb X.prog X.w X.K X.mg X.base x l h k g)(n:Τ j X.A)(q:bC (ς X.prog X.w))(r:PA X (e::d) t)(v:k<=j:=by decide)(m:X.env.scope.names.lookup x=some .globalImplicit:=by kernel_rfl)(hdb:(x==("__debug__":Str))=false:=by kernel_rfl)(i:starEach (e::d) X.env=(false,eval e X.env)::starEach d X.env:=by rfl)(b:(backTo a (starEach d X.env)).any (·.1)=false:=by rfl):PE X (.Call (.Name x p) (e::d) [] a) (og g [] E0 t):=pcq c.D c.G n q r v m hdb i b
theorem Φ{E:XK}(c:Cb X.prog X.w X.K X.mg X.base x l h k g)(n:Τ j X.A)(q:mh (ς X.prog X.w) X E)(r:PA X (e::d) t)(v:k<=j:=by decide)(m:X.env.scope.names.lookup x=some .globalImplicit:=by kernel_rfl)(hdb:(x==("__debug__":Str))=false:=by kernel_rfl)(i:starEach (e::d) X.env=(false,eval e X.env)::starEach d X.env:=by rfl)(b:(backTo a (starEach d X.env)).any (·.1)=false:=by rfl):PE X (.Call (.Name x p) (e::d) [] a) (og g [] E t):=pcx c.D c.G n q r v m hdb i b
theorem pyb(c:Cb X.prog X.w X.K X.mg X.base x l h k g)(n:Τ j X.A)(q:PA X.nox (e::d) t)(r:k<=j:=by decide)(m:X.env.scope.names.lookup x=some .globalImplicit:=by kernel_rfl)(hdb:(x==("__debug__":Str))=false:=by kernel_rfl)(i:starEach (e::d) X.env=(false,eval e X.env)::starEach d X.env:=by rfl)(b:(backTo a (starEach d X.env)).any (·.1)=false:=by rfl):PEx (ς X.prog X.w) X (.Call (.Name x p) (e::d) [] a) (λE=>og g [] E t):=pxc c.D c.G n q r m hdb i b
variable{v T:String}{r:List V->Hp->VK->Prop}
theorem pcb(n:jq X (.builtin v) r)(w:X.mg x=none)(q:PA X (e::d) t)(z:bootBuiltins x=some (.builtin v):=by kernel_rfl)(m:X.env.scope.names.lookup x=some .globalImplicit:=by kernel_rfl)(b:decide (x="__name__")=false:=by kernel_rfl)(hdb:(x==("__debug__":Str))=false:=by kernel_rfl)(i:starEach (e::d) X.env=(false,eval e X.env)::starEach d X.env:=by rfl)(c:(backTo a (starEach d X.env)).any (·.1)=false:=by rfl):PE X (.Call (.Name x p) (e::d) [] a) (tCB r t):=R6 n m w z q (of_decide_eq_false b) hdb i c
theorem ZF(q:jq X (.type T) r)(z:X.mg x=none)(w:PA X (e::d) t)(A:bootBuiltins x=some (.type T):=by kernel_rfl)(n:X.env.scope.names.lookup x=some .globalImplicit:=by kernel_rfl)(c:decide (x="__name__")=false:=by kernel_rfl)(b:(x==("__debug__":Str))=false:=by kernel_rfl)(m:starEach (e::d) X.env=(false,eval e X.env)::starEach d X.env:=by rfl)(i:(backTo a (starEach d X.env)).any (·.1)=false:=by rfl):PE X (.Call (.Name x p) (e::d) [] a) (tCB r t):=Bi q n z A w (of_decide_eq_false c) b m i
end
inductive E3{A0 A1 A2:Type}(p:A0->A1->A2->Prop):Prop
 | mk (a0:A0) (a1:A1) (a2:A2) (h:p a0 a1 a2):E3 p
inductive E4{A0 A1 A2 A3:Type}(p:A0->A1->A2->A3->Prop):Prop
 | mk (a0:A0) (a1:A1) (a2:A2) (a3:A3) (h:p a0 a1 a2 a3):E4 p
inductive E5{A0 A1 A2 A3 A4:Type}(p:A0->A1->A2->A3->A4->Prop):Prop
 | mk (a0:A0) (a1:A1) (a2:A2) (a3:A3) (a4:A4) (h:p a0 a1 a2 a3 a4):E5 p
inductive E6{A0 A1 A2 A3 A4 A5:Type}(p:A0->A1->A2->A3->A4->A5->Prop):Prop
 | mk (a0:A0) (a1:A1) (a2:A2) (a3:A3) (a4:A4) (a5:A5) (h:p a0 a1 a2 a3 a4 a5):E6 p
inductive E7{A0 A1 A2 A3 A4 A5 A6:Type}(p:A0->A1->A2->A3->A4->A5->A6->Prop):Prop
 | mk (a0:A0) (a1:A1) (a2:A2) (a3:A3) (a4:A4) (a5:A5) (a6:A6) (h:p a0 a1 a2 a3 a4 a5 a6):E7 p
inductive E8{A0 A1 A2 A3 A4 A5 A6 A7:Type}(p:A0->A1->A2->A3->A4->A5->A6->A7->Prop):Prop
 | mk (a0:A0) (a1:A1) (a2:A2) (a3:A3) (a4:A4) (a5:A5) (a6:A6) (a7:A7) (h:p a0 a1 a2 a3 a4 a5 a6 a7):E8 p
inductive E9{A0 A1 A2 A3 A4 A5 A6 A7 A8:Type}(p:A0->A1->A2->A3->A4->A5->A6->A7->A8->Prop):Prop
 | mk (a0:A0) (a1:A1) (a2:A2) (a3:A3) (a4:A4) (a5:A5) (a6:A6) (a7:A7) (a8:A8) (h:p a0 a1 a2 a3 a4 a5 a6 a7 a8):E9 p
inductive E10{A0 A1 A2 A3 A4 A5 A6 A7 A8 A9:Type}(p:A0->A1->A2->A3->A4->A5->A6->A7->A8->A9->Prop):Prop
 | mk (a0:A0) (a1:A1) (a2:A2) (a3:A3) (a4:A4) (a5:A5) (a6:A6) (a7:A7) (a8:A8) (a9:A9) (h:p a0 a1 a2 a3 a4 a5 a6 a7 a8 a9):E10 p
inductive E11{A0 A1 A2 A3 A4 A5 A6 A7 A8 A9 A10:Type}(p:A0->A1->A2->A3->A4->A5->A6->A7->A8->A9->A10->Prop):Prop
 | mk (a0:A0) (a1:A1) (a2:A2) (a3:A3) (a4:A4) (a5:A5) (a6:A6) (a7:A7) (a8:A8) (a9:A9) (a10:A10) (h:p a0 a1 a2 a3 a4 a5 a6 a7 a8 a9 a10):E11 p
inductive E12{A0 A1 A2 A3 A4 A5 A6 A7 A8 A9 A10 A11:Type}(p:A0->A1->A2->A3->A4->A5->A6->A7->A8->A9->A10->A11->Prop):Prop
 | mk (a0:A0) (a1:A1) (a2:A2) (a3:A3) (a4:A4) (a5:A5) (a6:A6) (a7:A7) (a8:A8) (a9:A9) (a10:A10) (a11:A11) (h:p a0 a1 a2 a3 a4 a5 a6 a7 a8 a9 a10 a11):E12 p
inductive E13{A0 A1 A2 A3 A4 A5 A6 A7 A8 A9 A10 A11 A12:Type}(p:A0->A1->A2->A3->A4->A5->A6->A7->A8->A9->A10->A11->A12->Prop):Prop
 | mk (a0:A0) (a1:A1) (a2:A2) (a3:A3) (a4:A4) (a5:A5) (a6:A6) (a7:A7) (a8:A8) (a9:A9) (a10:A10) (a11:A11) (a12:A12) (h:p a0 a1 a2 a3 a4 a5 a6 a7 a8 a9 a10 a11 a12):E13 p
def clK(d:gy)(b:Nat)(c:List Nat)(N:gy)(a e:Scope):Bool:=(a.names.all λy=>decide (y.2≠.cell))&&decide (a.kind=.function)&&(a.names.all λy=>decide (y.2=.local->a.names.lookup y.1=some .local))&&decide (d.length=b+c.length)&&(a.names.all λy=>decide (y.2=.free->e.names.lookup y.1=some .cell))&&decide (e.kind=.function)&&(List.range c.length).all λi=>match d[b+i]?,c[i]? with
 | some x,some j=>decide (N[j]?=some x)&&decide (a.names.lookup x=some .free)
 | _,_=>false
theorem clo{X:Cx}{scope:Scope}(d:gy)(a:Nat)(b:List Nat)(h:clK d a b X.N scope X.env.scope=true:=by kernel_rfl)(l:∀x,X.env.scope.names.lookup x=some .cell->∃c,X.env.cells.lookup x=some c:=by exact λ_ h=>wD h):ϓ X d a b scope (pX X.env.cells scope.names []):=by
 unfold clK at h;simp only[aZ,bZ,bQ,cR]at h;obtain⟨⟨⟨⟨⟨⟨g,p⟩,m⟩,k⟩,e⟩,o⟩,f⟩:=h;refine Uq a b g p m k e o l λi n=>?_;have q:=f i n;split at q
 .rename_i x j e1 e2
  simp only[aZ,bZ]at q;exact⟨x,j,e1,e2,q.1,q.2⟩
 .cases q
abbrev Ok(P:Program)(w:World)(K:fg)(c:f5)(a:Heap)(x:Str)(st:Stmt)(b:gy)(k:Nat)(e:Sp):Prop:=∀(f:Addr)(d:FuncData),Df K c x st b f d->υ P w K c a (ς P w) k f d b e
section
variable{X:Cx}{a b:Expr}{d e:TE}{c:Pos}
theorem Ο{r:R2}(h:IxR X r)(i:PE X a d)(g:PE X b e)(f:IU b:=by exact λ_ _=>rfl):PE X (.Subscript a b c) (tOp r d e):=o9 h i g f
theorem ϧ{f:CmpOp}{r:R2}(g:RW X (compareOp f) r)(j:PE X a d)(i:PE X b e)(h:f≠.In:=by decide)(k:f≠.NotIn:=by decide):PT X (.Compare a [f] [b] c) (y6 (tOp r d e)):=rp g j i (mf _ h k)
end
end Pb
namespace L2
open PySem PySem.Spec PyProof.Rows PySem.W
section
variable{n:Nat}{d:Nat->Nat->Bool}
structure Lin(n:Nat)(d:Nat->Nat->Bool):Prop where
 tot:∀a b,a<n->b<n->a≠b->d a b=false->d b a=true
 tr:∀a b c,a<n->b<n->c<n->d a b=true->d b c=true->d a c=true
variable(L:Lin n d)(e:0<n)
include L e
end
end L2
namespace L2
open PySem
def DK(w:World)(K:fg)(a:Addr)(c:List (Key×V)):Prop:=(a==sysModules)=false/\∃(o:Obj)(b:List (Key×Value)),K.lookup a=some o/\KV c b/\∀P:Program,o.IsDictOf (eV P w) b
theorem XB{w:World}{K:fg}{a:Addr}{g:Nat}{d:List DictEntry}(l:List (Str×Tok×Int×Tok))(f:(a==sysModules)=false)(c:(l.map (·.1)).Nodup)(h:K.lookup a=some ⟨.type "dict",none,.dict ⟨d⟩ g,#[]⟩)(e:d=l.map λp=>DictEntry.mk (Wc w (.inr p.1)) (.str p.1 p.2.1) (.int p.2.2.1 p.2.2.2)):DK w K a (l.map λp=>((.inr p.1:Key),V.int p.2.2.1)):=by
 refine⟨f,_,l.map λp=>((.inr p.1:Key),Value.int p.2.2.1 p.2.2.2),h,?_,λP=>⟨_,_,⟨rfl,rfl,rfl⟩,rfl,?_,?_,?_⟩⟩
 .clear c e
  induction l with
  | nil=>exact .nil
  | cons p l ih=>exact .cons ⟨rfl,⟨_,rfl⟩⟩ ih
 .intro x hx;rw[e]at hx;obtain⟨p,i,rfl⟩:=bu.mp (show x∈l.map _ from kR.mpr hx);exact⟨.inr p.1,qR P w _ _,rfl⟩
 .rw[e];clear c e
  induction l with
  | nil=>exact .nil
  | cons p l ih=>exact .cons (qR P w _ _) rfl ih
 .rw[jd];rw[show((λx:Key×Value=>x.1) ∘ λp:Str×Tok×Int×Tok=>((.inr p.1:Key),Value.int p.2.2.1 p.2.2.2))=(λx:Str=>(.inr x:Key)) ∘ (λp:Str×Tok×Int×Tok=>p.1)from rfl,<-jd];exact c.map _ λa b ne e=>ne (by injection e)
section
variable{X:Cx}{a:Addr}{b:List (Key×V)}
theorem DK.of{c:fv}{f:St}{H:Hp}{s:Shared}(d:DK X.w X.K a b)(I:Inv X c f H s):(a==sysModules)=false/\∃e,KV b e/\s.heap.DictOf (eV X.prog X.w) a e:=by
 obtain⟨i,o,e,j,g,h⟩:=d;exact⟨i,e,g,Heap.dictOf_iff.mpr ⟨o,I.ZD _ _ j,h X.prog⟩⟩
def XA(a:Addr)(b:List (Key×V)):R2:=λx y H Q=>∃z,x=.str z/\y=.ref a/\Q (.bl (!(kq b (.inr z)).isSome)) H
theorem T8(w:World)(K:fg)(g:X.w=w)(f:X.K=K)(d:DK w K a b):RW X (compareOp .NotIn) (XA a b):=by
 subst g f;intro e s o H x y v u Q I i j h;obtain⟨z,rfl,rfl,q⟩:=h;cases j;obtain⟨l,n,c,m⟩:=d.of I;refine wpAny_notIn_of (vJ (k:=.inr z) i) l m.mapOf ?_;rw[<-(c.val (.inr z)).oR];exact⟨.bl _,H,I.tok _,rfl,q⟩
def Y4(a:Addr)(b:List (Key×V)):R2:=λx y H Q=>∃z v,x=.ref a/\y=.str z/\kq b (.inr z)=some v/\Q v H
theorem Ru{o i:Expr}{f:Pos}{p t:TE}(w:World)(K:fg)(e:X.w=w)(B:X.K=K)(d:DK w K a b)(D:PE X o p)(S:PE X i t)(P:WH i):PE X (.Subscript o i f) (tOp (Y4 a b) p t):=by
 subst e B;intro c s q H Q I h;refine U4 PySem.F.slot_dict_getitem.lookup P (cP (D c s q H _ I h) λu C x M E G A=>cP (S c C q M _ E A) λV Y y N m L ⟨z,r,T,J,l,R⟩=>?_);subst T J;obtain rfl:u=Value.ref a:=G;obtain⟨U,O,g,n⟩:=d.of m;obtain⟨Z,e,j⟩:=As.some_of (v:=r) (o:=valueAt O (.inr z)) (by rw[<-l];exact g.val (.inr z));exact⟨n.typeIs,wpAny_getItem_of (vJ (k:=.inr z) L) n.mapOf e ⟨r,N,m.tok _,j,R⟩⟩
end
theorem QG{X:Cx}:MtM X "str.upper" (λx a H Q=>∃z,x=.str z/\a=[]/\z.length<=5592405/\Q (.str (Txt.upper z)) H):=by
 intro b s f H x a v g Q I d e h;obtain⟨z,rfl,rfl,c,q⟩:=h;obtain⟨t,rfl⟩:=d;cases e;exact SC.upper (PyProof.Rows.fit_upper c) ⟨.str _,H,I.tok _,⟨_,rfl⟩,q⟩
end L2
namespace Pb
open L2 PySem
def nbT:List (Str×Nat):=[("put",2),("want",2),("step",3),("back",0),("laying",0),("wish",0),("most",1),("bring",1),("stands",1),("meet",0),("enough",2),("hardest",1),("worst",2),("many",2),("always",0),("fails",0)]
def nb(w:Str):Option Nat:=(nbT.find? λp=>decide (p.1=w)).map (·.2)
def nbK:List (Key×V):=nbT.map λp=>((.inr p.1:Key),V.int (p.2:Int))
theorem C7(w:Str):∀l:List (Str×Nat),kq (l.map λp=>((.inr p.1:Key),V.int (p.2:Int))) (.inr w)=((l.find? λp=>decide (p.1=w)).map λp:Str×Nat=>p.2).map λn:Nat=>V.int (n:Int)
 | []=>rfl
 | p::l=>by
   have a:=C7 w l;unfold kq at a ⊢;rw[ba,dv,dv];by_cases h:p.1=w
   .rw[bI h,bI (show(Sum.inr p.1:Key)=.inr w by rw[h])]
    rfl
   .rw[bt h,bt (show ¬(Sum.inr p.1:Key)=.inr w from λz=>h (by injection z))];exact a
theorem OC(w:Str):kq nbK (.inr w)=(nb w).map λn:Nat=>V.int (n:Int):=C7 w nbT
theorem dO{a b:Str}(h:a≠b):¬V.str a=V.str b:=λz=>h (by injection z)
inductive RfD(m:Int)(dn:Nat):Str->List Nat->Nat->Prop
 | put {v n:Nat} (h:m<=v):RfD m dn "put" [v,n] 0
 | want {v n:Nat} (h:m<=v):RfD m dn "want" [v,n] 0
 | step {a b n:Nat} (h:m<=a\/m<=b\/a=b):RfD m dn "step" [a,b,n] 2
 | back (h:dn=0):RfD m dn "back" [] 3
inductive RfW(m:Int):Str->List Nat->Nat->Prop
 | enough {v n:Nat} (h:m<=v):RfW m "enough" [v,n] 0
 | worst {v n:Nat} (h:m<=v):RfW m "worst" [v,n] 0
 | many {v n:Nat} (h:m<=v):RfW m "many" [v,n] 0
 | abE {v:Nat} (h:v<m):RfW m "enough" [v,0] 1
 | acA {v:Nat} (h:v<m):RfW m "worst" [v,0] 1
 | adX {v:Nat} (h:v<m):RfW m "many" [v,0] 1
 | aaP:RfW m "hardest" [0] 1
inductive RfT(m:Int)(y:ej):Str->List Nat->Nat->Prop
 | most {v:Nat} (h:m<=v):RfT m y "most" [v] 0
 | bring {v:Nat} (h:m<=v):RfT m y "bring" [v] 0
 | stands {v:Nat} (h:m<=v):RfT m y "stands" [v] 0
 | fails (h:y.sum=0):RfT m y "fails" [] 4
 | web {w:Str} {ns:List Nat} {c:Nat} (h:RfW m w ns c):RfT m y w ns c
theorem UW{m:Int}{c:hD}(g:Good m c){f:ej}{a b n:Nat}(h:m<=a\/m<=b\/a=b)(z:jr m c f (a,b,n)=true):False:=by
 have z:=(QQ z).1;unfold mB at z;simp only[aZ,fq]at z;obtain⟨⟨⟨_,k⟩,d⟩,_⟩:=z;unfold jJ at d;obtain⟨e,i⟩:=d9.mp d;have e:=gv.mp e;obtain⟨x,j,l⟩:=nO.mp (bg i);have o:=g.ok x j;have:=o.ne
 lia
theorem mH(z a:Str):Str.join z [a]=a:=lM (by rw[jZ];rfl)
theorem wW{z:Str}{A B:gy}(a:A≠[])(b:B≠[]):Str.join z (A++B)=Str.join z A++z++Str.join z B:=lM (by
 rw[app_list,app_list,jZ,jZ,jZ,aQ,AO (by simpa using b) (by simpa using a)])
theorem kW(a b c:Str):a++b++c=a++(b++c):=lM (by rw[app_list,app_list,app_list,app_list,bO])
theorem S9{a:gy}(ne:a≠[])(h:∀y∈a,32∉y.cps.toList):wsp (Str.join (Str.ofString " ") a)=a:=by
 unfold wsp;rw[show Str.ofString " "=⟨#[32]⟩ by decide +kernel];exact Kw ne h
def wdB(w:Str):Bool:=w.cps.toList.all (λc=>decide (c≠32/\c<128))&&decide (w.cps.toList.length<=100)
abbrev Wd(w:Str):Prop:=wdB w=true
theorem vI{w:Str}:Wd w↔(∀c∈w.cps.toList,c≠32/\c<128)/\w.cps.toList.length<=100:=by
 unfold Wd wdB;rw[aZ,bQ,fq];exact⟨λh=>⟨λc a=>bg (h.1 c a),h.2⟩,λh=>⟨λc a=>bI (h.1 c a),h.2⟩⟩
theorem Wd.ok{w:Str}(h:Wd w):WOk w:=⟨by
 rw[Array.all_eq_true_iff_forall_mem];exact λx a=>bI ((vI.mp h).1 x (by simpa using a)).2,by
 have:=(vI.mp h).2;simp only[eE]at this;show w.cps.size<=_
 lia⟩
theorem Wd.fs{n:Nat}(h:n<10^60):Wd (FS n):=by
 have f:=xZ h;exact vI.mpr ⟨λc a=>by have:=f.all c a;lia,by have:=f.aaf;lia⟩
theorem Ph:∀{a:gy},(∀x∈a,Wd x)->(a.map (·.length)).sum<=100*a.length
 | [],_=>bJ _
 | w::a,h=>by
   have c:=Ph λx b=>h x (.tail _ b);have:=(vI.mp (h w (.head _))).2;simp only[eE]at this;rw[ba,List.sum_cons,aO];have:w.length<=100:=this
   lia
theorem vq{ws:gy}(ne:ws≠[])(h:∀x∈ws,Wd x)(l:ws.length<=20):(Str.join (Str.ofString " ") ws).length<=60000/\wsp (Str.join (Str.ofString " ") ws)=ws/\(ws.map (·.length)).sum+ws.length*(Str.ofString " ").length<=16777216:=by
 have c:(Str.ofString " ").length=1:=by decide +kernel
 have e:=Sn (z:=Str.ofString " ") (m:=100) (ws:=ws) λw a=>by
  have:=(vI.mp (h w a)).2;simp only[eE]at this;exact this
 have w:=Ph h;rw[c]at e ⊢;have:=Nat.mul_le_mul_left 101 l;exact⟨by lia,S9 ne λy b z=>absurd rfl ((vI.mp (h y b)).1 32 z).1,by lia⟩
def uw(z:Str):Prop:=z.length<=60000/\∃w a,wsp z=w::a/\(∀x∈a,WOk x)/\a.length<=1000/\∀n,nb w=some n->a.length≠n\/∃x∈a,gE x=none
theorem lx{w:Str}{ws:gy}(a:Wd w)(h:∀x∈ws,Wd x)(l:ws.length<=19)(b:∀n,nb w=some n->ws.length≠n\/∃x∈ws,gE x=none):uw (Str.join (Str.ofString " ") (w::ws)):=by
 obtain⟨c,d,_⟩:=vq (ws:=w::ws) (by simp) (λx hx=>by
  rcases az.mp hx with rfl|hx
  .exact a
  .exact h x hx) (by rw[aO];lia)
 exact⟨c,w,ws,d,λx hx=>(h x hx).ok,by lia,b⟩
def M9(l:List Nat):Bool:=l.isEmpty||decide (60<l.length)||l.any (λc=>decide (c<48)||decide (57<c))||(decide (l≠[48])&&decide (l.head?=some 48))
theorem Ir{w:Str}(h:M9 w.cps.toList=true):gE w=none:=BF.mpr λf=>by
 unfold M9 at h;simp only[Bool.or_eq_true,aZ,fq,List.isEmpty_iff,List.any_eq_true]at h;rcases h with((h|h)|⟨c,hc,h⟩)|⟨h1,h2⟩
 .have:=f.aeZ;rw[h]at this;simp at this
 .have:=f.aaf
  lia
 .have:=f.all c hc
  lia
 .rcases f.lead with h|h
  .exact h1 h
  .exact h h2
theorem QP:∀p∈nbT,nb p.1=some p.2/\p.2<=3/\Wd p.1/\p.1.length<=10/\Wd (Txt.upper p.1)/\nb (Txt.upper p.1)=none/\Wd (p.1++Str.ofString ":")/\nb (p.1++Str.ofString ":")=none:=by decide +kernel
def NT:List Str:=["01","-1","+1","1.","x",Str.ofString "1" ++ Txt.mul (Str.ofString "0") 60,"1_0","one","","00","-0","1,"]
theorem UT:∀x∈NT,M9 x.cps.toList=true/\Wd x:=by decide +kernel
abbrev LS(H:Hp)(a:Addr)(b:gy):Prop:=H a=some (.lst (b.map V.str))
theorem om{H:Hp}{a b:Addr}{A B:gy}{Q:VK}(f:LS H a A)(d:LS H b B)(l:A.length+B.length<=100)(q:∀p c,γ H c->LS c p (A++B)->Q (.ref p) c):aet (.ref a) (.ref b) H Q:=u7 f d (bj (by rw[am,am];lia)) λp e=>q p _ (γ.new _ e) (by show upd _ _ _ _=_;rw[aq,aQ])
theorem IA{K:fg}{H:Hp}{a:Addr}{A:gy}{k:Int}{Q:VK}(e:LS H a A)(c:0<=k)(q:∀p b,γ H b->LS b p (A.take k.toNat)->Q (.ref p) b):Q5 K (.ref a) none (some k) H Q:=⟨a,_,rfl,Η.of e,λp d=>q p _ (γ.new _ d) (by show upd _ _ _ _=_;rw[aq,Ww _ c,List.map_take])⟩
theorem z9{K:fg}{H:Hp}{a:Addr}{A:gy}{k:Int}{Q:VK}(e:LS H a A)(c:0<=k)(q:∀p b,γ H b->LS b p (A.drop k.toNat)->Q (.ref p) b):Q5 K (.ref a) (some k) none H Q:=⟨a,_,rfl,Η.of e,λp d=>q p _ (γ.new _ d) (by show upd _ _ _ _=_;rw[aq,Ox _ c,List.map_drop])⟩
theorem rT{K:fg}{H:Hp}{a:Addr}{w:Str}{ws:gy}{Q:VK}(c:LS H a (w::ws))(b:Wd w)(h:∀x∈ws,Wd x)(l:ws.length<=19)(q:Q (.str (Str.join (Str.ofString " ") (w::ws))) H):Tu K (.str (Str.ofString " ")) [.ref a] H Q:=⟨_,a,w::ws,rfl,rfl,Η.of c,(vq (by simp) (λx hx=>by
 rcases az.mp hx with rfl|hx
 .exact b
 .exact h x hx) (by rw[aO];lia)).2.2,q⟩
theorem SJ(w:Str)(a:gy):Str.join (Str.ofString " ") (w::a)++Str.ofString " "=Str.join (Str.ofString " ") (w::(a++[Str.ofString ""])):=by
 rw[show w::(a++[Str.ofString ""])=(w::a)++[Str.ofString ""]from rfl,wW (by simp) (by simp),mH];exact lM (by rw[app_list,app_list,app_list];show _=_++[];rw[cn])
theorem Mm(w:Str)(a:gy):Str.ofString " " ++ Str.join (Str.ofString " ") (w::a)=Str.join (Str.ofString " ") (Str.ofString "" :: (w::a)):=by
 rw[show Str.ofString "" :: (w::a)=[Str.ofString ""]++(w::a)from rfl,wW (by simp) (by simp),mH];exact lM (by rw[app_list,app_list,app_list];rfl)
theorem OD:Wd (Str.ofString ""):=by decide +kernel
theorem VG:nb (Str.ofString "")=none:=by decide +kernel
theorem VJ:gE (Str.ofString "")=none:=Ir (by decide +kernel)
theorem OJ:∀z∈([Str.ofString "",Str.ofString "road 0 1 2 2",Str.ofString "web 1",Str.ofString "puts 0 1",Str.ofString "done"]:gy),uw z:=by
 have b:∀z∈([Str.ofString "",Str.ofString "road 0 1 2 2",Str.ofString "web 1",Str.ofString "puts 0 1",Str.ofString "done"]:gy),∃l:List Str,(decide (l≠[])&&decide (l.length<=10)&&decide (z=Str.join (Str.ofString " ") l)&&l.all (λx=>decide (Wd x))&&decide ((l.head?.bind nb)=none))=true:=by
  intro z a;simp only[az,cm,or_false]at a;rcases a with rfl|rfl|rfl|rfl|rfl
  .exact⟨[Str.ofString ""],by decide +kernel⟩
  .exact⟨[Str.ofString "road",Str.ofString "0",Str.ofString "1",Str.ofString "2",Str.ofString "2"],by decide +kernel⟩
  .exact⟨[Str.ofString "web",Str.ofString "1"],by decide +kernel⟩
  .exact⟨[Str.ofString "puts",Str.ofString "0",Str.ofString "1"],by decide +kernel⟩
  .exact⟨[Str.ofString "done"],by decide +kernel⟩
 intro z a;obtain⟨l,h⟩:=b z a;simp only[aZ,fq,bQ]at h;obtain⟨⟨⟨⟨f,i⟩,rfl⟩,d⟩,e⟩:=h;cases l with
 | nil=>exact absurd rfl f
 | cons w ws=>
   rw[aO]at i;exact lx (d w (.head _)) (λx g=>d x (.tail _ g)) (by lia) λn c=>by
    have:nb w=none:=e;rw[this]at c;cases c
def eM(m:Int)(z:Str)(c:Nat):Prop:=z.length<=60000/\∃(w:Str)(a:List Nat),wsp z=w::a.map FS/\a.length<=3/\(∀n∈a,n<10^60)/\nb w=some a.length/\∀b y,RfD m b w a c\/RfT m y w a c
def wdA:Nat->Str
 | 0=>"place"
 | 1=>"wish"
 | _=>"step"
theorem wN{m:Int}{w:Str}{ns:List Nat}{c:Nat}(d:nb w=some ns.length)(b:Wd w)(l:ns.length<=3)(a:∀n∈ns,n<10^60)(h:∀g y,RfD m g w ns c\/RfT m y w ns c):eM m (Str.join (Str.ofString " ") (w::ns.map FS)) c:=by
 obtain⟨e,f,_⟩:=vq (ws:=w::ns.map FS) (by simp) (λx hx=>by
  rcases az.mp hx with rfl|hx
  .exact b
  .obtain⟨n,h1,rfl⟩:=bu.mp hx;exact Wd.fs (a n h1)) (by rw[aO,am];lia)
 exact⟨e,w,ns,f,l,a,d,h⟩
theorem mO(z a b:Str)(l:gy):Str.join z (a::b::l)=a++(z++Str.join z (b::l)):=by
 rw[show a::b::l=[a]++(b::l)from rfl,wW (by simp) (by simp),mH,kW]
theorem rf:Str.ofString "0"=FS 0:=qI 0
theorem Wj:Str.ofString "1"=FS 1:=qI 1
theorem X1:Str.ofString "2"=FS 2:=qI 2
theorem X0:Str.ofString "3"=FS 3:=qI 3
theorem LU{m:Int}{u w:Str}{v c:Nat}(f:u=w++Str.ofString " ")(e:nb w=some 1)(d:Wd w)(b:v<10^60)(h:∀g y,RfD m g w [v] c\/RfT m y w [v] c):eM m (u++FS v) c:=by
 have:=wN (ns:=[v]) e d (by simp) (λn a=>by rw[ax.mp a];exact b) h;rw[show w::[v].map FS=w::FS v::[]from rfl,mO,mH]at this;rw[f,kW];exact this
theorem ua{m:Int}{u t w:Str}{v k c:Nat}(g:u=w++Str.ofString " ")(b:t=Str.ofString " " ++ FS k)(f:nb w=some 2)(d:Wd w)(a:v<10^60)(e:k<10^60)(h:∀i y,RfD m i w [v,k] c\/RfT m y w [v,k] c):eM m (u++FS v++t) c:=by
 have:=wN (ns:=[v,k]) f d (by simp) (λn hn=>by
  rcases az.mp hn with rfl|hn
  .exact a
  .rw[ax.mp hn];exact e) h
 rw[show w::[v,k].map FS=w::FS v::FS k::[]from rfl,mO,mO,mH]at this;rw[g,b,kW,kW];exact this
theorem Lw{m:Int}{z w:Str}{a b k c:Nat}(d:z=w++(Str.ofString " " ++ (FS a++(Str.ofString " " ++ (FS b++(Str.ofString " " ++ FS k))))))(i:nb w=some 3)(e:Wd w)(j:a<10^60)(g:b<10^60)(f:k<10^60)(h:∀l y,RfD m l w [a,b,k] c\/RfT m y w [a,b,k] c):eM m z c:=by
 have:=wN (ns:=[a,b,k]) i e (by simp) (λn hn=>by
  rcases az.mp hn with rfl|hn
  .exact j
  .rcases az.mp hn with rfl|hn
   .exact g
   .rw[ax.mp hn];exact f) h
 rw[show w::[a,b,k].map FS=w::FS a::FS b::FS k::[]from rfl,mO,mO,mO,mH]at this;rw[d];exact this
abbrev TS(H:Hp):List Addr->List (Str×Nat)->Prop:=Paired λq p=>H q=some (.tup [.str p.1,.str (wdA p.2)])
theorem TS.same{H c:Hp}{b:fx}{a:List (Str×Nat)}(e:γ H c)(h:TS H b a):TS c b a:=Paired.imp' (λq v x=>e q _ x) h
theorem cZ(s:String)(h:decide ((Str.ofString s).length<=20)=true:=by decide +kernel):(Str.ofString s).length<=20:=bg h
theorem Z1{a b:Str}{i j:Nat}(d:a.length<=i)(c:b.length<=j):(a++b).length<=i+j:=by rw[UG];lia
theorem Y7{a b:Str}{i j:Nat}(d:a.length<=i)(c:b.length<=j)(h:i+j<=1000:=by decide):a.length+b.length<=sizeLine:=bj (by lia)
theorem fsL{n:Nat}(h:n<10^60):(FS n).length<=60:=by
 have:=(xZ h).aaf;rw[im];exact this
theorem PR(a b:Nat):Str.ofString "step " ++ FS a++Str.ofString " " ++ FS b++Str.ofString " 1"=Str.ofString "step" ++ (Str.ofString " " ++ (FS a++(Str.ofString " " ++ (FS b++(Str.ofString " " ++ FS 1))))):=by
 rw[show Str.ofString "step "=Str.ofString "step" ++ Str.ofString " " by decide +kernel,show Str.ofString " 1"=Str.ofString " " ++ FS 1 by rw[<-Wj];decide +kernel];simp only[kW]
theorem Wg(a:Nat):Str.ofString "step " ++ FS a++Str.ofString " 0 1"=Str.ofString "step" ++ (Str.ofString " " ++ (FS a++(Str.ofString " " ++ (FS 0++(Str.ofString " " ++ FS 1))))):=by
 rw[show Str.ofString "step "=Str.ofString "step" ++ Str.ofString " " by decide +kernel,show Str.ofString " 0 1"=Str.ofString " " ++ (FS 0++(Str.ofString " " ++ FS 1)) by rw[<-rf,<-Wj];decide +kernel];simp only[kW]
theorem WS(a:Nat):Str.ofString "step 0 " ++ FS a++Str.ofString " 0"=Str.ofString "step" ++ (Str.ofString " " ++ (FS 0++(Str.ofString " " ++ (FS a++(Str.ofString " " ++ FS 0))))):=by
 rw[show Str.ofString "step 0 "=Str.ofString "step" ++ (Str.ofString " " ++ (FS 0++Str.ofString " ")) by rw[<-rf];decide +kernel,show Str.ofString " 0"=Str.ofString " " ++ FS 0 by rw[<-rf];decide +kernel];simp only[kW]
end Pb
set_option maxHeartbeats 4000000
namespace Pk
open PySem L2 Pb
seal L2.PSs L2.PS L2.PE L2.PT L2.PW L2.PA L2.PG L2.PGs L2.PI L2.PTs L2.PC L2.PPs L2.PO
abbrev top(i:Nat):Stmt:=Hd.top i
local macro_rules|`(tactic| walk_at "") => `(tactic| ((try dsimp only [aeA, Bt, IV, xM, Je, RF, BI, Ss, Ny, Sj, Kg, JW, M8, Q0, Qm, OS, BA, Sm, Mw, acg, xq, qv, LV, Mi, aej, RT, J0, ipI, Sb, MJ, y6, tB, zg, tC, u6, tOp, tUn, rI0, rI, rU, rEq, rNe, og, CM, JX, Ni, adb, Te, QV, tCB, tBM, Qr, Rl, RK, zD, Ly, JQ, vc, Qt, tOr, Qi, LI, Q3, List.nil_append, List.append_nil, List.set_cons_zero, List.set_cons_succ, List.getElem?_cons_zero, List.getElem?_cons_succ]);(try simp only [aeA, Bt, IV, xM, Je, RF, BI, Ss, Ny, Sj, Kg, JW, M8, Q0, Qm, OS, BA, Sm, Mw, acg, xq, qv, LV, Mi, aej, RT, J0, ipI, Sb, MJ, y6, tB, zg, tC, u6, tOp, tUn, rI0, rI, rU, rEq, rNe, Uy, TC, TJ, UF, UD, TQ, og, CM, JX, Ni, adb, Te, QV, tCB, tBM, Qr, Rl, RK, zD, Ly, JQ, vc, Qt, tOr, Qi, LI, Q3, List.nil_append, List.append_nil, List.set_cons_zero, List.set_cons_succ, List.getElem?_cons_zero, List.getElem?_cons_succ, Option.some.injEq, V.int.injEq, V.bl.injEq, V.ref.injEq, List.cons.injEq, exists_eq_left, exists_eq_left', exists_and_left, exists_const, and_true, true_and, decide_eq_true_eq, Bool.not_eq_true', decide_eq_false_iff_not, Bool.true_eq_false, Bool.false_eq_true, if_true, if_false])))
local macro_rules|`(tactic| walk_at "v") => `(tactic| (intro _ _ _ _ h;first|(cases h;(have q := ‹_ = _ /\ _›);rw [q.1];rfl)|((repeat (obtain ⟨_, h⟩ := h));subst_vars;rfl)))
local macro_rules|`(tactic| walk_at "s") => `(tactic| simp only [L2.start, List.map_cons, List.map_nil, List.length_cons, List.length_nil, Nat.reduceAdd, Nat.reduceSub, List.replicate_succ, List.replicate_zero, List.cons_append, List.nil_append])
set_option genSizeOf false in
set_option genInjectivity false in
structure Txt(K:fg)(mg:f5) where
 TollError:Addr
 vV:mg "TollError"=some (.ref TollError)
 BadWeb:Addr
 XR:mg "BadWeb"=some (.ref BadWeb)
 NoPlace:Addr
 Ba:mg "NoPlace"=some (.ref NoPlace)
 NoRoad:Addr
 QZ:mg "NoRoad"=some (.ref NoRoad)
 BadLaying:Addr
 wj:mg "BadLaying"=some (.ref BadLaying)
 BadWish:Addr
 uH:mg "BadWish"=some (.ref BadWish)
 NoWorst:Addr
 Bg:mg "NoWorst"=some (.ref NoWorst)
 NoDeed:Addr
 EN:mg "NoDeed"=some (.ref NoDeed)
 BadStep:Addr
 Bf:mg "BadStep"=some (.ref BadStep)
 BadText:Addr
 qC:mg "BadText"=some (.ref BadText)
 Web:Addr
 Tp:mg "Web"=some (.ref Web)
 Outlook:Addr
 XM:mg "Outlook"=some (.ref Outlook)
 Tally:Addr
 Y5:mg "Tally"=some (.ref Tally)
 Desk:Addr
 Wu:mg "Desk"=some (.ref Desk)
 wx:aeM K TollError
 EZ:aT K TollError BadWeb
 ow:aT K TollError NoPlace
 ud:mW K NoPlace
 CT:aT K TollError NoRoad
 xp:mW K NoRoad
 qJ:aT K TollError BadLaying
 qM:mW K BadLaying
 lh:aT K TollError BadWish
 qA:mW K BadWish
 hG:aT K TollError NoWorst
 uT:mW K NoWorst
 jX:aT K TollError NoDeed
 xb:mW K NoDeed
 jV:aT K TollError BadStep
 qB:aT K TollError BadText
 wu:acw K TollError
 Oq:abn K BadStep TollError "at"
 XJ:PySem.W.findIn K (.ref BadStep) "at"=some none
 PB:abn K BadText TollError "at"
 XI:PySem.W.findIn K (.ref BadText) "at"=some none
 iN:[TollError,BadWeb,NoPlace,NoRoad,BadLaying,BadWish,NoWorst,NoDeed,BadStep,BadText].Nodup
 range:mg "range"=none
 zip:mg "zip"=none
 len:mg "len"=none
 all:mg "all"=none
 int:mg "int"=none
 tuple:mg "tuple"=none
 list:mg "list"=none
 reversed:mg "reversed"=none
 sorted:mg "sorted"=none
 min:mg "min"=none
 max:mg "max"=none
 enumerate:mg "enumerate"=none
 sum:mg "sum"=none
 str:mg "str"=none
 set:mg "set"=none
 Z5:∃t,mg "MOST_PLACES"=some (.int 24 t)
 aas:∃t,mg "LEAST_TOLL"=some (.int 2 t)
 aaQ:∃t,mg "MOST_TOLL"=some (.int 1000000 t)
 abS:∃t,mg "FIGURES"=some (.str "0123456789" t)
 ZR:∃t,mg "MOST_FIGURES"=some (.int 60 t)
 aiX:∃t,mg "PIECE"=some (.int 1000000000000000000 t)
 aca:∃t,mg "PIECE_FIGURES"=some (.int 18 t)
 DEEDS:Addr
 UI:mg "DEEDS"=some (.ref DEEDS)
 Uo:aeQ K DEEDS [.str "put",.str "want",.str "step",.str "back"]
 NUMBERS_BEHIND:Addr
 pG:mg "NUMBERS_BEHIND"=some (.ref NUMBERS_BEHIND)
 iq:Cls K Web
 ϙ:ϐ K Web "many"
 ZG:ϐ K Web "roads"
 bM:Cls K Desk
 Y8:ϐ K Desk "web"
 Zo:ϐ K Desk "past"
section
variable{P:Program}{w:World}{K:fg}{B:f5}{base:Heap}{CX:Zu}
def qD(T:Txt K B):Sp:=λb H Q _=>E3 λ(m:Int)(t:Addr)(a:List V)=>b=[.int m,.ref t]/\Ξ K H t a/\1<=m/\m<=24/\(a.length:Int)=m-1/\Q .Θ H
abbrev jE:Stmt:=top 20
theorem yX:ε ["many","roads"] ["many","roads"] (aw jE):=.of
theorem jR:iD (aw jE) "MOST_PLACES":=.of (by kernel_rfl)
theorem yp(T:Txt K B)(n:bC (ς P w)):Ok P w K B base "check_counts" jE ["many","roads"] 1 (qD T):=λ_ _ D=>by
 refine D.F.Ac yX (by walk_at "v") λf A a s H j Q E i h=>?_;obtain⟨m,t,e,rfl,b,c,o,l,k⟩:=h;refine⟨_,(au (cf (kU (xk sC sC ay (δ 0) (sD jR.g T.Z5 (hd:=jR.d)))) (aA cr) bK) (aA (cf (ϧ o8 (pcb ik T.len (aa (δ 1) ap)) (aP C9 (δ 0) ay)) (aA cr) bK))),?_⟩;walk_at "s";walk_at "";rw[aj c,ag (by lia)];exact⟨e,.inr b,by rw[ag (by lia)];exact k⟩
def oq(T:Txt K B):Sp:=λa H Q _=>∃m n:Int,a=[.int m,.int n]/\Q (.bl (decide (0<=n)&&decide (n<m))) H
abbrev lO:Stmt:=top 19
theorem HA:ε ["many","number"] ["many","number"] (aw lO):=.of
theorem HV(T:Txt K B)(d:bC (ς P w)):Ok P w K B base "is_place" lO ["many","number"] 1 (oq T):=λ_ _ D=>by
 refine D.F.Ac HA (by walk_at "v") λe A a s H b Q E f h=>?_;obtain⟨m,n,rfl,k⟩:=h;refine⟨_,(aA (bx (Qv sC No ay (δ 1) (δ 0)))),?_⟩;walk_at "s";walk_at "";by_cases c:0<=n
 .simpa[c]using k
 .simpa[c]using k
def sM(T:Txt K B):Sp:=λc H Q _=>E3 λ(m:Int)(p:Addr)(r:Road)=>c=[.int m,.ref p]/\H p=some (.tup (pi r))/\0<=r.a/\r.a<m/\0<=r.b/\r.b<m/\r.a≠r.b/\Q .Θ H
abbrev mZ:Stmt:=top 21
theorem B8:ε ["many","road"] ["many","road"] (aw mZ):=.of
abbrev hF(P w base)(T:Txt K B):=Cb P w K B base "is_place" lO ["many","number"] 1 (oq T)
theorem Ca(T:Txt K B)(g:bC (ς P w))(f:hF P w base T):Ok P w K B base "check_ends" mZ ["many","road"] 2 (sM T):=λ_ _ D=>by
 refine D.F.Ac B8 (by walk_at "v") λo A d s H q Q E e h=>?_;obtain⟨m,p,r,rfl,c,n,j,l,i,ne,k⟩:=h;refine⟨_,(au (cf (PW.pt (vL (kU (nj (Zx f e g (aa (δ 0) (aa (Ο dQ (δ 1) ay) ap))))) (rM (kU (nj (Zx f e g (aa (δ 0) (aa (Ο dQ (δ 1) ay) ap)))))))) (aA cr) bK) (aA (cf (ϧ cY (Ο dQ (δ 1) ay) (Ο dQ (δ 1) ay)) (aA cr) bK))),?_⟩;walk_at "s";walk_at "";refine ZP c rfl ⟨m,r.a,rfl,_,rfl,?_⟩;rw[ag (by simp[n,j])];refine ZP c rfl ⟨m,r.b,rfl,_,rfl,?_⟩;rw[ag (by simp[l,i])];refine ZP c rfl (ZP c rfl ⟨rfl,?_⟩);rw[ag (by simpa using ne)];exact k
def oN(T:Txt K B):Sp:=λd H Q _=>E4 λ(t:Addr)(c:fx)(a:hD)(n:Int)=>d=[.ref t,.int n]/\Ξ K H t (c.map V.ref)/\ω H c a/\a.length<=1000/\∀l b,H l=none->γ H b->b l=some (.lst ((eA a n).map V.int))->Q (.ref l) b
abbrev kT:Stmt:=top 24
theorem Cm:ε ["roads","place","ends","road"] ["roads","place"] (aw kT):=.of
theorem B4(T:Txt K B)(hq:bC (ς P w)):Ok P w K B base "other_ends" kT ["roads","place"] 1 (oN T):=λ_ _ D=>by
 refine D.F.Ac Cm (by walk_at "v") λU A I s H Y Q E W h=>?_;obtain⟨t,L,c,n,rfl,J,M,hl,k⟩:=h;refine⟨_,(au (Χ 2 (cM ap)) (au (iA PassesOwn.never rfl (ut (δ 0)) (Zj 3) (au (cf (ϧ cY (Ο dQ (δ 3) ay) (δ 1)) (aA (bU (iH PySem.F.plainAttrs_list PySem.F.slot_list_append PySem.F.type_list_append eR (δ 2) (aa (Ο dQ (δ 3) ay) ap)))) bK) (aA (cf (ϧ cY (Ο dQ (δ 3) ay) (δ 1)) (aA (bU (iH PySem.F.plainAttrs_list PySem.F.slot_list_append PySem.F.type_list_append eR (δ 2) (aa (Ο dQ (δ 3) ay) ap)))) bK)))) (aA (bx (δ 2))))),?_⟩;walk_at "s";walk_at "";refine⟨by decide,λl j=>?_⟩;have m:L.length=c.length:=Paired.length M;refine⟨⟨_,γ.tup (γ.new _ j) J⟩,zp (xs:=L.map V.ref) (λi y u=>u=upd H l (.lst ((eA (c.take i) n).map V.int))/\∃v,y=[some (.ref t),some (.int n),some (.ref l),v]) ⟨rfl,_,rfl⟩ (λi y u _ z=>by rw[z.1];exact γ.tup (γ.new _ j) J) ?_ ?_⟩
 .rintro i x y u hi ⟨rfl,v,rfl⟩;obtain⟨p,r,rfl,X,O,N⟩:=M.get hi;have S:p≠l:=cC N j;have R:i<c.length:=(aH.mp O).1;have q:c.take (i+1)=c.take i++[r]:=by rw[bA,O];rfl
  have Z:(eA (c.take i) n).length<=2000:=bh (DL _ _) (by rw[bc];lia);have f:∀o,upd H l o p=some (.tup (pi r)):=λo=>by rw[aU S];exact N
  walk_at "";refine ZP (f _) rfl ?_;walk_at "";have d:∀(G:ej),(eA (c.take i) n++G)=eA (c.take (i+1)) n->upd H l (.lst ((eA (c.take i) n).map V.int++G.map V.int))=upd H l (.lst ((eA (c.take (i+1)) n).map V.int)):=λG e=>by
   rw[<-aQ,e]
  have C:qt n r=(if r.a=n then[r.b]else[])++(if r.b=n then[r.a]else[]):=rfl;by_cases g:r.a=n
  .rw[aj g];refine⟨tyL aq,ZP (f _) rfl (re aq (gi (by rw[am];lia)) ?_)⟩;rw[mK];refine ZP (f _) rfl ?_;walk_at "";by_cases cb:r.b=n
   .rw[aj cb];refine⟨tyL aq,ZP (f _) rfl (re aq (gi (by rw[ao,am];simp;lia)) ?_)⟩;rw[mK,bO];exact⟨d [r.b,r.a] (by rw[q,qi,C,aj g,aj cb];rfl),_,rfl⟩
   .rw[ag cb];exact⟨d [r.b] (by rw[q,qi,C,aj g,ag cb];rfl),_,rfl⟩
  .rw[ag g];refine ZP (f _) rfl ?_;walk_at "";by_cases cb:r.b=n
   .rw[aj cb];refine⟨tyL aq,ZP (f _) rfl (re aq (gi (by rw[am];lia)) ?_)⟩;rw[mK];exact⟨d [r.a] (by rw[q,qi,C,ag g,aj cb];rfl),_,rfl⟩
   .rw[ag cb];have:=d [] (by rw[q,qi,C,ag g,ag cb];rfl);rw[dB,cn]at this;exact⟨this,_,rfl⟩
 .rintro y u ⟨rfl,v,rfl⟩;rw[am,m,cj];exact⟨_,rfl,k l _ j (γ.new _ j) aq⟩
def lK(a:ej):List (Key×V):=a.map λk=>((Sum.inl k:Key),V.bl true)
theorem Bs(a:ej):(lK a).length=a.length:=by unfold lK;rw[am]
theorem FU(a:ej)(e:Int):kq (lK a) (Sum.inl e:Key)=if e∈a then some (V.bl true)else none:=by
 unfold lK
 induction a with
 | nil=>rfl
 | cons k a ih=>
   rw[ba];by_cases c:k=e
   .rw[sE (by rw[c]),aj (by rw[c];exact aR)]
   .rw[sK (λz=>c (Sum.inl.inj z)),ih];by_cases d:e∈a
    .rw[aj d,aj (aK _ d)]
    .rw[ag d,ag (λz=>by rcases az.mp z with z|z;exact c z.symm;exact d z)]
theorem Rz{a:ej}{e:Int}(h:e∉a):ko (lK a) (Sum.inl e:Key) (V.bl true)=lK (a++[e]):=by
 rw[Sq _ (by rw[FU,ag h])];unfold lK;rw[aQ]
 rfl
def qF(T:Txt K B):Sp:=λd H Q _=>E4 λ(m:Int)(t:Addr)(b:fx)(a:hD)=>d=[.int m,.ref t]/\Ξ K H t (b.map V.ref)/\ω H b a/\Good m a/\∀c,γ H c->Q .Θ c
abbrev lL:Stmt:=top 23
theorem y7:ε ["many","roads","reached","waiting","place","end"] ["many","roads"] (aw lL):=.of
theorem zd(T:Txt K B)(hq:bC (ς P w))(jw:Cb P w K B base "other_ends" kT ["roads","place"] 1 (oN T)):Ok P w K B base "check_joined" lL ["many","roads"] 2 (qF T):=λ_ _ D=>by
 refine D.F.Ac y7 (by walk_at "v") λΖ A ad s H vs Q E hr h=>?_;obtain⟨m,t,ps,r,rfl,ht,hp,g,k⟩:=h;have hu:=Xw hr;refine⟨_,(au (Χ 2 (Uh (QK ay vK UQ) rfl rfl (List.cons_ne_nil _ _) (by decide))) (au (Χ 3 (cM (aa ay ap))) (au (xD PassesOwn.never (xm (δ 3) (λ_=>rfl)) (au (Χ 4 (uM PySem.F.plainAttrs_list PySem.F.slot_list_pop PySem.F.type_list_pop xU (δ 3))) (aA (iA PassesOwn.never rfl (lB (Zx jw hr hq (aa (δ 1) (aa (δ 4) ap)))) (Zj 5) (aA (cf (V5 (Pl hu (δ 5) (δ 2))) (au (Vd hu (δ 2) (δ 5) vK rfl) (aA (bU (iH PySem.F.plainAttrs_list PySem.F.slot_list_append PySem.F.type_list_append eR (δ 3) (aa (δ 5) ap))))) bK)))))) (aA (cf (ϧ o8 (pcb OU T.len (aa (δ 2) ap)) (δ 0)) (aA cr) bK))))),?_⟩;walk_at "s";have m1:=g.m1;have Ϩ:=g.Ϩ;have bM:=g.len;walk_at "";intro d hd;refine⟨aq,[(Sum.inl 0,.bl true)],rfl,by decide,?_⟩;rw[mK];refine⟨by decide,λu R=>?_⟩;have ed:sd [] [((Sum.inl 0:Key),V.bl true)]=lK [0]:=rfl;rw[ed];have y:u≠d:=λz=>by rw[z,aq]at R;cases R
 have Y:H u=none:=by rw[aU y]at R;exact R
 refine IJ (λn N X=>E4 λ(C O:ej)(v4 L:Option V)=>n=2*(m.toNat-C.length)+O.length/\N=[some (.int m),some (.ref t),some (.ref d),some (.ref u),v4,L]/\γ H X/\X d=some (.dK (lK C))/\X u=some (.lst (O.map V.int))/\aaN m r C O) _ ⟨[0],[0],none,none,rfl,rfl,?_,?_,aq,aaN.start m1⟩ ?_
 .exact γ.trans (γ.new _ hd) (γ.new _ R)
 .rw[aU y.symm,aq]
 rintro n N X NW hN W ⟨C,O,v4,L,rfl,rfl,sm,h1,U,J⟩;have kl:=fk (by lia) J.nd J.iS;refine⟨_,rfl,!(O.map V.int).isEmpty,.inl ⟨_,Η.of U,rfl⟩,?_⟩;rcases eS O with rfl|⟨j,p,rfl⟩
 .-- nothing amz: all places have bm reached
  have a2:=J.all m1 g.jn;refine XW ?_;walk_at "";refine⟨lK C,h1,?_⟩;rw[Bs,ag (by lia)];exact k _ sm
 .rw[eT]at J U hN W ⊢;have e1:(!(List.map V.int (j++[p])).isEmpty)=true:=by simp
  rw[e1];refine YG ⟨NW,W,?_⟩;walk_at "";rw[aQ,ba,dB]at U;refine⟨tyL U,Tj U ?_⟩;have I:d≠u:=y.symm;have v:γ H (upd X u (.lst (j.map V.int))):=λb o e=>by rw[aU (cC e Y)];exact sm b o e
  refine⟨t,ps,r,p,rfl,γ.tup v ht,ω.same v hp,by lia,λl H3 hn Z hl=>?_⟩;have ac:u≠l:=cC (o:=.lst (j.map V.int)) aq hn;have af:d≠l:=cC (o:=.dK (lK C)) (by rw[aU I];exact h1) hn;have a6:H l=none:=v.free hn;refine⟨l,rfl,⟨_,Η.of hl⟩,Bz (K:=K) (xs:=(eA r p).map V.int) (λi N G=>∃(L:Option V),N=[some (.int m),some (.ref t),some (.ref d),some (.ref u),some (.int p),L]/\γ H G/\G l=some (.lst ((eA r p).map V.int))/\∃a f:List Int,G d=some (.dK (lK a))/\G u=some (.lst (f.map V.int))/\aap m r p ((eA r p).take i) a f C j.length) ?_ (λi N G _ z=>by obtain⟨_,_,_,z,_⟩:=z;exact Η.of z) ?_ ?_⟩
  .refine⟨_,rfl,v.trans Z,hl,C,j,?_,?_,?_⟩
   .exact Z _ _ (by rw[aU I];exact h1)
   .exact Z _ _ aq
   .rw[dy];exact aap.start J
  .rintro i x N G NI hI hi ⟨L,rfl,s4,hl4,a,f,hd4,hw4,M⟩;rw[aY]at hi;obtain⟨e,he,rfl⟩:∃e,(eA r p)[i]?=some e/\V.int e=x:=by
    cases q:(eA r p)[i]? with
    | none=>rw[q]at hi;cases hi
    | some e=>rw[q]at hi;exact⟨e,rfl,bo hi⟩
   have er:=Sr g.ok (bd he);have et:(eA r p).take (i+1)=(eA r p).take i++[e]:=(by rw[bA,he];rfl);have st:=M.step er.1 er.2;have k4:=fk (by lia) M.nd M.iS;have ae:=M.mu;walk_at "";refine⟨_,ack.k (k:=Sum.inl e) hd4,?_⟩;rw[FU];by_cases c:e∈a
   .rw[aj c];rw[ag (by simp)];refine hI _ _ ⟨_,rfl,s4,hl4,a,f,hd4,hw4,?_⟩;rw[et];unfold y0 at st;rw[aj c]at st;exact st
   .rw[ag c];rw[aj (by simp)];refine⟨_,acm.k (k:=Sum.inl e) hd4 (gi (by rw[Bs];lia)),?_⟩;rw[Rz c];have S:upd G d (.dK (lK (a++[e]))) u=some (.lst (f.map V.int)):=(by rw[aU y];exact hw4);refine⟨tyL S,re S (gi (by rw[am];have:=M.wl;lia)) ?_⟩;have bv:=M.mu;refine hI _ _ ⟨_,rfl,λb o z=>?_,?_,a++[e],f++[e],?_,?_,?_⟩
    .rw[aU (cC z Y),aU (cC z hd)];exact s4 b o z
    .rw[aU ac.symm,aU af.symm];exact hl4
    .rw[aU I,aq]
    .rw[aq,aQ];rfl
    .rw[et];unfold y0 at st;rw[ag c]at st;exact st
  .rintro N G ⟨L,rfl,s4,hl4,a,f,hd4,hw4,M⟩;rw[am,cj]at M;have k4:=fk (by lia) M.nd M.iS;have ae:=M.mu;have a7:=M.up;refine hN _ _ _ ?_ ⟨a,f,some (.int p),L,rfl,rfl,s4,hd4,hw4,M.done⟩;rw[ao];simp only[aO,cS]
   lia
def rS(T:Txt K B):Sp:=λb H Q _=>∃(p:Addr)(r:Road),b=[.ref p]/\H p=some (.tup (pi r))/\2<=r.t/\r.t<=1000000/\2<=r.u/\r.u<=1000000/\∀a,γ H a->Q .Θ a
abbrev iW:Stmt:=top 22
theorem zL:ε ["road","number"] ["road"] (aw iW):=.of
theorem kP:iD (aw iW) "LEAST_TOLL":=.of (by kernel_rfl)
theorem kY:iD (aw iW) "MOST_TOLL":=.of (by kernel_rfl)
theorem Ae(T:Txt K B)(N:bC (ς P w)):Ok P w K B base "check_tolls" iW ["road"] 1 (rS T):=λ_ _ D=>by
 refine D.F.Ac zL (by walk_at "v") λJ A c s H M Q E L h=>?_;obtain⟨p,r,rfl,e,m,C,y,l,k⟩:=h;refine⟨_,(aA (iA PassesOwn.never rfl (ut (dL (aa (Ο dQ (δ 0) ay) (aa (Ο dQ (δ 0) ay) ap)))) (Zj 1) (aA (cf (kU (xk sC sC (sD kP.g T.aas (hd:=kP.d)) (δ 1) (sD kY.g T.aaQ (hd:=kY.d)))) (aA cr) bK)))),?_⟩;walk_at "s";walk_at "";refine ZP e rfl (ZP e rfl ⟨bj (by simp),λq j=>?_⟩);have f:upd H q (.tup [.int r.t,.int r.u]) q=some (.tup [.int r.t,.int r.u]):=aq;refine⟨⟨_,Ξ.of f⟩,zp (K:=K) (xs:=[.int r.t,.int r.u]) (λi b a=>a=upd H q (.tup [.int r.t,.int r.u])/\∃v,b=[some (.ref p),v]) ⟨rfl,_,rfl⟩ (λi b a _ z=>by rw[z.1];exact Ξ.of f) ?_ ?_⟩
 .rintro i x b a hi ⟨rfl,v,rfl⟩;have o:∃n:Int,x=.int n/\2<=n/\n<=1000000:=by
   match i,hi with
   | 0,hi=>exact⟨r.t,by simpa using hi.symm,m,C⟩
   | 1,hi=>exact⟨r.u,by simpa using hi.symm,y,l⟩
  obtain⟨n,rfl,G,I⟩:=o;walk_at "";rw[aj G,ag (by lia)];exact⟨_,rfl⟩
 .rintro b a ⟨rfl,v,rfl⟩;exact k _ (γ.new _ j)
def yy(m:Int)(t:Addr):List (Str×V):=fQ "roads" (.ref t) (fQ "many" (.int m) [])
theorem Xp:¬(("many":Str)="roads"):=by decide +kernel
theorem gc(m:Int)(t:Addr):(yy m t).lookup ("many":Str)=some (.int m):=by
 unfold yy;rw[fw,ag Xp,fw,aj rfl]
theorem qX(m:Int)(t:Addr):(yy m t).lookup ("roads":Str)=some (.ref t):=by
 unfold yy;rw[fw,aj rfl]
structure π(C:Addr)(H:Hp)(p:Addr)(m:Int)(t:Addr)(ps:fx)(rs:hD):Prop where
 ob:∃dx,H p=some (.ins C dx (yy m t))
 tu:H t=some (.tup (ps.map V.ref))
 ro:ω H ps rs
 go:Good m rs
theorem π.same{C:Addr}{H c:Hp}{p:Addr}{m:Int}{t:Addr}{b:fx}{a:hD}(e:γ H c)(h:π C H p m t b a):π C c p m t b a:=⟨let ⟨dx,q⟩:=h.ob;⟨dx,e _ _ q⟩,e _ _ h.tu,ω.same e h.ro,h.go⟩
def kH(T:Txt K B):Sp:=λg H Q _=>E7 λ(p h:Addr)(m:Int)(c:Bool)(a:Addr)(e:fx)(d:hD)=>g=[.ref p,.int m,.ref a]/\H p=some (.ins T.Web h [])/\bV K c H a (e.map V.ref)/\ω H e d/\Good m d/\∀t f,H t=none->π T.Web f p m t e d->(∀b o,H b=some o->b≠p->f b=some o)->Q .Θ f
abbrev fh:Stmt:=hZ (top 15) 0
theorem yw:ε ["self","many","roads","kept","road"] ["self","many","roads"] (aw fh):=.of
theorem yi(T:Txt K B)(G:bC (ς P w)){f:Addr}{fd:FuncData}(F:ϑ K "__init__" "Web.__init__" fh f fd)(nK:Cb P w K B base "check_counts" jE ["many","roads"] 1 (qD T))(pP:Cb P w K B base "check_ends" mZ ["many","road"] 2 (sM T))(nM:Cb P w K B base "check_joined" lL ["many","roads"] 2 (qF T))(oV:Cb P w K B base "check_tolls" iW ["road"] 1 (rS T)):υ P w K B base (ς P w) 3 f fd ["self","many","roads"] (kH T):=by
 refine F.Ac yw (by walk_at "v") λΖ A ab s H vs Q E L h=>?_;obtain⟨p,Z,m,c,a,d,rs,rfl,X,ha,n,g,k⟩:=h;refine⟨_,(au (Χ 3 (ZF gH T.tuple (aa (py rfl (sJ (Nc:=["road"]) 1 (by decide +kernel) (by decide +kernel) rfl (by decide +kernel) rfl) (P7 c (δ 2)) (λ_ _ _ _=>(jB (i:=0) (show(["road"]:gy).Nodup from by decide +kernel) rfl (Or.inl rfl))) (λ_ _ _ _=>nV) (λ_ _ _ _=>(Bi (AL K rfl) (by rfl) T.tuple Th (aa (pv 0) ap)))) ap))) (au (bU (Zx nK L G (aa (δ 1) (aa (δ 3) ap)))) (au (iA PassesOwn.never rfl (ut (δ 3)) (Zj 4) (au (bU (Zx pP L G (aa (δ 1) (aa (δ 4) ap)))) (aA (bU (Zx oV L G (aa (δ 4) ap)))))) (au (bU (Zx nM L G (aa (δ 1) (aa (δ 3) ap)))) (au (zi (δ 0) (δ 1) rfl) (aA (zi (δ 0) (δ 3) rfl))))))),?_⟩;walk_at "s";walk_at "";refine⟨⟨_,ha⟩,λl R=>?_⟩;have ar:d.length=rs.length:=Paired.length n;have a4:=g.len;have Ϩ:=g.Ϩ;have a8:γ H (upd H l (.lst [])):=γ.new _ R;refine sH (K:=K) (xs:=d.map V.ref) (λi J u O=>O=upd H l (.lst ((d.take i).map V.ref))/\J=(d.take i).map V.ref/\∃v,u=[v]) ⟨rfl,rfl,_,rfl⟩ (λi J u O _ ⟨z,_⟩=>by rw[z];exact γ.sqX (γ.new _ R) ha) ?_ ?_
 .rintro i x J u O N hN hi ⟨rfl,rfl,v,rfl⟩;obtain⟨q,r,rfl,W,h2,I⟩:=n.get hi;have nq:q≠l:=cC I R;have aT:i<d.length:=(aH.mp W).1;have et:d.take (i+1)=d.take i++[q]:=by rw[bA,W];rfl
  walk_at "";refine⟨pi r,.inr ⟨Ξ.of (by rw[aU nq];exact I),aq,gi (by rw[am,bc];lia),hN _ _ _ ⟨?_,?_,_,rfl⟩⟩⟩
  .rw[mK,et,aQ];rfl
  .rw[et,aQ];rfl
 .rintro J u O ⟨rfl,rfl,v,rfl⟩;rw[am,cj];refine⟨l,rfl,d.map V.ref,.inl ⟨Η.of aq,λt ht=>?_⟩⟩;have U:γ H (upd H l (.lst (d.map V.ref))):=γ.new _ R;have s2:γ (upd H l (.lst (d.map V.ref))) (upd (upd H l (.lst (d.map V.ref))) t (.tup (d.map V.ref))):=γ.new _ ht;have C:H t=none:=U.free ht;have D:∀{H':Hp},γ (upd (upd H l (.lst (d.map V.ref))) t (.tup (d.map V.ref))) H'->H' t=some (.tup (d.map V.ref)):=λe=>e _ _ aq;refine⟨m,t,d.map V.ref,rfl,Ξ.of aq,g.m1,g.Ϩ,by rw[am];lia,⟨_,Ξ.of aq⟩,?_⟩;refine Fb (K:=K) (xs:=d.map V.ref) (λi u M=>γ (upd (upd H l (.lst (d.map V.ref))) t (.tup (d.map V.ref))) M/\∃v,u=[some (.ref p),some (.int m),some (.ref a),some (.ref t),v]) ⟨γ.refl _,_,rfl⟩ (λi u M _ ⟨z,_⟩=>Ξ.of (D z)) ?_ ?_
  .rintro i x u M N hN hi ⟨s3,v,rfl⟩;have j:=U.trans (s2.trans s3);obtain⟨q,r,rfl,W,h2,I⟩:=n.get hi;have ok:=g.ok r (bd h2);walk_at "";refine⟨m,q,r,rfl,j _ _ I,ok.a0,ok.a1,ok.b0,ok.b1,ok.ne,?_⟩;exact⟨q,r,rfl,j _ _ I,ok.t0,ok.t1,ok.u0,ok.u1,λH4 S=>hN _ _ ⟨s3.trans S,_,rfl⟩⟩
  .rintro u M ⟨s3,v,rfl⟩;have j:=U.trans (s2.trans s3);walk_at "";refine⟨m,t,d,rs,rfl,Ξ.of (D s3),ω.same j n,g,λH4 S=>?_⟩;have y:=j.trans S;have Y:t≠p:=λz=>by rw[z,X]at C;cases C
   refine⟨T.Web,Z,[],y _ _ X,T.iq,T.ϙ,by decide,?_⟩;refine⟨T.Web,Z,_,aq,T.iq,T.ZG,by show 1<1000;decide,?_⟩;rw[mK];refine k t _ C ⟨⟨Z,aq⟩,?_,?_,g⟩ λb o hb nb=>?_
   .rw[aU Y];exact D (s3.trans S)
   .refine Paired.imp' (λq r G=>?_) n;rw[aU (fm G X (by intro z;cases z))];exact y _ _ G
   .rw[aU nb];exact y _ _ hb
theorem P1(T:Txt K B){H:Hp}{m:Int}{c:Bool}{a:Addr}{h:fx}{i:hD}{Q:Addr->Hp->Prop}(s:bV K c H a (h.map V.ref))(y:ω H h i)(g:Good m i)(k:∀x t f,H x=none->H t=none->γ H f->π T.Web f x m t h i->Q x f):∀x d,H x=none->H d=none->d≠x->kH T [.ref x,.int m,.ref a] (upd (upd H d (.own x)) x (.ins T.Web d [])) (λv r=>v=.Θ/\Q x r) E0:=by
 intro x d l p ne;have n:upd H d (.own x) x=none:=by rw[aU ne.symm];exact l
 have j:γ H (upd (upd H d (.own x)) x (.ins T.Web d [])):=(γ.new _ p).trans (γ.new _ n);exact⟨x,d,m,c,a,h,i,rfl,aq,γ.sqX j s,ω.same j y,g,λt f q W u=>⟨rfl,k x t f l (j.free q) (λb o e=>u b o (j b o e) (cC e l)) W⟩⟩
def vd(T:Txt K B):Sp:=λa H Q _=>∃(c:Int),a=[.int c]/\∀(p:Addr)(t u:Int),H p=none->2<=t->t<=1000000->2<=u->u<=1000000->Q (.ref p) (upd H p (.tup [.int t,.int u]))
abbrev oh:Stmt:=top 117
theorem Da:ε ["t","there","back"] ["t"] (aw oh):=.of
theorem Fs(T:Txt K B)(R:bC (ς P w)):Ok P w K B base "_law_tolls" oh ["t"] 1 (vd T):=λ_ _ D=>by
 refine D.F.Ac Da (by walk_at "v") λI A i s H N Q E L h=>?_;obtain⟨c,rfl,k⟩:=h;refine⟨_,(au (Χ 1 (aP fB ay (aP dh (aP eB (δ 0) ay) ay))) (au (Χ 2 (aP fB ay (aP dh (aP eB (δ 0) ay) ay))) (au (cf (ϧ cY (aP dh (δ 0) ay) ay) (aA (Χ 2 (δ 1))) bK) (au (cf (PW.pt (yq (ϧ cY (aP dh (δ 0) ay) ay) (vz (ϧ cY (aP dh (aP eB (δ 0) ay) ay) ay)))) (au (Χ 1 (aP fB ay (aP dh (aP eB (δ 0) ay) ay))) (aA (Χ 2 (aP fB ay (aP dh (aP eB (aP eB (δ 0) ay) ay) ay))))) bK) (aA (bx (dL (aa (δ 1) (aa (δ 2) ap))))))))),?_⟩;walk_at "s";have d:∀(x n:Int),0<n->0<=x%n/\x%n<n:=λx n h=>⟨be x (Int.ne_of_gt h),bE x h⟩;have M:=d (c/4) 3 (by decide);have S:=d (c/12) 3 (by decide);have J:=d (c/144) 999999 (by decide);have O:=d (c/144/999999) 999999 (by decide);have b:∀x n:Int,0<n->n<1073741824->wT x n:=λx n u G=>⟨u,G⟩;have e:∀x y:V,[x,y].length<=sizeLine:=λx y=>bj (by simp);walk_at "";refine⟨b _ _ (by decide) (by decide),by decide,b _ _ (by decide) (by decide),by decide,by decide,?_⟩;have f:wT c 36/\(0:Int)<4/\wT c 144/\(0:Int)<999999/\wT (c/144) 999999:=⟨b _ _ (by decide) (by decide),by decide,b _ _ (by decide) (by decide),by decide,b _ _ (by decide) (by decide)⟩;obtain⟨t,g,j,o,z⟩:=f;have v:∀p,H p=none->Q (.ref p) (upd H p (.tup [.int (2+c/144%999999),.int (2+c/144/999999%999999)])):=λp a=>k p _ _ a (by lia) (by lia) (by lia) (by lia);have C:∀p,H p=none->Q (.ref p) (upd H p (.tup [.int (2+c/4%3),.int (2+c/4%3)])):=λp a=>k p _ _ a (by lia) (by lia) (by lia) (by lia);have q:∀p,H p=none->Q (.ref p) (upd H p (.tup [.int (2+c/4%3),.int (2+c/12%3)])):=λp a=>k p _ _ a (by lia) (by lia) (by lia) (by lia);by_cases r:c%4=1
 .rw[aj r];refine⟨g,?_⟩;rw[ag (by lia)];exact⟨e _ _,C⟩
 .rw[ag r];refine⟨g,?_⟩;by_cases l:c%4=2
  .rw[aj l];refine⟨t,g,?_⟩;by_cases m:c/36%4=1
   .rw[aj m];exact⟨j,o,j,z,o,e _ _,v⟩
   .rw[ag m];exact⟨e _ _,q⟩
  .rw[ag l];exact⟨e _ _,q⟩
def pf(a b:Addr):List (Str×V):=fQ "past" (.ref b) (fQ "web" (.ref a) [])
theorem uh(a b:Addr):(pf a b).lookup ("web":Str)=some (.ref a):=by
 unfold pf;rw[fw,ag (by decide +kernel),fw,aj rfl]
theorem m8(b a:Addr):(pf b a).lookup ("past":Str)=some (.ref a):=by
 unfold pf;rw[fw,aj rfl]
theorem FV{d a:Addr}{m:Str}(c:¬m="past")(b:¬m="web"):(pf d a).lookup m=none:=by
 unfold pf;rw[fw,ag c,fw,ag b]
 rfl
def aaR(H:Hp)(q:Addr)(s:List Int×List Int):Prop:=∃a b,H q=some (.tup [.ref a,.ref b])/\H a=some (.tup (s.1.map V.int))/\H b=some (.tup (s.2.map V.int))
structure τ(C O:Addr)(H:Hp)(o wb pl:Addr)(m:Int)(t:Addr)(ps:fx)(rs:hD)(Γ:List (List Int×List Int)):Prop where
 ob:∃dx,H o=some (.ins O dx (pf wb pl))
 web:π C H wb m t ps rs
 pa:∃qs:List Addr,H pl=some (.lst (qs.map V.ref))/\Paired (aaR H) qs Γ
theorem τ.same{C O:Addr}{H g:Hp}{o d j:Addr}{m:Int}{t:Addr}{c:fx}{f:hD}{i:List (List Int×List Int)}(e:γ H g)(h:τ C O H o d j m t c f i):τ C O g o d j m t c f i:=⟨let ⟨dx,q⟩:=h.ob;⟨dx,e _ _ q⟩,h.web.same e,let ⟨qs,h1,h2⟩:=h.pa;⟨qs,e _ _ h1,Paired.imp' (λq s ⟨a,b,x,y,z⟩=>⟨a,b,e _ _ x,e _ _ y,e _ _ z⟩) h2⟩⟩
theorem aaR.kpt{H d:Hp}{l q:Addr}{s:List Int×List Int}{f:List V}(e:Zh l H d)(c:H l=some (.lst f))(h:aaR H q s):aaR d q s:=by
 obtain⟨a,b,x,y,z⟩:=h;exact⟨a,b,e _ _ x (fm x c (by intro z;cases z)),e _ _ y (fm y c (by intro z;cases z)),e _ _ z (fm z c (by intro z;cases z))⟩
theorem π.afd{C:Addr}{H d:Hp}{l p:Addr}{m:Int}{t:Addr}{c:fx}{b:hD}{f:List V}(e:Zh l H d)(a:H l=some (.lst f))(h:π C H p m t c b):π C d p m t c b:=⟨let ⟨dx,q⟩:=h.ob;⟨dx,e _ _ q (fm q a (by intro z;cases z))⟩,e _ _ h.tu (fm h.tu a (by intro z;cases z)),Paired.imp' (λq x z=>e _ _ z (fm z a (by intro z;cases z))) h.ro,h.go⟩
theorem π.afe{C O:Addr}{H f:Hp}{o p:Addr}{m:Int}{t a:Addr}{c:fx}{d:hD}{g:List (Str×V)}(e:Zh o H f)(b:H o=some (.ins O a g))(h:π C H p m t c d)(n:p≠o:=by assumption):π C f p m t c d:=⟨let ⟨a,q⟩:=h.ob;⟨a,e _ _ q n⟩,e _ _ h.tu (fm h.tu b (by intro z;cases z)),Paired.imp' (λq x z=>e _ _ z (fm z b (by intro z;cases z))) h.ro,h.go⟩
theorem τ.kpt{C O:Addr}{H g:Hp}{o d b l:Addr}{m:Int}{t:Addr}{c:fx}{f:hD}{i:List (List Int×List Int)}{j:List V}(e:Zh l H g)(a:H l=some (.lst j))(n:b≠l)(h:τ C O H o d b m t c f i):τ C O g o d b m t c f i:=⟨let ⟨dx,q⟩:=h.ob;⟨dx,e _ _ q (fm q a (by intro z;cases z))⟩,h.web.afd e a,let ⟨qs,h1,h2⟩:=h.pa;⟨qs,e _ _ h1 n,Paired.imp' (λq s x=>x.kpt e a) h2⟩⟩
theorem τ.last{C O:Addr}{H:Hp}{o l f:Addr}{m:Int}{t:Addr}{k:fx}{n:hD}{e:List (List Int×List Int)}{s:List Int×List Int}(h:τ C O H o l f m t k n (e++[s])):E4 λ(c:fx)(q a b:Addr)=>H f=some (.lst ((c++[q]).map V.ref))/\Paired (aaR H) c e/\ZE ((c++[q]).map V.ref) (-1)=some (.ref q)/\H q=some (.tup [.ref a,.ref b])/\H a=some (.tup (s.1.map V.int))/\H b=some (.tup (s.2.map V.int)):=by
 obtain⟨c,i,u⟩:=h.pa;obtain⟨d,q,rfl,p,a,b,j,g,r⟩:=yS u;refine⟨d,q,a,b,i,p,?_,j,g,r⟩;rw[aQ];exact TN _ _
theorem τ.ό{C O:Addr}{H:Hp}{o d g:Addr}{m:Int}{t:Addr}{c:fx}{e:hD}{f:List (List Int×List Int)}(h:τ C O H o d g m t c e f){mt:Str}{R:Prop}(q:R)(b:¬mt="past":=by decide +kernel)(i:¬mt="web":=by decide +kernel):∃x a,H o=some (.ins O x a)/\a.lookup mt=none/\R:=let ⟨dx,ob⟩:=h.ob;⟨dx,_,ob,FV b i,q⟩
theorem τ.wb_{C O:Addr}{H:Hp}{o d j:Addr}{m:Int}{t:Addr}{e:fx}{g:hD}{i:List (List Int×List Int)}(T:Cls K O)(f:ϐ K O "web")(h:τ C O H o d j m t e g i){R:V->Prop}(q:R (.ref d)):∃x c a,H o=some (.ins x c a)/\Cls K x/\ϐ K x "web"/\∃b,a.lookup ("web":Str)=some b/\R b:=let ⟨dx,ob⟩:=h.ob;⟨O,dx,_,ob,T,f,_,uh _ _,q⟩
def mE(T:Txt K B):Sp:=λf H Q _=>E7 λ(o i w t:Addr)(m:Int)(d:fx)(c:hD)=>f=[.ref o,.ref w]/\H o=some (.ins T.Desk i [])/\π T.Web H w m t d c/\∀g e h a,H e=none->τ T.Web T.Desk a o g e m h d c [(Zd m,Zd m)]->(∀b x,H b=some x->b≠o->a b=some x)->Q .Θ a
abbrev eO:Stmt:=hZ (top 107) 0
theorem xt:ε ["self","web","noughts"] ["self","web"] (aw eO):=.of
theorem mR:iD (aw eO) "Web":=.of (by kernel_rfl)
theorem xA(T:Txt K B)(hq:bC (ς P w)){f:Addr}{fd:FuncData}(F:ϑ K "__init__" "Desk.__init__" eO f fd){ξ:Addr}{fC:FuncData}(hW:ϑ K "__init__" "Web.__init__" fh ξ fC)(vy:Binds K fC ["self","many","roads"] [])(vx:Mk K T.Web ξ)(ώ:υ P w K B base (ς P w) 3 ξ fC ["self","many","roads"] (kH T)):υ P w K B base (ς P w) 5 f fd ["self","web"] (mE T):=by
 refine F.Ac xt (by walk_at "v") λΖ A ae s H vs Q E hr h=>?_;obtain⟨o,i,w,t,m,ps,rs,rfl,O,W,k⟩:=h;have g:=W.go;have Ϩ:=g.Ϩ;have m1:=g.m1;obtain⟨dw,wb⟩:=W.ob;refine⟨_,(au (zi (δ 0) (AH vx ώ (hr.mono (by decide)) mR.g T.Tp vy .nil (j0 hq) (aa (dJ (δ 1) rfl) (aa (dJ (δ 1) rfl) ap)) (hdb:=mR.d)) rfl) (au (Χ 2 (ZF gH T.tuple (aa (aP ub (cM (aa ay ap)) (dJ (δ 1) rfl)) ap))) (aA (zi (δ 0) (cM (aa (dL (aa (δ 2) (aa (δ 2) ap))) ap)) rfl)))),?_⟩;walk_at "s";walk_at "";refine⟨T.Web,dw,_,wb,T.iq,T.ϙ,_,gc _ _,T.Web,dw,_,wb,T.iq,T.ZG,_,qX _ _,?_⟩;refine P1 T (c:=false) (Ξ.of W.tu) W.ro g λx tw l hx b5 M W1=>?_;have q:=M _ _ O;have b1:x≠o:=λz=>by rw[z,O]at hx;cases hx
 have b2:w≠o:=fm wb O (by
  intro z;injection z with _ _ z
  have:=gc m t;rw[z]at this;cases this)
 refine⟨T.Desk,i,[],q,T.bM,T.Y8,by decide,by decide,λl1 n1=>?_⟩;have k1:Zh o H (upd l o (.ins T.Desk i (fQ "web" (.ref x) []))):=(Zh.refl.then M).put _;have U:upd l o (.ins T.Desk i (fQ "web" (.ref x) [])) o=some (.ins T.Desk i (fQ "web" (.ref x) [])):=aq;have J:Zh o l (upd l o (.ins T.Desk i (fQ "web" (.ref x) []))):=Zh.refl.put _;have kn:∀{p:Addr},upd l o (.ins T.Desk i (fQ "web" (.ref x) [])) p=none->l p=none:=λ{p} h=>by
  cases e:l p with
  | none=>rfl
  | some y=>
    by_cases z:p=o
    .rw[z,U]at h;cases h
    .rw[J p y e z]at h;cases h
 have W2:π T.Web (upd l o (.ins T.Desk i (fQ "web" (.ref x) []))) x m tw ps rs:=W1.afe J q;have G:π T.Web (upd l o (.ins T.Desk i (fQ "web" (.ref x) []))) w m t ps rs:=(W.same M).afe J q;generalize upd l o (.ins T.Desk i (fQ "web" (.ref x) []))=H2 at k1 U J kn W2 G n1 ⊢;obtain⟨ab,S⟩:=G.ob;have v1:=γ.new (.lst [V.int 0]) n1;refine⟨T.Web,ab,_,v1 _ _ S,T.iq,T.ϙ,_,gc _ _,?_⟩;refine⟨l1,m,[V.int 0],rfl,rfl,aq,by lia,by lia,bj (by simp;lia),λL n2=>?_⟩;rw[El,<-US];have v2:=v1.trans (γ.new (.lst ((Zd m).map V.int)) n2);have e2:upd (upd H2 l1 (.lst [V.int 0])) L (.lst ((Zd m).map V.int)) L=some (.lst ((Zd m).map V.int)):=aq;generalize upd (upd H2 l1 (.lst [V.int 0])) L (.lst ((Zd m).map V.int))=H3 at v2 e2 ⊢;refine⟨L,rfl,_,.inl ⟨Η.of e2,λa n3=>?_⟩⟩;have v3:=v2.trans (γ.new (.tup ((Zd m).map V.int)) n3);have e3:upd H3 a (.tup ((Zd m).map V.int)) a=some (.tup ((Zd m).map V.int)):=aq;generalize upd H3 a (.tup ((Zd m).map V.int))=H4 at v3 e3 ⊢;refine⟨bj (by simp),λn n4=>⟨bj (by simp),λu Z=>?_⟩⟩;have X:=v3.trans (γ.new (.tup [V.ref a,V.ref a]) n4);have e4:upd H4 n (.tup [V.ref a,V.ref a]) n=some (.tup [V.ref a,V.ref a]):=aq;have I:=γ.new (.tup [V.ref a,V.ref a]) n4 _ _ e3;generalize upd H4 n (.tup [V.ref a,V.ref a])=H5 at X e4 I Z ⊢;have r:=γ.new (.lst [V.ref n]) Z;have N:=X.trans r;have R:upd H5 u (.lst [V.ref n]) u=some (.lst [V.ref n]):=aq;have v:=r _ _ e4;have j:=r _ _ I;have af:=X.free Z;generalize upd H5 u (.lst [V.ref n])=H6 at N R v j ⊢;have C:=N _ _ U;refine⟨T.Desk,i,_,C,T.bM,T.Zo,by show 1<1000;decide,?_⟩;have D:Zh o H6 (upd H6 o (.ins T.Desk i (pf x u))):=Zh.refl.put _;have Y:H u=none:=M.free (kn af);show Q .Θ (upd H6 o (.ins T.Desk i (pf x u)));refine k x u tw _ Y ⟨⟨i,aq⟩,(W2.same N).afe D C,[n],D _ _ R (fm R C (by intro z;cases z)),.cons ⟨a,a,D _ _ v (fm v C (by intro z;cases z)),D _ _ j (fm j C (by intro z;cases z)),D _ _ j (fm j C (by intro z;cases z))⟩ .nil⟩ ?_;exact λb x hb nb=>D _ _ (N _ _ (k1 b x hb nb)) nb
def iE(T:Txt K B):Sp:=λc H Q _=>E3 λ(a d:Addr)(n:Int)=>c=[.ref a,.int n]/\H a=some (Z0 a (.ref T.BadText) none)/\lG K T.BadText d/\∀b,H b=none->b≠a->Q .Θ (upd (upd H a (Z0 a (.ref T.BadText) (some b))) b (.xd [("at",.int n)]))
abbrev da:Stmt:=hZ (top 10) 0
theorem tR:ε ["self","at"] ["self","at"] (aw da):=.of
theorem jp:iD (aw da) "TollError":=.of (by kernel_rfl)
theorem tW(T:Txt K B)(p:bC (ς P w)){f:Addr}{c:FuncData}(F:ϑ K "__init__" "BadText.__init__" da f c):υ P w K B base (ς P w) 1 f c ["self","at"] (iE T):=by
 refine F.Ac tR (by walk_at "v") λl A b s H o Q E m h=>?_;obtain⟨a,j,n,rfl,e,i,k⟩:=h;refine⟨_,(au (bU (vR T.wu jp.g T.vV (aa (δ 0) (aa (δ 1) ap)) (hdb:=jp.d))) (aA (II rfl (δ 0) (δ 1) rfl))),?_⟩;walk_at "s";show ∃v,_;refine⟨V.ref a,rfl,V.int n,rfl,?_⟩;refine⟨a,T.BadText,j,none,[V.int n],rfl,bj (by simp),i,e,?_⟩;show ∃v,_;refine⟨V.int n,rfl,V.ref a,rfl,?_⟩;exact⟨a,T.BadText,T.TollError,rfl,e,T.PB,k⟩
def oP(T:Txt K B):Sp:=λb H Q _=>E8 λ(o c f t:Addr)(m:Int)(e:fx)(d:hD)(a:List (List Int×List Int))=>b=[.ref o]/\τ T.Web T.Desk H o c f m t e d a/\Q (.int ((a.length:Int)-1)) H
abbrev gB:Stmt:=hZ (top 107) 8
theorem B6:ε ["self"] ["self"] (aw gB):=.of
theorem B5(T:Txt K B)(u:bC (ς P w)){f:Addr}{b:FuncData}(F:ϑ K "deeds" "Desk.deeds" gB f b):υ P w K B base (ς P w) 1 f b ["self"] (oP T):=by
 refine F.Ac B6 (by walk_at "v") λi A a s H p Q E j h=>?_;obtain⟨o,n,e,t,m,l,q,v,rfl,O,k⟩:=h;obtain⟨d,ob⟩:=O.ob;obtain⟨r,c,g⟩:=O.pa;refine⟨_,(aA (bx (aP C9 (pcb ik T.len (aa (dJ (δ 0) rfl) ap)) ay))),?_⟩;walk_at "s";walk_at "";refine⟨T.Desk,d,_,ob,T.bM,T.Zo,_,m8 _ _,e,rfl,_,.inl (Η.of c),?_⟩;rw[am,Paired.length g];exact k
def u8(T:Txt K B):Sp:=λg H Q E=>E9 λ(o d b t:Addr)(m:Int)(f:fx)(e:hD)(a:List (List Int×List Int))(s:List Int×List Int)=>g=[.ref o]/\τ T.Web T.Desk H o d b m t f e (a++[s])/\(a≠[]->∀c,τ T.Web T.Desk c o d b m t f e a->Zh b H c->Q .Θ c)/\(a=[]->E (.ref T.NoDeed) none H)
abbrev gZ:Stmt:=hZ (top 107) 5
theorem Gw:ε ["self"] ["self"] (aw gZ):=.of
theorem nF:iD (aw gZ) "NoDeed":=.of (by kernel_rfl)
theorem Gd(T:Txt K B)(hq:bC (ς P w)){f:Addr}{v:FuncData}(F:ϑ K "back" "Desk.back" gZ f v){l:Addr}{p:FuncData}(Y:ϑ K "deeds" "Desk.deeds" gB l p)(N:Binds K p ["self"] [])(J:Meth K T.Desk "deeds" l)(I:υ P w K B base (ς P w) 1 l p ["self"] (oP T)):υ P w K B base (ς P w) 3 f v ["self"] (u8 T):=by
 refine F.iO Gw (by walk_at "v") λS A u s H X Q E D h=>?_;obtain⟨o,L,i,t,m,G,M,y,s,rfl,O,k,C⟩:=h;obtain⟨r,ob⟩:=O.ob;obtain⟨e,q,a,b,c,R,h3,W,U,h6⟩:=O.last;refine⟨_,(au (cf (ϧ cY (dY (δ 0) T.bM J I (D.mono (by decide)) N .nil bq) ay) (aA (mG T.xb rfl nW nF.g T.EN (aa aM ap) (hdb:=nF.d))) bK) (aA (bU (uM PySem.F.plainAttrs_list PySem.F.slot_list_pop PySem.F.type_list_pop xU (dJ (δ 0) rfl))))),?_⟩;walk_at "s";walk_at "";refine⟨r,_,ob,FV (by decide +kernel) (by decide +kernel),o,L,i,t,m,G,M,_,rfl,O,rfl,?_⟩;by_cases ne:y=[]
 .rw[aj (by rw[ne];rfl)];exact⟨by decide,C ne⟩
 have Z:0<y.length:=gW.mpr ne;rw[ag (λz=>by
  injection z with z
  rw[ao,aO,cS]at z
  lia)]
 refine⟨T.Desk,r,_,ob,T.bM,T.Zo,_,m8 _ _,.inl ⟨rfl,_,Η.of c⟩,?_⟩;have j:Zh i H (upd H i (.lst (e.map V.ref))):=Zh.refl.put _;have n:Q .Θ (upd H i (.lst (e.map V.ref))):=by
  refine k ne _ ⟨⟨r,j _ _ ob (fm ob c (by intro z;cases z))⟩,O.web.afd j c,e,aq,Paired.imp' (λq s x=>aaR.kpt j c x) R⟩ j
 refine⟨i,_,V.ref q,rfl,rfl,c,?_,?_⟩
 .rw[aQ,ao,ba,dB,aO,cS,show(e.map V.ref).length+(0+1)-1=(e.map V.ref).length by lia,cL (aB _),iK]
  rfl
 .rw[aQ,ba,dB,kf];exact n
def nu(T:Txt K B):Sp:=λi H Q _=>E11 λ(o f d t a b:Addr)(m:Int)(h:fx)(g:hD)(c:List (List Int×List Int))(s:List Int×List Int)=>i=[.ref o,.ref a,.ref b]/\τ T.Web T.Desk H o f d m t h g c/\H a=some (.tup (s.1.map V.int))/\H b=some (.tup (s.2.map V.int))/\c.length<=1000/\∀e,τ T.Web T.Desk e o f d m t h g (c++[s])->Zh d H e->Q .Θ e
abbrev gh:Stmt:=hZ (top 107) 4
theorem F9:ε ["self","laying","wish"] ["self","laying","wish"] (aw gh):=.of
theorem GB(T:Txt K B)(X:bC (ς P w)){f:Addr}{r:FuncData}(F:ϑ K "keep" "Desk.keep" gh f r):υ P w K B base (ς P w) 1 f r ["self","laying","wish"] (nu T):=by
 refine F.Ac F9 (by walk_at "v") λJ A p s H S Q E L h=>?_;obtain⟨o,R,i,t,a,b,m,M,U,Y,s,rfl,O,G,D,W,k⟩:=h;obtain⟨I,ob⟩:=O.ob;obtain⟨l,e,v⟩:=O.pa;refine⟨_,(aA (bU (iH PySem.F.plainAttrs_list PySem.F.slot_list_append PySem.F.type_list_append eR (dJ (δ 0) rfl) (aa (dL (aa (δ 1) (aa (δ 2) ap))) ap)))),?_⟩;walk_at "s";walk_at "";refine⟨T.Desk,I,_,ob,T.bM,T.Zo,_,m8 _ _,.inl ⟨rfl,_,Η.of e⟩,bj (by simp),λq C=>?_⟩;have d:=γ.new (.tup [V.ref a,V.ref b]) C;have N:=Paired.length v;refine⟨i,_,_,rfl,rfl,d _ _ e,gi (by rw[am];lia),?_⟩;have j:Zh i (upd H q (.tup [V.ref a,V.ref b])) (upd (upd H q (.tup [V.ref a,V.ref b])) i (.lst (l.map V.ref++[V.ref q]))):=Zh.refl.put _;have g:Zh i H (upd (upd H q (.tup [V.ref a,V.ref b])) i (.lst (l.map V.ref++[V.ref q]))):=λc y h n=>j c y (d _ _ h) n;have u:=O.same d;refine k _ ⟨?_,u.web.afd j (d _ _ e),l++[q],by rw[aq,aQ];rfl,?_⟩ g
 .obtain⟨dx',ob'⟩:=u.ob;exact⟨dx',j _ _ ob' (fm ob' (d _ _ e) (by intro z;cases z))⟩
 .refine Eu ?_ (Paired.imp' (λq s x=>aaR.kpt g e x) v);exact aaR.kpt j (d _ _ e) ⟨a,b,aq,d _ _ G,d _ _ D⟩
def ia(T:Txt K B):Sp:=λb H Q _=>E9 λ(o c g t:Addr)(m:Int)(e:fx)(d:hD)(f:List (List Int×List Int))(s:List Int×List Int)=>b=[.ref o]/\τ T.Web T.Desk H o c g m t e d (f++[s])/\∀a,H a=some (.tup (s.1.map V.int))->Q (.ref a) H
abbrev d3:Stmt:=hZ (top 107) 6
theorem zG:ε ["self"] ["self"] (aw d3):=.of
theorem zr(T:Txt K B)(z:bC (ς P w)){f:Addr}{d:FuncData}(F:ϑ K "laying" "Desk.laying" d3 f d):υ P w K B base (ς P w) 1 f d ["self"] (ia T):=by
 refine F.Ac zG (by walk_at "v") λn A c s H v Q E p h=>?_;obtain⟨o,u,D,t,m,r,x,C,s,rfl,O,k⟩:=h;obtain⟨l,ob⟩:=O.ob;obtain⟨y,q,a,b,g,_,j,i,e,G⟩:=O.last;refine⟨_,(aA (bx (Ο dQ (o9 bB (dJ (δ 0) rfl) (yD uB ay) (λ_ _=>rfl)) ay))),?_⟩;walk_at "s";walk_at "";refine⟨T.Desk,l,_,ob,T.bM,T.Zo,_,m8 _ _,ϊ g j ?_⟩;exact⟨q,_,0,_,rfl,rfl,Ξ.of i,rfl,k a e⟩
def jI(T:Txt K B):Sp:=λb H Q _=>E9 λ(o c g t:Addr)(m:Int)(e:fx)(d:hD)(f:List (List Int×List Int))(s:List Int×List Int)=>b=[.ref o]/\τ T.Web T.Desk H o c g m t e d (f++[s])/\∀a,H a=some (.tup (s.2.map V.int))->Q (.ref a) H
abbrev eX:Stmt:=hZ (top 107) 7
theorem Dh:ε ["self"] ["self"] (aw eX):=.of
theorem De(T:Txt K B)(C:bC (ς P w)){f:Addr}{d:FuncData}(F:ϑ K "wish" "Desk.wish" eX f d):υ P w K B base (ς P w) 1 f d ["self"] (jI T):=by
 refine F.Ac Dh (by walk_at "v") λn A c s H x Q E r h=>?_;obtain⟨o,v,G,t,m,u,y,D,s,rfl,O,k⟩:=h;obtain⟨j,ob⟩:=O.ob;obtain⟨z,q,a,b,e,_,i,g,p,l⟩:=O.last;refine⟨_,(aA (bx (Ο dQ (o9 bB (dJ (δ 0) rfl) (yD uB ay) (λ_ _=>rfl)) ay))),?_⟩;walk_at "s";walk_at "";refine⟨T.Desk,j,_,ob,T.bM,T.Zo,_,m8 _ _,ϊ e i ?_⟩;exact⟨q,_,1,_,rfl,rfl,Ξ.of g,rfl,k b l⟩
def fZ(T:Txt K B):Sp:=λa H Q E=>E6 λ(p t:Addr)(m:Int)(c:fx)(b:hD)(n:Int)=>a=[.ref p,.int n]/\π T.Web H p m t c b/\(0<=n->n<m->Q .Θ H)/\(¬(0<=n/\n<m)->E (.ref T.NoPlace) none H)
abbrev eJ:Stmt:=top 18
theorem AM:ε ["web","number"] ["web","number"] (aw eJ):=.of
theorem lV:iD (aw eJ) "NoPlace":=.of (by kernel_rfl)
theorem AB(T:Txt K B)(r:bC (ς P w))(i:hF P w base T):Ok P w K B base "check_place" eJ ["web","number"] 2 (fZ T):=λ_ _ D=>by
 refine D.F.iO AM (by walk_at "v") λj A a s H o Q E b h=>?_;obtain⟨p,t,m,l,q,n,rfl,W,k,e⟩:=h;obtain⟨f,ob⟩:=W.ob;refine⟨_,(aA (cf (kU (nj (Φ i b bq (aa (dJ (δ 0) rfl) (aa (δ 1) ap))))) (aA (mG T.ud rfl nW lV.g T.Ba (aa aM ap) (hdb:=lV.d))) bK)),?_⟩;walk_at "s";walk_at "";refine⟨T.Web,f,_,ob,T.iq,T.ϙ,_,gc m t,m,n,rfl,_,rfl,?_⟩;by_cases c:0<=n/\n<m
 .rw[ag (by simp[c.1,c.2])];exact k c.1 c.2
 .rw[aj (by simpa[aZ]using c)];exact⟨by decide,e c⟩
def bG(m:Int)(a:ej):Bool:=decide ((a.length:Int)=m)&&a.all λx=>decide (0<=x)
theorem oE{m:Int}{a:ej}(h:(a.length:Int)=m)(c:∀x∈a,0<=x):bG m a=true:=by
 unfold bG;rw[bI h,fX,bQ];exact λx b=>bI (c x b)
theorem gd{m:Int}{a:ej}(h:bG m a=true):(a.length:Int)=m:=by
 unfold bG at h;rw[aZ]at h;exact bg h.1
theorem oB{m:Int}{a:ej}(h:bG m a=true):∀x∈a,0<=x:=by
 unfold bG at h;rw[aZ,bQ]at h;exact λx b=>bg (h.2 x b)
def qc(T:Txt K B):Sp:=λe H Q _=>E8 λ(p a t:Addr)(c:Bool)(m:Int)(g:fx)(f:hD)(b:ej)=>e=[.ref p,.ref a]/\π T.Web H p m t g f/\bV K c H a (b.map V.int)/\b.length<=1000/\∀d,γ H d->Q (.bl (bG m b)) d
abbrev ms:Stmt:=top 27
theorem EU:ε ["web","numbers"] ["web","numbers"] (aw ms):=.of
theorem FB(T:Txt K B)(M:bC (ς P w)):Ok P w K B base "is_filled" ms ["web","numbers"] 1 (qc T):=λ_ _ D=>by
 refine D.F.Ac EU (by walk_at "v") λu A o s H J Q E C h=>?_;obtain⟨p,a,t,c,m,I,L,xs,rfl,W,g,G,k⟩:=h;refine⟨_,(aA (bx (zh (lP cY (pcb ik T.len (aa (δ 1) ap)) (dJ (δ 0) rfl) (mf _)) (yB (pcb (EW rfl) T.all (aa (py rfl (sJ (Nc:=["number"]) 1 (by decide +kernel) (by decide +kernel) rfl (by decide +kernel) rfl) (P7 c (δ 1)) (λ_ _ _ _=>(jB (i:=0) (show(["number"]:gy).Nodup from by decide +kernel) rfl (Or.inl rfl))) (λ_ _ _ _=>nV) (λ_ _ _ _=>(lP MU (pv 0) ay (mf _)))) ap)))))),?_⟩;walk_at "s";walk_at "";obtain⟨r,ob⟩:=W.ob;have n:Η K H a (xs.map V.int)\/Ξ K H a (xs.map V.int):=by
  cases c
  .exact .inr g
  .exact .inl g
 refine⟨_,n,T.Web,r,_,ob,T.iq,T.ϙ,_,gc m t,rfl,?_⟩;rw[am];by_cases f:(xs.length:Int)=m
 .rw[aj (by rw[f])];refine⟨⟨_,g⟩,λl nl=>?_⟩;refine sH (K:=K) (c:=c) (xs:=xs.map V.int) (λi d j b=>γ H b/\b l=some (.lst d)/\d=((xs.take i).map λx=>decide (0<=x)).map V.bl/\∃v,j=[v]) ⟨γ.new _ nl,aq,rfl,_,rfl⟩ (λi d j b _ z=>γ.sqX z.1 g) ?_ ?_
  .rintro i x d j b N hN hx ⟨s2,e2,rfl,v,rfl⟩;rw[aY]at hx;obtain⟨y,q,rfl⟩:=bP.mp hx;walk_at "";refine⟨e2,gi (by rw[am,am,bc];lia),hN _ _ _ ⟨s2.put nl _,aq,?_,_,rfl⟩⟩;rw[bA,q,aQ,aQ]
   rfl
  .rintro d j b ⟨s2,e2,rfl,v,rfl⟩;refine⟨l,rfl,_,Η.of e2,?_⟩;have e:(((xs.take (xs.map V.int).length).map λx=>decide (0<=x)).all id)=bG m xs:=by
    rw[am,cj,List.all_map];unfold bG;rw[bI f,fX]
    rfl
   rw[e];exact k _ s2
 .rw[ag (λz=>f (by injection z))];have e:bG m xs=false:=by
   unfold bG;rw[bt f,ee]
  rw[e]at k;exact k H (γ.refl _)
def lz(T:Txt K B):Sp:=λe H Q E=>E8 λ(p a t:Addr)(c:Bool)(m:Int)(g:fx)(f:hD)(d:ej)=>e=[.ref p,.ref a]/\π T.Web H p m t g f/\bV K c H a (d.map V.int)/\d.length<=1000/\(bG m d=true->∀l b,γ H b->(b l=some (.tup (d.map V.int))\/(c=false/\l=a))->Ξ K b l (d.map V.int)->Q (.ref l) b)/\(bG m d=false->∀b,γ H b->E (.ref T.BadLaying) none b)
abbrev hV:Stmt:=top 26
theorem Fq:ε ["web","numbers"] ["web","numbers"] (aw hV):=.of
theorem me:iD (aw hV) "BadLaying":=.of (by kernel_rfl)
theorem Gj(T:Txt K B)(G:bC (ς P w))(x:Cb P w K B base "is_filled" ms ["web","numbers"] 1 (qc T)):Ok P w K B base "laying_of" hV ["web","numbers"] 2 (lz T):=λ_ _ D=>by
 refine D.F.iO Fq (by walk_at "v") λy A j s H C Q E q h=>?_;obtain⟨p,a,t,c,m,u,v,i,rfl,W,f,r,k,e⟩:=h;refine⟨_,(au (cf (kU (nj (Φ x q bq (aa (δ 0) (aa (δ 1) ap))))) (aA (mG T.qM rfl nW me.g T.wj (aa aM ap) (hdb:=me.d))) bK) (aA (bx (ZF gH T.tuple (aa (δ 1) ap))))),?_⟩;walk_at "s";walk_at "";refine⟨p,a,t,c,m,u,v,i,rfl,W,f,r,λo b=>⟨_,rfl,?_⟩⟩;by_cases z:bG m i=false
 .rw[aj z];exact⟨by decide,e z o b⟩
 .rw[ag z];have n:bG m i=true:=by simpa using z
  cases c
  .exact⟨_,.inr ⟨γ.sqX (c:=false) b f,k n a o b (.inr ⟨rfl,rfl⟩) (γ.sqX (c:=false) b f)⟩⟩
  .exact⟨_,.inl ⟨γ.sqX (c:=true) b f,λl nl=>k n l _ (b.trans (γ.new _ nl)) (.inl aq) (Ξ.of aq)⟩⟩
def OL(T:Txt K B):Sp:=λe H Q E=>E10 λ(p a t:Addr)(c:Bool)(m:Int)(g:fx)(f:hD)(d:ej)(v n:Int)=>e=[.ref p,.ref a,.int v,.int n]/\π T.Web H p m t g f/\bV K c H a (d.map V.int)/\d.length<=1000/\(bG m d=true->0<=v->v<m->0<=d.getD v.toNat 0+n->∀l b,γ H b->b l=some (.tup ((d.set v.toNat (d.getD v.toNat 0+n)).map V.int))->Q (.ref l) b)/\(bG m d=false->∀b,γ H b->E (.ref T.BadLaying) none b)/\(bG m d=true->¬(0<=v/\v<m)->∀b,γ H b->E (.ref T.NoPlace) none b)/\(bG m d=true->0<=v->v<m->d.getD v.toNat 0+n<0->∀b,γ H b->E (.ref T.BadLaying) none b)
abbrev CL:Stmt:=top 30
theorem Vv:ε ["web","laying","place","many","counts"] ["web","laying","place","many"] (aw CL):=.of
abbrev hY(P w base)(T:Txt K B):=Cb P w K B base "check_place" eJ ["web","number"] 2 (fZ T)
abbrev iv(P w base)(T:Txt K B):=Cb P w K B base "laying_of" hV ["web","numbers"] 2 (lz T)
theorem VA(T:Txt K B)(hq:bC (ς P w))(Z:hY P w base T)(L:iv P w base T):Ok P w K B base "put" CL ["web","laying","place","many"] 3 (OL T):=λ_ _ D=>by
 refine D.F.iO Vv (by walk_at "v") λΖ A I s H vs Q E u h=>?_;obtain⟨p,a,t,c,m,y,G,b,v,n,rfl,W,ha,X,k,e1,e2,e3⟩:=h;have g:=W.go;have Ϩ:=g.Ϩ;refine⟨_,(au (Χ 4 (ZF nC T.list (aa (Φ L u bq (aa (δ 0) (aa (δ 1) ap))) ap))) (au (bU (Φ Z u bq (aa (δ 0) (aa (δ 2) ap)))) (au (AK (δ 4) (δ 2) xC (δ 3) Pe nJ) (aA (bx (Φ L u bq (aa (δ 0) (aa (δ 4) ap)))))))),?_⟩;walk_at "s";walk_at "";refine⟨p,a,t,c,m,y,G,b,rfl,W,ha,X,λfi l0 O R _ U=>?_,e1⟩;have xl:(b.length:Int)=m:=by
  unfold bG at fi;rw[aZ]at fi;exact bg fi.1
 refine⟨l0,rfl,_,.inr U,λl M=>?_⟩;have d:=R.trans (γ.new (.lst (b.map V.int)) M);have nl:=R.free M;have J:upd O l (.lst (b.map V.int)) l=some (.lst (b.map V.int)):=aq;generalize upd O l (.lst (b.map V.int))=C at d J ⊢;refine⟨p,t,m,y,G,v,rfl,W.same d,λo S=>?_,λz=>e2 fi z C d⟩;refine ϊ J (atG o (by lia)) ⟨_,rfl,EO J o (by rw[am];lia) ?_⟩;rw[<-gA];have q:=d.put nl (.lst ((b.set v.toNat (b.getD v.toNat 0+n)).map V.int));have f:upd C l (.lst ((b.set v.toNat (b.getD v.toNat 0+n)).map V.int)) l=some (.lst ((b.set v.toNat (b.getD v.toNat 0+n)).map V.int)):=aq;generalize upd C l (.lst ((b.set v.toNat (b.getD v.toNat 0+n)).map V.int))=H2 at q f ⊢;have yl:((b.set v.toNat (b.getD v.toNat 0+n)).length:Int)=m:=by rw[bT];exact xl
 refine⟨p,l,t,true,m,y,G,_,rfl,W.same q,Η.of f,by lia,λe N j r hl _=>?_,λe j r=>?_⟩
 .have hl3:j N=some (.tup ((b.set v.toNat (b.getD v.toNat 0+n)).map V.int)):=by
   rcases hl with z|z
   .exact z
   .cases z.1
  refine k fi o S ?_ N j (q.trans r) hl3;unfold bG at e;rw[aZ,bQ]at e;exact bg (e.2 _ (bd (i:=v.toNat) (by rw[dc (by lia)])))
 .refine e3 fi o S ?_ j (q.trans r);apply Classical.byContradiction;intro z;have:bG m (b.set v.toNat (b.getD v.toNat 0+n))=true:=by
   unfold bG at fi;rw[aZ,bQ]at fi;exact oE yl (VN (λx Y=>bg (fi.2 x Y)) (by lia))
  rw[this]at e;cases e
def IC(T:Txt K B):Sp:=λb H Q E=>E7 λ(p t:Addr)(m:Int)(d:fx)(c:hD)(v n:Int)=>b=[.ref p,.int v,.int n]/\π T.Web H p m t d c/\(0<=v->v<m->0<=n->∀l a,γ H a->a l=some (.tup (((List.replicate m.toNat (0:Int)).set v.toNat n).map V.int))->Q (.ref l) a)/\(¬(0<=v/\v<m)->∀a,γ H a->E (.ref T.NoPlace) none a)/\(0<=v->v<m->n<0->∀a,γ H a->E (.ref T.BadLaying) none a)
abbrev yj:Stmt:=top 29
theorem U1:ε ["web","place","many"] ["web","place","many"] (aw yj):=.of
theorem UN(T:Txt K B)(hq:bC (ς P w))(R:Cb P w K B base "put" CL ["web","laying","place","many"] 3 (OL T)):Ok P w K B base "pile" yj ["web","place","many"] 4 (IC T):=λ_ _ D=>by
 refine D.F.iO U1 (by walk_at "v") λZ A o s H vs Q E C h=>?_;obtain⟨p,t,m,G,L,v,n,rfl,W,k,U,Y⟩:=h;have g:=W.go;have m1:=g.m1;have Ϩ:=g.Ϩ;obtain⟨S,ob⟩:=W.ob;refine⟨_,(aA (bx (Φ R C bq (aa (δ 0) (aa (aP ub (cM (aa ay ap)) (dJ (δ 0) rfl)) (aa (δ 1) (aa (δ 2) ap))))))),?_⟩;walk_at "s";walk_at "";refine⟨bj (by simp),λj X=>?_⟩;have r:=γ.new (.lst [V.int 0]) X;refine⟨T.Web,S,_,r _ _ ob,T.iq,T.ϙ,_,gc m t,?_⟩;refine⟨j,m,_,rfl,rfl,aq,by lia,by lia,bj (by simp;lia),λl y=>?_⟩;rw[NM];have c:=r.trans (γ.new (.lst (List.replicate m.toNat (V.int 0))) y);have u:upd (upd H j (.lst [V.int 0])) l (.lst (List.replicate m.toNat (V.int 0))) l=some (.lst ((List.replicate m.toNat (0:Int)).map V.int)):=by rw[aq,fH]
 generalize upd (upd H j (.lst [V.int 0])) l (.lst (List.replicate m.toNat (V.int 0)))=H1 at c u ⊢;have N:((List.replicate m.toNat (0:Int)).length:Int)=m:=by rw[bW];lia
 have I:∀x∈List.replicate m.toNat (0:Int),0<=x:=λx J=>by rw[(gS.mp J).2];decide
 have M:=oE N I;have q:0<=v->v<m->(List.replicate m.toNat (0:Int)).getD v.toNat 0=0:=λa b=>by
  rw[List.getD,List.getElem?_replicate_of_lt (by lia)];rfl
 refine⟨p,l,t,true,m,G,L,_,v,n,rfl,W.same c,Η.of u,by lia,λ_ a b d O f i e=>?_,λz=>(by rw[M]at z;cases z),λ_ z f i=>U z f (c.trans i),λ_ a b d f i=>?_⟩
 .rw[q a b,ly]at d e;exact k a b d O f (c.trans i) e
 .rw[q a b,ly]at d;exact Y a b d f (c.trans i)
def qP(T:Txt K B):Sp:=λg H Q E=>E11 λ(o d c t:Addr)(m:Int)(f:fx)(e:hD)(b:List (List Int×List Int))(s:List Int×List Int)(v n:Int)=>g=[.ref o,.int v,.int n]/\τ T.Web T.Desk H o d c m t f e (b++[s])/\b.length<=500/\(s.1.length:Int)=m/\((0<=v/\v<m)->0<=n->∀a,τ T.Web T.Desk a o d c m t f e (b++[s]++[(s.1.set v.toNat (s.1.getD v.toNat 0+n),s.2)])->Zh c H a->Q .Θ a)/\(¬(0<=v/\v<m)->∀a,γ H a->E (.ref T.NoPlace) none a)/\(0<=v->v<m->n<0->∀a,γ H a->E (.ref T.BadLaying) none a)
abbrev gU:Stmt:=hZ (top 107) 1
theorem Ia:ε ["self","place","many","heap"] ["self","place","many"] (aw gU):=.of
theorem ya:iD (aw gU) "zip":=.of (by kernel_rfl)
theorem Hg(T:Txt K B)(hq:bC (ς P w)){f:Addr}{fd:FuncData}(F:ϑ K "put" "Desk.put" gU f fd){X:Addr}{U:FuncData}(gY:ϑ K "keep" "Desk.keep" gh X U)(gg:Binds K U ["self","laying","wish"] [])(gl:Meth K T.Desk "keep" X)(gb:υ P w K B base (ς P w) 1 X U ["self","laying","wish"] (nu T)){η:Addr}{bS:FuncData}(dG:ϑ K "laying" "Desk.laying" d3 η bS)(cu:Binds K bS ["self"] [])(cv:Meth K T.Desk "laying" η)(cw:υ P w K B base (ς P w) 1 η bS ["self"] (ia T)){θ:Addr}{M:FuncData}(eI:ϑ K "wish" "Desk.wish" eX θ M)(c7:Binds K M ["self"] [])(c9:Meth K T.Desk "wish" θ)(c8:υ P w K B base (ς P w) 1 θ M ["self"] (jI T))(CU:Cb P w K B base "pile" yj ["web","place","many"] 4 (IC T)):υ P w K B base (ς P w) 5 f fd ["self","place","many"] (qP T):=by
 refine F.iO Ia (by walk_at "v") λΖ A R s H vs Q E u h=>?_;obtain⟨o,D,S,t,m,C,G,Γ,s,v,n,rfl,O,sl,xl,k,W,ab⟩:=h;obtain⟨dx,ob⟩:=O.ob;have Ϩ:=O.web.go.Ϩ;refine⟨_,(au (Χ 3 (Φ CU u bq (aa (dJ (δ 0) rfl) (aa (δ 1) (aa (δ 2) ap))))) (aA (bU (jv (δ 0) T.bM gl gb (u.mono (by decide)) gg .nil bq (aa (ZF gH T.tuple (aa (py rfl (sJ (Nc:=["has","more"]) 2 (by decide +kernel) (by decide +kernel) rfl (by decide +kernel) rfl) (Vm false false ya.g T.zip (aa (dY (δ 0) T.bM cv cw (u.mono (by decide)) cu .nil bq) (aa (δ 3) ap))) (λ_ _ _ _=>(TR K rfl (n:=2) rfl (dH (jB (i:=0) (show(["has","more"]:gy).Nodup from by decide +kernel) rfl (Or.inl rfl)) (dH (jB (i:=1) (show(["has","more"]:gy).Nodup from by decide +kernel) rfl (Or.inl rfl)) lJ)))) (λ_ _ _ _=>nV) (λ_ _ _ _=>(aP fB (pv 0) (pv 1)))) ap)) (aa (dY (δ 0) T.bM c9 c8 (u.mono (by decide)) c7 .nil bq) ap)))))),?_⟩;walk_at "s";walk_at "";refine⟨T.Desk,dx,_,ob,T.bM,T.Y8,_,uh _ _,?_⟩;refine⟨D,t,m,C,G,v,n,rfl,O.web,λv0 v1 n0 l1 H1 s1 e1=>?_,W,ab⟩;have Y:0<=v/\v<m:=⟨v0,v1⟩;have j:=O.same s1;obtain⟨a6,rW⟩:=j.ob;refine j.ό ?_;refine j.ό ⟨o,D,S,t,m,C,G,Γ,s,rfl,j,λla l=>?_⟩;have a8:((List.replicate m.toNat (0:Int)).set v.toNat n).length=m.toNat:=by rw[bT,bW]
 refine⟨la,l1,⟨rfl,rfl⟩,⟨_,Ξ.of l⟩,⟨_,Ξ.of e1⟩,λp hp=>?_⟩;refine Se (K:=K) (c:=false) (d:=false) (xs:=s.1.map V.int) (zs:=((List.replicate m.toNat (0:Int)).set v.toNat n).map V.int) (λi r J a=>γ H1 a/\a p=some (.lst r)/\r=(((s.1.zip ((List.replicate m.toNat (0:Int)).set v.toNat n)).take i).map λq=>q.1+q.2).map V.int/\∃v w,J=[v,w]) ⟨γ.new _ hp,aq,rfl,_,_,rfl⟩ (λi r J a z=>⟨Ξ.of (z.1 _ _ l),Ξ.of (z.1 _ _ e1)⟩) ?_ ?_
 .rintro i x z r J a q N hN hx hz' ⟨s2,e2,rfl,v',w,rfl⟩ hq;rw[aY]at hx hz';obtain⟨x,gx,rfl⟩:=bP.mp hx;obtain⟨z,gz,rfl⟩:=bP.mp hz';have b:=γ.new (.tup [V.int x,V.int z]) hq;have b6:=(aH.mp gx).1;walk_at "";refine⟨_,Ξ.of aq,rfl,_,_,rfl,_,_,rfl,rfl,?_⟩;walk_at "";refine⟨b _ _ e2,gi (by simp;lia),hN _ _ _ ⟨(s2.trans b).put hp _,aq,?_,_,_,rfl⟩⟩;have L:(s.1.zip ((List.replicate m.toNat (0:Int)).set v.toNat n))[i]?=some (x,z):=by rw[List.getElem?_zip_eq_some];exact⟨gx,gz⟩
  rw[bA,L,aQ,aQ]
  rfl
 .rintro r J a ⟨s2,e2,rfl,v',w,rfl⟩;have e:(((s.1.zip ((List.replicate m.toNat (0:Int)).set v.toNat n)).take (min (s.1.map V.int).length (((List.replicate m.toNat (0:Int)).set v.toNat n).map V.int).length)).map λq=>q.1+q.2)=s.1.set v.toNat (s.1.getD v.toNat 0+n):=by
   rw[b9 (by rw[List.length_zip,am,am];exact aB _),<-Sc xl Y.1 Y.2];unfold uQ;rw[List.zip,List.map_zipWith]
  rw[e]at e2;refine⟨p,rfl,_,.inl ⟨Η.of e2,λI n3=>?_⟩⟩;have b:=s2.trans (γ.new (.tup ((s.1.set v.toNat (s.1.getD v.toNat 0+n)).map V.int)) n3);have e3:upd a I (.tup ((s.1.set v.toNat (s.1.getD v.toNat 0+n)).map V.int)) I=some (.tup ((s.1.set v.toNat (s.1.getD v.toNat 0+n)).map V.int)):=aq;generalize upd a I (.tup ((s.1.set v.toNat (s.1.getD v.toNat 0+n)).map V.int))=H3 at b e3 ⊢;have Z:=j.same b;refine Z.ό ⟨o,D,S,t,m,C,G,Γ,s,rfl,Z,λlb ae=>?_⟩;refine⟨o,D,S,t,I,lb,m,C,G,_,(_,_),rfl,Z,e3,ae,by rw[ao];simp;lia,λH4 O4 k4=>k Y n0 H4 O4 ?_⟩;exact λc y h n=>k4 c y (b _ _ (s1 _ _ h)) n
def nD(T:Txt K B):Sp:=λc H Q _=>E3 λ(a d:Addr)(n:Int)=>c=[.ref a,.int n]/\H a=some (Z0 a (.ref T.BadStep) none)/\lG K T.BadStep d/\∀b,H b=none->b≠a->Q .Θ (upd (upd H a (Z0 a (.ref T.BadStep) (some b))) b (.xd [("at",.int n)]))
abbrev dU:Stmt:=hZ (top 9) 0
theorem tK:ε ["self","at"] ["self","at"] (aw dU):=.of
theorem jk:iD (aw dU) "TollError":=.of (by kernel_rfl)
theorem tH(T:Txt K B)(p:bC (ς P w)){f:Addr}{c:FuncData}(F:ϑ K "__init__" "BadStep.__init__" dU f c):υ P w K B base (ς P w) 1 f c ["self","at"] (nD T):=by
 refine F.Ac tK (by walk_at "v") λl A b s H o Q E m h=>?_;obtain⟨a,j,n,rfl,e,i,k⟩:=h;refine⟨_,(au (bU (vR T.wu jk.g T.vV (aa (δ 0) (aa (δ 1) ap)) (hdb:=jk.d))) (aA (II rfl (δ 0) (δ 1) rfl))),?_⟩;walk_at "s";show ∃v,_;refine⟨V.ref a,rfl,V.int n,rfl,?_⟩;refine⟨a,T.BadStep,j,none,[V.int n],rfl,bj (by simp),i,e,?_⟩;show ∃v,_;refine⟨V.int n,rfl,V.ref a,rfl,?_⟩;exact⟨a,T.BadStep,T.TollError,rfl,e,T.Oq,k⟩
def Au(T:Txt K B):Sp:=λd H Q E=>E7 λ(p t:Addr)(m:Int)(e:fx)(c:hD)(a b:Int)=>d=[.ref p,.int a,.int b]/\π T.Web H p m t e c/\(∀k,0<=a->a<m->0<=b->b<m->fE c a b=some k->Q (.int k) H)/\(¬((0<=a/\a<m)/\(0<=b/\b<m))->E (.ref T.NoPlace) none H)/\(0<=a->a<m->0<=b->b<m->fE c a b=none->E (.ref T.NoRoad) none H)
abbrev rN:Stmt:=top 16
theorem UU:ε ["web","a","b","one","other","there","back"] ["web","a","b"] (aw rN):=.of
theorem rB:iD (aw rN) "NoRoad":=.of (by kernel_rfl)
theorem Ui(T:Txt K B)(hq:bC (ς P w))(ce:hY P w base T):Ok P w K B base "toll" rN ["web","a","b"] 3 (Au T):=λ_ _ D=>by
 refine D.F.iO UU (by walk_at "v") λΖ A X s H vs Q E Z h=>?_;obtain⟨p,t,m,C,f,a,b,rfl,W,k,e1,e2⟩:=h;obtain⟨dx,ob⟩:=W.ob;refine⟨_,(au (bU (Φ ce Z bq (aa (δ 0) (aa (δ 1) ap)))) (au (bU (Φ ce Z bq (aa (δ 0) (aa (δ 2) ap)))) (au (iA PassesOwn.leaving rfl (ut (dJ (δ 0) rfl)) (mV (n:=4) rfl (dH (Zj 3) (dH (Zj 4) (dH (Zj 5) (dH (Zj 6) lJ))))) (au (cf (PW.pt (yq (ϧ cY (δ 3) (δ 1)) (vz (ϧ cY (δ 4) (δ 2))))) (aA (bx (δ 5))) bK) (aA (cf (PW.pt (yq (ϧ cY (δ 3) (δ 2)) (vz (ϧ cY (δ 4) (δ 1))))) (aA (bx (δ 6))) bK)))) (aA (mG T.xp rfl nW rB.g T.QZ (aa aM ap) (hdb:=rB.d)))))),?_⟩;walk_at "s";walk_at "";refine⟨p,t,m,C,f,a,rfl,W,λL M=>?_,λz=>e1 λw=>z w.1⟩;refine⟨p,t,m,C,f,b,rfl,W,λJ y=>?_,λz=>e1 λw=>z w.2⟩;refine⟨T.Web,dx,_,ob,T.iq,T.ZG,_,qX m t,t,rfl,⟨_,Ξ.of W.tu⟩,?_⟩;have l:C.length=f.length:=Paired.length W.ro;refine Fb (K:=K) (xs:=C.map V.ref) (λi G o=>o=H/\fE (f.take i) a b=none/\∃Y R U S,G=[some (V.ref p),some (V.int a),some (V.int b),Y,R,U,S]) ⟨rfl,rfl,_,_,_,_,rfl⟩ (λi G o _ z=>by rw[z.1];exact Ξ.of W.tu) ?_ ?_
 .rintro i x G o N hN hx ⟨rfl,hno,Y,R,U,S,rfl⟩;obtain⟨q,r,rfl,h1,I,h3⟩:=W.ro.get hx;have et:f.take (i+1)=f.take i++[r]:=by rw[bA,I];rfl
  have split:fE f a b=(fE (f.take i) a b).or ((kL a b r).or (fE (f.drop (i+1)) a b)):=by
   have:f=f.take i++r::f.drop (i+1):=by
    have O:i<f.length:=(aH.mp I).1;have e:f[i]=r:=(by rw[aG O]at I;exact bo I);rw[<-e,jA,f6]
   conv=>lhs;rw[this]
   unfold fE;rw[gq,gQ];cases kL a b r<;>rfl
  rw[hno,Option.none_or]at split;walk_at "";refine⟨_,Ξ.of h3,rfl,_,_,rfl,_,_,rfl,_,_,rfl,_,_,rfl,rfl,?_⟩;walk_at "";have c:kL a b r=none->N [some (V.ref p),some (V.int a),some (V.int b),some (V.int r.a),some (V.int r.b),some (V.int r.t),some (V.int r.u)] o:=λz=>hN _ _ ⟨rfl,by
   rw[et];unfold fE at hno ⊢;rw[gq,hno,gQ,z]
   rfl,_,_,_,_,rfl⟩
  have j:∀v,kL a b r=some v->fE f a b=some v:=λv z=>by rw[split,z];rfl
  unfold kL at c j;split
  .rename_i c1
   split
   .rename_i c2
    exact k _ L M J y (j _ (by rw[aj ⟨c1,c2⟩]))
   .rename_i c2
    split
    .rename_i c3
     split
     .rename_i c4
      exact k _ L M J y (j _ (by rw[ag (λz=>c2 z.2),aj ⟨c3,c4⟩]))
     .rename_i c4
      exact c (by rw[ag (λz=>c2 z.2),ag (λz=>c4 z.2)])
    .rename_i c3
     exact c (by rw[ag (λz=>c2 z.2),ag (λz=>c3 z.1)])
  .rename_i c1
   split
   .rename_i c3
    split
    .rename_i c4
     exact k _ L M J y (j _ (by rw[ag (λz=>c1 z.1),aj ⟨c3,c4⟩]))
    .rename_i c4
     exact c (by rw[ag (λz=>c1 z.1),ag (λz=>c4 z.2)])
   .rename_i c3
    exact c (by rw[ag (λz=>c1 z.1),ag (λz=>c3 z.1)])
 .rintro G o ⟨rfl,hno,Y,R,U,S,rfl⟩;rw[am,l,cj]at hno;walk_at "";exact⟨by decide,e2 L M J y hno⟩
def wZ(T:Txt K B):Sp:=λb H Q _=>E7 λ(p q t:Addr)(m:Int)(c:fx)(a:hD)(s:Zg)=>b=[.ref p,.ref q]/\π T.Web H p m t c a/\H q=some (.tup (vSt s))/\mB m a s=true/\Q (.int (s.2.2*mX a s.1 s.2.1)) H
abbrev se:Stmt:=top 41
theorem Qa:ε ["web","step"] ["web","step"] (aw se):=.of
theorem SD(T:Txt K B)(j:bC (ς P w))(e:Cb P w K B base "toll" rN ["web","a","b"] 3 (Au T)):Ok P w K B base "taken" se ["web","step"] 4 (wZ T):=λ_ _ D=>by
 refine D.F.Ac Qa (by walk_at "v") λr A b s H v Q E d h=>?_;obtain⟨p,q,t,m,f,i,s,rfl,W,a,is,k⟩:=h;have g:=W.go;obtain⟨u,c,l,y,n⟩:=Bb g is;have o:=(si is).1;refine⟨_,(aA (bx (aP pQ (Ο dQ (δ 1) ay) (Zx e d j (aa (δ 0) (aa (Ο dQ (δ 1) ay) (aa (Ο dQ (δ 1) ay) ap))))))),?_⟩;walk_at "s";walk_at "";refine ZP a rfl (ZP a rfl (ZP a rfl ?_));refine⟨p,t,m,f,i,s.1,s.2.1,?_⟩;refine an5 rfl W (λx _ _ _ _ h=>?_) (λz=>absurd ⟨o,n⟩ z) (λ_ _ _ _ z=>by rw[c]at z;cases z);rw[c]at h;cases h;rw[l]at k;exact⟨_,rfl,_,rfl,.inr ⟨by lia,by lia⟩,k⟩
def AY(T:Txt K B):Sp:=λe H Q _=>E9 λ(p a q t:Addr)(m:Int)(f:fx)(b:hD)(c:ej)(s:Zg)=>e=[.ref p,.ref a,.ref q]/\π T.Web H p m t f b/\Ξ K H a (c.map V.int)/\(c.length:Int)=m/\H q=some (.tup (vSt s))/\mB m b s=true/\∀l d,H l=none->γ H d->d l=some (.tup ((qE b c s).map V.int))->Q (.ref l) d
abbrev sF:Stmt:=top 42
theorem PV:ε ["web","laying","step","counts"] ["web","laying","step"] (aw sF):=.of
theorem Oz(T:Txt K B)(S:bC (ς P w))(J:Cb P w K B base "taken" se ["web","step"] 4 (wZ T)):Ok P w K B base "behind" sF ["web","laying","step"] 5 (AY T):=λ_ _ D=>by
 refine D.F.Ac PV (by walk_at "v") λU A r s H Y Q E I h=>?_;obtain⟨p,a,q,t,m,L,d,b,s,rfl,W,O,xl,N,is,k⟩:=h;have g:=W.go;have Ϩ:=g.Ϩ;obtain⟨X,e1,e2,Z,y⟩:=Bb g is;have C:=(si is).1;refine⟨_,(au (Χ 3 (ZF nC T.list (aa (δ 1) ap))) (au (AK (δ 3) (Ο dQ (δ 2) ay) xC (Zx J I S (aa (δ 0) (aa (δ 2) ap))) Vl nJ) (au (AK (δ 3) (Ο dQ (δ 2) ay) xC (Ο dQ (δ 2) ay) Pe nJ) (aA (bx (ZF gH T.tuple (aa (δ 3) ap))))))),?_⟩;walk_at "s";walk_at "";refine⟨_,.inr O,λl nl=>?_⟩;have e:=γ.new (.lst (b.map V.int)) nl;have c:=e _ _ N;have j:upd H l (.lst (b.map V.int)) l=some (.lst (b.map V.int)):=aq;generalize upd H l (.lst (b.map V.int))=M at e c j ⊢;refine ZP c rfl (ϊ j (atG C.1 (by lia)) ?_);refine⟨p,q,t,m,L,d,s,?_⟩;refine an5 rfl (W.same e) c is ?_;refine⟨_,rfl,_,rfl,EO j C.1 (by rw[am];lia) ?_⟩;rw[<-gA];have v:q≠l:=fm c j (by intro z;cases z);have R:(b.set s.1.toNat (b.getD s.1.toNat 0-s.2.2*mX d s.1 s.2.1)).length=b.length:=by rw[bT]
 have x:qE d b s=(b.set s.1.toNat (b.getD s.1.toNat 0-s.2.2*mX d s.1 s.2.1)).set s.2.1.toNat ((b.set s.1.toNat (b.getD s.1.toNat 0-s.2.2*mX d s.1 s.2.1)).getD s.2.1.toNat 0+s.2.2):=rfl;generalize b.set s.1.toNat (b.getD s.1.toNat 0-s.2.2*mX d s.1 s.2.1)=G at R x ⊢;have f:upd M l (.lst (G.map V.int)) q=some (.tup (vSt s)):=by rw[aU v];exact c
 refine ZP f rfl (ϊ aq (atG y.1 (by lia)) (ZP f rfl ⟨_,rfl,_,rfl,EO aq y.1 (by rw[am];lia) ?_⟩));rw[mK,<-gA,<-x];refine⟨_,.inl ⟨Η.of aq,λn i=>?_⟩⟩;have o:H n=none:=by
  have u:n≠l:=λz=>by rw[z,aq]at i;cases i
  rw[aU u]at i;exact e.free i
 exact k n _ o ((e.put nl _).trans (γ.new _ i)) aq
def oS(T:Txt K B):Sp:=λd H Q E=>E6 λ(p t:Addr)(m:Int)(e:fx)(c:hD)(a:Int)=>d=[.ref p,.int a]/\π T.Web H p m t e c/\(∀l b,0<=a->a<m->H l=none->γ H b->b l=some (.lst ((jJ m c a).map V.int))->Q (.ref l) b)/\(¬(0<=a/\a<m)->E (.ref T.NoPlace) none H)
abbrev lq:Stmt:=top 17
theorem Cj:ε ["web","a"] ["web","a"] (aw lq):=.of
theorem Cw(T:Txt K B)(M:bC (ς P w))(v:hY P w base T)(u:Cb P w K B base "other_ends" kT ["roads","place"] 1 (oN T)):Ok P w K B base "neighbours" lq ["web","a"] 3 (oS T):=λ_ _ D=>by
 refine D.F.iO Cj (by walk_at "v") λG A c s H L Q E f h=>?_;obtain⟨p,t,m,g,b,a,rfl,W,k,e⟩:=h;obtain⟨x,ob⟩:=W.ob;refine⟨_,(au (bU (Φ v f bq (aa (δ 0) (aa (δ 1) ap)))) (aA (bx (pcb Ht T.sorted (aa (Φ u f bq (aa (dJ (δ 0) rfl) (aa (δ 1) ap))) ap))))),?_⟩;walk_at "s";walk_at "";refine⟨p,t,m,g,b,a,rfl,W,λl n=>?_,e⟩;have j:(b.length:Int)=m-1:=W.go.len;have Ϩ:=W.go.Ϩ;refine⟨T.Web,x,_,ob,T.iq,T.ZG,_,qX m t,t,g,b,a,rfl,Ξ.of W.tu,W.ro,by lia,λr J C d y=>?_⟩;refine⟨r,rfl,eA b a,Η.of y,by have:=DL b a;lia,λq I i o z=>?_⟩;rw[UV W.go l n o z];exact k q _ l n (d.free i) (d.trans (γ.new _ i)) aq
def yx(T:Txt K B):Sp:=λc H Q _=>E7 λ(p q t:Addr)(m:Int)(d:fx)(a:hD)(s:Zg)=>c=[.ref p,.ref q]/\π T.Web H p m t d a/\H q=some (.tup (vSt s))/\∀b,γ H b->Q (.bl (mB m a s)) b
abbrev qg:Stmt:=top 40
theorem KG:ε ["web","step"] ["web","step"] (aw qg):=.of
theorem JD(T:Txt K B)(o:bC (ς P w))(x:hF P w base T)(r:Cb P w K B base "neighbours" lq ["web","a"] 3 (oS T)):Ok P w K B base "is_step" qg ["web","step"] 4 (yx T):=λ_ _ D=>by
 refine D.F.Ac KG (by walk_at "v") λG A g s H I Q E i h=>?_;obtain⟨p,q,t,m,u,f,s,rfl,W,b,k⟩:=h;obtain⟨v,ob⟩:=W.ob;refine⟨_,(aA (bx (zh (Zx x i o (aa (dJ (δ 0) rfl) (aa (Ο dQ (δ 1) ay) ap))) (zh (lP BG (Ο dQ (δ 1) ay) (Zx r i o (aa (δ 0) (aa (Ο dQ (δ 1) ay) ap))) (by with_unfolding_all rfl)) (yB (lP MU (Ο dQ (δ 1) ay) ay (mf _))))))),?_⟩;walk_at "s";walk_at "";refine⟨T.Web,v,_,ob,T.iq,T.ϙ,_,gc m t,ZP b rfl ⟨m,s.1,rfl,?_⟩⟩;refine⟨_,rfl,?_⟩;have a:∀n,γ H n->Q (.bl (decide (0<=s.1)&&decide (s.1<m)&&decide (s.2.1∈jJ m f s.1)&&decide (1<=s.2.2))) n:=k;by_cases c:(decide (0<=s.1)&&decide (s.1<m))=true
 .rw[aj c];rw[c,fX]at a;have C:0<=s.1/\s.1<m:=by
   rw[aZ]at c;exact⟨bg c.1,bg c.2⟩
  refine ZP b rfl (ZP b rfl ?_);refine⟨p,t,m,u,f,s.1,?_⟩;refine an4 rfl W (λl j _ _ nl e y=>?_) (λz=>absurd C z);refine inL y ⟨_,rfl,?_⟩;by_cases d:s.2.1∈jJ m f s.1
  .rw[bI d,fX]at a;rw[aj (by rw[bI d];rfl)];exact ZP (e _ _ b) rfl ⟨_,rfl,a j e⟩
  .rw[bt d,ee]at a;rw[ag (by rw[bt d];decide)];exact a j e
 .rw[ag c];rw[show(decide (0<=s.1)&&decide (s.1<m))=false by simpa using c,ee,ee]at a;exact a H (γ.refl _)
def rL(T:Txt K B):Sp:=λe H Q _=>E9 λ(p a q t:Addr)(m:Int)(f:fx)(c:hD)(b:ej)(s:Zg)=>e=[.ref p,.ref a,.ref q]/\π T.Web H p m t f c/\Ξ K H a (b.map V.int)/\(b.length:Int)=m/\H q=some (.tup (vSt s))/\∀d,γ H d->Q (.bl (jr m c b s)) d
abbrev mz:Stmt:=top 39
theorem zy:ε ["web","laying","step"] ["web","laying","step"] (aw mz):=.of
theorem zZ(T:Txt K B)(l:bC (ς P w))(o:Cb P w K B base "is_step" qg ["web","step"] 4 (yx T))(n:Cb P w K B base "taken" se ["web","step"] 4 (wZ T)):Ok P w K B base "can_be_done" mz ["web","laying","step"] 5 (rL T):=λ_ _ D=>by
 refine D.F.Ac zy (by walk_at "v") λv A f s H y Q E g h=>?_;obtain⟨p,a,q,t,m,i,d,x,s,rfl,W,r,z,e,k⟩:=h;refine⟨_,(aA (bx (zh (Zx o g l (aa (δ 0) (aa (δ 2) ap))) (yB (lP MU (Ο dQ (δ 1) (o9 dQ (δ 2) ay (λ_ _=>rfl))) (Zx n g l (aa (δ 0) (aa (δ 2) ap))) (mf _)))))),?_⟩;walk_at "s";walk_at "";refine⟨p,q,t,m,i,d,s,?_⟩;refine an4 rfl W e (λj b=>⟨_,rfl,?_⟩);by_cases c:mB m d s=true
 .rw[aj c];have u:=(si c).1;refine ZP (b _ _ e) rfl (Tk (γ.tup b r) (atG u.1 (by lia)) ?_);refine⟨p,q,t,m,i,d,s,?_⟩;refine an5 rfl (W.same b) (b _ _ e) c ?_;have:=k j b;unfold jr at this;rw[c,fX]at this;exact⟨_,rfl,_,rfl,this⟩
 .rw[ag c];have:=k j b;unfold jr at this;rw[show mB m d s=false by simpa using c,ee]at this;exact this
def yH(T:Txt K B):Sp:=λq H Q E=>E12 λ(p a b t:Addr)(c d:Bool)(m:Int)(o k:fx)(h:hD)(f:ej)(g:List Zg)=>q=[.ref p,.ref a,.ref b]/\π T.Web H p m t o h/\AtX c H a (f.map V.int)/\f.length<=1000/\AtX d H b (k.map V.ref)/\ϔ H k g/\g.length<=1000/\(bG m f=true->Pz m h f g->∀l j e,H l=none->γ H e->e l=some (.lst (j.map V.ref))->O6 e j (qk h f g)->Q (.ref l) e)/\(bG m f=true->∀i n e,ZQ m h f g i->γ H e->e n=some (.xd [("at",.int (i:Int))])->E (.ref T.BadStep) (some n) e)/\(bG m f=false->∀e,γ H e->E (.ref T.BadLaying) none e)
abbrev mP:Stmt:=top 38
theorem JK:ε ["web","laying","steps","passed","at","step"] ["web","laying","steps"] (aw mP):=.of
theorem sI:iD (aw mP) "enumerate":=.of (by kernel_rfl)
theorem oC:iD (aw mP) "BadStep":=.of (by kernel_rfl)
theorem LQ(T:Txt K B)(hq:bC (ς P w)){Y:Addr}{kt:FuncData}(jc:ϑ K "__init__" "BadStep.__init__" dU Y kt)(uj:Binds K kt ["self","at"] [])(qy:lG K T.BadStep Y)(Ϛ:υ P w K B base (ς P w) 1 Y kt ["self","at"] (nD T))(xB:Cb P w K B base "behind" sF ["web","laying","step"] 5 (AY T))(oW:Cb P w K B base "can_be_done" mz ["web","laying","step"] 5 (rL T))(d7:iv P w base T):Ok P w K B base "layings" mP ["web","laying","steps"] 6 (yH T):=λ_ _ D=>by
 refine D.F.iO JK (by walk_at "v") λΖ A an s H vs Q E X h=>?_;obtain⟨p,a,b,t,c,d,m,ps,Z,rs,xs,ss,rfl,W,ha,x1,hb,J,sl,k,kb,kl⟩:=h;have g:=W.go;have Ϩ:=g.Ϩ;refine⟨_,(au (Χ 3 (cM (aa (Φ d7 X bq (aa (δ 0) (aa (δ 1) ap))) ap))) (au (iA PassesOwn.leaving rfl (UK d sI.g T.enumerate (δ 2)) (mV (n:=2) rfl (dH (Zj 4) (dH (Zj 5) lJ))) (au (cf (kU (nj (Φ oW X bq (aa (δ 0) (aa (Ο bB (δ 3) (yD uB ay)) (aa (δ 5) ap)))))) (aA (qm qy Ϛ hq (X.mono (by decide)) uj rfl rfl vD oC.g T.Bf (aa (δ 4) ap) (hdb:=oC.d))) bK) (aA (bU (iH PySem.F.plainAttrs_list PySem.F.slot_list_append PySem.F.type_list_append eR (δ 3) (aa (Φ xB X bq (aa (δ 0) (aa (Ο bB (δ 3) (yD uB ay)) (aa (δ 5) ap)))) ap)))))) (aA (bx (δ 3))))),?_⟩;walk_at "s";walk_at "";refine⟨p,a,t,c,m,ps,rs,xs,?_⟩;refine an6 rfl W ha.sq x1 (λfi G H1 s1 e1 _=>?_) kl;have xl:(xs.length:Int)=m:=by
  unfold bG at fi;rw[aZ]at fi;exact bg fi.1
 have aT:H1 G=some (.tup (xs.map V.int)):=by
  rcases e1 with e|⟨hc,rfl⟩
  .exact e
  .subst hc;exact s1 _ _ ha
 refine⟨bj (by simp),λl nl=>?_⟩;have s2:=γ.new (.lst [V.ref G]) nl;have R:=s1.free nl;have Y9:=s1.trans s2;have e2:=s2 _ _ aT;have el:upd H1 l (.lst [V.ref G]) l=some (.lst [V.ref G]):=aq;generalize upd H1 l (.lst [V.ref G])=H2 at s2 Y9 e2 el ⊢;have ql:Z.length=ss.length:=Paired.length J;have M:∀{o:Hp},γ H o->bV K d o b (Z.map V.ref):=λ{o} s3=>AtX.sq (K:=K) (show AtX d o b (Z.map V.ref)from s3 _ _ hb);refine⟨⟨_,M Y9⟩,?_⟩;refine Rq (K:=K) (c:=d) (xs:=Z.map V.ref) (λi σ o=>γ H o/\i<=ss.length/\(∀j s,j<i->ss[j]?=some s->jr m rs (kX rs xs ss j) s=true)/\E3 λ(u:fx)(v4 v5:Option V)=>o l=some (.lst (u.map V.ref))/\O6 o u ((qk rs xs ss).take (i+1))/\σ=[some (V.ref p),some (V.ref a),some (V.ref b),some (V.ref l),v4,v5]) ⟨Y9,bJ _,λj s h=>absurd h (Nat.not_lt_zero _),[G],_,_,el,?_,rfl⟩ (λi σ o z=>M z.1) ?_ ?_
 .have h0:=qh (rs:=rs) (xs:=xs) (ss:=ss) (i:=0) (bJ _);rw[PK]at h0;rw[bA,h0,dy];exact .cons e2 .nil
 .rintro i x σ o q N hN hx ⟨s3,il,bf,u,v4,v5,e3,ta,rfl⟩ nq;obtain⟨qx,s,rfl,h1,h2,h3⟩:=(ϔ.same s3 J).get hx;have aC:i<ss.length:=(aH.mp h2).1;have U:=γ.new (.tup [V.int (i:Int),V.ref qx]) nq;have tl:u.length=((qk rs xs ss).take (i+1)).length:=Paired.length ta;rw[bc,uN]at tl;have bv:=QH rs xs ss i;obtain⟨I,S⟩:∃I,u[i]?=some I:=⟨_,aG (by lia)⟩;obtain⟨b4,O,L⟩:=Dm ta S;rw[fJ (by lia),qh il]at O;cases O;have aS:∃t',u=t'++[I]:=by
   refine⟨u.take i,?_⟩;have:=bA (l:=u) (i:=i);rw[S,b9 (by lia)]at this;exact this
  obtain⟨t',ad⟩:=aS;have v:o l=some (.lst (t'.map V.ref++[V.ref I])):=by rw[e3,ad,aQ];rfl
  walk_at "";refine⟨_,Ξ.of aq,rfl,_,_,rfl,_,_,rfl,rfl,?_⟩;refine ϊ (U _ _ v) (wY _ _) ?_;refine⟨p,I,qx,t,m,ps,rs,kX rs xs ss i,s,rfl,W.same (s3.trans U),Ξ.of (U _ _ L),by lia,U _ _ h3,λH5 s5=>⟨_,rfl,?_⟩⟩;have f:=U.trans s5;cases cd:jr m rs (kX rs xs ss i) s
  .rw[aj rfl];refine⟨V.int (i:Int),rfl,bj (by simp),λea ne=>⟨ea,Y,_,rfl,aq,qy,λdx nd y=>⟨rfl,some dx,?_,?_⟩⟩⟩
   .rw[aU (Ne.symm y),aq]
   .exact kb fi i dx _ ⟨bf,s,h2,cd⟩ ((s3.trans f).trans (vt ne nd y)) (by rw[pK y,aq])
  rw[ag (by decide)];have is:mB m rs s=true:=by
   unfold jr at cd;rw[aZ]at cd;exact cd.1
  refine⟨tyL (f _ _ v),ϊ (f _ _ v) (wY _ _) ?_⟩;refine⟨p,I,qx,t,m,ps,rs,kX rs xs ss i,s,rfl,W.same (s3.trans f),Ξ.of (f _ _ L),by lia,f _ _ h3,is,λtn H6 nn s6 en=>?_⟩;have r:=f.trans s6;have a0:tn≠l:=λz=>by rw[z,f _ _ v]at nn;cases nn
  refine re (r _ _ e3) (gi (by rw[am];lia)) (hN _ _ ⟨(s3.trans r).put R _,aC,λj s' hj C=>?_,u++[tn],_,_,by rw[aq,aQ];rfl,?_,rfl⟩)
  .by_cases z:j=i
   .subst z;rw[h2]at C;cases C;exact cd
   .exact bf j s' (by lia) C
  rw[bA,qh (by lia),OA h2];exact IX (by rw[aU a0];exact en) (Paired.imp' (λa b h=>by rw[aU (fm (r _ _ h) (r _ _ e3) (by intro z;cases z))];exact r _ _ h) ta)
 .rintro σ o ⟨s3,il,bf,u,v4,v5,e3,ta,rfl⟩;rw[am,ql,b9 (by rw[uN];exact aB _)]at ta;walk_at "";refine k fi (λj s J=>bf j s ?_ J) l u o R s3 e3 ta;rw[am,ql];exact(aH.mp J).1
def Bo(T:Txt K B):Sp:=λo H Q E=>E12 λ(p a b t:Addr)(c d:Bool)(m:Int)(n j:fx)(h:hD)(f:ej)(g:List Zg)=>o=[.ref p,.ref a,.ref b]/\π T.Web H p m t n h/\AtX c H a (f.map V.int)/\f.length<=1000/\AtX d H b (j.map V.ref)/\ϔ H j g/\g.length<=1000/\(bG m f=true->Pz m h f g->∀l e,γ H e->e l=some (.tup ((kX h f g g.length).map V.int))->Q (.ref l) e)/\(bG m f=true->∀i k e,ZQ m h f g i->γ H e->e k=some (.xd [("at",.int (i:Int))])->E (.ref T.BadStep) (some k) e)/\(bG m f=false->∀e,γ H e->E (.ref T.BadLaying) none e)
abbrev sA:Stmt:=top 37
theorem Po:ε ["web","laying","steps"] ["web","laying","steps"] (aw sA):=.of
theorem Pt(T:Txt K B)(hq:bC (ς P w))(N:Cb P w K B base "layings" mP ["web","laying","steps"] 6 (yH T)):Ok P w K B base "walked" sA ["web","laying","steps"] 7 (Bo T):=λ_ _ D=>by
 refine D.F.iO Po (by walk_at "v") λΖ A r s H vs Q E C h=>?_;obtain⟨p,a,b,t,c,d,m,L,S,x,v,g,rfl,W,V,J,R,O,U,k,Z,Y⟩:=h;refine⟨_,(aA (bx (o9 bB (Φ N C bq (aa (δ 0) (aa (δ 1) (aa (δ 2) ap)))) (yD uB ay) (λ_ _=>rfl)))),?_⟩;walk_at "s";walk_at "";refine⟨p,a,b,t,c,d,m,L,S,x,v,g,?_⟩;refine⟨rfl,W,V,J,R,O,U,λfi X l f M nl z y u=>?_,Z,Y⟩;have G:f.length=(qk x v g).length:=Paired.length u;rw[uN]at G;obtain⟨n,j⟩:∃n,f[g.length]?=some n:=⟨_,aG (by lia)⟩;obtain⟨I,e,q⟩:=Dm u j;rw[qh (aB _)]at e;cases e;have o:f=f.take g.length++[n]:=by
  have:=bA (l:=f) (i:=g.length);rw[j,b9 (by lia)]at this;exact this
 rw[o,aQ]at y;exact ϊ y (wY _ _) (k fi X n M z q)
def u4(T:Txt K B):Sp:=λj H Q E=>E12 λ(o h f t:Addr)(m:Int)(g:fx)(d:hD)(e:List (List Int×List Int))(s:List Int×List Int)(a b n:Int)=>j=[.ref o,.int a,.int b,.int n]/\τ T.Web T.Desk H o h f m t g d (e++[s])/\e.length<=500/\bG m s.1=true/\(jr m d s.1 (a,b,n)=true->∀c,τ T.Web T.Desk c o h f m t g d (e++[s]++[(qE d s.1 (a,b,n),s.2)])->Zh f H c->Q .Θ c)/\(jr m d s.1 (a,b,n)=false->∀i c,γ H c->c i=some (.xd [("at",.int 0)])->E (.ref T.BadStep) (some i) c)
abbrev jf:Stmt:=hZ (top 107) 3
theorem FW:ε ["self","a","b","times"] ["self","a","b","times"] (aw jf):=.of
theorem Gr(T:Txt K B)(hq:bC (ς P w)){f:Addr}{fd:FuncData}(F:ϑ K "step" "Desk.step" jf f fd){I:Addr}{G:FuncData}(gY:ϑ K "keep" "Desk.keep" gh I G)(gg:Binds K G ["self","laying","wish"] [])(gl:Meth K T.Desk "keep" I)(gb:υ P w K B base (ς P w) 1 I G ["self","laying","wish"] (nu T)){L:Addr}{N:FuncData}(dG:ϑ K "laying" "Desk.laying" d3 L N)(cu:Binds K N ["self"] [])(cv:Meth K T.Desk "laying" L)(cw:υ P w K B base (ς P w) 1 L N ["self"] (ia T)){U:Addr}{v:FuncData}(eI:ϑ K "wish" "Desk.wish" eX U v)(c7:Binds K v ["self"] [])(c9:Meth K T.Desk "wish" U)(c8:υ P w K B base (ς P w) 1 U v ["self"] (jI T))(wF:Cb P w K B base "walked" sA ["web","laying","steps"] 7 (Bo T)):υ P w K B base (ς P w) 8 f fd ["self","a","b","times"] (u4 T):=by
 refine F.iO FW (by walk_at "v") λΖ A C s H vs Q E l h=>?_;obtain⟨o,q,D,t,m,p,g,Γ,s,a,b,n,rfl,O,sl,fi,k,e'⟩:=h;obtain⟨dx,ob⟩:=O.ob;have Ϩ:=O.web.go.Ϩ;refine⟨_,(aA (bU (jv (δ 0) T.bM gl gb (l.mono (by decide)) gg .nil bq (aa (Φ wF l bq (aa (dJ (δ 0) rfl) (aa (dY (δ 0) T.bM cv cw (l.mono (by decide)) cu .nil bq) (aa (cM (aa (dL (aa (δ 1) (aa (δ 2) (aa (δ 3) ap)))) ap)) ap)))) (aa (dY (δ 0) T.bM c9 c8 (l.mono (by decide)) c7 .nil bq) ap))))),?_⟩;walk_at "s";walk_at "";refine O.ό ?_;refine O.wb_ T.bM T.Y8 ?_;refine O.ό ⟨o,q,D,t,m,p,g,Γ,s,rfl,O,λla x=>⟨bj (by simp),λd n1=>⟨bj (by simp),λr n2=>?_⟩⟩⟩;have s1:=γ.new (.tup [V.int a,V.int b,V.int n]) n1;have Z:=γ.new (.lst [V.ref d]) n2;have Y:=Z _ _ (aq (H:=H) (a:=d) (o:=.tup [V.int a,V.int b,V.int n]));have X:upd (upd H d (.tup [V.int a,V.int b,V.int n])) r (.lst [V.ref d]) r=some (.lst [V.ref d]):=aq;have e:=s1.trans Z;generalize upd (upd H d (.tup [V.int a,V.int b,V.int n])) r (.lst [V.ref d])=H2 at Y X e ⊢;have O2:=O.same e;refine⟨q,la,r,t,false,true,m,p,[d],g,s.1,[(a,b,n)],rfl,O2.web,e _ _ x,by have:=gd fi;lia,X,.cons Y .nil,by simp,λ_ ca l3 W j u=>?_,λ_ i M W fb j u=>?_,λz=>by rw[fi]at z;cases z⟩
 rotate_left
 .obtain⟨rfl,cb⟩:=Uv fb;exact e' cb M W (e.trans j) u
 have S:jr m g s.1 (a,b,n)=true:=ca 0 _ rfl;have J:=O2.same j;refine J.ό ⟨o,q,D,t,m,p,g,Γ,s,rfl,J,λlb R=>?_⟩;refine⟨o,q,D,t,l3,lb,m,p,g,_,(_,_),rfl,J,u,R,by rw[ao];simp;lia,λH4 O4 k4=>k S H4 O4 ?_⟩;exact λc y h n=>k4 c y (j _ _ (e _ _ h)) n
def pd(T:Txt K B):Sp:=λe H Q E=>E8 λ(p a t:Addr)(c:Bool)(m:Int)(g:fx)(f:hD)(d:ej)=>e=[.ref p,.ref a]/\π T.Web H p m t g f/\bV K c H a (d.map V.int)/\d.length<=1000/\(bG m d=true->∀l b,γ H b->(b l=some (.tup (d.map V.int))\/(c=false/\l=a))->Ξ K b l (d.map V.int)->Q (.ref l) b)/\(bG m d=false->∀b,γ H b->E (.ref T.BadWish) none b)
abbrev lg:Stmt:=top 44
theorem Mc:ε ["web","numbers"] ["web","numbers"] (aw lg):=.of
theorem oz:iD (aw lg) "BadWish":=.of (by kernel_rfl)
theorem KA(T:Txt K B)(G:bC (ς P w))(x:Cb P w K B base "is_filled" ms ["web","numbers"] 1 (qc T)):Ok P w K B base "wish_of" lg ["web","numbers"] 2 (pd T):=λ_ _ D=>by
 refine D.F.iO Mc (by walk_at "v") λy A j s H C Q E q h=>?_;obtain⟨p,a,t,c,m,u,v,i,rfl,W,f,r,k,e⟩:=h;refine⟨_,(au (cf (kU (nj (Φ x q bq (aa (δ 0) (aa (δ 1) ap))))) (aA (mG T.qA rfl nW oz.g T.uH (aa aM ap) (hdb:=oz.d))) bK) (aA (bx (ZF gH T.tuple (aa (δ 1) ap))))),?_⟩;walk_at "s";walk_at "";refine⟨p,a,t,c,m,u,v,i,rfl,W,f,r,λo b=>⟨_,rfl,?_⟩⟩;by_cases z:bG m i=false
 .rw[aj z];exact⟨by decide,e z o b⟩
 .rw[ag z];have n:bG m i=true:=by simpa using z
  cases c
  .exact⟨_,.inr ⟨γ.sqX (c:=false) b f,k n a o b (.inr ⟨rfl,rfl⟩) (γ.sqX (c:=false) b f)⟩⟩
  .exact⟨_,.inl ⟨γ.sqX (c:=true) b f,λl nl=>k n l _ (b.trans (γ.new _ nl)) (.inl aq) (Ξ.of aq)⟩⟩
def pJ(T:Txt K B):Sp:=λg H Q E=>E11 λ(o d c t:Addr)(m:Int)(f:fx)(e:hD)(b:List (List Int×List Int))(s:List Int×List Int)(v n:Int)=>g=[.ref o,.int v,.int n]/\τ T.Web T.Desk H o d c m t f e (b++[s])/\b.length<=500/\(s.2.length:Int)=m/\(∀y∈s.2,0<=y)/\((0<=v/\v<m)->0<=n->∀a,τ T.Web T.Desk a o d c m t f e (b++[s]++[(s.1,s.2.set v.toNat n)])->Zh c H a->Q .Θ a)/\(¬(0<=v/\v<m)->∀a,γ H a->E (.ref T.NoPlace) none a)/\(0<=v->v<m->n<0->∀a,γ H a->E (.ref T.BadWish) none a)
abbrev g6:Stmt:=hZ (top 107) 2
theorem DS:ε ["self","place","many","wanted"] ["self","place","many"] (aw g6):=.of
abbrev jU(P w base)(T:Txt K B):=Cb P w K B base "wish_of" lg ["web","numbers"] 2 (pd T)
theorem Ea(T:Txt K B)(hq:bC (ς P w)){f:Addr}{X:FuncData}(F:ϑ K "want" "Desk.want" g6 f X){I:Addr}{D:FuncData}(gY:ϑ K "keep" "Desk.keep" gh I D)(gg:Binds K D ["self","laying","wish"] [])(gl:Meth K T.Desk "keep" I)(gb:υ P w K B base (ς P w) 1 I D ["self","laying","wish"] (nu T)){L:Addr}{M:FuncData}(dG:ϑ K "laying" "Desk.laying" d3 L M)(cu:Binds K M ["self"] [])(cv:Meth K T.Desk "laying" L)(cw:υ P w K B base (ς P w) 1 L M ["self"] (ia T)){R:Addr}{r:FuncData}(eI:ϑ K "wish" "Desk.wish" eX R r)(c7:Binds K r ["self"] [])(c9:Meth K T.Desk "wish" R)(c8:υ P w K B base (ς P w) 1 R r ["self"] (jI T))(ce:hY P w base T)(iY:jU P w base T):υ P w K B base (ς P w) 3 f X ["self","place","many"] (pJ T):=by
 refine F.iO DS (by walk_at "v") λΖ A x s H vs Q E b h=>?_;obtain⟨o,g,C,t,m,d,i,U,s,v,n,rfl,O,sl,xl,x0,k,G,J⟩:=h;obtain⟨dx,ob⟩:=O.ob;have Ϩ:=O.web.go.Ϩ;refine⟨_,(au (bU (Φ ce b bq (aa (dJ (δ 0) rfl) (aa (δ 1) ap)))) (au (Χ 3 (ZF nC T.list (aa (dY (δ 0) T.bM c9 c8 (b.mono (by decide)) c7 .nil bq) ap))) (au (rj (δ 2) (Di (δ 3) (δ 1) nJ)) (aA (bU (jv (δ 0) T.bM gl gb (b.mono (by decide)) gg .nil bq (aa (dY (δ 0) T.bM cv cw (b.mono (by decide)) cu .nil bq) (aa (Φ iY b bq (aa (dJ (δ 0) rfl) (aa (δ 3) ap))) ap)))))))),?_⟩;walk_at "s";walk_at "";refine⟨T.Desk,dx,_,ob,T.bM,T.Y8,_,uh _ _,?_⟩;refine⟨g,t,m,d,i,v,rfl,O.web,λv0 W=>?_,λz=>G z H (γ.refl _)⟩;have Y:0<=v/\v<m:=⟨v0,W⟩;refine O.ό ⟨o,g,C,t,m,d,i,U,s,rfl,O,λlb N=>⟨lb,rfl,_,.inr (Ξ.of N),λl nl=>?_⟩⟩;refine EO aq Y.1 (by rw[am];lia) ?_;rw[<-gA,mK];have j:=γ.new (.lst ((s.2.set v.toNat n).map V.int)) nl;have S:upd H l (.lst ((s.2.set v.toNat n).map V.int)) l=some (.lst ((s.2.set v.toNat n).map V.int)):=aq;generalize upd H l (.lst ((s.2.set v.toNat n).map V.int))=H1 at j S ⊢;have a:=O.same j;have fi:bG m (s.2.set v.toNat n)=true->0<=n:=λf=>oB f n (List.mem_iff_getElem?.mpr ⟨v.toNat,dc (by lia)⟩);have fo:bG m (s.2.set v.toNat n)=false->n<0:=λf=>by
  refine Classical.byContradiction λz=>?_;have:bG m (s.2.set v.toNat n)=true:=oE (by rw[bT];exact xl) λy hy=>by
   rcases ff hy with q|q
   .exact x0 y q
   .lia
  rw[f]at this;cases this
 refine a.ό ?_;refine a.ό ⟨o,g,C,t,m,d,i,U,s,rfl,a,λla u=>?_⟩;refine a.wb_ T.bM T.Y8 ?_;refine⟨g,l,t,true,m,d,i,_,rfl,a.web,Η.of S,by rw[bT];lia,λf l2 Z e p _=>?_,λf Z e=>J v0 W (fo f) Z (j.trans e)⟩;have p:=p.resolve_right λz=>(by cases z.1);have O2:=a.same e;refine⟨o,g,C,t,la,l2,m,d,i,_,(s.1,s.2.set v.toNat n),rfl,O2,e _ _ u,p,by rw[ao];simp;lia,λH4 O4 k4=>k Y (fi f) H4 O4 ?_⟩;exact λc y h n=>k4 c y (e _ _ (j _ _ h)) n
def xV(T:Txt K B):Sp:=λh H Q E=>E13 λ(o g j t e:Addr)(m:Int)(f:fx)(i:hD)(b:List (List Int×List Int))(s:List Int×List Int)(w:Str)(d:List Nat)(c:Nat)=>h=[.ref o,.str w,.ref e]/\τ T.Web T.Desk H o g j m t f i (b++[s])/\b.length<=500/\bG m s.1=true/\bG m s.2=true/\H e=some (.lst (vNs d))/\RfD m b.length w d c/\(c=0->∀x a,γ H a->E (.ref T.NoPlace) x a)/\(c=2->∀x a,γ H a->E (.ref T.BadStep) x a)/\(c=3->∀x a,γ H a->E (.ref T.NoDeed) x a)
abbrev qz:Stmt:=top 109
theorem Jw:ε ["desk","word","numbers"] ["desk","word","numbers"] (aw qz):=.of
theorem Kb(T:Txt K B)(hq:bC (ς P w)){u:Addr}{C:FuncData}(ou:ϑ K "back" "Desk.back" gZ u C)(U:Binds K C ["self"] [])(Y:Meth K T.Desk "back" u)(qS:υ P w K B base (ς P w) 3 u C ["self"] (u8 T)){L:Addr}{M:FuncData}(lD:ϑ K "put" "Desk.put" gU L M)(lR:Binds K M ["self","place","many"] [])(V:Meth K T.Desk "put" L)(X:υ P w K B base (ς P w) 5 L M ["self","place","many"] (qP T)){N:Addr}{y:FuncData}(oj:ϑ K "step" "Desk.step" jf N y)(qQ:Binds K y ["self","a","b","times"] [])(W:Meth K T.Desk "step" N)(Z:υ P w K B base (ς P w) 8 N y ["self","a","b","times"] (u4 T)){I:Addr}{x:FuncData}(kg:ϑ K "want" "Desk.want" g6 I x)(km:Binds K x ["self","place","many"] [])(ki:Meth K T.Desk "want" I)(kj:υ P w K B base (ς P w) 3 I x ["self","place","many"] (pJ T)):Ok P w K B base "do_deed" qz ["desk","word","numbers"] 10 (xV T):=λ_ _ D=>by
 refine D.F.iO Jw (by walk_at "v") λΖ A J s H vs Q E i h=>?_;obtain⟨o,k,p,t,ln,m,j,l,q,s,w,ns,c,rfl,O,G,fi,S,d,r,R,e2,e3⟩:=h;have g:=O.web.go;refine⟨_,(aA (cf (ϧ cY (δ 1) aM) (aA (bU (jv (δ 0) T.bM V X (i.mono (by decide)) lR .nil bq (aa (Ο bB (δ 2) ay) (aa (Ο bB (δ 2) ay) ap))))) (aA (cf (ϧ cY (δ 1) aM) (aA (bU (jv (δ 0) T.bM ki kj (i.mono (by decide)) km .nil bq (aa (Ο bB (δ 2) ay) (aa (Ο bB (δ 2) ay) ap))))) (aA (cf (ϧ cY (δ 1) aM) (aA (bU (jv (δ 0) T.bM W Z (i.mono (by decide)) qQ .nil bq (aa (Ο bB (δ 2) ay) (aa (Ο bB (δ 2) ay) (aa (Ο bB (δ 2) ay) ap)))))) (aA (bU (dY (δ 0) T.bM Y qS (i.mono (by decide)) U .nil bq))))))))),?_⟩;walk_at "s";walk_at "";cases r with
 | @put v n h=>
   rw[aj rfl];refine O.ό (ϊ d rfl (ϊ d rfl ⟨o,k,p,t,m,j,l,q,s,v,n,rfl,O,G,gd fi,λz=>absurd z (by lia),λ_ f e=>R rfl _ f e,λ_ z=>absurd z (by lia)⟩))
 | @want v n h=>
   rw[ag (dO (by decide)),aj rfl];refine O.ό (ϊ d rfl (ϊ d rfl ⟨o,k,p,t,m,j,l,q,s,v,n,rfl,O,G,gd S,oB S,λz=>absurd z (by lia),λ_ f e=>R rfl _ f e,λ_ z=>absurd z (by lia)⟩))
 | @step a b n h=>
   rw[ag (dO (by decide)),ag (dO (by decide)),aj rfl];refine O.ό (ϊ d rfl (ϊ d rfl (ϊ d rfl ⟨o,k,p,t,m,j,l,q,s,a,b,n,rfl,O,G,fi,λz=>(UW g h z).elim,λ_ dx f e _=>e2 rfl _ f e⟩)))
 | back h=>
   rw[ag (dO (by decide)),ag (dO (by decide)),ag (dO (by decide))];exact O.ό ⟨o,k,p,t,m,j,l,q,s,rfl,O,λz=>absurd (jm.mp h) z,λ_=>e3 rfl none H (γ.refl _)⟩
def ui(T:Txt K B):Sp:=λb H Q _=>∃w:Str,b=[.str w]/\(w.cps.all λx=>decide (x<128))=true/\w.length<=60000/\(Fig w.cps.toList->∀a,γ H a->Q (.bl true) a)/\(¬Fig w.cps.toList->∀a,γ H a->Q (.bl false) a)
abbrev lX:Stmt:=top 89
theorem FH:ε ["word"] ["word"] (aw lX):=.of
theorem kE:iD (aw lX) "MOST_FIGURES":=.of (by kernel_rfl)
theorem F7(T:Txt K B)(Z:bC (ς P w)):Ok P w K B base "is_number" lX ["word"] 1 (ui T):=λ_ _ D=>by
 refine D.F.Ac FH (by walk_at "v") λU A C s H Y Q E W h=>?_;obtain⟨w,rfl,as,L,k,u⟩:=h;refine⟨_,(au (cf (PW.pt (vL (kU (xk sC sC ay (pcb GQ T.len (aa (δ 0) ap)) (sD kE.g T.ZR (hd:=kE.d)))) (rM (kU (nj (pcb (EW rfl) T.all (aa (py rfl (sJ (Nc:=["sign"]) 1 (by decide +kernel) (by decide +kernel) rfl (by decide +kernel) rfl) (Wk (δ 0)) (λ_ _ _ _=>(jB (i:=0) (show(["sign"]:gy).Nodup from by decide +kernel) rfl (Or.inl rfl))) (λ_ _ _ _=>nV) (λ_ _ _ _=>(lP O0 (pv 0) (Qp (by rfl) T.abS) (by with_unfolding_all rfl)))) ap))))))) (aA (bx vK)) bK) (aA (bx (Xo (lP cY (δ 0) aM (mf _)) (yB (lP o8 (Ο Wt (δ 0) ay) aM (mf _))))))),?_⟩;walk_at "s";refine db λX M=>?_;walk_at "";have R:w.length=w.cps.toList.length:=im w;refine⟨w,rfl,bh L (by decide),?_⟩;rw[R];by_cases n:(1:Int)<=(w.cps.toList.length:Int)
 .rw[aj n];by_cases l:(w.cps.toList.length:Int)<=60
  .rw[ag (λz=>z l)];refine⟨w,rfl,as,λp I=>?_⟩;refine Qe (λi m G t=>γ H t/\t p=some (.lst m)/\m=((w.cps.toList.take i).map λc=>V.bl (decide (48<=c/\c<=57)))/\∃v,G=[v]) ⟨γ.new _ I,aq,rfl,_,rfl⟩ ?_ ?_
   .rintro i c m G t N hN hi ⟨s2,h2,rfl,v,rfl⟩;have J:i<w.cps.toList.length:=(aH.mp hi).1;walk_at "";refine⟨_,rfl,_,rfl,h2,gi (by rw[am,bc];lia),?_⟩;rw[Pg];refine hN _ _ _ ⟨?_,aq,?_,_,rfl⟩
    .exact λb o e=>by rw[aU (cC e I)];exact s2 _ _ e
    .rw[bA,hi,aQ]
     rfl
   .rintro m G t ⟨s2,h2,rfl,v,rfl⟩;have O:w.cps.toList.take w.cps.toList.length=w.cps.toList:=cj;refine⟨p,rfl,w.cps.toList.map λc=>decide (48<=c/\c<=57),by rw[jd];rw[O]at h2;exact Η.of h2,?_⟩;by_cases j:∀c∈w.cps.toList,48<=c/\c<=57
    .rw[ag (by rw[Bool.not_eq_false,bQ];intro b S;obtain⟨c,y,rfl⟩:=bu.mp S;exact bI (j c y))];refine M _ _ ?_;walk_at "";by_cases q:V.str w=V.str (Str.ofString "0")
     .rw[aj q];have e:w=Str.ofString "0":=(by injection q);exact k ⟨by lia,by lia,j,.inl (by rw[e];rfl)⟩ _ s2
     .rw[ag q];obtain⟨c,r,x⟩:∃c r,w.cps.toList=c::r:=by
       cases hh:w.cps.toList with
       | nil=>rw[hh]at n;exact absurd n (by decide)
       | cons c r=>exact⟨c,r,rfl⟩
      refine ixS (i:=0) (by lia) (by rw[x];rfl) ⟨rfl,?_⟩;by_cases a:c=48
      .rw[show decide (V.str ⟨#[c]⟩=V.str (Str.ofString "0"))=true from bI (by rw[a];rfl)];refine u (λf=>?_) _ s2;rcases f.lead with z|z
       .exact q (congrArg V.str (lM z))
       .exact z (by rw[x,a];rfl)
      .rw[show decide (V.str ⟨#[c]⟩=V.str (Str.ofString "0"))=false from bt λz=>a (by injection z with z;exact(fY (show[c]=[48]from congrArg (λs:Str=>s.cps.toList) z)).1)];exact k ⟨by lia,by lia,j,.inr (by rw[x];exact λz=>a (by injection z))⟩ _ s2
    .rw[aj (by
      rw[<-Bool.not_eq_true,bQ];exact λz=>j λc y=>bg (z _ (bu.mpr ⟨c,y,rfl⟩)))]
     exact u (λf=>j f.all) _ s2
  .rw[aj l];exact u (λf=>absurd f.aaf (by lia)) H (γ.refl _)
 .rw[ag n];exact u (λf=>absurd f.aeZ (by lia)) H (γ.refl _)
def rV(T:Txt K B):Sp:=λc H Q E=>∃(w:Str)(i:Int),c=[.str w,.int i]/\(w.cps.all λx=>decide (x<128))=true/\w.length<=60000/\(∀n,gE w=some n->∀a,γ H a->Q (.int (n:Int)) a)/\(gE w=none->∀b a,γ H a->a b=some (.xd [("at",.int i)])->E (.ref T.BadText) (some b) a)
abbrev kd:Stmt:=top 88
theorem zz:ε ["word","at"] ["word","at"] (aw kd):=.of
theorem mj:iD (aw kd) "BadText":=.of (by kernel_rfl)
theorem zB(T:Txt K B)(C:bC (ς P w)){c:Addr}{l:FuncData}(M:ϑ K "__init__" "BadText.__init__" da c l)(I:Binds K l ["self","at"] [])(o:lG K T.BadText c)(y:υ P w K B base (ς P w) 1 c l ["self","at"] (iE T))(u:Cb P w K B base "is_number" lX ["word"] 1 (ui T)):Ok P w K B base "read_number" kd ["word","at"] 3 (rV T):=λ_ _ D=>by
 refine D.F.iO zz (by walk_at "v") λJ A m s H L Q E n h=>?_;obtain⟨w,i,rfl,as,q,k,x⟩:=h;refine⟨_,(au (cf (kU (nj (Φ u n bq (aa (δ 0) ap)))) (aA (qm o y C (n.mono (by decide)) I rfl rfl vD mj.g T.qC (aa (δ 1) ap) (hdb:=mj.d))) bK) (aA (bx (ZF O5 T.int (aa (δ 0) ap))))),?_⟩;walk_at "s";walk_at "";refine⟨w,rfl,as,q,λf z j=>⟨true,rfl,?_⟩,λf z j=>⟨false,rfl,?_⟩⟩
 .rw[ag (by simp)];have G:=f.aaf;obtain⟨e,b⟩:=f.fs;refine⟨w,rfl,nv w.cps.toList,?_,?_,k _ (by unfold gE;rw[aj f]) _ j⟩
  .have:=Rb _ b;rw[<-e]at this;exact this
  .rw[im]
   lia
 .rw[aj rfl];show ∃v,_;refine⟨V.int i,rfl,bj (by simp),λt ne=>⟨t,c,_,rfl,aq,o,λp r a=>⟨rfl,some p,?_,?_⟩⟩⟩
  .rw[aU (Ne.symm a),aq]
  .exact x (BF.mpr f) p _ (j.trans (vt ne r a)) (by rw[pK a,aq])
def sZ(T:Txt K B):Sp:=λe H Q E=>E4 λ(l:Addr)(a:gy)(n i:Int)=>e=[.ref l,.int n,.int i]/\H l=some (.lst (a.map V.str))/\a.length<=2000/\(∀w∈a,WOk w)/\((a.length:Int)=n->∀c:List Nat,a.map gE=c.map some->∀p b,H p=none->γ H b->b p=some (.lst (vNs c))->Q (.ref p) b)/\(((a.length:Int)≠n\/∃w∈a,gE w=none)->∀d b,γ H b->b d=some (.xd [("at",.int i)])->E (.ref T.BadText) (some d) b)
abbrev kZ:Stmt:=top 87
theorem B3:ε ["words","many","at"] ["words","many","at"] (aw kZ):=.of
theorem mM:iD (aw kZ) "BadText":=.of (by kernel_rfl)
theorem Cn(T:Txt K B)(hq:bC (ς P w)){C:Addr}{M:FuncData}(dP:ϑ K "__init__" "BadText.__init__" da C M)(iZ:Binds K M ["self","at"] [])(fN:lG K T.BadText C)(Α:υ P w K B base (ς P w) 1 C M ["self","at"] (iE T))(y:Cb P w K B base "read_number" kd ["word","at"] 3 (rV T)):Ok P w K B base "read_words" kZ ["words","many","at"] 4 (sZ T):=λ_ _ D=>by
 refine D.F.iO B3 (by walk_at "v") λΖ A X s H vs Q E Y h=>?_;obtain⟨l,q,n,u,rfl,W,wl,wo,k,ke⟩:=h;refine⟨_,(au (cf (ϧ o8 (pcb ik T.len (aa (δ 0) ap)) (δ 1)) (aA (qm fN Α hq (Y.mono (by decide)) iZ rfl rfl vD mM.g T.qC (aa (pvn 2) ap) (hdb:=mM.d))) bK) (aA (bx (Su rfl rfl rfl Tr rfl (clo ["word","at"] 1 [2]) (lB (δ 0)) (λ_ _ _ _=>(jB (i:=0) (show(["word","at"]:gy).Nodup from by decide +kernel) rfl (Or.inl rfl))) (λ_ _ _ _=>nV) (λ_ _ _ _=>(wK y.G (Y.mono (by decide)) (by rfl) y.D.m y.D.F.kp y.D.b .nil (aa (pv 0) (aa (pv 1) ap)))))))),?_⟩;walk_at "s";walk_at "";refine⟨_,.inl (Η.of W),?_⟩;rw[am];by_cases e:(q.length:Int)=n
 .rw[ag (λz=>z e)];refine⟨⟨_,Η.of W⟩,λp S=>?_⟩;refine sH (K:=K) (c:=true) (a:=l) (xs:=q.map V.str) (λi t J r=>γ H r/\r p=some (.lst t)/\(∃j:List Nat,t=vNs j/\(q.take i).map gE=j.map some)/\∃v,J=[v,some (V.int u)]) ⟨γ.new _ S,aq,⟨[],rfl,rfl⟩,_,rfl⟩ (λi t J r _ ⟨z,_⟩=>Η.of (z _ _ W)) ?_ ?_
  .rintro i x t J r N hN hi ⟨s5,h2,⟨j,rfl,en⟩,v,rfl⟩;obtain⟨w,O,rfl⟩:=List.Ϫ hi;have et:q.take (i+1)=q.take i++[w]:=(by rw[bA,O];rfl);have af:i<q.length:=(aH.mp O).1;have U:=bd O;have ai:j.length=i:=by
    have:=congrArg List.length en;rw[am,am,bc]at this
    lia
   walk_at "";refine⟨w,u,rfl,(wo w U).1,(wo w U).2,λn R Z L=>⟨L _ _ h2,gi (by unfold vNs;rw[am];lia),hN _ _ _ ⟨?_,aq,⟨j++[n],?_,?_⟩,_,rfl⟩⟩,λR I Z L hd=>?_⟩
   .exact λb o e=>by rw[aU (cC e S)];exact L _ _ (s5 _ _ e)
   .unfold vNs;rw[aQ];rfl
   .rw[et,aQ,aQ,en];show _++[gE w]=_;rw[R]
    rfl
   .exact ke (.inr ⟨w,U,R⟩) I Z (s5.trans L) hd
  .rintro t J r ⟨s5,h2,⟨j,rfl,en⟩,v,rfl⟩;rw[am,cj]at en;exact k e j en p r S s5 h2
 .rw[aj e];unfold AJ;walk_at "";refine⟨bj (by simp),λea ne=>⟨ea,C,_,rfl,aq,fN,λI nd f=>⟨rfl,some I,?_,?_⟩⟩⟩
  .rw[aU (Ne.symm f),aq]
  .exact ke (.inl e) I _ (vt ne nd f) (by rw[pK f,aq])
def zJ(T:Txt K B):Sp:=λe H Q _=>E7 λ(p t:Addr)(m:Int)(f:fx)(d:hD)(a:Int)(b:V)=>e=[.ref p,.int a,b]/\π T.Web H p m t f d/\0<=a/\a<m/\(b=.Θ\/∃i,b=.int i)/\∀l c,H l=none->γ H c->c l=some (.lst ((eD m d b a).map V.int))->Q (.ref l) c
abbrev uI:Stmt:=top 34
theorem TM:ε ["web","place","front"] ["web","place","front"] (aw uI):=.of
theorem UP(T:Txt K B)(Y:bC (ς P w))(M:Cb P w K B base "neighbours" lq ["web","a"] 3 (oS T)):Ok P w K B base "kids" uI ["web","place","front"] 4 (zJ T):=λ_ _ D=>by
 refine D.F.Ac TM (by walk_at "v") λΖ A u s H vs Q E I h=>?_;obtain⟨p,t,m,O,d,a,f,rfl,W,Z,S,L,k⟩:=h;have Ϩ:=W.go.Ϩ;refine⟨_,(aA (bx (py rfl (clo ["near","front"] 1 [2]) (lB (Zx M I Y (aa (δ 0) (aa (δ 1) ap)))) (λ_ _ _ _=>(jB (i:=0) (show(["near","front"]:gy).Nodup from by decide +kernel) rfl (Or.inl rfl))) (λ_ _ _ _=>(IR (ϧ o8 (pv 0) (pv 1)))) (λ_ _ _ _=>(pv 0))))),?_⟩;walk_at "s";walk_at "";have nl:(jJ m d a).length<=24:=by
  have:=jN (λq=>decide (q∈eA d a)) (dE m.toNat);rw[ip]at this;unfold jJ
  lia
 refine⟨p,t,m,O,d,a,rfl,W,λC U _ _ n1 x G=>⟨C,rfl,⟨_,Η.of G⟩,λn r=>?_⟩,λz=>absurd ⟨Z,S⟩ z⟩;have o:H n=none:=x.free r;refine sH (c:=true) (K:=K) (a:=C) (xs:=(jJ m d a).map V.int) (λj g l e=>γ U e/\e n=some (.lst g)/\g=(((jJ m d a).take j).filter λv=>decide (V.int v≠f)).map V.int/\∃v,l=[v,some f]) ⟨γ.new _ r,aq,rfl,_,rfl⟩ (λj g l e _ z=>Η.of (z.1 _ _ G)) ?_ ?_
 .rintro j xj g l e N hN hj ⟨s2,h2,rfl,v,rfl⟩;rw[aY]at hj;obtain⟨b,X,rfl⟩:=bP.mp hj;have y:(jJ m d a).take (j+1)=(jJ m d a).take j++[b]:=by rw[bA,X];rfl
  have ll:(((jJ m d a).take j).filter λv=>decide (V.int v≠f)).length<=24:=by
   have J:=jN (λv=>decide (V.int v≠f)) ((jJ m d a).take j);rw[bc]at J
   lia
  walk_at "";have R:su (V.int b) f=true:=by
   rcases L with rfl|⟨i,rfl⟩<;>rfl
  refine⟨R,?_⟩;by_cases c:V.int b=f
  .rw[ag (λz=>z c)];refine hN _ _ _ ⟨s2,h2,?_,_,rfl⟩;rw[y,List.filter_append];simp[c]
  .rw[aj c];refine⟨h2,gi (by rw[am];lia),hN _ _ _ ⟨s2.put r _,aq,?_,_,rfl⟩⟩;rw[y,List.filter_append];simp[c]
 .rintro g l e ⟨s2,h2,rfl,v,rfl⟩;rw[am,cj]at h2;exact k n e o (x.trans s2) h2
def wQ(T:Txt K B):Sp:=λe H Q E=>E6 λ(p t:Addr)(m:Int)(f:fx)(d:hD)(r:Int)=>e=[.ref p,.int r]/\π T.Web H p m t f d/\(0<=r->r<m->∃a b,Λ m d r a b/\∀l c,H l=none->γ H c->c l=some (.lst (qK m r a))->Q (.ref l) c)/\(¬(0<=r/\r<m)->E (.ref T.NoPlace) none H)
abbrev rR:Stmt:=top 32
theorem Tg:ε ["web","r","nearer","waiting","place","front","kid"] ["web","r"] (aw rR):=.of
theorem RH(T:Txt K B)(hq:bC (ς P w))(ce:hY P w base T)(rA:Cb P w K B base "kids" uI ["web","place","front"] 4 (zJ T)):Ok P w K B base "ahead" rR ["web","r"] 5 (wQ T):=λ_ _ D=>by
 refine D.F.iO Tg (by walk_at "v") λΖ A aT s H vs Q E hr h=>?_;obtain⟨p,t,m,ps,Y,r,rfl,W,k,e⟩:=h;obtain⟨dx,ob⟩:=W.ob;have g:=W.go;have Ϩ:=g.Ϩ;refine⟨_,(au (bU (Φ ce hr bq (aa (δ 0) (aa (δ 1) ap)))) (au (Χ 2 (aP ub (cM (aa W6 ap)) (dJ (δ 0) rfl))) (au (Χ 3 (cM (aa (δ 1) ap))) (au (xD PassesOwn.leaving (xm (δ 3) (λ_=>rfl)) (au (Χ 4 (uM PySem.F.plainAttrs_list PySem.F.slot_list_pop PySem.F.type_list_pop xU (δ 3))) (au (Χ 5 (Ο bB (δ 2) (δ 4))) (aA (iA PassesOwn.leaving rfl (lB (Φ rA hr bq (aa (δ 0) (aa (δ 4) (aa (δ 5) ap))))) (Zj 6) (au (rj (δ 4) (Di (δ 2) (δ 6) nJ)) (aA (bU (iH PySem.F.plainAttrs_list PySem.F.slot_list_append PySem.F.type_list_append eR (δ 3) (aa (δ 6) ap)))))))))) (aA (bx (δ 2))))))),?_⟩;walk_at "s";walk_at "";refine⟨p,t,m,ps,Y,r,rfl,W,λr0 r1=>?_,e⟩;obtain⟨par,b5,R,k⟩:=k r0 r1;refine⟨by decide,λl1 n1=>?_⟩;have s1:=γ.new (.lst [V.Θ]) n1;refine⟨T.Web,dx,_,s1 _ _ ob,T.iq,T.ϙ,_,rfl,?_⟩;refine⟨l1,m,[V.Θ],rfl,rfl,aq,by lia,by lia,bj (by simp;lia),λb n2=>?_⟩;have X:H b=none:=s1.free n2;rw[El,<-Vy (par:=par)];have s2:=s1.trans (γ.new (.lst (nl m par [])) n2);refine⟨bj (by simp),λa n3=>?_⟩;have U:H a=none:=s2.free n3;have f:a≠b:=λz=>by rw[z,aq]at n3;cases n3
 have s3:=s2.trans (γ.new (.lst [V.int r]) n3);have N:upd (upd (upd H l1 (.lst [V.Θ])) b (.lst (nl m par []))) a (.lst [V.int r]) b=some (.lst (nl m par [])):=by rw[aU f.symm,aq]
 have O:upd (upd (upd H l1 (.lst [V.Θ])) b (.lst (nl m par []))) a (.lst [V.int r]) a=some (.lst [V.int r]):=aq;generalize upd (upd (upd H l1 (.lst [V.Θ])) b (.lst (nl m par []))) a (.lst [V.int r])=H3 at s3 N O ⊢;refine Ix (λn G j=>E5 λ(u ws:ej)(v4 v5 L:Option V)=>n=2*(m.toNat-u.length)+ws.length/\G=[some (.ref p),some (.int r),some (.ref b),some (.ref a),v4,v5,L]/\γ H j/\j b=some (.lst (nl m par u))/\j a=some (.lst (ws.map V.int))/\bY m Y r par u ws) (2*m.toNat+1) ⟨[],[r],_,_,_,rfl,rfl,s3,N,O,bY.start⟩ ?_;rintro n G j NW BB ZS hN ad ⟨u,ws,v4,v5,L,rfl,rfl,s4,h2,Z,J⟩;refine ZS _ _ _ ?_;have kl:=fk (by lia) J.nd J.iS;walk_at "";refine⟨_,.inl ⟨_,Η.of Z,rfl⟩,?_⟩;rcases eS ws with rfl|⟨ws',q,rfl⟩
 .rw[ag (by simp)];rw[J.done R]at h2;exact k b j X s4 h2
 .rw[eT]at J Z hN ad ⊢;rw[aj (by simp)];have hq:q∈ws'++[q]:=aE _ (ax.mpr rfl);have C:=J.at_ r0 r1 hq;have I:=J.step g R r0 r1 (p:=q) (ws':=ws') (g9 q ws');refine⟨NW,λb6 H' z=>?_,?_⟩
  .obtain⟨m',lt,ks',acD,a4,a5,a6,e1,N,O⟩:=ad _ _ z
   first|exact⟨m',lt,ks',acD,a4,a5,a6,e1,N,O⟩|exact⟨m',lt,ks',acD,e1,a4,a5,a6,N,O⟩
  rw[aQ,ba,dB]at Z;refine⟨tyL Z,Tj Z ?_⟩;have s5:γ H (upd j a (.lst (ws'.map V.int))):=s4.put U _;have l:upd j a (.lst (ws'.map V.int)) b=some (.lst (nl m par u)):=by rw[aU f.symm];exact h2
  have y:upd j a (.lst (ws'.map V.int)) a=some (.lst (ws'.map V.int)):=aq;generalize upd j a (.lst (ws'.map V.int))=H5 at s5 l y ⊢;refine ϊ l (jD C.1 (OH C.1 C.2)) ?_;rw[J.front hq];have aC:Pb.front r par q=.Θ\/∃i,Pb.front r par q=.int i:=by
   unfold Pb.front;by_cases c:q=r
   .rw[aj c];exact .inl rfl
   .rw[ag c];exact .inr ⟨_,rfl⟩
  have mk:∀v,v∈eD m Y (Pb.front r par q) q->(0<=v/\v<m)/\v≠r/\par v=q:=λv=>(nQ g R C.1 C.2).mp;refine⟨p,t,m,ps,Y,q,_,rfl,W.same s5,C.1,C.2,aC,λM H6 n6 s6 e6=>⟨M,rfl,⟨_,Η.of e6⟩,?_⟩⟩;generalize eD m Y (Pb.front r par q) q=d at mk e6 I ⊢;have co:H M=none:=s5.free n6;have a9:M≠b:=λz=>by rw[z,l]at n6;cases n6
  have aS:M≠a:=λz=>by rw[z,y]at n6;cases n6
  have a2:=fk (by lia) I.nd I.iS;rw[ao]at a2;have bf:=fk (by lia) I.wnd λw hw=>I.at_ r0 r1 hw;rw[ao]at bf;refine uU (K:=K) (xs:=d.map V.int) (λi G o=>∃L,G=[some (.ref p),some (.int r),some (.ref b),some (.ref a),some (.int q),some (Pb.front r par q),L]/\γ H o/\o M=some (.lst (d.map V.int))/\o b=some (.lst (nl m par (u++d.take i)))/\o a=some (.lst ((ws'++d.take i).map V.int))) ⟨_,rfl,s5.trans s6,e6,by rw[dy,cn];exact s6 _ _ l,by rw[dy,cn];exact s6 _ _ y⟩ (λi G o _ z=>by obtain⟨_,_,_,z,_⟩:=z;exact Η.of z) ?_ ?_
  .rintro i x G o NI BB ZS hI hi ⟨L,rfl,s7,e7,h27,h37⟩;refine ZS _ _ ?_;rw[aY]at hi;obtain⟨v,hv,rfl⟩:=bP.mp hi;obtain⟨vr,_,vp⟩:=mk v (bd hv);have et:d.take (i+1)=d.take i++[v]:=(by rw[bA,hv];rfl);walk_at "";refine⟨b,_,v,v.toNat,rfl,rfl,h27,by unfold ixN;rw[aj vr.1,aj (by rw[qu];lia)],?_⟩;rw[<-vp,Wp vr.1 vr.2,vp,bO,<-et];have S:upd o b (.lst (nl m par (u++d.take (i+1)))) a=some (.lst ((ws'++d.take i).map V.int)):=(by rw[aU f];exact h37);have cp:(ws'++d.take i).length<=100:=by
    rw[ao,bc]
    lia
   refine⟨tyL S,re S (gi (by rw[am];lia)) (hI _ _ ⟨_,rfl,(s7.put X _).put U _,?_,?_,?_⟩)⟩
   .rw[aU aS,aU a9];exact e7
   .rw[aU f.symm,aq]
   .rw[aq,et,<-bO,aQ (l₁:=ws'++d.take i)];rfl
  .rintro BB G o ZS ⟨L,rfl,s7,e7,h27,h37⟩;refine ZS _ _ ?_;rw[am,cj]at h27 h37;refine hN _ _ _ ?_ ⟨_,_,_,_,_,rfl,rfl,s7,h27,h37,I⟩;rw[ao,ao,ao];simp only[aO,cS]
   lia
def Jg(T:Txt K B):Sp:=λe H Q E=>E6 λ(p t:Addr)(m:Int)(f:fx)(c:hD)(r:Int)=>e=[.ref p,.int r]/\π T.Web H p m t f c/\(0<=r->r<m->∃b a,Λ m c r b a/\∀l d,H l=none->γ H d->d l=some (.lst ((mI m c r b a r).map V.int))->(mI m c r b a r).Nodup->(∀v,v∈mI m c r b a r↔0<=v/\v<m)->Q (.ref l) d)/\(¬(0<=r/\r<m)->E (.ref T.NoPlace) none H)
abbrev uJ:Stmt:=top 33
theorem Ut:ε ["web","r","nearer","places","waiting","place","kid"] ["web","r"] (aw uJ):=.of
theorem xn:iD (aw uJ) "reversed":=.of (by kernel_rfl)
theorem TX(T:Txt K B)(hq:bC (ς P w))(pB:Cb P w K B base "ahead" rR ["web","r"] 5 (wQ T))(rA:Cb P w K B base "kids" uI ["web","place","front"] 4 (zJ T)):Ok P w K B base "down" uJ ["web","r"] 6 (Jg T):=λ_ _ D=>by
 refine D.F.iO Ut (by walk_at "v") λΖ A bv s H vs Q E hr h=>?_;obtain⟨p,t,m,ps,rs,r,rfl,W,k,e⟩:=h;have g:=W.go;have Ϩ:=g.Ϩ;refine⟨_,(au (Χ 2 (Φ pB hr bq (aa (δ 0) (aa (δ 1) ap)))) (au (Χ 3 (cM ap)) (au (Χ 4 (cM (aa (δ 1) ap))) (au (xD PassesOwn.leaving (xm (δ 4) (λ_=>rfl)) (au (Χ 5 (uM PySem.F.plainAttrs_list PySem.F.slot_list_pop PySem.F.type_list_pop xU (δ 4))) (au (bU (iH PySem.F.plainAttrs_list PySem.F.slot_list_append PySem.F.type_list_append eR (δ 3) (aa (δ 5) ap))) (aA (iA PassesOwn.leaving rfl (PL xn.g T.reversed (Φ rA hr bq (aa (δ 0) (aa (δ 5) (aa (Ο bB (δ 2) (δ 5)) ap))))) (Zj 6) (aA (bU (iH PySem.F.plainAttrs_list PySem.F.slot_list_append PySem.F.type_list_append eR (δ 4) (aa (δ 6) ap))))))))) (aA (bx (δ 3))))))),?_⟩;walk_at "s";walk_at "";refine⟨p,t,m,ps,rs,r,rfl,W,λr0 r1=>?_,e⟩;obtain⟨a,G,R,k⟩:=k r0 r1;refine⟨a,G,R,λu H1 n1 s1 e1=>⟨by decide,λb n3=>⟨bj (by simp),λd M=>?_⟩⟩⟩;have ar:H b=none:=s1.free n3;have s3:=s1.trans (γ.new (.lst []) n3);have a0:H d=none:=s3.free M;have bM:u≠b:=λz=>by rw[<-z,e1]at n3;cases n3
 have o:b≠d:=λz=>by rw[<-z,aq]at M;cases M
 have af:=γ.new (.lst []) n3 _ _ e1;have ai:u≠d:=λz=>by rw[<-z,af]at M;cases M
 have s4:=s3.trans (γ.new (.lst [V.int r]) M);have aC:=γ.new (.lst [V.int r]) M _ _ af;have a2:upd (upd H1 b (.lst [])) d (.lst [V.int r]) b=some (.lst []):=by rw[aU o,aq]
 have a3:upd (upd H1 b (.lst [])) d (.lst [V.int r]) d=some (.lst [V.int r]):=aq;generalize upd (upd H1 b (.lst [])) d (.lst [V.int r])=H4 at s4 aC a2 a3 ⊢;refine Ix (λn Z l=>E5 λ(I Y j:ej)(v5 v6:Option V)=>n=2*(m.toNat-I.length)+Y.length/\Z=[some (.ref p),some (.int r),some (.ref u),some (.ref b),some (.ref d),v5,v6]/\γ H l/\l u=some (.lst (qK m r a))/\l b=some (.lst (j.map V.int))/\l d=some (.lst (Y.map V.int))/\bY m rs r a I Y/\(j++Y).Perm (r::I)/\j++Y.reverse.flatMap (mI m rs r a G)=mI m rs r a G r) (2*m.toNat+1) ⟨[],[r],[],_,_,rfl,rfl,s4,aC,a2,a3,bY.start,List.Perm.refl _,by simp⟩ ?_;rintro n Z l NW BB ZS hN a4 ⟨I,Y,j,v5,v6,rfl,rfl,s5,h1,h3,h4,J,U,ep⟩;refine ZS _ _ _ ?_;have rk:∀w∈r::I,0<=w/\w<m:=λw hw=>by
  rcases az.mp hw with rfl|z
  .exact⟨r0,r1⟩
  .exact J.iS w z
 have nk:(r::I).Nodup:=bn.mpr ⟨J.nr,J.nd⟩;have kl:=fk (m:=m) (by lia) nk rk;have cB:=fk (m:=m) (by lia) J.nd J.iS;have L:=U.length_eq;rw[ao]at L;rw[aO]at kl L;walk_at "";refine⟨_,.inl ⟨_,Η.of h4,rfl⟩,?_⟩;rcases eS Y with rfl|⟨ws',q,rfl⟩
 .rw[ag (by simp)];rw[List.reverse_nil,List.flatMap_nil,cn]at ep;rw[cn]at U;subst ep;refine k b l ar s5 h3 (U.nodup_iff.mpr nk) λv=>⟨λz=>rk v (U.mem_iff.mp z),λz=>U.mem_iff.mpr ?_⟩;by_cases c:v=r
  .rw[c];exact aR
  .exact aK _ (J.all R v z.1 z.2 c)
 .rw[eT]at J h4 hN a4 U ep L ⊢;rw[aj (by simp)];have hq:q∈ws'++[q]:=aE _ (ax.mpr rfl);have X:=J.at_ r0 r1 hq;have J2:=J.step g R r0 r1 (p:=q) (ws':=ws') (g9 q ws');refine⟨NW,λcu H' z=>?_,?_⟩
  .obtain⟨m',lt,ks',acD,pl',a5,a6,z1,z2⟩:=a4 _ _ z
   first|exact⟨m',lt,ks',acD,pl',a5,a6,z1,z2⟩|exact⟨m',lt,ks',acD,z1,pl',a5,a6,z2⟩
  rw[aQ,ba,dB]at h4;refine⟨tyL h4,Tj h4 ?_⟩;have s6:γ H (upd l d (.lst (ws'.map V.int))):=s5.put a0 _;have O:upd l d (.lst (ws'.map V.int)) b=some (.lst (j.map V.int)):=by rw[aU o];exact h3
  have a1:upd l d (.lst (ws'.map V.int)) u=some (.lst (qK m r a)):=by rw[aU ai];exact h1
  have an:upd l d (.lst (ws'.map V.int)) d=some (.lst (ws'.map V.int)):=aq;generalize upd l d (.lst (ws'.map V.int))=H6 at s6 O a1 an ⊢;refine⟨tyL O,re O (gi (by rw[am];lia)) ?_⟩;have s7:γ H (upd H6 b (.lst (j.map V.int++[V.int q]))):=s6.put ar _;have S:upd H6 b (.lst (j.map V.int++[V.int q])) b=some (.lst ((j++[q]).map V.int)):=by rw[aq,aQ];rfl
  have y:upd H6 b (.lst (j.map V.int++[V.int q])) u=some (.lst (qK m r a)):=by rw[aU bM];exact a1
  have N:upd H6 b (.lst (j.map V.int++[V.int q])) d=some (.lst (ws'.map V.int)):=by rw[aU o.symm];exact an
  generalize upd H6 b (.lst (j.map V.int++[V.int q]))=H7 at s7 S y N ⊢;refine ϊ y (jD X.1 (EL X.1 X.2)) ?_;have bm:Pb.front r a q=.Θ\/∃i,Pb.front r a q=.int i:=by
   unfold Pb.front;by_cases c:q=r
   .rw[aj c];exact .inl rfl
   .rw[ag c];exact .inr ⟨_,rfl⟩
  have pq:=Bq g R X.1 X.2;refine⟨p,t,m,ps,rs,q,_,rfl,W.same s7,X.1,X.2,bm,λl8 H8 n8 s8 e8=>⟨l8,rfl,_,Η.of e8,?_⟩⟩;generalize eD m rs (Pb.front r a q) q=f at e8 J2 pq ⊢;have cT:u≠l8:=λz=>by rw[<-z,y]at n8;cases n8
  have cw:b≠l8:=λz=>by rw[<-z,S]at n8;cases n8
  have b0:d≠l8:=λz=>by rw[<-z,N]at n8;cases n8
  have bw:=fk (m:=m) (by lia) J2.nd J2.iS;rw[ao]at bw;have bS:=fk (m:=m) (by lia) J2.wnd λw hw=>J2.at_ r0 r1 hw;rw[ao]at bS;refine SA (K:=K) (xs:=f.map V.int) (λi Z C=>∃v6,Z=[some (.ref p),some (.int r),some (.ref u),some (.ref b),some (.ref d),some (.int q),v6]/\γ H C/\C l8=some (.lst (f.map V.int))/\C u=some (.lst (qK m r a))/\C b=some (.lst ((j++[q]).map V.int))/\C d=some (.lst ((ws'++f.reverse.take i).map V.int))) ⟨_,rfl,s7.trans s8,e8,s8 _ _ y,s8 _ _ S,by rw[dy,cn];exact s8 _ _ N⟩ (λi Z C _ z=>by obtain⟨_,_,_,z,_⟩:=z;exact Η.of z) ?_ ?_
  .rintro i x Z C NI hI hi ⟨v6,rfl,s9,e9,h19,h39,h49⟩;rw[<-List.map_reverse,aY]at hi;obtain⟨v,hv,rfl⟩:=bP.mp hi;have et:f.reverse.take (i+1)=f.reverse.take i++[v]:=(by rw[bA,hv];rfl);have c2:(ws'++f.reverse.take i).length<=100:=by
    rw[ao,bc,cJ]
    lia
   walk_at "";refine⟨tyL h49,re h49 (gi (by rw[am];lia)) (hI _ _ ⟨_,rfl,s9.put a0 _,?_,?_,?_,?_⟩)⟩
   .rw[aU b0.symm];exact e9
   .rw[aU ai];exact h19
   .rw[aU o];exact h39
   .rw[aq,et,<-bO,aQ (l₁:=ws'++f.reverse.take i)];rfl
  .rintro Z C ⟨v6,rfl,s9,e9,h19,h39,h49⟩;rw[am,show f.length=f.reverse.length by rw[cJ],cj]at h49;refine hN _ _ _ ?_ ⟨I++f,ws'++f.reverse,j++[q],_,_,rfl,rfl,s9,h19,h39,h49,J2.perm (jM _ f.reverse_perm.symm),?_,?_⟩
   .rw[ao,ao,ao,cJ];simp only[aO,cS]
    lia
   .have p1:(j++[q]++(ws'++f.reverse)).Perm (j++(ws'++[q])++f):=by
     rw[bO,bO];refine jM _ ?_;rw[<-bO];exact List.Perm.append (List.perm_append_comm) f.reverse_perm
    exact p1.trans (List.Perm.append_right _ U)
   .rw[<-ep,j8,j8,List.reverse_reverse,List.reverse_singleton,List.singleton_append,cX,pq,kJ];simp
def Lz(a:ek)(v:Int):List V:=[.int v,.int (a v)]
abbrev Ρ(H:Hp)(a:ek):List Addr->List Int->Prop:=Paired λq v=>H q=some (.tup (Lz a v))
theorem Ρ.same{H d:Hp}{a:ek}{c:fx}{b:ej}(e:γ H d)(h:Ρ H a c b):Ρ d a c b:=Paired.imp' (λq v x=>e q _ x) h
theorem Ρ.get{H:Hp}{c:ek}:∀{d:fx}{f:ej}{i:Nat}{x:V},Ρ H c d f->(d.map V.ref)[i]?=some x->∃p r,x=.ref p/\d[i]?=some p/\f[i]?=some r/\H p=some (.tup (Lz c r))
 | _,_,i,x,.nil,e=>by simp at e
 | _,_,0,x,.cons (a:=p) (b:=r) h hs,e=>⟨p,r,by simpa using e.symm,by simp,by simp,h⟩
 | a::l1,_,i+1,x,.cons h hs,e=>by
   have j:(List.map V.ref l1)[i]?=some x:=by simpa using e
   obtain⟨p,r,m,l,k,g⟩:=Ρ.get hs j;exact⟨p,r,m,by simpa using l,by simpa using k,g⟩
theorem Ρ.snoc{H:Hp}{a:ek}{q:Addr}{v:Int}(e:H q=some (.tup (Lz a v))):∀{c:fx}{b:ej},Ρ H a c b->Ρ H a (c++[q]) (b++[v])
 | _,_,.nil=>.cons e .nil
 | _,_,.cons x xs=>.cons x (Ρ.snoc e xs)
def qd(T:Txt K B):Sp:=λg H Q E=>E6 λ(p t:Addr)(m:Int)(h:fx)(d:hD)(r:Int)=>g=[.ref p,.int r]/\π T.Web H p m t h d/\(0<=r->r<m->∃a b,Λ m d r a b/\∀l f e c,mI m d r a b r=r::e->H l=none->γ H c->c l=some (.lst (f.map V.ref))->Ρ c a f e.reverse->Order m r a e->Q (.ref l) c)/\(¬(0<=r/\r<m)->E (.ref T.NoPlace) none H)
abbrev lw:Stmt:=top 35
theorem Br:ε ["web","r","nearer"] ["web","r"] (aw lw):=.of
theorem xy:NmC (aw lw) "nearer":=.of (by kernel_rfl)
theorem uv:iD (aw lw) "reversed":=.of (by kernel_rfl)
theorem O9(T:Txt K B)(hq:bC (ς P w))(pB:Cb P w K B base "ahead" rR ["web","r"] 5 (wQ T))(Ec:Cb P w K B base "down" uJ ["web","r"] 6 (Jg T)):Ok P w K B base "inward" lw ["web","r"] 7 (qd T):=λ_ _ D=>by
 refine D.F.iO Br (by walk_at "v") λΖ A Y s H vs Q E hr h=>?_;obtain⟨p,t,m,ps,rs,r,rfl,W,k,e⟩:=h;have g:=W.go;have Ϩ:=g.Ϩ;refine⟨_,(au (yP (i:=2) Br.nd rfl (Or.inr xy.l) (Φ pB hr bq (aa (δ 0) (aa (pvn 1) ap)))) (aA (bx (py rfl (clo ["place","nearer","r"] 1 [2,1]) (PL uv.g T.reversed (Φ Ec hr bq (aa (δ 0) (aa (pvn 1) ap)))) (λ_ _ _ _=>(jB (i:=0) (show(["place","nearer","r"]:gy).Nodup from by decide +kernel) rfl (Or.inl rfl))) (λ_ _ _ _=>(IR (ϧ o8 (pv 0) (pv 2)))) (λ_ _ _ _=>(dL (aa (pv 0) (aa (Ο (QY K rfl) (pv 1) (pv 0)) ap)))))))),?_⟩;walk_at "s";walk_at "";refine⟨p,t,m,ps,rs,r,?_⟩;refine an4 rfl W (λJ L=>?_) e;obtain⟨d,G,R,k⟩:=k J L;refine⟨d,G,R,λl1 H1 n1 s1 e1=>?_⟩;refine⟨p,t,m,ps,rs,r,?_⟩;refine an4 rfl (W.same s1) (λ_ _=>⟨d,G,R,λl2 H2 n2 s2 e2 nd al=>?_⟩) (λz=>absurd ⟨J,L⟩ z);obtain⟨j,et,O⟩:=Lq g R J L nd al;have ll:=RY g R J L;rw[et]at e2 ll;rw[aO]at ll;refine⟨l2,rfl,_,Η.of e2,λS o=>?_⟩;have U:=s2 _ _ e1;have Y9:=s1.trans s2;have ad:=Y9.free o;refine RV (K:=K) (xs:=(r::j).map V.int) (λi C M n=>γ H2 n/\n S=some (.lst C)/\(∃f:List Addr,C=f.map V.ref/\Ρ n d f (j.reverse.take i))/\∃v,M=[v,some (V.ref l1),some (V.int r)]) ⟨γ.new _ o,aq,⟨[],rfl,.nil⟩,_,rfl⟩ (λi C M n _ z=>Η.of (z.1 _ _ e2)) ?_ ?_
 .rintro i x C M n N hN hx ⟨s3,e3,⟨f,rfl,pa⟩,v,rfl⟩;rw[<-List.map_reverse,List.reverse_cons,aY]at hx;obtain⟨y,u,rfl⟩:=bP.mp hx;have il:=(aH.mp u).1;rw[ao,cJ]at il;have ql:f.length=(j.reverse.take i).length:=Paired.length pa;rw[bc,cJ]at ql;walk_at "";by_cases c:i<j.length
  .rw[d6 (by rw[cJ];exact c)]at u;have X:y∈j:=List.mem_reverse.mp (bd u);have yr:=O.iS y X;rw[aj (O.ne X)];have gp:ZE (qK m r d) y=some (V.int (d y)):=by
    have ef:Pb.front r d y=V.int (d y):=(by unfold Pb.front;rw[ag (O.ne X)]);rw[<-ef];exact jD yr.1 (EL yr.1 yr.2)
   refine ϊ (s3 _ _ U) gp ⟨bj (by simp),λq I=>?_⟩;have s4:=γ.new (.tup [V.int y,V.int (d y)]) I;have Z:q≠S:=λz=>by rw[z,e3]at I;cases I
   refine⟨s4 _ _ e3,gi (by rw[am];lia),hN _ _ _ ⟨(s3.trans s4).put o _,aq,⟨f++[q],by rw[aQ];rfl,?_⟩,_,rfl⟩⟩;rw[bA,u];refine Ρ.snoc (by rw[aU Z,aq];rfl) ?_;exact Paired.imp' (λa b h=>by
    rw[aU (fm h e3 (by intro z;cases z)),aU (cC h I)];exact h) pa
  .have ei:i=j.reverse.length:=(by rw[cJ];simp at il;lia);rw[ei,cL (aB _),iK]at u;cases u;rw[ag (λz=>z rfl)];refine hN _ _ _ ⟨s3,e3,⟨f,rfl,?_⟩,_,rfl⟩;rw[b9 (by lia)]at pa ⊢;exact pa
 .rintro C M n ⟨s3,e3,⟨f,rfl,pa⟩,v,rfl⟩;rw[b9 (by rw[am,cJ,aO];lia)]at pa;exact k S f j n et ad (Y9.trans s3) e3 pa O
def qU(T:Txt K B):Sp:=λe H Q E=>E9 λ(p a t:Addr)(c:Bool)(m:Int)(g:fx)(f:hD)(b:ej)(r:Int)=>e=[.ref p,.ref a,.int r]/\π T.Web H p m t g f/\bV K c H a (b.map V.int)/\b.length<=1000/\bG m b=true/\¬(0<=r/\r<m)/\∀d,γ H d->E (.ref T.NoPlace) none d
abbrev mT:Stmt:=top 66
theorem Ig:ε ["web","laying","r","counts","place","front"] ["web","laying","r"] (aw mT):=.of
abbrev lj(P w base)(T:Txt K B):=Cb P w K B base "inward" lw ["web","r"] 7 (qd T)
theorem Ih(T:Txt K B)(N:bC (ς P w))(C:lj P w base T)(o:iv P w base T):Ok P w K B base "gathered" mT ["web","laying","r"] 8 (qU T):=λ_ _ D=>by
 refine D.F.iO Ig (by walk_at "v") λJ A d s H L Q E g h=>?_;obtain⟨p,a,t,c,m,j,k,i,r,rfl,W,y,v,fi,I,e⟩:=h;refine⟨_,(au (Χ 3 (ZF nC T.list (aa (Φ o g bq (aa (δ 0) (aa (δ 1) ap))) ap))) (au (iA PassesOwn.leaving rfl (lB (Φ C g bq (aa (δ 0) (aa (δ 2) ap)))) (mV (n:=2) rfl (dH (Zj 4) (dH (Zj 5) lJ))) (aA cr)) (aA cr))),?_⟩;walk_at "s";walk_at "";refine⟨p,a,t,c,m,j,k,i,rfl,W,y,v,λ_ x M G _ q=>?_,λz=>by rw[fi]at z;cases z⟩;refine⟨x,rfl,_,.inr q,λl u=>?_⟩;have f:=G.trans (γ.new (.lst (i.map V.int)) u);exact⟨p,t,m,j,k,r,rfl,W.same f,λa b=>absurd ⟨a,b⟩ I,λ_=>e _ f⟩
def GD(T:Txt K B):Sp:=λe H Q E=>E9 λ(p a t:Addr)(c:Bool)(m:Int)(g:fx)(f:hD)(b:ej)(r:Int)=>e=[.ref p,.ref a,.int r]/\π T.Web H p m t g f/\bV K c H a (b.map V.int)/\b.length<=1000/\bG m b=true/\¬(0<=r/\r<m)/\∀d,γ H d->E (.ref T.NoPlace) none d
abbrev vA:Stmt:=top 68
theorem RX:ε ["web","laying","r","counts","steps","place","front","times"] ["web","laying","r"] (aw vA):=.of
abbrev lr(P w base)(T:Txt K B):=Cb P w K B base "gathered" mT ["web","laying","r"] 8 (qU T)
theorem SI(T:Txt K B)(l:bC (ς P w))(g:lr P w base T):Ok P w K B base "bring" vA ["web","laying","r"] 9 (GD T):=λ_ _ D=>by
 refine D.F.iO RX (by walk_at "v") λj A b s H k Q E d h=>?_;obtain⟨p,a,t,c,m,f,i,e,r,rfl,h⟩:=h;refine⟨_,(au (Χ 3 (Φ g d bq (aa (δ 0) (aa (δ 1) (aa (δ 2) ap))))) (au cr (au cr (aA cr)))),?_⟩;walk_at "s";walk_at "";exact⟨p,a,t,c,m,f,i,e,r,rfl,h⟩
def EG(T:Txt K B):Sp:=λb H Q _=>∃(p:Addr)(a:ej),b=[.ref p]/\(Η K H p (a.map V.int)\/Ξ K H p (a.map V.int))/\Q (.int a.sum) H
abbrev vC:Stmt:=top 28
theorem RM:ε ["numbers"] ["numbers"] (aw vC):=.of
theorem SM(T:Txt K B)(e:bC (ς P w)):Ok P w K B base "total" vC ["numbers"] 1 (EG T):=λ_ _ D=>by
 refine D.F.Ac RM (by walk_at "v") λf A a s H d Q E g h=>?_;obtain⟨p,b,rfl,c,k⟩:=h;refine⟨_,(aA (bx (pcb (Q8 rfl) T.sum (aa (δ 0) ap)))),?_⟩;walk_at "s";walk_at "";exact⟨b,c,k⟩
def xR(T:Txt K B):Sp:=λe H Q E=>E8 λ(p a t:Addr)(c:Bool)(m:Int)(g:fx)(f:hD)(b:ej)=>e=[.ref p,.ref a]/\π T.Web H p m t g f/\bV K c H a (b.map V.int)/\b.length<=1000/\(bG m b=true->∀d,γ H d->Q (.bl (decide (b.sum=0))) d)/\(bG m b=false->∀d,γ H d->E (.ref T.BadWish) none d)
abbrev qo:Stmt:=top 57
theorem JM:ε ["web","wish"] ["web","wish"] (aw qo):=.of
theorem Ki(T:Txt K B)(C:bC (ς P w))(v:Cb P w K B base "total" vC ["numbers"] 1 (EG T))(r:jU P w base T):Ok P w K B base "is_idle" qo ["web","wish"] 3 (xR T):=λ_ _ D=>by
 refine D.F.iO JM (by walk_at "v") λx A d s H y Q E f h=>?_;obtain⟨p,a,t,c,m,n,q,b,rfl,W,u,j,k,e⟩:=h;refine⟨_,(aA (bx (lP cY (Φ v f bq (aa (Φ r f bq (aa (δ 0) (aa (δ 1) ap))) ap)) ay (mf _)))),?_⟩;walk_at "s";walk_at "";refine⟨p,a,t,c,m,n,q,b,rfl,W,u,j,λfi l o g _ i=>?_,e⟩;refine⟨l,_,rfl,.inr i,?_⟩;refine⟨rfl,?_⟩;rw[show decide (V.int b.sum=V.int 0)=decide (b.sum=0) by by_cases z:b.sum=0<;>simp[z]];exact k fi o g
def E1(T:Txt K B):Sp:=λe H Q E=>E8 λ(p a t:Addr)(c:Bool)(m:Int)(g:fx)(f:hD)(b:ej)=>e=[.ref p,.ref a]/\π T.Web H p m t g f/\bV K c H a (b.map V.int)/\b.length<=1000/\bG m b=true/\b.sum=0/\∀d,γ H d->E (.ref T.NoWorst) none d
abbrev rG:Stmt:=top 56
theorem QA:ε ["web","wish","wanted_at"] ["web","wish"] (aw rG):=.of
theorem pZ:iD (aw rG) "NoWorst":=.of (by kernel_rfl)
theorem Qb(T:Txt K B)(y:bC (ς P w))(i:Cb P w K B base "is_idle" qo ["web","wish"] 3 (xR T)):Ok P w K B base "fails" rG ["web","wish"] 4 (E1 T):=λ_ _ D=>by
 refine D.F.iO QA (by walk_at "v") λv A b s H x Q E j h=>?_;obtain⟨p,a,t,c,m,n,r,l,rfl,W,u,k,fi,z,e⟩:=h;refine⟨_,(au (cf (nj (Φ i j bq (aa (δ 0) (aa (pvn 1) ap)))) (aA (mG T.uT rfl nW pZ.g T.Bg (aa aM ap) (hdb:=pZ.d))) bK) (au cr (aA cr))),?_⟩;walk_at "s";walk_at "";refine⟨p,a,t,c,m,n,r,l,rfl,W,u,k,λ_ o f=>⟨_,rfl,?_⟩,λq=>by rw[fi]at q;cases q⟩;rw[aj (by simpa using z)];exact⟨by decide,e o f⟩
def Jh(T:Txt K B):Sp:=λe H Q E=>E9 λ(p a t:Addr)(c:Bool)(m:Int)(g:fx)(f:hD)(b:ej)(r:Int)=>e=[.ref p,.ref a,.int r]/\π T.Web H p m t g f/\bV K c H a (b.map V.int)/\b.length<=1000/\bG m b=true/\¬(0<=r/\r<m)/\∀d,γ H d->E (.ref T.NoPlace) none d
abbrev xY:Stmt:=top 67
theorem Uf:ε ["web","laying","r"] ["web","laying","r"] (aw xY):=.of
theorem UA(T:Txt K B)(l:bC (ς P w))(g:lr P w base T):Ok P w K B base "most" xY ["web","laying","r"] 9 (Jh T):=λ_ _ D=>by
 refine D.F.iO Uf (by walk_at "v") λj A b s H k Q E d h=>?_;obtain⟨p,a,t,c,m,f,i,e,r,rfl,h⟩:=h;refine⟨_,(aA (bx (o9 bB (Φ g d bq (aa (δ 0) (aa (δ 1) (aa (δ 2) ap)))) (δ 2) (λ_ _=>rfl)))),?_⟩;walk_at "s";walk_at "";exact⟨p,a,t,c,m,f,i,e,r,rfl,h⟩
def nS(T:Txt K B):Sp:=λ_ _ _ _=>False
abbrev j9:Stmt:=top 84
theorem zN:ε ["number","pieces"] ["number"] (aw j9):=.of
theorem Aq(T:Txt K B)(a:bC (ς P w)):Ok P w K B base "number_text" j9 ["number"] 1 (nS T):=λ_ _ D=>D.F.Ac zN (λ_ _ _ _ h=>h.elim) λ_ _ _ _ _ _ _ _ _ h=>h.elim
def nz(T:Txt K B):Sp:=λ_ _ _ _=>False
abbrev jC:Stmt:=top 85
theorem yN:ε ["numbers"] ["numbers"] (aw jC):=.of
theorem yY(T:Txt K B)(a:bC (ς P w)):Ok P w K B base "numbers_text" jC ["numbers"] 1 (nz T):=λ_ _ D=>D.F.Ac yN (λ_ _ _ _ h=>h.elim) λ_ _ _ _ _ _ _ _ _ h=>h.elim
def uG(T:Txt K B):Sp:=λh H Q E=>E12 λ(p a b t:Addr)(c d:Bool)(m:Int)(j:fx)(i:hD)(e f:ej)(r:Int)=>h=[.ref p,.ref a,.ref b,.int r]/\π T.Web H p m t j i/\bV K c H a (e.map V.int)/\e.length<=1000/\bV K d H b (f.map V.int)/\f.length<=1000/\bG m e=true/\bG m f=true/\¬(0<=r/\r<m)/\∀g,γ H g->E (.ref T.NoPlace) none g
abbrev hJ:Stmt:=top 45
theorem nA:ε ["web","laying","wish","r","has","wanted","over","place","front"] ["web","laying","wish","r"] (aw hJ):=.of
theorem wH:NmC (aw hJ) "has":=.of (by kernel_rfl)
theorem tI:NmC (aw hJ) "wanted":=.of (by kernel_rfl)
theorem vN:NmL (aw hJ) "over":=.of (by kernel_rfl)
theorem uz:iD (aw hJ) "range":=.of (by kernel_rfl)
theorem Dj(T:Txt K B)(hq:bC (ς P w))(jY:lj P w base T)(M:iv P w base T)(iY:jU P w base T):Ok P w K B base "standings" hJ ["web","laying","wish","r"] 8 (uG T):=λ_ _ D=>by
 refine D.F.iO nA (by walk_at "v") λΖ A C s H vs Q E q h=>?_;obtain⟨p,a,b,t,c,d,m,u,y,Y,O,r,rfl,W,ha,X,hb,Z,fi,J,nr,e⟩:=h;have g:=W.go;have m1:=g.m1;have Ϩ:=g.Ϩ;refine⟨_,(au (yP (i:=4) nA.nd rfl (Or.inr wH.l) (Φ M q bq (aa (δ 0) (aa (δ 1) ap)))) (au (yP (i:=5) nA.nd rfl (Or.inr tI.l) (Φ iY q bq (aa (δ 0) (aa (δ 2) ap)))) (au (Lx (i:=6) nA.nd rfl vN.l rfl (clo ["place","has","wanted"] 1 [4,5]) (qG uz.g T.range (aa (dJ (δ 0) rfl) ap)) (λ_ _ _ _=>(jB (i:=0) (show(["place","has","wanted"]:gy).Nodup from by decide +kernel) rfl (Or.inl rfl))) (λ_ _ _ _=>nV) (λ_ _ _ _=>(aP C9 (Ο (Jd K rfl) (pv 1) (pv 0)) (Ο (Jd K rfl) (pv 2) (pv 0))))) (au (iA PassesOwn.leaving rfl (lB (Φ jY q bq (aa (δ 0) (aa (δ 3) ap)))) (mV (n:=2) rfl (dH (Zj 7) (dH (Zj 8) lJ))) (aA cr)) (aA cr))))),?_⟩;walk_at "s";walk_at "";refine⟨p,a,t,c,m,u,y,Y,rfl,W,ha,X,λ_ R H1 k _ ea=>?_,λz=>by rw[fi]at z;cases z⟩;refine⟨p,b,t,d,m,u,y,O,rfl,W.same k,γ.sqX k hb,Z,λ_ U H2 L _ S=>?_,λz=>by rw[J]at z;cases z⟩;have xl:=gd fi;have yl:=gd J;have x:=k.trans L;obtain⟨dx,ob⟩:=(W.same x).ob;refine⟨T.Web,dx,_,ob,T.iq,T.ϙ,_,gc m t,m,rfl,by lia,by lia,λlo I=>?_⟩;have o:=γ.tup L ea;refine yL (λi f G j=>γ H2 j/\j lo=some (.lst f)/\f.length=i/\∃v,G=[v,some (V.ref R),some (V.ref U)]) ⟨γ.new _ I,aq,rfl,_,rfl⟩ ?_ ?_
 .rintro i f G j N hN hi ⟨s3,e3,zl,v,rfl⟩;rw[ly];walk_at "";exact Tk (γ.tup s3 o) (atG (by lia) (by lia)) (Tk (γ.tup s3 S) (atG (by lia) (by lia)) ⟨_,rfl,_,rfl,e3,gi (by lia),hN _ _ _ ⟨s3.put I _,aq,by rw[ao,zl];rfl,_,rfl⟩⟩)
 .rintro f G j ⟨s3,_,_,v,rfl⟩;exact⟨p,t,m,u,y,r,rfl,W.same (x.trans s3),λa b=>absurd ⟨a,b⟩ nr,λ_=>e _ (x.trans s3)⟩
def ww(T:Txt K B):Sp:=λh H Q E=>E12 λ(p a b t:Addr)(c d:Bool)(m:Int)(j:fx)(i:hD)(e f:ej)(r:Int)=>h=[.ref p,.ref a,.ref b,.int r]/\π T.Web H p m t j i/\bV K c H a (e.map V.int)/\e.length<=1000/\bV K d H b (f.map V.int)/\f.length<=1000/\bG m e=true/\bG m f=true/\¬(0<=r/\r<m)/\∀g,γ H g->E (.ref T.NoPlace) none g
abbrev pb:Stmt:=top 47
theorem Ie:ε ["web","laying","wish","r"] ["web","laying","wish","r"] (aw pb):=.of
theorem Ii(T:Txt K B)(q:bC (ς P w))(l:Cb P w K B base "standings" hJ ["web","laying","wish","r"] 8 (uG T)):Ok P w K B base "standing" pb ["web","laying","wish","r"] 9 (ww T):=λ_ _ D=>by
 refine D.F.iO Ie (by walk_at "v") λn A e s H o Q E g h=>?_;obtain⟨p,a,b,t,c,d,m,j,k,i,f,r,rfl,h⟩:=h;refine⟨_,(aA (bx (o9 bB (Φ l g bq (aa (δ 0) (aa (δ 1) (aa (δ 2) (aa (δ 3) ap))))) (δ 3) (λ_ _=>rfl)))),?_⟩;walk_at "s";walk_at "";exact⟨p,a,b,t,c,d,m,j,k,i,f,r,rfl,h⟩
def pI(T:Txt K B):Sp:=λ_ _ _ _=>False
abbrev kF:Stmt:=top 112
theorem xa:ε ["number"] ["number"] (aw kF):=.of
theorem wS(T:Txt K B)(a:bC (ς P w)):Ok P w K B base "standing_text" kF ["number"] 1 (pI T):=λ_ _ D=>D.F.Ac xa (λ_ _ _ _ h=>h.elim) λ_ _ _ _ _ _ _ _ _ h=>h.elim
def tz(T:Txt K B):Sp:=λ_ _ _ _=>False
abbrev nh:Stmt:=top 86
theorem CB:ε ["steps"] ["steps"] (aw nh):=.of
theorem Cu(T:Txt K B)(a:bC (ς P w)):Ok P w K B base "steps_text" nh ["steps"] 1 (tz T):=λ_ _ D=>D.F.Ac CB (λ_ _ _ _ h=>h.elim) λ_ _ _ _ _ _ _ _ _ h=>h.elim
def kK(T:Txt K B):Sp:=λa H Q E=>E7 λ(p t:Addr)(m:Int)(c:fx)(b:hD)(r x:Int)=>a=[.ref p,.int r,.int x]/\π T.Web H p m t c b/\(0<=r->r<m->1<=x->Q .Θ H)/\(¬(0<=r/\r<m)->E (.ref T.NoPlace) none H)/\(0<=r->r<m->x<1->E (.ref T.BadWish) none H)
abbrev f7:Stmt:=top 72
theorem yK:ε ["web","r","wanted"] ["web","r","wanted"] (aw f7):=.of
theorem lS:iD (aw f7) "BadWish":=.of (by kernel_rfl)
theorem yt(T:Txt K B)(u:bC (ς P w))(n:hY P w base T):Ok P w K B base "check_wanted" f7 ["web","r","wanted"] 3 (kK T):=λ_ _ D=>by
 refine D.F.iO yK (by walk_at "v") λo A a s H q Q E i h=>?_;obtain⟨p,t,m,j,l,r,x,rfl,W,k,e,f⟩:=h;refine⟨_,(au (bU (Φ n i bq (aa (δ 0) (aa (δ 1) ap)))) (aA (cf (ϧ No (δ 2) ay) (aA (mG T.qA rfl nW lS.g T.uH (aa aM ap) (hdb:=lS.d))) bK))),?_⟩;walk_at "s";walk_at "";refine⟨p,t,m,j,l,r,rfl,W,λb c=>?_,e⟩;show if x<1 then _ else _;by_cases z:x<1
 .rw[aj z];exact⟨by decide,f b c z⟩
 .rw[ag z];exact k b c (by lia)
def wg(T:Txt K B):Sp:=λa H Q E=>E8 λ(p b t:Addr)(m:Int)(d:fx)(c:hD)(r w:Int)=>a=[.ref p,.int r,.int w,.ref b]/\π T.Web H p m t d c/\0<=r/\r<m/\w<1/\E (.ref T.BadWish) none H
abbrev ph:Stmt:=top 71
theorem Hr:ε ["web","r","wanted","weights","bound","place","front"] ["web","r","wanted","weights"] (aw ph):=.of
abbrev mY(P w base)(T:Txt K B):=Cb P w K B base "check_wanted" f7 ["web","r","wanted"] 3 (kK T)
theorem Hi(T:Txt K B)(o:bC (ς P w))(c:mY P w base T):Ok P w K B base "bound_by" ph ["web","r","wanted","weights"] 4 (wg T):=λ_ _ D=>by
 refine D.F.iO Hr (by walk_at "v") λk A a s H l Q E d h=>?_;obtain⟨p,b,t,m,f,g,r,w,rfl,W,i,j,n,e⟩:=h;refine⟨_,(au (bU (Φ c d bq (aa (δ 0) (aa (δ 1) (aa (δ 2) ap))))) (au cr (au cr (aA cr)))),?_⟩;walk_at "s";walk_at "";exact⟨p,t,m,f,g,r,w,rfl,W,λ_ _ z=>absurd z (by lia),λz=>absurd ⟨i,j⟩ z,λ_ _ _=>e⟩
def Ev(T:Txt K B):Sp:=λe H Q _=>E11 λ(p b t:Addr)(c:Bool)(m:Int)(f:fx)(d:hD)(a:ej)(v u k:Int)=>e=[.ref p,.ref b,.int v,.int u]/\π T.Web H p m t f d/\bV K c H b (a.map V.int)/\(0<=v/\v<m/\v<a.length)/\(0<=u/\u<m)/\fE d v u=some k/\k<=1000000/\2<=k/\Q (.int (a.getD v.toNat 0*k)) H
abbrev vm:Stmt:=top 70
theorem Sa:ε ["web","weights","place","front"] ["web","weights","place","front"] (aw vm):=.of
theorem QN(T:Txt K B)(I:bC (ς P w))(g:Cb P w K B base "toll" rN ["web","a","b"] 3 (Au T)):Ok P w K B base "borne" vm ["web","weights","place","front"] 4 (Ev T):=λ_ _ D=>by
 refine D.F.iO Sa (by walk_at "v") λo A d s H x Q E f h=>?_;obtain⟨p,b,t,c,m,i,l,q,v,u,r,rfl,W,n,a,j,e,C,G,k⟩:=h;refine⟨_,(aA (bx (aP pQ (Ο (Wb c) (δ 1) (δ 2)) (Φ g f bq (aa (δ 0) (aa (δ 2) (aa (δ 3) ap))))))),?_⟩;walk_at "s";walk_at "";refine ixX n (atG a.1 a.2.2) ?_;refine⟨p,t,m,i,l,v,u,rfl,W,λy _ _ _ _ h=>?_,λz=>absurd ⟨⟨a.1,a.2.1⟩,j⟩ z,λ_ _ _ _ z=>by rw[e]at z;cases z⟩;rw[e]at h;cases h;exact⟨_,rfl,_,rfl,.inr ⟨by lia,by lia⟩,k⟩
def qb(T:Txt K B):Sp:=λb H Q E=>E6 λ(p t:Addr)(m:Int)(d:fx)(c:hD)(r:Int)=>b=[.ref p,.int r]/\π T.Web H p m t d c/\(0<=r->r<m->∀l a,γ H a->Q (.ref l) a)/\(¬(0<=r/\r<m)->∀a,γ H a->E (.ref T.NoPlace) none a)
abbrev kO:Stmt:=top 73
theorem xg:ε ["web","r","weights","place","front"] ["web","r"] (aw kO):=.of
theorem wL(T:Txt K B)(hq:bC (ς P w))(zA:Cb P w K B base "borne" vm ["web","weights","place","front"] 4 (Ev T))(jY:lj P w base T):Ok P w K B base "least_weights" kO ["web","r"] 8 (qb T):=λ_ _ D=>by
 refine D.F.iO xg (by walk_at "v") λΖ A S s H vs Q E hr h=>?_;obtain⟨p,t,m,ps,rs,r,rfl,W,k,e⟩:=h;have g:=W.go;have m1:=g.m1;have Ϩ:=g.Ϩ;obtain⟨dx,ob⟩:=W.ob;refine⟨_,(au (Χ 2 (aP ub (cM (aa ay ap)) (dJ (δ 0) rfl))) (au (iA PassesOwn.leaving rfl (lB (Φ jY hr bq (aa (δ 0) (aa (δ 1) ap)))) (mV (n:=2) rfl (dH (Zj 3) (dH (Zj 4) lJ))) (aA (rj (pcb (Px rfl) T.max (aa (Ο bB (δ 2) (δ 4)) (aa (Φ zA hr bq (aa (δ 0) (aa (δ 2) (aa (δ 3) (aa (δ 4) ap))))) ap))) (Di (δ 2) (δ 4) nJ)))) (aA (bx (δ 2))))),?_⟩;walk_at "s";walk_at "";refine⟨bj (by simp),λL n0=>?_⟩;have U:=γ.new (.lst [V.int 1]) n0;refine⟨T.Web,dx,_,U _ _ ob,T.iq,T.ϙ,_,gc m t,?_⟩;refine⟨L,m,_,rfl,rfl,aq,by lia,by lia,bj (by simp;lia),λl Z=>?_⟩;rw[NM];have o:=U.trans (γ.new (.lst (List.replicate m.toNat (V.int 1))) Z);have nl:=U.free Z;have Y:upd (upd H L (.lst [V.int 1])) l (.lst (List.replicate m.toNat (V.int 1))) l=some (.lst ((List.replicate m.toNat (1:Int)).map V.int)):=by rw[aq,fH]
 generalize upd (upd H L (.lst [V.int 1])) l (.lst (List.replicate m.toNat (V.int 1)))=H1 at o Y ⊢;refine⟨p,t,m,ps,rs,r,rfl,W.same o,λr0 r1=>?_,λz=>e z H1 o⟩;obtain⟨d,G,R⟩:=C8 g r0 r1;refine⟨d,G,R,λC M tl H2 _ n2 s2 e2 pa O=>?_⟩;have X:C≠l:=λz=>by rw[z,Y]at n2;cases n2
 refine⟨C,rfl,⟨_,Η.of e2⟩,?_⟩;refine uU (K:=K) (xs:=M.map V.ref) (λi y c=>γ H c/\c C=some (.lst (M.map V.ref))/\Ρ c d M tl.reverse/\E3 λ(j:ej)(J I:Option V)=>c l=some (.lst (j.map V.int))/\(j.length:Int)=m/\y=[some (V.ref p),some (V.int r),some (V.ref l),J,I]) ⟨o.trans s2,e2,pa,_,_,_,s2 _ _ Y,by rw[bW];lia,rfl⟩ (λi y c _ z=>Η.of z.2.1) ?_ ?_
 .rintro i x y c N BB ZS hN hx ⟨s3,e3,pa3,j,J,I,c3,cl,rfl⟩;refine ZS _ _ ?_;obtain⟨q,v,rfl,hq,hv,eq⟩:=pa3.get hx;obtain⟨f,vn⟩:=O.places v (List.mem_reverse.mp (bd hv));have u:=R.up v f.1 f.2 vn;obtain⟨kk,hk,k0,k1⟩:=UM g R f.1 f.2 vn;walk_at "";refine⟨_,Ξ.of eq,rfl,_,_,rfl,_,_,rfl,rfl,?_⟩;refine ϊ c3 (atG u.1.1 (by lia)) ?_;refine⟨p,l,t,true,m,ps,rs,j,v,d v,kk,rfl,W.same s3,Η.of c3,⟨f.1,f.2,by lia⟩,u.1,hk,k1,k0,?_⟩;refine⟨_,_,⟨rfl,rfl⟩,EO c3 u.1.1 (by rw[am];lia) (hN _ _ ⟨s3.put nl _,?_,?_,_,_,_,by rw[aq,<-gA],by rw[bT];exact cl,rfl⟩)⟩
  .rw[aU X];exact e3
  .exact Paired.imp' (λa b h=>by rw[aU (fm h c3 (by intro z;cases z))];exact h) pa3
 .rintro BB y c ZS ⟨s3,e3,pa3,j,J,I,c3,cl,rfl⟩;refine ZS _ _ ?_;walk_at "";exact k r0 r1 l c s3
def uk(T:Txt K B):Sp:=λb H Q E=>E7 λ(p t:Addr)(m:Int)(d:fx)(c:hD)(r w:Int)=>b=[.ref p,.int r,.int w]/\π T.Web H p m t d c/\(0<=r->r<m->w<1)/\(¬(0<=r/\r<m)->∀a,γ H a->E (.ref T.NoPlace) none a)/\(0<=r->r<m->∀a,γ H a->E (.ref T.BadWish) none a)
abbrev pO:Stmt:=top 74
theorem PY:ε ["web","r","wanted"] ["web","r","wanted"] (aw pO):=.of
theorem Of(T:Txt K B)(x:bC (ς P w))(k:Cb P w K B base "bound_by" ph ["web","r","wanted","weights"] 4 (wg T))(q:Cb P w K B base "least_weights" kO ["web","r"] 8 (qb T)):Ok P w K B base "enough" pO ["web","r","wanted"] 9 (uk T):=λ_ _ D=>by
 refine D.F.iO PY (by walk_at "v") λu A c s H v Q E f h=>?_;obtain⟨p,t,m,g,i,r,w,rfl,W,o,e,j⟩:=h;refine⟨_,(aA (bx (aP fB (Φ k f bq (aa (δ 0) (aa (δ 1) (aa (δ 2) (aa (Φ q f bq (aa (δ 0) (aa (δ 1) ap))) ap))))) ay))),?_⟩;walk_at "s";walk_at "";exact⟨p,t,m,g,i,r,rfl,W,λa b l n d=>⟨p,l,t,m,g,i,r,w,rfl,W.same d,a,b,o a b,j a b n d⟩,e⟩
def yF(T:Txt K B):Sp:=λb H Q E=>E6 λ(p t:Addr)(m:Int)(d:fx)(c:hD)(w:Int)=>b=[.ref p,.int w]/\π T.Web H p m t d c/\w<1/\∀a,γ H a->E (.ref T.BadWish) none a
abbrev mL:Stmt:=top 78
theorem xW:ε ["web","wanted","numbers","greatest"] ["web","wanted"] (aw mL):=.of
theorem uZ:NmL (aw mL) "numbers":=.of (by kernel_rfl)
theorem wR:iD (aw mL) "range":=.of (by kernel_rfl)
theorem KH(T:Txt K B)(J:bC (ς P w))(a:Cb P w K B base "enough" pO ["web","r","wanted"] 9 (uk T)):Ok P w K B base "hardest" mL ["web","wanted"] 10 (yF T):=λ_ _ D=>by
 refine D.F.iO xW (by walk_at "v") λy A d s H C Q E k h=>?_;obtain⟨p,t,m,o,q,w,rfl,W,r,e⟩:=h;have g:=W.go;have m1:=g.m1;have Ϩ:=g.Ϩ;obtain⟨u,ob⟩:=W.ob;refine⟨_,(au (Hs (i:=2) rfl rfl rfl Tr xW.nd rfl uZ.l rfl (clo ["r","web","wanted"] 1 [0,1]) (qG wR.g T.range (aa (dJ (pvn 0) rfl) ap)) (λ_ _ _ _=>(jB (i:=0) (show(["r","web","wanted"]:gy).Nodup from by decide +kernel) rfl (Or.inl rfl))) (λ_ _ _ _=>nV) (λ_ _ _ _=>(wK a.G (k.mono (by decide)) (by rfl) a.D.m a.D.F.kp a.D.b .nil (aa (pv 1) (aa (pv 0) (aa (pv 2) ap)))))) (au cr (aA cr))),?_⟩;walk_at "s";walk_at "";refine⟨T.Web,u,_,ob,T.iq,T.ϙ,_,gc m t,m,rfl,by lia,by lia,λlo n=>?_⟩;refine yL (λi j f c=>i=0/\γ H c/\∃v,f=[v,some (V.ref p),some (V.int w)]) ⟨rfl,γ.new _ n,_,rfl⟩ ?_ ?_
 .rintro i j f c N hN hi ⟨rfl,s3,v,rfl⟩;walk_at "";exact⟨p,t,m,o,q,_,w,rfl,W.same s3,λ_ _=>r,λz=>absurd ⟨by decide,by lia⟩ z,λ_ _ I x=>e _ (s3.trans x)⟩
 .rintro j f c ⟨z,_⟩
  lia
def GI(T:Txt K B):Sp:=λb H Q E=>E7 λ(p t:Addr)(m:Int)(d:fx)(c:hD)(r w:Int)=>b=[.ref p,.int r,.int w]/\π T.Web H p m t d c/\(0<=r->r<m->w<1)/\(¬(0<=r/\r<m)->∀a,γ H a->E (.ref T.NoPlace) none a)/\(0<=r->r<m->∀a,γ H a->E (.ref T.BadWish) none a)
abbrev vo:Stmt:=top 75
theorem RP:ε ["web","r","wanted","chosen","counts","place","front","given"] ["web","r","wanted"] (aw vo):=.of
theorem SX(T:Txt K B)(o:bC (ς P w))(d:mY P w base T):Ok P w K B base "worst" vo ["web","r","wanted"] 4 (GI T):=λ_ _ D=>by
 refine D.F.iO RP (by walk_at "v") λl A c s H n Q E g h=>?_;obtain⟨p,t,m,i,j,r,w,rfl,W,k,e,f⟩:=h;refine⟨_,(au (bU (Φ d g bq (aa (δ 0) (aa (δ 1) (aa (δ 2) ap))))) (au cr (au cr (au cr (au cr (aA cr)))))),?_⟩;walk_at "s";walk_at "";exact⟨p,t,m,i,j,r,w,rfl,W,λa b z=>absurd (k a b) (by lia),λz=>e z _ (γ.refl _),λa b _=>f a b _ (γ.refl _)⟩
def sP(T:Txt K B):Sp:=λb H Q E=>E7 λ(p t:Addr)(m:Int)(d:fx)(c:hD)(r w:Int)=>b=[.ref p,.int r,.int w]/\π T.Web H p m t d c/\(0<=r->r<m->w<1)/\(¬(0<=r/\r<m)->∀a,γ H a->E (.ref T.NoPlace) none a)/\(0<=r->r<m->∀a,γ H a->E (.ref T.BadWish) none a)
abbrev nB:Stmt:=top 97
theorem Cv:ε ["web","r","wanted"] ["web","r","wanted"] (aw nB):=.of
theorem BX(T:Txt K B)(o:bC (ς P w))(d:mY P w base T):Ok P w K B base "worst_many" nB ["web","r","wanted"] 4 (sP T):=λ_ _ D=>by
 refine D.F.iO Cv (by walk_at "v") λl A c s H n Q E g h=>?_;obtain⟨p,t,m,i,j,r,w,rfl,W,k,e,f⟩:=h;refine⟨_,(au (bU (Φ d g bq (aa (δ 0) (aa (δ 1) (aa (δ 2) ap))))) (aA cr)),?_⟩;walk_at "s";walk_at "";exact⟨p,t,m,i,j,r,w,rfl,W,λa b z=>absurd (k a b) (by lia),λz=>e z _ (γ.refl _),λa b _=>f a b _ (γ.refl _)⟩
def rO(T:Txt K B):Sp:=λe H Q E=>E9 λ(p t d:Addr)(m:Int)(g:fx)(f:hD)(w:Str)(b:List Nat)(c:Nat)=>e=[.ref p,.str w,.ref d]/\π T.Web H p m t g f/\H d=some (.lst (vNs b))/\RfW m w b c/\(c=0->∀x a,γ H a->E (.ref T.NoPlace) x a)/\(c=1->∀x a,γ H a->E (.ref T.BadWish) x a)
abbrev mx:Stmt:=top 111
theorem Ag:ε ["web","word","numbers"] ["web","word","numbers"] (aw mx):=.of
theorem AG(T:Txt K B)(J:bC (ς P w))(x:Cb P w K B base "enough" pO ["web","r","wanted"] 9 (uk T))(u:Cb P w K B base "hardest" mL ["web","wanted"] 10 (yF T))(k:Cb P w K B base "number_text" j9 ["number"] 1 (nS T))(l:Cb P w K B base "numbers_text" jC ["numbers"] 1 (nz T))(q:Cb P w K B base "worst" vo ["web","r","wanted"] 4 (GI T))(o:Cb P w K B base "worst_many" nB ["web","r","wanted"] 4 (sP T)):Ok P w K B base "told_of_web" mx ["web","word","numbers"] 11 (rO T):=λ_ _ D=>by
 refine D.F.iO Ag (by walk_at "v") λy A j s H G Q E b h=>?_;obtain⟨p,t,I,m,d,e,w,C,c,rfl,W,a,r,i,f⟩:=h;have g:=W.go;refine⟨_,(au (cf (ϧ cY (δ 1) aM) (aA (bx (Φ k b bq (aa (Φ x b bq (aa (δ 0) (aa (Ο bB (δ 2) ay) (aa (Ο bB (δ 2) ay) ap)))) ap)))) bK) (au (cf (ϧ cY (δ 1) aM) (aA (bx (Φ l b bq (aa (Φ u b bq (aa (δ 0) (aa (Ο bB (δ 2) ay) ap))) ap)))) bK) (au (cf (ϧ cY (δ 1) aM) (aA (bx (Φ l b bq (aa (Φ q b bq (aa (δ 0) (aa (Ο bB (δ 2) ay) (aa (Ο bB (δ 2) ay) ap)))) ap)))) bK) (aA (bx (Φ k b bq (aa (Φ o b bq (aa (δ 0) (aa (Ο bB (δ 2) ay) (aa (Ο bB (δ 2) ay) ap)))) ap))))))),?_⟩;walk_at "s";walk_at "";cases r with
 | @enough v n h=>
   rw[aj rfl];exact ϊ a rfl (ϊ a rfl ⟨p,t,m,d,e,v,n,rfl,W,λ_ z=>absurd z (by lia),λ_=>i rfl none,λ_ z=>absurd z (by lia)⟩)
 | @abE v h=>
   rw[aj rfl];exact ϊ a rfl (ϊ a rfl ⟨p,t,m,d,e,v,0,rfl,W,λ_ _=>by decide,λz=>absurd ⟨by lia,by lia⟩ z,λ_ _=>f rfl none⟩)
 | aaP=>
   rw[ag (dO (by decide)),aj rfl];exact ϊ a rfl ⟨p,t,m,d,e,0,rfl,W,by decide,f rfl none⟩
 | @worst v n h=>
   rw[ag (dO (by decide)),ag (dO (by decide)),aj rfl];exact ϊ a rfl (ϊ a rfl ⟨p,t,m,d,e,v,n,rfl,W,λ_ z=>absurd z (by lia),λ_=>i rfl none,λ_ z=>absurd z (by lia)⟩)
 | @acA v h=>
   rw[ag (dO (by decide)),ag (dO (by decide)),aj rfl];exact ϊ a rfl (ϊ a rfl ⟨p,t,m,d,e,v,0,rfl,W,λ_ _=>by decide,λz=>absurd ⟨by lia,by lia⟩ z,λ_ _=>f rfl none⟩)
 | @many v n h=>
   rw[ag (dO (by decide)),ag (dO (by decide)),ag (dO (by decide))];exact ϊ a rfl (ϊ a rfl ⟨p,t,m,d,e,v,n,rfl,W,λ_ z=>absurd z (by lia),λ_=>i rfl none,λ_ z=>absurd z (by lia)⟩)
 | @adX v h=>
   rw[ag (dO (by decide)),ag (dO (by decide)),ag (dO (by decide))];exact ϊ a rfl (ϊ a rfl ⟨p,t,m,d,e,v,0,rfl,W,λ_ _=>by decide,λz=>absurd ⟨by lia,by lia⟩ z,λ_ _=>f rfl none⟩)
def qf(T:Txt K B):Sp:=λh H Q E=>E13 λ(o g j t d:Addr)(m:Int)(f:fx)(i:hD)(e:List (List Int×List Int))(s:List Int×List Int)(w:Str)(b:List Nat)(c:Nat)=>h=[.ref o,.str w,.ref d]/\τ T.Web T.Desk H o g j m t f i (e++[s])/\e.length<=500/\bG m s.1=true/\bG m s.2=true/\H d=some (.lst (vNs b))/\RfT m s.2 w b c/\(c=0->∀x a,γ H a->E (.ref T.NoPlace) x a)/\(c=1->∀x a,γ H a->E (.ref T.BadWish) x a)/\(c=4->∀x a,γ H a->E (.ref T.NoWorst) x a)
abbrev lA:Stmt:=top 110
theorem xS:ε ["desk","word","numbers"] ["desk","word","numbers"] (aw lA):=.of
theorem yA(T:Txt K B)(hq:bC (ς P w)){L:Addr}{x:FuncData}(dG:ϑ K "laying" "Desk.laying" d3 L x)(I:Binds K x ["self"] [])(z:Meth K T.Desk "laying" L)(p:υ P w K B base (ς P w) 1 L x ["self"] (ia T)){C:Addr}{y:FuncData}(eI:ϑ K "wish" "Desk.wish" eX C y)(M:Binds K y ["self"] [])(N:Meth K T.Desk "wish" C)(R:υ P w K B base (ς P w) 1 C y ["self"] (jI T))(Y:Cb P w K B base "bring" vA ["web","laying","r"] 9 (GD T))(U:Cb P w K B base "fails" rG ["web","wish"] 4 (E1 T))(W:Cb P w K B base "most" xY ["web","laying","r"] 9 (Jh T))(V:Cb P w K B base "number_text" j9 ["number"] 1 (nS T))(f9:Cb P w K B base "numbers_text" jC ["numbers"] 1 (nz T))(sv:Cb P w K B base "standing" pb ["web","laying","wish","r"] 9 (ww T))(m7:Cb P w K B base "standing_text" kF ["number"] 1 (pI T))(S:Cb P w K B base "steps_text" nh ["steps"] 1 (tz T))(oQ:Cb P w K B base "told_of_web" mx ["web","word","numbers"] 11 (rO T)):Ok P w K B base "told_of_desk" lA ["desk","word","numbers"] 12 (qf T):=λ_ _ D=>by
 refine D.F.iO xS (by walk_at "v") λΖ A J s H vs Q E a h=>?_;obtain⟨o,d,k,t,ln,m,b,e,j,s,w,X,c,rfl,O,sl,fi,G,n,r,l,e1,Z⟩:=h;have g:=O.web.go;refine⟨_,(au (cf (ϧ cY (δ 1) aM) (aA cr) bK) (au (cf (ϧ cY (δ 1) aM) (aA cr) bK) (au (cf (ϧ cY (δ 1) aM) (aA (bx (Φ V a bq (aa (Φ W a bq (aa (dJ (δ 0) rfl) (aa (dY (δ 0) T.bM z p (a.mono (by decide)) I .nil bq) (aa (Ο bB (δ 2) ay) ap)))) ap)))) bK) (au (cf (ϧ cY (δ 1) aM) (aA (bx (Φ S a bq (aa (Φ Y a bq (aa (dJ (δ 0) rfl) (aa (dY (δ 0) T.bM z p (a.mono (by decide)) I .nil bq) (aa (Ο bB (δ 2) ay) ap)))) ap)))) bK) (au (cf (ϧ cY (δ 1) aM) (aA (bx (Φ m7 a bq (aa (Φ sv a bq (aa (dJ (δ 0) rfl) (aa (dY (δ 0) T.bM z p (a.mono (by decide)) I .nil bq) (aa (dY (δ 0) T.bM N R (a.mono (by decide)) M .nil bq) (aa (Ο bB (δ 2) ay) ap))))) ap)))) bK) (au (cf (ϧ cY (δ 1) aM) (aA cr) bK) (au (cf (ϧ cY (δ 1) aM) (aA cr) bK) (au (cf (ϧ cY (δ 1) aM) (aA (bx (Φ f9 a bq (aa (Φ U a bq (aa (dJ (δ 0) rfl) (aa (dY (δ 0) T.bM N R (a.mono (by decide)) M .nil bq) ap))) ap)))) bK) (aA (bx (Φ oQ a bq (aa (dJ (δ 0) rfl) (aa (δ 1) (aa (δ 2) ap)))))))))))))),?_⟩;walk_at "s";have Ϩ:=g.Ϩ;have xl:=gd fi;have yl:=gd G;walk_at "";cases r with
 | @most v h=>
   rw[ag (dO (by decide)),ag (dO (by decide)),aj rfl];exact O.wb_ T.bM T.Y8 (O.ό ⟨o,d,k,t,m,b,e,j,s,rfl,O,λf i=>ϊ n rfl ⟨d,f,t,false,m,b,e,s.1,v,rfl,O.web,Ξ.of i,by lia,fi,by lia,l rfl none⟩⟩)
 | @bring v h=>
   rw[ag (dO (by decide)),ag (dO (by decide)),ag (dO (by decide)),aj rfl];exact O.wb_ T.bM T.Y8 (O.ό ⟨o,d,k,t,m,b,e,j,s,rfl,O,λf i=>ϊ n rfl ⟨d,f,t,false,m,b,e,s.1,v,rfl,O.web,Ξ.of i,by lia,fi,by lia,l rfl none⟩⟩)
 | @stands v h=>
   rw[ag (dO (by decide)),ag (dO (by decide)),ag (dO (by decide)),ag (dO (by decide)),aj rfl];exact O.wb_ T.bM T.Y8 (O.ό ⟨o,d,k,t,m,b,e,j,s,rfl,O,λf i=>O.ό ⟨o,d,k,t,m,b,e,j,s,rfl,O,λu q=>ϊ n rfl ⟨d,f,u,t,false,false,m,b,e,s.1,s.2,v,rfl,O.web,Ξ.of i,by lia,Ξ.of q,by lia,fi,G,by lia,l rfl none⟩⟩⟩)
 | fails h=>
   rw[ag (dO (by decide)),ag (dO (by decide)),ag (dO (by decide)),ag (dO (by decide)),ag (dO (by decide)),ag (dO (by decide)),ag (dO (by decide)),aj rfl];exact O.wb_ T.bM T.Y8 (O.ό ⟨o,d,k,t,m,b,e,j,s,rfl,O,λu q=>⟨d,u,t,false,m,b,e,s.2,rfl,O.web,Ξ.of q,by lia,G,h,Z rfl none⟩⟩)
 | web h=>
   have ne:w≠"laying"/\w≠"wish"/\w≠"most"/\w≠"bring"/\w≠"stands"/\w≠"meet"/\w≠"always"/\w≠"fails":=by cases h<;>decide
   rw[ag (dO ne.1),ag (dO ne.2.1),ag (dO ne.2.2.1),ag (dO ne.2.2.2.1),ag (dO ne.2.2.2.2.1),ag (dO ne.2.2.2.2.2.1),ag (dO ne.2.2.2.2.2.2.1),ag (dO ne.2.2.2.2.2.2.2)];exact O.wb_ T.bM T.Y8 ⟨d,t,ln,m,b,e,w,X,c,rfl,O.web,n,h,l,e1⟩
def ZT(m:Int)(d:Nat)(y:ej)(z:Str)(c:Nat):Prop:=∃w a,wsp z=w::a/\(∀x∈a,WOk x)/\a.length<=1000/\((c=5/\∀n,nb w=some n->a.length≠n\/∃x∈a,gE x=none)\/∃b:List Nat,a.map gE=b.map some/\nb w=some b.length/\(RfD m d w b c\/RfT m y w b c))
def uV(T:Txt K B):Sp:=λd H Q E=>E11 λ(o e h t:Addr)(m:Int)(g:fx)(f:hD)(b:List (List Int×List Int))(s:List Int×List Int)(z:Str)(c:Nat)=>d=[.ref o,.str z]/\τ T.Web T.Desk H o e h m t g f (b++[s])/\b.length<=500/\bG m s.1=true/\bG m s.2=true/\z.length<=60000/\ZT m b.length s.2 z c/\(c=0->∀x a,γ H a->E (.ref T.NoPlace) x a)/\(c=1->∀x a,γ H a->E (.ref T.BadWish) x a)/\(c=2->∀x a,γ H a->E (.ref T.BadStep) x a)/\(c=3->∀x a,γ H a->E (.ref T.NoDeed) x a)/\(c=4->∀x a,γ H a->E (.ref T.NoWorst) x a)/\(c=5->∀x a,γ H a->E (.ref T.BadText) x a)
abbrev l9:Stmt:=top 108
theorem C4:ε ["desk","row","words","numbers"] ["desk","row"] (aw l9):=.of
theorem ng:iD (aw l9) "BadText":=.of (by kernel_rfl)
theorem DB(T:Txt K B)(hq:bC (ς P w)){X:Addr}{cH:FuncData}(dP:ϑ K "__init__" "BadText.__init__" da X cH)(iZ:Binds K cH ["self","at"] [])(fN:lG K T.BadText X)(Α:υ P w K B base (ς P w) 1 X cH ["self","at"] (iE T))(vh:Cb P w K B base "do_deed" qz ["desk","word","numbers"] 10 (xV T))(pR:Cb P w K B base "read_words" kZ ["words","many","at"] 4 (sZ T))(nX:Cb P w K B base "told_of_desk" lA ["desk","word","numbers"] 12 (qf T))(pY:DK w K T.NUMBERS_BEHIND nbK):Ok P w K B base "answer_of" l9 ["desk","row"] 13 (uV T):=λ_ _ D=>by
 refine D.F.iO C4 (by walk_at "v") λΖ A Y s H vs Q E U h=>?_;obtain⟨o,wb,pl,t,m,ps,rs,Γ,s,z,c,rfl,O,sl,fi,fj,zl,C,e0,e1,e2,e3,e4,e5⟩:=h;obtain⟨i,u,ez,wo,wl,C⟩:=C;refine⟨_,(au (Χ 2 (iH PySem.F.plainAttrs_str PySem.F.slot_str_split PySem.F.type_str_split Qf (δ 1) (aa aM ap))) (au (cf (rp (T8 w K rfl rfl pY) (Ο bB (δ 2) ay) (pgl T.pG) (by with_unfolding_all rfl)) (aA (qm fN Α hq (U.mono (by decide)) iZ rfl rfl vD ng.g T.qC (aa ay ap) (hdb:=ng.d))) bK) (au (Χ 3 (Φ pR U bq (aa (nR pD (δ 2) (pC ay) pA) (aa (Ru w K rfl rfl pY (pgl T.pG) (Ο bB (δ 2) ay) (λ_ _=>rfl)) (aa ay ap))))) (au (cf (rp BG (Ο bB (δ 2) ay) (pgl T.UI) (by with_unfolding_all rfl)) (au (bU (Φ vh U bq (aa (δ 0) (aa (Ο bB (δ 2) ay) (aa (δ 3) ap))))) (aA (bx aM))) bK) (aA (bx (Φ nX U bq (aa (δ 0) (aa (Ο bB (δ 2) ay) (aa (δ 3) ap)))))))))),?_⟩;walk_at "s";unfold tSl JF aai;refine db λN1 I=>?_;walk_at "";refine⟨by simp[tyV],z,rfl,_,rfl,rfl,zl,λl nl=>I _ _ (db λN2 G=>?_)⟩;have s1:=γ.new (HO.lst ((Txt.split z (Str.ofString " ")).map V.str)) nl;have r:upd H l (HO.lst ((Txt.split z (Str.ofString " ")).map V.str)) l=some (.lst ((i::u).map V.str)):=by rw[aq,<-ez];rfl
 generalize upd H l (HO.lst ((Txt.split z (Str.ofString " ")).map V.str))=H1 at s1 r ⊢;have L:ZE ((i::u).map V.str) 0=some (.str i):=jD (by decide) rfl;walk_at "";refine ϊ r L ⟨i,rfl,rfl,_,rfl,?_⟩;rw[OC,iC];cases en:nb i with
 | none=>
   have c5:c=5:=by
    rcases C with h|⟨q,_,h,_⟩
    .exact h.1
    .rw[en]at h;cases h
   rw[aj (by rfl)];unfold AJ;walk_at "";refine⟨bj (by simp),λea ne=>⟨ea,X,_,rfl,aq,fN,λdx nd M=>⟨rfl,some dx,?_,?_⟩⟩⟩
   .rw[aU (Ne.symm M),aq]
   .exact e5 c5 _ _ (s1.trans (vt ne nd M))
 | some n=>
   rw[ag (by exact aN)];refine G _ _ (db λN3 h3=>?_);walk_at "";refine⟨l,_,rfl,Η.of r,λW n2=>?_⟩;rw[Ox _ (by decide)];have Z:=s1.trans (γ.new (HO.lst (((i::u).map V.str).drop (1:Int).toNat)) n2);have y:=γ.new (HO.lst (((i::u).map V.str).drop (1:Int).toNat)) n2 _ _ r;have N:upd H1 W (HO.lst (((i::u).map V.str).drop (1:Int).toNat)) W=some (.lst (u.map V.str)):=aq;generalize upd H1 W (HO.lst (((i::u).map V.str).drop (1:Int).toNat))=H2 at Z y N ⊢;refine ϊ y L ⟨i,.int n,rfl,rfl,by rw[OC,en];rfl,?_⟩;refine⟨W,u,n,1,rfl,N,by lia,wo,λel q R p H3 np S J=>?_,λal dx H3 S _=>?_⟩
   .have C:RfD m Γ.length i q c\/RfT m s.2 i q c:=by
     rcases C with⟨_,h⟩|⟨ns',I,G,h3⟩
     .rcases h n en with h|⟨x,hx,h⟩
      .lia
      .have:gE x∈q.map some:=(by rw[<-R];exact bu.mpr ⟨x,hx,rfl⟩);rw[h]at this;obtain⟨_,_,this⟩:=bu.mp this;cases this
     .have:ns'=q:=by
       have:=I.symm.trans R;exact(List.map_inj_right λa b e=>bo e).mp this
      rw[<-this];exact h3
    refine h3 _ _ ?_;have f:=Z.trans S;have O3:=O.same f;have v:=S _ _ y;walk_at "";refine ϊ v L ⟨T.DEEDS,_,rfl,.inr T.Uo.sq,rfl,rfl,_,rfl,?_⟩;rcases C with h|h
    .rw[aj (by cases h<;>decide +kernel)];exact ϊ v L ⟨o,wb,pl,t,p,m,ps,rs,Γ,s,i,q,c,rfl,O3,sl,fi,fj,J,h,λz x j k=>e0 z x j (f.trans k),λz x j k=>e2 z x j (f.trans k),λz x j k=>e3 z x j (f.trans k)⟩
    .rw[ag (by rcases h with _|_|_|_|h<;>first|decide +kernel|(cases h<;>decide +kernel))];exact ϊ v L ⟨o,wb,pl,t,p,m,ps,rs,Γ,s,i,q,c,rfl,O3,sl,fi,fj,J,h,λz x j k=>e0 z x j (f.trans k),λz x j k=>e1 z x j (f.trans k),λz x j k=>e4 z x j (f.trans k)⟩
   .have c5:c=5:=by
     rcases C with h|⟨q,I,G,_⟩
     .exact h.1
     .rw[en]at G;have hl:=congrArg List.length I;rw[am,am]at hl;rcases al with h|⟨x,hx,h⟩
      .injection G with G;lia
      .have:gE x∈q.map some:=(by rw[<-I];exact bu.mpr ⟨x,hx,rfl⟩);rw[h]at this;obtain⟨_,_,this⟩:=bu.mp this;cases this
    exact e5 c5 _ _ (Z.trans S)
theorem hop{K:fg}{C b:Addr}(c:aT K b C){a:Addr}{d R2:Prop}(ne:a≠b)(n:a≠C)(h:R2):∃D,Value.ref C=Value.ref D/\∃x,PySem.W.mroIn K D (Value.ref a)=some x/\if x=true then d else R2:=⟨C,rfl,false,by rw[c.mr,bt ne,Bool.or_false,bt n],h⟩
theorem hit{K:fg}{C c:Addr}(b:aT K c C){a R2:Prop}(h:a):∃D,Value.ref C=Value.ref D/\∃x,PySem.W.mroIn K D (Value.ref C)=some x/\if x=true then a else R2:=⟨C,rfl,true,by rw[b.mr];simp,h⟩
def Jm:Nat->Str
 | 0=>"refused place"
 | 1=>"refused wish"
 | 2=>"refused step"
 | 3=>"refused deed"
 | 4=>"refused none"
 | _=>"refused row"
def rJ(T:Txt K B):Sp:=λd H Q _=>E11 λ(o e h t:Addr)(m:Int)(g:fx)(f:hD)(a:List (List Int×List Int))(s:List Int×List Int)(z:Str)(c:Nat)=>d=[.ref o,.str z]/\τ T.Web T.Desk H o e h m t g f (a++[s])/\a.length<=500/\bG m s.1=true/\bG m s.2=true/\z.length<=60000/\ZT m a.length s.2 z c/\c<=5/\∀b,γ H b->Q (.str (Jm c)) b
abbrev dg:Stmt:=hZ (top 107) 9
theorem Am:ε ["self","row"] ["self","row"] (aw dg):=.of
theorem lW:iD (aw dg) "BadText":=.of (by kernel_rfl)
theorem mq:iD (aw dg) "NoPlace":=.of (by kernel_rfl)
theorem k7:iD (aw dg) "BadLaying":=.of (by kernel_rfl)
theorem l7:iD (aw dg) "BadWish":=.of (by kernel_rfl)
theorem lY:iD (aw dg) "BadStep":=.of (by kernel_rfl)
theorem mJ:iD (aw dg) "NoDeed":=.of (by kernel_rfl)
theorem mi:iD (aw dg) "NoWorst":=.of (by kernel_rfl)
theorem AI(T:Txt K B)(M:bC (ς P w)){f:Addr}{j:FuncData}(F:ϑ K "answer" "Desk.answer" dg f j)(n:Cb P w K B base "answer_of" l9 ["desk","row"] 13 (uV T)):υ P w K B base (ς P w) 14 f j ["self","row"] (rJ T):=by
 refine F.Ac Am (by walk_at "v") λI A i s H L Q E l h=>?_;obtain⟨o,r,G,t,m,p,u,D,s,z,c,rfl,O,y,fi,C,v,q,J,k⟩:=h;refine⟨_,(aA (WY rfl rfl rfl (Rv (U3 (pyb n l (aa (δ 0) (aa (δ 1) ap))))) (sB T.qB.x lW.g T.qC (λ_=>(aA (bx aM))) (sB T.ow.x mq.g T.Ba (λ_=>(aA (bx aM))) (sB T.qJ.x k7.g T.wj (λ_=>(aA (bx aM))) (sB T.lh.x l7.g T.uH (λ_=>(aA (bx aM))) (sB T.jV.x lY.g T.Bf (λ_=>(aA (bx aM))) (sB T.jX.x mJ.g T.EN (λ_=>(aA (bx aM))) (sB T.hG.x mi.g T.Bg (λ_=>(aA (bx aM))) Wm (hdb:=mi.d)) (hdb:=mJ.d)) (hdb:=lY.d)) (hdb:=l7.d)) (hdb:=k7.d)) (hdb:=mq.d)) (hdb:=lW.d)))),?_⟩;walk_at "s";unfold RL xM;walk_at "";exact⟨o,r,G,t,m,p,u,D,s,z,c,rfl,O,y,fi,C,v,q,(λe x b a=>by subst e;exact hop T.ow (iF T.iN 9 0) (iF T.iN 9 2) (hit T.ow (k _ a))),(λe x b a=>by subst e;exact hop T.lh (iF T.iN 9 0) (iF T.iN 9 5) (hop T.lh (iF T.iN 2 0) (iF T.iN 2 5) (hop T.lh (iF T.iN 4 0) (iF T.iN 4 5) (hit T.lh (k _ a))))),(λe x b a=>by subst e;exact hop T.jV (iF T.iN 9 0) (iF T.iN 9 8) (hop T.jV (iF T.iN 2 0) (iF T.iN 2 8) (hop T.jV (iF T.iN 4 0) (iF T.iN 4 8) (hop T.jV (iF T.iN 5 0) (iF T.iN 5 8) (hit T.jV (k _ a)))))),(λe x b a=>by subst e;exact hop T.jX (iF T.iN 9 0) (iF T.iN 9 7) (hop T.jX (iF T.iN 2 0) (iF T.iN 2 7) (hop T.jX (iF T.iN 4 0) (iF T.iN 4 7) (hop T.jX (iF T.iN 5 0) (iF T.iN 5 7) (hop T.jX (iF T.iN 8 0) (iF T.iN 8 7) (hit T.jX (k _ a))))))),(λe x b a=>by subst e;exact hop T.hG (iF T.iN 9 0) (iF T.iN 9 6) (hop T.hG (iF T.iN 2 0) (iF T.iN 2 6) (hop T.hG (iF T.iN 4 0) (iF T.iN 4 6) (hop T.hG (iF T.iN 5 0) (iF T.iN 5 6) (hop T.hG (iF T.iN 8 0) (iF T.iN 8 6) (hop T.hG (iF T.iN 7 0) (iF T.iN 7 6) (hit T.hG (k _ a)))))))),(λe x b a=>by subst e;exact hit T.qB (k _ a))⟩
def rc(T:Txt K B):Sp:=λb H Q _=>E3 λ(a:Addr)(c:ej)(k:Int)=>b=[.ref a,.int k]/\Η K H a (c.map V.int)/\0<=k/\∀v,Q (.int v) H
abbrev m9:Stmt:=top 115
theorem HY:ε ["script","k"] ["script","k"] (aw m9):=.of
theorem G2(T:Txt K B)(n:bC (ς P w)):Ok P w K B base "_law_cell" m9 ["script","k"] 1 (rc T):=λ_ _ D=>by
 refine D.F.Ac HY (by walk_at "v") λj A d s H m Q E l h=>?_;obtain⟨a,b,i,rfl,e,f,k⟩:=h;refine⟨_,(au (cf (ϧ No (δ 1) (pcb ik T.len (aa (δ 0) ap))) (aA (bx (Ο bB (δ 0) (δ 1)))) bK) (aA (bx ay))),?_⟩;walk_at "s";walk_at "";refine⟨_,.inl e,?_⟩;rw[am];by_cases c:i<(b.length:Int)
 .rw[aj c];have g:i.toNat<b.length:=by lia
  exact ixS e (jD f (v:=.int b[i.toNat]) (by rw[aY,aG g];rfl)) (k _)
 .rw[ag c];exact k 0
def rF(T:Txt K B):Sp:=λc H Q _=>∃(a m:Int),c=[.int a,.int m]/\1<=m/\m<=24/\∀z b,γ H b->uw z->Q (.str z) b
abbrev mw:Stmt:=top 119
theorem Ax:ε ["cell","many","words","sizes","at","numbers","odd","spot","mode"] ["cell","many"] (aw mw):=.of
theorem zE(T:Txt K B)(hq:bC (ς P w)):Ok P w K B base "_law_odd_row" mw ["cell","many"] 1 (rF T):=λ_ _ D=>by
 refine D.F.Ac Ax (by walk_at "v") λΖ A dn s H vs Q E hr h=>?_;obtain⟨b,m,rfl,m1,Ϩ,k⟩:=h;refine⟨_,(au (Χ 2 (cM (aa aM (aa aM (aa aM (aa aM (aa aM (aa aM (aa aM (aa aM (aa aM (aa aM (aa aM (aa aM ap)))))))))))))) (au (Χ 2 (aP gn (δ 2) (cM (aa aM (aa aM (aa aM (aa aM ap))))))) (au (Χ 3 (cM (aa ay (aa ay (aa ay (aa ay (aa ay (aa ay (aa ay (aa ay (aa ay (aa ay (aa ay (aa ay (aa ay (aa ay (aa ay (aa ay ap)))))))))))))))))) (au (Χ 4 (aP dh (aP eB (δ 0) ay) ay)) (au (Χ 5 (aP ub (cM (aa (ZF dM T.str (aa (aP dh (aP eB (δ 0) ay) (δ 1)) ap)) ap)) (Ο bB (δ 3) (δ 4)))) (au (Χ 6 (o9 bB (cM (aa aM (aa aM (aa aM (aa aM (aa aM (aa (aP bH aM (aP UY aM ay)) (aa aM (aa aM (aa aM (aa aM (aa aM (aa aM ap))))))))))))) (aP dh (aP eB (δ 0) ay) ay) (λ_ _=>rfl))) (au (Χ 7 (aP dh (aP eB (δ 0) ay) (aP fB (Ο bB (δ 3) (δ 4)) ay))) (au (Χ 8 (aP dh (δ 0) ay)) (au (cf (PW.pt (vL (ϧ cY (δ 8) ay) (rM (PW.pt (yq (ϧ cY (δ 8) ay) (vz (ϧ cY (Ο bB (δ 3) (δ 4)) ay))))))) (aA (bx (iH PySem.F.plainAttrs_str PySem.F.slot_str_join PySem.F.type_str_join pE aM (aa (aP gn (aP gn (aP gn (cM (aa (Ο bB (δ 2) (δ 4)) ap)) (nR pD (δ 5) pA (pC (δ 7)))) (cM (aa aM ap))) (nR pD (δ 5) (pC (δ 7)) pA)) ap)))) bK) (au (cf (ϧ cY (δ 8) ay) (aA (bx (iH PySem.F.plainAttrs_str PySem.F.slot_str_join PySem.F.type_str_join pE aM (aa (aP gn (cM (aa (Ο bB (δ 2) (δ 4)) ap)) (nR pD (δ 5) (pC ay) pA)) ap)))) bK) (au (cf (PW.pt (vL (ϧ cY (δ 8) ay) (rM (ϧ cY (δ 8) ay)))) (aA (bx (iH PySem.F.plainAttrs_str PySem.F.slot_str_join PySem.F.type_str_join pE aM (aa (aP gn (aP gn (aP gn (cM (aa (Ο bB (δ 2) (δ 4)) ap)) (nR pD (δ 5) pA (pC (δ 7)))) (cM (aa (δ 6) ap))) (nR pD (δ 5) (pC (aP fB (δ 7) ay)) pA)) ap)))) bK) (au (cf (ϧ cY (δ 8) ay) (aA (bx (aP bH (iH PySem.F.plainAttrs_str PySem.F.slot_str_join PySem.F.type_str_join pE aM (aa (aP gn (cM (aa (Ο bB (δ 2) (δ 4)) ap)) (δ 5)) ap)) aM))) bK) (au (cf (ϧ cY (δ 8) ay) (aA (bx (aP bH aM (iH PySem.F.plainAttrs_str PySem.F.slot_str_join PySem.F.type_str_join pE aM (aa (aP gn (cM (aa (Ο bB (δ 2) (δ 4)) ap)) (δ 5)) ap))))) bK) (au (cf (ϧ cY (δ 8) ay) (aA (bx (iH PySem.F.plainAttrs_str PySem.F.slot_str_join PySem.F.type_str_join pE aM (aa (aP gn (cM (aa (uM PySem.F.plainAttrs_str PySem.F.slot_str_upper PySem.F.type_str_upper QG (Ο bB (δ 2) (δ 4))) ap)) (δ 5)) ap)))) bK) (aA (bx (o9 bB (cM (aa aM (aa aM (aa aM (aa aM (aa (aP bH (Ο bB (δ 2) (δ 4)) aM) (aa aM ap))))))) (aP dh (aP eB (δ 0) ay) ay) (λ_ _=>rfl)))))))))))))))))),?_⟩;walk_at "s";unfold tSl JF aai;refine db λN1 h1=>?_;walk_at "";refine⟨by decide,λa1 n1=>h1 _ _ (db λN2 h2=>?_)⟩;generalize a:upd H a1 _=H1;have s1:γ H H1:=by rw[<-a];exact γ.new _ n1
 have e1:=(congrFun a a1).symm.trans aq;clear a;walk_at "";refine⟨by decide,λa2 n2=>?_⟩;generalize a:upd H1 a2 _=H2;have s2:γ H1 H2:=by rw[<-a];exact γ.new _ n2
 have e2:=(congrFun a a2).symm.trans aq;clear a;refine u7 (s2 _ _ e1) e2 (by decide) λa3 n3=>h2 _ _ (db λN3 h3=>?_);generalize a:upd H2 a3 _=H3;have s3:γ H H3:=(s1.trans s2).trans (by rw[<-a];exact γ.new _ n3);have e3:H3 a3=some (.lst (nbT.map λp=>V.str p.1)):=(congrFun a a3).symm.trans aq;clear a e1 e2 h1 h2;walk_at "";refine⟨by decide,λa4 n4=>h3 _ _ (db λN4 h4=>?_)⟩;generalize a:upd H3 a4 _=H4;have ad:γ H3 H4:=by rw[<-a];exact γ.new _ n4
 have e4:H4 a4=some (.lst (nbT.map λp=>V.int (p.2:Int))):=(congrFun a a4).symm.trans aq;clear a h3;have s4:=s3.trans ad;have cc:=ad _ _ e3;clear e3 s3 ad;walk_at "";refine⟨⟨by decide,by decide⟩,by decide,h4 _ _ (db λN5 h5=>?_)⟩;have i0:=be (b/8) (show(16:Int)≠0 by decide);have i1:=bE (b/8) (show(0:Int)<16 by decide);generalize b/8%16=Y at i0 i1 ⊢;have nl:nbT.length=16:=rfl;obtain⟨⟨w,n⟩,hp⟩:∃p,nbT[Y.toNat]?=some p:=⟨_,aG (by lia)⟩;obtain⟨b1,b2,O,b4,b5,b6,b7,b8⟩:=QP _ (bd hp);have gw:ZE (nbT.map λp=>V.str p.1) Y=some (.str w):=jD i0 (by rw[aY,hp];rfl);have gs:ZE (nbT.map λp=>V.int (p.2:Int)) Y=some (.int n):=jD i0 (by rw[aY,hp];rfl);clear h4 nl hp;walk_at "";have v0:=be (b/128) (show m≠0 by lia);have v1:=bE (b/128) (show 0<m by lia);obtain⟨v,ev⟩:∃v:Nat,b/128%m=(v:Int):=⟨_,(cK v0).symm⟩;rw[ev]at v0 v1 ⊢;rw[qI];have wv:Wd (FS v):=Wd.fs (aI (show v<24 by lia) (by decide));refine⟨⟨by decide,by decide⟩,by lia,eu (iR _) (by lia),bj (by simp),λa5 n5=>?_⟩;generalize a:upd H4 a5 _=H5;have ar:γ H4 H5:=by rw[<-a];exact γ.new _ n5
 have e5:=(congrFun a a5).symm.trans aq;clear a;refine ϊ (ar _ _ e4) gs ⟨a5,n,_,rfl,rfl,e5,by lia,by lia,bj (by simp;lia),λa6 n6=>?_⟩;rw[NM];generalize a:upd H5 a6 _=H6;have U:γ H4 H6:=ar.trans (by rw[<-a];exact γ.new _ n6);have e6:H6 a6=some (.lst ((List.replicate n (FS v)).map V.str)):=(congrFun a a6).symm.trans (aq.trans (by rw[fH];rfl));clear a;have s6:=s4.trans U;have X:=U _ _ cc;have es:=U _ _ e4;clear s4 ar U cc e4 e5 n1 n2 n3 n4 n5 n6 ev v0 v1;refine h5 _ _ (db λN6 h6=>?_);clear h5;walk_at "";refine⟨_,rfl,⟨by decide,λ_ _=>by decide +kernel,λ_ _=>by decide +kernel⟩,_,rfl,_,rfl,by decide +kernel,bj (by simp),λa7 n7=>⟨⟨by decide,by decide⟩,by decide,?_⟩⟩;generalize a:upd H6 a7 _=i;have y:γ H6 i:=by rw[<-a];exact γ.new _ n7
 have e7:i a7=some (.lst (NT.map V.str)):=(congrFun a a7).symm.trans aq;clear a;have o0:=be (b/640) (show(12:Int)≠0 by decide);have o1:=bE (b/640) (show(0:Int)<12 by decide);have ol:NT.length=12:=rfl;obtain⟨od,ho⟩:∃p,NT[(b/640%12).toNat]?=some p:=⟨_,aG (by lia)⟩;obtain⟨aS,c7⟩:=UT _ (bd ho);have aS:=Ir aS;refine ϊ e7 (jD o0 (v:=V.str od) (by rw[aY,ho];rfl)) (h6 _ _ (db λN7 h7=>?_));have s7:=s6.trans y;have X:=y _ _ X;have es:=y _ _ es;have S:=y _ _ e6;clear h6 s6 y e6 e7 o0 o1 ol ho n7;walk_at "";refine⟨⟨by decide,by decide⟩,ϊ es gs ⟨_,rfl,by lia,h7 _ _ (db λN8 h8=>?_)⟩⟩;have W:=be (b/7680) (show(n:Int)+1≠0 by lia);have c9:=bE (b/7680) (show(0:Int)<n+1 by lia);generalize b/7680%((n:Int)+1)=r at W c9 ⊢;clear h7;walk_at "";refine⟨by decide,h8 _ _ ?_⟩;have dp:=be b (show(8:Int)≠0 by decide);have cI:=bE b (show(0:Int)<8 by decide);generalize b%8=u at dp cI ⊢;clear h8;have d:∀x,x∈List.replicate n (FS v)->Wd x:=λx hx=>by rw[List.eq_of_mem_replicate hx];exact wv
 have rl:(List.replicate n (FS v)).length=n:=bW;generalize List.replicate n (FS v)=R at S d rl;have w1:Wd (Str.ofString "1"):=by decide +kernel
 refine db λN9 h9=>?_;walk_at "";by_cases c0:u=0\/u=1/\n=0
 .rcases c0 with c0|⟨c0,c1⟩
  all_goals first
   | (rw[ag (show ¬u=0 by lia),aj c0]
      refine ϊ es gs ⟨rfl,?_⟩;rw[aj (by rw[c1];rfl)])
   | rw[aj c0]
  all_goals
   refine⟨by simp[tyV],ϊ X gw ⟨bj (by simp),λc t=>?_⟩⟩;generalize a:upd i c _=e;have f:γ i e:=(by rw[<-a];exact γ.new _ t);have q:LS e c [w]:=(congrFun a c).symm.trans aq;clear a;refine IA (f _ _ S) W λa9 H9 l N=>om (l _ _ q) N (by rw[bc];show 1+_<=_;lia) λbM o M G=>⟨bj (by simp),λj ai=>?_⟩;generalize a:upd o j _=L;have C:γ o L:=(by rw[<-a];exact γ.new _ ai);have aT:LS L j [Str.ofString "1"]:=(congrFun a j).symm.trans aq;clear a;have I:=((f.trans l).trans M).trans C;refine om (C _ _ G) aT (by rw[ao,bc];show 1+_+1<=_;lia) λdt dr Y9 a0=>z9 (Y9 _ _ (I _ _ S)) W λdu dw J ab=>om (J _ _ a0) ab (by rw[ao,ao,bc,cz];show 1+_+1+_<=_;lia) λdx dd ac an=>?_;have Z:∀x∈R.take r.toNat++[Str.ofString "1"]++R.drop r.toNat,Wd x:=λx hx=>by
    rcases aV.mp hx with hx|hx
    .rcases aV.mp hx with hx|hx
     .exact d x (gu hx)
     .rw[ax.mp hx];exact w1
    .exact d x (eP hx)
   have ll:(R.take r.toNat++[Str.ofString "1"]++R.drop r.toNat).length=n+1:=by
    rw[ao,ao,bc,cz];show _+1+_=_
    lia
   exact rT (w:=w) (ws:=R.take r.toNat++[Str.ofString "1"]++R.drop r.toNat) an O Z (by lia) (k _ _ (((s7.trans I).trans Y9).trans (J.trans ac)) (lx O Z (by lia) λn' g=>.inl (by rw[b1]at g;injection g with g;lia)))
 have go:N9 [some (V.int b),some (V.int m),some (V.ref a3),some (V.ref a4),some (V.int Y),some (V.ref a6),some (V.str od),some (V.int r),some (V.int u)] i:=by
  refine h9 _ _ (db λf1 bs=>?_);clear h9;walk_at "";by_cases c1:u=1
  .rw[aj c1];refine⟨by simp[tyV],ϊ X gw ⟨bj (by simp),λc t=>?_⟩⟩;generalize a:upd i c _=e;have f:γ i e:=(by rw[<-a];exact γ.new _ t);have q:LS e c [w]:=(congrFun a c).symm.trans aq;clear a;refine z9 (f _ _ S) (by decide) λa9 H9 l N=>om (l _ _ q) N (by rw[cz];show 1+_<=_;lia) λbM o M G=>?_;have Z:∀x∈R.drop (1:Int).toNat,Wd x:=λx hx=>d x (eP hx);have ll:(R.drop (1:Int).toNat).length=n-1:=(by rw[cz,rl];rfl);exact rT (w:=w) (ws:=R.drop (1:Int).toNat) G O Z (by lia) (k _ _ ((s7.trans f).trans (l.trans M)) (lx O Z (by lia) λn' g=>.inl (by rw[b1]at g;injection g with g;lia)))
  rw[ag c1];refine bs _ _ (db λgg bm=>?_);clear bs;walk_at "";by_cases c2:u=2\/u=3
  .rcases c2 with c2|c2
   all_goals first
    | (rw[ag (show ¬u=2 by lia),aj c2])
    | rw[aj c2]
   all_goals
    refine⟨by simp[tyV],ϊ X gw ⟨bj (by simp),λc t=>?_⟩⟩;generalize a:upd i c _=e;have f:γ i e:=(by rw[<-a];exact γ.new _ t);have q:LS e c [w]:=(congrFun a c).symm.trans aq;clear a;refine IA (f _ _ S) W λa9 H9 l N=>om (l _ _ q) N (by rw[bc];show 1+_<=_;lia) λbM o M G=>⟨bj (by simp),λj ai=>?_⟩;generalize a:upd o j _=L;have C:γ o L:=(by rw[<-a];exact γ.new _ ai);have aT:LS L j [od]:=(congrFun a j).symm.trans aq;clear a;have I:=((f.trans l).trans M).trans C;refine om (C _ _ G) aT (by rw[ao,bc];show 1+_+1<=_;lia) λdt dr Y9 a0=>z9 (Y9 _ _ (I _ _ S)) (by lia) λdu dw J ab=>om (J _ _ a0) ab (by rw[ao,ao,bc,cz];show 1+_+1+_<=_;lia) λdx dd ac an=>?_;have Z:∀x∈R.take r.toNat++[od]++R.drop (r+1).toNat,Wd x:=λx hx=>by
     rcases aV.mp hx with hx|hx
     .rcases aV.mp hx with hx|hx
      .exact d x (gu hx)
      .rw[ax.mp hx];exact c7
     .exact d x (eP hx)
    have ll:(R.take r.toNat++[od]++R.drop (r+1).toNat).length<=19:=by
     rw[ao,ao,bc,cz];show _+1+_<=_
     lia
    exact rT (w:=w) (ws:=R.take r.toNat++[od]++R.drop (r+1).toNat) an O Z ll (k _ _ (((s7.trans I).trans Y9).trans (J.trans ac)) (lx O Z ll λn' g=>.inr ⟨od,bi _ (aE _ (.head _)),aS⟩))
  rw[ag (by lia),ag (by lia)];refine bm _ _ (db λf3 bv=>?_);clear bm;have ca:∀x∈w::R,Wd x:=λx hx=>by
   rcases az.mp hx with rfl|hx
   .exact O
   .exact d x hx
  have jl:=(vq (ws:=w::R) (by simp) ca (by rw[aO];lia)).1;have co:(Str.ofString " ").length=1:=by decide +kernel
  have zl:60001<=sizeLine:=by decide
  walk_at "";by_cases c4:u=4
  .rw[aj c4];refine⟨by simp[tyV],ϊ X gw ⟨bj (by simp),λc t=>?_⟩⟩;generalize a:upd i c _=e;have f:γ i e:=(by rw[<-a];exact γ.new _ t);have q:LS e c [w]:=(congrFun a c).symm.trans aq;clear a;refine om q (f _ _ S) (by show 1+_<=_;lia) λa9 H9 l N=>rT (w:=w) (ws:=R) N O d (by lia) ⟨_,rfl,_,rfl,by rw[co];lia,k _ _ ((s7.trans f).trans l) ?_⟩;rw[SJ];refine lx O (λx hx=>?_) (by rw[ao];show _+1<=_;lia) λn' g=>.inr ⟨_,aE _ (.head _),VJ⟩;rcases aV.mp hx with hx|hx
   .exact d x hx
   .rw[ax.mp hx];exact OD
  rw[ag c4];refine bv _ _ (db λgp bS=>?_);clear bv;walk_at "";by_cases c5:u=5
  .rw[aj c5];refine⟨by simp[tyV],ϊ X gw ⟨bj (by simp),λc t=>?_⟩⟩;generalize a:upd i c _=e;have f:γ i e:=(by rw[<-a];exact γ.new _ t);have q:LS e c [w]:=(congrFun a c).symm.trans aq;clear a;refine om q (f _ _ S) (by show 1+_<=_;lia) λa9 H9 l N=>rT (w:=w) (ws:=R) N O d (by lia) ⟨_,rfl,_,rfl,by rw[co];lia,k _ _ ((s7.trans f).trans l) ?_⟩;rw[Mm];exact lx OD ca (by rw[aO];lia) λn' g=>by rw[VG]at g;cases g
  rw[ag c5];refine bS _ _ (db λf2 cl=>?_);clear bS;walk_at "";by_cases c6:u=6
  .rw[aj c6];refine⟨by simp[tyV],ϊ X gw ⟨by simp[tyV],w,rfl,bh b4 (by decide),bj (by simp),λc t=>?_⟩⟩;generalize a:upd i c _=e;have f:γ i e:=(by rw[<-a];exact γ.new _ t);have q:LS e c [Txt.upper w]:=(congrFun a c).symm.trans aq;clear a;exact om q (f _ _ S) (by show 1+_<=_;lia) λa9 H9 l N=>rT (w:=Txt.upper w) (ws:=R) N b5 d (by lia) (k _ _ ((s7.trans f).trans l) (lx b5 d (by lia) λn' g=>by rw[b6]at g;cases g))
  rw[ag c6];refine cl _ _ ?_;clear cl;walk_at "";have dm:(Str.ofString ":").length=1:=by decide +kernel
  refine ϊ X gw ⟨_,rfl,_,rfl,by rw[dm];exact bh (jP b4 1) (by decide),bj (by simp),λc t=>⟨⟨by decide,by decide⟩,by decide,?_⟩⟩;generalize a:upd i c _=e;have f:γ i e:=by rw[<-a];exact γ.new _ t
  have q:LS e c [Str.ofString "",Str.ofString "road 0 1 2 2",Str.ofString "web 1",Str.ofString "puts 0 1",w++Str.ofString ":",Str.ofString "done"]:=(congrFun a c).symm.trans aq;clear a;have q0:=be (b/640) (show(6:Int)≠0 by decide);have q1:=bE (b/640) (show(0:Int)<6 by decide);obtain⟨z,hz⟩:∃z,[Str.ofString "",Str.ofString "road 0 1 2 2",Str.ofString "web 1",Str.ofString "puts 0 1",w++Str.ofString ":",Str.ofString "done"][(b/640%6).toNat]?=some z:=⟨_,aG (show(b/640%6).toNat<6 by lia)⟩;refine ϊ q (jD q0 (v:=V.str z) (by rw[aY,hz];rfl)) (k _ _ (s7.trans f) ?_);have hm:=bd hz;have wc:uw (w++Str.ofString ":"):=by
   have:=lx b7 (ws:=[]) (λx hx=>by cases hx) (by decide) λn' g=>by rw[b8]at g;cases g
   rw[mH]at this;exact this
  have bw:=OJ;simp only[az,cm,or_false]at hm;rcases hm with rfl|rfl|rfl|rfl|rfl|rfl
  .exact bw _ (.head _)
  .exact bw _ (.tail _ (.head _))
  .exact bw _ (.tail _ (.tail _ (.head _)))
  .exact bw _ (.tail _ (.tail _ (.tail _ (.head _))))
  .exact wc
  .exact bw _ (.tail _ (.tail _ (.tail _ (.tail _ (.head _)))))
 by_cases c1:u=1
 .rw[ag (by lia),aj c1];refine ϊ es gs ⟨rfl,?_⟩;rw[ag (λz=>by injection z with z;lia)];exact go
 .rw[ag (by lia),ag c1];exact go
def oH(T:Txt K B):Sp:=λd H Q _=>∃(a m:Int),d=[.int a,.int m]/\1<=m/\m<=24/\∀p z c b,γ H b->b p=some (.tup [.str z,.str (wdA c)])->c<=2->eM m z c->Q (.ref p) b
abbrev jt:Stmt:=top 120
theorem vb:ε ["cell","many","far","place","some"] ["cell","many"] (aw jt):=.of
theorem uO(T:Txt K B)(hq:bC (ς P w)):Ok P w K B base "_law_refused_row" jt ["cell","many"] 1 (oH T):=λ_ _ D=>by
 refine D.F.Ac vb (by walk_at "v") λΖ A e4 s H vs Q E hr h=>?_;obtain⟨e,m,rfl,m1,Ϩ,k⟩:=h;refine⟨_,(au (Χ 2 (aP fB (δ 1) (aP dh (aP eB (δ 0) ay) (aP OI ay ay)))) (au (Χ 3 (ZF dM T.str (aa (aP dh (aP eB (δ 0) ay) (δ 1)) ap))) (au (Χ 4 (cM (aa (dL (aa (aP bH (aP bH aM (ZF dM T.str (aa (δ 2) ap))) aM) (aa aM ap))) (aa (dL (aa (aP bH (aP bH aM (ZF dM T.str (aa (δ 2) ap))) aM) (aa aM ap))) (aa (dL (aa (aP bH aM (ZF dM T.str (aa (δ 2) ap))) (aa aM ap))) ap))))) (au (Χ 4 (aP gn (δ 4) (cM (aa (dL (aa (aP bH aM (ZF dM T.str (aa (δ 1) ap))) (aa aM ap))) (aa (dL (aa (aP bH aM (ZF dM T.str (aa (δ 2) ap))) (aa aM ap))) ap))))) (au (Χ 4 (aP gn (δ 4) (cM (aa (dL (aa (aP bH (aP bH aM (ZF dM T.str (aa (δ 2) ap))) aM) (aa aM ap))) (aa (dL (aa (aP bH (aP bH aM (ZF dM T.str (aa (δ 1) ap))) aM) (aa aM ap))) ap))))) (au (Χ 4 (aP gn (δ 4) (cM (aa (dL (aa (aP bH (aP bH aM (ZF dM T.str (aa (δ 2) ap))) aM) (aa aM ap))) (aa (dL (aa (aP bH (aP bH aM (δ 3)) aM) (aa aM ap))) (aa (dL (aa aM (aa aM ap))) ap)))))) (au (Χ 4 (aP gn (δ 4) (cM (aa (dL (aa (aP bH (aP bH aM (δ 3)) aM) (aa aM ap))) (aa (dL (aa (aP bH (aP bH aM (δ 3)) aM) (aa aM ap))) ap))))) (au (Χ 4 (aP gn (δ 4) (cM (aa (dL (aa (aP bH (aP bH (aP bH (aP bH aM (δ 3)) aM) (δ 3)) aM) (aa aM ap))) (aa (dL (aa (aP bH (aP bH (aP bH (aP bH aM (δ 3)) aM) (ZF dM T.str (aa (δ 2) ap))) aM) (aa aM ap))) ap))))) (au (Χ 4 (aP gn (δ 4) (cM (aa (dL (aa (aP bH (aP bH aM (ZF dM T.str (aa (δ 2) ap))) aM) (aa aM ap))) (aa (dL (aa (aP bH (aP bH aM (ZF dM T.str (aa (δ 1) ap))) aM) (aa aM ap))) ap))))) (aA (bx (Ο bB (δ 4) (aP dh (δ 0) (pcb ik T.len (aa (δ 4) ap))))))))))))))),?_⟩;walk_at "s";refine db λN1 h1=>?_;walk_at "";refine⟨⟨by decide,by decide⟩,⟨by decide,by decide,by decide⟩,by decide,h1 _ _ (db λN2 h2=>?_)⟩;have f0:=be (e/64) (show(10:Int)^Int.toNat 40≠0 by decide);have f1:=bE (e/64) (show(0:Int)<10^Int.toNat 40 by decide);obtain⟨d,ef⟩:∃d:Nat,m+e/64%10^Int.toNat 40=(d:Int):=⟨_,(cK (by lia)).symm⟩;have f2:m<=d:=by lia
 have W:d<10^60:=by
  have:(10:Int)^Int.toNat 40=10000000000000000000000000000000000000000:=by decide
  rw[this]at f1 ef;have:(10:Nat)^60=1000000000000000000000000000000000000000000000000000000000000:=by decide
  lia
 rw[ef];clear ef f0 f1 h1;walk_at "";have v0:=be (e/64) (show m≠0 by lia);have v1:=bE (e/64) (show 0<m by lia);obtain⟨v,ev⟩:∃v:Nat,e/64%m=(v:Int):=⟨_,(cK v0).symm⟩;rw[ev]at v0 v1 ⊢;rw[qI];refine⟨⟨by decide,by decide⟩,by lia,eu (iR _) (by lia),h2 _ _ (db λN3 i=>?_)⟩;obtain⟨y,em⟩:∃y:Nat,m=(y:Int):=⟨_,(cK (by lia)).symm⟩;have U:y<10^60:=aI (show y<25 by lia) (by decide);have u:v<10^60:=Nat.lt_trans (show v<y by lia) U;have bw:m.natAbs.log2<1920:=eu (iR _) (by lia);have o:(d:Int).natAbs.log2<1920:=aI ((Nat.log2_lt (by lia)).mpr (aI (show d<10^60 from W) (show 10^60<=2^200 by decide))) (by decide);have br:Str.ofString (toString m)=FS y:=by rw[em];exact qI y
 have G:Str.ofString (toString (d:Int))=FS d:=qI d;clear ev h2;have bv:m<=y:=by lia
 have C:=fsL W;have lm:=fsL U;have r:=fsL u;have r0:eM m (Str.ofString "put " ++ FS d++Str.ofString " 3") 0:=ua (w:=Str.ofString "put") (k:=3) (by decide +kernel) (by rw[<-X0];decide +kernel) (by decide +kernel) (by decide +kernel) W (by decide) λ_ _=>.inl (.put f2);have r1:eM m (Str.ofString "want " ++ FS d++Str.ofString " 0") 0:=ua (w:=Str.ofString "want") (k:=0) (by decide +kernel) (by rw[<-rf];decide +kernel) (by decide +kernel) (by decide +kernel) W (by decide) λ_ _=>.inl (.want f2);have r2:eM m (Str.ofString "most " ++ FS d) 0:=LU (w:=Str.ofString "most") (by decide +kernel) (by decide +kernel) (by decide +kernel) W λ_ _=>.inr (.most f2);have r3:eM m (Str.ofString "bring " ++ FS y) 0:=LU (w:=Str.ofString "bring") (by decide +kernel) (by decide +kernel) (by decide +kernel) U λ_ _=>.inr (.bring bv);have r4:eM m (Str.ofString "stands " ++ FS d) 0:=LU (w:=Str.ofString "stands") (by decide +kernel) (by decide +kernel) (by decide +kernel) W λ_ _=>.inr (.stands f2);have r5:eM m (Str.ofString "enough " ++ FS d++Str.ofString " 0") 0:=ua (w:=Str.ofString "enough") (k:=0) (by decide +kernel) (by rw[<-rf];decide +kernel) (by decide +kernel) (by decide +kernel) W (by decide) λ_ _=>.inr (.web (.enough f2));have r6:eM m (Str.ofString "worst " ++ FS y++Str.ofString " 2") 0:=ua (w:=Str.ofString "worst") (k:=2) (by decide +kernel) (by rw[<-X1];decide +kernel) (by decide +kernel) (by decide +kernel) U (by decide) λ_ _=>.inr (.web (.worst bv));have r7:eM m (Str.ofString "many " ++ FS d++Str.ofString " 0") 0:=ua (w:=Str.ofString "many") (k:=0) (by decide +kernel) (by rw[<-rf];decide +kernel) (by decide +kernel) (by decide +kernel) W (by decide) λ_ _=>.inr (.web (.many f2));have r8:eM m (Str.ofString "enough " ++ FS v++Str.ofString " 0") 1:=ua (w:=Str.ofString "enough") (k:=0) (by decide +kernel) (by rw[<-rf];decide +kernel) (by decide +kernel) (by decide +kernel) u (by decide) λ_ _=>.inr (.web (.abE v1));have r9:eM m (Str.ofString "hardest 0") 1:=by
  rw[show Str.ofString "hardest 0"=Str.ofString "hardest " ++ FS 0 by rw[<-rf];decide +kernel];exact LU (w:=Str.ofString "hardest") (by decide +kernel) (by decide +kernel) (by decide +kernel) (by decide) λ_ _=>.inr (.web .aaP)
 have fc:eM m (Str.ofString "worst " ++ FS v++Str.ofString " 0") 1:=ua (w:=Str.ofString "worst") (k:=0) (by decide +kernel) (by rw[<-rf];decide +kernel) (by decide +kernel) (by decide +kernel) u (by decide) λ_ _=>.inr (.web (.acA v1));have e7:eM m (Str.ofString "many " ++ FS v++Str.ofString " 0") 1:=ua (w:=Str.ofString "many") (k:=0) (by decide +kernel) (by rw[<-rf];decide +kernel) (by decide +kernel) (by decide +kernel) u (by decide) λ_ _=>.inr (.web (.adX v1));have e6:eM m (Str.ofString "step " ++ FS v++Str.ofString " " ++ FS v++Str.ofString " 1") 2:=Lw (w:=Str.ofString "step") (a:=v) (b:=v) (k:=1) (PR _ _) (by decide +kernel) (by decide +kernel) u u (by decide) λ_ _=>.inl (.step (.inr (.inr rfl)));have eI:eM m (Str.ofString "step " ++ FS v++Str.ofString " " ++ FS d++Str.ofString " 1") 2:=Lw (w:=Str.ofString "step") (a:=v) (b:=d) (k:=1) (PR _ _) (by decide +kernel) (by decide +kernel) u W (by decide) λ_ _=>.inl (.step (.inr (.inl f2)));have e0:eM m (Str.ofString "step " ++ FS d++Str.ofString " 0 1") 2:=Lw (w:=Str.ofString "step") (a:=d) (b:=0) (k:=1) (Wg _) (by decide +kernel) (by decide +kernel) W (by decide) (by decide) λ_ _=>.inl (.step (.inl f2));have e3:eM m (Str.ofString "step 0 " ++ FS y++Str.ofString " 0") 2:=Lw (w:=Str.ofString "step") (a:=0) (b:=y) (k:=0) (WS _) (by decide +kernel) (by decide +kernel) (by decide) U (by decide) λ_ _=>.inl (.step (.inr (.inl bv)));walk_at "";rw[G];refine⟨o,_,rfl,_,rfl,Y7 (cZ "put ") (C),_,rfl,_,rfl,Y7 (Z1 (cZ "put ") (C)) (cZ " 3"),bj (by simp),λI n0=>?_⟩;generalize c:upd H I _=K0;have s0:γ H K0:=by rw[<-c];exact γ.new _ n0
 have t0:TS K0 [I] [(Str.ofString "put " ++ FS d++Str.ofString " 3",0)]:=.cons ((congrFun c I).symm.trans aq) .nil;clear c n0;refine⟨o,_,rfl,_,rfl,Y7 (cZ "want ") (C),_,rfl,_,rfl,Y7 (Z1 (cZ "want ") (C)) (cZ " 0"),bj (by simp),λM n1=>?_⟩;generalize c:upd K0 M _=K1;have s1:γ K0 K1:=by rw[<-c];exact γ.new _ n1
 have t1:TS K1 [M] [(Str.ofString "want " ++ FS d++Str.ofString " 0",0)]:=.cons ((congrFun c M).symm.trans aq) .nil;clear c n1;refine⟨o,_,rfl,_,rfl,Y7 (cZ "most ") (C),bj (by simp),λJ n2=>?_⟩;generalize c:upd K1 J _=K2;have s2:γ K1 K2:=by rw[<-c];exact γ.new _ n2
 have t2:TS K2 [J] [(Str.ofString "most " ++ FS d,0)]:=.cons ((congrFun c J).symm.trans aq) .nil;clear c n2;refine⟨bj (by simp),λl0 c6=>?_⟩;generalize c:upd K2 l0 _=L0;have a4:γ K2 L0:=by rw[<-c];exact γ.new _ c6
 have e1:L0 l0=some (.lst ([I,M,J].map V.ref)):=(congrFun c l0).symm.trans aq;clear c c6;have fp:=(fL (fL (TS.same a4 t2) (TS.same a4 (TS.same s2 t1))) (TS.same a4 (TS.same s2 (TS.same s1 t0))));have S0:γ H L0:=(γ.trans (γ.trans (γ.trans s0 s1) s2) a4);have dl:=e1;have T0:=fp;have A0:=l0;refine i _ _ (db λN4 h4=>?_);clear i;clear s0 t0 s1 t1 s2 t2;walk_at "";rw[G,br];refine⟨bw,_,rfl,_,rfl,Y7 (cZ "bring ") (lm),bj (by simp),λL n3=>?_⟩;generalize c:upd L0 L _=K3;have s3:γ L0 K3:=by rw[<-c];exact γ.new _ n3
 have t3:TS K3 [L] [(Str.ofString "bring " ++ FS y,0)]:=.cons ((congrFun c L).symm.trans aq) .nil;clear c n3;refine⟨o,_,rfl,_,rfl,Y7 (cZ "stands ") (C),bj (by simp),λN n4=>?_⟩;generalize c:upd K3 N _=K4;have s4:γ K3 K4:=by rw[<-c];exact γ.new _ n4
 have t4:TS K4 [N] [(Str.ofString "stands " ++ FS d,0)]:=.cons ((congrFun c N).symm.trans aq) .nil;clear c n4;refine⟨bj (by simp),λl1 dx=>?_⟩;generalize c:upd K4 l1 _=L1;have ac:γ K4 L1:=by rw[<-c];exact γ.new _ dx
 have cT:L1 l1=some (.lst ([L,N].map V.ref)):=(congrFun c l1).symm.trans aq;clear c dx;have b3:=(fL (TS.same ac t4) (TS.same ac (TS.same s4 t3)));have aT:γ L0 L1:=(γ.trans (γ.trans s3 s4) ac);refine u7 (aT _ _ dl) cT (bj (by simp)) λm1 ds=>?_;generalize c:upd L1 m1 _=M1;have af:γ L1 M1:=by rw[<-c];exact γ.new _ ds
 have dd:M1 m1=some (.lst ([I,M,J,L,N].map V.ref)):=(congrFun c m1).symm.trans aq;clear c ds;have T1:=fL (TS.same af b3) (TS.same af (TS.same aT T0));have S1:γ H M1:=S0.trans (aT.trans af);refine h4 _ _ (db λN5 h5=>?_);clear h4;clear s3 t3 s4 t4 aT af ac cT b3 dl T0 S0;walk_at "";rw[G,br];refine⟨o,_,rfl,_,rfl,Y7 (cZ "enough ") (C),_,rfl,_,rfl,Y7 (Z1 (cZ "enough ") (C)) (cZ " 0"),bj (by simp),λS n5=>?_⟩;generalize c:upd M1 S _=K5;have s5:γ M1 K5:=by rw[<-c];exact γ.new _ n5
 have t5:TS K5 [S] [(Str.ofString "enough " ++ FS d++Str.ofString " 0",0)]:=.cons ((congrFun c S).symm.trans aq) .nil;clear c n5;refine⟨bw,_,rfl,_,rfl,Y7 (cZ "worst ") (lm),_,rfl,_,rfl,Y7 (Z1 (cZ "worst ") (lm)) (cZ " 2"),bj (by simp),λR n6=>?_⟩;generalize c:upd K5 R _=K6;have s6:γ K5 K6:=by rw[<-c];exact γ.new _ n6
 have t6:TS K6 [R] [(Str.ofString "worst " ++ FS y++Str.ofString " 2",0)]:=.cons ((congrFun c R).symm.trans aq) .nil;clear c n6;refine⟨bj (by simp),λl2 dt=>?_⟩;generalize c:upd K6 l2 _=L2;have ad:γ K6 L2:=by rw[<-c];exact γ.new _ dt
 have dr:L2 l2=some (.lst ([S,R].map V.ref)):=(congrFun c l2).symm.trans aq;clear c dt;have b5:=(fL (TS.same ad t6) (TS.same ad (TS.same s6 t5)));have ae:γ M1 L2:=(γ.trans (γ.trans s5 s6) ad);refine u7 (ae _ _ dd) dr (bj (by simp)) λm2 cp=>?_;generalize c:upd L2 m2 _=M2;have a6:γ L2 M2:=by rw[<-c];exact γ.new _ cp
 have dT:M2 m2=some (.lst ([I,M,J,L,N,S,R].map V.ref)):=(congrFun c m2).symm.trans aq;clear c cp;have T2:=fL (TS.same a6 b5) (TS.same a6 (TS.same ae T1));have S2:γ H M2:=S1.trans (ae.trans a6);refine h5 _ _ (db λN6 h6=>?_);clear h5;clear s5 t5 s6 t6 ae a6 ad dr b5 dd T1 S1;walk_at "";rw[G];refine⟨o,_,rfl,_,rfl,Y7 (cZ "many ") (C),_,rfl,_,rfl,Y7 (Z1 (cZ "many ") (C)) (cZ " 0"),bj (by simp),λY n7=>?_⟩;generalize c:upd M2 Y _=K7;have s7:γ M2 K7:=by rw[<-c];exact γ.new _ n7
 have t7:TS K7 [Y] [(Str.ofString "many " ++ FS d++Str.ofString " 0",0)]:=.cons ((congrFun c Y).symm.trans aq) .nil;clear c n7;refine⟨_,rfl,_,rfl,Y7 (cZ "enough ") (r),_,rfl,_,rfl,Y7 (Z1 (cZ "enough ") (r)) (cZ " 0"),bj (by simp),λX n8=>?_⟩;generalize c:upd K7 X _=K8;have s8:γ K7 K8:=by rw[<-c];exact γ.new _ n8
 have t8:TS K8 [X] [(Str.ofString "enough " ++ FS v++Str.ofString " 0",1)]:=.cons ((congrFun c X).symm.trans aq) .nil;clear c n8;refine⟨bj (by simp),λZ n9=>?_⟩;generalize c:upd K8 Z _=K9;have s9:γ K8 K9:=by rw[<-c];exact γ.new _ n9
 have t9:TS K9 [Z] [(Str.ofString "hardest 0",1)]:=.cons ((congrFun c Z).symm.trans aq) .nil;clear c n9;refine⟨bj (by simp),λl3 dK=>?_⟩;generalize c:upd K9 l3 _=L3;have O:γ K9 L3:=by rw[<-c];exact γ.new _ dK
 have cw:L3 l3=some (.lst ([Y,X,Z].map V.ref)):=(congrFun c l3).symm.trans aq;clear c dK;have ct:=(fL (fL (TS.same O t9) (TS.same O (TS.same s9 t8))) (TS.same O (TS.same s9 (TS.same s8 t7))));have a1:γ M2 L3:=(γ.trans (γ.trans (γ.trans s7 s8) s9) O);refine u7 (a1 _ _ dT) cw (bj (by simp)) λm3 c8=>?_;generalize c:upd L3 m3 _=M3;have aC:γ L3 M3:=by rw[<-c];exact γ.new _ c8
 have dn:M3 m3=some (.lst ([I,M,J,L,N,S,R,Y,X,Z].map V.ref)):=(congrFun c m3).symm.trans aq;clear c c8;have T3:=fL (TS.same aC ct) (TS.same aC (TS.same a1 T2));have S3:γ H M3:=S2.trans (a1.trans aC);refine h6 _ _ (db λN7 h7=>?_);clear h6;clear s7 t7 s8 t8 s9 t9 a1 aC O cw ct dT T2 S2;walk_at "";refine⟨_,rfl,_,rfl,Y7 (cZ "worst ") (r),_,rfl,_,rfl,Y7 (Z1 (cZ "worst ") (r)) (cZ " 0"),bj (by simp),λf ca=>?_⟩;generalize c:upd M3 f _=ar;have d1:γ M3 ar:=by rw[<-c];exact γ.new _ ca
 have dV:TS ar [f] [(Str.ofString "worst " ++ FS v++Str.ofString " 0",1)]:=.cons ((congrFun c f).symm.trans aq) .nil;clear c ca;refine⟨_,rfl,_,rfl,Y7 (cZ "many ") (r),_,rfl,_,rfl,Y7 (Z1 (cZ "many ") (r)) (cZ " 0"),bj (by simp),λj dm=>?_⟩;generalize c:upd ar j _=a7;have bm:γ ar a7:=by rw[<-c];exact γ.new _ dm
 have cs:TS a7 [j] [(Str.ofString "many " ++ FS v++Str.ofString " 0",1)]:=.cons ((congrFun c j).symm.trans aq) .nil;clear c dm;refine⟨bj (by simp),λl4 dp=>?_⟩;generalize c:upd a7 l4 _=L4;have a3:γ a7 L4:=by rw[<-c];exact γ.new _ dp
 have du:L4 l4=some (.lst ([f,j].map V.ref)):=(congrFun c l4).symm.trans aq;clear c dp;have ea:=(fL (TS.same a3 cs) (TS.same a3 (TS.same bm dV)));have a5:γ M3 L4:=(γ.trans (γ.trans d1 bm) a3);refine u7 (a5 _ _ dn) du (bj (by simp)) λm4 cv=>?_;generalize c:upd L4 m4 _=M4;have ab:γ L4 M4:=by rw[<-c];exact γ.new _ cv
 have d2:M4 m4=some (.lst ([I,M,J,L,N,S,R,Y,X,Z,f,j].map V.ref)):=(congrFun c m4).symm.trans aq;clear c cv;have T4:=fL (TS.same ab ea) (TS.same ab (TS.same a5 T3));have S4:γ H M4:=S3.trans (a5.trans ab);refine h7 _ _ (db λN8 h8=>?_);clear h7;clear d1 dV bm cs a5 ab a3 du ea dn T3 S3;walk_at "";rw[G];refine⟨_,rfl,_,rfl,Y7 (cZ "step ") (r),_,rfl,_,rfl,Y7 (Z1 (cZ "step ") (r)) (cZ " "),_,rfl,_,rfl,Y7 (Z1 (Z1 (cZ "step ") (r)) (cZ " ")) (r),_,rfl,_,rfl,Y7 (Z1 (Z1 (Z1 (cZ "step ") (r)) (cZ " ")) (r)) (cZ " 1"),bj (by simp),λl cB=>?_⟩;generalize c:upd M4 l _=an;have Y9:γ M4 an:=by rw[<-c];exact γ.new _ cB
 have dG:TS an [l] [(Str.ofString "step " ++ FS v++Str.ofString " " ++ FS v++Str.ofString " 1",2)]:=.cons ((congrFun c l).symm.trans aq) .nil;clear c cB;refine⟨_,rfl,_,rfl,Y7 (cZ "step ") (r),_,rfl,_,rfl,Y7 (Z1 (cZ "step ") (r)) (cZ " "),o,_,rfl,_,rfl,Y7 (Z1 (Z1 (cZ "step ") (r)) (cZ " ")) (C),_,rfl,_,rfl,Y7 (Z1 (Z1 (Z1 (cZ "step ") (r)) (cZ " ")) (C)) (cZ " 1"),bj (by simp),λn dw=>?_⟩;generalize c:upd an n _=aS;have bs:γ an aS:=by rw[<-c];exact γ.new _ dw
 have cd:TS aS [n] [(Str.ofString "step " ++ FS v++Str.ofString " " ++ FS d++Str.ofString " 1",2)]:=.cons ((congrFun c n).symm.trans aq) .nil;clear c dw;refine⟨bj (by simp),λl5 c0=>?_⟩;generalize c:upd aS l5 _=L5;have al:γ aS L5:=by rw[<-c];exact γ.new _ c0
 have cc:L5 l5=some (.lst ([l,n].map V.ref)):=(congrFun c l5).symm.trans aq;clear c c0;have cu:=(fL (TS.same al cd) (TS.same al (TS.same bs dG)));have bf:γ M4 L5:=(γ.trans (γ.trans Y9 bs) al);refine u7 (bf _ _ d2) cc (bj (by simp)) λm5 c5=>?_;generalize c:upd L5 m5 _=M5;have a8:γ L5 M5:=by rw[<-c];exact γ.new _ c5
 have cI:M5 m5=some (.lst ([I,M,J,L,N,S,R,Y,X,Z,f,j,l,n].map V.ref)):=(congrFun c m5).symm.trans aq;clear c c5;have T5:=fL (TS.same a8 cu) (TS.same a8 (TS.same bf T4));have S5:γ H M5:=S4.trans (bf.trans a8);refine h8 _ _ (db λN9 h9=>?_);clear h8;clear Y9 dG bs cd bf a8 al cc cu d2 T4 S4;walk_at "";rw[G,br];refine⟨o,_,rfl,_,rfl,Y7 (cZ "step ") (C),_,rfl,_,rfl,Y7 (Z1 (cZ "step ") (C)) (cZ " 0 1"),bj (by simp),λt b4=>?_⟩;generalize c:upd M5 t _=a0;have cl:γ M5 a0:=by rw[<-c];exact γ.new _ b4
 have cH:TS a0 [t] [(Str.ofString "step " ++ FS d++Str.ofString " 0 1",2)]:=.cons ((congrFun c t).symm.trans aq) .nil;clear c b4;refine⟨bw,_,rfl,_,rfl,Y7 (cZ "step 0 ") (lm),_,rfl,_,rfl,Y7 (Z1 (cZ "step 0 ") (lm)) (cZ " 0"),bj (by simp),λz dP=>?_⟩;generalize c:upd a0 z _=a2;have bz:γ a0 a2:=by rw[<-c];exact γ.new _ dP
 have b7:TS a2 [z] [(Str.ofString "step 0 " ++ FS y++Str.ofString " 0",2)]:=.cons ((congrFun c z).symm.trans aq) .nil;clear c dP;refine⟨bj (by simp),λl6 ce=>?_⟩;generalize c:upd a2 l6 _=L6;have ai:γ a2 L6:=by rw[<-c];exact γ.new _ ce
 have d7:L6 l6=some (.lst ([t,z].map V.ref)):=(congrFun c l6).symm.trans aq;clear c ce;have c4:=(fL (TS.same ai b7) (TS.same ai (TS.same bz cH)));have a9:γ M5 L6:=(γ.trans (γ.trans cl bz) ai);refine u7 (a9 _ _ cI) d7 (bj (by simp)) λm6 c3=>?_;generalize c:upd L6 m6 _=g;have bk:γ L6 g:=by rw[<-c];exact γ.new _ c3
 have c1:g m6=some (.lst ([I,M,J,L,N,S,R,Y,X,Z,f,j,l,n,t,z].map V.ref)):=(congrFun c m6).symm.trans aq;clear c c3;have T6:=fL (TS.same bk c4) (TS.same bk (TS.same a9 T5));have p:γ H g:=S5.trans (a9.trans bk);refine h9 _ _ ?_;clear h9;clear cl cH bz b7 a9 bk ai d7 c4 cI T5 S5;walk_at "";refine⟨_,.inl (Η.of c1),show(0:Int)<16 by decide,?_⟩;rw[show(([I,M,J,L,N,S,R,Y,X,Z,f,j,l,n,t,z].map V.ref).length:Int)=16 from rfl];have i0:=be e (show(16:Int)≠0 by decide);have i1:=bE e (show(0:Int)<16 by decide);obtain⟨x,hx⟩:∃x,([I,M,J,L,N,S,R,Y,X,Z,f,j,l,n,t,z].map V.ref)[(e%16).toNat]?=some x:=⟨_,aG (show(e%16).toNat<16 by lia)⟩;obtain⟨q,zc,rfl,_,h2,i⟩:=IK T6 hx;refine ϊ c1 (jD i0 hx) ?_;have hm:=bd h2;simp only[List.cons_append,jh,az,cm,or_false]at hm;rcases hm with rfl|rfl|rfl|rfl|rfl|rfl|rfl|rfl|rfl|rfl|rfl|rfl|rfl|rfl|rfl|rfl
 .exact k q _ 0 g p i (by decide) r0
 .exact k q _ 0 g p i (by decide) r1
 .exact k q _ 0 g p i (by decide) r2
 .exact k q _ 0 g p i (by decide) r3
 .exact k q _ 0 g p i (by decide) r4
 .exact k q _ 0 g p i (by decide) r5
 .exact k q _ 0 g p i (by decide) r6
 .exact k q _ 0 g p i (by decide) r7
 .exact k q _ 1 g p i (by decide) r8
 .exact k q _ 1 g p i (by decide) r9
 .exact k q _ 1 g p i (by decide) fc
 .exact k q _ 1 g p i (by decide) e7
 .exact k q _ 2 g p i (by decide) e6
 .exact k q _ 2 g p i (by decide) eI
 .exact k q _ 2 g p i (by decide) e0
 .exact k q _ 2 g p i (by decide) e3
def xQ(T:Txt K B):Sp:=λe H Q _=>E4 λ(c o m b:Int)=>e=[.int c,.int o,.int m,.int b]/\0<=m/\m<=1000/\0<b/\b<1000000000000000000/\∀(l:Addr)(a:ej)(d:Hp),H l=none->γ H d->d l=some (.lst (a.map V.int))->(a.length:Int)=m->(∀x∈a,0<=x)->Q (.ref l) d
abbrev oA:Stmt:=top 116
theorem Mg:ε ["cell","mode","many","base","found","rest","k","m"] ["cell","mode","many","base"] (aw oA):=.of
theorem wE:iD (aw oA) "range":=.of (by kernel_rfl)
theorem Nq(T:Txt K B)(hq:bC (ς P w)):Ok P w K B base "_law_row" oA ["cell","mode","many","base"] 1 (xQ T):=λ_ _ D=>by
 refine D.F.Ac Mg (by walk_at "v") λW A t s H vs Q E Z h=>?_;obtain⟨c,o,m,b,rfl,X,m1,I,b1,k⟩:=h;refine⟨_,(au (Χ 4 (cM ap)) (au (Χ 5 (δ 0)) (au (iA PassesOwn.never rfl (qG wE.g T.range (aa (δ 2) ap)) (Zj 6) (aA (cf (ϧ cY (δ 1) ay) (au (bU (iH PySem.F.plainAttrs_list PySem.F.slot_list_append PySem.F.type_list_append eR (δ 4) (aa (aP dh (δ 5) (δ 3)) ap))) (aA (Χ 5 (aP QC (δ 5) (δ 3))))) (au (Χ 7 (aP dh (aP pQ (aP fB (aP fB (aP dh (δ 0) ay) (aP pQ ay (δ 6))) ay) ay) ay)) (au (Χ 7 (aP dh (aP pQ (aP dh (aP pQ (δ 7) (δ 7)) ay) ay) ay)) (aA (bU (iH PySem.F.plainAttrs_list PySem.F.slot_list_append PySem.F.type_list_append eR (δ 4) (aa (aP eB (δ 7) ay) ap))))))))) (aA (bx (δ 4)))))),?_⟩;walk_at "s";walk_at "";refine⟨by decide,λl j=>?_⟩;refine⟨by lia,by lia,?_⟩;refine yk (λi u f=>γ H f/\E4 λ(a:ej)(r:Int)(p n:Option V)=>f l=some (.lst (a.map V.int))/\a.length=i/\(∀x∈a,0<=x)/\u=[some (V.int c),some (V.int o),some (V.int m),some (V.int b),some (V.ref l),some (V.int r),p,n]) ⟨γ.new _ j,[],c,_,_,aq,rfl,(λx q=>absurd q cm),rfl⟩ ?_ ?_
 .rintro i u f N hN hi ⟨s2,a,r,p,n,e2,xl,x0,rfl⟩;have S:(0:Int)+(i:Int)=(i:Int):=by lia
  rw[S];walk_at "";have C:(a.map V.int).length<sizeLine:=gi (by rw[am];lia);have d:∀y:Int,0<=y->∀x∈a++[y],0<=x:=λy M x q=>by
   rcases aV.mp q with h|h
   .exact x0 x h
   .rw[ax.mp h];exact M
  by_cases z:o=0
  .rw[aj z];refine⟨tyL e2,I,re e2 C ⟨⟨I,by lia⟩,hN _ _ ⟨s2.put j _,a++[r%b],_,_,_,?_,by rw[ao,xl];rfl,d _ (be _ (by lia)),rfl⟩⟩⟩;rw[aq,aQ]
   rfl
  .rw[ag z];have J:=be c (show(998244353:Int)≠0 by decide);have U:=bE c (show(0:Int)<998244353 by decide);generalize c%998244353=v at J U ⊢;have R:=be ((v+7919*(i:Int)+11)*48271) (show(2147483647:Int)≠0 by decide);have L:=bE ((v+7919*(i:Int)+11)*48271) (show(0:Int)<2147483647 by decide);refine⟨by decide,.inl ⟨by decide,by decide⟩,.inr ⟨by decide,by decide⟩,by decide,?_⟩;generalize (v+7919*(i:Int)+11)*48271%2147483647=e at R L ⊢;have Y:=be (e*e) (show(2147483629:Int)≠0 by decide);refine⟨.inl ⟨by lia,by lia⟩,by decide,.inr ⟨by decide,by decide⟩,by decide,?_⟩;have G:=be (e*e%2147483629*40692) (show(2147483399:Int)≠0 by decide);generalize e*e%2147483629*40692%2147483399=O at G ⊢;refine⟨tyL e2,⟨by decide,by decide⟩,re e2 C (hN _ _ ⟨s2.put j _,a++[O/7],_,_,_,?_,by rw[ao,xl];rfl,d _ (Int.ediv_nonneg G (by decide)),rfl⟩)⟩;rw[aq,aQ]
   rfl
 .rintro u f ⟨s2,a,r,p,n,e2,xl,x0,rfl⟩;exact⟨_,rfl,k l a f j s2 e2 (by lia) x0⟩
theorem wq{d c:Type}{R:d->c->Prop}:∀(n:Nat){b:List d}{a:List c},Paired R b a->Paired R (b.take n) (a.take n)
 | 0,_,_,_=>by rw[dy,dy];exact .nil
 | _+1,_,_,.nil=>.nil
 | n+1,_,_,.cons x xs=>.cons x (wq n xs)
theorem wr{d c:Type}{R:d->c->Prop}:∀(n:Nat){b:List d}{a:List c},Paired R b a->Paired R (b.drop n) (a.drop n)
 | 0,_,_,h=>h
 | _+1,_,_,.nil=>.nil
 | n+1,_,_,.cons x xs=>wr n xs
theorem zf{f e:Type}{R:f->e->Prop}{a:List f}{b:List e}(h:Paired R a b):∀{d:List f}{c:List e},Paired R d c->Paired R (d++a) (c++b)
 | _,_,.nil=>h
 | _,_,.cons x xs=>.cons x (zf h xs)
theorem ω.ins{H:Hp}{b:fx}{a:hD}{q:Addr}{r:Road}(n:Nat)(h:ω H b a)(e:H q=some (.tup (pi r))):ω H (b.take n++q::b.drop n) (a.take n++r::a.drop n):=zf (R:=λp r=>H p=some (.tup (pi r))) (.cons e (wr n h)) (wq n h)
theorem Dt{H:Hp}{p:Addr}(o:HO):∀b u,H b=some u->b≠p->upd H p o b=some u:=λb u h n=>by rw[aU n];exact h
def kN(m s:Int):List Int:=(dE m.toNat).map λv=>(v+s)%m
theorem Bd{m s v:Int}(a:0<=v)(b:v<m):(kN m s).getD v.toNat 0=(v+s)%m:=by
 unfold kN;rw[List.getD,aY,qH (by lia),cK a]
 rfl
theorem SV{m s a b:Int}(j:0<=a)(h:a<m)(i:0<=b)(l:b<m)(e:(a+s)%m=(b+s)%m):a=b:=by
 have g:=Int.emod_emod_of_dvd (a+s) (Int.dvd_refl m);have d:(a-b)%m=0:=by
  have:=Int.emod_eq_emod_iff_emod_sub_eq_zero.mp e
  rwa [show a+s-(b+s)=a-b by lia]at this
 obtain⟨k,c⟩:=Int.dvd_of_emod_eq_zero d;have f:0<m:=by lia
 have:k=0:=by
  rcases Int.lt_trichotomy k 0 with z|z|z
  .have:m*k<=m*(-1):=gD (by lia) (by lia)
   lia
  .exact z
  .have:m*1<=m*k:=gD (by lia) (by lia)
   lia
 rw[this]at c
 lia
theorem Sf{m s:Int}(g:1<=m):ZN m.toNat (kN m s) where
 len:=by unfold kN;rw[am,ip]
 nd:=by
  unfold kN;refine List.pairwise_map.mpr ((lZ m.toNat).imp_of_mem λ{a b} ha hb h e=>h ?_);obtain⟨a0,a1⟩:=gv.mp ha;obtain⟨b0,b1⟩:=gv.mp hb;exact SV a0 (by lia) b0 (by lia) e
 all:=λv f d=>by
  unfold kN;refine bu.mpr ⟨(v-s)%m,gv.mpr ⟨be _ (by lia),?_⟩,?_⟩
  .have:=bE (v-s) (show 0<m by lia)
   lia
  .rw[Int.emod_add_emod,show v-s+s=v by lia,Int.emod_eq_of_lt f (by lia)]
 iS:=λv c=>by
  unfold kN at c;obtain⟨u,_,rfl⟩:=bu.mp c;have d:=be (u+s) (show m≠0 by lia);have i:=bE (u+s) (show 0<m by lia)
  lia
def uS(T:Txt K B):Sp:=λe H Q _=>∃(a:Addr)(f:ej),e=[.ref a]/\Η K H a (f.map V.int)/\∀(t l:Addr)(m:Int)(d:fx)(c:hD)(b:Hp),H t=none->H l=none->γ H b->b t=some (.tup [.int m,.ref l])->b l=some (.lst (d.map V.ref))->ω b d c->Good m c->m<=5->Q (.ref t) b
abbrev mn:Stmt:=top 118
theorem Ez:ε ["script","mode","shape","tolls","many","roads","k","one","other","there","back","road"] ["script"] (aw mn):=.of
theorem u9:iD (aw mn) "range":=.of (by kernel_rfl)
theorem Fm(T:Txt K B)(M:bC (ς P w))(gP:Cb P w K B base "_law_cell" m9 ["script","k"] 1 (rc T))(qp:Cb P w K B base "_law_row" oA ["cell","mode","many","base"] 1 (xQ T))(qN:Cb P w K B base "_law_tolls" oh ["t"] 1 (vd T)):Ok P w K B base "_law_roads" mn ["script"] 2 (uS T):=λ_ _ D=>by
 refine D.F.Ac Ez (by walk_at "v") λΖ A bl s H vs Q E Z h=>?_;obtain⟨a,ns,rfl,ha,k⟩:=h;refine⟨_,(au (Χ 1 (aP dh (Zx gP Z M (aa (δ 0) (aa ay ap))) ay)) (au (Χ 2 (Zx qp Z M (aa (aP eB (Zx gP Z M (aa (δ 0) (aa ay ap))) ay) (aa (δ 1) (aa ay (aa ay ap)))))) (au (Χ 3 (Zx qp Z M (aa (Zx gP Z M (aa (δ 0) (aa ay ap))) (aa (δ 1) (aa ay (aa (aP pQ ay (aP OI ay ay)) ap)))))) (au (Χ 4 (aP fB ay (aP dh (Ο bB (δ 2) ay) ay))) (au (Χ 5 (cM ap)) (au (iA PassesOwn.never rfl (PP u9.g T.range (aa ay (aa (δ 4) ap))) (Zj 6) (au (Χ 7 (aP dh (aP fB (aP dh (Ο bB (δ 2) (aP fB (δ 6) ay)) (δ 6)) (Ο bB (δ 2) ay)) (δ 4))) (au (Χ 8 (aP dh (aP fB (δ 6) (Ο bB (δ 2) ay)) (δ 4))) (au (rj (Zx qN Z M (aa (Ο bB (δ 3) (δ 6)) ap)) (mV (n:=2) rfl (dH (Zj 9) (dH (Zj 10) lJ)))) (au (Χ 11 (dL (aa (δ 7) (aa (δ 8) (aa (δ 9) (aa (δ 10) ap)))))) (au (cf (rp cY (aP dh (aP eB (Ο bB (δ 2) (aP fB (δ 6) ay)) ay) ay) ay (mf _)) (aA (Χ 11 (dL (aa (δ 8) (aa (δ 7) (aa (δ 10) (aa (δ 9) ap))))))) bK) (aA (bU (iH PySem.F.plainAttrs_list iL PySem.F.type_list_insert PH (δ 5) (aa (aP dh (aP eB (Ο bB (δ 2) (aP fB (δ 6) ay)) ay) (aP fB (pcb ik T.len (aa (δ 5) ap)) ay)) (aa (δ 11) ap))))))))))) (aA (bx (dL (aa (δ 4) (aa (δ 5) ap))))))))))),?_⟩;walk_at "s";have em:∀(x n:Int),0<n->0<=x%n/\x%n<n:=λx n h=>⟨be x (Int.ne_of_gt h),bE x h⟩;have cd:∀x n:Int,0<n->n<1073741824->wT x n:=λx n h1 h2=>⟨h1,h2⟩;refine db λN1 h1=>?_;walk_at "";refine⟨a,ns,0,rfl,ha,by decide,λc0=>⟨c0,rfl,by decide,h1 _ _ (db λN2 h2=>?_)⟩⟩;walk_at "";refine⟨a,ns,0,rfl,ha,by decide,λc1=>⟨c1,rfl,cd _ _ (by decide) (by decide),?_⟩⟩;refine⟨_,_,8,9600,rfl,by decide,by decide,by decide,by decide,λls U H1 n1 s1 e1 dp aS=>h2 _ _ (db λN3 h3=>?_)⟩;walk_at "";refine⟨a,ns,1,rfl,γ.seq s1 ha,by decide,λc2=>⟨⟨by decide,by decide,by decide⟩,.inl ⟨by decide,by decide⟩,?_⟩⟩;refine⟨_,_,8,_,rfl,by decide,by decide,by decide,by decide,λlt ts H2 n2 s2 e2 tl t0=>h3 _ _ (db λN4 h4=>?_)⟩;walk_at "";have aC:=s2 _ _ e1;have Y:=s1.trans s2;have g0:=atG (xs:=U) (i:=0) (by decide) (by lia);have g1:=atG (xs:=U) (i:=1) (by decide) (by lia);have p1:0<=U.getD (1:Int).toNat 0:=Iq aS _;generalize U.getD (0:Int).toNat 0=w0 at g0 ⊢;generalize U.getD (1:Int).toNat 0=e at g1 p1 ⊢;refine ϊ aC g0 ⟨w0,rfl,by decide,?_⟩;have mm:=em w0 5 (by decide);obtain⟨m,al⟩:∃m,m=1+w0%5:=⟨_,rfl⟩;rw[<-al];have m1:1<=m:=by lia
 have Ϩ:m<=5:=by lia
 clear al mm;refine h4 _ _ (db λN6 h6=>?_);walk_at "";refine⟨by decide,λlo X=>h6 _ _ (db λN7 h7=>?_)⟩;walk_at "";refine⟨1,m,⟨rfl,rfl⟩,⟨by decide,by decide,by lia,by lia⟩,?_⟩;have br:H lo=none:=Y.free X;refine yR (λi σ S=>E9 λ(o:fx)(W:hD)(b:List Row)(v6 v7 v8 v9 l v:Option V)=>σ=[some (V.ref a),some (V.int (c0%2)),some (V.ref ls),some (V.ref lt),some (V.int m),some (V.ref lo),v6,v7,v8,v9,l,v]/\γ H2 S/\S lo=some (.lst (o.map V.ref))/\ω S o W/\Rows i b/\Put (kN m e) b W) ⟨[],[],[],_,_,_,_,_,_,rfl,γ.new _ X,aq,.nil,⟨rfl,λi r h=>by cases h⟩,Put.nil _⟩ ?_ ?_
 .rintro i σ S N BB ZS hN hi ⟨o,W,b,v6,v7,v8,v9,l,v,rfl,s3,hl3,ro3,R,P⟩;refine ZS _ _ ?_;have k0:(1:Int)<=1+(i:Int):=by lia
  have k1:1+(i:Int)<m:=by lia
  generalize hk:(1:Int)+(i:Int)=d at k0 k1 ⊢;have d1:o.length=W.length:=Paired.length ro3;have rl:=R.len;have pl:=P.len;have gk:=atG (xs:=U) (i:=d+1) (by lia) (by lia);have pk:0<=U.getD (d+1).toNat 0:=Iq aS _;generalize U.getD (d+1).toNat 0=I at gk pk;have gt:=atG (xs:=ts) (i:=d) (by lia) (by lia);generalize ts.getD d.toNat 0=tk at gt;have G:=s3 _ _ aC;have b6:=s3 _ _ e2;have hg:=em I d (by lia);obtain⟨u,bz⟩:∃u,u=I%d:=⟨_,rfl⟩;have u0:0<=u:=by lia
  have u1:u<d:=by lia
  refine db λM2 a7=>?_;walk_at "";refine ϊ G gk ⟨I,rfl,by lia,ϊ G g1 ⟨e,rfl,by lia,a7 _ _ (db λM3 bv=>?_)⟩⟩;rw[<-bz];walk_at "";refine ϊ G g1 ⟨e,rfl,by lia,bv _ _ (db λM4 a4=>?_)⟩;walk_at "";refine ϊ b6 gt ?_;refine⟨tk,rfl,λq2 C L b7 ae t1 b0 b1=>?_⟩;have s5:=γ.new (.tup [.int C,.int L]) b7;refine⟨q2,rfl,_,Ξ.of aq,rfl,_,_,rfl,_,_,rfl,rfl,a4 _ _ (db λM5 bs=>?_)⟩;walk_at "";refine⟨bj (by simp),λq3 cc=>bs _ _ (db λM6 af=>?_)⟩;walk_at "";have s6:=γ.new (.tup [.int ((u+e)%m),.int ((d+e)%m),.int C,.int L]) cc;have O:=s5.trans s6;have ai:upd (upd S q2 (.tup [.int C,.int L])) q3 (.tup [.int ((u+e)%m),.int ((d+e)%m),.int C,.int L]) q3=some (.tup [.int ((u+e)%m),.int ((d+e)%m),.int C,.int L]):=aq;generalize upd (upd S q2 (.tup [.int C,.int L])) q3 (.tup [.int ((u+e)%m),.int ((d+e)%m),.int C,.int L])=H6 at O ai ⊢;have bf:=O _ _ G;have lu:=Bd (s:=e) u0 (show u<m by lia);have lk:=Bd (s:=e) (show 0<=d by lia) k1;have put:∀(H7:Hp)(q:Addr)(f:Row)(v7 v8 v9 l v:Option V),γ S H7->f.k=d->adP f->H7 q=some (.tup (pi (ny (kN m e) f)))->tyV K "list" (V.ref lo) H7/\Al K (V.ref ls) (V.int (d+1)) H7 λx H1=>∃i,x=V.int i/\wT i 48/\∃y,(Η K H1 lo y\/Ξ K H1 lo y)/\0<(y.length:Int)+1/\aal (V.ref lo) [V.int (i/48%((y.length:Int)+1)),V.ref q] H1 λ_ H2=>N [some (V.ref a),some (V.int (c0%2)),some (V.ref ls),some (V.ref lt),some (V.int m),some (V.ref lo),some (V.int d),v7,v8,v9,l,v] H2:=by
   intro H7 q f v7 v8 v9 l v s7 rk a8 M;have J:=s7 _ _ hl3;have sp:=em (I/48) ((o.length:Int)+1) (by lia);refine⟨tyL J,ϊ (s7 _ _ G) gk ⟨I,rfl,cd _ _ (by decide) (by decide),_,.inl (Η.of J),by lia,?_⟩⟩;rw[am];refine YU J sp.1 (by rw[am];lia) (gi (by rw[am];lia)) (hN _ _ ⟨o.take (I/48%((o.length:Int)+1)).toNat++q::o.drop (I/48%((o.length:Int)+1)).toNat,W.take (I/48%((o.length:Int)+1)).toNat++ny (kN m e) f::W.drop (I/48%((o.length:Int)+1)).toNat,b++[f],_,_,_,_,_,_,rfl,?_,?_,?_,?_,P.step f _⟩)
   .exact(s3.trans s7).put X _
   .rw[aq,aQ,ba,List.map_take,List.map_drop]
   .exact ω.ins _ (Paired.imp' (λp r h=>Dt _ _ _ h (fm h J (by intro z;cases z))) (ω.same s7 ro3)) (Dt _ _ _ M (fm M J (by intro z;cases z)))
   .refine⟨by rw[ao,rl];rfl,λj r hj=>?_⟩;by_cases b2:j<b.length
    .rw[d6 b2]at hj;exact R.ok j r hj
    .have hj2:j=b.length:=by
      have:=(aH.mp hj).1;rw[ao]at this;simp at this
      lia
     rw[hj2,cL (aB _),iK]at hj;cases hj;exact⟨by lia,a8⟩
  refine ϊ bf gk ⟨I,rfl,cd _ _ (by decide) (by decide),by decide,?_⟩;by_cases c:I/24%2=1
  .rw[aj c];refine⟨bj (by simp),λq4 ce=>af _ _ ?_⟩;walk_at "";refine put _ q4 ⟨d,u,L,C,0,0⟩ _ _ _ _ _ (O.trans (γ.new _ ce)) rfl ⟨u0,u1,b0,b1,ae,t1,ju _,by show(0:Int)<d;lia⟩ ?_;rw[aq];unfold ny;rw[ag (show ¬(0:Int)=1 by decide)];show _=some (HO.tup [V.int ((kN m e).getD d.toNat 0),V.int ((kN m e).getD u.toNat 0),V.int L,V.int C]);rw[lu,lk]
  .rw[ag c];refine af _ _ ?_;walk_at "";refine put _ q3 ⟨d,u,C,L,1,0⟩ _ _ _ _ _ O rfl ⟨u0,u1,ae,t1,b0,b1,ju _,by show(0:Int)<d;lia⟩ ?_;rw[ai];unfold ny;rw[aj rfl];show _=some (HO.tup [V.int ((kN m e).getD u.toNat 0),V.int ((kN m e).getD d.toNat 0),V.int C,V.int L]);rw[lu,lk]
 .rintro BB σ S ZS ⟨o,W,b,v6,v7,v8,v9,l,v,rfl,s3,hl3,ro3,R,P⟩;refine ZS _ _ ?_;have g:=TF (n:=m.toNat) (by lia) (by lia) (Sf m1) (by rw[show m.toNat-1=(m-1).toNat by lia];exact R) P;rw[cK (by lia)]at g;walk_at "";refine h7 _ _ ?_;walk_at "";refine⟨bj (by simp),λt nt=>?_⟩;have s4:=γ.new (.tup [.int m,.ref lo]) nt;exact k t lo m o W _ ((Y.trans s3).free nt) br (Y.trans (s3.trans s4)) aq (s4 _ _ hl3) (ω.same s4 ro3) g Ϩ
theorem ZT.bad{m:Int}{c:Nat}{y:ej}{z:Str}(h:uw z):ZT m c y z 5:=by
 obtain⟨_,w,a,e,d,l,b⟩:=h;exact⟨w,a,e,d,l,.inl ⟨rfl,b⟩⟩
theorem ZT.ref{m:Int}{f:Nat}{y:ej}{z:Str}{c:Nat}(h:eM m z c):ZT m f y z c:=by
 obtain⟨_,w,d,e,l,b,g,r⟩:=h;refine⟨w,d.map FS,e,λx i=>?_,by rw[am];lia,.inr ⟨d,?_,g,r f y⟩⟩
 .obtain⟨n,a,rfl⟩:=bu.mp i;exact(Wd.fs (b n a)).ok
 .rw[jd];exact kI λn a=>Oc.mpr ⟨b n a,rfl⟩
theorem ZT.one{m:Int}{a:Nat}{y:ej}{w:Str}{c:Nat}(b:wsp w=[w])(d:nb w=some 0)(h:RfD m a w [] c\/RfT m y w [] c):ZT m a y w c:=⟨w,[],b,λx e=>(by cases e),by decide,.inr ⟨[],rfl,d,h⟩⟩
theorem RU{c:Nat}(h:c<=2):Str.ofString "refused " ++ wdA c=Jm c:=by
 rcases(show c=0\/c=1\/c=2 by lia)with rfl|rfl|rfl<;>decide +kernel
theorem WN{K:fg}{H:Hp}{a b h i e g:Addr}{f c:ej}{d:Int}{Q:VK}(n:H a=some (.tup [.ref h,.ref i,.int d]))(j:H h=some (.tup (f.map V.int)))(o:H i=some (.tup (c.map V.int)))(l:H b=some (.tup [.ref e,.ref g,.int d]))(m:H e=some (.tup (f.map V.int)))(k:H g=some (.tup (c.map V.int)))(q:Q (.bl false) H):W9 K (.ref a) (.ref b) H Q:=by
 refine⟨_,_,.tup (Ξ.of n) (.cons (sx j) (.cons (sx o) (.cons (.int d) .nil))),.tup (Ξ.of l) (.cons (sx m) (.cons (sx k) (.cons (.int d) .nil))),?_,?_⟩
 .simp only[PySem.PyData.depth,PySem.PyData.depthAll];have:=Bh f;have:=Bh c
  lia
 .rw[show PySem.PyData.eqv (.tuple [qW f,qW c,.int d]) (.tuple [qW f,qW c,.int d])=true by
   simp only[PySem.PyData.eqv,PySem.PyData.eqvAll,Xl];simp]
  exact q
theorem xP{m:Int}{a:ej}{v:Nat}{n:Int}(f:bG m a=true)(h:0<=n):bG m (a.set v n)=true:=oE (by rw[bT];exact gd f) λy b=>by
 rcases ff b with q|q
 .exact oB f y q
 .rw[q];exact h
def CK(K:fg):Sp:=λc H Q _=>∃(a:Addr)(b:ej),c=[.ref a]/\Η K H a (b.map V.int)/\b.length<=63/\∀d,Q (.bl true) d
def Vu(T:Txt K B):Sp:=CK K
abbrev lC:Stmt:=top 121
theorem WB:ε ["script","many","roads","desk","k","state","cell","row","due","word"] ["script"] (aw lC):=.of
theorem vW:iD (aw lC) "Desk":=.of (by kernel_rfl)
theorem xN:iD (aw lC) "Web":=.of (by kernel_rfl)
theorem Dx:iD (aw lC) "range":=.of (by kernel_rfl)
theorem VO(T:Txt K B)(G:bC (ς P w)){f:Addr}{fd:FuncData}(D:Df K B "law" lC ["script"] f fd){χ:Addr}{mF:FuncData}(kM:ϑ K "__init__" "Desk.__init__" eO χ mF)(F6:Binds K mF ["self","web"] [])(FT:Mk K T.Desk χ)(oK:υ P w K B base (ς P w) 5 χ mF ["self","web"] (mE T)){Ε:Addr}{nZ:FuncData}(mC:ϑ K "answer" "Desk.answer" dg Ε nZ)(j7:Binds K nZ ["self","row"] [])(kc:Meth K T.Desk "answer" Ε)(j6:υ P w K B base (ς P w) 14 Ε nZ ["self","row"] (rJ T)){ρ:Addr}{gJ:FuncData}(jH:ϑ K "deeds" "Desk.deeds" gB ρ gJ)(iB:Binds K gJ ["self"] [])(iy:Meth K T.Desk "deeds" ρ)(ii:υ P w K B base (ς P w) 1 ρ gJ ["self"] (oP T)){η:Addr}{bS:FuncData}(dG:ϑ K "laying" "Desk.laying" d3 η bS)(cu:Binds K bS ["self"] [])(cv:Meth K T.Desk "laying" η)(cw:υ P w K B base (ς P w) 1 η bS ["self"] (ia T)){Δ:Addr}{je:FuncData}(lD:ϑ K "put" "Desk.put" gU Δ je)(lR:Binds K je ["self","place","many"] [])(lH:Meth K T.Desk "put" Δ)(lN:υ P w K B base (ς P w) 5 Δ je ["self","place","many"] (qP T)){ψ:Addr}{ie:FuncData}(kg:ϑ K "want" "Desk.want" g6 ψ ie)(km:Binds K ie ["self","place","many"] [])(ki:Meth K T.Desk "want" ψ)(kj:υ P w K B base (ς P w) 3 ψ ie ["self","place","many"] (pJ T)){θ:Addr}{cB:FuncData}(eI:ϑ K "wish" "Desk.wish" eX θ cB)(c7:Binds K cB ["self"] [])(c9:Meth K T.Desk "wish" θ)(c8:υ P w K B base (ς P w) 1 θ cB ["self"] (jI T)){ξ:Addr}{fC:FuncData}(hW:ϑ K "__init__" "Web.__init__" fh ξ fC)(vy:Binds K fC ["self","many","roads"] [])(vx:Mk K T.Web ξ)(ώ:υ P w K B base (ς P w) 3 ξ fC ["self","many","roads"] (kH T))(gP:Cb P w K B base "_law_cell" m9 ["script","k"] 1 (rc T))(oU:Cb P w K B base "_law_odd_row" mw ["cell","many"] 1 (rF T))(lU:Cb P w K B base "_law_refused_row" jt ["cell","many"] 1 (oH T))(q9:Cb P w K B base "_law_roads" mn ["script"] 2 (uS T)):υ P w K B base (ς P w) 16 f fd ["script"] (Vu T):=by
 refine D.F.Ac WB (by walk_at "v") λΖ A c3 s H vs Q E r h=>?_;obtain⟨a,ns,rfl,ha,hn,k⟩:=h;have hv:=r.units;refine⟨_,(au (rj (Zx q9 r G (aa (δ 0) ap)) (mV (n:=2) rfl (dH (Zj 1) (dH (Zj 2) lJ)))) (au (Χ 3 (AH FT oK (r.mono (by decide)) vW.g T.Wu F6 .nil (j0 G) (aa (AH vx ώ (r.mono (by decide)) xN.g T.Tp vy .nil (j0 G) (aa (δ 1) (aa (δ 2) ap)) (hdb:=xN.d)) ap) (hdb:=vW.d))) (au (cf (PW.pt (vL (ϧ o8 (jv (δ 3) T.bM kc j6 (r.mono (by decide)) j7 .nil (j0 G) (aa aM ap)) aM) (rM (ϧ o8 (jv (δ 3) T.bM kc j6 (r.mono (by decide)) j7 .nil (j0 G) (aa aM ap)) aM)))) (aA (bx vK)) bK) (au (iA PassesOwn.never rfl (qG Dx.g T.range (aa (δ 1) ap)) (Zj 4) (au (bU (jv (δ 3) T.bM lH lN (r.mono (by decide)) lR .nil (j0 G) (aa (δ 4) (aa (aP dh (Zx gP r G (aa (δ 0) (aa (δ 4) ap))) ay) ap)))) (aA (bU (jv (δ 3) T.bM ki kj (r.mono (by decide)) km .nil (j0 G) (aa (δ 4) (aa (aP fB ay (aP dh (aP eB (Zx gP r G (aa (δ 0) (aa (δ 4) ap))) ay) ay)) ap))))))) (au (Χ 5 (dL (aa (dY (δ 3) T.bM cv cw (r.mono (by decide)) cu .nil (j0 G)) (aa (dY (δ 3) T.bM c9 c8 (r.mono (by decide)) c7 .nil (j0 G)) (aa (dY (δ 3) T.bM iy ii (r.mono (by decide)) iB .nil (j0 G)) ap))))) (au (iA PassesOwn.never rfl (lB (aP TZ (cM (aa ay (aa ay ap))) (δ 0))) (Zj 6) (au (Χ 7 (Zx oU r G (aa (aP eB (δ 6) ay) (aa (δ 1) ap)))) (au (Χ 8 aM) (au (cf (ϧ cY (aP dh (δ 6) ay) ay) (au (rj (Zx lU r G (aa (aP eB (δ 6) ay) (aa (δ 1) ap))) (mV (n:=2) rfl (dH (Zj 7) (dH (Zj 9) lJ)))) (aA (Χ 8 (aP bH aM (δ 9))))) bK) (aA (cf (PW.pt (vL (ϧ o8 (jv (δ 3) T.bM kc j6 (r.mono (by decide)) j7 .nil (j0 G) (aa (δ 7) ap)) (δ 8)) (rM (rp (Vg hv) (dL (aa (dY (δ 3) T.bM cv cw (r.mono (by decide)) cu .nil (j0 G)) (aa (dY (δ 3) T.bM c9 c8 (r.mono (by decide)) c7 .nil (j0 G)) (aa (dY (δ 3) T.bM iy ii (r.mono (by decide)) iB .nil (j0 G)) ap)))) (δ 5) (mf _))))) (aA (bx vK)) bK)))))) (aA (bx vK)))))))),?_⟩;walk_at "s";refine db λN1 h1=>?_;walk_at "";refine⟨a,ns,rfl,ha,λt l m J L H1 nt nl s1 et el ro g m5=>?_⟩;have m1:=g.m1;refine⟨t,rfl,_,Ξ.of et,rfl,_,_,rfl,_,_,rfl,rfl,h1 _ _ (db λN2 h2=>?_)⟩;walk_at "";refine P1 T (c:=true) (Η.of el) ro g λx tw H2 hx c6 s2 W=>?_;have Y9:=s1.trans s2;have bk:∀{M:Hp}{Q':Addr->Hp->Prop},π T.Web M x m tw J L->(∀(o I j t':Addr)(X:Hp),M o=none->M j=none->γ M X->τ T.Web T.Desk X o I j m t' J L [(Zd m,Zd m)]->Q' o X)->∀y dx,M y=none->M dx=none->dx≠y->mE T [.ref y,.ref x] (upd (upd M dx (.own y)) y (.ins T.Desk dx [])) (λv H2=>v=.Θ/\Q' y H2) E0:=λ{M Q'} W' q y dx hy hdx ne=>by
  have ei:upd M dx (.own y) y=none:=by rw[aU ne.symm];exact hy
  have t0:γ M (upd (upd M dx (.own y)) y (.ins T.Desk dx [])):=(γ.new _ hdx).trans (γ.new _ ei);exact⟨y,dx,x,tw,m,J,L,rfl,aq,W'.same t0,λI j t' X gT D kp=>⟨rfl,q y I j t' X hy (t0.free gT) (λb o e=>kp b o (t0 b o e) (cC e hy)) D⟩⟩
 refine bk W λo I j O H4 no dw s3 D2=>h2 _ _ (db λN4 h4=>?_);have ec:H j=none:=Y9.free dw;have a2:=Y9.trans s3;clear W bk Y9 s2 s3 el ro et h1 h2 hx c6;have fz:bG m (Zd m)=true:=oE (by rw[Iu];lia) λx hx=>by rw[(gS.mp hx).2];decide
 have kp:∀{H1 H2:Hp},γ H H1->Zh j H1 H2->γ H H2:=λs k b x e=>k b x (s b x e) (cC e ec);have D0:τ T.Web T.Desk H4 o I j m O J L ([]++[(Zd m,Zd m)]):=D2;walk_at "";refine D0.ό ⟨o,I,j,O,m,J,L,[],(Zd m,Zd m),_,3,rfl,D0,by decide,fz,fz,by decide +kernel,ZT.one (by decide +kernel) (by decide +kernel) (.inl (.back rfl)),by decide,λH5 s5=>⟨rfl,?_⟩⟩;rw[ag λz=>z rfl];have D5:=D0.same s5;have zs:(Zd m).sum=0:=by unfold Zd;rw[List.sum_replicate_int];simp
 refine D5.ό ⟨o,I,j,O,m,J,L,[],(Zd m,Zd m),_,4,rfl,D5,by decide,fz,fz,by decide +kernel,ZT.one (by decide +kernel) (by decide +kernel) (.inr (.fails zs)),by decide,λH6 s6=>⟨rfl,?_⟩⟩;rw[ag λz=>z rfl];have c4:=(a2.trans s5).trans s6;have D6:=D5.same s6;clear D2 D0 D5 a2 s5 s6;refine h4 _ _ (db λN5 h5=>?_);clear h4;walk_at "";refine⟨by lia,by lia,?_⟩;refine yR (lo:=0) (λi σ H7=>γ H H7/\E3 λ(C:List (List Int×List Int))(s:List Int×List Int)(v4:Option V)=>τ T.Web T.Desk H7 o I j m O J L (C++[s])/\C.length=2*i/\bG m s.1=true/\bG m s.2=true/\σ=[some (V.ref a),some (V.int m),some (V.ref l),some (V.ref o),v4,none,none,none,none,none]) ⟨c4,[],(Zd m,Zd m),_,D6,rfl,fz,fz,rfl⟩ ?_ ?_
 .rintro i σ H7 N BB ZS hN hi ⟨s7,C,s,v4,D7,sl,f1,f2,rfl⟩;refine ZS _ _ (db λM1 j1=>?_);rw[show(0:Int)+(i:Int)=(i:Int) by lia];have xl:=gd f1;have yl:=gd f2;walk_at "";refine D7.ό ⟨a,ns,i,rfl,γ.seq s7 ha,by lia,λc1=>⟨_,rfl,by decide,o,I,j,O,m,J,L,C,s,i,_,rfl,D7,by lia,xl,λ_ _ H8 D8 k8=>j1 _ _ ?_,λz=>absurd ⟨by lia,by lia⟩ z,λ_ _ z=>absurd z (by have:=be c1 (show(5:Int)≠0 by decide);lia)⟩⟩;have c5:=be c1 (show(5:Int)≠0 by decide);have s8:=kp s7 k8;clear j1;walk_at "";refine D8.ό ⟨a,ns,i,rfl,γ.seq s8 ha,by lia,λc2=>⟨_,rfl,⟨by decide,by decide⟩,by decide,o,I,j,O,m,J,L,C++[s],_,i,_,rfl,D8,by rw[ao];show _+1<=_;lia,yl,oB f2,λ_ _ H9 D9 k9=>hN _ _ ?_,λz=>absurd ⟨by lia,by lia⟩ z,λ_ _ z=>absurd z (by have:=be (c2/5) (show(3:Int)≠0 by decide);lia)⟩⟩;exact⟨kp s8 k9,_,_,_,D9,by rw[ao,ao];show _+1+1=_;lia,xP f1 (by have:=Ux (oB f1) i;rw[fT];lia),xP f2 (by have:=be (c2/5) (show(3:Int)≠0 by decide);lia),rfl⟩
 .rintro BB σ H7 ZS ⟨s7,C,s,v4,D7,sl,f1,f2,rfl⟩;refine ZS _ _ (h5 _ _ (db λN6 h6=>?_));clear h5;walk_at "";refine D7.ό ⟨o,I,j,O,m,J,L,C,s,rfl,D7,λla Y=>D7.ό ⟨o,I,j,O,m,J,L,C,s,rfl,D7,λlb ab=>D7.ό ⟨o,I,j,O,m,J,L,C++[s],rfl,D7,bj (by simp),λst a3=>h6 _ _ (db λN7 h7=>?_)⟩⟩⟩;have s8:=γ.new (HO.tup [V.ref la,V.ref lb,V.int (((C++[s]).length:Int)-1)]) a3;have ac:upd H7 st (HO.tup [V.ref la,V.ref lb,V.int (((C++[s]).length:Int)-1)]) st=some (HO.tup [V.ref la,V.ref lb,V.int (((C++[s]).length:Int)-1)]):=aq;generalize upd H7 st (HO.tup [V.ref la,V.ref lb,V.int (((C++[s]).length:Int)-1)])=H8 at s8 ac ⊢;have D8:=D7.same s8;have Y:=s8 _ _ Y;have ab:=s8 _ _ ab;have a5:=s7.trans s8;clear s7 s8 D7 h6;walk_at "";refine⟨bj (by simp),λlp a6=>?_⟩;have s9:=γ.new (HO.lst [V.int 0,V.int 3]) a6;have al:upd H8 lp (HO.lst [V.int 0,V.int 3]) lp=some (HO.lst ([0,3].map V.int)):=aq;generalize upd H8 lp (HO.lst [V.int 0,V.int 3])=H9 at s9 al ⊢;refine⟨lp,a,_,_,rfl,rfl,Η.of al,γ.seq (a5.trans s9) ha,bj (by rw[am,am];show 2+_<=_;lia),λlc a8=>⟨lc,rfl,?_⟩⟩;have U:=s9.trans (γ.new (HO.lst ([0,3].map V.int++ns.map V.int)) a8);have an:upd H9 lc (HO.lst ([0,3].map V.int++ns.map V.int)) lc=some (.lst ((0::3::ns).map V.int)):=aq;generalize upd H9 lc (HO.lst ([0,3].map V.int++ns.map V.int))=cc at U an ⊢;have a0:=D8.same U;have ac:=U _ _ ac;have Y:=U _ _ Y;have ab:=U _ _ ab;clear s9 al a5 D8 a8 a6 a3 U;refine⟨⟨_,Η.of an⟩,?_⟩;refine uU (K:=K) (xs:=(0::3::ns).map V.int) (λi σ R=>γ cc R/\E4 λ(v6 v7 v8 v9:Option V)=>σ=[some (V.ref a),some (V.int m),some (V.ref l),some (V.ref o),v4,some (V.ref st),v6,v7,v8,v9]) ⟨γ.refl _,_,_,_,_,rfl⟩ (λi σ R _ z=>Η.of (z.1 _ _ an)) ?_ ?_
  .rintro i y σ R N BB ZS hN hi ⟨s11,v6,v7,v8,v9,rfl⟩;obtain⟨c,hc,rfl⟩:=List.Ϫ hi;refine ZS _ _ (db λM1 j1=>?_);walk_at "";refine⟨⟨by decide,by decide⟩,_,m,rfl,m1,by lia,λz dr Y9 bz=>j1 _ _ (db λM2 j2=>?_)⟩;clear j1;walk_at "";refine j2 _ _ (db λM3 j3=>?_);clear j2;have a9:∀(z:Str)(Z:Nat)(v9:Option V)(M:Hp),γ R M->z.length<=60000->Z<=5->ZT m C.length s.2 z Z->M3 [some (V.ref a),some (V.int m),some (V.ref l),some (V.ref o),v4,some (V.ref st),some (V.int c),some (V.str z),some (V.str (Jm Z)),v9] M:=by
    intro z Z v9 M s' zl cl rd;have D':=a0.same (s11.trans s');refine j3 _ _ ?_;walk_at "";refine D'.ό ⟨o,I,j,O,m,J,L,C,s,z,Z,rfl,D',by lia,f1,f2,zl,rd,cl,λX dn=>⟨rfl,?_⟩⟩;rw[ag λz=>z rfl];have a4:=s'.trans dn;have S:=a0.same (s11.trans a4);refine S.ό ⟨o,I,j,O,m,J,L,C,s,rfl,S,λdp dm=>S.ό ⟨o,I,j,O,m,J,L,C,s,rfl,S,λdP d2=>S.ό ⟨o,I,j,O,m,J,L,C++[s],rfl,S,bj (by simp),λp np=>?_⟩⟩⟩;have u:=γ.new (HO.tup [V.ref dp,V.ref dP,V.int (((C++[s]).length:Int)-1)]) np;have w:=(s11.trans a4).trans u;refine WN aq (u _ _ dm) (u _ _ d2) (w _ _ ac) (w _ _ Y) (w _ _ ab) ⟨_,rfl,?_⟩;rw[ag (by decide)];exact hN _ _ ⟨w,_,_,_,_,rfl⟩
   walk_at "";refine⟨by decide,?_⟩;by_cases c1:c%2=1
   .rw[aj c1];refine⟨⟨by decide,by decide⟩,_,m,rfl,m1,by lia,λp z Z dV du ep cl rz=>⟨p,rfl,_,Ξ.of ep,rfl,_,_,rfl,_,_,rfl,rfl,_,rfl,_,rfl,?_,?_⟩⟩
    .have:(wdA Z).length<=20:=by
      rcases(show Z=0\/Z=1\/Z=2 by lia)with rfl|rfl|rfl<;>decide +kernel
     exact Y7 (cZ "refused ") this
    .rw[RU cl];exact a9 z Z _ dV (Y9.trans du) rz.1 (by lia) (.ref rz)
   .rw[ag c1];exact a9 z 5 _ dr Y9 bz.1 (by decide) (.bad bz)
  .rintro BB σ R ZS ⟨s11,v6,v7,v8,v9,rfl⟩;refine ZS _ _ (h7 _ _ ?_);walk_at "";exact k R
end
theorem Y6:bC CX0:=λ_ _ _ _ _ h=>h
structure FI(K:fg)(x:Str)(st:Stmt)(f:Addr)(fd:FuncData):Prop where
 a:PySem.W.nsIn K mainGlobals x=some (some (.ref f))
 F:ϑ K x x st f fd
theorem fi{K:fg}{x:Str}{st:Stmt}{f:Addr}{j:Value}{m i:Option Addr}{e:Array (Option Value)}{kV b h d g:Value}(a:PySem.W.nsIn K mainGlobals x=some (some (.ref f)):=by k_is)(l:K.lookup f=some ⟨j,m,.func (PySem.W.fnOf x x (dA st) (df st) (aw st) .none kV b h i d g),e⟩:=by k_is)(c:PySem.W.codeIn K d x=true:=by k_is)(k:PySem.W.keepIn K (.ref f)=true:=by k_is):FI K x st f (PySem.W.fnOf x x (dA st) (df st) (aw st) .none kV b h i d g):=⟨a,iw (st:=st) l c k⟩
theorem FI.df1{K:fg}{h:Heap}{m:f5}{x:Str}{st:Stmt}{f:Addr}{l:FuncData}(y:FI K x st f l)(X:K.In h)(G:h.Ns mainGlobals m)(k:gy)(r:k.length=1:=by rfl)(q:∀(kV j s:Value) (p:Option Addr) (o n i:Value),bindArgs (PySem.W.fnOf x x (dA st) (df st) (aw st) .none kV j s p o n) ⟨[i],[]⟩=pure (k.zip [i]):=by intros;rfl):Df K m x st k f l:=⟨y.F,aW X G y.a,y.F.binds λa b c d e g t z=>by obtain⟨i,rfl⟩:=us1 (z.trans r);exact q a b c d e g i⟩
theorem FI.ZH{K:fg}{h:Heap}{n:f5}{x:Str}{st:Stmt}{f:Addr}{m:FuncData}(y:FI K x st f m)(X:K.In h)(G:h.Ns mainGlobals n)(l:gy)(s:l.length=2:=by rfl)(r:∀(kV k t:Value) (q:Option Addr) (p o j i:Value),bindArgs (PySem.W.fnOf x x (dA st) (df st) (aw st) .none kV k t q p o) ⟨[j,i],[]⟩=pure (l.zip [j,i]):=by intros;rfl):Df K n x st l f m:=⟨y.F,aW X G y.a,y.F.binds λa b c d e g u z=>by obtain⟨j,i,rfl⟩:=us2 (z.trans s);exact r a b c d e g j i⟩
theorem FI.df3{K:fg}{h:Heap}{o:f5}{x:Str}{st:Stmt}{f:Addr}{n:FuncData}(y:FI K x st f n)(X:K.In h)(G:h.Ns mainGlobals o)(m:gy)(t:m.length=3:=by rfl)(s:∀(kV l u:Value) (r:Option Addr) (q p k j i:Value),bindArgs (PySem.W.fnOf x x (dA st) (df st) (aw st) .none kV l u r q p) ⟨[k,j,i],[]⟩=pure (m.zip [k,j,i]):=by intros;rfl):Df K o x st m f n:=⟨y.F,aW X G y.a,y.F.binds λa b c d e g v z=>by obtain⟨k,j,i,rfl⟩:=us3 (z.trans t);exact s a b c d e g k j i⟩
theorem FI.df4{K:fg}{h:Heap}{p:f5}{x:Str}{st:Stmt}{f:Addr}{o:FuncData}(y:FI K x st f o)(X:K.In h)(G:h.Ns mainGlobals p)(n:gy)(u:n.length=4:=by rfl)(t:∀(kV m v:Value) (s:Option Addr) (r q l k i j:Value),bindArgs (PySem.W.fnOf x x (dA st) (df st) (aw st) .none kV m v s r q) ⟨[l,k,i,j],[]⟩=pure (n.zip [l,k,i,j]):=by intros;rfl):Df K p x st n f o:=⟨y.F,aW X G y.a,y.F.binds λa b c d e g w z=>by obtain⟨l,k,i,j,rfl⟩:=us4 (z.trans u);exact t a b c d e g l k i j⟩
theorem all_mk{l:PySem.W.OpenLaw}{w:World}{K:fg}{h:Heap}{p:f5}{fa:Addr}{c:Addr}{sL:Addr}{B:Addr}{I:Addr}{H:Addr}{z:Addr}{L:Addr}{t:Addr}{j:Addr}{i:Addr}{g:Addr}{Bw:Addr}{IY:Addr}{b:Addr}{o:Addr}{q:Addr}{zM Jl C2 DT AA BS HN Cp HG Hx Xk VF VT UZ QR Gg OV B7 Pi Ri OX P8 Hm Cs Ff VD TW Vt R8 NU Um U5 Ol Uz Vn CG zv Hl KD yb GJ Af Nt Ua yW Qc OE Us Eg BN zX Ik Kr BU vQ PX HC:Addr}{xI Hq BR BP yz zI Gn AN CQ Gh W8 UE UL Rj P6 CC Nb Aa LY PU Nd Ng EB zH CI Uc SK T7 Pm HZ R0 Ql LC QU U6 Av xT DH HU wB BO zk Hv QJ xw Oy NX RD Cr Ai y9 F3 Ho zP uX Jz GR:FuncData}{U:Addr}{Zy zj:Option Addr}{yc:Array (Option Value)}{Zz yT yg yG qw yC:Value}{Z:Addr}{Zq wI:Option Addr}{xx:Array (Option Value)}{Zr wG xh xF pS xi:Value}{Ge tP:Option Addr}{tM:Array (Option Value)}{Io tV tD tQ nI tL:Value}{u:Addr}{Z6 Cz:Option Addr}{Co:Array (Option Value)}{Z7 Cg CH Ce sY BZ:Value}{x:Addr}{b3 Gq:Option Addr}{FF:Array (Option Value)}{c1 Fl Ex EI va Ee:Value}{O:Addr}{dT Es:Option Addr}{GL:Array (Option Value)}{a9 GV Gp CW uf C0:Value}{R:Addr}{ZU Ao:Option Addr}{Aj:Array (Option Value)}{ZV zW Ap AE rY Ab:Value}{S:Addr}{dr Fj:Option Addr}{Fa:Array (Option Value)}{b8 Fw FD GZ uo Ga:Value}{N:Addr}{a7 G9:Option Addr}{G4:Array (Option Value)}{bv G6 HM Hu we G8:Value}{Le tU:Option Addr}{tN:Array (Option Value)}{Rw tJ tT tE nG tG:Value}{C:Addr}{c0 DU:Option Addr}{EX:Array (Option Value)}{ds EM DC GU uL Ej:Value}{y:Addr}{c2 EC:Option Addr}{DG:Array (Option Value)}{bs C6 GG FY uA Dd:Value}{E:Addr}{ZW zV:Option Addr}{zq:Array (Option Value)}{ZX An AF zS rq zt:Value}{KC:Addr}{dp Pn:Option Addr}{WG:Array (Option Value)}{ca OW OT PZ FG Ot:Value}{Z8:Tok}{cI:Tok}{bw:Tok}{b1:Tok}{ZY:Tok}{dl:Tok}{ZA:Tok}{zT:Addr}{b4 Rx Qx cy:Tok}{UB:Nat}{UO:Option Addr}{Vc:Array (Option Value)}{j4:Addr}{ϫ Ϭ oZ ϭ oY Ϯ ϯ ϰ ϱ ϲ ϳ ϴ ϵ Ϸ ϸ Ϲ Ϻ ϻ aC aS ϛ Ϝ ϝ Ϟ ϟ Ϡ ϡ Ϣ ϣ Ϥ ϥ Ϧ:Tok}{wP:Nat}(X:K.In h)(G:h.Ns mainGlobals p)(dt:p "law"=some (.ref fa))(Dr:PySem.W.nsIn K mainGlobals "TollError"=some (some (.ref c)))(Pr:PySem.W.nsIn K mainGlobals "BadWeb"=some (some (.ref sL)))(LD:PySem.W.nsIn K mainGlobals "NoPlace"=some (some (.ref B)))(Ov:PySem.W.nsIn K mainGlobals "NoRoad"=some (some (.ref I)))(CO:PySem.W.nsIn K mainGlobals "BadLaying"=some (some (.ref H)))(Mp:PySem.W.nsIn K mainGlobals "BadWish"=some (some (.ref z)))(ME:PySem.W.nsIn K mainGlobals "NoWorst"=some (some (.ref L)))(Ow:PySem.W.nsIn K mainGlobals "NoDeed"=some (some (.ref t)))(JB:PySem.W.nsIn K mainGlobals "BadStep"=some (some (.ref j)))(Ko:PySem.W.nsIn K mainGlobals "BadText"=some (some (.ref i)))(VX:PySem.W.nsIn K mainGlobals "Web"=some (some (.ref g)))(KZ:PySem.W.nsIn K mainGlobals "Outlook"=some (some (.ref Bw)))(R7:PySem.W.nsIn K mainGlobals "Tally"=some (some (.ref IY)))(TL:PySem.W.nsIn K mainGlobals "Desk"=some (some (.ref b)))(wx:aeM K c)(EZ:aT K c sL)(ow:aT K c B)(ud:mW K B)(CT:aT K c I)(xp:mW K I)(qJ:aT K c H)(qM:mW K H)(lh:aT K c z)(qA:mW K z)(hG:aT K c L)(uT:mW K L)(jX:aT K c t)(xb:mW K t)(jV:aT K c j)(qB:aT K c i)(Pc:lG K i o)(Ps:lG K j q)(F4:PySem.W.specialIn K (.ref c) "__getattribute__"=some (some (.builtin "type.__getattribute__")))(Gm:PySem.W.readsIn K c (.type "type")=true)(C3:PySem.W.findCls K (.ref c) (.type "type") "__init__"=some (.val (.builtin "ValueError.__init__")))(Jt:abn K j c "at")(Lm:PySem.W.findIn K (.ref j) "at"=some none)(Kd:abn K i c "at")(Mb:PySem.W.findIn K (.ref i) "at"=some none)(cc:[c,sL,B,I,H,z,L,t,j,i].Nodup)(zK:FI K "check_counts" jE zM xI)(JH:FI K "is_place" lO Jl Hq)(GK:FI K "check_ends" mZ C2 BR)(DR:FI K "other_ends" kT DT BP)(Az:FI K "check_joined" lL AA yz)(BW:FI K "check_tolls" iW BS zI)(zQ:PySem.W.findIn K (.ref g) "__init__"=some (some (.ref U)))(zx:PySem.W.isFn K (.ref U)=true)(Ay:K.lookup U=some ⟨Zz,Zy,.func (PySem.W.fnOf "__init__" "Web.__init__" (dA fh) (df fh) (aw fh) .none yT yg yG zj qw yC),yc⟩)(Ak:PySem.W.codeIn K qw "Web.__init__"=true)(Aw:PySem.W.keepIn K (.ref U)=true)(G0:FI K "_law_tolls" oh HN Gn)(yV:PySem.W.findIn K (.ref b) "__init__"=some (some (.ref Z)))(zb:PySem.W.isFn K (.ref Z)=true)(xO:K.lookup Z=some ⟨Zr,Zq,.func (PySem.W.fnOf "__init__" "Desk.__init__" (dA eO) (df eO) (aw eO) .none wG xh xF wI pS xi),xx⟩)(xK:PySem.W.codeIn K pS "Desk.__init__"=true)(yM:PySem.W.keepIn K (.ref Z)=true)(PM:PySem.W.findIn K (.ref i) "__init__"=some (some (.ref o)))(O7:PySem.W.isFn K (.ref o)=true)(uD:K.lookup o=some ⟨Io,Ge,.func (PySem.W.fnOf "__init__" "BadText.__init__" (dA da) (df da) (aw da) .none tV tD tQ tP nI tL),tM⟩)(uP:PySem.W.codeIn K nI "BadText.__init__"=true)(uq:PySem.W.keepIn K (.ref o)=true)(Dy:PySem.W.findIn K (.ref b) "deeds"=some (some (.ref u)))(DY:PySem.W.isFn K (.ref u)=true)(GH:K.lookup u=some ⟨Z7,Z6,.func (PySem.W.fnOf "deeds" "Desk.deeds" (dA gB) (df gB) (aw gB) .none Cg CH Ce Cz sY BZ),Co⟩)(EY:PySem.W.codeIn K sY "Desk.deeds"=true)(vk:PySem.W.keepIn K (.ref u)=true)(HS:PySem.W.findIn K (.ref b) "back"=some (some (.ref x)))(HE:PySem.W.isFn K (.ref x)=true)(HJ:K.lookup x=some ⟨c1,b3,.func (PySem.W.fnOf "back" "Desk.back" (dA gZ) (df gZ) (aw gZ) .none Fl Ex EI Gq va Ee),FF⟩)(HW:PySem.W.codeIn K va "Desk.back"=true)(wd:PySem.W.keepIn K (.ref x)=true)(HR:PySem.W.findIn K (.ref b) "keep"=some (some (.ref O)))(Il:PySem.W.isFn K (.ref O)=true)(Hj:K.lookup O=some ⟨a9,dT,.func (PySem.W.fnOf "keep" "Desk.keep" (dA gh) (df gh) (aw gh) .none GV Gp CW Es uf C0),GL⟩)(HQ:PySem.W.codeIn K uf "Desk.keep"=true)(wt:PySem.W.keepIn K (.ref O)=true)(B9:PySem.W.findIn K (.ref b) "laying"=some (some (.ref R)))(BQ:PySem.W.isFn K (.ref R)=true)(Ci:K.lookup R=some ⟨ZV,ZU,.func (PySem.W.fnOf "laying" "Desk.laying" (dA d3) (df d3) (aw d3) .none zW Ap AE Ao rY Ab),Aj⟩)(Cf:PySem.W.codeIn K rY "Desk.laying"=true)(sR:PySem.W.keepIn K (.ref R)=true)(Ib:PySem.W.findIn K (.ref b) "wish"=some (some (.ref S)))(Hh:PySem.W.isFn K (.ref S)=true)(HB:K.lookup S=some ⟨b8,dr,.func (PySem.W.fnOf "wish" "Desk.wish" (dA eX) (df eX) (aw eX) .none Fw FD GZ Fj uo Ga),Fa⟩)(G1:PySem.W.codeIn K uo "Desk.wish"=true)(vU:PySem.W.keepIn K (.ref S)=true)(CF:FI K "check_place" eJ Cp AN)(HF:FI K "is_filled" ms HG CQ)(HP:FI K "laying_of" hV Hx Gh)(XF:FI K "put" CL Xk W8)(Ws:FI K "pile" yj VF UE)(Ld:PySem.W.findIn K (.ref b) "put"=some (some (.ref N)))(JO:PySem.W.isFn K (.ref N)=true)(Nm:K.lookup N=some ⟨bv,a7,.func (PySem.W.fnOf "put" "Desk.put" (dA gU) (df gU) (aw gU) .none G6 HM Hu G9 we G8),G4⟩)(MC:PySem.W.codeIn K we "Desk.put"=true)(yf:PySem.W.keepIn K (.ref N)=true)(Pw:PySem.W.findIn K (.ref j) "__init__"=some (some (.ref q)))(P9:PySem.W.isFn K (.ref q)=true)(ve:K.lookup q=some ⟨Rw,Le,.func (PySem.W.fnOf "__init__" "BadStep.__init__" (dA dU) (df dU) (aw dU) .none tJ tT tE tU nG tG),tN⟩)(vg:PySem.W.codeIn K nG "BadStep.__init__"=true)(tY:PySem.W.keepIn K (.ref q)=true)(WI:FI K "toll" rN VT UL)(Uw:FI K "taken" se UZ Rj)(SW:FI K "behind" sF QR P6)(Em:FI K "neighbours" lq Gg CC)(Om:FI K "is_step" qg OV Nb)(CD:FI K "can_be_done" mz B7 Aa)(P0:FI K "layings" mP Pi LY)(Qq:FI K "walked" sA Ri PU)(Ij:PySem.W.findIn K (.ref b) "step"=some (some (.ref C)))(He:PySem.W.isFn K (.ref C)=true)(HX:K.lookup C=some ⟨ds,c0,.func (PySem.W.fnOf "step" "Desk.step" (dA jf) (df jf) (aw jf) .none EM DC GU DU uL Ej),EX⟩)(Hf:PySem.W.codeIn K uL "Desk.step"=true)(vT:PySem.W.keepIn K (.ref C)=true)(OF:FI K "wish_of" lg OX Nd)(HD:PySem.W.findIn K (.ref b) "want"=some (some (.ref y)))(Im:PySem.W.isFn K (.ref y)=true)(G7:K.lookup y=some ⟨bs,c2,.func (PySem.W.fnOf "want" "Desk.want" (dA g6) (df g6) (aw g6) .none C6 GG FY EC uA Dd),DG⟩)(Hw:PySem.W.codeIn K uA "Desk.want"=true)(vZ:PySem.W.keepIn K (.ref y)=true)(Og:FI K "do_deed" qz P8 Ng)(G3:FI K "is_number" lX Hm EB)(Cc:FI K "read_number" kd Cs zH)(CN:FI K "read_words" kZ Ff CI)(WX:FI K "kids" uI VD Uc)(Ue:FI K "ahead" rR TW SK)(Vq:FI K "down" uJ Vt T7)(Q1:FI K "inward" lw R8 Pm)(Jn:FI K "gathered" mT NU HZ)(TK:FI K "bring" vA Um R0)(Uu:FI K "total" vC U5 Ql)(Op:FI K "is_idle" qo Ol LC)(U0:FI K "fails" rG Uz QU)(WF:FI K "most" xY Vn U6)(Ct:FI K "number_text" j9 CG Av)(zR:FI K "numbers_text" jC zv xT)(HK:FI K "standings" hJ Hl DH)(Lc:FI K "standing" pb KD HU)(yU:FI K "standing_text" kF yb wB)(EE:FI K "steps_text" nh GJ BO)(zF:FI K "check_wanted" f7 Af zk)(MK:FI K "bound_by" ph Nt Hv)(Va:FI K "borne" vm Ua QJ)(yZ:FI K "least_weights" kO yW xw)(RB:FI K "enough" pO Qc Oy)(Pa:FI K "hardest" mL OE NX)(UH:FI K "worst" vo Us RD)(FA:FI K "worst_many" nB Eg Cr)(Ch:FI K "told_of_web" mx BN Ai)(zw:FI K "told_of_desk" lA zX y9)(G5:FI K "answer_of" l9 Ik F3)(Ck:PySem.W.findIn K (.ref b) "answer"=some (some (.ref E)))(BM:PySem.W.isFn K (.ref E)=true)(Cq:K.lookup E=some ⟨ZX,ZW,.func (PySem.W.fnOf "answer" "Desk.answer" (dA dg) (df dg) (aw dg) .none An AF zS zV rq zt),zq⟩)(CA:PySem.W.codeIn K rq "Desk.answer"=true)(tj:PySem.W.keepIn K (.ref E)=true)(Mh:FI K "_law_cell" m9 Kr Ho)(Cd:FI K "_law_odd_row" mw BU zP)(vM:FI K "_law_refused_row" jt vQ uX)(Pj:FI K "_law_row" oA PX Jz)(Hk:FI K "_law_roads" mn HC GR)(TB:PySem.W.nsIn K mainGlobals "law"=some (some (.ref KC)))(Xm:K.lookup KC=some ⟨ca,dp,.func (PySem.W.fnOf "law" "law" (dA lC) (df lC) (aw lC) .none OW OT PZ Pn FG Ot),WG⟩)(Xh:PySem.W.codeIn K FG "law"=true)(Xu:PySem.W.keepIn K (.ref KC)=true)(W4:PySem.W.plainGet K g Str.empty=true)(Wn:PySem.W.hasDictIn K g=true)(Vw:PySem.W.plainOver K g=true)(WP:PySem.W.findIn K (.ref g) "__setattr__"=some (some (.builtin "object.__setattr__")))(W5:PySem.W.makesIn K g=true)(VM:PySem.W.keepIn K (.ref g)=true)(ct:PySem.W.findIn K (.ref g) "many"=some none)(dn:PySem.W.findIn K (.ref g) "roads"=some none)(Ud:PySem.W.plainGet K b Str.empty=true)(UJ:PySem.W.hasDictIn K b=true)(Uk:PySem.W.plainOver K b=true)(Ur:PySem.W.findIn K (.ref b) "__setattr__"=some (some (.builtin "object.__setattr__")))(U9:PySem.W.makesIn K b=true)(U2:PySem.W.keepIn K (.ref b)=true)(du:PySem.W.findIn K (.ref b) "web"=some none)(dd:PySem.W.findIn K (.ref b) "past"=some none)(cd:PySem.W.nsIn K mainGlobals "range"=some none)(a2:PySem.W.nsIn K mainGlobals "zip"=some none)(bk:PySem.W.nsIn K mainGlobals "len"=some none)(dw:PySem.W.nsIn K mainGlobals "all"=some none)(cp:PySem.W.nsIn K mainGlobals "int"=some none)(c6:PySem.W.nsIn K mainGlobals "tuple"=some none)(a4:PySem.W.nsIn K mainGlobals "list"=some none)(bz:PySem.W.nsIn K mainGlobals "reversed"=some none)(bM:PySem.W.nsIn K mainGlobals "sorted"=some none)(cl:PySem.W.nsIn K mainGlobals "min"=some none)(a3:PySem.W.nsIn K mainGlobals "max"=some none)(co:PySem.W.nsIn K mainGlobals "enumerate"=some none)(bl:PySem.W.nsIn K mainGlobals "sum"=some none)(cH:PySem.W.nsIn K mainGlobals "str"=some none)(b7:PySem.W.nsIn K mainGlobals "set"=some none)(Z9:PySem.W.nsIn K mainGlobals "MOST_PLACES"=some (some (.int 24 Z8)))(bm:PySem.W.nsIn K mainGlobals "LEAST_TOLL"=some (some (.int 2 cI)))(a0:PySem.W.nsIn K mainGlobals "MOST_TOLL"=some (some (.int 1000000 bw)))(b0:PySem.W.nsIn K mainGlobals "FIGURES"=some (some (.str "0123456789" b1)))(ZZ:PySem.W.nsIn K mainGlobals "MOST_FIGURES"=some (some (.int 60 ZY)))(dx:PySem.W.nsIn K mainGlobals "PIECE"=some (some (.int 1000000000000000000 dl)))(ZC:PySem.W.nsIn K mainGlobals "PIECE_FIGURES"=some (some (.int 18 ZA)))(Ul:PySem.W.nsIn K mainGlobals "DEEDS"=some (some (.ref zT)))(Re:K.lookup zT=some ⟨.type "tuple",UO,.seq #[.str "put" b4,.str "want" Rx,.str "step" Qx,.str "back" cy] UB,Vc⟩)(wU:PySem.W.nsIn K mainGlobals "NUMBERS_BEHIND"=some (some (.ref j4)))(vP:K.lookup j4=some ⟨.type "dict",none,.dict ⟨[⟨PySem.PyData.keyHash w.params "put",.str "put" ϫ,.int 2 Ϭ⟩,⟨PySem.PyData.keyHash w.params "want",.str "want" oZ,.int 2 ϭ⟩,⟨PySem.PyData.keyHash w.params "step",.str "step" oY,.int 3 Ϯ⟩,⟨PySem.PyData.keyHash w.params "back",.str "back" ϯ,.int 0 ϰ⟩,⟨PySem.PyData.keyHash w.params "laying",.str "laying" ϱ,.int 0 ϲ⟩,⟨PySem.PyData.keyHash w.params "wish",.str "wish" ϳ,.int 0 ϴ⟩,⟨PySem.PyData.keyHash w.params "most",.str "most" ϵ,.int 1 Ϸ⟩,⟨PySem.PyData.keyHash w.params "bring",.str "bring" ϸ,.int 1 Ϲ⟩,⟨PySem.PyData.keyHash w.params "stands",.str "stands" Ϻ,.int 1 ϻ⟩,⟨PySem.PyData.keyHash w.params "meet",.str "meet" aC,.int 0 aS⟩,⟨PySem.PyData.keyHash w.params "enough",.str "enough" ϛ,.int 2 Ϝ⟩,⟨PySem.PyData.keyHash w.params "hardest",.str "hardest" ϝ,.int 1 Ϟ⟩,⟨PySem.PyData.keyHash w.params "worst",.str "worst" ϟ,.int 2 Ϡ⟩,⟨PySem.PyData.keyHash w.params "many",.str "many" ϡ,.int 2 Ϣ⟩,⟨PySem.PyData.keyHash w.params "always",.str "always" ϣ,.int 0 Ϥ⟩,⟨PySem.PyData.keyHash w.params "fails",.str "fails" ϥ,.int 0 Ϧ⟩]⟩ wP,#[]⟩)(Zi:(j4==sysModules)=false):∃fd:FuncData,(∀(s:Shared)(v:Value),BindsTo s fd ⟨[v],[]⟩ [("script",v)])/\∀base:Heap,K.In base->base.Ns mainGlobals p->υ l.prog w K p base (ς l.prog w) 16 fa fd ["script"] (CK K):=by
 have e:=dt.symm.trans (aW X G TB);cases e
 let T:Txt K p:=⟨c,aW X G Dr,sL,aW X G Pr,B,aW X G LD,I,aW X G Ov,H,aW X G CO,z,aW X G Mp,L,aW X G ME,t,aW X G Ow,j,aW X G JB,i,aW X G Ko,g,aW X G VX,Bw,aW X G KZ,IY,aW X G R7,b,aW X G TL,wx,EZ,ow,ud,CT,xp,qJ,qM,lh,qA,hG,uT,jX,xb,jV,qB,⟨F4,Gm,C3⟩,Jt,Lm,Kd,Mb,cc,PySem.W.mg_none_of X G cd,PySem.W.mg_none_of X G a2,PySem.W.mg_none_of X G bk,PySem.W.mg_none_of X G dw,PySem.W.mg_none_of X G cp,PySem.W.mg_none_of X G c6,PySem.W.mg_none_of X G a4,PySem.W.mg_none_of X G bz,PySem.W.mg_none_of X G bM,PySem.W.mg_none_of X G cl,PySem.W.mg_none_of X G a3,PySem.W.mg_none_of X G co,PySem.W.mg_none_of X G bl,PySem.W.mg_none_of X G cH,PySem.W.mg_none_of X G b7,⟨_,aW X G Z9⟩,⟨_,aW X G bm⟩,⟨_,aW X G a0⟩,⟨_,aW X G b0⟩,⟨_,aW X G ZZ⟩,⟨_,aW X G dx⟩,⟨_,aW X G ZC⟩,zT,aW X G Ul,⟨_,_,_,Re,rfl,rfl,by show 4<=sizeLine;decide,.cons ⟨_,rfl⟩ (.cons ⟨_,rfl⟩ (.cons ⟨_,rfl⟩ (.cons ⟨_,rfl⟩ (.nil))))⟩,j4,aW X G wU,⟨W4,Wn,Vw,WP⟩,ct,dn,⟨Ud,UJ,Uk,Ur⟩,du,dd⟩
 have rn:=zK.ZH X G ["many","roads"];have yQ:=JH.ZH X G ["many","number"];have ue:=GK.ZH X G ["many","road"];have u5:=DR.ZH X G ["roads","place"];have rH:=Az.ZH X G ["many","roads"];have sV:=BW.df1 X G ["road"];have hW:=iw (st:=fh) Ay Ak Aw;have vy:=hW.binds (ps:=["self","many","roads"]) λ_ _ _ _ _ _ d a=>by obtain⟨f,k,u2,rfl⟩:=us3 a;rfl
 have wn:=G0.df1 X G ["t"];have kM:=iw (st:=eO) xO xK yM;have F6:=kM.binds (ps:=["self","web"]) λ_ _ _ _ _ _ d a=>by obtain⟨f,k,rfl⟩:=us2 a;rfl
 have A:=iw (st:=da) uD uP uq;have iZ:=A.binds (ps:=["self","at"]) λ_ _ _ _ _ _ d a=>by obtain⟨f,k,rfl⟩:=us2 a;rfl
 have jH:=iw (st:=gB) GH EY vk;have iB:=jH.binds (ps:=["self"]) λ_ _ _ _ _ _ d a=>by obtain⟨f,rfl⟩:=us1 a;rfl
 have ou:=iw (st:=gZ) HJ HW wd;have q8:=ou.binds (ps:=["self"]) λ_ _ _ _ _ _ d a=>by obtain⟨f,rfl⟩:=us1 a;rfl
 have D:=iw (st:=gh) Hj HQ wt;have gg:=D.binds (ps:=["self","laying","wish"]) λ_ _ _ _ _ _ d a=>by obtain⟨f,k,u2,rfl⟩:=us3 a;rfl
 have m:=iw (st:=d3) Ci Cf sR;have Y:=m.binds (ps:=["self"]) λ_ _ _ _ _ _ d a=>by obtain⟨f,rfl⟩:=us1 a;rfl
 have n:=iw (st:=eX) HB G1 vU;have Q:=n.binds (ps:=["self"]) λ_ _ _ _ _ _ d a=>by obtain⟨f,rfl⟩:=us1 a;rfl
 have tm:=CF.ZH X G ["web","number"];have wA:=HF.ZH X G ["web","numbers"];have wy:=HP.ZH X G ["web","numbers"];have Tt:=XF.df4 X G ["web","laying","place","many"];have OO:=Ws.df3 X G ["web","place","many"];have lD:=iw (st:=gU) Nm MC yf;have lR:=lD.binds (ps:=["self","place","many"]) λ_ _ _ _ _ _ d a=>by obtain⟨f,k,u2,rfl⟩:=us3 a;rfl
 have jc:=iw (st:=dU) ve vg tY;have uj:=jc.binds (ps:=["self","at"]) λ_ _ _ _ _ _ d a=>by obtain⟨f,k,rfl⟩:=us2 a;rfl
 have Py:=WI.df3 X G ["web","a","b"];have IG:=Uw.ZH X G ["web","step"];have Fg:=SW.df3 X G ["web","laying","step"];have uY:=Em.ZH X G ["web","a"];have AW:=Om.ZH X G ["web","step"];have sO:=CD.df3 X G ["web","laying","step"];have Bl:=P0.df3 X G ["web","laying","steps"];have Fx:=Qq.df3 X G ["web","laying","steps"];have oj:=iw (st:=jf) HX Hf vT;have qQ:=oj.binds (ps:=["self","a","b","times"]) λ_ _ _ _ _ _ d a=>by obtain⟨f,k,u2,u3,rfl⟩:=us4 a;rfl
 have AV:=OF.ZH X G ["web","numbers"];have kg:=iw (st:=g6) G7 Hw vZ;have km:=kg.binds (ps:=["self","place","many"]) λ_ _ _ _ _ _ d a=>by obtain⟨f,k,u2,rfl⟩:=us3 a;rfl
 have Bx:=Og.df3 X G ["desk","word","numbers"];have wp:=G3.df1 X G ["word"];have sQ:=Cc.ZH X G ["word","at"];have uW:=CN.df3 X G ["words","many","at"];have P3:=WX.df3 X G ["web","place","front"];have Jc:=Ue.ZH X G ["web","r"];have Pp:=Vq.ZH X G ["web","r"];have FN:=Q1.ZH X G ["web","r"];have yE:=Jn.df3 X G ["web","laying","r"];have IL:=TK.df3 X G ["web","laying","r"];have Iz:=Uu.df1 X G ["numbers"];have AU:=Op.ZH X G ["web","wish"];have Ja:=U0.ZH X G ["web","wish"];have P5:=WF.df3 X G ["web","laying","r"];have tf:=Ct.df1 X G ["number"];have rE:=zR.df1 X G ["numbers"];have wf:=HK.df4 X G ["web","laying","wish","r"];have yI:=Lc.df4 X G ["web","laying","wish","r"];have qr:=yU.df1 X G ["number"];have uC:=EE.df1 X G ["steps"];have rX:=zF.df3 X G ["web","r","wanted"];have yh:=MK.df4 X G ["web","r","wanted","weights"];have Iv:=Va.df4 X G ["web","weights","place","front"];have qj:=yZ.ZH X G ["web","r"];have DE:=RB.df3 X G ["web","r","wanted"];have Bk:=Pa.ZH X G ["web","wanted"];have IH:=UH.df3 X G ["web","r","wanted"];have vf:=FA.df3 X G ["web","r","wanted"];have sS:=Ch.df3 X G ["web","word","numbers"];have rm:=zw.df3 X G ["desk","word","numbers"];have wz:=G5.ZH X G ["desk","row"];have mC:=iw (st:=dg) Cq CA tj;have j7:=mC.binds (ps:=["self","row"]) λ_ _ _ _ _ _ d a=>by obtain⟨f,k,rfl⟩:=us2 a;rfl
 have y8:=Mh.ZH X G ["script","k"];have sN:=Cd.ZH X G ["cell","many"];have oX:=vM.ZH X G ["cell","many"];have Bn:=Pj.df4 X G ["cell","mode","many","base"];have vY:=Hk.df1 X G ["script"];have Tq:=iw (st:=lC) Xm Xh Xu;have XD:=Tq.binds (ps:=["script"]) λ_ _ _ _ _ _ d a=>by obtain⟨f,rfl⟩:=us1 a;rfl
 have XG:Df K p "law" lC ["script"] fa _:=⟨Tq,aW X G TB,XD⟩;refine⟨PySem.W.fnOf "law" "law" (dA lC) (df lC) (aw lC) .none OW OT PZ Pn FG Ot,λs v=>.of_eq rfl,λbase _ _=>?_⟩;have vx:Mk K T.Web U:=⟨W5,zQ,zx,VM⟩;have FT:Mk K T.Desk Z:=⟨U9,yV,zb,U2⟩;have iy:Meth K T.Desk "deeds" u:=⟨Dy,DY,vk⟩;have qO:Meth K T.Desk "back" x:=⟨HS,HE,wd⟩;have gl:Meth K T.Desk "keep" O:=⟨HR,Il,wt⟩;have F:Meth K T.Desk "laying" R:=⟨B9,BQ,sR⟩;have M:Meth K T.Desk "wish" S:=⟨Ib,Hh,vU⟩;have lH:Meth K T.Desk "put" N:=⟨Ld,JO,yf⟩;have qT:Meth K T.Desk "step" C:=⟨Ij,He,vT⟩;have ki:Meth K T.Desk "want" y:=⟨HD,Im,vZ⟩;have kc:Meth K T.Desk "answer" E:=⟨Ck,BM,tj⟩;have fN:lG K T.BadText o:=Pc;have qy:lG K T.BadStep q:=Ps;have nK:=cb rn (yp (P:=l.prog) (w:=w) (base:=base) T bp _ _ rn);have gj:=cb yQ (HV (P:=l.prog) (w:=w) (base:=base) T bp _ _ yQ);have pP:=cb ue (Ca T bp gj _ _ ue);have jw:=cb u5 (B4 (P:=l.prog) (w:=w) (base:=base) T bp _ _ u5);have nM:=cb rH (zd T bp jw _ _ rH);have oV:=cb sV (Ae (P:=l.prog) (w:=w) (base:=base) T bp _ _ sV);have ώ:=yi (P:=l.prog) (w:=w) (base:=base) T bp hW nK pP nM oV;have qN:=cb wn (Fs (P:=l.prog) (w:=w) (base:=base) T bp _ _ wn);have oK:=xA (P:=l.prog) (w:=w) (base:=base) T bp kM hW vy vx ώ;have Α:=tW (P:=l.prog) (w:=w) (base:=base) T bp A;have ii:=B5 (P:=l.prog) (w:=w) (base:=base) T bp jH;have qS:=Gd (P:=l.prog) (w:=w) (base:=base) T bp ou jH iB iy ii;have gb:=GB (P:=l.prog) (w:=w) (base:=base) T bp D;have V:=zr (P:=l.prog) (w:=w) (base:=base) T bp m;have J:=De (P:=l.prog) (w:=w) (base:=base) T bp n;have r:=cb tm (AB T bp gj _ _ tm);have kh:=cb wA (FB (P:=l.prog) (w:=w) (base:=base) T bp _ _ wA);have d7:=cb wy (Gj T bp kh _ _ wy);have LO:=cb Tt (VA T bp r d7 _ _ Tt);have CU:=cb OO (UN T bp LO _ _ OO);have lN:=Hg (P:=l.prog) (w:=w) (base:=base) T bp lD D gg gl gb m Y F V n Q M J CU;have Ϛ:=tH (P:=l.prog) (w:=w) (base:=base) T bp jc;have rC:=cb Py (Ui T bp r _ _ Py);have pw:=cb IG (SD T bp rC _ _ IG);have xB:=cb Fg (Oz T bp pw _ _ Fg);have jG:=cb uY (Cw T bp r jw _ _ uY);have tX:=cb AW (JD T bp gj jG _ _ AW);have oW:=cb sO (zZ T bp tX pw _ _ sO);have tZ:=cb Bl (LQ T bp jc uj qy Ϛ xB oW d7 _ _ Bl);have wF:=cb Fx (Pt T bp tZ _ _ Fx);have rg:=Gr (P:=l.prog) (w:=w) (base:=base) T bp oj D gg gl gb m Y F V n Q M J wF;have iY:=cb AV (KA T bp kh _ _ AV);have kj:=Ea (P:=l.prog) (w:=w) (base:=base) T bp kg D gg gl gb m Y F V n Q M J r iY;have vh:=cb Bx (Kb (P:=l.prog) (w:=w) (base:=base) T bp ou q8 qO qS lD lR lH lN oj qQ qT rg kg km ki kj _ _ Bx);have qL:=cb wp (F7 (P:=l.prog) (w:=w) (base:=base) T bp _ _ wp);have iV:=cb sQ (zB T bp A iZ fN Α qL _ _ sQ);have pR:=cb uW (Cn T bp A iZ fN Α iV _ _ uW);have rA:=cb P3 (UP T bp jG _ _ P3);have pB:=cb Jc (RH T bp r rA _ _ Jc);have Ec:=cb Pp (TX T bp pB rA _ _ Pp);have jY:=cb FN (O9 T bp pB Ec _ _ FN);have lQ:=cb yE (Ih T bp jY d7 _ _ yE);have Ar:=cb IL (SI T bp lQ _ _ IL);have Ad:=cb Iz (SM (P:=l.prog) (w:=w) (base:=base) T bp _ _ Iz);have uK:=cb AU (Ki T bp Ad iY _ _ AU);have zY:=cb Ja (Qb T bp uK _ _ Ja);have FJ:=cb P5 (UA T bp lQ _ _ P5);have gF:=cb tf (Aq (P:=l.prog) (w:=w) (base:=base) T bp _ _ tf);have f9:=cb rE (yY (P:=l.prog) (w:=w) (base:=base) T bp _ _ rE);have qV:=cb wf (Dj T bp jY d7 iY _ _ wf);have sv:=cb yI (Ii T bp qV _ _ yI);have m7:=cb qr (wS (P:=l.prog) (w:=w) (base:=base) T bp _ _ qr);have qa:=cb uC (Cu (P:=l.prog) (w:=w) (base:=base) T bp _ _ uC);have eL:=cb rX (yt T bp r _ _ rX);have sg:=cb yh (Hi T bp eL _ _ yh);have zA:=cb Iv (QN T bp rC _ _ Iv);have mU:=cb qj (wL T bp zA jY _ _ qj);have jW:=cb DE (Of T bp sg mU _ _ DE);have um:=cb Bk (KH T bp jW _ _ Bk);have zu:=cb IH (SX T bp eL _ _ IH);have pV:=cb vf (BX T bp eL _ _ vf);have oQ:=cb sS (AG T bp jW um gF f9 zu pV _ _ sS);have nX:=cb rm (yA T bp m Y F V n Q M J Ar zY FJ gF f9 sv m7 qa oQ _ _ rm);have qY:=cb wz (DB T bp A iZ fN Α vh pR nX (XB [("put",ϫ,2,Ϭ),("want",oZ,2,ϭ),("step",oY,3,Ϯ),("back",ϯ,0,ϰ),("laying",ϱ,0,ϲ),("wish",ϳ,0,ϴ),("most",ϵ,1,Ϸ),("bring",ϸ,1,Ϲ),("stands",Ϻ,1,ϻ),("meet",aC,0,aS),("enough",ϛ,2,Ϝ),("hardest",ϝ,1,Ϟ),("worst",ϟ,2,Ϡ),("many",ϡ,2,Ϣ),("always",ϣ,0,Ϥ),("fails",ϥ,0,Ϧ)] Zi (show(nbT.map (·.1)).Nodup by decide +kernel) vP rfl) _ _ wz);have j6:=AI (P:=l.prog) (w:=w) (base:=base) T bp mC qY;have gP:=cb y8 (G2 (P:=l.prog) (w:=w) (base:=base) T bp _ _ y8);have oU:=cb sN (zE (P:=l.prog) (w:=w) (base:=base) T bp _ _ sN);have lU:=cb oX (uO (P:=l.prog) (w:=w) (base:=base) T bp _ _ oX);have qp:=cb Bn (Nq (P:=l.prog) (w:=w) (base:=base) T bp _ _ Bn);have q9:=cb vY (Fm T bp gP qp qN _ _ vY);have Xq:=VO (P:=l.prog) (w:=w) (base:=base) T bp XG kM F6 FT oK mC j7 kc j6 jH iB iy ii m Y F V lD lR lH lN kg km ki kj n Q M J hW vy vx ώ gP oU lU q9;exact Xq
theorem walk{l:PySem.W.OpenLaw}{q:Program}{c:gy}{XP:(Str->Option Value)->Heap->Prop}{m:World->Heap->Prop}{d:DefRec}{K:Params->PySem.W.Frag}(r:l.most=some 63)(g:d.params.defaults=[])(p:∀(w:World) (h:Heap),m w h->(K w.params).In h)(F:∀(w:World) (e:f5) (j:Addr) (h:Heap),(K w.params).In h->h.Ns mainGlobals e->e d.name=some (.ref j)->∃i:FuncData,(∀(s:Shared) (u:Value),BindsTo s i ⟨[u],[]⟩ [("script",u)])/\∀b:Heap,(K w.params).In b->b.Ns mainGlobals e->υ l.prog w (K w.params) e b (ς l.prog w) 16 j i ["script"] (CK (K w.params))):PySem.W.WalkO q c XP m l.row.toRowW d [] (λf v=>PySem.call f v):=L2.adi (n:=63) (k:=16) (x:="script") (CX:=λw=>(ς l.prog w)) (sp:=λw=>CK (K w.params)) r (by decide) g ⟨rfl,by decide,by decide⟩ p F (λ_ _ a t y _ o=>⟨a,t,rfl,o,y,λ_=>rfl⟩) λ_ _ _ _ _ z=>bp _ _ _ _ _ z
end Pk
open L2
open PySem PySem.W PyProof.Rows
set_option maxRecDepth 100000 in
set_option maxHeartbeats 0 in
theorem PySem.Challenge.cw_pebbletoll_k64_rows_refused_holds : PySem.Challenge.rw_pebbletoll_k64_rows_refused.Holds := by
 w_on;refine PySem.W.holds_law Hd.ws λaqB=>?_
 refine PySem.W.holds_open (q:=Hd.qq) (loose:=["NUMBERS_BEHIND"]) (Xt:=(λs=>PySem.W.xlAt Hd.qq [] s&&PySem.W.recOk (PySem.W.RowW.records (PySem.W.OpenRow.toRowW (PySem.Challenge.rw_pebbletoll_k64_rows_refused).row)) s)) (XP:=PySem.W.XL Hd.qq []) (Yf:=PySem.W.Hook.obs (PySem.W.kHook Hd.KK Hd.asK Hd.ϖ)) (Ya:=PySem.W.Hook.val (PySem.W.kHook Hd.KK Hd.asK Hd.ϖ)) (YP:=PySem.W.Hook.says (PySem.W.kHook Hd.KK Hd.asK Hd.ϖ)) (N:=12962) Hd.left (PySem.W.Hook.of (PySem.W.kHook Hd.KK Hd.asK Hd.ϖ)) (PySem.W.Hook.keeps (PySem.W.kHook Hd.KK Hd.asK Hd.ϖ)) (λs e=>PySem.W.xl_of s (kQ.mp e).1) PySem.W.XL.keeps (by rfl) (by rfl) (by rfl) (λs e=>PySem.W.recFacts_of (kQ.mp e).2) (by rfl) (by assumption) (by decide +kernel) ⟨rfl,rfl,rfl,rfl,rfl,by decide +kernel⟩ ?hw ?hc
 (case hw=>w_witness2)
 k_fill
 refine Pk.walk (l:=PySem.Challenge.rw_pebbletoll_k64_rows_refused) rfl rfl (λw h Y=>PySem.W.kIn_of Y) ?F
 case F=>
  intro w mg fa h KX G hmg;refine' Pk.all_mk KX G hmg ?_ ?_ ?_ ?_ ?_ ?_ ?_ ?_ ?_ ?_ ?_ ?_ ?_ ?_ ?_ ?_ ?_ ?_ ?_ ?_ ?_ ?_ ?_ ?_ ?_ ?_ ?_ ?_ ?_ ?_ ?_ ?_ ?_ ?_ ?_ ?_ ?_ ?_ ?_ ?_ ?_ ?_ ?_ ?_ ?_ ?_ ?_ ?_ ?_ ?_ ?_ ?_ ?_ ?_ ?_ ?_ ?_ ?_ ?_ ?_ ?_ ?_ ?_ ?_ ?_ ?_ ?_ ?_ ?_ ?_ ?_ ?_ ?_ ?_ ?_ ?_ ?_ ?_ ?_ ?_ ?_ ?_ ?_ ?_ ?_ ?_ ?_ ?_ ?_ ?_ ?_ ?_ ?_ ?_ ?_ ?_ ?_ ?_ ?_ ?_ ?_ ?_ ?_ ?_ ?_ ?_ ?_ ?_ ?_ ?_ ?_ ?_ ?_ ?_ ?_ ?_ ?_ ?_ ?_ ?_ ?_ ?_ ?_ ?_ ?_ ?_ ?_ ?_ ?_ ?_ ?_ ?_ ?_ ?_ ?_ ?_ ?_ ?_ ?_ ?_ ?_ ?_ ?_ ?_ ?_ ?_ ?_ ?_ ?_ ?_ ?_ ?_ ?_ ?_ ?_ ?_ ?_ ?_ ?_ ?_ ?_ ?_ ?_ ?_ ?_ ?_ ?_ ?_ ?_ ?_ ?_ ?_ ?_ ?_ ?_ ?_ ?_ ?_ ?_ ?_ ?_ ?_ ?_ ?_ ?_ ?_ ?_ ?_ ?_ ?_ ?_ ?_ ?_ ?_ ?_ ?_ ?_ ?_ ?_ ?_ ?_ ?_ ?_ ?_ ?_ ?_ ?_ ?_ ?_
  any_goals first|exact T9 (by k_is) (by k_is) (by k_is) (by k_is) (by k_is) (by k_is) (by k_is) (by k_is) (by rfl)|exact Ug (by k_is) (by k_is) (by k_is) (by k_is) (by k_is) (by k_is) (by k_is) (by k_is) (by rfl)|exact Up _ _ _ _ _ _ _ _ _ _ _ _ _ _ _ _ (by k_is) (by rfl) (by kernel_rfl) (by k_is) (by kernel_rfl)|exact SS _ _ _ _ _ _ _ _ _ _ _ _ _ _ _ _ (by k_is) (by rfl) (by kernel_rfl) (by k_is) (by kernel_rfl) (by k_is)|exact Ve (by k_is) (by rfl) (by k_is) (by k_is) (by k_is)|exact Pk.fi|k_is|decide
#print axioms PySem.Challenge.cw_pebbletoll_k64_rows_refused_holds