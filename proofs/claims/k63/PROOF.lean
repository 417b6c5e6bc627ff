import PyProof.Rows.All
import Wide.All
import OpenK.AllK
import Wide.FinOn
import Lean
import PyProof.EqAt
import PyProof.EqKinds
import PyProof.TupleCall
import PyProof.P3Eq
import PyProof.NeData
import PyProof.FitsBits
import PyProof.ZipIter
import PyProof.TupleIter
import KE.KRevIter
import PyProof.TupleOfGen
import PyProof.ListRange
import KE.KIsAll
import PyProof.ExcArgsOwn
import OpenK.KDescr
import PyProof.StationsW
import PyProof.ExcBaseAll.ValueError
import OpenK.KOwn
import PyProof.RulesAs
import PyProof.RulesDel
import PyProof.Rows.SortWalk
import PyProof.CompUse
import KE.KDictSum
import PyProof.WalkInts
import KE.KSortTup
import PyProof.Rows.TupDisplay
import KE.KIntText
import PyProof.JoinWalk
import PyProof.ExcInit
import PyProof.ExcClass2
import KE.KRevSl
import KE.KSetAt
import PyProof.DictUpdate
import KE.KTryMore
import PySem.Challenge.RW_pebbletoll_k63_questions_answered
set_option Elab.async false
set_option linter.all false
set_option maxRecDepth 100000
def gQ:=@Array.getElem?_eq_some_iff
def j0:=@Array.getElem?_toList
def oW:=@Array.length_toList
def oH:=@Array.mem_toList_iff
def nC:=@Array.size_push
def bG:=@Bool.and_eq_true
def oB:=@Bool.and_eq_true_iff
def i9:=@Bool.eq_iff_iff
def gg:=@Bool.false_and
def dN:=@Bool.false_eq_true
def bj:=@Bool.false_ne_true
def nY:=@Bool.false_or
def iE:=@Bool.not_eq_true'
def nX:=@Bool.or_false
def lO:=@Bool.or_true
def iQ:=@Bool.true_and
def kR:=@PySem.Calls.Name_function_global
def jC:=@PySem.Calls.callWith_builtin
def jX:=@PySem.Calls.evalArgs_plain
def ii:=@PySem.Calls.spliced_cons
def iH:=@PySem.Calls.spliced_nil
def kY:=@PySem.F.args_str_split_2
def j7:=@PySem.F.args_tuple_iterator_next_1
def lG:=@PySem.F.entry_str_split
def kH:=@PySem.F.entry_tuple_iterator_next
def mN:=@PySem.F.slot_str_join
def mi:=@PySem.F.slot_str_split
def gK:=@PySem.F.slot_tuple_iterator_next
def jU:=@PySem.F.slot_zip_next
def aB:=@PySem.Heap.get?_push_of_some
def bc:=@PySem.Heap.get?_push_size
def dR:=@PySem.Heap.get?_update_other
def fH:=@PySem.Heap.get?_update_self
def aK:=@PySem.Heap.lt_size
def d5:=@PySem.Heap.size_push
def eW:=@Int.add_mul
def mK:=@Int.ediv_nonneg
def cP:=@Int.emod_lt_of_pos
def cL:=@Int.emod_nonneg
def cI:=@Int.eq_ofNat_of_zero_le
def kO:=@Int.fdiv_eq_ediv_of_nonneg
def fm:=@Int.le_of_lt
def bO:=@Int.le_refl
def cg:=@Int.le_trans
def fM:=@Int.mul_add
def eU:=@Int.mul_assoc
def fV:=@Int.mul_comm
def dH:=@Int.mul_le_mul
def bL:=@Int.mul_le_mul_of_nonneg_left
def b5:=@Int.mul_le_mul_of_nonneg_right
def jb:=@Int.mul_nonneg
def pI:=@Int.mul_one
def ms:=@Int.mul_sub
def eO:=@Int.natCast_add
def jS:=@Int.natCast_mul
def lP:=@Int.ne_of_gt
def j9:=@Int.neg_mul
def mz:=@Int.one_mul
def gZ:=@Int.pow_add
def dI:=@Int.pow_pos
def dJ:=@Int.toNat_natCast
def cA:=@Int.toNat_of_nonneg
def d9:=@Int.zero_add
def ng:=@List.Perm.append_left
def nZ:=@List.all_cons
def eG:=@List.all_eq_true
def iT:=@List.any_cons
def ci:=@List.append_assoc
def cj:=@List.append_nil
def fL:=@List.concat_eq_append
def eV:=@List.cons.inj
def fA:=@List.contains_cons
def j5:=@List.dropLast_concat
def i6:=@List.drop_eq_getElem_cons
def fh:=@List.drop_length
def mM:=@List.drop_of_length_le
def oG:=@List.drop_succ_cons
def ir:=@List.drop_zero
def ik:=@List.eq_nil_iff_forall_not_mem
def fF:=@List.eq_nil_or_concat
def gH:=@List.ext_getElem?
def i5:=@List.filterMap_cons
def cw:=@List.filter_append
def dE:=@List.filter_cons_of_neg
def dD:=@List.filter_cons_of_pos
def fI:=@List.filter_nil
def fG:=@List.find?_cons
def gC:=@List.findSome?_append
def hZ:=@List.findSome?_cons
def oz:=@List.flatMap_append
def dQ:=@List.flatMap_cons
def gF:=@List.flatten_cons
def lD:=@List.foldl_append
def iX:=@List.foldl_cons
def mE:=@List.forIn_cons
def kj:=@List.getD_cons_succ
def bn:=@List.getD_eq_getElem?_getD
def eJ:=@List.getElem?_append_left
def dc:=@List.getElem?_append_right
def je:=@List.getElem?_cons_succ
def az:=@List.getElem?_eq_getElem
def bW:=@List.getElem?_eq_none
def ax:=@List.getElem?_eq_some_iff
def aN:=@List.getElem?_map
def cD:=@List.getElem?_of_mem
def gO:=@List.getElem?_range
def jc:=@List.getElem?_replicate
def jO:=@List.getElem?_replicate_of_lt
def cu:=@List.getElem?_reverse
def cz:=@List.getElem?_set_ne
def cY:=@List.getElem?_set_self
def gS:=@List.getElem?_take_of_lt
def iW:=@List.getElem?_zip_eq_some
def jg:=@List.getElem_cons_drop
def jk:=@List.getElem_map
def dh:=@List.getElem_mem
def jW:=@List.getElem_of_mem
def aH:=@List.length_append
def aO:=@List.length_cons
def fP:=@List.length_drop
def lL:=@List.length_eq_zero_iff
def bP:=@List.length_filter_le
def ag:=@List.length_map
def dB:=@List.length_nil
def j6:=@List.length_pos_iff
def cN:=@List.length_range
def b8:=@List.length_replicate
def aQ:=@List.length_reverse
def bN:=@List.length_set
def gj:=@List.length_singleton
def bq:=@List.length_take
def iU:=@List.length_zip
def cV:=@List.lookup_cons
def aq:=@List.map_append
def cB:=@List.map_congr_left
def aF:=@List.map_cons
def nB:=@List.map_drop
def j4:=@List.map_eq_nil_iff
def jo:=@List.map_map
def cG:=@List.map_nil
def hV:=@List.map_replicate
def eB:=@List.map_reverse
def cT:=@List.map_set
def bi:=@List.mem_append
def bJ:=@List.mem_append_left
def bw:=@List.mem_append_right
def aE:=@List.mem_cons
def aI:=@List.mem_cons_of_mem
def aL:=@List.mem_cons_self
def mV:=@List.mem_erase_of_ne
def b9:=@List.mem_filter
def iG:=@List.mem_flatMap
def aZ:=@List.mem_map
def dL:=@List.mem_nil_iff
def aP:=@List.mem_of_getElem?
def gA:=@List.mem_of_mem_drop
def mW:=@List.mem_of_mem_take
def fE:=@List.mem_or_eq_of_mem_set
def cW:=@List.mem_range
def i4:=@List.mem_replicate
def dP:=@List.mem_reverse
def aG:=@List.mem_singleton
def jJ:=@List.nil_append
def eK:=@List.nodup_append
def bD:=@List.nodup_cons
def fN:=@List.not_mem_nil
def mj:=@List.of_mem_zip
def ft:=@List.pairwise_iff_getElem
def kI:=@List.perm_append_singleton
def dZ:=@List.range_succ
def dF:=@List.replicate_succ
def mS:=@List.replicate_succ'
def nD:=@List.reverse_append
def fC:=@List.reverse_cons
def mR:=@List.reverse_reverse
def aR:=@List.size_toArray
def iV:=@List.sum_append
def bf:=@List.sum_cons
def de:=@List.take_append_drop
def bC:=@List.take_length
def bZ:=@List.take_of_length_le
def kZ:=@List.take_sublist
def bg:=@List.take_succ
def dU:=@List.take_zero
def jN:=@Nat.add_mul
def ji:=@Nat.le_add_right
def jA:=@Nat.le_of_ble_eq_true
def lB:=@Nat.le_of_eq
def iP:=@Nat.le_of_lt
def aJ:=@Nat.le_refl
def gB:=@Nat.le_succ
def aW:=@Nat.le_trans
def lM:=@Nat.log2_lt
def cU:=@Nat.lt_irrefl
def fY:=@Nat.lt_of_le_of_lt
def aU:=@Nat.lt_of_lt_of_le
def gm:=@Nat.lt_succ_of_lt
def fQ:=@Nat.lt_succ_self
def kQ:=@Nat.lt_trichotomy
def mw:=@Nat.mod_lt
def oY:=@Nat.mul_add
def ko:=@Nat.mul_assoc
def jp:=@Nat.mul_comm
def eA:=@Nat.mul_le_mul
def mY:=@Nat.mul_le_mul_right
def n9:=@Nat.mul_succ
def eC:=@Nat.ne_of_gt
def aV:=@Nat.ne_of_lt
def nO:=@Nat.pow_le_pow_left
def dq:=@Nat.pow_le_pow_right
def mZ:=@Nat.pow_lt_pow_right
def dX:=@Nat.pow_succ
def dW:=@Nat.sub_self
def gh:=@Nat.sub_zero
def lA:=@Nat.succ.inj
def cf:=@Nat.zero_le
def eZ:=@PySem.Obj.data_mapFields
def iB:=@PySem.Obj.isFreed_of_fields
def gR:=@Option.isSome_iff_exists
def ck:=@Option.map_eq_some_iff
def bF:=@Option.some.inj
def cR:=@PyProof.Rows.callWith_type1
def dv:=@PySem.F.plainAttrs_list
def lC:=@PySem.F.slot_list_insert
def iZ:=@PySem.W.callWith_K
def mn:=@PySem.W.cellsFrom_some
def dC:=@PySem.W.kia_one
def nF:=@PySem.W.looks_mroIn
def mO:=@PySem.W.methodCall_KW
def kh:=@PySem.W.mg_of
def jY:=@PySem.W.plainGet_of
def ee:=@PySem.mem_of_lookup
def jf:=@PySem.Str.ofString_eq_toList
def kf:=@beq_iff_eq
def jv:=@PySem.codeAny_mono
def bM:=@decide_eq_false
def bo:=@decide_eq_true
def b4:=@decide_eq_true_eq
def ah:=@if_neg
def aj:=@if_pos
def bB:=@of_decide_eq_true
def hW:=@PySem.wpAny_Call_Name_kw
def ao:=@PySem.wpAny_bind
def mJ:=@PySem.wpAny_bindName
def my:=@PySem.wpAny_call
def jh:=@PySem.wpAny_call_entry
def lF:=@PySem.wpAny_execs_cons
def gV:=@PySem.wpAny_execs_nil
def cQ:=@PySem.wpAny_field
def ki:=@PySem.wpAny_holding
def gW:=@PySem.wpAny_ite_split
def lZ:=@PySem.wpAny_letGo
def da:=@PySem.wpAny_mono
def fB:=@PySem.wpAny_newObj_type
def kC:=@PySem.wpAny_onRaise
def fW:=@PySem.wpAny_passesOwn
def bh:=@PySem.wpAny_pure
def ig:=@PySem.wpAny_pyIter_list
def iJ:=@PySem.wpAny_pyIter_revIter
def ku:=@PySem.wpAny_pyIter_tuple
def mq:=@PySem.wpAny_rule
def eR:=@PySem.wpAny_seqItems
def iY:=@PySem.wpAny_setField
def fZ:=@PySem.wpAny_setField_rec
def mf:=@PySem.wpAny_specialOf
def i7:=@PySem.wpAny_standAt
def dA:=@PySem.wpAny_truthy_bool
def jQ:=@PySem.wpAny_updateSeq_pair
set_option compiler.extract_closed false
namespace Hd
open PySem
def top(i:Nat):Stmt:=PySem.Challenge.pw_pebbletoll_k63_questions_answered.main.body.getD i (.Pass ⟨0,0,0,0⟩)
def inC(s:Stmt)(j:Nat):Stmt:=match s with
 | .ClassDef _ _ _ b _ _ _ _ _ _ _=>b.getD j (.Pass ⟨0,0,0,0⟩)
 | _=>.Pass ⟨0,0,0,0⟩
def kA(s:Stmt):Arguments:=match s with
 | .FunctionDef _ a _ _ _ _ _ _ _ _=>a
 | _=>{ posonlyargs:=[],args:=[],vararg:=none,kwonlyargs:=[],kw_defaults:=[],kwarg:=none,defaults:=[] }
def kB(s:Stmt):List Stmt:=match s with
 | .FunctionDef _ _ b _ _ _ _ _ _ _=>b
 | _=>[]
def kS(s:Stmt):Scope:=match s with
 | .FunctionDef _ _ _ _ _ _ sc _ _ _=>sc
 | _=>{ kind:=.function,names:=[],isGenerator:=false,isCoroutine:=false }
theorem wsA:(PySem.Challenge.rw_pebbletoll_k63_questions_answered).row.wellSaid=true:=by kernel_rfl
theorem ws:(PySem.Challenge.rw_pebbletoll_k63_questions_answered).wellSaid=true:=by unfold PySem.W.OpenLaw.wellSaid;rw[wsA];kernel_rfl
open PySem.W PySem.Calls PyProof.Rows
def en(P:Params)(s:Str)(t:Tok)(v:Value):DictEntry:=.mk (PyData.keyHash P s) (.str s t) v
def tO(a:List Value):Obj:=.mk (.type "tuple") none (.seq ⟨a⟩ 0) #[]
def pO(a:List Value):Obj:=.mk .none none (.fields ⟨a⟩) #[]
def fO(s:String)(a:List Value):Obj:=.mk (.type s) none (.fields ⟨a⟩) #[]
def dO(a:List DictEntry)(n:Nat):Obj:=.mk (.type "dict") none (.dict ⟨a⟩ n) #[]
def cO(n q:Str)(t l c g a:Nat)(b:Bool)(d f e:Value)(z:Nat):Obj:=fO "code" [.str n t,.str q (t+1),.str "/claim/cut.py" (t+2),.int (.ofNat l) 0,.int (.ofNat c) 0,.int 0 0,.int 0 0,.int (.ofNat g) 0,.ref a,.bool b,.int 181 0,.ref (a+1),.none,d,f,e,.int (.ofNat z) 0,.int (.ofNat l) 0,.str "/claim/cut.py" (z+1)]
def rO(c l:Nat)(m:Value):Obj:=.mk (.type "frame") none .plain #[some (.ref c),some (.ref 3),some (.ref l),none,some m,none,some (.ref 0)]
def sT(t:Nat):List Str->List Value
 | []=>[]
 | s::l=>.str s t::sT (t+1) l
structure It where
 o:List Obj
 e:DictEntry
 r:List Value
structure FT where
 m:Value
 n:Str
 q:Str
 s:Stmt
 a:Nat
 t:Nat
 k:Nat
 b:Bool
def FT.c(f:FT):Nat:=f.a+cond f.b 5 3
def FT.C(f:FT):Obj:=cO f.n f.q f.t f.s.pos.line (kA f.s).args.length 3 f.a true (cond f.b (.ref (f.a+2)) .none) (cond f.b (.ref (f.a+3)) .none) (.ref (f.a+cond f.b 4 2)) (f.t+3+f.k)
def FT.D(f:FT):Obj:=.mk (.type "function") none (.func (PySem.W.fnOf f.n f.q (kA f.s) (kB f.s) (kS f.s) .none .none .none f.m none (.ref f.c) .none)) #[]
def FT.R(f:FT):Obj:=.mk .none none (.func (.mk f.n f.q (kA f.s) (.stmts (kB f.s)) (kS f.s) 0 [] .none .none .none .none none .none .none 0)) #[]
def FT.o(f:FT):List Obj:=tO []::pO []::cond f.b [tO (sT (f.t+3) (((kS f.s).names.filter (·.2==.local)).map (·.1))),tO [],f.R,f.C,f.D] [f.R,f.C,f.D]
def FT.e(P:Params)(f:FT):DictEntry:=en P f.n (f.t+5+f.k) (.ref (f.c+1))
def FT.r(j:Nat)(f:FT):List Value:=[.int (.ofNat f.s.pos.line) 0,.int (.ofNat j) 0,.ref f.c]
def FT.i(P:Params)(f:FT):It:=⟨f.o,f.e P,f.r 0⟩
def fT(m:Value)(n:Str)(i a t k:Nat):FT:=⟨m,n,n,top i,a,t,k,true⟩
def fU(m:Value)(n:Str)(i a t:Nat):FT:=⟨m,n,n,top i,a,t,0,false⟩
def mT(m:Value)(n q:Str)(i j a t k:Nat):FT:=⟨m,n,q,inC (top i) j,a,t,k,true⟩
def mU(m:Value)(n q:Str)(i j a t:Nat):FT:=⟨m,n,q,inC (top i) j,a,t,0,false⟩
structure CT where
 m:Value
 n:Str
 a:Nat
 t:Nat
 l:Nat
 x:Nat
 y:Nat
 b:List Value
 u:List Value
 w:String
 f:List FT
 v:List Str
 d:Nat
 z:List Value
def CT.g(c:CT)(j:Nat):Obj:=cond (j==1) (fO "getset_descriptor" [.str "__weakref__" (c.y+c.v.length+2*c.d-1),.ref (c.x+2),.builtin "ExceptionGroup.__weakref__",.none]) (fO "getset_descriptor" [.str "__dict__" (c.y+c.v.length+1),.ref (c.x+2),.builtin "function.__dict__",.builtin "function.__dict__#set"])
def CT.k(P:Params)(c:CT):List DictEntry:=en P "__firstlineno__" (c.t+11) (.int (.ofNat c.l) (c.t+10))::c.f.map (·.e P)++[en P "__static_attributes__" (c.y+c.v.length) (.ref c.x)]
def CT.D(P:Params)(c:CT):Obj:=dO (en P "__module__" (c.t+7) c.m::c.k P++cond (c.d==2) [en P "__dict__" (c.y+c.v.length+2) (.ref (c.x+3))] []++cond (c.d==0) [] [en P "__weakref__" (c.y+c.v.length+2*c.d) (.ref (c.x+2+c.d))]++[en P "__doc__" (c.y+c.v.length+2*c.d+1) .none]) (2+c.d)
def CT.T(c:CT):Obj:=.mk (.type "type") none (.cls (.mk c.n (cond (c.d==2) [.type "object"] c.b) (.ref (c.x+2)::c.u) (c.x+1) c.n true [] c.z false none false)) #[cond (c.d==2) none (some (.ref (c.a-1))),none,some (.str c.n c.t),some (.str c.n (c.t+8)),some (.builtin c.w),some (.bool true)]
def CT.o(P:Params)(c:CT):List Obj:=tO c.b::fO "builtin_function_or_method" [.builtin "type.__prepare__",.type "type"]::dO (en P "__module__" (c.t+7) c.m::en P "__qualname__" (c.t+9) (.str c.n (c.t+8))::c.k P) (4+c.f.length)::tO []::pO (c.f.flatMap (·.r 4))::cO c.n c.n (c.t+2) c.l 0 0 (c.a+2) false .none .none .none (c.t+5)::rO (c.a+4) (c.a+1) c.m::c.f.flatMap (·.o)++tO (sT c.y c.v)::c.D P::c.T::cond (c.d==2) [c.g 0] []++cond (c.d==0) [] [c.g 1]++[fO "super" [.ref (c.x+2),.ref (c.x+2),.ref (c.x+2)],fO "builtin_function_or_method" [.builtin "object.__init_subclass__",.ref (c.x+2)]]
def CT.i(P:Params)(c:CT):It:=⟨c.o P,en P c.n (c.y+c.v.length+2*c.d+3) (.ref (c.x+2)),[.int (.ofNat c.l) 0,.int 0 0,.ref (c.a+4)]⟩
def kT(P:Params)(n:Str)(t:Tok)(v:Value)(o:List Obj:=[]):It:=⟨o,en P n t v,[]⟩
def dM(P:Params)(m:Value)(l:List It):Obj:=dO (en P "__name__" 165 m::en P "__doc__" 166 .none::en P "__package__" 167 .none::en P "__loader__" 168 (.builtin "__main__.__loader__#opaque")::en P "__spec__" 169 .none::en P "__annotations__" 170 (.ref 6)::en P "__builtins__" 171 (.ref 4)::en P "__file__" 173 (.str "/claim/cut.py" 172)::en P "__cached__" 174 .none::l.map (·.e)) (9+l.length)
def m0:Value:=.str "pebbletoll.errors" 187
def m1:Value:=.str "pebbletoll.webs" 369
def m2:Value:=.str "pebbletoll.layings" 488
def m3:Value:=.str "pebbletoll.ways" 531
def m4:Value:=.str "pebbletoll.steps" 571
def m5:Value:=.str "pebbletoll.wishes" 629
def m6:Value:=.str "pebbletoll.always" 718
def m7:Value:=.str "pebbletoll.bringing" 844
def m8:Value:=.str "pebbletoll.enough" 881
def m9:Value:=.str "pebbletoll.texts" 969
def ZT:Value:=.str "pebbletoll.polynomials" 1019
def XR:Value:=.str "pebbletoll.worsts" 1057
def T5:Value:=.str "pebbletoll.desk" 1144
def Vf:Value:=.str "law_pebbletoll_k63_questions_answered" 1353
def f0:FT:=mT m0 "__init__" "BadStep.__init__" 9 0 119 331 2
def f1:FT:=mT m0 "__init__" "BadText.__init__" 10 0 138 356 2
def f2:FT:=mU m1 "__init__" "Web.__init__" 15 0 157 389
def f3:FT:=fT m1 "toll" 16 169 405 7
def f4:FT:=fT m1 "neighbours" 17 176 418 2
def f5:FT:=fT m1 "check_place" 18 183 426 2
def f6:FT:=fT m1 "is_place" 19 190 434 2
def f7:FT:=fT m1 "check_counts" 20 197 442 2
def f8:FT:=fT m1 "check_ends" 21 204 450 2
def f9:FT:=fT m1 "check_tolls" 22 211 458 2
def f10:FT:=fT m1 "check_joined" 23 218 466 6
def f11:FT:=fT m1 "other_ends" 24 225 478 4
def f12:FT:=fT m2 "laying_of" 26 232 490 2
def f13:FT:=fU m2 "is_filled" 27 239 498
def f14:FT:=fT m2 "total" 28 244 504 1
def f15:FT:=fT m2 "pile" 29 251 511 3
def f16:FT:=fT m2 "put" 30 258 520 5
def f17:FT:=fT m3 "ahead" 32 265 533 7
def f18:FT:=fT m3 "down" 33 272 546 7
def f19:FT:=fU m3 "kids" 34 279 559
def f20:FT:=fU m3 "inward" 35 284 565
def f21:FT:=fT m4 "walked" 37 289 573 3
def f22:FT:=fT m4 "layings" 38 296 582 6
def f23:FT:=fT m4 "can_be_done" 39 303 594 3
def f24:FT:=fT m4 "is_step" 40 310 603 2
def f25:FT:=fT m4 "taken" 41 317 611 2
def f26:FT:=fT m4 "behind" 42 324 619 4
def f27:FT:=fT m5 "wish_of" 44 331 631 2
def f28:FT:=fU m5 "standings" 45 338 639
def f29:FT:=fT m5 "handed_on" 46 343 645 4
def f30:FT:=fT m5 "standing" 47 350 655 4
def f31:FT:=fT m5 "is_met" 48 357 665 3
def f32:FT:=fT m5 "meeting" 49 364 674 3
def f33:FT:=fT m5 "steps_in" 50 371 683 9
def f34:FT:=fT m5 "steps_out" 51 378 698 8
def f35:FT:=fU m5 "lacks_of" 52 385 712
def f36:FT:=fT m6 "needs" 54 390 720 6
def f37:FT:=fT m6 "always" 55 397 732 2
def f38:FT:=fU m6 "fails" 56 404 740
def f39:FT:=fT m6 "is_idle" 57 409 746 2
def f40:FT:=fT m6 "failing" 58 416 754 3
def f41:FT:=mU m6 "__init__" "Outlook.__init__" 59 0 430 775
def f42:FT:=fT m6 "idle_load" 60 442 793 3
def f43:FT:=fT m6 "idle_kids" 61 449 802 5
def f44:FT:=fU m6 "added" 62 456 813
def f45:FT:=fT m6 "greatest_load" 63 461 819 7
def f46:FT:=fT m6 "load_by" 64 468 832 6
def f47:FT:=fT m7 "gathered" 66 475 846 6
def f48:FT:=fT m7 "most" 67 482 858 3
def f49:FT:=fT m7 "bring" 68 489 867 8
def f50:FT:=fT m8 "borne" 70 496 883 4
def f51:FT:=fT m8 "bound_by" 71 503 893 7
def f52:FT:=fT m8 "check_wanted" 72 510 906 3
def f53:FT:=fT m8 "least_weights" 73 517 915 5
def f54:FT:=fT m8 "enough" 74 524 926 3
def f55:FT:=fU m8 "worst" 75 531 935
def f56:FT:=fT m8 "bearers" 76 536 941 6
def f57:FT:=fT m8 "is_heavy" 77 543 953 4
def f58:FT:=fU m8 "hardest" 78 550 963
def f59:FT:=fT m9 "number_text" 84 555 979 2
def f60:FT:=fU m9 "numbers_text" 85 562 987
def f61:FT:=fU m9 "steps_text" 86 567 993
def f62:FT:=fU m9 "read_words" 87 572 999
def f63:FT:=fT m9 "read_number" 88 577 1005 2
def f64:FT:=fU m9 "is_number" 89 584 1013
def f65:FT:=fU ZT "differences" 91 589 1021
def f66:FT:=fT ZT "value_at" 92 594 1027 6
def f67:FT:=fU ZT "first_values" 93 601 1039
def f68:FT:=fU ZT "parted" 94 606 1045
def f69:FT:=fU ZT "parted_at" 95 611 1051
def f70:FT:=fT XR "worst_many" 97 616 1059 3
def f71:FT:=mU XR "__init__" "Tally.__init__" 98 0 630 1080
def f72:FT:=fU XR "rests_of" 99 642 1100
def f73:FT:=fT XR "is_free" 100 647 1106 3
def f74:FT:=fT XR "ways_of" 101 654 1115 3
def f75:FT:=fT XR "ways_given" 102 661 1124 4
def f76:FT:=fT XR "held_for" 103 668 1134 4
def f77:FT:=mT T5 "__init__" "Desk.__init__" 107 0 684 1212 3
def f78:FT:=mU T5 "put" "Desk.put" 107 1 691 1221
def f79:FT:=mT T5 "want" "Desk.want" 107 2 696 1227 4
def f80:FT:=mT T5 "step" "Desk.step" 107 3 703 1237 4
def f81:FT:=mT T5 "keep" "Desk.keep" 107 4 710 1247 3
def f82:FT:=mT T5 "back" "Desk.back" 107 5 717 1256 1
def f83:FT:=mT T5 "laying" "Desk.laying" 107 6 724 1263 1
def f84:FT:=mT T5 "wish" "Desk.wish" 107 7 731 1270 1
def f85:FT:=mT T5 "deeds" "Desk.deeds" 107 8 738 1277 1
def f86:FT:=mT T5 "answer" "Desk.answer" 107 9 745 1284 2
def f87:FT:=fT T5 "answer_of" 108 759 1302 4
def f88:FT:=fT T5 "do_deed" 109 766 1312 3
def f89:FT:=fT T5 "told_of_desk" 110 773 1321 3
def f90:FT:=fT T5 "told_of_web" 111 780 1330 3
def f91:FT:=fT T5 "standing_text" 112 787 1339 1
def f92:FT:=fT T5 "meeting_text" 113 794 1346 1
def f93:FT:=fT Vf "_law_cell" 115 801 1355 2
def f94:FT:=fT Vf "_law_row" 116 808 1363 8
def f95:FT:=fT Vf "_law_tolls" 117 815 1377 3
def f96:FT:=fT Vf "_law_roads" 118 822 1386 12
def f97:FT:=fT Vf "_law_price" 119 829 1404 7
def f98:FT:=fT Vf "_law_deed" 120 836 1417 9
def f99:FT:=fT Vf "_law_behind" 121 843 1432 8
def Oj:FT:=fU Vf "_law_words" 122 850 1446
def NJ:FT:=fU Vf "_law_steps_text" 123 855 1452
def Op:FT:=fT Vf "_law_of_state" 124 860 1458 7
def Nz:FT:=fT Vf "_law_of_one" 125 867 1471 4
def O8:FT:=fT Vf "_law_question" 126 874 1481 9
def P4:FT:=fT Vf "law" 127 881 1496 13
def cX(m:Value)(n:Str)(a t l x y:Nat)(f:List FT:=[])(v:List Str:=[]):CT:=⟨m,n,a,t,l,x,y,[(.ref 24)],[(.ref 24),(.type "ValueError"),(.type "Exception"),(.type "BaseException"),(.type "object")],"ValueError.__new__",f,v,0,[]⟩
def c0:CT:=⟨m0,"TollError",16,189,2,22,201,[(.type "ValueError")],[(.type "ValueError"),(.type "Exception"),(.type "BaseException"),(.type "object")],"ValueError.__new__",[],[],1,[(.ref 37),(.ref 49),(.ref 61),(.ref 73),(.ref 85),(.ref 97),(.ref 109),(.ref 128),(.ref 147)]⟩
def c1:CT:=cX m0 "BadWeb" 29 207 4 35 219
def c2:CT:=cX m0 "NoPlace" 41 223 6 47 235
def c3:CT:=cX m0 "NoRoad" 53 239 8 59 251
def c4:CT:=cX m0 "BadLaying" 65 255 10 71 267
def c5:CT:=cX m0 "BadWish" 77 271 12 83 283
def c6:CT:=cX m0 "NoWorst" 89 287 14 95 299
def c7:CT:=cX m0 "NoDeed" 101 303 16 107 315
def c8:CT:=cX m0 "BadStep" 113 319 18 126 339 [f0] ["at"]
def c9:CT:=cX m0 "BadText" 132 344 23 145 364 [f1] ["at"]
def ZU:CT:=⟨m1,"Web",151,377,32,162,395,[],[(.type "object")],"object.__new__",[f2],["many","roads"],2,[]⟩
def ZV:CT:=⟨m6,"Outlook",424,763,217,435,781,[],[(.type "object")],"object.__new__",[f41],["idle","kids","needs","web"],2,[]⟩
def ZW:CT:=⟨XR,"Tally",624,1068,364,635,1086,[],[(.type "object")],"object.__new__",[f71],["bearers","down","kids","rests","web","weights"],2,[]⟩
def ZX:CT:=⟨T5,"Desk",678,1200,398,752,1292,[],[(.type "object")],"object.__new__",[f77,f78,f79,f80,f81,f82,f83,f84,f85,f86],["past","web"],2,[]⟩
def Rm:Obj:=(tO (sT 1146 ["put","want","step","back"]))
def ϣ:List (Str×Tok×Int×Tok):=[("put",1151,2,1152),("want",1154,2,1155),("step",1157,3,1158),("back",1160,0,1161),("laying",1163,0,1164),("wish",1166,0,1167),("most",1169,1,1170),("bring",1172,1,1173),("stands",1175,1,1176),("meet",1178,0,1179),("enough",1181,2,1182),("hardest",1184,1,1185),("worst",1187,2,1188),("many",1190,2,1191),("always",1193,0,1194),("fails",1196,0,1197)]
def RI(P:Params):Obj:=dO (ϣ.map λp=>en P p.1 p.2.1 (.int p.2.2.1 p.2.2.2)) 16
def s0(P:Params)(a:CT):List It:=[a.i P,c1.i P,c2.i P,c3.i P,c4.i P,c5.i P,c6.i P,c7.i P,c8.i P]
def s1(P:Params):List It:=[c9.i P,kT P "MOST_PLACES" 372 (.int 24 371),kT P "LEAST_TOLL" 374 (.int 2 373),kT P "MOST_TOLL" 376 (.int 1000000 375),ZU.i P,f3.i P,f4.i P,f5.i P,f6.i P,f7.i P,f8.i P,f9.i P,f10.i P,f11.i P,f12.i P,f13.i P,f14.i P,f15.i P,f16.i P,f17.i P,f18.i P,f19.i P,f20.i P,f21.i P,f22.i P,f23.i P,f24.i P,f25.i P,f26.i P,f27.i P,f28.i P,f29.i P,f30.i P,f31.i P,f32.i P,f33.i P,f34.i P,f35.i P,f36.i P,f37.i P,f38.i P,f39.i P,f40.i P,ZV.i P,f42.i P]
def s2(P:Params):List It:=[f43.i P,f44.i P,f45.i P,f46.i P,f47.i P,f48.i P,f49.i P,f50.i P,f51.i P,f52.i P,f53.i P,f54.i P,f55.i P,f56.i P,f57.i P,f58.i P,kT P "FIGURES" 972 (.str "0123456789" 971),kT P "MOST_FIGURES" 974 (.int 60 973),kT P "PIECE" 976 (.int 1000000000000000000 975),kT P "PIECE_FIGURES" 978 (.int 18 977),f59.i P,f60.i P,f61.i P,f62.i P,f63.i P,f64.i P,f65.i P,f66.i P,f67.i P,f68.i P,f69.i P,f70.i P,ZW.i P,f72.i P,f73.i P,f74.i P,f75.i P,f76.i P,kT P "DEEDS" 1150 (.ref 675) [Rm]]
def s3(P:Params):List It:=[kT P "NUMBERS_BEHIND" 1199 (.ref 676) [RI P]]
def s4(P:Params):List It:=[ZX.i P,f87.i P,f88.i P,f89.i P,f90.i P,f91.i P,f92.i P,f93.i P,f94.i P,f95.i P,f96.i P,f97.i P,f98.i P,f99.i P,Oj.i P,NJ.i P,Op.i P,Nz.i P,O8.i P,P4.i P]
noncomputable def hM(P:Params)(d:Obj)(l:List It):Heap:=.mk (.mk (boot_o_0 P::boot_o_1 P::boot_o_2 P::d::boot_o_4 P::boot_o_5 P::boot_o_6 P::boot_o_7 P::boot_o_8 P::boot_o_9 P::boot_o_10 P::tO []::pO (l.flatMap (·.r))::cO "<module>" "<module>" 182 1 0 0 11 false .none .none .none 185::rO 13 3 (.str "__main__" 164)::l.flatMap (·.o))) (.mk [] [] [] 0 [] [] false #[] [] 0 false false false 0 [2000,10,10] false 0 true [] [] 0 false)
def l0(P:Params):List It:=s0 P ({c0 with z:=[(.ref 37),(.ref 49),(.ref 61),(.ref 73),(.ref 85),(.ref 97),(.ref 109),(.ref 128)]})
def d0(P:Params):Obj:=dM P m0 (l0 P)
def l1(P:Params):List It:=s0 P c0++s1 P
def d1(P:Params):Obj:=dM P m6 (l1 P)
def l2(P:Params):List It:=s0 P c0++(s1 P++s2 P)
def d2(P:Params):Obj:=dM P T5 (l2 P)
def l3(P:Params):List It:=s0 P c0++(s1 P++(s2 P++s3 P))
def d3(P:Params):Obj:=dM P T5 (l3 P)
def l4(P:Params):List It:=s0 P c0++(s1 P++(s2 P++(s3 P++s4 P)))
def d4(P:Params):Obj:=dM P Vf (l4 P)
noncomputable abbrev ha(P:Params):Heap:=hM P (boot_o_3 P) []
noncomputable abbrev hb(P:Params):Heap:=ha P
abbrev st0:List Stmt:=(List.range' 0 10).map top
abbrev Zx:List Stmt:=(List.range' 10 51).map top
abbrev UP:List Stmt:=(List.range' 61 45).map top
abbrev VS:List Stmt:=[top 106]
abbrev Zy:List Stmt:=(List.range' 107 21).map top
abbrev bb:List Stmt:=st0++(Zx++(UP++(VS++(Zy++([])))))
def env:Env:={ scope:=PySem.Challenge.pw_pebbletoll_k63_questions_answered.main.scope,locals:=mainNs,globals:=mainNs,cells:=[],code:=(.ref 13),frame:=some 14 }
abbrev cE:Code:=.body bb env
theorem SU(w:World)(os:OsState):topGo treeTable PySem.Challenge.pw_pebbletoll_k63_questions_answered w 11 (some (.ref 6)) 12 (Shared.mk (boot_heap w.params) (.mk []) boot_drawn boot_toks os) (topStub PySem.Challenge.pw_pebbletoll_k63_questions_answered)=some ((Shared.mk (ha w.params) (.mk []) (.mk 0 0 0 0) 187 os),Thread.mk (denote treeTable cE) cE (.mk 0 0 0 0) [topFrame (.mk 0 0 0 0)]):=by kernel_rfl
theorem SO(w:World)(os:OsState):segRun treeTable PySem.Challenge.pw_pebbletoll_k63_questions_answered w 11 (some (.ref 6)) 1 1 (Shared.mk (ha w.params) (.mk []) (.mk 0 0 0 0) 187 os) (blockOf bb env cE (.mk 0 0 0 0) [topFrame (.mk 0 0 0 0)])=some (.next,(Shared.mk (hb w.params) (.mk []) (.mk 0 0 0 0) 187 os),cE,(.mk 0 0 0 0)):=by kernel_rfl
noncomputable def h0(P:Params):Heap:=hM P (d0 P) (l0 P)
theorem SZ(w:World)(os:OsState):segRun treeTable PySem.Challenge.pw_pebbletoll_k63_questions_answered w 11 (some (.ref 6)) 1 1932 (Shared.mk (hb w.params) (.mk []) (.mk 0 0 0 0) 187 os) (piecesOf st0 env cE (.mk 0 0 0 0) [topFrame (.mk 0 0 0 0)])=some (.next,(Shared.mk (h0 w.params) (.mk []) (.mk 0 0 0 0) 344 os),cE,(.mk 18 0 22 20)):=by kernel_rfl
noncomputable def h1(P:Params):Heap:=hM P (d1 P) (l1 P)
theorem SM(w:World)(os:OsState):segRun treeTable PySem.Challenge.pw_pebbletoll_k63_questions_answered w 11 (some (.ref 6)) 1 1970 (Shared.mk (h0 w.params) (.mk []) (.mk 0 0 0 0) 344 os) (piecesOf Zx env cE (.mk 18 0 22 20) [topFrame (.mk 0 0 0 0)])=some (.next,(Shared.mk (h1 w.params) (.mk []) (.mk 0 0 0 0) 802 os),cE,(.mk 226 0 229 77)):=by kernel_rfl
noncomputable def h2(P:Params):Heap:=hM P (d2 P) (l2 P)
theorem SL(w:World)(os:OsState):segRun treeTable PySem.Challenge.pw_pebbletoll_k63_questions_answered w 11 (some (.ref 6)) 1 1322 (Shared.mk (h1 w.params) (.mk []) (.mk 0 0 0 0) 802 os) (piecesOf UP env cE (.mk 226 0 229 77) [topFrame (.mk 0 0 0 0)])=some (.next,(Shared.mk (h2 w.params) (.mk []) (.mk 0 0 0 0) 1151 os),cE,(.mk 396 0 396 5)):=by kernel_rfl
noncomputable def h3(P:Params):Heap:=hM P (d3 P) (l3 P)
theorem SI(w:World)(os:OsState):segRun treeTable PySem.Challenge.pw_pebbletoll_k63_questions_answered w 11 (some (.ref 6)) 1 252 (Shared.mk (h2 w.params) (.mk []) (.mk 0 0 0 0) 1151 os) (piecesOf VS env cE (.mk 396 0 396 5) [topFrame (.mk 0 0 0 0)])=some (.next,(Shared.mk (h3 w.params) (.mk []) (.mk 0 0 0 0) 1200 os),cE,(.mk 397 0 397 14)):=by
 have a:∀(b:Bool)(v:World),v=w.withFollow "special-get-raises" b->(segRun treeTable PySem.Challenge.pw_pebbletoll_k63_questions_answered v 11 (some (.ref 6)) 1 252 (Shared.mk (h2 v.params) (.mk []) (.mk 0 0 0 0) 1151 os) (piecesOf VS env cE (.mk 396 0 396 5) [topFrame (.mk 0 0 0 0)])=some (.next,(Shared.mk (h3 v.params) (.mk []) (.mk 0 0 0 0) 1200 os),cE,(.mk 397 0 397 14))):=λb v e=>by subst e;cases b<;>kernel_rfl
 exact a (w.params.followText "special-get-raises") w (World.withFollow_self w "special-get-raises").symm
noncomputable def h4(P:Params):Heap:=hM P (d4 P) (l4 P)
theorem SQ(w:World)(os:OsState):segRun treeTable PySem.Challenge.pw_pebbletoll_k63_questions_answered w 11 (some (.ref 6)) 1 1144 (Shared.mk (h3 w.params) (.mk []) (.mk 0 0 0 0) 1200 os) (piecesOf Zy env cE (.mk 397 0 397 14) [topFrame (.mk 0 0 0 0)])=some (.next,(Shared.mk (h4 w.params) (.mk []) (.mk 0 0 0 0) 1515 os),cE,(.mk 629 0 651 88)):=by kernel_rfl
noncomputable abbrev hf(P:Params):Heap:=h4 P
theorem SR(w:World)(os:OsState):topRun treeTable PySem.Challenge.pw_pebbletoll_k63_questions_answered w 11 (some (.ref 6)) 2 (Shared.mk (h4 w.params) (.mk []) (.mk 0 0 0 0) 1515 os) (restOf [] env cE (.mk 629 0 651 88) [topFrame (.mk 0 0 0 0)])=some (Shared.mk (hf w.params) (.mk []) (.mk 0 0 0 0) 1515 os):=by kernel_rfl
theorem run(w:World)(os:OsState):topRun treeTable PySem.Challenge.pw_pebbletoll_k63_questions_answered w 11 (some (.ref 6)) (12+(1+(1932+(1970+(1322+(252+(1144+(2)))))))) (Shared.mk (boot_heap w.params) (.mk []) boot_drawn boot_toks os) (topStub PySem.Challenge.pw_pebbletoll_k63_questions_answered)=some (Shared.mk (hf w.params) (.mk []) (.mk 0 0 0 0) 1515 os):=go_top (SU w os) (piece_block (SO w os) (piece_app (SZ w os) (piece_app (SM w os) (piece_app (SL w os) (piece_app (SI w os) (piece_app (SQ w os) (SR w os)))))))
theorem opn:∀w:World,(fencedOpening treeTable PySem.Challenge.pw_pebbletoll_k63_questions_answered w 13356).map (λs=>(s.heap,s.gens,s.drawn,s.toks))=some (boot_heap w.params,Array.mk [],boot_drawn,boot_toks):=boot_open (by kernel_rfl) (by decide) λs=>by kernel_rfl
theorem siz(w:World):((boot_heap w.params).isNs mainGlobals&&(Array.mk ([]:List GenState)).size==0,(boot_heap w.params).objs.size,(boot_heap w.params).nsMap mainGlobals "__annotations__")=(true,11,(some (.ref 6))):=by kernel_rfl
noncomputable def KK:Params->Frag:=λP=>
 (nat_lit 2,boot_o_2 P)::(nat_lit 3,d4 P)::(nat_lit 23,c0.D P)::(nat_lit 24,c0.T)::(nat_lit 25,c0.g 1)::(nat_lit 36,c1.D P)::(nat_lit 37,c1.T)::(nat_lit 48,c2.D P)::(nat_lit 49,c2.T)::(nat_lit 60,c3.D P)::(nat_lit 61,c3.T)::(nat_lit 72,c4.D P)::(nat_lit 73,c4.T)::(nat_lit 84,c5.D P)::(nat_lit 85,c5.T)::(nat_lit 96,c6.D P)::(nat_lit 97,c6.T)::(nat_lit 108,c7.D P)::(nat_lit 109,c7.T)::(nat_lit 124,f0.C)::(nat_lit 125,f0.D)::(nat_lit 127,c8.D P)::(nat_lit 128,c8.T)::(nat_lit 143,f1.C)::(nat_lit 144,f1.D)::(nat_lit 146,c9.D P)::(nat_lit 147,c9.T)::(nat_lit 160,f2.C)::(nat_lit 161,f2.D)::(nat_lit 163,ZU.D P)::(nat_lit 164,ZU.T)::(nat_lit 165,ZU.g 0)::(nat_lit 166,ZU.g 1)::(nat_lit 174,f3.C)::(nat_lit 175,f3.D)::(nat_lit 181,f4.C)::(nat_lit 182,f4.D)::(nat_lit 188,f5.C)::(nat_lit 189,f5.D)::(nat_lit 195,f6.C)::(nat_lit 196,f6.D)::(nat_lit 202,f7.C)::(nat_lit 203,f7.D)::(nat_lit 209,f8.C)::(nat_lit 210,f8.D)::(nat_lit 216,f9.C)::(nat_lit 217,f9.D)::(nat_lit 223,f10.C)::(nat_lit 224,f10.D)::(nat_lit 230,f11.C)::(nat_lit 231,f11.D)::(nat_lit 237,f12.C)::(nat_lit 238,f12.D)::(nat_lit 242,f13.C)::(nat_lit 243,f13.D)::(nat_lit 249,f14.C)::(nat_lit 250,f14.D)::(nat_lit 256,f15.C)::(nat_lit 257,f15.D)::(nat_lit 263,f16.C)::(nat_lit 264,f16.D)::(nat_lit 270,f17.C)::(nat_lit 271,f17.D)::(nat_lit 277,f18.C)::(nat_lit 278,f18.D)::(nat_lit 282,f19.C)::(nat_lit 283,f19.D)::(nat_lit 287,f20.C)::(nat_lit 288,f20.D)::(nat_lit 294,f21.C)::(nat_lit 295,f21.D)::(nat_lit 301,f22.C)::(nat_lit 302,f22.D)::(nat_lit 308,f23.C)::(nat_lit 309,f23.D)::(nat_lit 315,f24.C)::(nat_lit 316,f24.D)::(nat_lit 322,f25.C)::(nat_lit 323,f25.D)::(nat_lit 329,f26.C)::(nat_lit 330,f26.D)::(nat_lit 336,f27.C)::(nat_lit 337,f27.D)::(nat_lit 341,f28.C)::(nat_lit 342,f28.D)::(nat_lit 348,f29.C)::(nat_lit 349,f29.D)::(nat_lit 355,f30.C)::(nat_lit 356,f30.D)::(nat_lit 362,f31.C)::(nat_lit 363,f31.D)::(nat_lit 369,f32.C)::(nat_lit 370,f32.D)::(nat_lit 376,f33.C)::(nat_lit 377,f33.D)::(nat_lit 383,f34.C)::(nat_lit 384,f34.D)::(nat_lit 388,f35.C)::(nat_lit 389,f35.D)::(nat_lit 395,f36.C)::(nat_lit 396,f36.D)::(nat_lit 402,f37.C)::(nat_lit 403,f37.D)::(nat_lit 407,f38.C)::(nat_lit 408,f38.D)::(nat_lit 414,f39.C)::(nat_lit 415,f39.D)::(nat_lit 421,f40.C)::(nat_lit 422,f40.D)::(nat_lit 433,f41.C)::(nat_lit 434,f41.D)::(nat_lit 436,ZV.D P)::(nat_lit 437,ZV.T)::(nat_lit 438,ZV.g 0)::(nat_lit 439,ZV.g 1)::(nat_lit 447,f42.C)::(nat_lit 448,f42.D)::(nat_lit 454,f43.C)::(nat_lit 455,f43.D)::(nat_lit 459,f44.C)::(nat_lit 460,f44.D)::(nat_lit 466,f45.C)::(nat_lit 467,f45.D)::(nat_lit 473,f46.C)::(nat_lit 474,f46.D)::(nat_lit 480,f47.C)::(nat_lit 481,f47.D)::(nat_lit 487,f48.C)::(nat_lit 488,f48.D)::(nat_lit 494,f49.C)::(nat_lit 495,f49.D)::(nat_lit 501,f50.C)::(nat_lit 502,f50.D)::(nat_lit 508,f51.C)::(nat_lit 509,f51.D)::(nat_lit 515,f52.C)::(nat_lit 516,f52.D)::(nat_lit 522,f53.C)::(nat_lit 523,f53.D)::(nat_lit 529,f54.C)::(nat_lit 530,f54.D)::(nat_lit 534,f55.C)::(nat_lit 535,f55.D)::(nat_lit 541,f56.C)::(nat_lit 542,f56.D)::(nat_lit 548,f57.C)::(nat_lit 549,f57.D)::(nat_lit 553,f58.C)::(nat_lit 554,f58.D)::(nat_lit 560,f59.C)::(nat_lit 561,f59.D)::(nat_lit 565,f60.C)::(nat_lit 566,f60.D)::(nat_lit 570,f61.C)::(nat_lit 571,f61.D)::(nat_lit 575,f62.C)::(nat_lit 576,f62.D)::(nat_lit 582,f63.C)::(nat_lit 583,f63.D)::(nat_lit 587,f64.C)::(nat_lit 588,f64.D)::(nat_lit 592,f65.C)::(nat_lit 593,f65.D)::(nat_lit 599,f66.C)::(nat_lit 600,f66.D)::(nat_lit 604,f67.C)::(nat_lit 605,f67.D)::(nat_lit 609,f68.C)::(nat_lit 610,f68.D)::(nat_lit 614,f69.C)::(nat_lit 615,f69.D)::(nat_lit 621,f70.C)::(nat_lit 622,f70.D)::(nat_lit 633,f71.C)::(nat_lit 634,f71.D)::(nat_lit 636,ZW.D P)::(nat_lit 637,ZW.T)::(nat_lit 638,ZW.g 0)::(nat_lit 639,ZW.g 1)::(nat_lit 645,f72.C)::(nat_lit 646,f72.D)::(nat_lit 652,f73.C)::(nat_lit 653,f73.D)::(nat_lit 659,f74.C)::(nat_lit 660,f74.D)::(nat_lit 666,f75.C)::(nat_lit 667,f75.D)::(nat_lit 673,f76.C)::(nat_lit 674,f76.D)::(nat_lit 675,Rm)::(nat_lit 676,RI P)::(nat_lit 689,f77.C)::(nat_lit 690,f77.D)::(nat_lit 694,f78.C)::(nat_lit 695,f78.D)::(nat_lit 701,f79.C)::(nat_lit 702,f79.D)::(nat_lit 708,f80.C)::(nat_lit 709,f80.D)::(nat_lit 715,f81.C)::(nat_lit 716,f81.D)::(nat_lit 722,f82.C)::(nat_lit 723,f82.D)::(nat_lit 729,f83.C)::(nat_lit 730,f83.D)::(nat_lit 736,f84.C)::(nat_lit 737,f84.D)::(nat_lit 743,f85.C)::(nat_lit 744,f85.D)::(nat_lit 750,f86.C)::(nat_lit 751,f86.D)::(nat_lit 753,ZX.D P)::(nat_lit 754,ZX.T)::(nat_lit 755,ZX.g 0)::(nat_lit 756,ZX.g 1)::(nat_lit 764,f87.C)::(nat_lit 765,f87.D)::(nat_lit 771,f88.C)::(nat_lit 772,f88.D)::(nat_lit 778,f89.C)::(nat_lit 779,f89.D)::(nat_lit 785,f90.C)::(nat_lit 786,f90.D)::(nat_lit 792,f91.C)::(nat_lit 793,f91.D)::(nat_lit 799,f92.C)::(nat_lit 800,f92.D)::(nat_lit 806,f93.C)::(nat_lit 807,f93.D)::(nat_lit 813,f94.C)::(nat_lit 814,f94.D)::(nat_lit 820,f95.C)::(nat_lit 821,f95.D)::(nat_lit 827,f96.C)::(nat_lit 828,f96.D)::(nat_lit 834,f97.C)::(nat_lit 835,f97.D)::(nat_lit 841,f98.C)::(nat_lit 842,f98.D)::(nat_lit 848,f99.C)::(nat_lit 849,f99.D)::(nat_lit 853,Oj.C)::(nat_lit 854,Oj.D)::(nat_lit 858,NJ.C)::(nat_lit 859,NJ.D)::(nat_lit 865,Op.C)::(nat_lit 866,Op.D)::(nat_lit 872,Nz.C)::(nat_lit 873,Nz.D)::(nat_lit 879,O8.C)::(nat_lit 880,O8.D)::(nat_lit 886,P4.C)::(nat_lit 887,P4.D)::[]
abbrev qq:Program:=PySem.W.view PySem.Challenge.pw_pebbletoll_k63_questions_answered [1,2,3,4,5,6,7,8,9,10,12,13,14,15,16,17,18,19,20,21,22,23,24,26,27,28,29,30,32,33,34,35,37,38,39,40,41,42,44,45,46,47,48,49,50,51,52,54,55,56,57,58,59,60,61,62,63,64,66,67,68,70,71,72,73,74,75,76,77,78,80,81,82,83,84,85,86,87,88,89,91,92,93,94,95,97,98,99,100,101,102,103,105,106,107,108,109,110,111,112,113,115,116,117,118,119,120,121,122,123,124,125,126,127]
abbrev VU:List Addr:=[2,3,23,24,25,36,37,48,49,60,61,72,73,84,85,96,97,108,109,124,125,127,128,143,144,146,147,160,161,163,164,165,166,174,175,181,182,188,189,195,196,202,203,209,210,216,217,223,224,230,231,237,238,242,243,249,250,256,257,263,264,270,271,277,278,282,283,287,288,294,295,301,302,308,309,315,316,322,323,329,330,336,337,341,342,348,349,355,356,362,363,369,370,376,377,383,384,388,389,395,396,402,403,407,408,414,415,421,422,433,434,436,437,438,439,447,448,454,455,459,460,466,467,473,474,480,481,487,488,494,495,501,502,508,509,515,516,522,523,529,530,534,535,541,542,548,549,553,554,560,561,565,566,570,571,575,576,582,583,587,588,592,593,599,600,604,605,609,610,614,615,621,622,633,634,636,637,638,639,645,646,652,653,659,660,666,667,673,674,675,676,689,690,694,695,701,702,708,709,715,716,722,723,729,730,736,737,743,744,750,751,753,754,755,756,764,765,771,772,778,779,785,786,792,793,799,800,806,807,813,814,820,821,827,828,834,835,841,842,848,849,853,854,858,859,865,866,872,873,879,880,886,887]
theorem ϛ:∀P,VU=(KK P).map (·.1):=λ_=>by kernel_rfl
theorem lk0(w:World):(λos=>seen ((recsOf qq).map (·.name)) (ownsOf qq) [] { (Shared.mk (Hd.hf w.params) (.mk []) (.mk 0 0 0 0) 1515 os)with gens:=#[] })=λ_=>expectedOf qq:=by kernel_rfl
theorem lk1(w:World):(λos=>((Shared.mk (Hd.hf w.params) (.mk []) (.mk 0 0 0 0) 1515 os)).heap.bltView)=λ_=>bltViewBooted:=by kernel_rfl
theorem lk2(w:World):(λos=>(((Shared.mk (Hd.hf w.params) (.mk []) (.mk 0 0 0 0) 1515 os)).heap.keysOk (looseW qq ["NUMBERS_BEHIND"]) ((recsOf qq).map (·.name)) ((litsOf qq).map (·.1)) ((clssOf qq (looseW qq ["NUMBERS_BEHIND"])).map (·.name))&&((Shared.mk (Hd.hf w.params) (.mk []) (.mk 0 0 0 0) 1515 os)).heap.accountedOkI (importedModules PySem.Challenge.pw_pebbletoll_k63_questions_answered.main.body)&&((Shared.mk (Hd.hf w.params) (.mk []) (.mk 0 0 0 0) 1515 os)).heap.isNs mainGlobals&&((Shared.mk (Hd.hf w.params) (.mk []) (.mk 0 0 0 0) 1515 os)).heap.isNs builtinsNs&&tablesOk qq ((Shared.mk (Hd.hf w.params) (.mk []) (.mk 0 0 0 0) 1515 os)).heap&&(λs=>PySem.W.xlAt Hd.qq [] s&&PySem.W.recOk (PySem.W.RowW.records (PySem.W.OpenRow.toRowW (PySem.Challenge.rw_pebbletoll_k63_questions_answered).row)) s) (Shared.mk (Hd.hf w.params) (.mk []) (.mk 0 0 0 0) 1515 os)&&(if true then((Shared.mk (Hd.hf w.params) (.mk []) (.mk 0 0 0 0) 1515 os)).gens.size==0 else !leftWithCleanup ((Shared.mk (Hd.hf w.params) (.mk []) (.mk 0 0 0 0) 1515 os)).gens)))=λ_=>true:=by kernel_rfl
theorem lk3(w:World):(λos=>tabsOk qq (Shared.mk (Hd.hf w.params) (.mk []) (.mk 0 0 0 0) 1515 os))=λ_=>true:=by kernel_rfl
theorem lk4(w:World):(λos=>pinSeenD qq (drecsOf qq) (Shared.mk (Hd.hf w.params) (.mk []) (.mk 0 0 0 0) 1515 os))=λ_=>pinGoodD (drecsOf qq):=by kernel_rfl
theorem lk5(w:World):(λos=>plainSeenE qq (looseW qq ["NUMBERS_BEHIND"]) (Shared.mk (Hd.hf w.params) (.mk []) (.mk 0 0 0 0) 1515 os))=λ_=>plainGoodE qq (looseW qq ["NUMBERS_BEHIND"]):=by kernel_rfl
theorem lk6(w:World):(λos=>plainSeenD qq ["NUMBERS_BEHIND"] (Shared.mk (Hd.hf w.params) (.mk []) (.mk 0 0 0 0) 1515 os))=λ_=>plainGoodD qq ["NUMBERS_BEHIND"]:=by kernel_rfl
theorem lk7(w:World):(λos=>wideSeen qq (Shared.mk (Hd.hf w.params) (.mk []) (.mk 0 0 0 0) 1515 os))=λ_=>wideGood qq:=by kernel_rfl
theorem lk8(w:World):(λos=>clsSeenW qq ["NUMBERS_BEHIND"] (Shared.mk (Hd.hf w.params) (.mk []) (.mk 0 0 0 0) 1515 os))=λ_=>clsGoodW qq ["NUMBERS_BEHIND"]:=by kernel_rfl
theorem SA(w:World):(λos=>(staticsOk (importedModules PySem.Challenge.pw_pebbletoll_k63_questions_answered.main.body) (boot_heap w.params) (hf w.params)&&namesBound PySem.Challenge.pw_pebbletoll_k63_questions_answered (hf w.params)&&gensDone (Shared.mk (Hd.hf w.params) (.mk []) (.mk 0 0 0 0) 1515 os)&&laidKept (boot_heap w.params) (hf w.params)))=λ_=>true:=by kernel_rfl
theorem Ss(w:World):(λos=>openSeen qq ["NUMBERS_BEHIND"] (importedModules PySem.Challenge.pw_pebbletoll_k63_questions_answered.main.body) (λs=>PySem.W.xlAt Hd.qq [] s&&PySem.W.recOk (PySem.W.RowW.records (PySem.W.OpenRow.toRowW (PySem.Challenge.rw_pebbletoll_k63_questions_answered).row)) s) true (Shared.mk (Hd.hf w.params) (.mk []) (.mk 0 0 0 0) 1515 os))=λ_=>openGood qq ["NUMBERS_BEHIND"]:=funext λos=>congr (congrArg Prod.mk (congrFun (lk0 w) os)) (congr (congrArg Prod.mk (congrFun (lk1 w) os)) (congr (congrArg Prod.mk (congrFun (lk2 w) os)) (congr (congrArg Prod.mk (congrFun (lk3 w) os)) (congr (congrArg Prod.mk (congrFun (lk4 w) os)) (congr (congrArg Prod.mk (congrFun (lk5 w) os)) (congr (congrArg Prod.mk (congrFun (lk6 w) os)) (congr (congrArg Prod.mk (congrFun (lk7 w) os)) (congrFun (lk8 w) os))))))))
theorem Sk(w:World):(λos=>Hook.obs (PySem.W.kHook Hd.KK Hd.VU Hd.ϛ) (Shared.mk (Hd.hf w.params) (.mk []) (.mk 0 0 0 0) 1515 os))=λ_=>Hook.val (PySem.W.kHook Hd.KK Hd.VU Hd.ϛ) w:=by kernel_rfl
theorem SE(w:World):(λos=>((staticsOk (importedModules PySem.Challenge.pw_pebbletoll_k63_questions_answered.main.body) (boot_heap w.params) (hf w.params)&&namesBound PySem.Challenge.pw_pebbletoll_k63_questions_answered (hf w.params)&&gensDone (Shared.mk (Hd.hf w.params) (.mk []) (.mk 0 0 0 0) 1515 os)&&laidKept (boot_heap w.params) (hf w.params)),openSeen qq ["NUMBERS_BEHIND"] (importedModules PySem.Challenge.pw_pebbletoll_k63_questions_answered.main.body) (λs=>PySem.W.xlAt Hd.qq [] s&&PySem.W.recOk (PySem.W.RowW.records (PySem.W.OpenRow.toRowW (PySem.Challenge.rw_pebbletoll_k63_questions_answered).row)) s) true (Shared.mk (Hd.hf w.params) (.mk []) (.mk 0 0 0 0) 1515 os),Hook.obs (PySem.W.kHook Hd.KK Hd.VU Hd.ϛ) (Shared.mk (Hd.hf w.params) (.mk []) (.mk 0 0 0 0) 1515 os)))=λ_=>(true,openGood qq ["NUMBERS_BEHIND"],Hook.val (PySem.W.kHook Hd.KK Hd.VU Hd.ϛ) w):=funext λos=>congr (congrArg Prod.mk (congrFun (SA w) os)) (congr (congrArg Prod.mk (congrFun (Ss w) os)) (congrFun (Sk w) os))
theorem left:PySem.W.LeftO (PySem.Challenge.rw_pebbletoll_k63_questions_answered).row.prog qq ["NUMBERS_BEHIND"] (λs=>PySem.W.xlAt Hd.qq [] s&&PySem.W.recOk (PySem.W.RowW.records (PySem.W.OpenRow.toRowW (PySem.Challenge.rw_pebbletoll_k63_questions_answered).row)) s) (PySem.W.Hook.obs (PySem.W.kHook Hd.KK Hd.VU Hd.ϛ)) (PySem.W.Hook.val (PySem.W.kHook Hd.KK Hd.VU Hd.ϛ)) 13356:=LeftO.of_pieces opn siz run (by decide) SE
end Hd
abbrev hY:=Int->Int->Int
abbrev hU:=List PySem.Str
abbrev hP:=PySem.Str->Option PySem.Value
abbrev hL:=List PySem.Value
abbrev hH:=List PySem.Addr
abbrev hE:=List (PySem.Addr×PySem.Obj)
abbrev hB:=PySem.W.Frag
abbrev gy:=PySem.Value->PySem.Shared->Prop
abbrev gn:=Int->Nat
abbrev fz:=Int->Int
abbrev fc:=List Int
set_option autoImplicit true
set_option relaxedAutoImplicit true
namespace L2
open PySem PySem.Spec PyProof.Rows
abbrev Key:=Sum Int Str
def zi:Key->Value->Bool
 | .inl k,v=>Value.isInt k v
 | .inr x,v=>Value.isStrOf x v
def On(w:World):Key->Int
 | .inl k=>hashInt k
 | .inr x=>hashStr w x
def jH:∀{k:Key}{v:Value},zi k v=true->(∃i t,k=Sum.inl i/\v=Value.int i t)\/(∃x t,k=Sum.inr x/\v=Value.str x t)
 | .inl i,v,h=>by
   obtain⟨t,e⟩:=Value.isInt_shape (k:=i) (v:=v) h;exact .inl ⟨i,t,rfl,e⟩
 | .inr x,v,h=>by
   obtain⟨t,e⟩:=Value.isStrOf_shape (x:=x) (v:=v) h;exact .inr ⟨x,t,rfl,e⟩
def MW(i:Int)(t:Tok):zi (.inl i) (.int i t)=true:=by simp[zi,Value.isInt]
def Mx(x:Str)(t:Tok):zi (.inr x) (.str x t)=true:=by simp[zi,Value.isStrOf]
def RS(a b:Int):decide ((Sum.inl a:Key)=Sum.inl b)=(a==b):=by
 by_cases e:a=b
 .subst e;simp
 .have h:¬(Sum.inl a:Key)=Sum.inl b:=λq=>e (Sum.inl.inj q);rw[bM h];exact(beq_eq_false_iff_ne.mpr e).symm
def Sa(a b:Str):decide ((Sum.inr a:Key)=Sum.inr b)=decide (a=b):=by
 by_cases e:a=b
 .subst e;simp
 .have h:¬(Sum.inr a:Key)=Sum.inr b:=λq=>e (Sum.inr.inj q);rw[bM h,bM e]
def RV(a:Int)(b:Str):decide ((Sum.inl a:Key)=Sum.inr b)=false:=bM (λq=>nomatch q)
def RT(a:Str)(b:Int):decide ((Sum.inr a:Key)=Sum.inl b)=false:=bM (λq=>nomatch q)
def iM(prog:Program)(w:World):PySem.KeyKind prog w Key where
 is:=zi
 hash:=On w
 inj:=λv a b d hb=>by
  rcases jH d with⟨i,t,rfl,rfl⟩|⟨x,t,rfl,rfl⟩
  .rcases jH hb with⟨j,u,rfl,e⟩|⟨y,u,rfl,e⟩
   .injection e with e1 _;rw[e1]
   .exact nomatch e
  .rcases jH hb with⟨j,u,rfl,e⟩|⟨y,u,rfl,e⟩
   .exact nomatch e
   .injection e with e1 _;rw[e1]
 byValue:=λk v h=>by
  rcases jH h with⟨i,t,rfl,rfl⟩|⟨x,t,rfl,rfl⟩<;>rfl
 pyHash:=λhv h=>by
  rcases jH hv with⟨i,t,rfl,rfl⟩|⟨x,t,rfl,rfl⟩
  .exact wpAny_pyHash_int h
  .exact wpAny_pyHash_str h
 eqBool:=λc hv h=>by
  rcases jH c with⟨i,t,rfl,rfl⟩|⟨x,t,rfl,rfl⟩
  .rcases jH hv with⟨j,u,rfl,rfl⟩|⟨y,u,rfl,rfl⟩
   .rw[RS]at h;exact wpAny_eqBool_int h
   .rw[RV]at h;exact SeqAt.EqAt.int_str i t y u _ _ _ _ h
  .rcases jH hv with⟨j,u,rfl,rfl⟩|⟨y,u,rfl,rfl⟩
   .rw[RT]at h;exact SeqAt.EqAt.str_int x t j u _ _ _ _ h
   .rw[Sa]at h;exact wpAny_eqBool_str h
 «strs»:=λk x t v h=>by
  rcases jH h with⟨i,u,rfl,e⟩|⟨y,u,rfl,e⟩
  .exact nomatch e
  .injection e with e1 _
   subst e1;cases v<;>rfl
def II(a:Program)(w:World)(i:Int)(t:Tok):(iM a w).is (.inl i) (.int i t)=true:=MW i t
def vB(a:Program)(w:World)(x:Str)(t:Tok):(iM a w).is (.inr x) (.str x t)=true:=Mx x t
inductive V where
 | ο|bl (b:Bool)|int (i:Int)|str (x:Str)|UZ (b:Array UInt8)|XT (b:UInt64)|ref (a:Addr)|ty (n:String)
 deriving DecidableEq
def RelV:V->Value->Prop
 | .ο,u=>u=Value.none
 | .bl b,u=>u=Value.bool b
 | .int i,u=>∃t,u=Value.int i t
 | .str x,u=>∃t,u=Value.str x t
 | .UZ b,u=>∃t,u=Value.bytes b t
 | .XT b,u=>∃t,u=Value.float b t
 | .ref a,u=>u=Value.ref a
 | .ty n,u=>u=Value.type n
abbrev Vals:List V->List Value->Prop:=Paired RelV
def Vals.length(r:Vals a b):a.length=b.length:=Paired.length r
theorem Vals.get:∀{b:List V}{a:hL}{i:Nat}{x:V},Vals b a->b[i]?=some x->∃u,a[i]?=some u/\RelV x u
 | _,_,_,_,.nil,e=>by simp at e
 | _,_,0,_,.cons r _,e=>by simp at e;subst e;exact⟨_,rfl,r⟩
 | _,_,i+1,x,.cons _ t,e=>by
   obtain⟨u,d,c⟩:=Vals.get (i:=i) (x:=x) t (by simpa using e);exact⟨u,by simpa using d,c⟩
theorem Vals.set(r:RelV b a):∀{c:List V}{d:hL}(i:Nat),Vals c d->Vals (c.set i b) (d.set i a)
 | _,_,_,.nil=>.nil
 | _,_,0,.cons _ t=>.cons r t
 | _,_,i+1,.cons q t=>.cons q (Vals.set r i t)
theorem Vals.append:∀{c b:List V}{d a:hL},Vals c d->Vals b a->Vals (c++b) (d++a)
 | _,_,_,_,.nil,s=>s
 | _,_,_,_,.cons r t,s=>.cons r (Vals.append t s)
theorem Vals.take:∀{a:List V}{b:hL}(n:Nat),Vals a b->Vals (a.take n) (b.take n)
 | _,_,0,_=>.nil
 | _,_,_+1,.nil=>.nil
 | _,_,n+1,.cons r t=>.cons r (Vals.take n t)
theorem Vals.drop:∀{a:List V}{b:hL}(n:Nat),Vals a b->Vals (a.drop n) (b.drop n)
 | _,_,0,r=>r
 | _,_,_+1,.nil=>.nil
 | _,_,n+1,.cons _ t=>Vals.drop n t
def eQ:Option V->Option Value->Prop
 | some v,some u=>RelV v u
 | none,none=>True
 | _,_=>False
def KV :List (a×V)->List (a×Value)->Prop:=Paired λ(p:a×V)(q:a×Value)=>p.1=q.1/\RelV p.2 q.2
def kV:Key->V
 | .inl i=>.int i
 | .inr x=>.str x
inductive HO where
 /-- a list -/
 | lst (xs:List V)
 /-- a tuple (never changes) -/
 | tup (xs:List V)
 /-- a dict XU keys are ints and texts;one XU keys are tuples of ints and texts (Tg empty one is both) -/
 | dK (ρ:List (Key×V))|dT (ρ:List (List Key×V))
 /-- a set of ints: its members,its size -/
 | set (S:Int->Bool) (n:Nat)
 /-- an instance of Tg class at C,its dict at dx,its attributes -/
 | ins (C dx:Addr) (fs:List (Str×V))
 /-- Tg dict of Tg instance at x -/
 | own (x:Addr)
 /-- Tg dict of an exception -/
 | xd (fs:List (Str×V))
 /-- a bound method,f of x -/
 | met (f x:Addr)
 /-- a range object lo,lo+1,.. b7 hi -/
 | ϓ (lo hi:Int)
 /-- a thing Yu is known to Tg object (Tg script;a dict while a loop walks it): read,never written while it is so -/
 | U0 (o:Obj) (u:HO)
 /-- a code ZY table -/
 | XW (ps:Array Value)
 /-- any other thing,by Xe is true of its one object (a def of aho own: ajS a S n:=HO.ext λh=>..) -/
 | ext (φ:Heap->Prop)
abbrev Hp:=Addr->Option HO
def upd(H:Hp)(a:Addr)(o:HO):Hp:=λb=>if b=a then some o else H b
def au :upd H a o a=some o:=by unfold upd;rw[aj rfl]
def aM(h:a≠b):upd c b d a=c a:=by unfold upd;rw[ah h]
def mB :upd (upd c a e) a d=upd c a d:=by
 funext b;unfold upd;split<;>rfl
def cZ{H:Hp}(h:H b=some f)(g:H a=some c)(d:f≠c):b≠a:=by
 intro e;subst e;rw[h]at g;exact d (bF g)
def cC{H:Hp}(h:H a=some o)(c:H b=none):a≠b:=by
 intro e;subst e;rw[h]at c;cases c
section
variable(P:Program)(w:World)
def Μ(H:Hp)(h:Heap)(a:Addr):HO->Prop
 | .lst c=>c.length<=sizeLine/\∃(b:hL)(n:Nat),Vals c b/\h.get? a=some { cls:=.type "list",data:=.seq b.toArray n }
 | .tup c=>c.length<=sizeLine/\∃b:List Value,Vals c b/\IsTup h a b.toArray
 | .dK ρ=>ρ.length<=sizeLine/\(a==sysModules)=false/\∃i,KV ρ i/\h.DictOf (iM P w) a i
 | .dT ρ=>ρ.length<=sizeLine/\(a==sysModules)=false/\∃c:List (List Key×Addr×Value),Paired (λ(p:List Key×V)(q:List Key×Addr×Value)=>p.1=q.1/\H q.2.1=some (.tup (p.1.map kV))/\RelV p.2 q.2.2) ρ c/\∃o g k,h.get? a=some o/\o.ExactDict/\o.data=.dict g k/\g.toList=c.map (entryOfKey (tupleKind (iM P w)))/\(c.map (·.1)).Nodup
 | .set S n=>h.SetOf (intKind P w) a S n
 | .ins C dx fs=>H dx=some (.own a)/\fs.length<=1000/\dx≠a/\h.get? a=some (PySem.W.instObj C dx)/\∃d,h.Ns1 dx d/\(∀f,eQ (fs.lookup f) (d f))/\PySem.Within d (fs.map (·.1))
 | .own _=>∃o,h.get? a=some o
 | .xd fs=>∃d,h.Ns1 a d/\∀f,eQ (fs.lookup f) (d f)
 | .ϓ lo hi=>∃t u v,h.get? a=some { cls:=.type "range",data:=.fields #[.int lo t,.int hi u,.int 1 v] }
 | .U0 o u=>h.get? a=some o/\Μ H h a u
 | .XW ps=>h.get? a=some { cls:=.none,data:=.fields ps }
 | .met f x=>h.get? a=some (PySem.W.methodObj (.ref f) (.ref x))
 | .ext φ=>φ h/\(∃o,h.get? a=some o)/\∀j e:Heap,φ j->(∀o,j.get? a=some o->e.get? a=some o)->φ e
def ϰ(H:Hp)(h:Heap):Prop:=∀a o,H a=some o->Μ P w H h a o
end
def Μ.lt(x:Μ d h g c b a):b<c.objs.size:=by
 cases a with
 | lst xs=>obtain⟨_,_,_,_,e⟩:=x;exact aK e
 | tup xs=>obtain⟨_,_,_,p⟩:=x;exact p.lt
 | dK ρ=>obtain⟨_,_,_,_,a,_,_,e,_⟩:=x;exact aK e
 | dT ρ=>obtain⟨_,_,_,_,a,_,_,e,_⟩:=x;exact aK e
 | set S n=>obtain⟨a,_,_,_,e,_⟩:=x;exact aK e
 | ins C dx fs=>obtain⟨_,_,_,e,_⟩:=x;exact aK e
 | own y=>obtain⟨_,e⟩:=x;exact aK e
 | xd fs=>obtain⟨_,⟨_,_,_,e,_⟩,_⟩:=x;exact aK e
 | ϓ lo hi=>obtain⟨_,_,_,e⟩:=x;exact aK e
 | U0 ob u=>obtain⟨e,_⟩:=x;exact aK e
 | XW ps=>exact aK (show c.get? b=some _ from x)
 | met f y=>exact aK (show c.get? b=some _ from x)
 | ext φ=>obtain⟨_,⟨_,e⟩,_⟩:=x;exact aK e
theorem Paired.Xf{G:d->c->Prop}:∀{h:List d}{g:List c},Paired e h g->(∀a b,e a b->G a b)->Paired G h g
 | _,_,.nil,_=>.nil
 | _,_,.cons r t,f=>.cons (f _ _ r) (Paired.Xf t f)
def Paired.imp'{e g:Type}{F G:e->g->Prop}(f:∀a b,F a b->G a b){d:List e}{c:List g}(r:Paired F d c):Paired G d c:=Paired.Xf r f
def Μ.lE{F:Hp}{B:Heap}(x:Μ j l h i a g)(k:∀b u,(b=a\/h b=some (.own a))->i.get? b=some u->B.get? b=some u)(H:∀b,h b=some (.own a)->F b=some (.own a))(G:∀b A,h b=some (.tup A)->F b=some (.tup A)):Μ j l F B a g:=by
 induction g with
 | lst A=>obtain⟨z,w,n,r,e⟩:=x;exact⟨z,w,n,r,k _ _ (.inl rfl) e⟩
 | tup A=>obtain⟨z,w,r,m,e,c⟩:=x;exact⟨z,w,r,m,k _ _ (.inl rfl) e,c⟩
 | dK ρ=>obtain⟨z,y,J,r,m,s,o,e,c⟩:=x;exact⟨z,y,J,r,m,s,o,k _ _ (.inl rfl) e,c⟩
 | dT ρ=>
   obtain⟨z,y,A,r,m,s,o,e,c⟩:=x;exact⟨z,y,A,Paired.Xf r λp q z=>⟨z.1,G _ _ z.2.1,z.2.2⟩,m,s,o,k _ _ (.inl rfl) e,c⟩
 | set S n=>obtain⟨m,s,o,t,e,c⟩:=x;exact⟨m,s,o,t,k _ _ (.inl rfl) e,c⟩
 | ins C dx fs=>
   obtain⟨d,z,ne,e,E,⟨D,s,o,I,c⟩,r⟩:=x;exact⟨H _ d,z,ne,k _ _ (.inl rfl) e,E,⟨D,s,o,k _ _ (.inr d) I,c⟩,r⟩
 | own y=>obtain⟨m,e⟩:=x;exact⟨m,k _ _ (.inl rfl) e⟩
 | xd fs=>obtain⟨E,⟨D,s,o,e,c⟩,r⟩:=x;exact⟨E,⟨D,s,o,k _ _ (.inl rfl) e,c⟩,r⟩
 | ϓ lo hi=>obtain⟨t,u,v,e⟩:=x;exact⟨t,u,v,k _ _ (.inl rfl) e⟩
 | U0 m u ih=>obtain⟨e,q⟩:=x;exact⟨k _ _ (.inl rfl) e,ih q⟩
 | XW ps=>
   have e:i.get? a=some { cls:=.none,data:=.fields ps }:=x;show B.get? a=some { cls:=.none,data:=.fields ps };exact k a _ (.inl rfl) e
 | met f y=>
   have e:i.get? a=some (PySem.W.methodObj (.ref f) (.ref y)):=x;show B.get? a=some (PySem.W.methodObj (.ref f) (.ref y));exact k a _ (.inl rfl) e
 | ext φ=>obtain⟨p,⟨g,e⟩,st⟩:=x;exact⟨st _ _ p λg q=>k _ _ (.inl rfl) q,⟨g,k _ _ (.inl rfl) e⟩,st⟩
def ϰ.lt(x:ϰ f g b c)(e:b a=some d):a<c.objs.size:=(x a d e).lt
def ϰ.fresh(x:ϰ d f b c)(e:c.objs.size<=a):b a=none:=by
 cases q:b a with
 | none=>rfl
 | some u=>exact absurd (aU (x.lt q) e) (cU _)
def ϰ.kept{h':Heap}(x:ϰ c g d f)(k:∀b u,f.get? b=some u->h'.get? b=some u):ϰ c g d h':=λa o e=>
 (x a o e).lE (λb u _ q=>k b u q) (λ_ q=>q) λ_ _ q=>q
def ϰ.laid{h':Heap}(x:ϰ d h f g)(k:∀b u,g.get? b=some u->h'.get? b=some u)(m:g.objs.size<=a)(i:Μ d h (upd f a o) h' a o):ϰ d h (upd f a o) h':=λb u e=>by
 have j:=x.fresh m;by_cases l:b=a
 .subst l;rw[au]at e;cases e;exact i
 .rw[aM l]at e;exact(x b u e).lE (λc v _ q=>k c v q) (λc q=>by rw[aM (cC q j)];exact q) λc n q=>by rw[aM (cC q j)];exact q
def Rd(H:Hp)(a:Addr)(u:HO):Prop:=H a=some u\/∃o,H a=some (.U0 o u)
def Rd.ok(r:Rd b a c)(x:ϰ d f b e):Μ d f b e a c:=by
 rcases r with r|⟨o,r⟩
 .exact x a c r
 .obtain⟨_,q⟩:=x a _ r;exact q
def ZZ:Option HO->Prop
 | some (.lst _)=>True
 | some (.dK _)=>True
 | some (.dT _)=>True
 | some (.set _ _)=>True
 | some (.ins _ _ _)=>True
 | some (.ext _)=>True
 | _=>False
def ϰ.write{n:Heap}(w:ϰ f g a h)(m:ZZ (a x))(s:e=x\/a e=some (.own x))(k:∀b u,b≠e->h.get? b=some u->n.get? b=some u)(B:∃u,n.get? e=some u)(p:Μ f g (upd a x d) n x d):ϰ f g (upd a x d) n:=λb u q=>by
 have t:∀c y,a c=some (.own y)->c≠x:=λc y r z=>by subst z;rw[r]at m;exact m
 have o:∀c j,a c=some (.tup j)->c≠x:=λc j r z=>by subst z;rw[r]at m;exact m
 by_cases i:b=x
 .subst i;rw[au]at q;cases q;exact p
 .rw[aM i]at q;by_cases l:b=e
  .have q':a b=some (.own x):=by
    rcases s with z|z
    .exact absurd (l.trans z) i
    .rw[l];exact z
   rw[q]at q';cases q';obtain⟨v,A⟩:=B;exact⟨v,by rw[l];exact A⟩
  .refine(w b u q).lE (λc v hc r=>k c v ?_ r) (λc r=>by rw[aM (t c b r)];exact r) λc j r=>by rw[aM (o c j r)];exact r
   rcases hc with rfl|hc
   .exact l
   .rintro rfl;rcases s with z|z
    .exact t c b hc z
    .rw[hc]at z;cases z;exact i rfl
structure Un(fs ex:hH)(H H':Hp)(h h':Heap):Prop where
 keep:∀b o,h.get? b=some o->H b=none->b∉fs->b∉ex->h'.get? b=some o
 slot:∀b o,h.get? b=some o->H b=none->b∈fs->b∉ex->∃sl,h'.get? b=some { o with slots:=sl }
 free:∀b o,h.get? b=some o->H b=none->b∉ex->H' b=none
 there:∀b o,h.get? b=some o->b∉ex->∃o',h'.get? b=some o'
 lT:∀b xs,H b=some (.tup xs)->H' b=some (.tup xs)
 gE:∀b o u,H b=some (.U0 o u)->H' b=some (.U0 o u)
 nE:∀b ps,H b=some (.XW ps)->∃more,H' b=some (.XW (ps++more))
def Un.any(u:Un d e f h g c)(q:g.get? b=some a)(n:f b=none)(i:b∉e):∃k,c.get? b=some { a with slots:=k }:=by
 by_cases j:b∈d
 .exact u.slot b a q n j i
 .exact⟨a.slots,u.keep b a q n j i⟩
def Un.kept{h:Heap}{h':Heap}(k:∀b u,h.get? b=some u->h'.get? b=some u):Un c d a a h h':=⟨λb e q _ _ _=>k b e q,λb e q _ _ _=>⟨e.slots,k b e q⟩,λ_ _ _ n _=>n,λb e q _=>⟨e,k b e q⟩,λ_ _ q=>q,λ_ _ _ q=>q,λ_ f q=>⟨#[],by rw[q];simp⟩⟩
def Un.refl:Un c d b b a a:=Un.kept λ_ _ q=>q
def Un.laid{H:Hp}{h:Heap}{h':Heap}(k:∀b u,h.get? b=some u->h'.get? b=some u)(f:h.objs.size<=a)(hn:H a=none):Un c d H (upd H a o) h h' where
 keep:=λb u q _ _ _=>k b u q
 slot:=λb u q _ _ _=>⟨u.slots,k b u q⟩
 free:=λb u q n _=>by rw[aM (aV (aU (aK q) f))];exact n
 there:=λb u q _=>⟨u,k b u q⟩
 lT:=λb e q=>by rw[aM (cC q hn)];exact q
 gE:=λb u e q=>by rw[aM (cC q hn)];exact q
 nE:=λb g q=>⟨#[],by rw[aM (cC q hn),q];simp⟩
def Un.write{H:Hp}{h:Heap}{g:Heap}(f:ZZ (H x))(o:e=x\/H e=some (.own x))(k:∀b u,b≠e->h.get? b=some u->g.get? b=some u)(t:∃u,g.get? e=some u):Un c a H (upd H x d) h g:=by
 have l:∀b,H b=none->b≠x:=λb n z=>by subst z;rw[n]at f;exact f
 have j:∀b,H b=none->b≠e:=λb n z=>by
  subst z;rcases o with r|r
  .exact l b n r
  .rw[n]at r;cases r
 have i:∀b u,H b=some u->¬ZZ (some u)->b≠x:=λb u q s z=>by subst z;rw[q]at f;exact s f
 refine⟨λb u q n _ _=>k b u (j b n) q,λb u q n _ _=>⟨u.slots,k b u (j b n) q⟩,λb u q n _=>by rw[aM (l b n)];exact n,λb u q _=>?_,λb p q=>by rw[aM (i b _ q λz=>z)];exact q,λb u p q=>by rw[aM (i b _ q λz=>z)];exact q,λb v q=>⟨#[],by rw[aM (i b _ q λz=>z),q];simp⟩⟩
 by_cases m:b=e
 .subst m;exact t
 .exact⟨u,k b u m q⟩
def trk(h:Heap)(H:Hp):List Addr:=(List.range h.objs.size).filter λa=>(H a).isSome
def wI(h:Heap)(H:Hp):Heap:=PySem.W.hideAll h (trk h H)
def Nd(h:Heap)(H:Hp):(wI h H).objs.size=h.objs.size:=PySem.W.hideAll_size _ _
def OH{h:Heap}{H:Hp}(e:h.get? a=some b)(n:H a=none):(wI h H).get? a=some b:=PySem.W.hideAll_get _ e λc=>by
 have q:(H a).isSome=true:=(b9.mp c).2;rw[n]at q;simp at q
def Q7(e:(wI c a).get? b=some d):c.get? b=some d/\a b=none:=by
 have f:c.get? b=some d:=PySem.W.of_hideAll (trk c a) e;refine⟨f,?_⟩;cases q:a b with
 | none=>rfl
 | some x=>
   have g:b∈trk c a:=b9.mpr ⟨cW.mpr (aK f),by simp[q]⟩;have z:(wI c a).get? b=none:=PySem.W.hideAll_none (trk c a) g;rw[z]at e;cases e
def Rh(g h:Heap)(L:Addr):List (Addr×Obj):=(List.range h.objs.size).filterMap λa=>if a=L\/(g.get? a).isSome=true then none else(h.get? a).map λo=>(a,o)
def rest(g h:Heap)(L d:Addr):List (Addr×Obj):=(Rh g h L).filter λp=>decide (p.1≠d)
structure Mod(K:hB)(mg:hP)(base:Heap):Prop where
 Yw:K.In base
 glob:base.Ns mainGlobals mg
 blt:∃mb,base.Ns builtinsNs mb/\∀x:Str,x≠"__name__"->mb x=bootBuiltins x
 nolimit:base.NoLimit
structure Cx where
 prog:Program
 w:World
 K:PySem.W.Frag
 mg:Str->Option Value
 base:Heap
 A:Around
 N:List Str
 s₀:Shared
 H₀:Hp
 env:Env
 outer:List Env
 stack:List Env
 ex:List Addr
 fn:Str->Bool
 calm:Bool
 pn:List (Addr×Obj)
 xe:Value->Shared->Prop
def ϧ(l:List Env):List Addr:=l.filterMap (·.frame)
abbrev Cx.fs(X:Cx):List Addr:=ϧ X.outer
def Vis(a:Scope)(x:Str):Prop:=a.names.lookup x=some .local\/a.names.lookup x=some .cell\/a.names.lookup x=some .free
def Loc(a:Scope)(x:Str):Prop:=a.names.lookup x=some .local\/a.names.lookup x=some .cell
def SK(a:Env)(h:Heap)(m:hP)(x:Str)(u:Value):Prop:=(a.kindOf x=some .local/\m x=some u)\/((a.kindOf x=some .cell\/a.kindOf x=some .free)/\∃c,a.cells.lookup x=some c/\h.IsCell c (some u))
structure Cx.Ok(X:Cx):Prop where
 mod:Mod X.K X.mg X.base
 kind:X.env.scope.kind=.function
 glob:X.env.globals=mainGlobals
 blt:X.env.builtins=builtinsNs
 above:X.s₀.heap.objs.size<=X.env.locals
 inj:∀x y c,X.env.cells.lookup x=some c->X.env.cells.lookup y=some c->x=y
 has:∀x,(X.env.kindOf x=some .cell\/X.env.kindOf x=some .free)->∃c,X.env.cells.lookup x=some c
 XX:∀x c,X.fn x=true->X.env.cells.lookup x=some c->X.s₀.heap.objs.size<=c
 hd:X.calm=true->X.A.handled=none
 frames:X.A.frames=some X.stack
 Yx:X.stack=X.outer\/(X.stack=X.env::X.outer/\X.env.frame=some X.env.locals)
 Z1:∀b∈X.ex,b≠X.env.locals/\∀x c,X.env.cells.lookup x=some c->c≠b
 bs:∀b o,X.base.get? b=some o->X.s₀.heap.get? b=some o/\X.H₀ b=none
 V7:X.base.objs.size<=X.s₀.heap.objs.size
 Uu:∀b o,X.base.get? b=some o->b∉X.ex
 T6:∀b∈X.ex,b∉X.fs
 gT:X.s₀.heap.FunFrames X.base X.outer
 WN:∀b∈X.fs,X.H₀ b=none
structure Inv(X:Cx)(pins:hE)(σ:List (Option V))(H:Hp)(s:Shared):Prop where
 ok:X.Ok
 os:s.os=X.s₀.os
 bare:AllBare s.gens
 base:Un X.fs X.ex X.H₀ H X.s₀.heap s.heap
 loc:∃m,s.heap.Ns X.env.locals m/\∀(i:Nat)(x:Str)(v:V),X.N[i]?=some x->σ[i]?=some (some v)->Vis X.env.scope x->∃u,RelV v u/\SK X.env s.heap m x u
 cell:∀x c,X.env.cells.lookup x=some c->∃v,s.heap.IsCell c v
 free:H X.env.locals=none
 ϔ:∀x c,X.env.cells.lookup x=some c->H c=none
 pin:∀p∈X.pn++pins,s.heap.get? p.1=some p.2/\H p.1=none/\p.1≠X.env.locals/\p.1∉X.fs/\∀v,p.2.data≠.cell v
 Β:ϰ X.prog X.w H s.heap
 len:σ.length=X.N.length
def Cx.Ok.aeK{X:Cx}(c:X.Ok)(e:X.base.get? a=some b):a∉X.fs:=λd=>by
 have:=(c.gT.mem d).1;rw[e]at this;cases this
def Inv.bs(I:Inv f a g c d):∀b o,f.base.get? b=some o->d.heap.get? b=some o/\c b=none:=λb o e=>
 ⟨I.base.keep b o (I.ok.bs b o e).1 (I.ok.bs b o e).2 (I.ok.aeK e) (I.ok.Uu b o e),I.base.free b o (I.ok.bs b o e).1 (I.ok.bs b o e).2 (I.ok.Uu b o e)⟩
def Inv.bk(I:Inv d a f g c):∀b o,d.base.get? b=some o->c.heap.get? b=some o:=λb o e=>(I.bs b o e).1
def Inv.mod(I:Inv a b c d e):Mod a.K a.mg a.base:=I.ok.mod
def Inv.oK(I:Inv b a d e c):b.K.In c.heap:=I.ok.mod.Yw.keeps I.bk
def Inv.lt(I:Inv b a d e c):b.env.locals<c.heap.objs.size:=let ⟨_,hn,_⟩:=I.loc;hn.lt
def Inv.sz(I:Inv b a d e c):b.s₀.heap.objs.size<=c.heap.objs.size:=aW I.ok.above (iP I.lt)
def Inv.aeL(I:Inv d a e f b)(h:b.heap.objs.size<=c):c∉d.fs:=λg=>by
 obtain⟨_,o,i,_⟩:=I.ok.gT.mem g;exact absurd (aU (aK i) (aW I.sz h)) (cU _)
def Inv.Yy(I:Inv a b d f g):∀x c,a.env.cells.lookup x=some c->c≠a.env.locals:=λx c e z=>by
 obtain⟨v,o,j,i⟩:=I.cell x c e;obtain⟨m,⟨l,n,p,k,h,_⟩,_⟩:=I.loc;rw[z,k]at j;cases j;rw[h]at i;cases i
def Inv.gT(I:Inv a d f g c):c.heap.FunFrames a.base a.outer:=by
 have j:∀(l:List Env),(∀b∈ϧ l,b∈a.fs)->a.s₀.heap.FunFrames a.base l->c.heap.FunFrames a.base l:=by
  intro l
  induction l with
  | nil=>intro _ _;trivial
  | cons env r ih=>
    intro m p;obtain⟨s,⟨L,o,i,t,q,n⟩,u⟩:=p;have k:L∈a.fs:=m L (by unfold ϧ;rw[i5,i];exact aL);obtain⟨v,e⟩:=I.base.slot L o q (I.ok.WN L k) k λz=>I.ok.T6 L z k;exact⟨s,⟨L,_,i,t,e,n⟩,ih (λb h=>m b (by unfold ϧ;rw[i5,i];exact aI _ h)) u⟩
 exact j a.outer (λ_ h=>h) I.ok.gT
def Inv.stack(I:Inv a b c d s):s.heap.FunFrames a.base a.stack:=by
 rcases I.ok.Yx with e|⟨e,g⟩
 .rw[e];exact I.gT
 .rw[e];obtain⟨m,f,_⟩:=I.loc;refine .cons (by rw[I.ok.kind];decide) g f ?_ I.gT;exact Heap.get?_none_of_le (aW I.ok.V7 I.ok.above)
def Inv.T7(I:Inv a c d f g):∀b∈ϧ a.stack,b∈a.env.locals::a.fs:=λb h=>by
 rcases I.ok.Yx with e|⟨e,i⟩
 .rw[e]at h;exact aI _ h
 .rw[e]at h;unfold ϧ at h;rw[i5,i]at h;exact h
def Inv.oR(I:Inv d a f c g):∀b∈ϧ d.stack,c b=none:=λb hb=>by
 rcases aE.mp (I.T7 b hb)with e|hb
 .rw[e];exact I.free
 .obtain⟨_,o,ho,_⟩:=I.ok.gT.mem hb;exact I.base.free b o ho (I.ok.WN b hb) λz=>I.ok.T6 b z hb
def Inv.step{j:hE}{Q:List (Option V)}{E:Hp}{C:Heap}{t':Nat}{ch:hH}(I:Inv a j Q g f)(L:∀b∈ch,(b∈a.ex\/a.s₀.heap.objs.size<=b)/\b≠a.env.locals/\(∀x c,a.env.cells.lookup x=some c->c≠b)/\∀p∈a.pn++j,p.1≠b)(keep:∀b o,b≠a.env.locals->b∉a.fs->b∉ch->f.heap.get? b=some o->g b=none->C.get? b=some o)(slot:∀b o,b≠a.env.locals->b∈a.fs->b∉ch->f.heap.get? b=some o->g b=none->∃P,C.get? b=some { o with slots:=P })(free:∀b o,b∉ch->f.heap.get? b=some o->g b=none->E b=none)(there:∀b o,b∉ch->f.heap.get? b=some o->∃F,C.get? b=some F)(lT:∀b A,g b=some (.tup A)->E b=some (.tup A))(gE:∀b o u,g b=some (.U0 o u)->E b=some (.U0 o u))(nE:∀b M,g b=some (.XW M)->∃K,E b=some (.XW (M++K)))(W:∀m,f.heap.Ns a.env.locals m->C.Ns a.env.locals m)(U:ϰ a.prog a.w E C)(X:AllBare g'):Inv a j Q E { f with heap:=C,gens:=g',drawn:=d',toks:=t' }:=by
 have G:∀b o,a.s₀.heap.get? b=some o->b≠a.env.locals:=λb o e=>aV (aU (aK e) I.ok.above);have t:∀b o,a.s₀.heap.get? b=some o->b∉a.ex->b∉ch:=λb o e h B=>by
  rcases(L b B).1 with z|z
  .exact h z
  .exact absurd (aU (aK e) z) (cU _)
 have s:∀x c,a.env.cells.lookup x=some c->∀v,f.heap.IsCell c v->C.IsCell c v:=λx c e v ⟨o,D,N⟩=>by
  have H:c∉ch:=λz=>(L c z).2.2.1 x c e rfl;by_cases S:c∈a.fs
  .obtain⟨P,q⟩:=slot c o (I.Yy x c e) S H D (I.ϔ x c e);exact⟨_,q,N⟩
  .exact⟨o,keep c o (I.Yy x c e) S H D (I.ϔ x c e),N⟩
 refine⟨I.ok,I.os,X,⟨λb o e n B h=>?_,λb o e n B h=>?_,λb o e n h=>?_,λb o e h=>?_,λb A e=>lT b A (I.base.lT b A e),λb o A e=>gE b o A (I.base.gE b o A e),λb M e=>?_⟩,?_,λx c e=>?_,?_,λx c e=>?_,λp R=>?_,U,I.len⟩
 .exact keep b o (G b o e) B (t b o e h) (I.base.keep b o e n B h) (I.base.free b o e n h)
 .obtain⟨P,y⟩:=I.base.slot b o e n B h;obtain⟨O,J⟩:=slot b _ (G b o e) B (t b o e h) y (I.base.free b o e n h);exact⟨O,J⟩
 .obtain⟨F,y⟩:=I.base.there b o e h;exact free b F (t b o e h) y (I.base.free b o e n h)
 .obtain⟨F,y⟩:=I.base.there b o e h;exact there b F (t b o e h) y
 .obtain⟨m1,y⟩:=I.base.nE b M e;obtain⟨Y,J⟩:=nE b _ y;exact⟨m1++Y,by rw[J,Array.append_assoc]⟩
 .obtain⟨m,hn,hl⟩:=I.loc;refine⟨m,W m hn,λi x v y J T=>?_⟩;obtain⟨u,r,l⟩:=hl i x v y J T;refine⟨u,r,?_⟩;rcases l with l|⟨k,c,e,z⟩
  .exact .inl l
  .exact .inr ⟨k,c,e,s x c e _ z⟩
 .obtain⟨v,z⟩:=I.cell x c e;exact⟨v,s x c e v z⟩
 .obtain⟨m,⟨o,_,_,D,_⟩,_⟩:=I.loc;exact free _ o (λz=>(L _ z).2.1 rfl) D I.free
 .obtain⟨v,o,D,N⟩:=I.cell x c e;exact free c o (λz=>(L c z).2.2.1 x c e rfl) D (I.ϔ x c e)
 .obtain⟨e,n,ne,nf,d⟩:=I.pin p R;have H:p.1∉ch:=λz=>(L p.1 z).2.2.2 p R rfl;exact⟨keep p.1 p.2 ne nf H e n,free p.1 p.2 H e n,ne,nf,d⟩
def Inv.un{g:hE}{j:List (Option V)}{t':Nat}(I:Inv a g j f c)(u:Un a.fs [] f d c.heap h')(p:ϰ a.prog a.w d h'):Inv a g j d { c with heap:=h',toks:=t' }:=by
 obtain⟨m,⟨o,C,y,k,r⟩,_⟩:=id I.loc;obtain⟨B,s⟩:=u.any k I.free (by simp);exact I.step (g':=c.gens) (d':=c.drawn) (ch:=[]) (λ_ z=>nomatch z) (λb o _ h _ e n=>u.keep b o e n h (by simp)) (λb o _ h _ e n=>u.slot b o e n h (by simp)) (λb o _ e n=>u.free b o e n (by simp)) (λb o _ e=>u.there b o e (by simp)) u.lT u.gE u.nE (λA v=>by
  obtain⟨x,q,i,l,t⟩:=v;rw[k]at l;cases l;exact⟨_,q,i,s,t⟩) p I.bare
def Inv.call{h:hE}{l:List (Option V)}{t':Nat}{ch:hH}(I:Inv a h l g f)(u:Un (ϧ a.stack) ch g d f.heap h')(y:ϰ a.prog a.w d h')(C:AllBare g')(t:∀b∈ch,(b∈a.ex\/a.s₀.heap.objs.size<=b)/\b≠a.env.locals/\(∀x c,a.env.cells.lookup x=some c->c≠b)/\∀p∈a.pn++h,p.1≠b):Inv a h l d { f with heap:=h',gens:=g',drawn:=d',toks:=t' }:=by
 obtain⟨m,⟨o,J,F,q,r⟩,_⟩:=id I.loc;obtain⟨H,j⟩:=u.any q I.free λz=>(t _ z).2.1 rfl;exact I.step (ch:=ch) t (λb o j v i e n=>u.keep b o e n (λz=>(aE.mp (I.T7 b z)).elim j v) i) (λb o _ _ i e n=>u.any e n i) (λb o i e n=>u.free b o e n i) (λb o i e=>u.there b o e i) u.lT u.gE u.nE (λG D=>by
  obtain⟨E,A,k,s,B⟩:=D;rw[q]at s;cases s;exact⟨_,A,k,j,B⟩) y C
def Inv.turned{g:hE}{j:List (Option V)}{s:Heap}{t':Nat}(I:Inv a g j f d)(k:∀b o,b≠it->d.heap.get? b=some o->s.get? b=some o)(A:f it=none)(l:it≠a.env.locals)(B:it∈a.ex\/a.s₀.heap.objs.size<=it)(t:∀x c,a.env.cells.lookup x=some c->c≠it)(y:∀p∈a.pn++g,p.1≠it):Inv a g j f { d with heap:=s,toks:=t' }:=by
 have i:∀b u,f b=some u->b≠it:=λb u e z=>by rw[z,A]at e;cases e
 refine I.step (g':=d.gens) (d':=d.drawn) (ch:=[it]) (λb w=>?_) (λb o _ _ h e _=>k b o (λz=>h (by simp[z])) e) (λb o _ _ h e _=>⟨o.slots,k b o (λz=>h (by simp[z])) e⟩) (λ_ _ _ _ n=>n)
  (λb o h e=>⟨o,k b o (λz=>h (by simp[z])) e⟩) (λ_ _ e=>e) (λ_ _ _ e=>e) (λb D e=>⟨#[],by rw[e];simp⟩) (λm C=>?_) (λb u e=>?_) I.bare
 .have e:b=it:=by simpa using w
  subst e;exact⟨B,l,t,y⟩
 .obtain⟨o,es,ep,ho,r⟩:=C;exact⟨o,es,ep,k _ o (Ne.symm l) ho,r⟩
 .refine(I.Β b u e).lE (λc v h q=>k c v ?_ q) (λ_ q=>q) λ_ _ q=>q;rcases h with z|z
  .rw[z];exact i b u e
  .exact i c _ z
def Inv.tok(I:Inv d a b e c)(t:Nat):Inv d a b e { c with toks:=t }:=I.un (h':=c.heap) (t':=t) Un.refl I.Β
def Inv.kept{h':Heap}{t':Nat}(I:Inv f a d e c)(k:∀b u,c.heap.get? b=some u->h'.get? b=some u):Inv f a d e { c with heap:=h',toks:=t' }:=I.un (Un.kept k) (I.Β.kept k)
def Inv.laid{h':Heap}{t':Nat}(I:Inv e c f g d)(k:∀b u,d.heap.get? b=some u->h'.get? b=some u)(i:d.heap.objs.size<=a)(h:Μ e.prog e.w (upd g a o) h' a o):Inv e c f (upd g a o) { d with heap:=h',toks:=t' }:=I.un (Un.laid k i (I.Β.fresh i)) (I.Β.laid k i h)
def Inv.write{i:Heap}{o:Nat}(I:Inv d c h a f)(n:ZZ (a x))(l:e=x\/a e=some (.own x))(k:∀b u,b≠e->f.heap.get? b=some u->i.get? b=some u)(m:∃u,i.get? e=some u)(j:Μ d.prog d.w (upd a x g) i x g):Inv d c h (upd a x g) { f with heap:=i,toks:=o }:=I.un (Un.write n l k m) (I.Β.write n l k m j)
def Inv.Vg(I:Inv b f c d e)(h:∀p∈a,e.heap.get? p.1=some p.2/\d p.1=none/\p.1≠b.env.locals/\p.1∉b.fs/\∀v,p.2.data≠.cell v):Inv b a c d e:=⟨I.ok,I.os,I.bare,I.base,I.loc,I.cell,I.free,I.ϔ,λp g=>(bi.mp g).elim (λz=>I.pin p (bJ _ z)) (h p),I.Β,I.len⟩
def HV{N:hU}(c:N.Nodup){i j:Nat}{x:Str}(a:N[i]?=some x)(b:N[j]?=some x):i=j:=by
 obtain⟨g,d⟩:=ax.mp a;obtain⟨f,e⟩:=ax.mp b;exact(List.getElem_inj c).mp (d.trans e.symm)
def Fh{G:hE}{P:List (Option V)}{E:gy}{i:Nat}{x:Str}{Q:Unit->Shared->Prop}(I:Inv f G P l g)(hN:f.N.Nodup)(K:f.N[i]?=some x)(D:Loc f.env.scope x)(r:RelV v s)(h:∀S,Inv f G (P.set i (some v)) l S->(∃a,Heap.SameBut a g.heap S.heap/\(a=f.env.locals\/f.env.cells.lookup x=some a))->Q () S)(hf:f.fn x=true\/f.env.scope.names.lookup x=some .local:=by first|exact .inl rfl|exact .inr rfl|assumption):wpAny t u (storeName f.env x s) Q E g:=by
 obtain⟨m,X,hl⟩:=id I.loc;have ac:(f.env.scope.kind==.class||(f.env.scope.kind==.module&&f.env.locals != f.env.globals))=false:=by rw[I.ok.kind];rfl
 have Z4:i<P.length:=by rw[I.len];exact(ax.mp K).1
 have Yy:=I.Yy;have C:∀{a:Addr}{J:Heap},(∃o,g.heap.get? a=some o/\l a=none)->Heap.SameBut a g.heap J->ϰ f.prog f.w l J:=λ{a J} ha A b ob e=>by
  obtain⟨_,_,Uw⟩:=ha;refine(I.Β b ob e).lE (λc M hc q=>(A.2 c ?_).trans q) (λ_ q=>q) λ_ _ q=>q;rintro rfl;rcases hc with rfl|hc
  .rw[Uw]at e;cases e
  .rw[Uw]at hc;cases hc
 rcases D with hk|hk
 .refine wpAny_storeName_local hk X (λJ Z5 A=>?_) ac;obtain⟨oL,_,_,T,_⟩:=id X;refine h _ ⟨I.ok,I.os,I.bare,⟨λb o e n H D=>?_,λb o e n H D=>?_,I.base.free,λb o e D=>?_,I.base.lT,I.base.gE,I.base.nE⟩,⟨_,Z5,λj y v' B F R=>?_⟩,λy c e=>?_,I.free,I.ϔ,λp W=>?_,C ⟨oL,T,I.free⟩ A,by simpa using I.len⟩ ⟨_,A,.inl rfl⟩
  .exact(A.2 b (aV (aU (aK e) I.ok.above))).trans (I.base.keep b o e n H D)
  .obtain⟨sl,B⟩:=I.base.slot b o e n H D;exact⟨sl,(A.2 b (aV (aU (aK e) I.ok.above))).trans B⟩
  .obtain⟨o',B⟩:=I.base.there b o e D;exact⟨o',(A.2 b (aV (aU (aK e) I.ok.above))).trans B⟩
  .by_cases hj:j=i
   .subst hj;rw[K]at B;cases B;rw[cY Z4]at F;cases F;exact⟨s,r,.inl ⟨hk,by simp⟩⟩
   .rw[cz (Ne.symm hj)]at F;obtain⟨Y,U,q⟩:=hl j y v' B F R;refine⟨Y,U,?_⟩;rcases q with⟨k,e⟩|⟨k,c,e,z⟩
    .refine .inl ⟨k,?_⟩;have:y≠x:=λe=>hj (HV hN B (e▸K));simp[this,e]
    .exact .inr ⟨k,c,e,z.sameBut A (Yy y c e)⟩
  .obtain⟨M,z⟩:=I.cell y c e;exact⟨M,z.sameBut A (Yy y c e)⟩
  .obtain⟨e,n,ne,nf,d⟩:=I.pin p W;exact⟨(A.2 p.1 ne).trans e,n,ne,nf,d⟩
 .have hfn:f.fn x=true:=by
   rcases hf with z|z
   .exact z
   .rw[z]at hk;cases hk
  obtain⟨c,hc⟩:=I.ok.has x (.inl hk);obtain⟨M,z⟩:=I.cell x c hc;refine wpAny_storeName_cell I.ok.kind hk hc z (λJ Xg A=>?_);obtain⟨oc,L,Z⟩:=id z;refine h { g with heap:=J } ⟨I.ok,I.os,I.bare,⟨λb o e n H D=>?_,λb o e n H D=>?_,I.base.free,λb o e D=>?_,I.base.lT,I.base.gE,I.base.nE⟩,⟨m,X.sameBut A (Ne.symm (Yy x c hc)),λj y v' B F R=>?_⟩,λy O e=>?_,I.free,I.ϔ,λp W=>?_,C ⟨oc,L,I.ϔ x c hc⟩ A,by simpa using I.len⟩ ⟨c,A,.inr hc⟩
  .exact(A.2 b (aV (aU (aK e) (I.ok.XX x c hfn hc)))).trans (I.base.keep b o e n H D)
  .obtain⟨sl,B⟩:=I.base.slot b o e n H D;exact⟨sl,(A.2 b (aV (aU (aK e) (I.ok.XX x c hfn hc)))).trans B⟩
  .obtain⟨o',B⟩:=I.base.there b o e D;exact⟨o',(A.2 b (aV (aU (aK e) (I.ok.XX x c hfn hc)))).trans B⟩
  .by_cases hj:j=i
   .subst hj;rw[K]at B;cases B;rw[cY Z4]at F;cases F;exact⟨s,r,.inr ⟨.inl hk,c,hc,Xg⟩⟩
   .rw[cz (Ne.symm hj)]at F;obtain⟨Y,U,q⟩:=hl j y v' B F R;refine⟨Y,U,?_⟩;rcases q with q|⟨k,O,e,z'⟩
    .exact .inl q
    .refine .inr ⟨k,O,e,z'.sameBut A ?_⟩;rintro rfl;exact hj (HV hN B (I.ok.inj _ _ _ e hc▸K))
  .by_cases hcc:O=c
   .subst hcc;exact⟨_,Xg⟩
   .obtain⟨w2,z2⟩:=I.cell y O e;exact⟨w2,z2.sameBut A hcc⟩
  .obtain⟨e,n,ne,nf,d⟩:=I.pin p W;refine⟨(A.2 p.1 ?_).trans e,n,ne,nf,d⟩;intro q;rw[q,L]at e;have q':oc=p.2:=bF e;exact d M (by rw[<-q'];exact Z)
def uy{Q:Unit->Shared->Prop}(I:Inv a c d e f)(p:a.N.Nodup)(o:a.N[j]?=some b)(t:Loc a.env.scope b)(r:RelV g i)(h:∀n,Inv a c (d.set j (some g)) e n->Q () n)(q:a.fn b=true\/a.env.scope.names.lookup b=some .local:=by first|exact .inl rfl|exact .inr rfl|assumption):wpAny m l (storeName a.env b i) Q k f:=Fh I p o t r (λn s _=>h n s) q
def Inv.V8{s':Shared}(I:Inv a d h i g)(k:s'.os=g.os)(u:Un (ϧ a.stack) ch i f g.heap s'.heap)(m:ϰ a.prog a.w f s'.heap)(j:AllBare s'.gens)(n:∀b∈ch,(b∈a.ex\/a.s₀.heap.objs.size<=b)/\b≠a.env.locals/\(∀x c,a.env.cells.lookup x=some c->c≠b)/\∀p∈a.pn++d,p.1≠b):Inv a d h f s':=by
 obtain⟨o,g',d',t',l⟩:=s';have e:l=g.os:=k;subst e;exact I.call (g':=g') (t':=t') (d':=d') u m j n
abbrev XK:=Value->Option Addr->Hp->Prop
abbrev St:=List (Option V)
abbrev VK:=V->Hp->Prop
abbrev TE:=St->Hp->VK->Prop
abbrev TT:=St->Hp->(Bool->Hp->Prop)->Prop
abbrev TA:=St->Hp->(List V->Hp->Prop)->Prop
structure Ends where
 nx:St->Hp->Prop
 rt:VK
 bk:St->Hp->Prop:=λ_ _=>False
 ct:St->Hp->Prop:=λ_ _=>False
abbrev TS:=Ends->St->Hp->Prop
def EP(X:Cx)(a:hE)(c:St)(Q:VK)(u:Value)(d:Shared):Prop:=∃v b,Inv X a c b d/\RelV v u/\Q v b
def TP(X:Cx)(a:hE)(d:St)(Q:Bool->Hp->Prop)(b:Bool)(e:Shared):Prop:=∃c,Inv X a d c e/\Q b c
def AP(X:Cx)(a:hE)(d:St)(Q:List V->Hp->Prop)(e:hL)(f:Shared):Prop:=∃c b,Inv X a d b f/\Vals c e/\Q c b
def SP(X:Cx)(b:hE)(D:Ends)(f:Flow)(d:Shared):Prop:=match f with
 | .next=>∃a c,Inv X b a c d/\D.nx a c
 | .brk=>∃a c,Inv X b a c d/\D.bk a c
 | .cont=>∃a c,Inv X b a c d/\D.ct a c
 | .ret u=>∃v a c,Inv X b a c d/\RelV v u/\D.rt v c
def PE(X:Cx)(e:Expr)(t:TE):Prop:=∀(a:hE)(s:Shared)(b:St)(H:Hp)(Q:VK),Inv X a b H s->t b H Q->wpAny (model X.prog X.w) X.A (eval e X.env) (EP X a b Q) X.xe s
def PT(X:Cx)(e:Expr)(t:TT):Prop:=∀(a:hE)(s:Shared)(b:St)(H:Hp)(Q:Bool->Hp->Prop),Inv X a b H s->t b H Q->wpAny (model X.prog X.w) X.A (isTrue e X.env (eval e X.env)) (TP X a b Q) X.xe s
def PW(X:Cx)(e:Expr)(t:TT):Prop:=∀(b:Sem Value)(a:hE)(s:Shared)(c:St)(H:Hp)(Q:Bool->Hp->Prop),Inv X a c H s->t c H Q->wpAny (model X.prog X.w) X.A (isTrue e X.env b) (TP X a c Q) X.xe s
def PW.pt(h:PW c a b):PT c a b:=h _
def PA(X:Cx)(d:List Expr)(t:TA):Prop:=∀(c:Pos)(a:hE)(s:Shared)(b:St)(H:Hp)(Q:List V->Hp->Prop),Inv X a b H s->t b H Q->wpAny (model X.prog X.w) X.A (spliced (backTo c (starEach d X.env))) (AP X a b Q) X.xe s
def PS(X:Cx)(st:Stmt)(t:TS):Prop:=∀(a:hE)(s:Shared)(b:St)(H:Hp)(D:Ends),Inv X a b H s->t D b H->wpAny (model X.prog X.w) X.A (exec st X.env) (SP X a D) X.xe s
def UQ(X:Cx)(st:List Stmt)(t:TS):Prop:=∀(a:hE)(s:Shared)(b:St)(H:Hp)(D:Ends),Inv X a b H s->t D b H->wpAny (model X.prog X.w) X.A (execs st X.env) (SP X a D) X.xe s
def ϕ{c:Type}{t:Sem c}{Q b:c->Shared->Prop}{M:Model}{A:Around}{E:gy}{s:Shared}(h:wpAny M A t Q E s)(d:∀a s,Q a s->b a s):wpAny M A t b E s:=da h d λ_ _ x=>x
def eF(h:wpAny k i j (EP e b d g) f a)(l:∀u a v H,Inv e b d H a->RelV v u->g v H->c u a):wpAny k i j c f a:=ϕ h λu a ⟨v,H,I,r,q⟩=>l u a v H I r q
def sM(h:wpAny k i j (AP e b d g) f a)(l:∀u a v H,Inv e b d H a->Vals v u->g v H->c u a):wpAny k i j c f a:=ϕ h λu a ⟨v,H,I,r,q⟩=>l u a v H I r q
def BA(h:wpAny i f g (TP j b d e) k a)(l:∀u a H,Inv j b d H a->e u H->c u a):wpAny i f g c k a:=ϕ h λu a ⟨H,I,q⟩=>l u a H I q
def x6(i:Nat):TE:=λa H Q=>∃v,a[i]?=some (some v)/\Q v H
def tC(v:V):TE:=λ_ H Q=>Q v H
def HW{X:Cx}(n:X.N[b]?=some a)(p:Vis X.env.scope a)(i:(a==("__debug__":Str))=false:=by decide)(k:(a==("__classdict__":Str))=false:=by decide):PE X (.Name a d) (x6 b):=by
 intro g s j H Q I h;obtain⟨v,e,h⟩:=h;obtain⟨m,q,o⟩:=I.loc;obtain⟨u,r,l⟩:=o b a v n e p;have f:EP X g j Q u s:=⟨v,H,I,r,h⟩;rcases l with⟨hk,hm⟩|⟨hk,c,hc,bV⟩
 .exact wpAny_Name (wpAny_loadName_local I.ok.kind hk q hm f) i
 .rcases hk with hk|hk
  .exact wpAny_Name (wpAny_loadName_cell I.ok.kind hk hc bV f) i
  .exact wpAny_Name (wpAny_loadName_free I.ok.kind hk hc bV f k) i
def aD{i j pos}:PE a (.Constant (.int i) j pos) (tC (.int i)):=λ_ _ _ H _ I h=>wpAny_Constant_int ⟨.int i,H,I.tok _,⟨_,rfl⟩,h⟩
def zN{b j pos}:PE a (.Constant (.bool b) j pos) (tC (.bl b)):=λ_ _ _ H _ I h=>Constant_bool ⟨.bl b,H,I,rfl,h⟩
def qy{j pos}:PE a (.Constant .none j pos) (tC .ο):=λ_ _ _ H _ I h=>Constant_none ⟨.ο,H,I,rfl,h⟩
def bH{x j pos}:PE a (.Constant (.str x) j pos) (tC (.str x)):=λ_ _ _ H _ I h=>Calls.Constant_str ⟨.str x,H,I.tok _,⟨_,rfl⟩,h⟩
def Gl(X:Cx)(x:Str):Prop:=X.env.kindOf x=some .globalImplicit
def tS{Q:gy}(I:Inv X c f g b)(k:Gl X a)(l:X.mg a=some e)(h:Q e b)(j:(a==("__debug__":Str))=false:=by decide):wpAny (model X.prog X.w) X.A (eval (.Name a d) X.env) Q i b:=kR I.ok.kind k (Calls.loadGlobal_global (by rw[I.ok.glob];exact I.mod.glob.keeps I.bk) l h) j
def pW{Q:gy}(I:Inv b d g i c)(m:Gl b a)(q:b.mg a=none)(l:bootBuiltins a=some f)(h:Q f c)(o:a≠"__name__":=by decide)(k:(a==("__debug__":Str))=false:=by decide):wpAny (model b.prog b.w) b.A (eval (.Name a e) b.env) Q j c:=by
 obtain⟨r,p,n⟩:=I.mod.blt;exact kR I.ok.kind m (Calls.loadGlobal_builtin (by rw[I.ok.glob];exact I.mod.glob.keeps I.bk) q (by rw[I.ok.blt];exact p.keeps I.bk) ((n a o).trans l) h) k
def DR(g:Gl b a)(i:b.mg a=some e)(r:RelV c e)(f:(a==("__debug__":Str))=false:=by decide):PE b (.Name a d) (tC c):=λ_ _ _ H _ I h=>tS I g i ⟨c,H,I,r,h⟩ f
def Qu(f:Gl b a)(g:b.mg a=none)(e:bootBuiltins a=some d)(r:RelV v d)(hn:a≠"__name__":=by decide)(hd:(a==("__debug__":Str))=false:=by decide):PE b (.Name a c) (tC v):=λ_ _ _ H _ I h=>pW I f g e ⟨v,H,I,r,h⟩ hn hd
def PC(X:Cx)(g:CmpOp)(a b:Expr)(t:TE):Prop:=∀(c:hE)(s:Shared)(f:St)(H:Hp)(Q:VK),Inv X c f H s->t f H Q->wpAny (model X.prog X.w) X.A (eval a X.env) (λv d=>wpAny (model X.prog X.w) X.A (eval b X.env) (λu e=>wpAny (model X.prog X.w) X.A (compareOp g v u) (EP X c f Q) X.xe e) X.xe d) X.xe s
def Pz(b:Expr)(h:a≠.In)(c:a≠.NotIn):behindInMarks a b=false:=by
 have d:(a==CmpOp.In)=false:=by cases a<;>first|rfl|exact absurd rfl h
 have e:(a==CmpOp.NotIn)=false:=by cases a<;>first|rfl|exact absurd rfl c
 cases b<;>simp[behindInMarks,d,e]
def NQ(c:TE):TE:=λa H Q=>c a H λx b=>Q (.bl (decide (x=.ο))) b
def KM(c:TE):TE:=λa H Q=>c a H λx b=>Q (.bl (!decide (x=.ο))) b
def RelV.Ux(r:RelV a b):(b==Value.none)=decide (a=.ο):=by
 cases a with
 | ο=>cases r;rfl
 | bl _=>cases r;rfl
 | int _=>obtain⟨t,rfl⟩:=r;rfl
 | str _=>obtain⟨t,rfl⟩:=r;rfl
 | UZ _=>obtain⟨t,rfl⟩:=r;rfl
 | XT _=>obtain⟨t,rfl⟩:=r;rfl
 | ref _=>cases r;rfl
 | ty _=>cases r;rfl
def Nx{X:Cx}{a:Expr}{c:TE}{j pos'}(ha:PE X a c):PC X .Is a (.Constant .none j pos') (NQ c):=by
 intro b s d H Q I h;refine eF (ha b s d H _ I h) λv k x e g f i=>?_;exact Constant_none (is_none_gen ⟨.bl _,e,g,by rw[f.Ux];rfl,i⟩)
def Rf{X:Cx}{a:Expr}{c:TE}{j pos'}(ha:PE X a c):PC X .IsNot a (.Constant .none j pos') (KM c):=by
 intro b s d H Q I h;refine eF (ha b s d H _ I h) λv k x e g f i=>?_;exact Constant_none (isnot_none_gen ⟨.bl _,e,g,by rw[f.Ux];rfl,i⟩)
def tB(t:TE):TT:=λa H Q=>t a H λx b=>∃c,x=.bl c/\Q c b
def CI{X:Cx}{a:Expr}{b:Expr}{i:Pos}{f:CmpOp}{t:TE}(h:PC X f a b t)(g:behindInMarks f b=false:=by first|exact Pz _ (by decide) (by decide)|rfl):PT X (.Compare a [f] [b] i) (tB t):=by
 intro e s j H Q I n;refine wpAny_isTrue_Compare1 (ϕ (h e s j H _ I n) λv y g=>ϕ g λu w m=>ϕ m λc r ⟨x,k,o,l,p⟩=>?_) g;obtain⟨d,rfl,q⟩:=p;cases l;exact dA ⟨k,o,q⟩
def lW{X:Cx}{e:Expr}{t:TE}(h:PE X e t)(c:∀a,isTrue e X.env a=(do let v <-a;standAt e.pos;holding [v] (truthy v)):=by intro _;rfl):PT X e (tB t):=by
 intro b s f H Q I j;refine isTrue_plain (eF (h b s f H _ I j) λv m x g k i l=>?_) (c _);obtain⟨d,rfl,q⟩:=l;cases i;exact dA ⟨g,k,q⟩
def Oc(t u:TT):TT:=λa H Q=>t a H λc b=>if c=true then u a b Q else Q false b
def tOr(t u:TT):TT:=λa H Q=>t a H λc b=>if c=true then Q true b else u a b Q
def Pn(t:TT):TT:=λa H Q=>t a H λc b=>Q (!c) b
def rN{X:Cx}{a:Expr}{d:Pos}{f:TT}(i:PT X a f):PW X (.BoolOp .And [a] d) f:=by
 intro k b s g H Q I h;refine isTrue_and (ϕ (i b s g H Q I h) λc j e=>?_);cases c with
 | true=>exact isTrue_and_nil e
 | false=>exact e
def CB{X:Cx}{a:Expr}{d:Pos}{f:TT}(i:PT X a f):PW X (.BoolOp .Or [a] d) f:=by
 intro k b s g H Q I h;refine isTrue_or (ϕ (i b s g H Q I h) λc j e=>?_);cases c with
 | false=>exact isTrue_or_nil e
 | true=>exact e
def t7{X:Cx}{a:Expr}{b:Expr}{e:Pos}{l:TT}{i:TT}{rest:List Expr}(n:PT X a l)(m:PW X (.BoolOp .And (b::rest) e) i):PW X (.BoolOp .And (a::b::rest) e) (Oc l i):=by
 intro p d s f H Q I h;refine isTrue_and (BA (n d s f H _ I h) λc o g j k=>?_);cases c with
 | true=>exact m p d o f g Q j k
 | false=>exact⟨g,j,k⟩
def zI{X:Cx}{a:Expr}{b:Expr}{e:Pos}{l:TT}{i:TT}{rest:List Expr}(n:PT X a l)(m:PW X (.BoolOp .Or (b::rest) e) i):PW X (.BoolOp .Or (a::b::rest) e) (tOr l i):=by
 intro p d s f H Q I h;refine isTrue_or (BA (n d s f H _ I h) λc o g j k=>?_);cases c with
 | true=>exact⟨g,j,k⟩
 | false=>exact m p d o f g Q j k
def nG(j:PT e d a):PT e (.UnaryOp .Not d b) (Pn a):=by
 intro f s g H Q I h;exact isTrue_not (j f s g H (λc i=>Q (!c) i) I h)
def KY(e d:TE):TE:=λa H Q=>e a H λx b=>∃c,x=.bl c/\if c=true then d a b Q else Q (.bl false) b
def OC(e d:TE):TE:=λa H Q=>e a H λx b=>∃c,x=.bl c/\if c=true then Q (.bl true) b else d a b Q
def wD{op}(h:PE d c a):PE d (.BoolOp op [c] b) a:=λe s f H Q I g=>BoolOp_one (h e s f H Q I g)
def wr{X:Cx}{a:Expr}{b:Expr}{j:TE}{l:TE}{e:Pos}{rest:List Expr}(o:PE X a j)(n:PE X (.BoolOp .And (b::rest) e) l):PE X (.BoolOp .And (a::b::rest) e) (KY j l):=by
 intro d s g H Q I h;refine BoolOp_and (eF (o d s g H _ I h) λv p x i k m f=>?_);obtain⟨c,rfl,f⟩:=f;cases m;refine dA ?_;cases c with
 | true=>exact n d p g i Q k f
 | false=>exact⟨.bl false,i,k,rfl,f⟩
def So{X:Cx}{a:Expr}{b:Expr}{j:TE}{l:TE}{e:Pos}{rest:List Expr}(o:PE X a j)(n:PE X (.BoolOp .Or (b::rest) e) l):PE X (.BoolOp .Or (a::b::rest) e) (OC j l):=by
 intro d s g H Q I h;refine BoolOp_or (eF (o d s g H _ I h) λv p x i k m f=>?_);obtain⟨c,rfl,f⟩:=f;cases m;refine dA ?_;cases c with
 | false=>exact n d p g i Q k f
 | true=>exact⟨.bl true,i,k,rfl,f⟩
def tIf(t:TT)(e d:TE):TE:=λa H Q=>t a H λc b=>if c=true then e a b Q else d a b Q
def Gr{X:Cx}{a:Expr}{b:Expr}{j:TE}{m:TE}{g:Pos}{n:TT}{c:Expr}(r:PT X c n)(q:PE X a j)(p:PE X b m):PE X (.IfExp c a b g) (tIf n j m):=by
 intro e s f H Q I h;refine wpAny_IfExp (BA (r e s f H _ I h) λd o i k l=>?_);cases d with
 | true=>exact q e o f i Q k l
 | false=>exact p e o f i Q k l
def ι(K:hB)(H:Hp)(a:Addr)(xs:List V):Prop:=Rd H a (.lst xs)\/∃(o:Obj)(b:Array Value)(n:Nat),K.lookup a=some o/\o.cls=.type "list"/\o.dict=none/\o.data=.seq b n/\b.size<=sizeLine/\Vals xs b.toList
def Α(K:hB)(H:Hp)(a:Addr)(xs:List V):Prop:=Rd H a (.tup xs)\/∃(o:Obj)(b:Array Value)(n:Nat),K.lookup a=some o/\o.cls=.type "tuple"/\o.data=.seq b n/\b.size<=sizeLine/\Vals xs b.toList
def SX:Value->Option V
 | .none=>some .ο
 | .bool b=>some (.bl b)
 | .int i _=>some (.int i)
 | .str x _=>some (.str x)
 | .bytes b _=>some (.UZ b)
 | .float b _=>some (.XT b)
 | .ref a=>some (.ref a)
 | .type n=>some (.ty n)
 | _=>none
def RelV.abs(r:RelV a b):SX b=some a:=by
 cases a with
 | ο=>cases r;rfl
 | bl _=>cases r;rfl
 | int _=>obtain⟨t,rfl⟩:=r;rfl
 | str _=>obtain⟨t,rfl⟩:=r;rfl
 | UZ _=>obtain⟨t,rfl⟩:=r;rfl
 | XT _=>obtain⟨t,rfl⟩:=r;rfl
 | ref _=>cases r;rfl
 | ty _=>cases r;rfl
def RelV.inj(r:RelV c a)(q:RelV b a):c=b:=bF (r.abs.symm.trans q.abs)
def Vals.inj(h:Vals b c)(d:Vals a c):b=a:=by
 induction h generalizing a with
 | nil=>cases d;rfl
 | cons r _ ih=>cases d with|cons r2 t2=>rw[r.inj r2,ih t2]
def ι.of{H:Hp}{a:Addr}{xs:List V}{K:hB}(h:H a=some (.lst xs)):ι K H a xs:=.inl (.inl h)
def Α.of{H:Hp}{a:Addr}{xs:List V}{K:hB}(h:H a=some (.tup xs)):Α K H a xs:=.inl (.inl h)
def Inv.list(I:Inv g c i d f)(h:ι g.K d b a):∃its:List Value,Vals a its/\PlainL f.heap b its.toArray/\a.length<=sizeLine:=by
 rcases h with h|⟨o,its,n,l,m,k,j,p,r⟩
 .obtain⟨z,its,n,r,e⟩:=h.ok I.Β;exact⟨its,r,⟨_,n,e,rfl,rfl,rfl⟩,z⟩
 .refine⟨its.toList,r,⟨o,n,I.oK b o l,m,k,by simpa using j⟩,?_⟩;have e:=r.length;simp only[oW]at e
  lia
def Inv.tuple(I:Inv g c i d f)(h:Α g.K d b a):∃j:List Value,Vals a j/\IsTup f.heap b j.toArray/\a.length<=sizeLine:=by
 rcases h with h|⟨o,j,n,k,m,l,q,r⟩
 .obtain⟨z,j,r,p⟩:=h.ok I.Β;exact⟨j,r,p,z⟩
 .refine⟨j.toList,r,⟨o,I.oK b o k,m,n,by simpa using l⟩,?_⟩;have e:=r.length;simp only[oW]at e
  lia
def Inv.ϱ(I:Inv b g j a k)(h:ι b.K a i f)(s:ι b.K a i c):f=c:=by
 obtain⟨m,r,⟨o,n,e,_,_,d⟩,_⟩:=I.list h;obtain⟨l,t,⟨v,u,q,_,_,p⟩,_⟩:=I.list s;rw[e]at q;cases q;rw[d]at p;injection p with d1 _
 have:m=l:=by simpa using congrArg Array.toList d1
 subst this;exact r.inj t
def Inv.TL(I:Inv b g j a k)(h:Α b.K a i f)(s:Α b.K a i c):f=c:=by
 obtain⟨m,r,⟨o,e,_,n,d⟩,_⟩:=I.tuple h;obtain⟨l,t,⟨v,q,_,u,p⟩,_⟩:=I.tuple s;rw[e]at q;cases q;rw[d]at p;injection p with d1 _
 have:m=l:=by simpa using congrArg Array.toList d1
 subst this;exact r.inj t
abbrev Cx.wish(X:Cx)(E:gy):Cx:={ X with xe:=E }
abbrev Cx.Xh(X:Cx):Cx:=X.wish λ_ _=>False
def Cx.Ok.wish{X:Cx}(a:X.Ok)(E:gy):(X.wish E).Ok:=⟨a.mod,a.kind,a.glob,a.blt,a.above,a.inj,a.has,a.XX,a.hd,a.frames,a.Yx,a.Z1,a.bs,a.V7,a.Uu,a.T6,a.gT,a.WN⟩
def Cx.Ok.Ϝ{X:Cx}(b:(X.wish a).Ok):X.Ok:=⟨b.mod,b.kind,b.glob,b.blt,b.above,b.inj,b.has,b.XX,b.hd,b.frames,b.Yx,b.Z1,b.bs,b.V7,b.Uu,b.T6,b.gT,b.WN⟩
def Inv.wish(I:Inv c a b d e)(E:gy):Inv (c.wish E) a b d e:=⟨I.ok.wish E,I.os,I.bare,I.base,I.loc,I.cell,I.free,I.ϔ,I.pin,I.Β,I.len⟩
def Inv.Ϝ{X:Cx}(I:Inv (X.wish e) a b c d):Inv X a b c d:=⟨I.ok.Ϝ,I.os,I.bare,I.base,I.loc,I.cell,I.free,I.ϔ,I.pin,I.Β,I.len⟩
def SP.Ϝ{X:Cx}(h:SP (X.wish e) a d b c):SP X a d b c:=by
 cases b with
 | next=>obtain⟨f,g,I,q⟩:=h;exact⟨f,g,I.Ϝ,q⟩
 | brk=>obtain⟨f,g,I,q⟩:=h;exact⟨f,g,I.Ϝ,q⟩
 | cont=>obtain⟨f,g,I,q⟩:=h;exact⟨f,g,I.Ϝ,q⟩
 | ret u=>obtain⟨v,f,g,I,r,q⟩:=h;exact⟨v,f,g,I.Ϝ,r,q⟩
def UQ.Xh{X:Cx}{st:List Stmt}(h:UQ X.Xh st a):UQ X st a:=λb s c H D I d=>
 da (h b s c H D (I.wish _) d) (λ_ _ q=>q.Ϝ) λ_ _ z=>False.elim z
def V9:TS:=λD a H=>D.nx a H
def Lr(t u:TS):TS:=λD a H=>t { D with nx:=u D } a H
def bE:UQ a [] V9:=λ_ _ b H _ I h=>gV ⟨b,H,I,h⟩
def aw{X:Cx}{st:Stmt}{rest:List Stmt}{t:TS}{u:TS}(j:PS X st t)(d:UQ X rest u):UQ X (st::rest) (Lr t u):=by
 intro a s c H D I h;refine lF (ϕ (j a s c H { D with nx:=u D } I h) λf i q=>?_);cases f with
 | next=>
   obtain⟨b,g,e,q⟩:=q;exact d a i b g D e q
 | ret v=>exact q
 | brk=>exact q
 | cont=>exact q
def ay{X:Cx}{st:Stmt}{t:TS}(c:PS X st t):UQ X [st] t:=by
 intro a s b H D I h;refine lF (ϕ (c a s b H D I h) λf d q=>?_);cases f with
 | next=>exact gV q
 | ret v=>exact q
 | brk=>exact q
 | cont=>exact q
def Inv.quiet(I:Inv b a c d e):interactive b.env=false:=by simp[interactive,I.ok.kind]
def Lz(c:TE):TS:=λD a H=>c a H λ_ b=>D.nx a b
def cH{X:Cx}{e:Expr}{d:TE}{b:Pos}(f:PE X e d)(i:swapsWith e none b.line X.env=pure false:=by rfl):PS X (.Expr e b) (Lz d):=by
 intro a s c H D I h;exact wpAny_Expr_any (eF (f a s c H _ I h) λv m x g j l k=>⟨c,g,j,k⟩) I.quiet i
def NL(a:TE):TS:=λD b H=>a b H D.rt
def aY{X:Cx}{e:Expr}{d:TE}{b:Pos}(f:PE X e d):PS X (.Return (some e) b) (NL d):=by
 intro a s c H D I h;exact wpAny_Return_some (eF (f a s c H _ I h) λv l x g j i k=>⟨x,c,g,j,i,k⟩)
def GO(c:TT)(t u:TS):TS:=λD a H=>c a H λb d=>if b=true then t D a d else u D a d
def bU{X:Cx}{t:TS}{u:TS}{g:Pos}{c:Expr}{a b:List Stmt}{j:TT}(p:PT X c j)(o:UQ X a t)(n:UQ X b u):PS X (.If c a b g) (GO j t u):=by
 intro e s f H D I h;refine wpAny_If (BA (p e s f H _ I h) λd m i k l=>?_);cases d with
 | true=>exact o e m f i D k l
 | false=>exact n e m f i D k l
def Wa:TS:=λ_ _ _=>False
def kW{X:Cx}{st:Stmt} :PS X st Wa:=λ_ _ _ _ _ _ h=>h.elim
abbrev TG:=V->St->Hp->(St->Hp->Prop)->Prop
abbrev Yz:=List V->St->Hp->(St->Hp->Prop)->Prop
def PG(X:Cx)(a:Expr)(t:TG):Prop:=∀(b:hE)(s:Shared)(d:St)(H:Hp)(v:V)(u:Value)(Q:St->Hp->Prop),Inv X b d H s->RelV v u->t v d H Q->wpAny (model X.prog X.w) X.A (assign a X.env u) (λ_ f=>∃c e,Inv X b c e f/\Q c e) X.xe s
def ZA(X:Cx)(h:List Expr)(t:Yz):Prop:=∀(a:hE)(s:Shared)(c:St)(H:Hp)(f:List V)(d:hL)(Q:St->Hp->Prop),Inv X a c H s->Vals f d->t f c H Q->wpAny (model X.prog X.w) X.A (assignInOrder ((assignEach h X.env).map (·.2)) d) (λ_ g=>∃b e,Inv X a b e g/\Q b e) X.xe s
abbrev Lk:=V->V->V->Hp->(Hp->Prop)->Prop
def NG(X:Cx)(t:Lk):Prop:=∀(a:hE)(s:Shared)(b:St)(H:Hp)(o i v:V)(d e u:Value)(Q:Hp->Prop),Inv X a b H s->RelV o d->RelV i e->RelV v u->t o i v H Q->wpAny (model X.prog X.w) X.A (setItem d e u) (λ_ f=>∃c,Inv X a b c f/\Q c) X.xe s
abbrev TIp:=V->V->Hp->VK->Prop
def PIp(X:Cx)(c:Operator)(t:TIp):Prop:=∀(a:hE)(s:Shared)(b:St)(H:Hp)(x y:V)(v u:Value)(Q:VK),Inv X a b H s->RelV x v->RelV y u->t x y H Q->wpAny (model X.prog X.w) X.A (inplaceOp c v u) (EP X a b Q) X.xe s
def wR(i:Nat):TG:=λv a H Q=>Q (a.set i (some v)) H
def d6{X:Cx}(e:X.N.Nodup)(d:X.N[i]?=some a)(j:Loc X.env.scope a)(f:X.fn a=true\/X.env.scope.names.lookup a=some .local:=by first|exact .inl rfl|exact .inr rfl|assumption):PG X (.Name a b) (wR i):=by
 intro c s k H v u Q I r h;exact wpAny_assign_Name (uy I e d j r (λl g=>⟨_,H,g,h⟩) f)
def YB:Yz:=λb a H Q=>b=[]/\Q a H
def Kn(t:TG)(u:Yz):Yz:=λd b H Q=>∃v r,d=v::r/\t v b H λa c=>u r a c Q
def fJ:ZA a [] YB:=by
 intro b s c H f d Q I r h;obtain⟨e,h⟩:=h;subst e;cases r;exact assignInOrder_nil ⟨c,H,I,h⟩
def bQ{X:Cx}{e:Expr}{b:List Expr}{t:TG}{u:Yz}(n:PG X e t)(g:ZA X b u)(j:(assignEach (e::b) X.env).map (·.2)=assign e X.env::(assignEach b X.env).map (·.2):=by rfl):ZA X (e::b) (Kn t u):=by
 intro a s d H p o Q I r h;obtain⟨v,q,i,h⟩:=h;subst i;cases r with
 | cons r rr=>
   rw[j];refine assignInOrder_cons (ϕ (n a s d H _ _ _ I r h) λ_ m ⟨c,f,k,l⟩=>?_);exact g a m c f _ _ Q k rr l
def LC(K:hB)(n:Nat)(t:Yz):TG:=λv c H Q=>∃a b,v=.ref a/\Α K H a b/\b.length=n/\t b c H Q
def iC{X:Cx}{n:Nat}(C:X.calm=true)(h:ZA X c d)(hn:(assignEach c X.env).length=n:=by rfl)(t:(assignEach c X.env).findIdx? (·.1)=none:=by rfl):PG X (.Tuple c g f) (LC X.K n d):=by
 intro i s k H v u Q I r j;obtain⟨a,x,y,m,p,j⟩:=j;subst y;cases r;obtain⟨A,l,q,D⟩:=I.tuple m;refine assign_Tuple_tuple (I.ok.hd C) q (by simp[hn,<-p,l.length]) t λB w=>?_;have z:Inv X i k H { s with heap:=B }:=I.kept (t':=s.toks) λb o e=>w b o (aV (aK e)) e;exact h i _ k H x _ Q z (by simpa using l) j
def NZ(e f:TE)(t:Lk):TG:=λv a H Q=>e a H λo b=>f a b λi d=>t o i v d λc=>Q a c
def nL{X:Cx}{b:Pos}{o i:Expr}{f g:TE}{t:Lk}(m:PE X o f)(z:PE X i g)(A:NG X t)(n:∀v,assign (.Subscript o i b) X.env v=(do
 let c <-holding [v] (eval o X.env)
 let d <-holding [v,c] (eval i X.env)
 standAt b
 holding [v,c,d] (setItem c d v)
 release [v,c,d] []):=by intro _;rfl):PG X (.Subscript o i b) (NZ f g t):=by
 intro a s e H v u Q I r h;rw[n];refine ao (ki (eF (m a s e H _ I h) λc G x j C k D=>?_));refine ao (ki (eF (z a G e j _ C D) λd B y p F E J=>?_));refine ao (i7 (ao (ki (ϕ (A a B e p x y v c d u _ F k E r J) λ_ K ⟨w,q,l⟩=>?_))));exact wpAny_release ⟨e,w,q,l⟩
def DX(c:TE)(g:TG):TS:=λD a H=>c a H λx b=>g x a b D.nx
def jq{g:Pos}(j:PE b c d)(o:PG b a e)(n:swapsWithSole [a] c g.line b.env=pure false:=by rfl)(m:swappedStores [a] c b.env=pure none:=by rfl)(u:(assignEach [a] b.env).map (·.2)=[assign a b.env]:=by rfl):PS b (.Assign [a] c g) (DX d e):=by
 intro f s i H D I h;refine wpAny_Assign_stores (eF (j f s i H _ I h) λv t x k p l r=>?_) n m;rw[u];exact ϕ (o f t i k x v _ p l r) λ_ w q=>q
def sv{X:Cx}{e:Pos}{i:Nat}{x:Str}(l:X.N.Nodup)(o:X.N[i]?=some x)(n:Loc X.env.scope x)(f:PE X c b)(p:swapsWith c (some (.Name x a)) e.line X.env=pure false:=by rfl)(m:X.fn x=true\/X.env.scope.names.lookup x=some .local:=by first|exact .inl rfl|exact .inr rfl|assumption):PS X (.Assign [.Name x a] c e) (DX b (wR i)):=by
 intro d s g H D I h;refine wpAny_Assign_Name (eF (f d s g H _ I h) λv w y j q k r=>?_) p;exact uy q l o n k (λu t=>⟨_,j,t,r⟩) m
def P6(i:Nat)(d:TE)(e:TIp):TS:=λD a H=>∃x,a[i]?=some (some x)/\d a H λy b=>e x y b λz c=>D.nx (a.set i (some z)) c
def Me{X:Cx}{i:Nat}{x:Str}(J:X.N.Nodup)(C:X.N[i]?=some x)(q:Loc X.env.scope x)(E:PE X d b)(M:PIp X a e)(K:X.fn x=true\/X.env.scope.names.lookup x=some .local:=by first|exact .inl rfl|exact .inr rfl|assumption):PS X (.AugAssign (.Name x f) a d g) (P6 i b e):=by
 intro j s t H D I h;obtain⟨v,Q,h⟩:=h;obtain⟨m,V,L⟩:=I.loc;have p:Vis X.env.scope x:=by rcases q with k|k;exact .inl k;exact .inr (.inl k)
 obtain⟨u,r,l⟩:=L i x v C Q p;refine wpAny_AugAssign_Name ?_;have B:wpAny (model X.prog X.w) X.A (eval d X.env) (λw o=>wpAny (model X.prog X.w) X.A (inplaceOp a u w) (λr n=>wpAny (model X.prog X.w) X.A (storeName X.env x r) (λ_=>SP X j D .next) X.xe n) X.xe o) X.xe s:=by
  refine ϕ (E j s t H _ I h) λw W ⟨y,F,R,G,S⟩=>?_;refine ϕ (M j W t F v y u w _ R r G S) λz s2 ⟨zv,O,U,T,Y⟩=>?_;exact uy U J C q T (λZ P=>⟨_,O,P,Y⟩) K
 rcases l with⟨hk,hm⟩|⟨hk,c,hc,bV⟩
 .exact wpAny_loadName_local I.ok.kind hk V hm B
 .rcases hk with hk|hk
  .exact wpAny_loadName_cell I.ok.kind hk hc bV B
  .rcases q with k|k
   .have:X.env.scope.names.lookup x=some .free:=hk;rw[k]at this;cases this
   .have:X.env.scope.names.lookup x=some .free:=hk;rw[k]at this;cases this
def KS(h m l:TE)(e:V->V->Hp->VK->Prop)(b:TIp)(c:Lk):TS:=λD a H=>h a H λo d=>m a d λi g=>e o i g λx j=>l a j λy n=>b x y n λz f=>c o i z f λk=>D.nx a k
def RH(X:Cx)(t:V->V->Hp->VK->Prop):Prop:=∀(a:hE)(s:Shared)(b:St)(H:Hp)(o i:V)(c d:Value)(Q:VK),Inv X a b H s->RelV o c->RelV i d->t o i H Q->wpAny (model X.prog X.w) X.A (getItem c d) (EP X a b Q) X.xe s
def q8{x:V->V->Hp->VK->Prop}(F:PE a m g)(U:PE a f i)(hg:RH a x)(A:PE a l d)(hp:PIp a e c)(W:NG a b)(G:∀q r o,augStore f q r o=(do holding [o,q,r] (setItem q r o);release [o,q,r] [];pure .next):=by intros;rfl):PS a (.AugAssign (.Subscript m f j) e l k) (KS g i d x c b):=by
 intro n s p H D I h;refine wpAny_AugAssign_SubscriptAny (eF (F n s p H _ I h) λq s1 u B I1 w q1=>?_) G;refine eF (U n s1 p B _ I1 q1) λr s2 z M I2 y q2=>?_;refine ϕ (hg n s2 p M u z q r _ I2 w y q2) λt K ⟨x3,S,N,C,E⟩=>?_;refine eF (A n K p S _ N E) λv O P H4 I4 T q4=>?_;refine ϕ (hp n O p H4 x3 P t v _ I4 C T q4) λo Q ⟨x5,J,Z,R,L⟩=>?_;exact ϕ (W n Q p J u z x5 q r o _ Z w y R L) λ_ s6 ⟨H6,X,Y⟩=>⟨p,H6,X,Y⟩
def ipI(f:hY):TIp:=λx y H Q=>∃i j,x=.int i/\y=.int j/\Q (.int (f i j)) H
def sB:PIp a .Add (ipI λi j=>i+j):=by
 intro b s g H x y v u Q I c f h;obtain⟨i,j,d,e,q⟩:=h;subst d;subst e;obtain⟨t,rfl⟩:=c;obtain⟨k,rfl⟩:=f;exact iadd_int ⟨.int _,H,I.tok _,⟨_,rfl⟩,q⟩
def RK:PIp a .Sub (ipI λi j=>i-j):=by
 intro b s g H x y v u Q I c f h;obtain⟨i,j,d,e,q⟩:=h;subst d;subst e;obtain⟨t,rfl⟩:=c;obtain⟨k,rfl⟩:=f;exact isub_int ⟨.int _,H,I.tok _,⟨_,rfl⟩,q⟩
def Im(c:TT)(h:TS):TS:=λD a H=>∃W:Nat->St->Hp->Prop,(∃m,W m a H)/\∀m a H,W m a H->c a H λb e=>if b=true then ∃N:St->Hp->Prop,(∀d f,N d f->∃g,g<m/\W g d f)/\h { D with nx:=N,ct:=N,bk:=D.nx } a e else D.nx a e
def uv{X:Cx}{k:List Stmt}(F:PassesOwn (model X.prog X.w) X.A X.env X.xe)(T:PT X e a)(L:UQ X k c):PS X (.While e k [] d) (Im a c):=by
 intro i s J H D I h;obtain⟨W,⟨R,O⟩,m⟩:=h;refine wpAny_While (codeAny_whileLoop (λn M=>∃l E,Inv X i l E M/\W n l E) ?_ R ⟨J,H,I,O⟩);rintro n S ⟨j,z,Q,K⟩;refine fW F (BA (T i S j z _ Q (m n j z K)) λb P C G q=>?_);cases b with
 | true=>
   obtain⟨N,B,q⟩:=q;rw[aj rfl];refine fW F (ϕ (L i P j C _ G q) λf U p=>?_);cases f with
   | next=>
     obtain⟨g,o,t,r⟩:=p;obtain⟨u,y,x⟩:=B g o r;exact⟨u,y,g,o,t,x⟩
   | cont=>
     obtain⟨g,o,t,r⟩:=p;obtain⟨u,y,x⟩:=B g o r;exact⟨u,y,g,o,t,x⟩
   | brk=>exact p
   | ret v=>exact p
 | false=>
   rw[ah bj];exact gV ⟨j,C,G,q⟩
structure It where
 go:Nat->Hp->Prop
 XZ:Nat->Hp->V->Hp->Prop
 stop:Nat->Hp->Prop
def p8(X:Cx)(a:hE)(H:Hp)(b:Addr):Prop:=H b=none/\b≠X.env.locals/\b∉X.fs/\(b∈X.ex\/X.s₀.heap.objs.size<=b)/\(∀x c,X.env.cells.lookup x=some c->c≠b)/\∀p∈X.pn++a,p.1≠b
def Inv.U1{j:Hp}(I:Inv f a g h d)(i:d.heap.objs.size<=b)(k:j b=none):p8 f a j b:=by
 refine⟨k,eC (aU I.lt i),I.aeL i,.inr (aW I.sz i),λx c e z=>?_,λp l z=>?_⟩
 .obtain⟨v,q⟩:=I.cell x c e;exact absurd (aU q.lt (by rw[z];exact i)) (cU _)
 .exact absurd (aU (aK (I.pin p l).1) (by rw[z];exact i)) (cU _)
structure Turn(P:Program)(w:World)(K:hB)(tg:Expr)(J:It)(fp:hH)(it:Addr)(tn:Nat->Heap->Prop):Prop where
 mem:it∈fp
 obj:∀i h,tn i h->∀b∈fp,∃o,h.get? b=some o/\∀v,o.data≠.cell v
 keep:∀i h h',tn i h->(∀b∈fp,∀o,h.get? b=some o->h'.get? b=some o)->tn i h'
 item:∀(X:Cx),X.prog=P->X.w=w->X.K=K->X.calm=true->∀(i:Nat)(pins:hE)(s:Shared)(σ:St)(H:Hp)(E:gy),Inv X pins σ H s->(∀b∈fp,p8 X pins H b)->tn i s.heap->J.go i H->wpAny (model P w) X.A (pyNext (.ref it)) (λr s1=>∃u,r=some u/\wpAny (model P w) X.A (letOwnedTupleGo tg (.ref it) u) (λ_ s2=>∃x H',Inv X pins σ H' s2/\RelV x u/\J.XZ i H x H'/\tn (i+1) s2.heap/\∀b∈fp,H' b=none) E s1) E s
 done:∀(X:Cx),X.prog=P->X.w=w->X.K=K->X.calm=true->∀(i:Nat)(pins:hE)(s:Shared)(σ:St)(H:Hp)(E:gy),Inv X pins σ H s->(∀b∈fp,p8 X pins H b)->tn i s.heap->J.stop i H->wpAny (model P w) X.A (pyNext (.ref it)) (λr s1=>r=none/\Inv X pins σ H s1) E s
 self:∀(A:Around)(i:Nat)(s:Shared)(Q:gy)(E:gy),tn i s.heap->Q (.ref it) s->wpAny (model P w) A (pyIter (.ref it)) Q E s
abbrev TI:=St->Hp->(It->Hp->Prop)->Prop
def PIE(X:Cx)(a:hE)(i:St)(j:Expr)(R:It->Hp->Prop)(d:Value)(f:Shared):Prop:=∃(h:Addr)(g:hH)(e:Nat->Heap->Prop)(J:It)(c:Hp),d=.ref h/\Inv X a i c f/\Turn X.prog X.w X.K j J g h e/\e 0 f.heap/\(∀b∈g,p8 X a c b)/\R J c
def PI(X:Cx)(e b:Expr)(d:TI):Prop:=∀(a:hE)(s:Shared)(c:St)(H:Hp)(R:It->Hp->Prop),Inv X a c H s->d c H R->wpAny (model X.prog X.w) X.A (eval b X.env) (λv f=>wpAny (model X.prog X.w) X.A (pyIter v) (PIE X a c e R) X.xe f) X.xe s
def C1{s:Shared}{Q:Unit->Shared->Prop}(m:s.heap.get? b=some c)(o:c.cls=.type n)(l:c.data=.fields d)(k:["enumerate","zip","dict_itemiterator","dict_reverseitemiterator","odict_iterator","itertools.zip_longest","itertools.pairwise"].contains n=false)(j:Q () s):wpAny f e (letOwnedTupleGo a (.ref b) g) Q i s:=by
 unfold letOwnedTupleGo;cases a<;>first
  | exact bh j
  | (cases g<;>first
   | exact bh j
   | (refine ao (wpAny_load m ?_)
      rw[o,l];show wpAny f e (if(["enumerate","zip","dict_itemiterator","dict_reverseitemiterator","odict_iterator","itertools.zip_longest","itertools.pairwise"].contains n&&d[0]?==some (rawInt _))=true then _ else _) Q i s;rw[ah (by intro h;rw[k,gg]at h;cases h)];exact bh j))
def X0(K:hB)(a:Addr):It:=⟨λi H=>∃b x,ι K H a b/\b[i]?=some x,λi H x c=>c=H/\∀b,ι K H a b->b[i]?=some x,λi H=>∃b,ι K H a b/\b.length<=i⟩
def YC(K:hB)(a:Addr):It:=⟨λi H=>∃b x,Α K H a b/\b[i]?=some x,λi H x c=>c=H/\∀b,Α K H a b->b[i]?=some x,λi H=>∃b,Α K H a b/\b.length<=i⟩
def WO(lo:Int)(n:Nat):It:=⟨λi _=>i<n,λi H x a=>a=H/\x=.int (lo+i),λi _=>n<=i⟩
def Mm{P:Program}{w:World}{K:hB}{Q:Expr}(a g:Addr):Turn P w K Q (X0 K a) [g] g (λi h=>h.IsListIter g a i) where
 mem:=by simp
 obj:=λi h st b hb=>by
  have e:b=g:=by simpa using hb
  subst e;obtain⟨o,e,c,d⟩:=st;exact⟨o,e,λv z=>by rw[d]at z;cases z⟩
 keep:=λi h m st k=>st.at λo e=>k g (by simp) o e
 item:=by
  intro X D hw t M i f s J H E I l st y;subst D hw t;obtain⟨T,x,j,q⟩:=y;obtain⟨B,n,p,R⟩:=I.list j;obtain⟨u,Z,S⟩:=n.get q;obtain⟨r,F,U,A,C,G⟩:=l g (by simp);refine wpAny_pyNext_list_item st p.isList (x:=u) (by simpa using Z) λm L Y=>?_;have V:Inv X f J H { s with heap:=m }:=I.turned (t':=s.toks) (λb o hb e=>(Y.2 b hb).trans e) r F A C G;obtain⟨o,e,c,d⟩:=id L;exact⟨u,rfl,C1 (s:={ s with heap:=m }) e c d (by decide) ⟨x,H,V,S,⟨rfl,λys O=>by rw[I.ϱ O j];exact q⟩,L,λb hb=>(l b hb).1⟩⟩
 done:=by
  intro X D hw t M i f s J H E I l st y;subst D hw t;obtain⟨T,j,q⟩:=y;obtain⟨B,n,p,R⟩:=I.list j;obtain⟨r,F,U,A,C,G⟩:=l g (by simp);have hl:=n.length;exact wpAny_pyNext_list_end (I.ok.hd M) st p.isList (by simp;lia) λm N=>⟨rfl,I.turned (t':=s.toks) (λb o hb e=>N b o hb e) r F A C G⟩
 self:=λ_ _ _ _ _ st h=>wpAny_pyIter_listiter st h
def KI{P:Program}{w:World}{K:hB}{Q:Expr}(a g:Addr):Turn P w K Q (YC K a) [g] g (λi h=>h.IsTupleIter g a i) where
 mem:=by simp
 obj:=λi h st b hb=>by
  have e:b=g:=by simpa using hb
  subst e;obtain⟨o,e,c,d⟩:=st;exact⟨o,e,λv z=>by rw[d]at z;cases z⟩
 keep:=λi h n st k=>st.at λo e=>k g (by simp) o e
 item:=by
  intro X D hw y M i f s J H E I m st A;subst D hw y;obtain⟨T,x,l,r⟩:=A;obtain⟨j,q,p,R⟩:=I.tuple l;obtain⟨u,Z,S⟩:=q.get r;obtain⟨t,F,U,B,C,G⟩:=m g (by simp);refine wpAny_pyNext_tuple_item st (show s.heap.IsTuple a j.toArray from p) (x:=u) (by simpa using Z) λn L Y=>?_;have V:Inv X f J H { s with heap:=n }:=I.turned (t':=s.toks) (λb o hb e=>(Y.2 b hb).trans e) t F B C G;obtain⟨o,e,c,d⟩:=id L;exact⟨u,rfl,C1 (s:={ s with heap:=n }) e c d (by decide) ⟨x,H,V,S,⟨rfl,λys O=>by rw[I.TL O l];exact r⟩,L,λb hb=>(m b hb).1⟩⟩
 done:=by
  intro X D hw y M i f s J H E I m st A;subst D hw y;obtain⟨T,l,r⟩:=A;obtain⟨j,q,p,R⟩:=I.tuple l;obtain⟨t,F,U,B,C,G⟩:=m g (by simp);have hl:=q.length;exact wpAny_pyNext_tuple_end (I.ok.hd M) st (show s.heap.IsTuple a j.toArray from p) (by simp;lia) λn N=>⟨rfl,I.turned (t':=s.toks) (λb o hb e=>N b o hb e) t F B C G⟩
 self:=λ_ _ _ _ _ st h=>wpAny_pyIter_tupleiter st h
def KU{P:Program}{w:World}{K:hB}{C:Expr}(c:Addr)(lo:Int)(n:Nat):Turn P w K C (WO lo n) [c] c (λi h=>IsRangeIter h c (lo+(i:Nat)*1) ((n:Int)-(i:Nat)) 1) where
 mem:=by simp
 obj:=λi h st b hb=>by
  have e:b=c:=by simpa using hb
  subst e;exact⟨_,st,λv z=>by
   have F:Data.fields _=Data.cell v:=z;cases F⟩
 keep:=λi h f st k=>k c (by simp) _ st
 item:=by
  intro X q hw j u i a s y H E I d st l;subst q hw j;obtain⟨g,r,G,m,p,x⟩:=d c (by simp);have W:=Walks.range (prog:=X.prog) (w:=X.w) (I.ok.hd u) c lo 1 n;refine W.item i s _ _ l st λv f tk hv A D=>?_;obtain⟨t,rfl⟩:=hv;have J:Inv X a y H { s with heap:=f,toks:=tk }:=I.turned (λb o hb e=>D b o (by simpa using hb) e) g r m p x;refine⟨_,rfl,C1 (s:={ s with heap:=f,toks:=tk }) (n:="range_iterator") A rfl rfl (by decide) ⟨.int (lo+i),H,J,⟨t,?_⟩,⟨rfl,rfl⟩,A,λb hb=>(d b hb).1⟩⟩;rw[pI]
 done:=by
  intro X q hw j u i a s y H E I d st l;subst q hw j;obtain⟨g,r,G,m,p,x⟩:=d c (by simp);exact wpAny_pyNext_range_end (I.ok.hd u) st (by have:n<=i:=l;lia) λf B=>⟨rfl,I.turned (t':=s.toks) (λb o hb e=>B b o hb e) g r m p x⟩
 self:=λ_ _ _ _ _ st h=>wpAny_pyIter_rangeiter st h
def Lu(K:hB)(e:TE):TI:=λc H R=>e c H λx b=>∃a,x=.ref a/\(∃d,ι K b a d)/\R (X0 K a) b
def Ob(K:hB)(e:TE):TI:=λc H R=>e c H λx b=>∃a,x=.ref a/\(∃d,Α K b a d)/\R (YC K a) b
def iA{X:Cx}{t:Expr}{l:Expr}{g:TE}(r:PE X l g):PI X t l (Lu X.K g):=by
 intro c s i H R I h;refine eF (r c s i H _ I h) λv f x j d k u=>?_;obtain⟨a,e,⟨A,m⟩,q⟩:=u;subst e;cases k;obtain⟨w,y,p,z⟩:=d.list m;refine ig p.isList ?_;refine⟨f.heap.objs.size,[f.heap.objs.size],_,_,j,rfl,d.kept (t':=f.toks) λb o e=>aB _ e,Mm a _,⟨_,bc _ rfl,rfl,rfl⟩,λb n=>?_,q⟩;have e:b=f.heap.objs.size:=by simpa using n
 subst e;exact d.U1 (aJ _) (d.Β.fresh (aJ _))
def y4{X:Cx}{u:Expr}{l:Expr}{i:TE}(t:PE X l i):PI X u l (Ob X.K i):=by
 intro c s j H R I h;refine eF (t c s j H _ I h) λv d x k f m w=>?_;obtain⟨a,e,⟨A,n⟩,q⟩:=w;subst e;cases m;obtain⟨g,y,p,z⟩:=f.tuple n;refine ku (show d.heap.IsTuple a g.toArray from p) ?_;refine⟨d.heap.objs.size,[d.heap.objs.size],_,_,k,rfl,f.kept (t':=d.toks) λb o e=>aB _ e,KI a _,⟨_,bc _ rfl,rfl,rfl⟩,λb r=>?_,q⟩;have e:b=d.heap.objs.size:=by simpa using r
 subst e;exact f.U1 (aJ _) (f.Β.fresh (aJ _))
def GW{R:It->Hp->Prop}{lo m:Int}{n:Nat}(I:Inv d c i j a)(x:-(2^62)<=lo)(r:lo<2^62)(t:-(2^62)<=m)(v:m<2^62)(q:R (WO lo (m-lo).toNat) j):wpAny (model d.prog d.w) d.A (pyIter (.ref a.heap.objs.size)) (PIE d c i k R) l { a with heap:=a.heap.push { cls:=.type "range",data:=.fields #[.int lo g,.int m h,.int 1 f] },toks:=n }:=by
 refine wpAny_pyIter_range (IsRange.new ..) (small_one x r t v) ?_;have p:Inv d c i j { a with heap:=a.heap.push { cls:=.type "range",data:=.fields #[.int lo g,.int m h,.int 1 f] },toks:=n }:=I.kept λb o e=>aB _ e;refine⟨(a.heap.push { cls:=.type "range",data:=.fields #[.int lo g,.int m h,.int 1 f] }).objs.size,[(a.heap.push { cls:=.type "range",data:=.fields #[.int lo g,.int m h,.int 1 f] }).objs.size],_,_,j,rfl,p.kept (t':=n) λb o e=>aB _ e,KU _ lo (m-lo).toNat,?_,λb s=>?_,q⟩
 .have e1:lo+((0:Nat):Int)*1=lo:=by simp
  have u:(((m-lo).toNat:Nat):Int)-((0:Nat):Int)=Builtin.Range.rangeSize lo m 1:=by rw[rangeSize_one];split<;>lia
  show IsRangeIter _ _ (lo+((0:Nat):Int)*1) ((((m-lo).toNat:Nat):Int)-((0:Nat):Int)) 1;rw[e1,u];exact bc _ rfl
 .have e:b=(a.heap.push { cls:=.type "range",data:=.fields #[.int lo g,.int m h,.int 1 f] }).objs.size:=by simpa using s
  subst e;exact p.U1 (aJ _) (p.Β.fresh (aJ _))
def LH(d:TA):TI:=λa H R=>d a H λc b=>∃j:Int,c=[.int j]/\-(2^62)<=j/\j<2^62/\R (WO 0 j.toNat) b
def K6(d:TA):TI:=λa H R=>d a H λc b=>∃i j:Int,c=[.int i,.int j]/\(-(2^62)<=i/\i<2^62/\-(2^62)<=j/\j<2^62)/\R (WO i (j-i).toNat) b
def kG(p:Gl a "range")(w:a.mg "range"=none)(n:PA a [b] d)(o:starEach [b] a.env=[(false,eval b a.env)]:=by rfl):PI a f (.Call (.Name "range" g) [b] [] c) (LH d):=by
 intro i s l H R I h;refine Call_ (pW I p w boot_range (cR (sM (n c i s l H _ I h) λy z A x u m k=>?_) o rfl));obtain⟨j,e,k,v,q⟩:=k;subst e;cases m with
 | cons r rr=>
   cases rr;obtain⟨t,rfl⟩:=r;exact call_range_1 (GW u (by lia) (by lia) k v (by simpa using q))
def LK(x:Gl a "range")(B:a.mg "range"=none)(v:PA a [c,b] f)(w:starEach [c,b] a.env=[(false,eval c a.env),(false,eval b a.env)]:=by rfl)(n:starEach [b] a.env=[(false,eval b a.env)]:=by rfl):PI a g (.Call (.Name "range" k) [c,b] [] d) (K6 f):=by
 intro l s o H R I h;refine Call_ (pW I x B boot_range (cR (sM (v d l s o H _ I h) λD F G C y p m=>?_) (by rw[w,n]) (by rw[n];rfl)));obtain⟨i,j,e,⟨m,A,u,z⟩,q⟩:=m;subst e;cases p with
 | cons r rr=>
   cases rr with
   | cons r' rr=>
     cases rr;obtain⟨t,rfl⟩:=r;obtain⟨E,rfl⟩:=r';exact call_range_2 (GW y m A u z q)
def Se(h:TI)(g:TG)(k:TS):TS:=λD a H=>h a H λJ f=>∃W:Nat->Nat->St->Hp->Prop,(∃m,W 0 m a f)/\∀i m a H,W i m a H->(J.stop i H/\D.nx a H)\/(J.go i H/\∃N:St->Hp->Prop,(∀c b,N c b->∃e,e<m/\W (i+1) e c b)/\∀x b,J.XZ i H x b->g x a b λd j=>k { D with nx:=N,ct:=N,bk:=D.nx } d j)
def wn(a:hH)(h:Heap):List (Addr×Obj):=a.filterMap λb=>(h.get? b).map λo=>(b,o)
def pE{h:Heap}(d:a∈b)(e:h.get? a=some c):(a,c)∈wn b h:=List.mem_filterMap.mpr ⟨a,d,by rw[e];rfl⟩
def Nk(h:a∈wn d c):a.1∈d/\c.get? a.1=some a.2:=by
 obtain⟨b,g,e⟩:=List.mem_filterMap.mp h;cases q:c.get? b with
 | none=>rw[q]at e;cases e
 | some o=>
   rw[q]at e;have f:(b,o)=a:=bF e;subst f;exact⟨g,q⟩
def Inv.pinned(I:Inv h a i g f)(m:∀b∈c,p8 h a g b)(n:∀b∈c,∃o,f.heap.get? b=some o/\∀v,o.data≠.cell v):Inv h (a++wn c f.heap) i g f:=I.Vg λp q=>(bi.mp q).elim (λz=>I.pin p (bw _ z)) λz=>by
 obtain⟨j,e⟩:=Nk z;obtain⟨s,r,l,_⟩:=m p.1 j;obtain⟨o,k,d⟩:=n p.1 j;rw[e]at k;cases k;exact⟨e,s,r,l,d⟩
def Inv.ϲ(I:Inv e (a++f) b c d):Inv e a b c d:=I.Vg λp g=>I.pin p (bw _ (bJ _ g))
def gf{X:Cx}{L:List Stmt}(M:PassesOwn (model X.prog X.w) X.A X.env X.xe)(hc:X.calm=true)(hi:PI X c a j)(hg:PG X c k)(y:UQ X L g)(hs:∀x,foldedSetIterable a X.env x=pure x:=by intro _;rfl):PS X (.For c a L [] l) (Se j k g):=by
 intro p s σ H D I h;refine wpAny_For (ϕ (hi p s σ H _ I h) λv s1 h1=>ϕ h1 λa2 s2 h2=>?_) hs;obtain⟨it,P,tn,J,H2,e,I2,T,UP,f2,W,⟨m0,w0⟩,Q⟩:=h2;subst e;have F:∀{G:Hp},(∀b∈P,G b=none)->∀b∈P,p8 X p G b:=λhn b y=>⟨hn b y,(f2 b y).2⟩;refine codeAny_forLoop_any (λn Z=>∃i B G,Inv X p B G Z/\tn i Z.heap/\(∀b∈P,G b=none)/\W i n B G) ?_ m0 ⟨0,σ,H2,I2,UP,λb y=>(f2 b y).1,w0⟩;rintro n s3 ⟨i,t,R,I3,VS,X1,w3⟩;rcases Q i n t R w3 with⟨stop,qn⟩|⟨go,N,hN,step⟩
 .refine fW M (ϕ (T.done X rfl rfl rfl hc i p s3 t R X.xe I3 (F X1) VS stop) λr s4 ⟨S,I4⟩=>?_);subst S;exact gV ⟨t,R,I4,qn⟩
 .refine fW M (ϕ (T.item X rfl rfl rfl hc i p s3 t R X.xe I3 (F X1) VS go) λr s4 ⟨u,S,h4⟩=>?_);subst S;refine fW M (ϕ h4 λ_ s5 ⟨x,H5,I5,r5,y5,Y,Z7⟩=>?_);have Z8:=I5.pinned (F Z7) (T.obj _ _ Y);refine fW M (ϕ (hg _ s5 t H5 x u _ Z8 r5 (step x H5 y5)) λ_ s6 ⟨U,H6,I6,q6⟩=>?_);refine fW M (ϕ (y _ s6 U H6 _ I6 q6) λf V K=>?_);have E:∀{q:St}{z:Hp},Inv X (p++wn P s5.heap) q z V->N q z->∃m,m<n/\∃i B G,Inv X p B G V/\tn i V.heap/\(∀b∈P,G b=none)/\W i m B G:=λ{q z} C O=>by
   obtain⟨m',hm,w7⟩:=hN q z O;refine⟨m',hm,i+1,q,z,C.ϲ,T.keep _ _ _ Y λb y o e=>(C.pin (b,o) (bw _ (bw _ (pE y e)))).1,λb y=>?_,w7⟩;obtain⟨o,e,d⟩:=T.obj _ _ Y b y;exact(C.pin (b,o) (bw _ (bw _ (pE y e)))).2.1
  cases f with
  | next=>obtain⟨q,z,C,O⟩:=K;exact E C O
  | cont=>obtain⟨q,z,C,O⟩:=K;exact E C O
  | brk=>obtain⟨q,z,C,K⟩:=K;exact⟨q,z,C.ϲ,K⟩
  | ret v=>obtain⟨x7,q,z,C,r7,K⟩:=K;exact⟨x7,q,z,C.ϲ,r7,K⟩
def OV{K:hB}{a:Addr}{c:List V}{g:TG}{n:TS}{D:Ends}{b:St}{H:Hp}(d:Nat->St->Hp->Prop)(w:d 0 b H)(s:∀i b H,i<=c.length->d i b H->ι K H a c)(u:∀i x b H,c[i]?=some x->d i b H->g x b H λj k=>n { D with nx:=d (i+1),ct:=d (i+1),bk:=D.nx } j k)(r:∀b H,d c.length b H->D.nx b H):∃W:Nat->Nat->St->Hp->Prop,(∃m,W 0 m b H)/\∀i m b H,W i m b H->((X0 K a).stop i H/\D.nx b H)\/((X0 K a).go i H/\∃N:St->Hp->Prop,(∀f h,N f h->∃l,l<m/\W (i+1) l f h)/\∀x h,(X0 K a).XZ i H x h->g x b h λj k=>n { D with nx:=N,ct:=N,bk:=D.nx } j k):=by
 refine⟨λi m b H=>m=c.length-i/\i<=c.length/\d i b H,⟨c.length,by simp,cf _,w⟩,?_⟩;rintro i m b H ⟨rfl,v,p⟩;have q:=s i b H v p;by_cases o:i<c.length
 .refine .inr ⟨⟨c,c[i],q,by simp[o]⟩,d (i+1),λf h t=>⟨c.length-(i+1),by lia,rfl,o,t⟩,λx h y=>?_⟩;obtain⟨e,y⟩:=y;subst e;exact u i x b _ (y c q) p
 .have e:i=c.length:=by lia
  subst e;exact .inl ⟨⟨c,q,aJ _⟩,r b H p⟩
def DG{K:hB}{a:Addr}{xs:List V}{g:TG}{l:TS}{D:Ends}{b:St}{H:Hp}(c:Nat->St->Hp->Prop)(v:c 0 b H)(r:∀i b H,i<=xs.length->c i b H->Α K H a xs)(t:∀i x b H,xs[i]?=some x->c i b H->g x b H λh j=>l { D with nx:=c (i+1),ct:=c (i+1),bk:=D.nx } h j)(o:∀b H,c xs.length b H->D.nx b H):∃W:Nat->Nat->St->Hp->Prop,(∃m,W 0 m b H)/\∀i m b H,W i m b H->((YC K a).stop i H/\D.nx b H)\/((YC K a).go i H/\∃N:St->Hp->Prop,(∀d f,N d f->∃k,k<m/\W (i+1) k d f)/\∀x f,(YC K a).XZ i H x f->g x b f λh j=>l { D with nx:=N,ct:=N,bk:=D.nx } h j):=by
 refine⟨λi m b H=>m=xs.length-i/\i<=xs.length/\c i b H,⟨xs.length,by simp,cf _,v⟩,?_⟩;rintro i m b H ⟨rfl,u,p⟩;have q:=r i b H u p;by_cases n:i<xs.length
 .refine .inr ⟨⟨xs,xs[i],q,by simp[n]⟩,c (i+1),λd f s=>⟨xs.length-(i+1),by lia,rfl,n,s⟩,λx f y=>?_⟩;obtain⟨e,y⟩:=y;subst e;exact t i x b _ (y xs q) p
 .have e:i=xs.length:=by lia
  subst e;exact .inl ⟨⟨xs,q,aJ _⟩,o b H p⟩
def MS{lo:Int}{n:Nat}{g:TG}{l:TS}{D:Ends}{a:St}{H:Hp}(d:Nat->St->Hp->Prop)(s:d 0 a H)(r:∀i a H,i<n->d i a H->g (.int (lo+i)) a H λf h=>l { D with nx:=d (i+1),ct:=d (i+1),bk:=D.nx } f h)(o:∀a H,d n a H->D.nx a H):∃W:Nat->Nat->St->Hp->Prop,(∃m,W 0 m a H)/\∀i m a H,W i m a H->((WO lo n).stop i H/\D.nx a H)\/((WO lo n).go i H/\∃N:St->Hp->Prop,(∀b c,N b c->∃k,k<m/\W (i+1) k b c)/\∀x c,(WO lo n).XZ i H x c->g x a c λf h=>l { D with nx:=N,ct:=N,bk:=D.nx } f h):=by
 refine⟨λi m a H=>m=n-i/\i<=n/\d i a H,⟨n,by simp,cf _,s⟩,?_⟩;rintro i m a H ⟨rfl,t,p⟩;by_cases j:i<n
 .refine .inr ⟨j,d (i+1),λb c q=>⟨n-(i+1),by lia,rfl,j,q⟩,λx c y=>?_⟩;obtain⟨e,y⟩:=y;subst e y;exact r i a _ j p
 .have e:i=n:=by lia
  subst e;exact .inl ⟨aJ _,o a H p⟩
abbrev R2:=V->V->Hp->VK->Prop
def bY(X:Cx)(f:Value->Value->Sem Value)(r:R2):Prop:=∀(a:hE)(s:Shared)(b:St)(H:Hp)(x y:V)(v u:Value)(Q:VK),Inv X a b H s->RelV x v->RelV y u->r x y H Q->wpAny (model X.prog X.w) X.A (f v u) (EP X a b Q) X.xe s
def UnR(X:Cx)(f:Value->Sem Value)(r:V->Hp->VK->Prop):Prop:=∀(a:hE)(s:Shared)(b:St)(H:Hp)(x:V)(v:Value)(Q:VK),Inv X a b H s->RelV x v->r x H Q->wpAny (model X.prog X.w) X.A (f v) (EP X a b Q) X.xe s
def lh(X:Cx)(f:Value)(r:List V->Hp->VK->Prop):Prop:=∀(a:hE)(s:Shared)(b:St)(H:Hp)(d:List V)(c:hL)(Q:VK),Inv X a b H s->Vals d c->r d H Q->wpAny (model X.prog X.w) X.A (call f c) (EP X a b Q) X.xe s
def SY(X:Cx)(r:V->Hp->(Bool->Hp->Prop)->Prop):Prop:=∀(a:hE)(s:Shared)(b:St)(H:Hp)(x:V)(v:Value)(Q:Bool->Hp->Prop),Inv X a b H s->RelV x v->r x H Q->wpAny (model X.prog X.w) X.A (truthy v) (TP X a b Q) X.xe s
def Xj(r:R2)(e d:TE):TE:=λa H Q=>e a H λx b=>d a b λy c=>r x y c Q
def tUn(r:V->Hp->VK->Prop)(c:TE):TE:=λa H Q=>c a H λx b=>r x b Q
def rI(C:Int->Int->Prop)(g:Int->Int->V):R2:=λx y H Q=>∃i j,x=.int i/\y=.int j/\C i j/\Q (g i j) H
def WQ(g:Int->Int->V):R2:=λx y H Q=>∃i j,x=.int i/\y=.int j/\Q (g i j) H
def rU(g:Int->V):V->Hp->VK->Prop:=λx H Q=>∃i,x=.int i/\Q (g i) H
def NT(z:PE a k d)(s:PE a j i){R:V->V->Hp->Prop}(I:Inv a b c e g)(h:d c e λx q=>i c q λy m=>R x y m){f:Value->Value->Sem Value}(t:∀v u p x y m,Inv a b c m p->RelV x v->RelV y u->R x y m->wpAny (model a.prog a.w) a.A (f v u) l a.xe p):wpAny (model a.prog a.w) a.A (eval k a.env) (λv n=>wpAny (model a.prog a.w) a.A (eval j a.env) (λu o=>wpAny (model a.prog a.w) a.A (f v u) l a.xe o) a.xe n) a.xe g:=by
 refine eF (z b g c e _ I h) λv F x q B r C=>?_;refine eF (s b F c q _ B C) λu p y m E D G=>?_;exact t v u p x y m E r D G
def aX(n:bY a (binaryOp b) i)(o:PE a f c)(m:PE a e d):PE a (.BinOp f b e g) (Xj i c d):=by
 intro j s k H Q I h;exact wpAny_BinOp (NT o m I h λv u t x y r w l p q=>n j t k r x y v u Q w l p q)
def lx(m:UnR a (unaryOp b) e)(o:PE a d c):PE a (.UnaryOp b d f) (tUn e c):=by
 intro g s i H Q I h;exact UnaryOp_ (eF (o g s i H _ I h) λv p x j l k n=>m g p i j x v Q l k n)
def ZC{X:Cx}{f:Value->Value->Sem Value}{C:Int->Int->Prop}{g:hY}(a:∀(i j:Int) (t u:Tok) (s:Shared) (Q:gy) (E:gy),C i j->Q (.int (g i j) s.toks) { s with toks:=s.toks+1 }->wpAny (model X.prog X.w) X.A (f (.int i t) (.int j u)) Q E s):bY X f (rI C λi j=>.int (g i j)):=by
 intro b s l H x y v u Q I c d h;obtain⟨i,j,rfl,rfl,k,q⟩:=h;obtain⟨t,rfl⟩:=c;obtain⟨e,rfl⟩:=d;exact a i j t e s _ _ k ⟨.int (g i j),H,I.tok _,⟨_,rfl⟩,q⟩
def R5{X:Cx}{f:Value->Value->Sem Value}{g:hY}(a:∀(i j:Int) (t u:Tok) (s:Shared) (Q:gy) (E:gy),Q (.int (g i j) s.toks) { s with toks:=s.toks+1 }->wpAny (model X.prog X.w) X.A (f (.int i t) (.int j u)) Q E s):bY X f (WQ λi j=>.int (g i j)):=by
 intro b s k H x y v u Q I c d h;obtain⟨i,j,rfl,rfl,q⟩:=h;obtain⟨t,rfl⟩:=c;obtain⟨e,rfl⟩:=d;exact a i j t e s _ _ ⟨.int (g i j),H,I.tok _,⟨_,rfl⟩,q⟩
def LG{X:Cx}{f:Value->Value->Sem Value}{g:Int->Int->Bool}(a:∀(i j:Int) (t u:Tok) (s:Shared) (Q:gy) (E:gy),Q (.bool (g i j)) s->wpAny (model X.prog X.w) X.A (f (.int i t) (.int j u)) Q E s):bY X f (WQ λi j=>.bl (g i j)):=by
 intro b s k H x y v u Q I c d h;obtain⟨i,j,rfl,rfl,q⟩:=h;obtain⟨t,rfl⟩:=c;obtain⟨e,rfl⟩:=d;exact a i j t e s _ _ ⟨.bl (g i j),H,I,rfl,q⟩
def Po(i j:Int):Prop:=0<j/\j<1073741824
def SS(i j:Int):Prop:=0<=j/\j<=1000000/\i.natAbs<2^64
def YD(i j:Int):Prop:=(-(2^64)<i/\i<2^64)\/(-(2^64)<j/\j<2^64)
def YD.ok(h:YD b a):IntMulOk b a:=by
 rcases h with⟨h1,h2⟩|⟨h1,h2⟩
 .exact .of_left (intBits_le_64 h1 h2)
 .exact .of_right (intBits_le_64 h1 h2)
def gc:bY a (binaryOp .Add) (WQ λi j=>.int (i+j)):=R5 λ_ _ _ _ _ _ _ q=>add_int q
def jt:bY a (binaryOp .Sub) (WQ λi j=>.int (i-j)):=R5 λ_ _ _ _ _ _ _ q=>sub_int q
def ke:bY a (binaryOp .Mult) (rI YD λi j=>.int (i*j)):=ZC λ_ _ _ _ _ _ _ b q=>mul_int q b.ok
def eY:bY a (binaryOp .FloorDiv) (rI Po λi j=>.int (i/j)):=ZC λi j _ _ _ _ _ b q=>by
 have d:(0:Int)<j:=b.1;have c:j<1073741824:=b.2;exact floordiv_int (by lia) (by rw[kO i (by lia)];exact q) (.inl (PyProof.noPylong_small (by lia)))
def eE:bY a (binaryOp .Mod) (rI (λ_ j=>0<j) λi j=>.int (i%j)):=ZC λi j _ _ _ _ _ b q=>by
 have c:(0:Int)<j:=b;exact mod_int' (by lia) (by rw[Int.fmod_eq_emod_of_nonneg i (by lia)];exact q)
def Du:bY a (binaryOp .Pow) (rI SS λi j=>.int (i^j.toNat)):=ZC λ_ _ _ _ _ _ _ b q=>pow_int_small b.1 b.2.1 b.2.2 q
def unI{X:Cx}{f:Value->Sem Value}{g:fz}(a:∀(i:Int) (t:Tok) (s:Shared) (Q:gy) (E:gy),Q (.int (g i) s.toks) { s with toks:=s.toks+1 }->wpAny (model X.prog X.w) X.A (f (.int i t)) Q E s):UnR X f (rU λi=>.int (g i)):=by
 intro b s d H x v Q I c h;obtain⟨i,rfl,q⟩:=h;obtain⟨t,rfl⟩:=c;exact a i t s _ _ ⟨.int (g i),H,I.tok _,⟨_,rfl⟩,q⟩
def ju:UnR a (unaryOp .USub) (rU λi=>.int (-i)):=unI λ_ _ _ _ _ q=>neg_int q
def uo:V->V->Bool
 | .ο,.ο=>true|.ο,.int _=>true|.int _,.ο=>true|.ο,.bl _=>true|.bl _,.ο=>true|.ο,.str _=>true|.str _,.ο=>true
 | .int _,.int _=>true|.bl _,.bl _=>true|.str _,.str _=>true|.UZ _,.UZ _=>true
 | .int _,.str _=>true|.str _,.int _=>true|.bl _,.str _=>true|.str _,.bl _=>true
 | _,_=>false
def rEq:R2:=λx y H Q=>uo x y=true/\Q (.bl (decide (x=y))) H
def rNe:R2:=λx y H Q=>uo x y=true/\Q (.bl (!decide (x=y))) H
def JD{i:Int}:decide (V.int i=V.int a)=(i==a):=by
 rw[i9];simp
def MM :decide (V.bl b=V.bl a)=(b==a):=by
 rw[i9];simp
def Js :decide (V.str b=V.str a)=(b==a):=by
 rw[i9];simp
def JC :decide (V.UZ b=V.UZ a)=(b.toList==a.toList):=by
 rw[i9];cases b;cases a;simp
def fD{Q:VK}(I:Inv h a f b g)(q:Q (.bl d) b)(e:d=c):EP h a f Q (.bool c) g:=by
 subst e;exact⟨.bl d,b,I,rfl,q⟩
def cM:bY a (compareOp .Eq) rEq:=by
 intro f s g H x y v u Q I e b h;obtain⟨d,q⟩:=h;cases x with
 | ο=>
   cases e;cases y with
   | ο=>cases b;exact PySem.EqNone.eq_none_none (fD I q (by simp))
   | bl j=>cases b;exact PySem.EqNone.eq_none_bool (fD I q (by simp))
   | int j=>obtain⟨c,rfl⟩:=b;exact PySem.EqNone.eq_none_int (fD I q (by simp))
   | str j=>obtain⟨c,rfl⟩:=b;exact PySem.EqNone.eq_none_str (fD I q (by simp))
   | _=>exact absurd (show false=true from d) bj
 | bl i=>
   cases e;cases y with
   | ο=>cases b;exact PySem.EqNone.eq_bool_none (fD I q (by simp))
   | bl j=>cases b;exact eq_bool (fD I q MM)
   | str j=>obtain⟨c,rfl⟩:=b;exact PySem.EqMixed.eq_bool_str (fD I q (by simp))
   | _=>exact absurd (show false=true from d) bj
 | int i=>
   obtain⟨t,rfl⟩:=e;cases y with
   | ο=>cases b;exact PySem.EqNone.eq_int_none (fD I q (by simp))
   | int j=>obtain⟨c,rfl⟩:=b;exact eq_int (fD I q JD)
   | str j=>obtain⟨c,rfl⟩:=b;exact PySem.EqMixed.eq_int_str (fD I q (by simp))
   | _=>exact absurd (show false=true from d) bj
 | str i=>
   obtain⟨t,rfl⟩:=e;cases y with
   | ο=>cases b;exact PySem.EqNone.eq_str_none (fD I q (by simp))
   | bl j=>cases b;exact PySem.EqMixed.eq_str_bool (fD I q (by simp))
   | int j=>obtain⟨c,rfl⟩:=b;exact PySem.EqMixed.eq_str_int (fD I q (by simp))
   | str j=>obtain⟨c,rfl⟩:=b;exact eq_str (fD I q Js)
   | _=>exact absurd (show false=true from d) bj
 | UZ i=>
   obtain⟨t,rfl⟩:=e;cases y with
   | UZ j=>obtain⟨c,rfl⟩:=b;exact PySem.W.eq_bytes (fD I q JC)
   | _=>exact absurd (show false=true from d) bj
 | _=>cases y<;>exact absurd (show false=true from d) bj
def ph:bY a (compareOp .NotEq) rNe:=by
 intro f s g H x y v u Q I e b h;obtain⟨d,q⟩:=h;cases x with
 | ο=>
   cases e;cases y with
   | ο=>cases b;exact PySem.EqNone.ne_none_none (fD I q (by simp))
   | bl j=>cases b;exact PySem.EqNone.ne_none_bool (fD I q (by simp))
   | int j=>obtain⟨c,rfl⟩:=b;exact PySem.EqNone.ne_none_int (fD I q (by simp))
   | str j=>obtain⟨c,rfl⟩:=b;exact PySem.EqNone.ne_none_str (fD I q (by simp))
   | _=>exact absurd (show false=true from d) bj
 | bl i=>
   cases e;cases y with
   | ο=>cases b;exact PySem.EqNone.ne_bool_none (fD I q (by simp))
   | bl j=>cases b;exact ne_bool (fD I q (congrArg not MM))
   | str j=>obtain⟨c,rfl⟩:=b;exact PySem.EqMixed.ne_bool_str (fD I q (by simp))
   | _=>exact absurd (show false=true from d) bj
 | int i=>
   obtain⟨t,rfl⟩:=e;cases y with
   | ο=>cases b;exact PySem.EqNone.ne_int_none (fD I q (by simp))
   | int j=>obtain⟨c,rfl⟩:=b;exact ne_int (fD I q (congrArg not JD))
   | str j=>obtain⟨c,rfl⟩:=b;exact PySem.EqMixed.ne_int_str (fD I q (by simp))
   | _=>exact absurd (show false=true from d) bj
 | str i=>
   obtain⟨t,rfl⟩:=e;cases y with
   | ο=>cases b;exact PySem.EqNone.ne_str_none (fD I q (by simp))
   | bl j=>cases b;exact PySem.EqMixed.ne_str_bool (fD I q (by simp))
   | int j=>obtain⟨c,rfl⟩:=b;exact PySem.EqMixed.ne_str_int (fD I q (by simp))
   | str j=>obtain⟨c,rfl⟩:=b;exact ne_str (fD I q (congrArg not Js))
   | _=>exact absurd (show false=true from d) bj
 | UZ i=>
   obtain⟨t,rfl⟩:=e;cases y with
   | UZ j=>obtain⟨c,rfl⟩:=b;exact PySem.W.ne_bytes (fD I q (congrArg not JC))
   | _=>exact absurd (show false=true from d) bj
 | _=>cases y<;>exact absurd (show false=true from d) bj
def uY:bY a (compareOp .Lt) (WQ λi j=>.bl (decide (i<j))):=LG λ_ _ _ _ _ _ _ q=>lt_int q
def wV:bY a (compareOp .LtE) (WQ λi j=>.bl (decide (i<=j))):=LG λ_ _ _ _ _ _ _ q=>le_int q
def wP:bY a (compareOp .Gt) (WQ λi j=>.bl (decide (j<i))):=LG λ_ _ _ _ _ _ _ q=>gt_int q
def zO:bY a (compareOp .GtE) (WQ λi j=>.bl (decide (j<=i))):=LG λ_ _ _ _ _ _ _ q=>ge_int q
def Mp:bY a (compareOp .In) (λx y H Q=>∃i j,x=.str i/\y=.str j/\Q (.bl (!(Builtin.Str.occurrences j i 0 j.length 1).isEmpty)) H):=by
 intro b s e H x y v u Q I c d h;obtain⟨i,j,rfl,rfl,q⟩:=h;obtain⟨t,rfl⟩:=c;obtain⟨f,rfl⟩:=d;exact in_str (fD I q rfl)
def kP(b:Expr)(h:a≠.In:=by decide)(c:a≠.NotIn:=by decide):behindInMarks a b=false:=by
 have d:(a==CmpOp.In)=false:=by cases a<;>first|rfl|exact absurd rfl h
 have e:(a==CmpOp.NotIn)=false:=by cases a<;>first|rfl|exact absurd rfl c
 cases b<;>simp[behindInMarks,d,e]
def jV(n:bY b (compareOp a) i)(o:PE b f d)(m:PE b c e)(z:behindInMarks a c=false):PE b (.Compare f [a] [c] g) (Xj i d e):=by
 intro j s k H Q I h;exact wpAny_Compare1 (NT o m I h λv u t x y r w l p q=>n j t k r x y v u Q w l p q) z
def C9(t:TE):TT:=λa H Q=>t a H λx b=>∃k,x=.bl k/\Q k b
def tG(w:bY b (compareOp a) l)(A:PE b i f)(t:PE b d g)(N:behindInMarks a d=false):PT b (.Compare i [a] [d] j) (C9 (Xj l f g)):=by
 intro m s n H Q I h;refine wpAny_isTrue_Compare1 (eF (A m s n H _ I h) λv L x o F p G=>eF (t m L n o _ F G) λu E y B K J M=>
  eF (w m E n B x y v u _ K p J M) λc O z D C q ⟨k,e,r⟩=>?_) N
 subst e;cases q;exact dA ⟨D,C,r⟩
def C6(r j:R2)(h i f:TE):TE:=λa H Q=>h a H λx d=>i a d λy g=>r x y g λz b=>∃k,z=.bl k/\(if k=true then f a b λc e=>j y c e Q else Q (.bl false) b)
def NX(G:bY a (compareOp c) p)(N:bY a (compareOp b) f)(J:PE a n l)(F:PE a g m)(hc:PE a j i)(hm:lastMarks [c,b] [g,j]=false:=by with_unfolding_all rfl):PE a (.Compare n [c,b] [g,j] o) (C6 p f l m i):=by
 intro q s r H Q I h;refine Compare_chain (eF (J q s r H _ I h) λv Y x C T D U=>chain_link (eF (F q Y r C _ T U) λu S y M V B q2=>
  eF (G q S r M x y v u _ V D B q2) λd L z A w E ⟨k,e,t⟩=>?_)) hm
 subst e;cases E;refine dA ?_;cases k with
 | false=>exact ite_ff ⟨.bl false,A,w,rfl,t⟩
 | true=>exact ite_tt (chain_last (ϕ (hc q L r A _ w t) λK O ⟨P,X,Z,R,W⟩=>N q O r X y P u K Q Z B R W))
def A7(G:bY a (compareOp c) p)(R:bY a (compareOp b) f)(J:PE a n l)(F:PE a g m)(hc:PE a j i)(hm:lastMarks [c,b] [g,j]=false:=by with_unfolding_all rfl):PT a (.Compare n [c,b] [g,j] o) (C9 (C6 p f l m i)):=by
 intro q s r H Q I h;refine isTrue_chain (eF (J q s r H _ I h) λv s1 x C Z D q1=>test_link (eF (F q s1 r C _ Z q1) λu Y y P I2 B q2=>
  eF (G q Y r P x y v u _ I2 D B q2) λd M z A w E ⟨k,e,t⟩=>?_)) hm
 subst e;cases E;refine dA ?_;cases k with
 | false=>
   obtain⟨k',O,U⟩:=t;cases O;exact ite_ff ⟨A,w,U⟩
 | true=>
   refine ite_tt (test_last (ϕ (hc q M r A _ w t) λL S ⟨T,H4,I4,W,q4⟩=>ϕ (R q S r H4 y T u L _ I4 B W q4) λd' s5 ⟨z2,K,X,V,k2,e2,N⟩=>?_));subst e2;cases V;exact dA ⟨K,X,N⟩
def Sb(K:hB)(x:V)(H:Hp)(k:Bool):Prop:=match x with
 | .ο=>k=false
 | .bl a=>k=a
 | .int i=>k=(i != 0)
 | .str y=>y.length<=sizeLine/\k=((y.length:Int) != 0)
 | .UZ y=>y.size<=sizeLine/\k=((y.size:Int) != 0)
 | .ref p=>(∃b,ι K H p b/\k=!b.isEmpty)\/(∃b,Α K H p b/\k=!b.isEmpty)\/∃c,H p=some (.dK c)/\k=!c.isEmpty
 | _=>False
def Ky(r:KV a b):(!b.isEmpty)=!a.isEmpty:=by
 cases r<;>rfl
def Cu(r:Vals b a):(!a.toArray.isEmpty)=!b.isEmpty:=by
 cases r<;>simp
def qN:(sizeLine:Nat)<2^63:=by rw[sizeLine_eq];decide
section
variable{X:Cx}
def Rz:SY X (λx H Q=>∃k,Sb X.K x H k/\Q k H):=by
 intro o s B H x v Q I f h;obtain⟨k,e,q⟩:=h;have C:=qN;have D:sizeLine=16777216:=sizeLine_eq;cases x with
 | ο=>
   cases f;have a:k=false:=e;subst a;exact truthy_none ⟨H,I,q⟩
 | bl b=>
   cases f;have a:k=b:=e;subst a;exact dA ⟨H,I,q⟩
 | int i=>
   obtain⟨t,rfl⟩:=f;have a:k=(i != 0):=e;subst a;exact PySem.P.truthy_int ⟨H,I,q⟩
 | str y=>
   obtain⟨t,rfl⟩:=f;obtain⟨z,a⟩:y.length<=sizeLine/\k=((y.length:Int) != 0):=e;subst a;exact PySem.P.truthy_str (by lia) ⟨H,I.tok _,q⟩
 | UZ y=>
   obtain⟨t,rfl⟩:=f;obtain⟨z,a⟩:y.size<=sizeLine/\k=((y.size:Int) != 0):=e;subst a;exact PySem.W.truthy_bytes (by lia) ⟨H,I.tok _,q⟩
 | ref p=>
   cases f;have a:(∃d,ι X.K H p d/\k=!d.isEmpty)\/(∃d,Α X.K H p d/\k=!d.isEmpty)\/∃g,H p=some (.dK g)/\k=!g.isEmpty:=e;rcases a with⟨d,hx,a⟩|⟨d,hx,a⟩|⟨g,hx,a⟩
   .subst a;obtain⟨n,r,l,u⟩:=I.list hx;have c:=r.length;exact wpAny_truthy_list l.isList (by simp only[aR];lia) ⟨H,I.tok _,by rw[Cu r];exact q⟩
   .subst a;obtain⟨n,r,l,u⟩:=I.tuple hx;have c:=r.length;exact truthy_tuple l (by simp only[aR];lia) ⟨H,I.tok _,by rw[Cu r];exact q⟩
   .subst a;obtain⟨u,A,j,r,m⟩:g.length<=sizeLine/\(p==sysModules)=false/\∃j,KV g j/\s.heap.DictOf (iM X.prog X.w) p j:=I.Β p _ hx;have c:g.length=j.length:=Paired.length r;exact wpAny_truthy_dict A m (by lia) ⟨H,I.tok _,by rw[Ky r];exact q⟩
 | _=>exact(show False from e).elim
end
def wQ(m:PE b a c)(i:∀d,isTrue a b.env d=(do let v <-d;standAt a.pos;holding [v] (truthy v))):PT b a (λf H Q=>c f H λx g=>∃k,Sb b.K x g k/\Q k g):=by
 intro e s f H Q I h;exact isTrue_plain (eF (m e s f H _ I h) λv p x j n l o=>Rz e p f j x v Q n l o) (i _)
def gI:bY a (binaryOp .Add) (λx y H Q=>∃i j,x=.str i/\y=.str j/\i.length+j.length<=sizeLine/\Q (.str (i++j)) H):=by
 intro b s k H x y v u Q I c d h;obtain⟨i,j,rfl,rfl,e,q⟩:=h;obtain⟨t,rfl⟩:=c;obtain⟨f,rfl⟩:=d;exact add_str (λf g=>⟨.str (i++j),H,I.tok _,⟨_,rfl⟩,q⟩) e
def oF(r:Vals [b] a):∃u,a=[u]/\RelV b u:=by
 cases r with
 | cons r1 r2=>cases r2;exact⟨_,rfl,r1⟩
def La(r:Vals [b,c] a):∃u d,a=[u,d]/\RelV b u/\RelV c d:=by
 cases r with
 | cons r1 r2=>
   cases r2 with
   | cons r3 r4=>cases r4;exact⟨_,_,rfl,r1,r3⟩
def Mo{X:Cx}(d:X.calm=true):lh X (.builtin "max") (λc H Q=>∃i j,c=[.int i,.int j]/\Q (.int (if j>i then j else i)) H):=by
 intro b s f H c l Q I r h;obtain⟨i,j,rfl,q⟩:=h;obtain⟨u,g,rfl,⟨t,rfl⟩,⟨m,rfl⟩⟩:=La r;refine max_two_ints (I.ok.hd d) λn e k=>⟨_,H,I.kept k,?_,q⟩;by_cases a:j>i
 .rw[aj a,aj a];exact⟨_,rfl⟩
 .rw[ah a,ah a];exact⟨_,rfl⟩
def gM:lh a (.type "str") (λc H Q=>∃i,c=[.int i]/\i.natAbs.log2<1920/\Q (.str (toString i)) H):=by
 intro b s e H c f Q I r h;obtain⟨i,rfl,d,q⟩:=h;obtain⟨u,rfl,t,rfl⟩:=oF r;exact PySem.P.str_of_int d ⟨.str _,H,I.tok _,⟨_,rfl⟩,q⟩
structure U2(h:Heap)(x dx C:Addr)(mA:hP):Prop where
 obj:h.get? x=some (PySem.W.instObj C dx)
 ns:h.Ns1 dx mA
 ne:dx≠x
def LU{h:Heap}(n:h.Ns1 c b):∃g,h.get? c=some g/\∀d,PySem.W.lookIn d g=some (b d):=by
 obtain⟨o,i,s,k,j,m,_,r⟩:=n;refine⟨o,k,λd=>?_⟩;have e:=r d;unfold nsFind findBy at e;rw[<-Array.find?_toList]at e;unfold PySem.W.lookIn;rw[j];dsimp only;split
 .rename_i y q
  rw[q]at e;exact congrArg some e
 .rename_i q
  rw[q]at e;have a:i.toList.any (·.refKey)=false:=by
   rw[List.any_eq_false];intro y l;obtain⟨z,t,f⟩:=m y (oH.mp l);simp[DictEntry.refKey,f]
  have p:¬i.toList.any (·.refKey)=true:=by rw[a];exact bj
  rw[ah p];exact congrArg some e
def U2.look(I:U2 e d b c a):∃g,PySem.W.InstAt e d (PySem.W.instObj c b) c (some g)/\∀f,PySem.W.lookIn f g=some (a f):=let ⟨g,ho,hl⟩:=LU I.ns
 ⟨g,⟨I.obj,rfl,rfl,ho⟩,hl⟩
def QO{s:Shared}{K:hB}{Q:gy}(X:K.In s.heap)(I:U2 s.heap g i b c)(n:PySem.W.plainGet K b a=true)(q:PySem.W.hasDictIn K b=true)(p:PySem.W.findIn K (.ref b) a=some none)(m:c a=some d)(r:PySem.W.handedIn d=true)(h:Q d { s with toks:=s.toks+1 }):wpAny (model e l) k (getAttr (.ref g) a f) Q j s:=by
 obtain⟨t,J,o⟩:=I.look;exact PySem.W.get_value X J (jY n).1 (PySem.W.findObj_own q p rfl (by rw[o,m])) r h
def Os{s:Shared}{K:hB}{Q:Value×List Value->Shared->Prop}(X:K.In s.heap)(I:U2 s.heap b i d c)(m:PySem.W.plainGet K d a=true)(p:PySem.W.findIn K (.ref d) a=some (some (.ref e)))(q:PySem.W.isFn K (.ref e)=true)(o:c a=none)(h:Q (.ref e,[.ref b]) s):wpAny (model f l) k (getMethod (.ref b) a g) Q j s:=by
 obtain⟨n,J,r⟩:=I.look;exact PySem.W.method_fn X J (jY m).1 (jY m).2 p (kf.mp q) (by show(PySem.W.lookIn a n).map (·.isSome)=some false;rw[r,o];rfl) h
def QP{s:Shared}{K:hB}{Q:Unit->Shared->Prop}(X:K.In s.heap)(I:U2 s.heap g d e f)(C:PySem.W.findIn K (.ref e) "__setattr__"=some (some (.builtin "object.__setattr__")))(E:PySem.W.plainOver K e=true)(z:PySem.W.takerIn K e c=some none)(F:PySem.W.hasDictIn K e=true)(A:PySem.Within f j)(G:j.length<=sizeLine)(h:∀o,U2 o g d e (λy=>if y=c then some i else f y)->Heap.SameBut d s.heap o->Q () { s with heap:=o,toks:=s.toks+2 }):wpAny (model k m) n (setAttr (.ref g) c i) Q l s:=by
 obtain⟨L,J,M⟩:=I.look;refine PySem.W.set_plain X J C (PySem.W.osa_open (s:={ s with toks:=s.toks+1 }) (r:=none) X J E z λb=>?_);obtain⟨cd,H,u⟩:=PySem.W.any_some F;have B:s.heap.get? g=some ⟨.ref e,some d,.plain,#[]⟩:=I.obj;refine ao (bh (ao (ao (wpAny_loadPart B (ao (PySem.W.Looks.here (s:={ s with toks:=s.toks+1 }) (PySem.W.looks_clsIn X H) ?_))))));rw[u];refine bh (a:=some d) (ao (bh (ao ?_)));refine wpAny_nsSet1 (s:={ s with toks:=s.toks+1 }) I.ns λo v w=>?_;obtain⟨N,x,D,q,p,t⟩:=v.count (PySem.Within.cons c i A);refine ao (wpAny_lookBehind q (by rw[p];exact pastItsLine_dict (aW t (by rw[aO];lia))) ?_);exact bh (h _ ⟨(w.2 _ (Ne.symm I.ne)).trans I.obj,v,I.ne⟩ w)
def PZ{A:Around}{s:Shared}{K:hB}(X:K.In s.heap)(n:PySem.W.makesIn K b=true)(l:PySem.W.findIn K (.ref b) "__init__"=some (some (.ref f)))(m:PySem.W.typeIn K (.ref f)=some (.type "function"))(h:codeAny (model a j) (A.under (.builtin "type.__call__" ⟨.ref b::e,c⟩)) (.call (.ref f) ⟨.ref (s.heap.objs.size+1)::e,c⟩) (PySem.W.InitBack (s.heap.objs.size+1) i)
 { s with heap:=(s.heap.push PySem.W.emptyDict).push (PySem.W.instObj b s.heap.objs.size) }):codeAny (model a j) A (.call (.ref b) ⟨e,c⟩) i s:=by
 obtain⟨o,g,d,t,os⟩:=s;exact PySem.W.make_core (PySem.W.makes_of X n) (PySem.W.looks_findIn X l) (λk=>PySem.W.bind_fn X k m) (.inl rfl) h
def bp(f:Str)(v:V):List (Str×V)->List (Str×V)
 | []=>[(f,v)]
 | (g,x)::r=>if g=f then(g,v)::r else(g,x)::bp f v r
theorem bR(f g:Str)(v:V):∀b:List (Str×V),(bp f v b).lookup g=if g=f then some v else b.lookup g
 | []=>by
   show List.lookup g [(f,v)]=_;by_cases h:g=f
   .have hb:(g==f)=true:=kf.mpr h;simp only[List.lookup,hb,aj h]
   .have hb:(g==f)=false:=beq_eq_false_iff_ne.mpr h;simp only[List.lookup,hb,ah h]
 | (k,x)::r=>by
   have c:=bR f g v r;rw[show bp f v ((k,x)::r)=(if k=f then(k,v)::r else(k,x)::bp f v r)from rfl];by_cases a:k=f
   .rw[aj a];by_cases h:g=k
    .have hb:(g==k)=true:=kf.mpr h;simp only[List.lookup,hb,aj (h.trans a)]
    .have hb:(g==k)=false:=beq_eq_false_iff_ne.mpr h;simp only[List.lookup,hb,ah (λe:g=f=>h (e.trans a.symm))]
   .rw[ah a];by_cases h:g=k
    .have hb:(g==k)=true:=kf.mpr h;simp only[List.lookup,hb,ah (λe:g=f=>a (h.symm.trans e))]
    .have hb:(g==k)=false:=beq_eq_false_iff_ne.mpr h;simp only[List.lookup,hb];exact c
theorem yP(f:Str)(v:V):∀b:List (Str×V),f∈(bp f v b).map (·.1)/\∀g,g∈b.map (·.1)->g∈(bp f v b).map (·.1)
 | []=>⟨by simp[bp],λg h=>by simp at h⟩
 | (k,x)::r=>by
   obtain⟨d,c⟩:=yP f v r;rw[show bp f v ((k,x)::r)=(if k=f then(k,v)::r else(k,x)::bp f v r)from rfl];by_cases a:k=f
   .rw[aj a];subst a;exact⟨by simp,λg h=>by simpa using h⟩
   .rw[ah a];refine⟨?_,λg h=>?_⟩
    .rw[aF];exact aI _ d
    .rw[aF]at h ⊢;rcases aE.mp h with e|e
     .exact aE.mpr (.inl e)
     .exact aI _ (c g e)
theorem AB(f:Str)(v:V):∀b:List (Str×V),(bp f v b).length<=b.length+1
 | []=>by simp[bp]
 | (k,x)::r=>by
   have c:=AB f v r;rw[show bp f v ((k,x)::r)=(if k=f then(k,v)::r else(k,x)::bp f v r)from rfl];by_cases a:k=f
   .rw[aj a,aO,aO];lia
   .rw[ah a,aO,aO];lia
def eQ.some_of(r:eQ (some v) o):∃u,o=some u/\RelV v u:=by
 cases o with
 | none=>exact(show False from r).elim
 | some u=>exact⟨u,rfl,r⟩
def eQ.none_of(r:eQ none a):a=none:=by
 cases a with
 | none=>rfl
 | some u=>exact(show False from r).elim
def MG(r:RelV d c):PySem.W.handedIn c=true:=by
 cases d with
 | ο=>cases(show c=Value.none from r);rfl
 | bl b=>cases(show c=Value.bool b from r);rfl
 | int i=>obtain⟨t,e⟩:=(show ∃t,c=Value.int i t from r);cases e;rfl
 | str x=>obtain⟨t,e⟩:=(show ∃t,c=Value.str x t from r);cases e;rfl
 | UZ b=>obtain⟨t,e⟩:=(show ∃t,c=Value.bytes b t from r);cases e;rfl
 | XT b=>obtain⟨t,e⟩:=(show ∃t,c=Value.float b t from r);cases e;rfl
 | ref a=>cases(show c=Value.ref a from r);rfl
 | ty n=>cases(show c=Value.type n from r);rfl
def zy(m:ϰ j k g i)(e:g c=some (.ins h b a)):∃l,U2 i c b h l/\(∀f,eQ (a.lookup f) (l f))/\PySem.Within l (a.map (·.1))/\a.length<=1000/\g b=some (.own c):=by
 obtain⟨d,z,ne,o,l,n,r,q⟩:=(show Μ j k g i c (.ins h b a)from m c _ e);exact⟨l,⟨o,n,ne⟩,r,q,z,d⟩
structure UR(K:hB)(C:Addr):Prop where
 pg:PySem.W.plainGet K C Str.empty=true
 hd:PySem.W.hasDictIn K C=true
 po:PySem.W.plainOver K C=true
 sa:PySem.W.findIn K (.ref C) "__setattr__"=some (some (.builtin "object.__setattr__"))
def UR.get{K:hB}{C:Addr}(c:UR K C)(f:Str):PySem.W.plainGet K C f=true:=c.pg
def Ι(K:hB)(C:Addr)(f:Str):Prop:=PySem.W.findIn K (.ref C) f=some none
def Ι.Z9{K:hB}{C:Addr}{f:Str}(n:Ι K C f):PySem.W.takerIn K C f=some none:=by
 unfold PySem.W.takerIn;rw[show PySem.W.findIn K (.ref C) f=some none from n]
 rfl
structure Meth(K:hB)(C:Addr)(m:Str)(f:Addr):Prop where
 at_:PySem.W.findIn K (.ref C) m=some (some (.ref f))
 fn:PySem.W.isFn K (.ref f)=true
 kp:PySem.W.keepIn K (.ref f)=true
def Lv{Q:gy}(I:Inv a d k f m)(e:f p=some (.ins i q g))(c:UR a.K i)(n:Ι a.K i b)(l:g.lookup b=some j)(h:∀u y,Inv a d k f y->RelV j u->Q u y):wpAny (model a.prog a.w) x (getAttr (.ref p) b s) Q t m:=by
 obtain⟨A,O,r,_,_,_⟩:=zy I.Β e;obtain⟨u,B,z⟩:=eQ.some_of (v:=j) (o:=A b) (by rw[<-l];exact r b);exact QO I.oK O (c.get b) c.hd n B (MG z) (h u _ (I.tok _) z)
def CU{Q:Value×List Value->Shared->Prop}(I:Inv b j q m d)(e:m f=some (.ins i p g))(c:UR b.K i)(k:Meth b.K i a n)(l:g.lookup a=none)(h:Q (.ref n,[.ref f]) d):wpAny (model b.prog b.w) t (getMethod (.ref f) a o) Q s d:=by
 obtain⟨u,O,r,_,_,_⟩:=zy I.Β e;have v:u a=none:=eQ.none_of (by rw[<-l];exact r a);exact Os I.oK O (c.get a) k.at_ k.fn v h
def KC{Q:Unit->Shared->Prop}(I:Inv f k s t u)(e:t l=some (.ins m j a))(c:UR f.K m)(n:Ι f.K m d)(N:a.length<1000)(G:RelV i p)(h:∀B,Inv f k s (upd t l (.ins m j (bp d i a))) B->Q () B):wpAny (model f.prog f.w) y (setAttr (.ref l) d p) Q v u:=by
 obtain⟨D,O,r,E,_,C⟩:=zy I.Β e;have H:(a.map (·.1)).length<=sizeLine:=by rw[ag,sizeLine_eq];lia
 refine QP I.oK O c.sa c.po n.Z9 c.hd E H λM A L=>h _ ?_;have hd:∃o,M.get? j=some o:=let ⟨o,_,_,e',_⟩:=A.ns;⟨o,e'⟩;refine I.write (x:=l) (e:=j) (by rw[e];exact True.intro) (.inr C) (λb q F z=>(L.2 b F).trans z) hd ?_;refine⟨by rw[aM O.ne];exact C,?_,O.ne,A.obj,_,A.ns,λg=>?_,λg J=>?_⟩
 .have:=AB d i a;lia
 .show eQ ((bp d i a).lookup g) (if g=d then some p else D g);rw[bR];by_cases q:g=d
  .rw[aj q,aj q];exact G
  .rw[ah q,ah q];exact r g
 .by_cases q:g=d
  .rw[q];exact(yP d i a).1
  .refine(yP d i a).2 g (E g λz=>J ?_);show(if g=d then some p else D g)=none;rw[ah q];exact z
def Inv.made(I:Inv h d f g c):Inv h d f (upd (upd g c.heap.objs.size (.own (c.heap.objs.size+1))) (c.heap.objs.size+1) (.ins C c.heap.objs.size []))
 { c with heap:=(c.heap.push PySem.W.emptyDict).push (PySem.W.instObj C c.heap.objs.size) }:=by
 have i:(c.heap.push PySem.W.emptyDict).get? c.heap.objs.size=some PySem.W.emptyDict:=bc c.heap rfl;have n:((c.heap.push PySem.W.emptyDict).push (PySem.W.instObj C c.heap.objs.size)).get? (c.heap.objs.size+1)=some (PySem.W.instObj C c.heap.objs.size):=by
  have:=bc (c.heap.push PySem.W.emptyDict) (o:=PySem.W.instObj C c.heap.objs.size) rfl
  rwa [d5]at this
 have k:(c.heap.push PySem.W.emptyDict).Ns c.heap.objs.size (λ_=>none):=⟨PySem.W.emptyDict,#[],_,i,rfl,(λe j=>absurd j (by simp)),λ_=>rfl⟩;have l:=I.laid (a:=c.heap.objs.size) (o:=.own (c.heap.objs.size+1)) (h':=c.heap.push PySem.W.emptyDict) (t':=c.toks) (λb u q=>aB _ q) (aJ _) ⟨_,i⟩;refine l.laid (a:=c.heap.objs.size+1) (o:=.ins C c.heap.objs.size []) (t':=c.toks) (λb u q=>aB _ q) (lB (d5 _ _)) ?_;have ne:c.heap.objs.size≠c.heap.objs.size+1:=aV (fQ _);refine⟨by rw[aM ne,au],cf _,ne,n,λ_=>none,(Heap.Ns1.of_empty k).at λo q=>aB _ q,λ_=>True.intro,λy m=>absurd rfl m⟩
def Ql(m:attributeBase c d a (eval c a)=eval c a)(h:wpAny (model b g) e (eval c a) (λo l=>wpAny (model b g) e (getAttr o d true) k f l) f j):wpAny (model b g) e (eval (.Attribute c d i) a) k f j:=Attribute_any_ h (by rw[arm_eval_Attribute,m])
def OU(K:hB)(g:TE)(f:Str):TE:=λd H Q=>g d H λx b=>∃a C e c v,x=.ref a/\b a=some (.ins C e c)/\UR K C/\Ι K C f/\c.lookup f=some v/\Q v b
def Ou(K:hB)(i h:TE)(f:Str):TS:=λD b H=>h b H λy g=>i b g λx d=>∃a C e c,x=.ref a/\d a=some (.ins C e c)/\UR K C/\Ι K C f/\c.length<1000/\D.nx b (upd d a (.ins C e (bp f y c)))
def cq(j:PE b d f)(p:attributeBase d e b.env (eval d b.env)=eval d b.env):PE b (.Attribute d e g) (OU b.K f e):=by
 intro i s k H Q I h;refine Ql p (eF (j i s k H _ I h) λu E x m w o ⟨a,C,F,A,v,z,t,c,n,l,q⟩=>?_);subst z;obtain rfl:u=Value.ref a:=o;exact Lv w t c n l λD B y r=>⟨v,m,y,r,q⟩
def lR{m:Pos}(v:PE d j i)(E:PE d b f)(B:swapsWith b (some (.Attribute j g e)) m.line d.env=pure false):PS d (.Assign [.Attribute j g e] b m) (Ou d.K i f g):=by
 intro k s o H D I h;refine plainObj_wpAny_Assign_Attribute (eF (E k s o H _ I h) λu J y p F w q=>eF (v k J o p _ F q) λt Q x P G r ⟨a,C,R,N,L,A,c,n,l,M⟩=>?_) B;subst L;obtain rfl:t=Value.ref a:=r;exact KC G A c n l w λO z=>⟨o,_,z,M⟩
section
variable{H:Hp}
inductive Ge(K:hB)(H:Hp):V->Value->Prop where
 | ο:Ge K H .ο (.type "NoneType")
 | bl (x:Bool):Ge K H (.bl x) (.type "bool")
 | int (i:Int):Ge K H (.int i) (.type "int")
 | str (x:Str):Ge K H (.str x) (.type "str")
 | XT (x:UInt64):Ge K H (.XT x) (.type "float")
 | lst {a:Addr} {xs:List V} (e:H a=some (.lst xs)):Ge K H (.ref a) (.type "list")
 | U0 {a:Addr} {o:Obj} {xs:List V} (e:H a=some (.U0 o (.lst xs))):Ge K H (.ref a) (.type "list")
 | tup {a:Addr} {xs:List V} (e:H a=some (.tup xs)):Ge K H (.ref a) (.type "tuple")
 | dK {a:Addr} {ρ:List (Key×V)} (e:H a=some (.dK ρ)):Ge K H (.ref a) (.type "dict")
 | dT {a:Addr} {ρ:List (List Key×V)} (e:H a=some (.dT ρ)):Ge K H (.ref a) (.type "dict")
 | ins {a C dx:Addr} {fs:List (Str×V)} (e:H a=some (.ins C dx fs)) (cl:UR K C) (ha:PySem.W.findIn K (.ref C) "__class__"=some (some (.builtin "object.__class__")))
  (hn:PySem.W.specialIn K (.builtin "object.__class__") "__get__"=some (some (.builtin "getset_descriptor.__get__"))) (htk:PySem.W.takesIn K (.builtin "object.__class__")=some true)
  (hm:PySem.W.mroIn K C (.type "object")=some true):Ge K H (.ref a) (.ref C)
end
def M7{Q:gy}(I:Inv b j r g f)(u:RelV m c)(E:Ge b.K g m d)(e:PySem.W.kitOne b.K d l=some k)(h:∀B,Q (.bool k) { f with toks:=B }):wpAny (model b.prog b.w) t (call (.builtin "isinstance") [c,l]) Q s f:=by
 cases E with
 | ο=>cases(show c=Value.none from u);exact dC PySem.W.kitx_none I.oK True.intro e (λz=>nomatch z) h
 | bl y=>cases(show c=Value.bool y from u);exact dC PySem.W.kitx_bool I.oK True.intro e (λz=>nomatch z) h
 | int i=>obtain⟨d,q⟩:=(show ∃d,c=Value.int i d from u);cases q;exact dC PySem.W.kitx_int I.oK True.intro e (λz=>nomatch z) h
 | str y=>obtain⟨d,q⟩:=(show ∃d,c=Value.str y d from u);cases q;exact dC PySem.W.kitx_str I.oK True.intro e (λz=>nomatch z) h
 | XT y=>obtain⟨d,q⟩:=(show ∃d,c=Value.float y d from u);cases q;exact dC PySem.W.kitx_float I.oK True.intro e (λz=>nomatch z) h
 | @lst a x ea=>
   cases(show c=Value.ref a from u);obtain⟨_,_,n,_,v⟩:=(show Μ b.prog b.w g f.heap a (.lst x)from I.Β a _ ea);exact dC PySem.W.kitx_list I.oK ⟨_,v,rfl⟩ e (λz=>nomatch z) h
 | @U0 a ob x ea=>
   cases(show c=Value.ref a from u);obtain⟨_,_,_,n,_,v⟩:=(show Μ b.prog b.w g f.heap a (.U0 ob (.lst x))from I.Β a _ ea);exact dC PySem.W.kitx_list I.oK ⟨_,v,rfl⟩ e (λz=>nomatch z) h
 | @tup a x ea=>
   cases(show c=Value.ref a from u);obtain⟨_,_,_,p⟩:=(show Μ b.prog b.w g f.heap a (.tup x)from I.Β a _ ea);obtain⟨o,v,A,_⟩:=p;exact dC PySem.W.kitx_tuple I.oK ⟨o,v,A⟩ e (λz=>nomatch z) h
 | @dK a ρ ea=>
   cases(show c=Value.ref a from u);obtain⟨_,_,L,_,p⟩:=(show Μ b.prog b.w g f.heap a (.dK ρ)from I.Β a _ ea);obtain⟨o,F,D,v,A,_⟩:=p;exact dC PySem.W.kitx_dict I.oK ⟨o,v,A.1⟩ e (λz=>nomatch z) h
 | @dT a ρ ea=>
   cases(show c=Value.ref a from u);obtain⟨_,_,x,_,o,F,D,v,A,_⟩:=(show Μ b.prog b.w g f.heap a (.dT ρ)from I.Β a _ ea);exact dC PySem.W.kitx_dict I.oK ⟨o,v,A.1⟩ e (λz=>nomatch z) h
 | @ins a C dx fs ea cl ha hn htk hm=>
   cases(show c=Value.ref a from u);obtain⟨H,O,_⟩:=zy I.Β ea;obtain⟨G,J,_⟩:=O.look;exact dC (PySem.W.kitx_own (cl.get _) cl.hd ha hn htk hm) I.oK J e (λz=>nomatch z) h
structure Ρ(k:Nat)(A:Around):Prop where
 hd:A.handled=none
 dp:A.depth+3*k+5<recursionLimit
 un:A.units+16*k+200<cLine
def Ρ.mono{j:Nat}(r:Ρ a b)(h:j<=a):Ρ j b:=⟨r.hd,by have:=r.dp;lia,by have:=r.un;lia⟩
def Ρ.deeper{k:Nat}(r:Ρ (k+1) a)(b:Env):Ρ k (a.deeper b):=⟨r.hd,by have:=r.dp;show a.depth+1+3*k+5<_;lia,by have:=r.un;show a.units+3+16*k+200<_;lia⟩
def KW{A:Around} :(A.under (.builtin "type.__call__" ⟨.ref c::b,a⟩)).depth=A.depth+1:=by
 first|rfl|simp[Around.under,Code.weight,Code.isCreation,Code.isGuard,Code.isCaller,Code.frames,Code.isFrame,guardIds]
def Kf{A:Around} :(A.under (.builtin "type.__call__" ⟨.ref c::b,a⟩)).units=A.units+1:=by
 first|rfl|simp[Around.under,Code.cUnits,Code.frames,Code.isFrame]
def Ρ.make{k:Nat}(r:Ρ (k+1) a)(C:Addr)(c:hL)(b:List (Str×Value)):Ρ k (a.under (.builtin "type.__call__" ⟨.ref C::c,b⟩)):=⟨r.hd,by have:=r.dp;rw[KW];lia,by have:=r.un;rw[Kf];lia⟩
def Ρ.depth(r:Ρ b a):a.depth<recursionLimit:=by have:=r.dp;lia
def Ρ.units(r:Ρ b a):a.units+64<cLine:=by have:=r.un;lia
def We:TA:=λ_ H Q=>Q [] H
def F1(f:TE)(d:TA):TA:=λa H Q=>f a H λx b=>d a b λe c=>Q (x::e) c
def ap:PA a [] We:=λ_ _ _ _ H Q I h=>iH ⟨[],H,I,.nil,h⟩
def aa(l:PE a c d)(w:PA a b e)(o:starEach (c::b) a.env=(false,eval c a.env)::starEach b a.env:=by rfl):PA a (c::b) (F1 d e):=by
 intro g f s i H Q I h;rw[o];show wpAny _ _ (spliced ((false,eval c a.env)::backTo g (starEach b a.env))) _ _ s;refine ii (eF (l f s i H _ I h) λu v x j p k q=>?_);exact sM (w g f v i j _ p q) λz A n m t r y=>⟨x::n,m,t,.cons k r,y⟩
def Ph(t:TA):TE:=λc H Q=>t c H λb a=>b.length<=sizeLine/\∀p,a p=none->Q (.ref p) (upd a p (.tup b))
def PF(t:TA):TE:=λc H Q=>t c H λb a=>b.length<=sizeLine/\∀p,a p=none->Q (.ref p) (upd a p (.lst b))
def hJ{x1}(h:PA d c f):PE d (.Tuple c x1 a) (Ph f):=by
 intro g s l H Q I m;refine wpAny_Tuple_spliced (sM (h a g s l H _ I m) λo i p j k r ⟨z,q⟩=>⟨by rw[<-r.length];exact z,?_⟩);have n:j i.heap.objs.size=none:=k.Β.fresh (aJ _);refine⟨.ref i.heap.objs.size,upd j i.heap.objs.size (.tup p),k.laid (t':=i.toks) (λb u e=>aB _ e) (aJ _) ?_,rfl,q _ n⟩;exact⟨z,o,r,⟨_,bc _ rfl,rfl,_,rfl⟩⟩
def eL(h:PA d c f):PE d (.List c a) (PF f):=by
 intro g s l H Q I m;refine wpAny_List_spliced (sM (h a g s l H _ I m) λo i p j k r ⟨z,q⟩=>⟨by rw[<-r.length];exact z,?_⟩);have n:j i.heap.objs.size=none:=k.Β.fresh (aJ _);refine⟨.ref i.heap.objs.size,upd j i.heap.objs.size (.lst p),k.laid (t':=i.toks) (λb u e=>aB _ e) (aJ _) ?_,rfl,q _ n⟩;exact⟨z,o,0,r,bc _ rfl⟩
abbrev Sp:=List V->Hp->VK->XK->Prop
abbrev Th:=List Env->Hp->Shared->XK->Value->Shared->Prop
structure U3(P:Program)(w:World)(K:hB)(mg:hP)(base:Heap)(A:Around)(outer:List Env)(s:Shared)(H:Hp):Prop where
 frames:A.frames=some outer
 mod:Mod K mg base
 bs:∀b o,base.get? b=some o->s.heap.get? b=some o/\H b=none
 V7:base.objs.size<=s.heap.objs.size
 gT:s.heap.FunFrames base outer
 WN:∀b∈ϧ outer,H b=none
 Β:ϰ P w H s.heap
 bare:AllBare s.gens
def CE(a:List Env)(P:Program)(w:World)(H:Hp)(s:Shared)(Q:VK)(u:Value)(b:Shared):Prop:=∃v c,b.os=s.os/\AllBare b.gens/\Un (ϧ a) [] H c s.heap b.heap/\ϰ P w c b.heap/\RelV v u/\Q v c
def CR(c:Th)(a:List Env)(P:Program)(w:World)(H:Hp)(s:Shared)(Q:VK)(E:XK)(r:Result)(b:Shared):Prop:=match r with
 | .ok (.ret u)=>CE a P w H s Q u b
 | .ok _=>False
 | .error e=>c a H s E e b
structure ϋ(P:Program)(w:World)(K:hB)(mg:hP)(base:Heap)(CX:Th)(k:Nat)(f:Addr)(fd:FuncData)(ps:hU)(sp:Sp):Prop where
 len:∀vs H Q E,sp vs H Q E->vs.length=ps.length
 run:∀(A:Around)(outer:List Env)(s:Shared)(H:Hp)(args:Args)(us:hL)(vs:List V)(Q:VK)(E:XK),Ρ k A->U3 P w K mg base A outer s H->BindsTo s fd args (ps.zip us)->Vals vs us->sp vs H Q E->codeAny (model P w) A (.call (.ref f) args) (CR CX outer P w H s Q E) s
def U3.make{P:Program}{w:World}{K:hB}{c:hP}{b:Heap}{A:Around}{a:List Env}{s:Shared}{H:Hp}(e:U3 P w K c b A a s H)(C:Addr)(d:hL)(f:List (Str×Value)):U3 P w K c b (A.under (.builtin "type.__call__" ⟨.ref C::d,f⟩)) a s H:=⟨by first|exact e.frames|(simpa[Around.under,Code.envs,Code.isFrame,pushEnvs]using e.frames),e.mod,e.bs,e.V7,e.gT,e.WN,e.Β,e.bare⟩
def Inv.YF(I:Inv a b e c d):U3 a.prog a.w a.K a.mg a.base a.A a.stack d c:=⟨I.ok.frames,I.ok.mod,I.bs,aW I.ok.V7 I.sz,I.stack,I.oR,I.Β,I.bare⟩
def Inv.after(I:Inv c a i j f)(h:CE c.stack c.prog c.w j f k l e):EP c a i k l e:=by
 obtain⟨v,o,os,m,p,s,r,q⟩:=h;obtain⟨u,g,d,t,n⟩:=e;obtain rfl:n=f.os:=os;exact⟨v,o,I.call (h':=u) (g':=g) (d':=d) (t':=t) (ch:=[]) p s m (λb z=>absurd z (by simp)),r,q⟩
def sd(d:Sp)(c:List V)(E:XK)(t:TA):TE:=λa H Q=>t a H λe b=>d (e++c) b Q E
def F0(C:Addr)(m:Str)(f:Sp)(e:List V)(E:XK)(j:TE)(t:TA):TE:=λb H Q=>j b H λx c=>∃a i d,x=.ref a/\c a=some (.ins C i d)/\d.lookup m=none/\t b c λg h=>f (x::(g++e)) h Q E
def Lw(C:Addr)(e:Sp)(d:List V)(E:XK)(t:TA):TE:=λc H Q=>t c H λf b=>∀x a,b x=none->b a=none->a≠x->e (.ref x::(f++d)) (upd (upd b a (.own x)) x (.ins C a [])) (λv g=>v=.ο/\Q (.ref x) g) E
def Binds(K:hB)(d:FuncData)(b:hU)(c:hL):Prop:=∀(s:Shared)(a:hL),K.In s.heap->(a++c).length=b.length->BindsTo s d ⟨a,[]⟩ (b.zip (a++c))
def Binds.all{K:hB}{d:FuncData}{b:hU}(h:∀a:List Value,a.length=b.length->bindArgs d ⟨a,[]⟩=pure (b.zip a)):Binds K d b []:=λs a _ c=>by
 rw[cj]at c ⊢;exact .of_eq (h a c)
def pM(d:Th)(X:Cx)(E:XK):Prop:=∀(a:hE)(c:St)(H:Hp)(s:Shared)(e:Value)(b:Shared),Inv X a c H s->d X.stack H s E e b->X.xe e b
def Hf{X:Cx}(F:ϋ X.prog X.w X.K X.mg X.base n p o m g k)(B:Ρ p X.A)(v:Binds X.K m g b)(t:Vals a b)(z:pM n X j)(I:Inv X c f i d)(r:Vals vs us)(h:k (vs++a) i l j):wpAny (model X.prog X.w) X.A (call (.ref o) us) (EP X c f l) X.xe d:=by
 have s:Vals (vs++a) (us++b):=r.append t;have x:(us++b).length=g.length:=by rw[<-s.length];exact F.len _ _ _ _ h
 refine my (jv (F.run X.A X.stack d i ⟨us,[]⟩ (us++b) (vs++a) l j B I.YF (v d us I.oK x) s h) λr y q=>?_);cases r with
 | error e=>exact z c f i d e y I q
 | ok fl=>
   cases fl with
   | ret u=>exact I.after q
   | next=>exact False.elim q
   | brk=>exact False.elim q
   | cont=>exact False.elim q
def gD{X:Cx}(F:ϋ X.prog X.w X.K X.mg X.base k o i j l g)(J:Ρ o X.A)(G:Gl X e)(L:X.mg e=some (.ref i))(D:PySem.W.keepIn X.K (.ref i)=true)(B:Binds X.K j l f)(z:Vals d f)(E:pM k X m)(C:PA X (c::a) n)(hdb:(e==("__debug__":Str))=false:=by decide)(v:starEach (c::a) X.env=(false,eval c X.env)::starEach a X.env:=by rfl)(y:(backTo b (starEach a X.env)).any (·.1)=false:=by rfl):PE X (.Call (.Name e p) (c::a) [] b) (sd g d m n):=by
 intro t s x H Q I h;refine hW (tS I G L ?_ hdb);refine iZ (h₀:=X.base) I.ok.mod.Yw D (sM (C b t s x H _ I h) λN O P M u r q=>⟨u.oK,?_⟩) v y;exact Hf F J B z E u r q
def nU(P:PE b k y)(c:UR b.K o)(O:Meth b.K o i j)(F:ϋ b.prog b.w b.K b.mg b.base v E j t z p)(hr:Ρ E b.A)(U:Binds b.K t z n)(hd:Vals m n)(Y:pM v b C)(W:PA b (g::e) D)(X:starEach (g::e) b.env=(false,eval g b.env)::starEach e b.env:=by rfl)(S:(backTo d (starEach e b.env)).any (·.1)=false:=by rfl)(V:eval (.Call (.Attribute k i f) (g::e) [] d) b.env=(do
 let L <-eval k b.env
 standAt f.atName
 let (j,first) <-holding [L] (getMethod L i B)
 callWith d j first (backTo d (starEach (g::e) b.env)) (backToKw d (keywordEach [] b.env))):=by rfl):PE b (.Call (.Attribute k i f) (g::e) [] d) (F0 o i p m C y D):=by
 intro G s J H Q I h;refine mO (pl:=B) (eF (P G s J H _ I h) λu s1 x R M T ⟨a,dx,fs,ex,Z,l,q⟩=>?_) V;subst ex;obtain rfl:u=Value.ref a:=T;refine CU M Z c O l ?_;refine iZ (first:=[.ref a]) (h₀:=b.base) I.ok.mod.Yw O.kp (sM (W d G s1 J R _ M q) λus s2 vs H2 N r q2=>⟨N.oK,?_⟩) X S;exact Hf (us:=.ref a::us) (vs:=.ref a::vs) F hr U hd Y N (.cons rfl r) q2
def gq(G:PE b i r)(c:UR b.K m)(E:Meth b.K m f g)(F:ϋ b.prog b.w b.K b.mg b.base p z g o t n)(T:Ρ z b.A)(N:Binds b.K o t k)(M:Vals j k)(P:pM p b y)(O:eval (.Call (.Attribute i f e) [] [] d) b.env=(do
 let D <-eval i b.env
 standAt e.atName
 let (g,first) <-holding [D] (getMethod D f v)
 callWith d g first (backTo d (starEach [] b.env)) (backToKw d (keywordEach [] b.env))):=by rfl):PE b (.Call (.Attribute i f e) [] [] d) (F0 m f n j y r We):=by
 intro B s J H Q I h;refine mO (pl:=v) (eF (G B s J H _ I h) λu X x U C L ⟨a,Y,V,S,R,l,q⟩=>?_) O;subst S;obtain rfl:u=Value.ref a:=L;refine CU C R c E l ?_;exact PySem.W.callWith_K0 (first:=[.ref a]) C.oK E.kp (Hf (us:=[.ref a]) (vs:=[.ref a]) F T N M P C (.cons rfl .nil) q)
section
variable{f C:Addr}
structure Mk(K:hB)(C f:Addr):Prop where
 makes:PySem.W.makesIn K C=true
 init:PySem.W.findIn K (.ref C) "__init__"=some (some (.ref f))
 fn:PySem.W.isFn K (.ref f)=true
 kp:PySem.W.keepIn K (.ref C)=true
end
def OQ{X:Cx}{Q:VK}(M:Mk X.K g p)(F:ϋ X.prog X.w X.K X.mg X.base s t p q k o)(W:Ρ (t+1) X.A)(J:Binds X.K q k c)(G:Vals i c)(P:pM s X n)(I:Inv X d j m b)(r:Vals l a)(h:∀x B,m x=none->m B=none->B≠x->o (.ref x::(l++i)) (upd (upd m B (.own x)) x (.ins g B [])) (λv R=>v=.ο/\Q (.ref x) R) n):wpAny (model X.prog X.w) X.A (call (.ref g) a) (EP X d j Q) X.xe b:=by
 have D:=h (b.heap.objs.size+1) b.heap.objs.size (I.Β.fresh (gB _)) (I.Β.fresh (aJ _)) (aV (fQ _));have z:=Inv.made (C:=g) I;have E:Vals (V.ref (b.heap.objs.size+1)::(l++i)) (Value.ref (b.heap.objs.size+1)::(a++c)):=.cons rfl (r.append G);have L:(Value.ref (b.heap.objs.size+1)::a++c).length=k.length:=by
  have e:=E.length;rw[F.len _ _ _ _ D]at e;exact e.symm
 refine my (PZ (f:=p) I.oK M.makes M.init (kf.mp M.fn) (jv (F.run _ X.stack _ _ ⟨Value.ref (b.heap.objs.size+1)::a,[]⟩ (Value.ref (b.heap.objs.size+1)::(a++c)) _ _ n (W.make g a [])
  (z.YF.make g a []) (J _ (Value.ref (b.heap.objs.size+1)::a) z.oK L) E D) λr N y=>?_))
 cases r with
 | error e=>exact P d j _ _ e N z y
 | ok fl=>
   cases fl with
   | ret u=>
     obtain⟨v,T,S,O,U,H⟩:=z.after y;subst U;exact⟨O,⟨V.ref (b.heap.objs.size+1),T,S,rfl,H⟩⟩
   | next=>exact False.elim y
   | brk=>exact False.elim y
   | cont=>exact False.elim y
def wE{X:Cx}(M:Mk X.K g n)(F:ϋ X.prog X.w X.K X.mg X.base k p n j l i)(G:Ρ (p+1) X.A)(E:Gl X e)(J:X.mg e=some (.ref g))(B:Binds X.K j l f)(hd:Vals d f)(D:pM k X m)(C:PA X (c::a) o)(hdb:(e==("__debug__":Str))=false:=by decide)(x:starEach (c::a) X.env=(false,eval c X.env)::starEach a X.env:=by rfl)(z:(backTo b (starEach a X.env)).any (·.1)=false:=by rfl):PE X (.Call (.Name e t) (c::a) [] b) (Lw g i d m o):=by
 intro u s y H Q I h;refine hW (tS I E J ?_ hdb);refine iZ (h₀:=X.base) I.ok.mod.Yw M.kp (sM (C b u s y H _ I h) λN O P L v r q=>⟨v.oK,?_⟩) x z;exact OQ M F G B hd D v r q
structure ε(N P:hU)(sc:Scope):Prop where
 kind:sc.kind=.function
 co:sc.isCoroutine=false
 gen:sc.isGenerator=false
 nd:N.Nodup
 pre:N.take P.length=P
 par:∀x∈P,sc.names.lookup x=some .local\/sc.names.lookup x=some .cell
 YG:∀y∈sc.names,y.2≠.free
theorem Ft{b:Str->Option NameKind}{x:Str}:∀{a:List (Str×Value)}{m:hP},(∀v,(x,v)∉a)->bindL b a m x=m x
 | [],_,_=>rfl
 | (n,v)::r,m,h=>by
   unfold bindL;rw[Ft λw c=>h w (aI _ c)];split
   .have:x≠n:=(by rintro rfl;exact h v aL);simp[this]
   .rfl
theorem Fo{b:Str->Option NameKind}{x:Str}:∀{a:List (Str×Value)}{m:hP},(∀v,(x,v)∉a)->bindC b a m x=m x
 | [],_,_=>rfl
 | (n,v)::r,m,h=>by
   unfold bindC;rw[Fo λw c=>h w (aI _ c)];split
   .rfl
   .have:x≠n:=(by rintro rfl;exact h v aL);simp[this]
theorem E2{c:Str->Option NameKind} :∀{P:hU}{d:hL}{i:Nat}{m:hP},P.Nodup->P[i]?=some a->d[i]?=some b->c a=some .local->bindL c (P.zip d) m a=some b
 | [],_,_,_,_,h,_,_=>by simp at h
 | _::_,[],_,_,_,_,h,_=>by simp at h
 | p::P,w::d,0,m,nd,h1,h2,hk=>by
   simp at h1 h2;subst h1;subst h2;show bindL c ((p,w)::P.zip d) m p=_;unfold bindL;rw[Ft λb e=>(bD.mp nd).1 (mj e).1,aj hk];simp
 | p::P,w::d,i+1,m,nd,h1,h2,hk=>by
   show bindL c ((p,w)::P.zip d) m a=_;unfold bindL;exact E2 (i:=i) (bD.mp nd).2 (by simpa using h1) (by simpa using h2) hk
theorem ED{c:Str->Option NameKind} :∀{P:hU}{d:hL}{i:Nat}{m:hP},P.Nodup->P[i]?=some a->d[i]?=some b->c a≠some .local->bindC c (P.zip d) m a=some b
 | [],_,_,_,_,h,_,_=>by simp at h
 | _::_,[],_,_,_,_,h,_=>by simp at h
 | p::P,w::d,0,m,nd,h1,h2,hk=>by
   simp at h1 h2;subst h1;subst h2;show bindC c ((p,w)::P.zip d) m p=_;unfold bindC;rw[Fo λb e=>(bD.mp nd).1 (mj e).1,ah hk];simp
 | p::P,w::d,i+1,m,nd,h1,h2,hk=>by
   show bindC c ((p,w)::P.zip d) m a=_;unfold bindC;exact ED (i:=i) (bD.mp nd).2 (by simpa using h1) (by simpa using h2) hk
def start(N:hU)(a:List V):St:=a.map some++List.replicate (N.length-a.length) none
def sH(d:Th)(P:Program)(w:World)(K:hB)(mg:hP)(base:Heap)(N:hU)(b:Str)(a:Scope)(f:Addr)(cd:Value)(A:Around)(outer:List Env)(s:Shared)(H:Hp)(E:XK):Cx where
 prog:=P
 w:=w
 K:=K
 mg:=mg
 base:=base
 A:=A.deeper (envOfC b a s.heap.objs.size f cd)
 N:=N
 s₀:=s
 H₀:=H
 env:=envOfC b a s.heap.objs.size f cd
 outer:=outer
 stack:=envOfC b a s.heap.objs.size f cd::outer
 ex:=[]
 calm:=true
 fn:=λ_=>true
 pn:=[]
 xe:=λe g=>wpAny (model P w) (A.deeper (envOfC b a s.heap.objs.size f cd)) (leaving (envOfC b a s.heap.objs.size f cd) e) (λ_ c=>d outer H s E e c) (λh c=>d outer H s E h c) g
def Bu{b:Scope}(h:b.names.lookup a=some .cell):∃c,(cellsFrom n b.names []).lookup a=some c:=by
 have q:=mn b.names n [] (.inl h);exact gR.mp q
def MD{O:Th}{P:Program}{w:World}{K:hB}{L:hP}{m:Heap}{N B:hU}{j:Str}{d:Scope}{f:Addr}{cd:Value}{A:Around}{g:List Env}{s Q:Shared}{H:Hp}{E:XK}{J:hL}{C:List V}(S:ε N B d)(T:A.handled=none)(o:U3 P w K L m A g s H)(hl:C.length=B.length)(r:Vals C J)(x:InCallC s s.heap.objs.size (bindL (envOfC j d s.heap.objs.size f cd).kindOf (B.zip J) λ_=>none) (cellsFrom (s.heap.objs.size+1) d.names []) (bindC (envOfC j d s.heap.objs.size f cd).kindOf (B.zip J) λ_=>none) Q):Inv (sH O P w K L m N j d f cd A g s H E) [] (start N C) H Q:=by
 have Z:B.length<=N.length:=by have:=congrArg List.length S.pre;rw[bq]at this;lia
 obtain⟨I,Y,rfl,M⟩:=x.done;have t:∀b:Addr,b∉(sH O P w K L m N j d f cd A g s H E).ex:=λb z=>absurd (show b∈([]:hH)from z) (by simp);refine⟨⟨o.mod,S.kind,rfl,rfl,aJ _,λy z c I l=>?_,λy hy=>?_,λy c _ h=>?_,λ_=>T,Around.frames_deeper o.frames,.inr ⟨rfl,rfl⟩,λb z=>absurd z (t b),o.bs,o.V7,λb _ _=>t b,λb z=>absurd z (t b),o.gT,o.WN⟩,rfl,o.bare,Un.kept M,⟨_,x.toInCall.ns,λi y v I l h3=>?_⟩,λy c h=>⟨_,x.cell y c h⟩,o.Β.fresh (aJ _),λy c h=>?_,λp F=>absurd (show p∈([]:hE)from F) (by simp),o.Β.kept M,?_⟩
 .exact name_of_addr x.apart (ee I) (ee l)
 .have hy:d.names.lookup y=some .cell\/d.names.lookup y=some .free:=hy;rcases hy with hy|hy
  .exact Bu hy
  .exact absurd rfl (S.YG _ (ee hy))
 .exact iP (x.above y c (ee h))
 .have G:i<C.length:=by
   unfold start at l;by_cases G:i<C.length
   .exact G
   .rw[dc (by simpa using G)]at l;rw[jc]at l;split at l<;>cases l
  have X:C[i]?=some v:=by
   unfold start at l;rw[eJ (by simpa using G),aN]at l;cases e:C[i]? with
   | none=>rw[e]at l;cases l
   | some a=>rw[e]at l;cases l;rfl
  obtain⟨u,R,U⟩:=r.get X;have F:B[i]?=some y:=by
   rw[<-S.pre,gS (by lia)];exact I
  have D:B.Nodup:=by rw[<-S.pre];exact S.nd.sublist (kZ _ _)
  refine⟨u,U,?_⟩;rcases S.par y (aP F)with k|k
  .exact .inl ⟨k,E2 D F R k⟩
  .obtain⟨c,e⟩:=Bu (n:=s.heap.objs.size+1) k;refine .inr ⟨.inl k,c,e,?_⟩;have q:=x.cell y c e;rw[ED D F R (by show d.names.lookup y≠_;rw[k];decide)]at q;exact q
 .exact o.Β.fresh (iP (x.above y c (ee h)))
 .unfold start;show _=N.length;rw[aH,ag,b8]
  lia
def Qd{G:Th}{P:Program}{w:World}{K:hB}{L:hP}{base:Heap}{k:Nat}{f:Addr}{l d:Str}{g:Arguments}{h:List Stmt}{a:Scope}{dV kV C pm p ct oc:Value}{an od:Option Addr}{Uz:Array (Option Value)}{N M:hU}{O:Sp}(lk:K.lookup f=some ⟨oc,od,.func (PySem.W.fnOf l d g h a dV kV C pm an p ct),Uz⟩)(Vw:PySem.W.codeIn K p d=true)(S:ε N M a)(F:∀j H Q E,O j H Q E->j.length=M.length)(UA:∀(A:Around) (c:List Env) (s:Shared) (H:Hp) (j:List V) (Q:VK) (E:XK),Ρ k (A.deeper (envOfC d a s.heap.objs.size f p))->O j H Q E->∃t,UQ (sH G P w K L base N d a f p A c s H E) h t/\t { nx:=λ_ m=>Q .ο m,rt:=Q } (start N j) H):ϋ P w K L base G (k+1) f (PySem.W.fnOf l d g h a dV kV C pm an p ct) M O:=by
 refine⟨F,λA c s H Z us j Q E X B hb r WT=>?_⟩;have hl:=F _ _ _ _ WT;have KX:K.In s.heap:=B.mod.Yw.keeps λb o e=>(B.bs b o e).1;have Y:s.heap.NoLimit:=B.mod.nolimit.keeps λb o e=>(B.bs b o e).1;have U:∀y∈M.zip us,a.names.lookup y.1=some .local\/(a.names.lookup y.1=some .cell/\((cellsFrom (s.heap.objs.size+1) a.names []).lookup y.1).isSome=true):=λ⟨n,v⟩ hy=>by
  rcases S.par n (mj hy).1 with q|q
  .exact .inl q
  .exact .inr ⟨q,mn _ _ _ (.inl q)⟩
 refine codeAny_call_function X.depth (KX _ _ lk) rfl S.co S.gen rfl (PySem.W.codeRec_of KX Vw) (hb _ _ _ _ ?_);refine wpAny_newFunctionEnv_cells S.kind U λa9 he s1 x=>?_;subst he;refine⟨Y.keeps x.toInCall.keep,codeAny_func ?_⟩;obtain⟨t,ht,hq⟩:=UA A c s H j Q E (X.deeper _) WT;have I:Inv (sH G P w K L base N d a f p A c s H E) [] (start N j) H s1:=MD S X.hd B hl r x;refine da (ht [] s1 (start N j) H _ I hq) (λfl R z=>?_) λe R z=>z;have D:∀{i:St}{m:Hp}{v:V}{u:Value},Inv (sH G P w K L base N d a f p A c s H E) [] i m R->RelV v u->Q v m->CE c P w H s Q u R:=λ{i m v u} J T q=>⟨v,m,J.os,J.bare,J.base,J.Β,T,q⟩
 cases fl with
 | ret u=>
   obtain⟨v,i,m,J,T,q⟩:=z;exact D J T q
 | next=>
   obtain⟨i,m,J,q⟩:=z;exact D (v:=V.ο) (u:=Value.none) J rfl q
 | brk=>
   obtain⟨_,_,_,q⟩:=z;exact False.elim q
 | cont=>
   obtain⟨_,_,_,q⟩:=z;exact False.elim q
def ZE(r:List V->Hp->VK->Prop)(t:TA):TE:=λa H Q=>t a H λc b=>r c b Q
def PN{X:Cx}{x:Str}{p:Pos}{b:Pos}{e:Expr}{c:List Expr}{t:TA}{id:String}{r:List V->Hp->VK->Prop}(z:lh X (.builtin id) r)(o:Gl X x)(A:X.mg x=none)(n:bootBuiltins x=some (.builtin id))(l:PA X (e::c) t)(v:x≠"__name__":=by decide)(d:(x==("__debug__":Str))=false:=by decide)(g:starEach (e::c) X.env=(false,eval e X.env)::starEach c X.env:=by rfl)(j:(backTo b (starEach c X.env)).any (·.1)=false:=by rfl):PE X (.Call (.Name x p) (e::c) [] b) (ZE r t):=by
 intro a s f H Q I h;refine hW (pW I o A n ?_ v d);exact PyProof.Rows.callWith_builtin1 (sM (l b a s f H _ I h) λm w y i q k u=>z a w f i y m Q q k u) g j
def yo(B:lh a (.type i) g)(v:Gl a d)(C:a.mg d=none)(u:bootBuiltins d=some (.type i))(r:PA a (e::b) f)(y:d≠"__name__":=by decide)(l:(d==("__debug__":Str))=false:=by decide)(n:starEach (e::b) a.env=(false,eval e a.env)::starEach b a.env:=by rfl)(p:(backTo c (starEach b a.env)).any (·.1)=false:=by rfl):PE a (.Call (.Name d j) (e::b) [] c) (ZE g f):=by
 intro k s m H Q I h;refine hW (pW I v C u ?_ y l);exact cR (sM (r c k s m H _ I h) λt z A o w q x=>B k z m o A t Q w q x) n p
end L2
namespace HT
open PySem PyProof.Rows
def TN(n d:Nat):Option Int->Nat
 | none=>d
 | some v=>if v<0 then(v+(n:Int)).toNat else min v.toNat n
end HT
namespace L2
open PySem PySem.Spec PyProof.Rows
abbrev TO:=St->Hp->(Option Int->Hp->Prop)->Prop
def PO(X:Cx)(e:Option Expr)(t:TO):Prop:=∀(a:hE)(s:Shared)(b:St)(H:Hp)(Q:Option Int->Hp->Prop),Inv X a b H s->t b H Q->wpAny (model X.prog X.w) X.A (evalPart e X.env) (λu d=>∃o c,Inv X a b c d/\IsPart u o/\Q o c) X.xe s
def Tj:TO:=λ_ H Q=>Q none H
def FY(t:TE):TO:=λa H Q=>t a H λx b=>∃i,x=.int i/\Q (some i) b
def DY:PO a none Tj:=by
 intro b s c H Q I h;rw[evalPart_none];exact bh ⟨none,H,I,.none,h⟩
def Es(h:PE b c a):PO b (some c) (FY a):=by
 intro d s e H Q I l;rw[evalPart_some];refine eF (h d s e H _ I l) λu m x f j g k=>?_;obtain⟨i,rfl,q⟩:=k;obtain⟨t,rfl⟩:=g;exact⟨some i,f,j,.int i t,q⟩
def SlR(X:Cx)(r:V->Option Int->Option Int->Hp->VK->Prop):Prop:=∀(a:hE)(s:Shared)(b:St)(H:Hp)(x:V)(v e d:Value)(lo c:Option Int)(f:Addr)(Q:VK),Inv X a b H s->RelV x v->s.heap.IsSliceOf f e d .none->IsPart e lo->IsPart d c->r x lo c H Q->∃T id,typeLookup (.type T) "__getitem__"=pure (some (.builtin id))/\s.TypeIs v T/\wpAny (model X.prog X.w) X.A (getItem v (.ref f)) (EP X a b Q) X.xe s
def tSl(r:V->Option Int->Option Int->Hp->VK->Prop)(f:TE)(g d:TO):TE:=λa H Q=>f a H λx b=>g a b λl e=>d a e λu c=>r x l u c Q
def Bs{lo:Option Expr}{p:Option Expr}{r:V->Option Int->Option Int->Hp->VK->Prop}(W:SlR a r)(y:PE a e c)(D:PO a lo d)(X:PO a p f):PE a (.Subscript e (.Slice lo p none g) i) (tSl r c d f):=by
 intro j s m H Q I h;refine Subscript_ (eF (y j s m H _ I h) λv S x z O B P=>?_);refine wpAny_Slice (ϕ (D j S m z _ O P) λo L ⟨l,F,R,J,Y⟩=>ϕ (X j L m F _ R Y) λn k ⟨u,t,G,N,C⟩=>?_);rw[evalPart_none];refine bh ?_;have U:Inv a j m t { k with heap:=k.heap.push { cls:=.type "slice",data:=.fields #[o,n,.none] } }:=G.kept (t':=k.toks) λb Z q=>aB _ q;obtain⟨T,id,K,E,M⟩:=W j { k with heap:=k.heap.push { cls:=.type "slice",data:=.fields #[o,n,.none] } } m t x v o n l u k.heap.objs.size Q U B (Heap.IsSliceOf.new ..) J N C;show wpAny (model a.prog a.w) a.A (subscriptTail e (.Slice lo p none g) v (.ref k.heap.objs.size)) (EP a j m Q) a.xe { k with heap:=k.heap.push { cls:=.type "slice",data:=.fields #[o,n,.none] } };exact tail_any (ops:=[.ref k.heap.objs.size,v]) E K M (by with_unfolding_all rfl)
def yY(a:List V)(lo b:Option Int):List V:=(a.drop (HT.TN a.length 0 lo)).take (HT.TN a.length a.length b-HT.TN a.length 0 lo)
def IW(a:List V)(lo b:Option Int):(yY a lo b).length<=a.length:=by
 unfold yY;rw[bq,fP]
 lia
def Vx(n:Nat)(i:Int):Option Nat:=if 0<=i then(if i<n then some i.toNat else none)else if -(n:Int)<=i then some (i+n).toNat else none
def ϳ(b:List a)(i:Int):Option a:=(Vx b.length i).bind λj=>b[j]?
def Kd{i:Int}(h:Vx a i=some b):seqIndex? i a=some b/\b<a/\-(a:Int)<=i/\i<a:=by
 unfold Vx at h;by_cases d:0<=i
 .rw[aj d]at h;by_cases c:i<a
  .rw[aj c]at h;have e:i.toNat=b:=bF h;exact⟨by rw[seqIndex_of d c,e],by lia,by lia,c⟩
  .rw[ah c]at h;cases h
 .rw[ah d]at h;by_cases c:-(a:Int)<=i
  .rw[aj c]at h;have e:(i+a).toNat=b:=bF h;exact⟨by rw[seqIndex_neg (by lia) c,e],by lia,c,by lia⟩
  .rw[ah c]at h;cases h
def zB{i:Int}(h:ϳ a i=some b):∃j,seqIndex? i a.length=some j/\a[j]?=some b/\j<a.length/\-(a.length:Int)<=i/\i<a.length:=by
 unfold ϳ at h;cases e:Vx a.length i with
 | none=>rw[e]at h;cases h
 | some j=>
   rw[e]at h;obtain⟨f,c,d,g⟩:=Kd e;exact⟨j,f,h,c,d,g⟩
def Jn{b:Type}{a:List b}{j:Nat}{v:b}(h:a[j]?=some v):ϳ a (j:Int)=some v:=by
 have c:j<a.length:=(ax.mp h).1;have e:Vx a.length (j:Int)=some j:=by
  unfold Vx;rw[aj (by lia),aj (by lia)];simp
 unfold ϳ;rw[e];exact h
def A9(b:List a)(v:a):ϳ (b++[v]) (-1)=some v:=by
 have c:(b++[v]).length=b.length+1:=by simp
 have e:Vx (b++[v]).length (-1)=some b.length:=by
  unfold Vx;rw[c,ah (by decide),aj (by lia)]
  congr 1
  lia
 unfold ϳ;rw[e];show(b++[v])[b.length]?=some v;simp
def Ju(b:Expr):Prop:=∀o i,subscripted b false o i=operate [o,i] (getItem o i)
def Xk(X:Cx)(r:R2):Prop:=∀(c a:Expr)(b:hE)(s:Shared)(d:St)(H:Hp)(x y:V)(v u:Value)(Q:VK),Inv X b d H s->RelV x v->RelV y u->r x y H Q->subscripted a false v u=operate [v,u] (getItem v u)->wpAny (model X.prog X.w) X.A (subscriptTail c a v u) (EP X b d Q) X.xe s
def MtR(X:Cx)(id:String)(r:V->List V->Hp->VK->Prop):Prop:=∀(a:hE)(s:Shared)(b:St)(H:Hp)(x:V)(d:List V)(v:Value)(c:hL)(Q:VK),Inv X a b H s->RelV x v->Vals d c->r x d H Q->wpAny (model X.prog X.w) X.A (call (.builtin id) (v::c)) (EP X a b Q) X.xe s
def jT(w:Xk b g)(m:PE b c d)(l:PE b a e)(p:Ju a):PE b (.Subscript c a f) (Xj g d e):=by
 intro i s j H Q I h;exact Subscript_ (NT m l I h λv u r x y o t k n q=>w c a i r j o x y v u Q t k n q (p _ _))
def DI(K:hB):R2:=λx y H Q=>∃p a i v,x=.ref p/\y=.int i/\ι K H p a/\ϳ a i=some v/\Q v H
def Kh(K:hB):R2:=λx y H Q=>∃p a i v,x=.ref p/\y=.int i/\Α K H p a/\ϳ a i=some v/\Q v H
def aaf:R2:=λx y H Q=>∃z i c,x=.str z/\y=.int i/\z.length<=sizeLine/\ϳ z.cps.toList i=some c/\Q (.str ⟨#[c]⟩) H
section
variable{X:Cx}
def bu:Xk X (DI X.K):=by
 intro d e a s k H x y v u Q I A F h l;obtain⟨p,N,i,z,rfl,rfl,B,o,q⟩:=h;cases A;obtain⟨t,rfl⟩:=F;obtain⟨g,r,f,M⟩:=I.list B;obtain⟨j,c,C,O,G,L⟩:=zB o;obtain⟨w,n,J⟩:=r.get C;have D:=r.length;have hn:=qN;have b:EP X a k Q w s:=⟨z,H,I,J,q⟩;by_cases m:0<=i
 .have hj:i.toNat=j:=by
   rw[seqIndex_of m L]at c;exact bF c
  exact item_listR f.isList m (by lia) (by rw[hj];simpa using n) b l
 .have hj:(i+(g.toArray.size:Int)).toNat=j:=by
   rw[seqIndex_neg (by lia) G]at c;rw[aR,<-D];exact bF c
  exact subscriptTail_builtinR (x:=w) f.isList.typeIs slot_list_getitem.lookup
   (wpAny_getItem_list_neg (Q:=λr E=>r=w/\EP X a k Q r E) f.isList (by lia) (by rw[aR]<;>lia) (by lia) (by rw[hj];simpa using n) ⟨rfl,b⟩) l
end
section
variable{X:Cx}
def eM:Xk X (Kh X.K):=by
 intro b c a s e H x y v u Q I k A h B;obtain⟨p,J,i,z,rfl,rfl,l,g,q⟩:=h;cases k;obtain⟨t,rfl⟩:=A;obtain⟨C,r,f,G⟩:=I.tuple l;obtain⟨j,F,m,L,M,N⟩:=zB g;obtain⟨w,D,E⟩:=r.get m;have n:=r.length;have hn:=qN;have d:EP X a e Q w s:=⟨z,H,I,E,q⟩;exact subscriptTail_builtinR (x:=w) f.typeIs slot_tuple_getitem.lookup
  (getItem_tuple (j:=j) (Q:=λr o=>r=w/\EP X a e Q r o) f (by lia) (by lia) (by rw[aR,<-n];exact F) (by simpa using D) ⟨rfl,d⟩) B
end
section
variable{X:Cx}
def RQ:Xk X aaf:=by
 intro a b d s A H x y v u Q I g m h o;obtain⟨z,i,c,rfl,rfl,B,f,q⟩:=h;obtain⟨t,rfl⟩:=g;obtain⟨D,rfl⟩:=m;obtain⟨j,e,k,C,p,w⟩:=zB f;have l:z.cps.toList.length=z.length:=by simp[Str.length]
 rw[l]at e p w;have E:=qN;exact tail_any (typeIs_str s z t) slot_str_getitem.lookup (getItem_str (c:=c) (by
  have n:decide (i < -(2^63:Int))=false:=bM (by lia);have r:decide (i ≥ 2^63)=false:=bM (by lia);rw[n,r,nX]) (by rw[e];simpa using k) ⟨.str ⟨#[c]⟩,H,I.tok _,⟨_,rfl⟩,q⟩) o
end
def Kk(a:hL)(n j:Nat)(u:Value):Obj.mapSeq (·.setIfInBounds j u) { cls:=.type "list",data:=.seq a.toArray n }={ cls:=.type "list",data:=.seq (a.set j u).toArray n }:=by
 simp[Obj.mapSeq]
def Inv.lst(I:Inv i c g d f)(h:d b=some (.lst a)):∃(j:hL)(n:Nat),Vals a j/\f.heap.get? b=some { cls:=.type "list",data:=.seq j.toArray n }/\a.length<=sizeLine:=by
 obtain⟨z,j,n,r,e⟩:=I.Β b _ h;exact⟨j,n,r,e,z⟩
def Inv.YH{p o:hL}(I:Inv l d k j c)(h:j a=some (.lst n))(w:c.heap.get? a=some { cls:=.type "list",data:=.seq p.toArray m })(s:i { cls:=.type "list",data:=.seq p.toArray m }={ cls:=.type "list",data:=.seq o.toArray g })(r:Vals f o)(y:f.length<=sizeLine)(t:Nat):Inv l d k (upd j a (.lst f)) { c with heap:=c.heap.update a i,toks:=t }:=by
 have e:(c.heap.update a i).get? a=some { cls:=.type "list",data:=.seq o.toArray g }:=by
  rw[fH i w (by rw[s]<;>rfl),s]
 refine I.write (x:=a) (e:=a) (by rw[h];trivial) (.inl rfl) (λb u v q=>(dR _ _ (Ne.symm v)).trans q) ⟨_,e⟩ ?_;exact⟨y,o,g,r,e⟩
def Wf:V->V->V->Hp->(Hp->Prop)->Prop:=λo i v H Q=>∃p a k j,o=.ref p/\i=.int k/\H p=some (.lst a)/\Vx a.length k=some j/\Q (upd H p (.lst (a.set j v)))
def gJ:NG a Wf:=by
 intro b s y H o i v F K u Q I z C B h;obtain⟨p,E,k,j,rfl,rfl,m,A,q⟩:=h;cases z;obtain⟨t,rfl⟩:=C;obtain⟨c,n,r,f,D⟩:=I.lst m;obtain⟨d,G,l,w⟩:=Kd A;have e:=r.length;have J:=qN;have g:Inv a b y (upd H p (.lst (E.set j v))) { s with heap:=s.heap.update p (Obj.mapSeq (·.setIfInBounds j u)) }:=I.YH m f (Kk c n j u) (r.set B j) (by rw[bN];exact D) s.toks
 by_cases x:0<=k
 .have hk:k.toNat=j:=by
   rw[seqIndex_of x w]at d;exact bF d
  exact PySem.W.ki_setAt f x (by lia) (by rw[aR,<-e];exact w) (by rw[hk];exact⟨_,g,q⟩)
 .have hk:(k+(c.toArray.size:Int)).toNat=j:=by
   rw[seqIndex_neg (by lia) l]at d;rw[aR,<-e];exact bF d
  exact PySem.W.ki_setBack f (by lia) (by rw[aR,<-e];exact l) (by lia) (by rw[hk];exact⟨_,g,q⟩)
def Ga(lo a:Option Int)(n:Nat):(sliceBounds lo a none n).1=((HT.TN n 0 lo:Nat):Int)/\(sliceBounds lo a none n).2.1=((HT.TN n n a:Nat):Int)/\(sliceBounds lo a none n).2.2=1:=by
 refine⟨?_,?_,rfl⟩
 .cases lo with
  | none=>simp[sliceBounds,HT.TN]
  | some i=>
    simp only[sliceBounds,HT.TN,Option.getD_none,show(1:Int)>0 by decide,if_true];by_cases h:i<0
    .simp only[h,if_true]<;>lia
    .simp only[h,if_false]<;>lia
 .cases a with
  | none=>simp[sliceBounds,HT.TN]
  | some i=>
    simp only[sliceBounds,HT.TN,Option.getD_none,show(1:Int)>0 by decide,if_true];by_cases h:i<0
    .simp only[h,if_true]<;>lia
    .simp only[h,if_false]<;>lia
def FM(a:hL)(lo b:Option Int):slicePick a.toArray lo b none=((a.drop (HT.TN a.length 0 lo)).take (HT.TN a.length a.length b-HT.TN a.length 0 lo)).toArray:=by
 obtain⟨e,c,d⟩:=Ga lo b a.toArray.size;unfold slicePick;rw[e,c,d];simp only[sliceRange_one,pick_run,aR]<;>rfl
def RD(K:hB):V->Option Int->Option Int->Hp->VK->Prop:=λx lo c H Q=>∃a b,x=.ref a/\ι K H a b/\∀p,H p=none->Q (.ref p) (upd H p (.lst (yY b lo c)))
def Ea:SlR c (RD c.K):=by
 intro g s u H x v A w lo f z Q I j n m p h;obtain⟨a,d,rfl,k,q⟩:=h;cases j;obtain⟨t,r,i,l⟩:=I.list k;have e:=r.length;refine⟨"list",_,slot_list_getitem.lookup,i.isList.typeIs,?_⟩;refine wpAny_getItem_list_slice i.isList n m p .none (by simp) ?_ (by rw[aR]<;>lia);rw[FM,<-e];refine⟨.ref s.heap.objs.size,_,I.laid (t':=s.toks) (o:=.lst (yY d lo f)) (λb y q=>aB _ q) (aJ _) ?_,rfl,q _ (I.Β.fresh (aJ _))⟩;exact⟨aW (IW d lo f) l,_,0,(r.drop (HT.TN d.length 0 lo)).take (HT.TN d.length d.length f-HT.TN d.length 0 lo),bc _ rfl⟩
def tz:V->Bool
 | .ο=>true
 | .bl _=>true
 | .int _=>true
 | .str _=>true
 | _=>false
def WU:V->V->Bool
 | .ο,.ο=>true
 | .bl a,.bl b=>a==b
 | .bl a,.int b=>(if a then 1 else 0)==b
 | .int a,.bl b=>a==(if b then 1 else 0)
 | .int a,.int b=>a==b
 | .str a,.str b=>a==b
 | _,_=>false
def RP(k:RelV d e)(i:RelV c f)(m:tz d=true)(l:tz c=true):SeqAt.EqAt g h e f (WU d c):=by
 cases d with
 | ο=>
   cases k;cases c with
   | ο=>cases i;exact SeqAt.EqAt.same _
   | bl b=>cases i;exact SeqAt.EqAt.none_bool b
   | int b=>obtain⟨t,rfl⟩:=i;exact SeqAt.EqAt.none_int b t
   | str b=>obtain⟨t,rfl⟩:=i;exact SeqAt.EqAt.none_str b t
   | _=>exact absurd (show false=true from l) bj
 | bl a=>
   cases k;cases c with
   | ο=>cases i;exact SeqAt.EqAt.bool_none a
   | bl b=>cases i;exact SeqAt.EqAt.bool_bool a b
   | int b=>obtain⟨t,rfl⟩:=i;exact SeqAt.EqAt.bool_int a b t
   | str b=>obtain⟨t,rfl⟩:=i;exact SeqAt.EqAt.bool_str a b t
   | _=>exact absurd (show false=true from l) bj
 | int a=>
   obtain⟨j,rfl⟩:=k;cases c with
   | ο=>cases i;exact SeqAt.EqAt.int_none a j
   | bl b=>cases i;exact SeqAt.EqAt.int_bool a j b
   | int b=>obtain⟨t,rfl⟩:=i;exact SeqAt.EqAt.int_int a j b t
   | str b=>obtain⟨t,rfl⟩:=i;exact SeqAt.EqAt.int_str a j b t
   | _=>exact absurd (show false=true from l) bj
 | str a=>
   obtain⟨j,rfl⟩:=k;cases c with
   | ο=>cases i;exact SeqAt.EqAt.str_none a j
   | bl b=>cases i;exact SeqAt.EqAt.str_bool a j b
   | int b=>obtain⟨t,rfl⟩:=i;exact SeqAt.EqAt.str_int a j b t
   | str b=>obtain⟨t,rfl⟩:=i;exact SeqAt.EqAt.str_str a j b t
   | _=>exact absurd (show false=true from l) bj
 | _=>exact absurd (show false=true from m) bj
def Xm(x:V)(u:Value):Bool:=match u with
 | .none=>WU .ο x
 | .bool a=>WU (.bl a) x
 | .int i _=>WU (.int i) x
 | .str z _=>WU (.str z) x
 | _=>false
def Nu(r:RelV a c)(f:tz a=true):Xm d c=WU a d:=by
 cases a with
 | ο=>cases r;rfl
 | bl b=>cases r;rfl
 | int i=>obtain⟨t,rfl⟩:=r;rfl
 | str z=>obtain⟨t,rfl⟩:=r;rfl
 | _=>exact absurd (show false=true from f) bj
theorem Eh :∀{b:List V}{c:hL},Vals b c->b.all tz=true->c.any (Xm a)=b.any λy=>WU y a
 | _,_,.nil,_=>rfl
 | y::b,u::c,.cons r t,f=>by
   rw[nZ,bG]at f;rw[iT,iT,Nu r f.1,Eh t f.2]
theorem BP(h:RelV a b)(i:tz a=true):∀{g:List V}{e:hL},Vals g e->g.all tz=true->∀u∈e,SeqAt.EqAt c d u b (Xm a u)
 | _,_,.nil,_=>λu hu=>by cases hu
 | y::g,u::e,.cons r t,f=>λj hu=>by
   rw[nZ,bG]at f;rcases aE.mp hu with rfl|hu
   .rw[Nu r f.1];exact RP r h f.1 i
   .exact BP h i t f.2 j hu
def Xn(x:V)(a:List V):Bool:=a.any λy=>WU y x
def rIn(K:hB)(b:Bool):R2:=λx y H Q=>∃p a,y=.ref p/\(ι K H p a\/Α K H p a)/\tz x=true/\a.all tz=true/\Q (.bl (if b then !Xn x a else Xn x a)) H
def y8:bY a (compareOp .In) (rIn a.K false):=by
 intro e s i H x y v u Q I d g h;obtain⟨p,j,rfl,hq,f,b,q⟩:=h;cases g;rcases hq with hq|hq
 .obtain⟨its,r,pl,hz⟩:=I.list hq;refine SeqAt.in_listAt (Xm x) pl.isList (λw c=>BP d f r b w (by simpa using c)) ⟨.bl _,H,I,rfl,?_⟩;rw[show its.toArray.any (Xm x)=its.any (Xm x) by simp,Eh r b];exact q
 .obtain⟨its,r,pl,hz⟩:=I.tuple hq;refine SeqAt.in_tupleAt (Xm x) pl (λw c=>BP d f r b w (by simpa using c)) ⟨.bl _,H,I,rfl,?_⟩;rw[show its.toArray.any (Xm x)=its.any (Xm x) by simp,Eh r b];exact q
def gN:lh a (.builtin "len") (λe H Q=>∃p c,e=[.ref p]/\(ι a.K H p c\/Α a.K H p c)/\Q (.int c.length) H):=by
 intro d s g H e i Q I r h;obtain⟨p,c,rfl,hq,q⟩:=h;obtain⟨u,rfl,f⟩:=oF r;cases f;have hn:=qN;rcases hq with hq|hq
 .obtain⟨its,r',pl,hz⟩:=I.list hq;have b:=r'.length;exact Calls.call_len_list pl.isList (by simp only[aR]<;>lia) ⟨.int c.length,H,I.tok _,⟨s.toks+1,by rw[aR,b]⟩,q⟩
 .obtain⟨its,r',pl,hz⟩:=I.tuple hq;have b:=r'.length;exact len_tuple pl (by simp only[aR]<;>lia) ⟨.int c.length,H,I.tok _,⟨s.toks+1,by rw[aR,b]⟩,q⟩
def Hw:lh a (.builtin "len") (λc H Q=>∃z,c=[.str z]/\z.length<=sizeLine/\Q (.int z.length) H):=by
 intro b s d H c f Q I r h;obtain⟨z,rfl,g,q⟩:=h;obtain⟨u,rfl,t,rfl⟩:=oF r;have e:=qN;exact len_str (by lia) ⟨.int z.length,H,I.tok _,⟨_,rfl⟩,q⟩
def jP:lh a (.type "list") (λB H Q=>∃p f,B=[.ref p]/\(ι a.K H p f\/Α a.K H p f)/\∀l,H l=none->Q (.ref l) (upd H l (.lst f))):=by
 intro j s C H B E Q I r h;obtain⟨p,f,rfl,hq,q⟩:=h;obtain⟨u,rfl,D⟩:=oF r;cases D;have v:∀(c:hL),Vals f c->f.length<=sizeLine->∀(d:Heap)(i:Nat),(∀b A,s.heap.get? b=some A->d.get? b=some A)->d.get? s.heap.objs.size=some { cls:=.type "list",dict:=none,data:=.seq c.toArray i,slots:=#[] }->EP a j C Q (.ref s.heap.objs.size) { s with heap:=d }:=λc g m d i t e=>
  ⟨.ref s.heap.objs.size,_,I.laid (t':=s.toks) t (aJ _) (show Μ a.prog a.w _ d _ (.lst f)from⟨m,c,i,g,e⟩),rfl,q _ (I.Β.fresh (aJ _))⟩
 rcases hq with hq|hq
 .obtain⟨c,g,pl,m⟩:=I.list hq;have k:=g.length;obtain⟨o,y,z,n,x⟩:=pl.isList;exact call_list_seq p (.inl rfl) y z x (λd i t e=>v c g m d i t e) (by simp only[aR]<;>lia)
 .obtain⟨c,g,pl,m⟩:=I.tuple hq;have k:=g.length;obtain⟨o,y,z,n,x⟩:=pl;exact call_list_seq p (.inr rfl) y z x (λd i t e=>v c g m d i t e) (by simp only[aR]<;>lia)
def gi:lh a (.type "tuple") (λj H Q=>∃p d,j=[.ref p]/\((ι a.K H p d/\∀l,H l=none->Q (.ref l) (upd H l (.tup d)))\/(Α a.K H p d/\Q (.ref p) H))):=by
 intro c s g H j v Q I r h;obtain⟨p,d,rfl,h⟩:=h;obtain⟨u,rfl,m⟩:=oF r;cases m;rcases h with⟨hq,q⟩|⟨hq,q⟩
 .obtain⟨its,r',pl,hz⟩:=I.list hq;have i:=r'.length;refine call_tuple_list pl.isList (λf n=>?_) (by simp only[aR]<;>lia);have k:Inv a c g H { s with heap:=f }:=I.kept (t':=s.toks) n;have t:Inv a c g (upd H f.objs.size (.tup d)) { s with heap:=f.push { cls:=.type "tuple",data:=.seq its.toArray } }:=k.laid (t':=s.toks) (λb o e=>aB _ e) (aJ _) (show Μ a.prog a.w _ _ _ (.tup d)from⟨hz,its,r',IsTup.new _ _⟩)
  exact⟨.ref f.objs.size,_,t,rfl,q _ (k.Β.fresh (aJ _))⟩
 .obtain⟨its,r',pl,hz⟩:=I.tuple hq;exact call_tuple_same pl ⟨.ref p,H,I,rfl,q⟩
def VW(K:hB)(T:String)(x:V)(H:Hp):Prop:=match x with
 | .str _=>T="str"
 | .int _=>T="int"
 | .ref p=>(T="list"/\∃b,ι K H p b)\/(T="tuple"/\∃o,K.lookup p=some o/\o.cls=.type "tuple"/\o.dict=none)\/(T="dict"/\((∃a,H p=some (.dK a))\/∃a,H p=some (.dT a)))\/(T="set"/\∃S n,H p=some (.set S n))
 | _=>False
def Mj(I:Inv k h l j b)(r:RelV f g)(q:VW k.K d f j):b.TypeIs g d/\∀a,g=.ref a->∃v,b.heap.get? a=some v/\v.dict=none:=by
 cases f with
 | str z=>
   obtain⟨t,rfl⟩:=r;cases(show d="str" from q);exact⟨typeIs_str b z t,λ_ e=>nomatch e⟩
 | int i=>
   obtain⟨t,rfl⟩:=r;cases(show d="int" from q);exact⟨typeIs_int b i t,λ_ e=>nomatch e⟩
 | ref p=>
   cases r;rcases q with⟨rfl,xs,hq⟩|⟨rfl,o,hk,hc,s⟩|⟨rfl,hk⟩|⟨rfl,S,n,hk⟩
   .obtain⟨its,_,pl,_⟩:=I.list hq;refine⟨pl.isList.typeIs,λa e=>?_⟩;cases e;obtain⟨o,n,e,c,s,_⟩:=pl;exact⟨o,e,s⟩
   .refine⟨⟨o,I.oK p o hk,hc⟩,λa e=>?_⟩;cases e;exact⟨o,I.oK _ o hk,s⟩
   .have z:∃o,b.heap.get? p=some o/\o.ExactDict:=by
     rcases hk with⟨ρ,hk⟩|⟨ρ,hk⟩
     .obtain⟨_,_,_,_,o,_,_,e,m,_⟩:=I.Β p _ hk;exact⟨o,e,m⟩
     .obtain⟨_,_,_,_,o,_,_,e,m,_⟩:=I.Β p _ hk;exact⟨o,e,m⟩
    obtain⟨o,e,m⟩:=z;refine⟨⟨o,e,m.1⟩,λa u=>?_⟩;cases u;exact⟨o,e,m.2.1⟩
   .obtain⟨o,_,_,_,e,m,_⟩:=I.Β p _ hk;refine⟨⟨o,e,m.1⟩,λa u=>?_⟩;cases u;exact⟨o,e,m.2.1⟩
 | _=>exact False.elim q
def Oq(K:hB)(T:String)(r:V->List V->Hp->VK->Prop)(c:TE):TE:=λb H Q=>c b H λx a=>VW K T x a/\r x [] a Q
def tBM(K:hB)(T:String)(r:V->List V->Hp->VK->Prop)(d:TE)(t:TA):TE:=λa H Q=>d a H λx b=>VW K T x b/\t a b λe c=>r x e c Q
def yO{X:Cx}{o:Expr}{k:TE}{a:Str}{c:Pos}{j:Pos}{T:String}{id:String}{r:V->List V->Hp->VK->Prop}(u:PlainAttrs T)(e:Slot T a id)(f:typeOf (.builtin id)=pure (.type "method_descriptor"))(A:MtR X id r)(p:PE X o k)(t:attributeBase o a X.env (eval o X.env)=eval o X.env:=by rfl)(d:(c.endLine==j.line)=true:=by rfl):PE X (.Call (.Attribute o a c) [] [] j) (Oq X.K T r k):=by
 intro b s g H Q I h;refine wpAny_Call_method0_late t d (eF (p b s g H _ I h) λv y x m l i ⟨q,w⟩=>?_);obtain⟨z,n⟩:=Mj l i q;exact⟨T,id,u,e,f,z,n,jC rfl (PySem.evalArgs_none (A b y g m x [] v [] Q l i .nil w))⟩
def sZ{X:Cx}{o:Expr}{e:Expr}{d:List Expr}{m:TE}{t:TA}{b:Str}{c:Pos}{f:Pos}{T:String}{id:String}{r:V->List V->Hp->VK->Prop}(J:PlainAttrs T)(i:Slot T b id)(k:typeOf (.builtin id)=pure (.type "method_descriptor"))(U:MtR X id r)(y:PE X o m)(z:PA X (e::d) t)(G:attributeBase o b X.env (eval o X.env)=eval o X.env:=by rfl)(q:((backTo f (starEach (e::d) X.env)).all (λx=>!x.1)&&(backToKw f (keywordEach [] X.env)).all (λx=>x.1.isSome)
 && decide ((e::d).length+([]:List Keyword).length+(if([]:List Keyword).isEmpty then 0 else 1)<30))=true:=by rfl)(g:(c.endLine==f.line)=true:=by rfl)(D:starEach (e::d) X.env=(false,eval e X.env)::starEach d X.env:=by rfl)(B:(backTo f (starEach d X.env)).any (·.1)=false:=by rfl):PE X (.Call (.Attribute o b c) (e::d) [] f) (tBM X.K T r m t):=by
 intro a s j H Q I h;refine wpAny_Call_method_late G q g rfl (eF (y a s j H _ I h) λv O x u p l ⟨E,L⟩=>?_);obtain⟨R,w⟩:=Mj p l E;refine⟨T,id,J,i,k,R,w,?_⟩;have n:=z f a O j u _ p L;rw[D]at n ⊢;refine jC (by show(false||(backTo f (starEach d X.env)).any (·.1))=false;rw[B]<;>rfl) (jX ?_);exact ϕ n λA F ⟨P,C,N,M,S⟩=>U a F j C x P v A Q N l M S
def YL(X:Cx)(id:String)(r:V->List V->Hp->VK->Prop):Prop:=∀(a:hE)(s:Shared)(b:St)(H:Hp)(x:V)(d:List V)(v:Value)(c:hL)(Q:VK),Inv X a b H s->RelV x v->Vals d c->r x d H Q->wpAny (model X.prog X.w) X.A (call (.builtin id) (v::c)) (EP X a b Q) X.xe s
def Vals.one(h:Vals [b] a):∃u,a=[u]/\RelV b u:=by
 cases h with
 | cons r t=>cases t;exact⟨_,rfl,r⟩
def Vals.two(h:Vals [b,c] a):∃u v,a=[u,v]/\RelV b u/\RelV c v:=by
 cases h with
 | cons r t=>
   obtain⟨v,e,q⟩:=Vals.one t;subst e;exact⟨_,v,rfl,r,q⟩
def Vals.zero:∀{a:hL},Vals [] a->a=[]
 | _,.nil=>rfl
def Vals.dropLast(h:Vals a b):Vals a.dropLast b.dropLast:=by
 induction h with
 | nil=>exact .nil
 | cons r t ih=>
   cases t with
   | nil=>exact .nil
   | cons q t'=>exact .cons r ih
def Vals.reverse(h:Vals a b):Vals a.reverse b.reverse:=by
 induction h with
 | nil=>exact .nil
 | cons r t ih=>rw[fC,fC];exact Vals.append ih (.cons r .nil)
theorem Vals.rep(h:Vals b a):∀k:Nat,Vals (List.replicate k b).flatten (List.replicate k a).flatten
 | 0=>.nil
 | k+1=>by
   rw[dF,dF,gF,gF];exact Vals.append h (Vals.rep h k)
def K3(l:List c):l.eraseIdx (l.length-1)=l.dropLast:=by
 induction l with
 | nil=>rfl
 | cons a r ih=>
   cases r with
   | nil=>rfl
   | cons b r=>
     have e:(a::b::r).length-1=((b::r).length-1)+1:=by
      have d:(a::b::r).length=r.length+2:=rfl;have f:(b::r).length=r.length+1:=rfl
      lia
     rw[e,List.eraseIdx_cons_succ,ih]
     all_goals rfl
theorem Fn(a:hL):∀(k:Nat)(b:hL),List.foldl (λc d=>c++d) b.toArray (List.replicate k a.toArray)=(b++(List.replicate k a).flatten).toArray
 | 0,b=>by simp
 | k+1,b=>by
   have e:b.toArray++a.toArray=(b++a).toArray:=by simp
   have f:(b++a)++(List.replicate k a).flatten=b++(List.replicate (k+1) a).flatten:=by
    rw[dF,gF,ci]
   rw[<-f,<-Fn a k (b++a),<-e,dF,iX]
def Inv.YM{l its':hL}{f:Array Value->Array Value}{p:Nat}(I:Inv i c h g b)(t:g a=some (.lst j))(e:b.heap.get? a=some { cls:=.type "list",data:=.seq l.toArray k })(o:f l.toArray=its'.toArray)(m:Vals d its')(r:d.length<=sizeLine):Inv i c h (upd g a (.lst d)) { b with heap:=b.heap.update a (Obj.mapSeq f),toks:=p }:=by
 have q:=PySem.IsL.update e f;rw[o]at q;refine I.write (x:=a) (e:=a) (by rw[t];exact trivial) (.inl rfl) (λv u n s=>(dR b.heap (Obj.mapSeq f) (Ne.symm n)).trans s) ⟨_,q⟩ ?_;exact⟨r,its',_,m,q⟩
def Inv.aag{t':Nat}(I:Inv g b e f d)(h:Vals c a)(i:c.length<=sizeLine):Inv g b e (upd f d.heap.objs.size (.lst c)) { d with heap:=d.heap.push { cls:=.type "list",data:=.seq a.toArray },toks:=t' }:=I.laid (λ_ _ q=>aB _ q) (aJ _) ⟨i,a,0,h,bc _ rfl⟩
def Inv.fresh(I:Inv e a d b c):b c.heap.objs.size=none:=I.Β.fresh (aJ _)
def Inv.U4(I:Inv h c g d f)(j:d b=some (.lst a)):a.length<=sizeLine/\∃(i:hL)(n:Nat),Vals a i/\a.length=i.length/\f.heap.get? b=some { cls:=.type "list",data:=.seq i.toArray n }:=by
 obtain⟨z,i,n,r,e⟩:=I.Β b _ j;exact⟨z,i,n,r,r.length,e⟩
def Pp{n:Nat}(h:n<=sizeLine):Builtin.List.listTooLong n=false:=by
 unfold Builtin.List.listTooLong;exact bM (by lia)
def rW:V->List V->Hp->VK->Prop:=λx b H Q=>∃l a y,x=.ref l/\b=[y]/\H l=some (.lst a)/\a.length<sizeLine/\Q .ο (upd H l (.lst (a++[y])))
def yc:YL a "list.append" rW:=by
 intro c s j H x t v m Q I f g h;obtain⟨l,p,y,rfl,rfl,d,o,q⟩:=h;cases f;obtain⟨u,rfl,i⟩:=g.one;obtain⟨z,b,n,r,k,e⟩:=I.U4 d;refine call_meets F.slot_list_append ⟨_,e,rfl⟩ F.entry_list_append (F.args_list_append_2 _ _) (PySem.list_append l b.toArray n u (by rw[aR];lia)) ⟨e,?_⟩;refine⟨.ο,_,I.YM (its':=b++[u]) d e (by simp) (r.append (.cons i .nil)) ?_,rfl,q⟩;rw[aH,gj]
 lia
def YN:V->List V->Hp->VK->Prop:=λx b H Q=>∃l a y,x=.ref l/\b=[]/\H l=some (.lst a)/\a[a.length-1]?=some y/\Q y (upd H l (.lst a.dropLast))
def zc:YL a "list.pop" YN:=by
 intro f s t H x B v w Q I i m h;obtain⟨l,A,y,rfl,rfl,g,k,q⟩:=h;cases i;have c:=m.zero;subst c;obtain⟨z,b,n,r,j,e⟩:=I.U4 g;obtain⟨u,p,o⟩:=r.get k;have d:b.toArray[b.toArray.size-1]?=some u:=by
  show b.toArray[b.length-1]?=some u;rw[<-j0,<-j];exact p
 refine call_meets F.slot_list_pop ⟨_,e,rfl⟩ F.entry_list_pop (F.args_list_pop_1 _) (MeetsSeq.list_pop_last l b.toArray n u d (by rw[aR];lia)) ⟨e,?_⟩;refine⟨y,_,I.YM (its':=b.dropLast) g e ?_ r.dropLast ?_,o,q⟩
 .show b.toArray.eraseIdxIfInBounds (b.toArray.size-1)=b.dropLast.toArray;rw[aR,List.eraseIdxIfInBounds_toArray,K3]
 .rw[List.length_dropLast]
  lia
def YQ:R2:=λx y H Q=>∃l b c a,x=.ref l/\y=.ref b/\H l=some (.lst c)/\H b=some (.lst a)/\c.length+a.length<=sizeLine/\∀p,H p=none->Q (.ref p) (upd H p (.lst (c++a)))
def Il:bY a (binaryOp .Add) YQ:=by
 intro f s w H x y v u Q I g j h;obtain⟨l,b,E,A,rfl,rfl,t,p,D,q⟩:=h;cases g;cases j;obtain⟨z,d,n,r,B,e⟩:=I.U4 t;obtain⟨C,c,F,o,i,m⟩:=I.U4 p;refine PySem.P.add_list e m ?_ (by rw[aR,aR];lia);have k:d.toArray++c.toArray=(d++c).toArray:=by simp
 rw[k];exact⟨.ref _,_,I.aag (t':=s.toks) (r.append o) (by rw[aH];lia),rfl,q _ I.fresh⟩
def aai:R2:=λx y H Q=>∃l k a,x=.ref l/\y=.int k/\H l=some (.lst a)/\-(2^63)<=k/\k<2^63/\a.length*k.toNat<=sizeLine/\∀p,H p=none->Q (.ref p) (upd H p (.lst (List.replicate k.toNat a).flatten))
def QC(b:List a)(k:Nat):(List.replicate k b).flatten.length=k*b.length:=by
 induction k with
 | zero=>simp
 | succ k ih=>rw[dF,gF,aH,ih,Nat.succ_mul,Nat.add_comm]
def oU:bY b (binaryOp .Mult) aai:=by
 intro w s M H x y v u Q I B G h;obtain⟨l,k,N,rfl,rfl,L,K,C,A,q⟩:=h;cases B;obtain⟨t,rfl⟩:=G;obtain⟨z,c,n,r,D,e⟩:=I.U4 L;have d:c.toArray.size*k.toNat<=sizeLine:=by rw[aR,<-D];exact A
 have j:¬c.toArray.size*k.toNat>(2^63-1)/8:=by
  have:(sizeLine:Nat)<=(2^63-1)/8:=by decide
  lia
 have i:¬(!Builtin.List.listFitsIndex k)=true:=by
  rw[fitsIndex_both K C];exact bj
 have o:¬Builtin.List.listTooLong (c.toArray.size*k.toNat)=true:=by
  rw[Pp d];exact bj
 have g:List.foldl (λf p=>f++p) #[] (List.replicate (if c.toArray.isEmpty=true then 0 else k.toNat) c.toArray)=(List.replicate k.toNat c).flatten.toArray:=by
  have J:∀m:Nat,List.foldl (λf p=>f++p) #[] (List.replicate m c.toArray)=(List.replicate m c).flatten.toArray:=λm=>by
   have:=Fn c m [];rw[jJ]at this;exact this
  rw[J];cases c with
  | nil=>simp
  | cons a r'=>rw[ah (by simp)]
 refine wpAny_binaryOp_repeat_ref (T:="list") (U:="int") (by decide) ⟨_,e,rfl⟩ (λE=>typeIs_int E k t) noFill_list_mul F.fills_int_mul F.slot_int_rmul repeat_list F.slot_int_index.lookup
  (call_meets F.slot_int_rmul (typeIs_int s k t) F.entry_int_rmul (F.args_int_rmul_2 _ _) (int___rmul___int_list k t l c.toArray n)
   ⟨e,rfl,⟨_,e,rfl⟩,call_meets F.slot_list_mul ⟨_,e,rfl⟩ F.entry_list_mul (F.args_list_mul_2 _ _) (AutoListH.list___mul___list_int_3 l c.toArray n k t i j o) ⟨e,?_⟩⟩)
 rw[g];exact⟨.ref _,_,I.aag (t':=s.toks) (r.rep k.toNat) (by rw[QC,jp];exact A),rfl,q _ I.fresh⟩
section
variable{a:Type}[DecidableEq a]
def oh(b:List (a×V))(k:a):Option V:=(b.find? λc=>decide (c.1=k)).map (·.2)
def og(c:List (a×V))(k:a)(v:V):List (a×V):=if(c.any λb=>decide (b.1=k))=true then c.map (λb=>if b.1=k then(b.1,v)else b)else c++[(k,v)]
def wH{p:a×V}{r:List (a×V)}{k:a}(e:p.1=k):oh (p::r) k=some p.2:=by simp[oh,fG,e]
def xo{p:a×V}{r:List (a×V)}{k:a}(e:¬p.1=k):oh (p::r) k=oh r k:=by simp[oh,fG,e]
theorem BF(k:a):∀b:List (a×V),(b.any λc=>decide (c.1=k))=(oh b k).isSome
 | []=>rfl
 | p::r=>by
   rw[iT];by_cases e:p.1=k
   .simp only[wH e,bo e,Bool.true_or,Option.isSome_some]
   .rw[xo e,bM e,nY];exact BF k r
def vt(b:List (a×V))(k:a)(v:V):(og b k v).length<=b.length+1:=by
 unfold og;split
 .rw[ag];lia
 .rw[aH,aO,dB];lia
def PH{b:List (a×V)}{k:a}(v:V)(h:oh b k=none):og b k v=b++[(k,v)]:=by
 unfold og;rw[BF,h];exact ah (by decide)
def eQ.ϸ(r:eQ c b):c.isSome=b.isSome:=by
 cases c with
 | none=>cases b with
   | none=>rfl
   | some _=>exact(show False from r).elim
 | some _=>cases b with
   | none=>exact(show False from r).elim
   | some _=>rfl
def KV.val{c:List (a×V)}{d:List (a×Value)}(r:KV c d)(k:a):eQ (oh c k) (valueAt d k):=by
 unfold KV at r
 induction r with
 | nil=>exact True.intro
 | @cons p q ps qs h t ih=>
   obtain⟨f,g⟩:=h;by_cases e:p.1=k
   .have e':q.1=k:=f.symm.trans e;have b:valueAt (q::qs) k=some q.2:=(by simp[valueAt,fG,e']);rw[wH e,b];exact g
   .have e':¬q.1=k:=λz=>e (f.trans z);have b:valueAt (q::qs) k=valueAt qs k:=(by simp[valueAt,fG,e']);rw[xo e,b];exact ih
def KV.any(r:KV b c)(k:a):(b.any λd=>decide (d.1=k))=c.any λd=>decide (d.1=k):=by
 unfold KV at r
 induction r with
 | nil=>rfl
 | cons h t ih=>rw[iT,iT,ih,h.1]
def KV.repl(r:KV b c)(k:a)(j:RelV f d):KV (b.map λg=>if g.1=k then(g.1,f)else g) (c.map λg=>if g.1=k then(g.1,d)else g):=by
 unfold KV at r ⊢
 induction r with
 | nil=>exact .nil
 | @cons p q ps qs h t ih=>
   rw[aF,aF];refine .cons ?_ ih;obtain⟨i,l⟩:=h;by_cases e:p.1=k
   .rw[aj e,aj (i.symm.trans e)];exact⟨i,j⟩
   .rw[ah e,ah (λz=>e (i.trans z))];exact⟨i,l⟩
def KV.put(r:KV c b)(k:a)(g:RelV f d):KV (og c k f) (stored b k d):=by
 unfold og stored;rw[r.any k];by_cases e:(b.any λh=>decide (h.1=k))=true
 .rw[aj e,aj e];exact r.repl k g
 .rw[ah e,ah e];exact Paired.snoc r ⟨rfl,g⟩
def KV.length(r:KV b c):b.length=c.length:=Paired.length r
end
def zt(r:RelV (kV k) a):(iM b c).is k a=true:=by
 cases k with
 | inl i=>obtain⟨t,e⟩:=(show ∃t,a=Value.int i t from r);subst e;exact II b c i t
 | inr x=>obtain⟨t,e⟩:=(show ∃t,a=Value.str x t from r);subst e;exact vB b c x t
theorem EM :∀{c:List Key}{d:hL},Vals (c.map kV) d->ItemsAre (iM a b) c d
 | [],_,r=>by rw[cG]at r;cases r;exact .nil
 | k::c,_,r=>by
   rw[aF]at r;cases r with
   | cons h t=>exact .cons (zt h) (EM t)
abbrev KT(H:Hp):List (List Key×V)->List (List Key×Addr×Value)->Prop:=Paired λp q=>p.1=q.1/\H q.2.1=some (.tup (p.1.map kV))/\RelV p.2 q.2.2
def KT.val{H:Hp}{a:List (List Key×V)}{d:List (List Key×Addr×Value)}(r:KT H a d)(k:List Key):eQ (oh a k) ((atKey d k).map (·.2)):=by
 induction r with
 | nil=>exact True.intro
 | @cons p q ps qs h t ih=>
   obtain⟨c,_,f⟩:=h;by_cases e:p.1=k
   .have e':q.1=k:=c.symm.trans e;have b:atKey (q::qs) k=some q.2:=(by simp[atKey,fG,e']);rw[wH e,b];exact f
   .have e':¬q.1=k:=λz=>e (c.trans z);have b:atKey (q::qs) k=atKey qs k:=(by simp[atKey,fG,e']);rw[xo e,b];exact ih
def KT.repl(r:KT c a b)(k:List Key)(l:RelV f d):KT c (a.map λi=>if i.1=k then(i.1,f)else i) (b.map (putAt k d)):=by
 induction r with
 | nil=>exact .nil
 | @cons p q ps qs h t ih=>
   rw[aF,aF];refine .cons ?_ ih;obtain⟨g,j,m⟩:=h;unfold putAt;by_cases e:p.1=k
   .rw[aj e,aj (g.symm.trans e)];exact⟨g,j,l⟩
   .rw[ah e,ah (λz=>e (g.trans z))];exact⟨g,j,m⟩
def KT.put(r:KT c b a)(k:List Key)(j:c d=some (.tup (k.map kV)))(h:RelV g f):KT c (og b k g) (storedH a k d f):=by
 have e:(b.any λi=>decide (i.1=k))=(atKey a k).isSome:=by
  rw[BF,(r.val k).ϸ,Option.isSome_map]
 unfold og storedH;rw[e];by_cases q:(atKey a k).isSome=true
 .rw[aj q,aj q];exact r.repl k h
 .rw[ah q,ah q];exact Paired.snoc r ⟨rfl,j,h⟩
def KT.keeps{e:Hp}(r:KT d a c)(g:∀b f,d b=some (.tup f)->e b=some (.tup f)):KT e a c:=Paired.Xf r λ_ _ z=>⟨z.1,g _ _ z.2.1,z.2.2⟩
def P9(ok:ϰ b g a d)(e:Rd a c f):Μ b g a d c f:=e.ok ok
def Ki(i:ϰ c g d f)(e:Rd d b (.dK a)):a.length<=sizeLine/\(b==sysModules)=false/\∃h,KV a h/\f.DictOf (iM c g) b h:=show Μ c g d f b (.dK a)from P9 i e
def Qc(i:ϰ c g d f)(e:d b=some (.dK a)):a.length<=sizeLine/\(b==sysModules)=false/\∃h,KV a h/\f.DictOf (iM c g) b h:=Ki i (.inl e)
def Hu{g:List Key}(i:ϰ b f c d)(e:c a=some (.tup (g.map kV))):(tupleKind (iM b f)).is d g a:=by
 obtain⟨_,h,r,o,k,j,n,l⟩:=(show Μ b f c d a (.tup (g.map kV))from i a _ e);exact⟨o,h.toArray,n,k,j,l,by simpa using EM r⟩
def Qb(j:ϰ d g b f)(e:Rd b c (.dT a)):a.length<=sizeLine/\(c==sysModules)=false/\∃h,KT b a h/\f.DictOfH (tupleKind (iM d g)) c h:=by
 obtain⟨z,y,h,r,o,v,n,w,k,s,u,A⟩:=(show Μ d g b f c (.dT a)from P9 j e);refine⟨z,y,h,r,o,v,n,w,k,s,u,λx hx=>?_,A⟩;have i:∀{l:List (List Key×V)}{m:List (List Key×Addr×Value)},KT b l m->∀x∈m,(tupleKind (iM d g)).is f x.1 x.2.1:=by
  intro l m q
  induction q with
  | nil=>intro x hx;exact nomatch hx
  | @cons p q ps qs hq t ih=>
    intro x hx;rcases aE.mp hx with e|hx
    .subst e;exact Hu j (by rw[<-hq.1];exact hq.2.1)
    .exact ih x hx
 exact i r x hx
def Sq(i:ϰ d g b f)(e:b c=some (.dT a)):a.length<=sizeLine/\(c==sysModules)=false/\∃h,KT b a h/\f.DictOfH (tupleKind (iM d g)) c h:=Qb i (.inl e)
def Wg(H:Hp)(a:Addr)(y:V)(r:Option V):Prop:=(∃c k,Rd H a (.dK c)/\y=kV k/\r=oh c k)\/∃c k b,Rd H a (.dT c)/\y=.ref b/\H b=some (.tup (k.map kV))/\r=oh c k
def Wh(H:Hp)(a:Addr)(y v:V)(d:Hp):Prop:=(∃c k,H a=some (.dK c)/\y=kV k/\c.length<sizeLine/\d=upd H a (.dK (og c k v)))\/∃c k b,H a=some (.dT c)/\y=.ref b/\H b=some (.tup (k.map kV))/\c.length<sizeLine/\d=upd H a (.dT (og c k v))
def Wg.k{H:Hp}{a:Addr}{b:List (Key×V)}{k:Key}(e:H a=some (.dK b)):Wg H a (kV k) (oh b k):=.inl ⟨b,k,.inl e,rfl,rfl⟩
def Wh.k{H:Hp}{a:Addr}{b:List (Key×V)}{k:Key}{v:V}(e:H a=some (.dK b))(c:b.length<sizeLine):Wh H a (kV k) v (upd H a (.dK (og b k v))):=.inl ⟨b,k,e,rfl,c,rfl⟩
def Inv.big(I:Inv d b c e a):sysModules<a.heap.objs.size:=by
 have h:mainGlobals<a.heap.objs.size:=(I.mod.glob.keeps I.bk).lt;exact Nat.lt_trans (by decide) h
def Q2{A:Around}{Q:gy}(x:A.units+1<cLine)(I:Inv c a f d j)(g:Wg d m n o)(v:RelV n i)(h:∀u,Inv c a f d u->Q (.bool (!o.isSome)) u):wpAny (model c.prog c.w) A (compareOp .NotIn i (.ref m)) Q p j:=by
 rcases g with⟨ρ,k,e,ey,l⟩|⟨ρ,k,b,e,ey,eb,l⟩
 .subst ey;obtain⟨z,s,y,r,t⟩:=Ki I.Β e;refine wpAny_notIn_of (zt v) s t.mapOf ?_;rw[<-(r.val k).ϸ,<-l];exact h _ (I.tok _)
 .subst ey;cases(show i=Value.ref b from v);obtain⟨z,s,B,r,t⟩:=Qb I.Β e;refine wpAny_notIn_heap (tupleKind_room_in1 x) (Hu I.Β eb) s t ?_;have q:=(r.val k).ϸ;rw[Option.isSome_map]at q;rw[<-q,<-l];exact h _ (I.tok _)
def DP{p:Nat}(I:Inv h d j g i)(o:ZZ (g a))(m:Heap.SameBut a i.heap c)(l:∃q,c.get? a=some q)(k:Μ h.prog h.w (upd g a f) c a f):Inv h d j (upd g a f) { i with heap:=c,toks:=p }:=I.write (x:=a) (e:=a) o (.inl rfl) (λb q n z=>(m.2 b n).trans z) l k
def LQ{h:Heap}{f:List (Key×V)}(z:f.length<=sizeLine)(i:(b==sysModules)=false)(g:KV f a)(j:h.DictOf (iM c d) b a):Μ c d e h b (.dK f):=⟨z,i,a,g,j⟩
section
variable{X:Cx}{d:hE}{f:St}{H:Hp}{s:Shared}{a:Addr}{y:V}{v:V}{u:Value}{r:Value}{A:Around}{E:gy}
def Ms{F:Hp}{Q:Unit->Shared->Prop}(U:A.units+1<cLine)(I:Inv X d f H s)(g:Wh H a y v F)(D:RelV y u)(C:RelV v r)(h:∀B,Inv X d f F B->Q () B):wpAny (model X.prog X.w) A (setItem (.ref a) u r) Q E s:=by
 rcases g with⟨ρ,k,e,ey,l,eH⟩|⟨ρ,k,b,e,ey,eb,l,eH⟩
 .subst ey eH;obtain⟨z,n,T,i,x⟩:=Qc I.Β e;have p:T.length<=sizeLine:=by rw[<-i.length];exact z
  have o:(og ρ k v).length<=sizeLine:=by have:=vt ρ k v;lia
  refine wpAny_setItem_pairs (hsz:=p) (zt D) x λJ m t=>h _ ?_;have K:∃q,J.get? a=some q:=let ⟨q,_,_,j,_⟩:=m;⟨q,j⟩;exact DP I (by rw[e];exact True.intro) t K (LQ o n (i.put k C) m)
 .subst ey eH;cases(show u=Value.ref b from D);obtain⟨z,n,M,i,x⟩:=Sq I.Β e;have p:M.length<=sizeLine:=by rw[<-Paired.length i];exact z
  have o:(og ρ k v).length<=sizeLine:=by have:=vt ρ k v;lia
  refine wpAny_setItem_heap (hsz:=p) (tupleKind_room_in1 U) (Hu I.Β eb) x λJ m t=>h _ ?_;obtain⟨q,P,N,j,L,O,R,_,S⟩:=m;refine DP I (by rw[e];exact True.intro) t ⟨q,j⟩ ⟨o,n,_,(i.put k eb C).keeps λc V G=>?_,q,P,N,j,L,O,R,S⟩;rw[aM (cZ G e (λz=>nomatch z))];exact G
end
section
variable{X:Cx}{b:hE}{c:St}{H:Hp}{s:Shared}{a:Addr}{d:List (Key×V)}{A:Around}{E:gy}
def SD{Q:gy}(I:Inv X b c H s)(e:Rd H a (.dK d))(h:∀t g,Inv X b c H g->Q (.int d.length t) g):wpAny (model X.prog X.w) A (call (.builtin "len") [.ref a]) Q E s:=by
 obtain⟨z,i,k,f,j⟩:=Ki I.Β e;refine call_len_dict i j (by rw[<-f.length];rw[sizeLine_eq]at z;lia) ?_;rw[<-f.length];exact h _ _ (I.tok _)
end
def Rr(i:Expr):Prop:=∀a b,subscripted i false a b=operate [a,b] (getItem a b)
def QW{a:Program}{w:World}{A:Around}{E:gy}{s:Shared}{k:Env}{c b:Expr}{n:Pos}{T id:String}{Q:gy}(q:typeLookup (.type T) "__getitem__"=pure (some (.builtin id)))(t:Rr b)(h:wpAny (model a w) A (eval c k) (λo g=>wpAny (model a w) A (eval b k) (λi d=>d.TypeIs o T/\wpAny (model a w) A (getItem o i) Q E d) E g) E s):wpAny (model a w) A (eval (.Subscript c b n) k) Q E s:=by
 refine Subscript_ (da h (λo g m=>da m (λi d e=>?_) λ_ _ x=>x) λ_ _ x=>x);obtain⟨p,e⟩:=e;unfold subscriptTail;refine ao ?_;rw[getitemInPython_of_ne p.not_modules];refine ao (mf p q ?_);have j:wpAny (model a w) A (subscripted b false o i) (λr f=>wpAny (model a w) A (letTemporaryGo c o r>>=λ_=>pure r) Q E f) E d:=by
  rw[t o i];exact wpAny_operating (da e (λr f l=>ao (wpAny_letTemporaryGo (bh l))) λ_ _ x=>x)
 first
  | exact bh (ao j)
  | exact ao (bh (ao j))
  | exact ao j
def DS(e f:TE):TE:=λb H Q=>e b H λy d=>f b d λx c=>∃a o,x=.ref a/\Wg c a y o/\Q (.bl (!o.isSome)) c
def Lm(h f i:TE):TS:=λD b H=>i b H λv d=>h b d λx g=>f b g λy e=>∃a c,x=.ref a/\Wh e a y v c/\D.nx b c
def Nf{X:Cx}(B:X.A.units+1<cLine)(q:PE X d b)(m:PE X e c):PC X .NotIn d e (DS b c):=by
 intro f s i H Q I h;refine eF (q f s i H _ I h) λF w y j r n t=>eF (m f w i j _ r t) λu E x o v k ⟨a,l,z,g,C⟩=>?_;subst z;obtain rfl:u=Value.ref a:=k;exact Q2 B v g n λD p=>⟨.bl (!l.isSome),o,p,rfl,C⟩
def QA{X:Cx}{l:Pos}(Q:X.A.units+1<cLine)(q:PE X f j)(C:PE X e i)(F:PE X b d)(E:swapsWith b (some (.Subscript f e c)) l.line X.env=pure false):PS X (.Assign [.Subscript f e c] b l) (Lm j i d):=by
 intro k s m H D I h;refine wpAny_Assign_Subscript (eF (F k s m H _ I h) λr N v n J t K=>eF (q k N m n _ J K) λu G x z L o R=>eF (C k G m z _ L R) λV S y U B w ⟨a,M,P,g,p⟩=>?_) E;subst P;obtain rfl:u=Value.ref a:=o;exact Ms Q B g w t λT O=>⟨m,M,O,p⟩
def OI(h:Heap)(d:sysModules<h.objs.size):Μ a c b (h.push { cls:=.type "dict",data:=.dict #[] }) h.objs.size (.dK []):=⟨cf _,beq_eq_false_iff_ne.mpr (Ne.symm (aV d)),[],.nil,Heap.DictOf.new h⟩
def yq:List (TE×TE)->St->Hp->(List (V×V)->Hp->Prop)->Prop
 | [],_,H,Q=>Q [] H
 | (tk,tv)::r,σ,H,Q=>tk σ H λx a=>tv σ a λy c=>yq r σ c λb d=>Q ((x,y)::b) d
abbrev VV:List (V×V)->List (Value×Value)->Prop:=Paired λp q=>RelV p.1 q.1/\RelV p.2 q.2
def PPs(X:Cx)(f:Pos)(c:List (Option Expr))(a:List Expr)(e:List (TE×TE)):Prop:=∀(b:hE)(s:Shared)(d:St)(H:Hp)(Q:List (V×V)->Hp->Prop),Inv X b d H s->yq e d H Q->wpAny (model X.prog X.w) X.A (evalPairs (pairTrees c a X.env f)) (λi j=>∃g h,Inv X b d h j/\VV g i/\Q g h) X.xe s
def Qq :PPs b a [] [] []:=λc s d H Q I h=>pairTrees_nil_walk ⟨[],H,I,.nil,h⟩
def Oh(q:PE a j g)(A:PE a i d)(G:PPs a c f e b):PPs a c (some j::f) (i::e) ((g,d)::b):=λk s l H Q I h=>
 pairTrees_cons_walk (eF (q k s l H _ I h) λu F x n C o D=>eF (A k F l n _ C D) λM B y t E r J=>
  ϕ (G k B l t _ E J) λL K ⟨z,w,v,m,p⟩=>⟨(x,y)::z,w,v,.cons ⟨o,r⟩ m,p⟩)
def wj(d a:List (Key×V)):List (Key×V):=a.foldl (λb c=>og b c.1 c.2) d
def KV.merge:∀{a:List (Key×V)}{d:List (Key×Value)}{b:List (Key×V)}{c:List (Key×Value)},KV a d->KV b c->KV (wj b a) (merged c d):=by
 intro a d b c r;unfold KV at r
 induction r generalizing b c with
 | nil=>intro q;exact q
 | @cons p q ps qs h t ih=>
   intro f;have e:KV (og b p.1 p.2) (stored c q.1 q.2):=by
    have:=f.put p.1 h.2;rw[<-h.1];exact this
   exact ih e
theorem xE:∀(b a:List (Key×V)),(wj a b).length<=a.length+b.length
 | [],a=>by show a.length<=a.length+0;lia
 | p::r,a=>by
   have d:=xE r (og a p.1 p.2);have c:=vt a p.1 p.2;show(wj (og a p.1 p.2) r).length<=_;rw[aO];lia
theorem Db :∀{e:List (Key×V)}{f:List (Value×Value)},VV (e.map λg=>(kV g.1,g.2)) f->∃d,Carries (iM P w) f d/\KV e d
 | [],_,r=>by rw[cG]at r;cases r;exact⟨[],True.intro,.nil⟩
 | p::e,_,r=>by
   rw[aF]at r;cases r with
   | @cons a b as bs h t=>
     obtain⟨d,c,q⟩:=Db (P:=P) (w:=w) t;obtain⟨j,i⟩:=b;exact⟨(p.1,i)::d,⟨zt h.1,rfl,c⟩,.cons ⟨rfl,h.2⟩ q⟩
def Lj(b:List (TE×TE)):TE:=λe H Q=>∀p,H p=none->yq b e (upd H p (.dK [])) λf d=>d p=some (.dK [])/\∃a:List (Key×V),f=a.map (λc=>(kV c.1,c.2))/\a.length<=15/\Q (.ref p) (upd d p (.dK (wj [] a)))
def QT(h:PPs f i b d g)(y:b.all (·.isSome)=true)(v:b.length=d.length)(J:b≠[])(l:b.length<=15):PE f (.Dict b d i) (Lj g):=by
 intro j s t H Q I q;have K:=I.Β.fresh (aJ s.heap.objs.size);have E:=I.laid (a:=s.heap.objs.size) (o:=.dK []) (h':=s.heap.push { cls:=.type "dict",data:=.dict #[] }) (t':=s.toks) (λ_ _ q=>aB _ q) (aJ _) (OI s.heap I.big);refine wpAny_Dict_walk (knd:=iM f.prog f.w) y v J l (ϕ (h j _ t _ _ E (q _ K)) λO T ⟨S,R,p,k,e,n,A,U,N⟩=>?_);subst A;obtain⟨x,c,L⟩:=Db (P:=f.prog) (w:=f.w) k;obtain⟨z,u,F,C,G⟩:=Qc p.Β e;cases C;refine⟨x,c,G,λh' m D=>⟨.ref s.heap.objs.size,_,?_,rfl,N⟩⟩;have B:(wj [] n).length<=sizeLine:=by
  have M:=xE n [];rw[dB]at M;rw[sizeLine_eq];lia
 have r:∃q,h'.get? s.heap.objs.size=some q:=let ⟨q,_,_,hq,_⟩:=m;⟨q,hq⟩;exact DP p (by rw[e];exact True.intro) D r (LQ B u (L.merge .nil) m)
end L2
namespace Att
open PySem PySem.W PySem.Calls PyProof.Rows
def Cw :∀(e:fc)(f:hL),WellAll c d f (e.map WData.int)->IntsAre f e:=by
 intro e
 induction e with
 | nil=>
   intro f w;rw[cG]at w;cases w;exact .nil
 | cons n e ih=>
   intro f w;rw[aF]at w;cases w with
   | cons a b=>
     cases a;exact .cons _ _ (ih _ b)
def L9{l:OpenLaw}(w:l.most=some c)(o:l.row.toRowW.claim.pre b=true)(n:WellAll g f e b):∃a p h,e=[Value.ref a]/\b=[WData.list (h.map WData.int)]/\f.get? a=some { cls:=.type "list",data:=.seq p.toArray }/\IntsAre p h/\h.length<=c:=by
 have m:WShape.hasAll [] b [.list .int]=true:=(pre_splitW o).1;have s:l.pre.holds [] { args:=b }=true:=(pre_splitW o).2;obtain⟨d,r,rfl,x,t⟩:=hasAllW_cons m;obtain rfl:=hasAllW_nil t;obtain⟨y,rfl,v⟩:=hasW_list x;obtain⟨h,rfl⟩:=items_int v;have i:h.length<=c:=by
  unfold OpenLaw.pre at s;have j:(WTm.not (.lt (.lit (.int (c:Int))) (.len (.arg 0)))).holds [] { args:=[.list (h.map .int)] }=true:=by
   have j:=(holds_andW s).1;rw[w]at j;exact j
  have k:=condW_of j (w_not (w_lt w_lit (w_len_list (w_arg rfl))));rw[ag]at k;refine Nat.le_of_not_lt λq=>?_;have u:(c:Int)<((h.length:Nat):Int):=by lia
  first
   | (rw[bo u]at k;exact absurd k (by decide))
   | (simp at k;lia)
 cases n with
 | cons w1 w2=>
   cases w2;cases w1 with
   | list ho YS=>exact⟨_,_,h,rfl,rfl,ho,Cw h _ YS,i⟩
def MU(l:OpenLaw)(a:List WData):l.row.toRowW.claim.post a (.bool true) a=true:=postW_of (r:=l.row.toRowW) (X:=(true==true))
 (show WShape.has [] (.bool true) .bool=true by first|rfl|decide|simp[WShape.has,WShape.arms,WShape.armsAll])
 (show(WTm.eq .res (.lit (.bool true))).value [] { args:=a,res:=some (.bool true),after:=a }=some (.bool (true==true))from w_eq_bool (w_res rfl) w_lit) rfl
def UC{l:OpenLaw}{B:World->Heap->Prop}{d:DefRec}(T:l.most=some e)(x:d.params.defaults=[])(call:∀(w:World) (i h:Shared) (s u:hP) (p:Addr) (o:Obj) (z cd j:Value) (a:Addr) (m:hL) (t:fc),Ground g b [] c w i s u h.heap->B w h.heap->h.heap.get? p=some o->o.data=.func (docDef d.name d.params d.body d.scope z cd j)->h.heap.CodeRec cd d.name->s d.name=some (.ref p)->h.heap.get? a=some { cls:=.type "list",data:=.seq m.toArray }->IntsAre m t->t.length<=e->h.gens=#[]->codeAny (model l.prog w) callerA (.call (.ref p) ⟨[.ref a],[]⟩) (λr q=>r=.ok (.ret (.bool true))/\OldK h.heap q.heap/\q.os=h.os/\AllBare q.gens) h):WalkO g b c B l.row.toRowW d [] (λf m=>PySem.call f m):=by
 intro w i h s u G Y p o z cd j L kV J F H C v O A D as P M K y R;obtain rfl:L=.none:=Dflts.none C x;obtain rfl:kV=.none:=Dflts.noKw C;obtain⟨a,m,t,rfl,rfl,N,k,n⟩:=L9 T P y;refine enter_call (jv (call w i h s u p o z cd j a m t G Y J (fd_plain F) H v N k n O) λr q E=>?_);obtain⟨rfl,I,Q,S⟩:=E;exact⟨.inl ⟨.bool true,.bool true,[],rfl,λ_=>rfl,.bool true,MU l _,λ_=>⟨List.Pairwise.nil,λ_ U=>(nomatch U)⟩⟩,I,Q,S⟩
end Att
namespace L2
open PySem PySem.Spec PyProof.Rows
theorem Fb:∀{b:hL}{a:fc},IntsAre b a->Vals (a.map V.int) b
 | _,_,.nil=>.nil
 | _,_,.cons n t h=>.cons ⟨t,rfl⟩ (Fb h)
def OO(H:Hp):Prop:=∀b,H b=none\/∃o a,H b=some (.U0 o (.lst a))
def O6{K:hB}{y:Shared}{G:hL}(KX:K.In y.heap)(L:y.heap.Ns mainGlobals f)(A:y.heap.Ns builtinsNs l)(S:∀g:Str,g≠"__name__"->l g=bootBuiltins g)(U:y.heap.NoLimit)(hg:y.gens=#[])(P:y.heap.get? a=some { cls:=.type "list",data:=.seq G.toArray })(hi:IntsAre G c)(hl:c.length<=sizeLine)(hr:Ρ x callerA)(F:∀C:Heap,K.In C->C.Ns mainGlobals f->ϋ i j K f C w x k t [g] p)(X:∀(s:Shared) (u:Value),BindsTo s t ⟨[u],[]⟩ [(g,u)])(WT:∀H:Hp,OO H->ι K H a (c.map V.int)->p [.ref a] H (λv _=>v=.bl true) λ_ _ _=>False)(Q:∀H e B,w [] H y (λ_ _ _=>False) e B->False):codeAny (model i j) callerA (.call (.ref k) ⟨[.ref a],[]⟩) (λr B=>r=.ok (.ret (.bool true))/\OldK y.heap B.heap/\B.os=y.os/\AllBare B.gens) y:=by
 have rv:=Fb hi;have Y:=hi.length;have E:∀H:Hp,OO H->ι K H a (c.map V.int)->ϰ i j H y.heap->(∀b,H b≠none->b=a)->(H a≠none->K.lookup a=none)->codeAny (model i j) callerA (.call (.ref k) ⟨[.ref a],[]⟩) (λr B=>r=.ok (.ret (.bool true))/\OldK y.heap B.heap/\B.os=y.os/\AllBare B.gens) y:=by
  intro H hO hS Β hA hK;have Vh:∀{b:Addr}{o:Obj},y.heap.get? b=some o->H b=none->(wI y.heap H).get? b=some o:=λe n=>OH e n;have T:∀{b:Addr}{o:Obj}{O:Array DictEntry}{I:Nat},y.heap.get? b=some o->o.data=.dict O I->H b=none:=λ{b o O I} e d=>by
   cases q:H b with
   | none=>rfl
   | some u=>
     have R:b=a:=hA b (by rw[q];simp);subst R;rw[P]at e;cases e;have d':Data.seq G.toArray _=Data.dict O I:=d;cases d'
  have D:∀{b:Addr}{m:hP},y.heap.Ns b m->(wI y.heap H).Ns b m:=λ{b m} ⟨o,O,I,e,d,r⟩=>⟨o,O,I,Vh e (T e d),d,r⟩;have N:K.In (wI y.heap H):=λb o e=>Vh (KX b o e) (by
   cases q:H b with
   | none=>rfl
   | some u=>
     have R:b=a:=hA b (by rw[q];simp);subst R;rw[hK (by rw[q];simp)]at e;cases e)
  have hM:Mod K f (wI y.heap H):=⟨N,D L,⟨l,D A,S⟩,let ⟨mc,h1,h2⟩:=U;⟨mc,D h1,h2⟩⟩;have e0:U3 i j K f (wI y.heap H) callerA [] y H:=⟨rfl,hM,λb o e=>Q7 e,lB (Nd _ _),trivial,λb A=>absurd (show b∈([]:hH)from A) (by simp),Β,.of_eq hg⟩;refine jv ((F _ N (D L)).run callerA [] y H ⟨[.ref a],[]⟩ [.ref a] [.ref a] _ _ hr e0 (X y (.ref a)) (.cons rfl .nil) (WT H hO hS)) λr B h=>?_;cases r with
  | error e=>exact(Q H e B h).elim
  | ok fl=>
    cases fl with
    | next=>exact False.elim h
    | brk=>exact False.elim h
    | cont=>exact False.elim h
    | ret u=>
      obtain⟨v,H',os,M,Z,UD,r',q⟩:=h;have q':v=.bl true:=q;subst q';obtain rfl:u=Value.bool true:=r';refine⟨rfl,OldK.of_keep λb o e=>?_,os,M⟩;cases q:H b with
      | none=>exact Z.keep b o e q (by intro z;exact absurd (show b∈([]:hH)from z) (by simp)) (by simp)
      | some u=>
        rcases hO b with z|⟨ob,xs,z⟩
        .rw[q]at z;cases z
        .have z2:=Z.gE b ob _ z;obtain⟨e1,_⟩:=Β b _ z;obtain⟨e2,_⟩:=UD b _ z2;rw[e]at e1;cases e1;exact e2
 cases hk:K.lookup a with
 | some o=>
   have e:=KX a o hk;rw[P]at e;cases e;refine E (λ_=>none) (λ_=>.inl rfl) (.inr ⟨_,G.toArray,_,hk,rfl,rfl,rfl,by rw[aR,Y];exact hl,by simpa using rv⟩) (λb u z=>by have J:(none:Option HO)=some u:=z;cases J) (λb z=>absurd rfl z) λz=>absurd rfl z
 | none=>
   refine E (λb=>if b=a then some (.U0 { cls:=.type "list",data:=.seq G.toArray } (.lst (c.map V.int)))else none) (λb=>?_) (.inl (.inr ⟨{ cls:=.type "list",data:=.seq G.toArray },aj rfl⟩)) (λb u z=>?_) (λb z=>?_) λ_=>hk
   .by_cases A:b=a
    .exact .inr ⟨_,_,aj A⟩
    .exact .inl (ah A)
   .by_cases A:b=a
    .have J:=(aj A).symm.trans z;cases J;subst A;exact⟨P,by rw[ag];exact hl,G,_,rv,P⟩
    .have J:=(ah A).symm.trans z;cases J
   .by_cases A:b=a
    .exact A
    .exact absurd (ah A) z
def Xp{l:PySem.W.OpenLaw}{I:World->Heap->Prop}{d:DefRec}{K:Params->PySem.W.Frag}{CX:World->Th}{sp:World->Sp}(hn:l.most=some n)(P:n<=sizeLine)(D:d.params.defaults=[])(hr:Ρ k callerA)(Z:∀(w:World) (h:Heap),I w h->(K w.params).In h)(F:∀(w:World) (r:hP) (y:Addr) (h:Heap),(K w.params).In h->h.Ns mainGlobals r->r d.name=some (.ref y)->∃E:FuncData,(∀(s:Shared) (u:Value),BindsTo s E ⟨[u],[]⟩ [(x,u)])/\∀m:Heap,(K w.params).In m->m.Ns mainGlobals r->ϋ l.prog w (K w.params) r m (CX w) k y E [x] (sp w))(Q:∀(w:World) (H:Hp) (a:Addr) (z:fc),z.length<=n->OO H->ι (K w.params) H a (z.map V.int)->sp w [.ref a] H (λv _=>v=.bl true) λ_ _ _=>False)(B:∀(w:World) (H:Hp) (s:Shared) (e:Value) (A:Shared),CX w [] H s (λ_ _ _=>False) e A->False):PySem.W.WalkO j c i I l.row.toRowW d [] (λf M=>PySem.call f M):=by
 refine Att.UC hn D λw L t r mb y o pm cd U a M z G Y ho hd Vw C S q p X=>?_;have J:=Z w _ Y;obtain⟨E,N,R⟩:=F w r y _ J G.T.g C;exact O6 J G.T.g G.T.b G.T.builtins G.T.nolimit X S q (aW p P) hr R N (λH hO O=>Q w H a z p hO O) λH e A=>B w H t e A
def kL(s:Stmt)(j:Nat):Stmt:=match s with
 | .ClassDef _ _ _ body _ _ _ _ _ _ _=>body.getD j (.Pass ⟨0,0,0,0⟩)
 | _=>.Pass ⟨0,0,0,0⟩
def kN(s:Stmt):Arguments:=match s with
 | .FunctionDef _ a _ _ _ _ _ _ _ _=>a
 | _=>{ posonlyargs:=[],args:=[],vararg:=none,kwonlyargs:=[],kw_defaults:=[],kwarg:=none,defaults:=[] }
def jB(s:Stmt):List Stmt:=match s with
 | .FunctionDef _ _ b _ _ _ _ _ _ _=>b
 | _=>[]
def aA(s:Stmt):Scope:=match s with
 | .FunctionDef _ _ _ _ _ _ sc _ _ _=>sc
 | _=>{ kind:=.function,names:=[],isGenerator:=false,isCoroutine:=false }
abbrev E0:XK:=λ_ _ _=>False
structure WV(K:hB)(x qual:Str)(st:Stmt)(f:Addr)(fd:FuncData):Prop where
 ex:∃(oc:Value)(od:Option Addr)(kV doc pm:Value)(an:Option Addr)(ξ ct:Value)(Uz:Array (Option Value)),fd=PySem.W.fnOf x qual (kN st) (jB st) (aA st) .none kV doc pm an ξ ct/\K.lookup f=some ⟨oc,od,.func fd,Uz⟩/\PySem.W.codeIn K ξ qual=true
 kp:PySem.W.keepIn K (.ref f)=true
def WV.binds{K:hB}{x a:Str}{st:Stmt}{f:Addr}{k:FuncData}{e:hU}(F:WV K x a st f k)(h:∀(kV b j:Value) (c:Option Addr) (g i:Value) (d:hL),d.length=e.length->bindArgs (PySem.W.fnOf x a (kN st) (jB st) (aA st) .none kV b j c g i) ⟨d,[]⟩=pure (e.zip d)):Binds K k e []:=by
 obtain⟨p,l,kV,b,j,c,g,i,n,rfl,o,m⟩:=F.ex;exact .all (h kV b j c g i)
def yN{K:hB}{x a:Str}{st:Stmt}{f:Addr}{j:Value}{i e:Option Addr}{m:Array (Option Value)}{kV b h d g:Value}(l:K.lookup f=some ⟨j,i,.func (PySem.W.fnOf x a (kN st) (jB st) (aA st) .none kV b h e d g),m⟩)(c:PySem.W.codeIn K d a=true)(k:PySem.W.keepIn K (.ref f)=true):WV K x a st f (PySem.W.fnOf x a (kN st) (jB st) (aA st) .none kV b h e d g):=⟨⟨j,i,kV,b,h,e,d,g,m,rfl,l,c⟩,k⟩
def Sn(c:Ρ b a):a.units+1<cLine:=fY (Nat.add_le_add_left (by decide:1<=64) _) c.units
def pv{X:Cx}(i:Nat)(f:X.N[i]?=some a:=by rfl)(e:Vis X.env.scope a:=by first|exact Or.inl rfl|exact Or.inr (Or.inl rfl)|exact Or.inr (Or.inr rfl))(d:(a==("__debug__":Str))=false:=by decide)(c:(a==("__classdict__":Str))=false:=by decide):PE X (.Name a b) (x6 i):=HW f e d c
def RN{A B:Prop}(h:B):if false=true then A else B:=by
 rw[ah bj];exact h
def Sc{A B:Prop}(h:A):if true=true then A else B:=by
 rw[aj rfl];exact h
def δ(H a:Hp):Prop:=∀b o,H b=some o->a b=some o
def δ.refl(H:Hp):δ H H:=λ_ _ h=>h
def δ.trans(a:δ f e)(b:δ e d):δ f d:=λc o h=>b c o (a c o h)
def δ.free(e:δ b c)(h:c a=Option.none):b a=Option.none:=by
 cases q:b a with
 | none=>rfl
 | some o=>
   rw[e a o q]at h;cases h
def δ.seq{K:hB}{H b:Hp}{a:Addr}{c:List V}(e:δ H b)(h:ι K H a c):ι K b a c:=by
 rcases h with(h|⟨o,h⟩)|h
 .exact .inl (.inl (e _ _ h))
 .exact .inl (.inr ⟨o,e _ _ h⟩)
 .exact .inr h
def Mt:lh b (.builtin "len") (λe H Q=>∃a c,e=[V.ref a]/\H a=some (.dK c)/\Q (.int c.length) H):=by
 intro d s j H e l Q I r h;obtain⟨a,c,rfl,f,q⟩:=h;obtain⟨u,rfl,i⟩:=oF r;cases i;exact SD I (.inl f) λt k g=>⟨.int c.length,H,g,⟨t,rfl⟩,q⟩
def Cx.comp(X:Cx)(e:hU)(a:Scope)(cl:List (Str×Addr))(C:Addr)(c:Shared)(b:Hp)(d:hH):Cx where
 prog:=X.prog
 w:=X.w
 K:=X.K
 mg:=X.mg
 base:=X.base
 A:=X.A
 N:=e
 s₀:=c
 H₀:=b
 env:=compEnvC a cl C X.env
 outer:=X.stack
 stack:=X.stack
 ex:=d
 fn:=λ_=>false
 calm:=X.calm
 pn:=[]
 xe:=λ_ _=>False
structure ϩ(X:Cx)(Nc:hU)(own:Nat)(js:List Nat)(scope:Scope)(cl:List (Str×Addr)):Prop where
 YV:closureFor scope X.env=pure cl
 kind:scope.kind=.function
 U5:∀y∈scope.names,y.2≠.cell
 names:∀y∈scope.names,y.2=.local->scope.names.lookup y.1=some .local
 cells:∀x c,cl.lookup x=some c->X.env.cells.lookup x=some c
 has:∀x,((relabel scope X.env).names.lookup x=some .cell\/(relabel scope X.env).names.lookup x=some .free)->∃c,cl.lookup x=some c
 len:Nc.length=own+js.length
 outer:∀i x,Nc[own+i]?=some x->∃j,js[i]?=some j/\X.N[j]?=some x/\X.env.scope.names.lookup x=some .cell/\(relabel scope X.env).names.lookup x=some .cell
def nj(a:Nat)(b:List Nat)(c:St):St:=List.replicate a none++b.map λj=>(c[j]?).getD none
def K9(h:Nat)(q:List Nat)(r:TI)(g:TG)(t:TT)(u:TE):TE:=λj H Q=>r j H λJ k=>∀p,k p=none->∃W:Nat->Nat->List V->St->Hp->Prop,(∃m,W 0 m [] (nj h q j) (upd k p (.lst [])))/\∀i m c f d,W i m c f d->(J.stop i d/\Q (.ref p) d)\/(J.go i d/\∀x n,J.XZ i d x n->g x f n λa s=>t a s λb l=>
 if b=true then u a l λy o=>o p=some (.lst c)/\c.length<sizeLine/\∃e,e<m/\W (i+1) e (c++[y]) a (upd o p (.lst (c++[y])))
 else ∃e,e<m/\W (i+1) e c a l)
def PTs(X:Cx)(d:List Expr)(t:TT):Prop:=∀(a:hE)(s:Shared)(b:St)(H:Hp)(Q:Bool->Hp->Prop),Inv X a b H s->t b H Q->wpAny (model X.prog X.w) X.A (forIn d true λc r=>if r=true then do let e <-isTrue c X.env (eval c X.env);pure (ForInStep.yield e)else pure (ForInStep.yield r)) (TP X a b Q) X.xe s
def YW:TT:=λ_ H Q=>Q true H
def gu :PTs a [] YW:=λb s c H Q I h=>wpAny_tests_nil ⟨H,I,h⟩
def D2(h:PT b c a):PTs b [c] a:=λd s e H Q I q=>wpAny_tests_one (h d s e H Q I q)
def An(I:Nat->Shared->Prop)(G:∀n s,I n s->wpAny (model a f) e (pyNext l) (λr w=>match r with
 | none=>q (.ok .next) w
 | some v=>wpAny (model a f) e (letOwnedTupleGo b l v) (λ_ J=>wpAny (model a f) e (assign b d v) (λ_ C=>
  wpAny (model a f) e (forIn i true λc r=>if r=true then do let ok <-isTrue c d (eval c d);pure (ForInStep.yield ok)else pure (ForInStep.yield r)) (λok u=>
   if ok=true then wpAny (model a f) e (eval k d) (λx A=>
    wpAny (model a f) e (call (.builtin "list.append") [j,x]) (λ_ z=>∃m,m<n/\I m z) (λ_ _=>False) A) (λ_ _=>False) u
   else ∃m,m<n/\I m u) (λ_ _=>False) C) (λ_ _=>False) J) (λ_ _=>False) w) (λ_ _=>False) s)(n:Nat)(h:I n s):codeAny (model a f) e (.compLoop (.ListComp k [⟨b,o,i,0⟩] g p) 0 l j d) q s:=by
 refine codeAny_loop rfl I (λn s K=>?_) n h;show wpAny _ e ((compTurn (.ListComp k [⟨b,o,i,0⟩] g p) 0 l j d).onRaise (λx=>do noteFrame x d;theTreesLotGoes x)) _ _ s;refine wpAny_noted ?_;rw[compTurn_list];refine ao (i7 (ao (da (G n s K) (λr w B=>?_) λ_ _ y=>y.elim)));cases r with
 | none=>exact bh B
 | some v=>
   refine ao (da B (λ_ J H=>?_) λ_ _ y=>y.elim);refine ao (da H (λ_ C F=>ao (da F (λok u t=>?_) λ_ _ y=>y.elim)) λ_ _ y=>y.elim);cases ok with
   | true=>
     rw[aj rfl]at t;simp only[if_true];exact ao (ao (da t (λx A E=>ao (da E (λ_ z D=>bh (bh ⟨rfl,D⟩)) λ_ _ y=>y.elim)) λ_ _ y=>y.elim))
   | false=>
     rw[ah bj]at t;simp only[dN,if_false]
     first
      | exact bh ⟨rfl,t⟩
      | exact ao (bh (bh ⟨rfl,t⟩))
def DZ{X:Cx}{k:hU}{own:Nat}{m:List Nat}{a:Scope}{cl:List (Str×Addr)}{g:hE}{n:St}{f:Hp}{d:Shared}{C:Addr}{j:hH}(T:ϩ X k own m a cl)(I:Inv X g n f d)(l:d.heap.objs.size<=C)(i:∀b∈j,p8 X g f b)(s:∀b∈j,b<d.heap.objs.size):(X.comp k a cl C d f j).Ok where
 mod:=I.ok.mod
 kind:=by show(relabel a X.env).kind=_;exact T.kind
 glob:=I.ok.glob
 blt:=I.ok.blt
 above:=l
 inj:=λx y c r p=>I.ok.inj x y c (T.cells x c r) (T.cells y c p)
 has:=λx h=>T.has x h
 XX:=λx c h=>by cases h
 hd:=I.ok.hd
 frames:=I.ok.frames
 Yx:=.inl rfl
 Z1:=λb hb=>⟨aV (aU (s b hb) l),λx c h=>(i b hb).2.2.2.2.1 x c (T.cells x c h)⟩
 bs:=I.bs
 V7:=aW I.ok.V7 I.sz
 Uu:=λb o e hb=>by
  rcases(i b hb).2.2.2.1 with z|z
  .exact I.ok.Uu b o e z
  .exact absurd (aU (aK (I.ok.bs b o e).1) z) (cU _)
 T6:=λb hb q=>by
  rcases aE.mp (I.T7 b q)with z|z
  .exact(i b hb).2.1 z
  .exact(i b hb).2.2.1 z
 gT:=I.stack
 WN:=I.oR
def Gz{X:Cx}{B:hU}{h:Nat}{A:List Nat}{scope:Scope}{Q:List (Str×Addr)}{r:hE}{s:St}{f:Hp}{a:Shared}{C D:Addr}{F:hH}{g:Heap}{t:Nat}{m:hP}(T:ϩ X B h A scope Q)(I:Inv X r s f a)(N:a.heap.objs.size<=C)(E:a.heap.objs.size<=D)(YX:D≠C)(f1:∀b∈F,p8 X r f b)(ϐ:∀b∈F,b<a.heap.objs.size)(w:∀b o,a.heap.get? b=some o->g.get? b=some o)(J:g.Ns C m)(H:∃n,g.get? D=some { cls:=.type "list",data:=.seq ([]:hL).toArray n }):Inv (X.comp B scope Q C a f F) [] (nj h A s) (upd f D (.lst [])) { a with heap:=g,toks:=t }:=by
 obtain⟨na,H⟩:=H;have l:∀c v,a.heap.IsCell c v->g.IsCell c v:=λc v ⟨o,G,R⟩=>⟨o,w c o G,R⟩;refine⟨DZ T I N f1 ϐ,rfl,I.bare,Un.laid w E (I.Β.fresh E),⟨m,J,λi x v Y e2 e3=>?_⟩,λx c e=>?_,?_,λx c e=>?_,λp Z=>(by cases Z),I.Β.laid w E ?_,?_⟩
 .have hN:B[i]?=some x:=Y;have d:(nj h A s)[i]?=some (some v):=e2;unfold nj at d;by_cases O:i<h
  .rw[eJ (by simpa using O),jc]at d;simp[O]at d
  .obtain⟨k,rfl⟩:∃k,i=h+k:=⟨i-h,by lia⟩;rw[dc (by simp)]at d;simp only[b8,Nat.add_sub_cancel_left,aN]at d;obtain⟨j,S,U,M,P⟩:=T.outer k x hN;rw[S]at d;replace d:some (s[j]?.getD none)=some (some v):=d;have K:s[j]?=some (some v):=by
    cases q:s[j]? with
    | none=>rw[q]at d;simp at d
    | some y=>rw[q]at d;simpa using d
   obtain⟨m0,W,L⟩:=I.loc;obtain⟨u,V,lk⟩:=L j x v U K (.inr (.inl M));refine⟨u,V,.inr ⟨.inl P,?_⟩⟩;rcases lk with⟨z,_⟩|⟨_,c,hc,bV⟩
   .have z':X.env.scope.names.lookup x=some .local:=z;rw[M]at z';cases z'
   .obtain⟨c',Xg⟩:=T.has x (.inl P);have:=T.cells x c' Xg;rw[hc]at this;cases this;exact⟨c,Xg,l c _ bV⟩
 .obtain⟨v,z⟩:=I.cell x c (T.cells x c e);exact⟨v,l c v z⟩
 .show upd f D (.lst []) C=none;rw[aM (Ne.symm YX)];exact I.Β.fresh N
 .have e':=T.cells x c e;obtain⟨v,o,G,_⟩:=I.cell x c e';rw[aM (aV (aU (aK G) E))];exact I.ϔ x c e'
 .exact⟨cf _,[],na,.nil,H⟩
 .show(nj h A s).length=B.length;rw[T.len];simp[nj]
def ET{X:Cx}{x:hU}{h:Scope}{F:List (Str×Addr)}{f:hE}{t r:St}{d i:Hp}{c s':Shared}{C:Addr}{j:hH}{h':Heap}(I:Inv X f t d c)(B:c.heap.objs.size<=C)(p:∀b∈j,p8 X f d b)(l:Inv (X.comp x h F C c d j) [] r i s')(D:Heap.SameBut C s'.heap h'):Inv X f t i { s' with heap:=h' }:=by
 have u:Un (ϧ X.stack) j d i c.heap s'.heap:=l.base;have ne:∀b o,c.heap.get? b=some o->b≠C:=λb o e=>aV (aU (aK e) B);have k:∀b o,b≠C->s'.heap.get? b=some o->h'.get? b=some o:=λb o n e=>D.extBut b o n e;have E:Un (ϧ X.stack) j d i c.heap h':=⟨λb o e n g m=>k b o (ne b o e) (u.keep b o e n g m),λb o e n g m=>let ⟨sl,q⟩:=u.slot b o e n g m;⟨sl,k b _ (ne b o e) q⟩,u.free,λb o e m=>let ⟨o',q⟩:=u.there b o e m;⟨o',k b o' (ne b o e) q⟩,u.lT,u.gE,u.nE⟩
 have s:i C=none:=l.free;have A:ϰ X.prog X.w i h':=λa o e=>(l.Β a o e).lE (λb v g q=>k b v (λz=>by
  rcases g with y|y
  .rw[y]at z;rw[z,s]at e;cases e
  .rw[z,s]at y;cases y) q) (λ_ q=>q) λ_ _ q=>q
 exact I.V8 (s':={ s' with heap:=h' }) (ch:=j) l.os E A l.bare λb g=>⟨(p b g).2.2.2.1,(p b g).2.1,(p b g).2.2.2.2.1,(p b g).2.2.2.2.2⟩
def gG(hc:f.calm=true)(T:ϩ f Nc B D a g)(hi:PI f j k G)(hg:∀C P O M,PG (f.comp Nc a g C P O M) j L)(ht:∀C P O M,PTs (f.comp Nc a g C P O M) m F)(he:∀C P O M,PE (f.comp Nc a g C P O M) l E)(hs:∀x,foldedSetIterable k f.env x=pure x:=by intro _;rfl):PE f (.ListComp l [⟨j,k,m,0⟩] a z) (K9 B D G L F E):=by
 intro ac s σ H Q I h;rw[eval_ListComp];refine wpAny_comprehension_free (use:=none) rfl hs T.YV T.kind T.names (ϕ (hi ac s σ H _ I h) λv s1 h1=>ϕ h1 λdr K h2=>?_);obtain⟨it,M,tn,J,H1,rfl,I1,Tn,st,f1,R⟩:=h2;have Xq:∀b∈M,b<K.heap.objs.size:=λb N=>let ⟨o,e,_⟩:=Tn.obj _ _ st b N;aK e;refine fB (wpAny_newFunctionEnv T.U5 (by intro y hy;simp at hy) (λS iD Ϫ=>?_) T.kind);dsimp only at iD Ϫ ⊢;generalize YY:K.heap.push { cls:=.type "list",dict:=none,data:=.seq ([]:hL).toArray }=X at iD Ϫ ⊢;have hC:X.objs.size=K.heap.objs.size+1:=by rw[<-YY,d5]
 have YX:K.heap.objs.size≠X.objs.size:=by rw[hC];exact aV (fQ _)
 have Tr:K.heap.objs.size<=X.objs.size:=by rw[hC];exact gB _
 have b7:∀b,b<K.heap.objs.size->b≠X.objs.size:=λb N=>by rw[hC];exact aV (gm N)
 have a0:∀b o,K.heap.get? b=some o->S.get? b=some o:=λb o e=>Ϫ.extBut b o (b7 b (aK e)) (aB _ (YY▸aB _ e));have ϴ:∃n,S.get? K.heap.objs.size=some { cls:=.type "list",data:=.seq ([]:hL).toArray n }:=⟨_,Ϫ.extBut _ _ YX (aB _ (YY▸bc _ rfl))⟩;have UE:tn 0 S:=Tn.keep _ _ _ st λb _ o e=>a0 b o e;obtain⟨W,⟨m0,w0⟩,aT⟩:=R K.heap.objs.size I1.fresh;have Ic:=Gz (t:=K.toks+([]:List (Str×Value)).length) T I1 Tr (aJ _) YX f1 Xq a0 iD ϴ;generalize Xr:f.comp Nc a g X.objs.size K H1 M=Xc at Ic;have Y:∀{H':Hp},(∀b∈M,H' b=none)->∀b∈M,p8 Xc [] H' b:=λ{H'} hn b N=>by
  subst Xr;exact⟨hn b N,b7 b (Xq b N),(DZ T I1 Tr f1 Xq).T6 b N,.inl N,λx c e=>(f1 b N).2.2.2.2.1 x c (T.cells x c e),λp hp=>by cases hp⟩
 have bS:∀b∈M,upd H1 K.heap.objs.size (.lst []) b=none:=λb N=>by
  rw[aM (aV (Xq b N))];exact(f1 b N).1
 have cy:Xc.calm=true:=by subst Xr;exact hc
 have af:∀V:Shared,V={ K with heap:=S,toks:=K.toks+([]:List (Str×Value)).length }->codeAny (model f.prog f.w) f.A (.compLoop (.ListComp l [⟨j,k,m,0⟩] a z) 0 (.ref it) (.ref K.heap.objs.size) (compEnvC a g X.objs.size f.env))
  (compPost (model f.prog f.w) f.A f.xe none (EP f ac σ Q) (.ref K.heap.objs.size) X.objs.size) V:=by
  rintro V rfl;refine An (λn s'=>∃i ys av H',Inv Xc [] av H' s'/\tn i s'.heap/\(∀b∈M,H' b=none)/\W i n ys av H') ?_ m0 ⟨0,[],_,_,Ic,UE,bS,w0⟩;rintro n s3 ⟨i,ys,Z,H3,I3,VS,X1,w3⟩;rcases aT i n ys Z H3 w3 with⟨stop,q⟩|⟨go,step⟩
  .subst Xr;refine ϕ (Tn.done (f.comp Nc a g X.objs.size K H1 M) rfl rfl rfl hc i [] s3 Z H3 _ I3 (Y X1) VS stop) λr s4 ⟨hr,I4⟩=>?_;subst hr;obtain⟨m4,br,_⟩:=id I4.loc;exact⟨m4,br,λh' bm=>⟨.ref K.heap.objs.size,H3,ET I1 Tr f1 I4 bm,rfl,q⟩⟩
  .subst Xr;refine ϕ (Tn.item (f.comp Nc a g X.objs.size K H1 M) rfl rfl rfl hc i [] s3 Z H3 _ I3 (Y X1) VS go) λr s4 ⟨u,hr,h4⟩=>?_;subst hr;refine ϕ h4 λ_ s5 ⟨x,H5,I5,r5,y5,Wc,Z7⟩=>?_;have Z8:=I5.pinned (Y Z7) (Tn.obj _ _ Wc);have ae:∀{al:St}{H7:Hp}{s7:Shared},Inv (f.comp Nc a g X.objs.size K H1 M) ([]++wn M s5.heap) al H7 s7->Inv (f.comp Nc a g X.objs.size K H1 M) [] al H7 s7/\tn (i+1) s7.heap/\∀b∈M,H7 b=none:=λ{al H7 s7} I7=>by
    refine⟨I7.ϲ,Tn.keep _ _ _ Wc λb N o e=>(I7.pin (b,o) (bw _ (bw _ (pE N e)))).1,λb N=>?_⟩;obtain⟨o,e,d⟩:=Tn.obj _ _ Wc b N;exact(I7.pin (b,o) (bw _ (bw _ (pE N e)))).2.1
   refine ϕ (hg _ _ _ _ _ s5 Z H5 x u _ Z8 r5 (step x H5 y5)) λ_ s6 ⟨U,H6,I6,q6⟩=>?_;refine BA (ht _ _ _ _ _ s6 U H6 _ I6 q6) λok s7 H7 I7 q7=>?_;cases ok with
   | false=>
     rw[ah bj]at q7 ⊢;obtain⟨m',hm,w7⟩:=q7;obtain⟨J1,J2,J3⟩:=ae I7;exact⟨m',hm,i+1,ys,U,H7,J1,J2,J3,w7⟩
   | true=>
     rw[aj rfl]at q7 ⊢;refine eF (he _ _ _ _ _ s7 U H7 _ I7 q7) λy s8 yv H8 I8 r8 ⟨b1,b0,m',hm,w8⟩=>?_;refine ϕ (yc _ s8 U H8 (.ref K.heap.objs.size) [yv] _ [y] (λv' H'=>W (i+1) m' (ys++[yv]) U H') I8 rfl (.cons r8 .nil) ⟨_,ys,yv,rfl,rfl,b1,b0,w8⟩) λv9 s9 ⟨_,H9,I9,_,w9⟩=>?_;obtain⟨J1,J2,J3⟩:=ae I9;exact⟨m',hm,i+1,ys++[yv],U,H9,J1,J2,J3,w9⟩
 exact codeAny_compStart_list (af _ rfl) (Tn.self _ 0 _ _ _ UE (af _ rfl))
def T8:V->List V->Hp->VK->Prop:=λx b H Q=>∃(l:Addr)(a:List V)(i:Int)(y:V),x=.ref l/\b=[.int i,y]/\H l=some (.lst a)/\0<=i/\i<=a.length/\a.length<sizeLine/\Q .ο (upd H l (.lst (a.take i.toNat++y::a.drop i.toNat)))
def MZ:YL a "list.insert" T8:=by
 intro g s A H x K v C Q I k p h;obtain⟨l,E,i,y,rfl,rfl,j,G,B,D,q⟩:=h;cases k;obtain⟨L,c,rfl,⟨t,rfl⟩,w⟩:=p.two;obtain⟨z,b,n,r,o,e⟩:=I.U4 j;have J:=qN;have m:Builtin.List.listFitsIndex i=true:=by
  unfold Builtin.List.listFitsIndex;rw[bG];exact⟨bo (by lia),bo (by lia)⟩
 have f:¬(!Builtin.List.listFitsIndex i)=true:=by rw[m];decide
 have d:b.toArray.size<=sizeLine:=by rw[aR,<-o];exact z
 refine call_meets lC ⟨_,e,rfl⟩ PySem.F.entry_list_insert (PySem.F.args_list_insert_3 _ _ _) (PySem.AutoSeq1.list_insert_list_int_val_1 l b.toArray n i t c f d) ⟨e,?_⟩;refine⟨.ο,_,I.YM (its':=b.take i.toNat++c::b.drop i.toNat) j e ?_ ((r.take i.toNat).append (.cons w (r.drop i.toNat))) ?_,rfl,q⟩
 .show(b.toArray.extract 0 (if i<0 then(i+(b.toArray.size:Int)).toNat else min i.toNat b.toArray.size)).push c++b.toArray.extract (if i<0 then(i+(b.toArray.size:Int)).toNat else min i.toNat b.toArray.size)=_;have u:(if i<0 then(i+(b.toArray.size:Int)).toNat else min i.toNat b.toArray.size)=i.toNat:=by
   rw[ah (by lia),aR]
   lia
  rw[u];exact PySem.W.kl_ins_eq b i.toNat c
 .rw[aH,aO,bq,fP]
  lia
def tL:bY a (binaryOp .Mult) (rI (λi j=>IntMulOk i j) λi j=>.int (i*j)):=ZC λi j t u s Q E h q=>PyProof.Rows.mul_int q h
def QV(K:hB):List V->Hp->VK->Prop:=λd H Q=>∃x c t b,d=[x,c]/\Ge K H x t/\(∀a,RelV c a->PySem.W.kitOne K t a=some b)/\Q (.bl b) H
def IH:lh a (.builtin "isinstance") (QV a.K):=by
 intro d s l H n m Q I r h;obtain⟨x,c,t,b,rfl,j,f,q⟩:=h;obtain⟨u,k,rfl,i,g⟩:=La r;exact M7 I i j (f k g) λe=>⟨.bl b,H,I.tok e,rfl,q⟩
def G5(S:a.calm=true):lh a (.builtin "all") (λw H Q=>∃(p:Addr)(d:List Bool),w=[.ref p]/\ι a.K H p (d.map V.bl)/\Q (.bl (d.all id)) H):=by
 intro m s U H w W Q I r h;obtain⟨p,d,rfl,M,q⟩:=h;obtain⟨u,rfl,l⟩:=oF r;cases l;obtain⟨c,t,y,X⟩:=I.list M;have n:=y.isList;have N:=y.lt;have P:a.A.in1.handled=none:=I.ok.hd S;have f:c.length=d.length:=by rw[<-t.length,ag]
 refine call_all_walk (ig n ?_);refine⟨s.heap.objs.size,[s.heap.objs.size,p],[s.heap.objs.size],c.toArray.size,_,_,λi=>(d[i]?).getD true,rfl,Walks.list (A:=a.A.in1) P _ p (aV N) c.toArray,⟨⟨_,bc _ rfl,rfl,rfl⟩,n.push _⟩,λi v F G Y R j=>?_,λO E J=>?_⟩
 .have g:c[i]?=some v:=by simpa using R
  have B:i<d.length:=by rw[<-f];exact(ax.mp g).1
  obtain⟨u,D,l⟩:=t.get (i:=i) (x:=V.bl d[i]) (by rw[aN,az B];rfl);rw[g]at D;cases D;cases l;replace j:G (d[i]?.getD true) F:=j;rw[az B]at j;exact dA j
 .have e:((List.range c.toArray.size).all λi=>(d[i]?).getD true)=d.all id:=by
   rw[aR,f];rw[i9,eG,eG]
   constructor
   .intro z b hb;obtain⟨i,g,rfl⟩:=jW hb;have:=z i (cW.mpr g);rw[az g]at this;exact this
   .intro z i g;have C:=cW.mp g;rw[az C];exact z _ (dh C)
  have L:∀b o,s.heap.get? b=some o->O.get? b=some o:=λb o k=>J b o (λT=>by rw[aG.mp T]at k;exact cU _ (aK k)) (aB _ k);rw[e];exact⟨.bl _,H,I.kept (t':=E) L,rfl,q⟩
mutual
inductive Io(K:hB)(H:Hp):V->PyData->Prop
 | ο:Io K H .ο .none
 | bl (b:Bool):Io K H (.bl b) (.bool b)
 | int (i:Int):Io K H (.int i) (.int i)
 | str {x:Str}:PyData.canLay0 (.str x)=true->Io K H (.str x) (.str x)
 | lst {a:Addr} {xs:List V} {ds:List PyData}:ι K H a xs->ό K H xs ds->Io K H (.ref a) (.list ds)
 | tup {a:Addr} {xs:List V} {ds:List PyData}:Α K H a xs->ό K H xs ds->Io K H (.ref a) (.tuple ds)
inductive ό(K:hB)(H:Hp):List V->List PyData->Prop
 | nil:ό K H [] []
 | cons {x:V} {d:PyData} {xs:List V} {ds:List PyData}:Io K H x d->ό K H xs ds->ό K H (x::xs) (d::ds)
end
mutual
theorem Io.reads{X:Cx}{f:hE}{p:St}{H:Hp}{s:Shared}(I:Inv X f p H s):∀{x:V}{d:PyData}{u:Value},Io X.K H x d->RelV x u->(∃as,Reads s.heap u d as)/\d.canLay0=true
 | _,_,_,.ο,r=>by cases(show _=Value.none from r);exact⟨⟨_,.none⟩,by simp[PyData.canLay0]⟩
 | _,_,_,.bl b,r=>by cases(show _=Value.bool b from r);exact⟨⟨_,.bool b⟩,by simp[PyData.canLay0]⟩
 | _,_,_,.int i,r=>by obtain⟨t,e⟩:=(show ∃t,_=Value.int i t from r);cases e;exact⟨⟨_,.int i t⟩,by simp[PyData.canLay0]⟩
 | _,_,_,.str (x:=x) h,r=>by obtain⟨t,e⟩:=(show ∃t,_=Value.str x t from r);cases e;exact⟨⟨_,.str x t⟩,h⟩
 | _,_,_,.lst (a:=a) h hs,r=>by
   cases(show _=Value.ref a from r);obtain⟨k,g,⟨o,n,e,c,_,j⟩,q⟩:=I.list h;obtain⟨⟨as,l⟩,m⟩:=ό.reads I hs g;exact⟨⟨_,.list e c j (by simpa using l)⟩,by simpa[PyData.canLay0]using m⟩
 | _,_,_,.tup (a:=a) h hs,r=>by
   cases(show _=Value.ref a from r);obtain⟨k,g,⟨o,e,c,n,j⟩,q⟩:=I.tuple h;obtain⟨⟨as,l⟩,m⟩:=ό.reads I hs g;exact⟨⟨_,.tuple e c j (by simpa using l)⟩,by simpa[PyData.canLay0]using m⟩
theorem ό.reads{X:Cx}{a:hE}{e:St}{H:Hp}{s:Shared}(I:Inv X a e H s):∀{d:List V}{b:List PyData}{c:hL},ό X.K H d b->Vals d c->(∃as,ReadsAll s.heap c b as)/\PyData.canLayAll0 b=true
 | _,_,_,.nil,.nil=>⟨⟨_,.nil⟩,by simp[PyData.canLayAll0]⟩
 | _,_,_,.cons h hs,.cons r rs=>by
   obtain⟨⟨as,f⟩,i⟩:=Io.reads I h r;obtain⟨⟨k,j⟩,g⟩:=ό.reads I hs rs;exact⟨⟨_,.cons f j⟩,by simp[PyData.canLayAll0,i,g]⟩
end
def Rp(K:hB):R2:=λx y H Q=>∃d e,Io K H x d/\Io K H y e/\d.depth<=40/\Q (.bl (PyData.eqv d e)) H
def Nl(p:a.A.units+64<cLine):bY a (compareOp .Eq) (Rp a.K):=by
 intro b s m H x y v u Q I f i h;obtain⟨d,e,g,c,n,q⟩:=h;obtain⟨⟨as,l⟩,j⟩:=g.reads I f;obtain⟨⟨o,k⟩,cb⟩:=c.reads I i;exact PySem.SeqAt.compareEq_reads l k j cb (by lia) ⟨.bl _,H,I,rfl,q⟩
structure Le(P:Program)(w:World)(l:Addr)(ob:Obj)(src:Heap->Array Value->Prop)(at':Addr->Nat->Heap->Prop):Prop where
 start:∀(A:Around)(s:Shared)(vs:Array Value)(Q:gy)(E:gy),src s.heap vs->Q (.ref s.heap.objs.size) { s with heap:=s.heap.push ob }->wpAny (model P w) A (pyIter (.ref l)) Q E s
 first:∀it h,h.get? it=some ob->at' it 0 h
 atK:∀it i h h',at' it i h->(∀o,h.get? it=some o->h'.get? it=some o)->at' it i h'
 Ua:∀h h' vs,src h vs->(∀o,h.get? l=some o->h'.get? l=some o)->src h' vs
 obj:∀it i h,at' it i h->∃o,h.get? it=some o/\∀v,o.data≠.cell v
 item:∀(A:Around)(s:Shared)(it:Addr)(i:Nat)(vs:Array Value)(x:Value)(Q:gy)(E:gy),at' it i s.heap->src s.heap vs->vs[i]?=some x->(∀h',at' it (i+1) h'->Heap.SameBut it s.heap h'->Q x { s with heap:=h' })->wpAny (model P w) A (Builtin.SmallTypes.nextOf (.ref it)) Q E s
 fin:∀(A:Around)(s:Shared)(it:Addr)(i:Nat)(vs:Array Value)(Q:gy)(E:gy),A.handled=none->at' it i s.heap->src s.heap vs->vs[i]?=none->(∀h' e,Heap.ExtBut it s.heap h'->(∃o,h'.get? e=some o/\o.cls=.type "StopIteration")->E (.ref e) { s with heap:=h' })->wpAny (model P w) A (Builtin.SmallTypes.nextOf (.ref it)) Q E s
def Nj(l:Addr):Le a b l { cls:=.type "list_iterator",data:=.fields #[.ref l,.int 0 0] } (λh f=>h.IsList l f) (λc i h=>h.IsListIter c l i) where
 start:=λA s f Q E hl d=>ig hl d
 first:=λc h e=>⟨_,e,rfl,rfl⟩
 atK:=λc i h p x k=>x.at k
 Ua:=λh p f x k=>x.at k
 obj:=λc i h x=>by
  obtain⟨o,n,_,hd⟩:=x;exact⟨o,n,λv z=>by rw[hd]at z;cases z⟩
 item:=λA s c i f x Q E g m j d=>wpAny_nextOf_list_item g m j d
 fin:=λA s c i f Q E q g m j d=>wpAny_nextOf_list_end q g m j d
def zR(n:a.heap.IsTupleIter b c f)(t:a.heap.IsTuple c h)(u:h[f]?=some g)(s:∀p,p.IsTupleIter b c (f+1)->Heap.SameBut b a.heap p->i g { a with heap:=p }):wpAny (model d e) k (Builtin.SmallTypes.nextOf (.ref b)) i j a:=by
 obtain⟨v,m,o,l⟩:=id n;obtain⟨y,r,_,w,q⟩:=t;unfold Builtin.SmallTypes.nextOf;refine ao (wpAny_callSpecial?_slot (name:=Str.ofString "__next__") n.typeIs gK (jh gK n.typeIs kH ?_ (j7 _)));show wpAny (model d e) _ (field (.ref b) 0>>=_) _ _ a;refine ao (cQ m l (x:=.ref c) rfl ?_);show wpAny (model d e) _ (if(Value.ref c==Value.none)=true then _ else _) _ _ a;rw[ah (by exact bj)];show wpAny (model d e) _ (field (.ref b) 1>>=_) _ _ a;refine ao (cQ m l (x:=.int f 0) rfl ?_);show wpAny (model d e) _ (seqItems? (.ref c)>>=_) _ _ a;refine ao (eR r q ?_);simp only[dJ,u];refine ao (iY m l (by simp) (bh ⟨g,rfl,bh (s _ ?_ (Heap.SameBut.update ..))⟩));exact⟨_,fH _ m (iB (eZ l _)),(Obj.cls_mapFields ..).trans o,by rw[eZ l];simp[rawInt]⟩
def AN(u:i.handled=none)(n:b.heap.IsTupleIter c g j)(v:b.heap.IsTuple g h)(y:h[j]?=none)(z:∀q e,Heap.ExtBut c b.heap q->(∃o,q.get? e=some o/\o.cls=.type "StopIteration")->k (.ref e) { b with heap:=q }):wpAny (model d f) i (Builtin.SmallTypes.nextOf (.ref c)) l k b:=by
 obtain⟨A,p,w,t⟩:=id n;obtain⟨C,s,_,B,r⟩:=v;unfold Builtin.SmallTypes.nextOf;refine ao (wpAny_callSpecial?_slot (name:=Str.ofString "__next__") n.typeIs gK (jh gK n.typeIs kH ?_ (j7 _)));show wpAny (model d f) _ (field (.ref c) 0>>=_) _ _ b;refine ao (cQ p t (x:=.ref g) rfl ?_);show wpAny (model d f) _ (if(Value.ref g==Value.none)=true then _ else _) _ _ b;rw[ah (by exact bj)];show wpAny (model d f) _ (field (.ref c) 1>>=_) _ _ b;refine ao (cQ p t (x:=.int j 0) rfl ?_);show wpAny (model d f) _ (seqItems? (.ref g)>>=_) _ _ b;refine ao (eR s r ?_);simp only[dJ,y];refine ao (mq (ao (iY p t (by simp) ?_)));show wpAny (model d f) _ (newExc (.type "StopIteration") []>>=_) _ _ _;refine ao ?_;simp only[newExc,newTuple];refine ao (fB ?_ (by size_fits));refine ao (m:=firstArgMember _ _) (wpAny_of_eq (a:=Value.none) (by first|rfl|(simp only[firstArgMember];rfl)) ?_);refine fB ?_ (by size_fits);simp only[raiseNew];refine ao (wpAny_handled ?_)
 first|rw[show i.in1.handled=none from u]|rw[u]
 refine ao (bh (wpAny_throw ?_));exact z _ _ (((Heap.SameBut.update ..).extBut.push _).push _) ⟨_,bc _ rfl,rfl⟩
def PX(l:Addr):Le a b l { cls:=.type "tuple_iterator",data:=.fields #[.ref l,.int 0 0] } (λh g=>h.IsTuple l g) (λc i h=>h.IsTupleIter c l i) where
 start:=λA s g Q E hl d=>ku hl d
 first:=λc h e=>⟨_,e,rfl,rfl⟩
 atK:=λc i h p x k=>let ⟨o,f,r⟩:=x;⟨o,k o f,r⟩
 Ua:=λh p g x k=>let ⟨o,f,r⟩:=x;⟨o,k o f,r⟩
 obj:=λc i h x=>by
  obtain⟨o,f,_,hd⟩:=x;exact⟨o,f,λv z=>by rw[hd]at z;cases z⟩
 item:=λA s c i g x Q E j n m d=>zR j n m d
 fin:=λA s c i g Q E q j n m d=>AN q j n m d
structure ZAp(z TI TO i1 i2 l1 l2:Addr):Prop where
 a1:TI≠z
 a2:TO≠z
 a3:i1≠z
 a4:i2≠z
 a5:TI≠TO
 a6:TI≠i1
 a7:TI≠i2
 a8:TO≠i1
 a9:TO≠i2
 a0:i1≠i2
 b1:l1≠z/\l1≠TO/\l1≠i1/\l1≠i2
 b2:l2≠z/\l2≠TO/\l2≠i1/\l2≠i2
def Hv{P:Program}{w:World}{A:Around}{E:gy}{s:Shared}{l1:Addr}{l2:Addr}{U6:Obj}{U7:Obj}{Vy:Heap->Array Value->Prop}{Wj:Heap->Array Value->Prop}{H:Addr->Nat->Heap->Prop}{g:Addr->Nat->Heap->Prop}(F:Le P w l1 U6 Vy H)(r:Le P w l2 U7 Wj g){z TI TO f h:Addr}{C B:Nat}{M O:Array Value}{x y a b:Value}{Q:gy}(D:ZAp z TI TO f h l1 l2)(q:IsZip s.heap z TI TO .none)(HI:IsPair s.heap TI (.ref f) (.ref h))(K:IsPair s.heap TO a b)(p1:H f C s.heap)(p2:g h B s.heap)(q1:Vy s.heap M)(q2:Wj s.heap O)(hx:M[C]?=some x)(hy:O[B]?=some y)(hQ:∀i,IsZip i z TI TO (rawInt s.heap.objs.size)->IsPair i TO x y->H f (C+1) i->g h (B+1) i->IsPair i s.heap.objs.size x y->i.objs.size=s.heap.objs.size+1->(∀c o,c≠z->c≠TO->c≠f->c≠h->s.heap.get? c=some o->i.get? c=some o)->Q (.ref s.heap.objs.size) { s with heap:=i }):wpAny (model P w) A (Builtin.«zip.__next__» ⟨[.ref z],[]⟩) (λfn s'=>∃v,fn=.done (.ret v)/\Q v s') E s:=by
 show wpAny (model P w) _ (field (.ref z) 2>>=_) _ _ _;refine ao (cQ q rfl (x:=.bool false) rfl ?_);show wpAny (model P w) _ (field (.ref z) 3>>=_) _ _ _;refine ao (cQ q rfl (x:=.ref TI) rfl ?_);refine ao (eR HI rfl ?_);show wpAny (model P w) _ (Builtin.SmallTypes.ownedTupleIsFree (.ref z)>>=_) _ _ _;refine ao ?_;unfold Builtin.SmallTypes.ownedTupleIsFree;refine ao (cQ q rfl (x:=.none) rfl (bh ?_));simp only[if_true];refine ao (mq ?_);refine ao (cQ q rfl (x:=.ref TO) rfl ?_);refine ao (fZ q (by simp) λg1 L j=>?_);replace L:IsZip g1 z TI TO .ellipsis:=L;refine ao ?_;simp only[List.zipIdx_cons,List.zipIdx_nil,mE,List.forIn_nil];refine ao (ao (kC ?_));show wpAny (model P w) _ (Builtin.SmallTypes.nextOf (.ref f)>>=_) _ _ _;refine ao (F.item _ { s with heap:=g1 } f C M x _ _ (F.atK _ _ _ _ p1 λo e=>j.extBut _ _ D.a3 e) (F.Ua _ _ _ q1 λo e=>j.extBut _ _ D.b1.1 e) hx λg2 R m=>bh ?_);have o2:IsPair g2 TO a b:=m.extBut _ _ D.a8 (j.extBut _ _ D.a2 K);refine ao (eR o2 rfl ?_);refine ao (jQ o2 λg3 W l=>?_);replace W:IsPair g3 TO x b:=W;refine ao (lZ (bh ?_));refine ao (ao (kC ?_));show wpAny (model P w) _ (Builtin.SmallTypes.nextOf (.ref h)>>=_) _ _ _;refine ao (r.item _ { s with heap:=g3 } h B O y _ _ (r.atK _ _ _ _ p2 λo e=>l.extBut _ _ D.a9.symm (m.extBut _ _ D.a0.symm (j.extBut _ _ D.a4 e))) (r.Ua _ _ _ q2 λo e=>l.extBut _ _ D.b2.2.1 (m.extBut _ _ D.b2.2.2.1 (j.extBut _ _ D.b2.1 e))) hy λg4 Z u=>bh ?_);have o4:IsPair g4 TO x b:=u.extBut _ _ D.a9 W;refine ao (eR o4 rfl ?_);refine ao (jQ o4 λd I n=>?_);replace I:IsPair d TO x y:=I;refine ao (lZ (bh (bh ?_)));refine ao (eR I rfl ?_);refine ao (wpAny_newTuple ?_);have sz:d.objs.size=s.heap.objs.size:=by rw[n.1,u.1,l.1,m.1,j.1]
 have z5:IsZip d z TI TO .ellipsis:=n.extBut _ _ D.a2.symm (u.extBut _ _ D.a4.symm (l.extBut _ _ D.a2.symm (m.extBut _ _ D.a3.symm L)));have k5:∀c o,c≠z->c≠TO->c≠f->c≠h->s.heap.get? c=some o->d.get? c=some o:=λc o k G U V e=>
  n.extBut _ _ G (u.extBut _ _ V (l.extBut _ _ G (m.extBut _ _ U (j.extBut _ _ k e))))
 have S:H f (C+1) d:=F.atK _ _ _ _ R λo e=>n.extBut _ _ D.a8.symm (u.extBut _ _ D.a0 (l.extBut _ _ D.a8.symm e));have Y:g h (B+1) d:=r.atK _ _ _ _ Z λo e=>n.extBut _ _ D.a9.symm e;have t:z<d.objs.size:=aK z5;show wpAny (model P w) _ (Builtin.SmallTypes.ownedTupleHandOut (.ref z) (.ref d.objs.size)>>=_) _ _ _;refine ao ?_;unfold Builtin.SmallTypes.ownedTupleHandOut;have z6:IsZip (d.push { cls:=.type "tuple",data:=.seq #[x,y] }) z TI TO .ellipsis:=aB _ z5;refine ao (fZ z6 (by simp) λg7 N X=>?_);replace N:IsZip g7 z TI TO (rawInt d.objs.size):=N;refine fZ N (by simp) λp J T=>?_;replace J:IsZip p z TI TO (rawInt d.objs.size):=J;have up:∀c o,c≠z->d.get? c=some o->p.get? c=some o:=λc o k e=>T.extBut _ _ k (X.extBut _ _ k (aB _ e));have t8:IsPair p d.objs.size x y:=T.extBut _ _ (eC t) (X.extBut _ _ (eC t) (bc _ rfl));have s8:p.objs.size=d.objs.size+1:=by rw[T.1,X.1,d5]
 rw[sz]at J t8 s8;refine bh ⟨_,rfl,?_⟩;show Q (.ref d.objs.size) _;rw[sz];exact hQ p J (up _ _ D.a2 I) (F.atK _ _ _ _ S λo e=>up _ o D.a3 e) (r.atK _ _ _ _ Y λo e=>up _ o D.a4 e) t8 s8 λc o k G U V e=>up c o k (k5 c o k G U V e)
def IB{P:Program}{w:World}{A:Around}{E:gy}{s:Shared}{l1:Addr}{V:Addr}{U6:Obj}{U7:Obj}{K:Heap->Array Value->Prop}{Wj:Heap->Array Value->Prop}{M:Addr->Nat->Heap->Prop}{y:Addr->Nat->Heap->Prop}(G:Le P w l1 U6 K M)(N:Le P w V U7 Wj y){z TI TO f n:Addr}{l F:Nat}{m B:Array Value}{a b:Value}{Q:Fin->Shared->Prop}(hh:A.handled=none)(D:ZAp z TI TO f n l1 V)(u:IsZip s.heap z TI TO .none)(HI:IsPair s.heap TI (.ref f) (.ref n))(H:IsPair s.heap TO a b)(p1:M f l s.heap)(p2:y n F s.heap)(q1:K s.heap m)(q2:Wj s.heap B)(Xu:m[l]?=none\/B[F]?=none)(Y:∀R e,(∀c o,c≠z->c≠TO->c≠f->c≠n->s.heap.get? c=some o->R.get? c=some o)->(∃o,R.get? e=some o/\o.cls=.type "StopIteration")->E (.ref e) { s with heap:=R }):wpAny (model P w) A (Builtin.«zip.__next__» ⟨[.ref z],[]⟩) Q E s:=by
 show wpAny (model P w) _ (field (.ref z) 2>>=_) _ _ _;refine ao (cQ u rfl (x:=.bool false) rfl ?_);show wpAny (model P w) _ (field (.ref z) 3>>=_) _ _ _;refine ao (cQ u rfl (x:=.ref TI) rfl ?_);refine ao (eR HI rfl ?_);show wpAny (model P w) _ (Builtin.SmallTypes.ownedTupleIsFree (.ref z)>>=_) _ _ _;refine ao ?_;unfold Builtin.SmallTypes.ownedTupleIsFree;refine ao (cQ u rfl (x:=.none) rfl (bh ?_));simp only[if_true];refine ao (mq ?_);refine ao (cQ u rfl (x:=.ref TO) rfl ?_);refine ao (fZ u (by simp) λr C j=>?_);replace C:IsZip r z TI TO .ellipsis:=C;refine ao ?_;simp only[List.zipIdx_cons,List.zipIdx_nil,mE,List.forIn_nil];refine ao (ao (kC ?_));show wpAny (model P w) _ (Builtin.SmallTypes.nextOf (.ref f)>>=_) _ _ _;have p:M f l r:=G.atK _ _ _ _ p1 λo e=>j.extBut _ _ D.a3 e;have v:K r m:=G.Ua _ _ _ q1 λo e=>j.extBut _ _ D.b1.1 e;cases hx:m[l]? with
 | none=>
   refine ao (G.fin _ { s with heap:=r } f l m _ _ hh p v hx λO e g I=>?_);obtain⟨S,k,d⟩:=I;have W:IsZip O z TI TO .ellipsis:=g _ _ D.a3.symm C;have L:e≠z:=λt=>by subst t;rw[W]at k;cases k;simp at d
   refine fZ W (by simp) λJ _ i=>Y J e (λc o q _ T _ t=>i.extBut _ _ q (g _ _ T (j.extBut _ _ q t))) ⟨S,i.extBut _ _ L k,d⟩
 | some x=>
   have hy:B[F]?=none:=by
    rcases Xu with h|h
    .rw[hx]at h;cases h
    .exact h
   refine ao (G.item _ { s with heap:=r } f l m x _ _ p v hx λO af g=>bh ?_);have Z:IsPair O TO a b:=g.extBut _ _ D.a8 (j.extBut _ _ D.a2 H);refine ao (eR Z rfl ?_);refine ao (jQ Z λJ o3 i=>?_);refine ao (lZ (bh ?_));refine ao (ao (kC ?_));show wpAny (model P w) _ (Builtin.SmallTypes.nextOf (.ref n)>>=_) _ _ _;refine ao (N.fin _ { s with heap:=J } n F B _ _ hh (N.atK _ _ _ _ p2 λo e=>i.extBut _ _ D.a9.symm (g.extBut _ _ D.a0.symm (j.extBut _ _ D.a4 e))) (N.Ua _ _ _ q2 λo e=>i.extBut _ _ D.b2.2.1 (g.extBut _ _ D.b2.2.2.1 (j.extBut _ _ D.b2.1 e))) hy λg4 e U I=>?_);obtain⟨S,k,d⟩:=I;have z4:IsZip g4 z TI TO .ellipsis:=U _ _ D.a4.symm (i.extBut _ _ D.a2.symm (g.extBut _ _ D.a3.symm C));have L:e≠z:=λt=>by subst t;rw[z4]at k;cases k;simp at d
   refine fZ z4 (by simp) λg5 _ X=>Y g5 e (λc o q c2 T c4 t=>X.extBut _ _ q (U _ _ c4 (i.extBut _ _ c2 (g.extBut _ _ T (j.extBut _ _ q t))))) ⟨S,X.extBut _ _ L k,d⟩
abbrev zp1(h:Heap)(a b:Obj):Heap:=(h.push a).push b
abbrev zp2(h:Heap)(a b:Obj):Heap:=(zp1 h a b).push { cls:=.type "tuple",data:=.seq #[.ref h.objs.size,.ref (h.push a).objs.size] }
abbrev zp3(h:Heap)(a b:Obj):Heap:=(zp2 h a b).push { cls:=.type "tuple",data:=.seq #[.none,.none] }
abbrev ZF(h:Heap)(a b:Obj):Heap:=(zp3 h a b).push { cls:=.type "zip",data:=.fields #[.none,.bool false,.bool false,.ref (zp1 h a b).objs.size,.ref (zp2 h a b).objs.size] }
def FH(D:∀P w,Le P w j b c l)(u:∀P w,Le P w i f a k)(ne:∀h C,a h C->∃o,h.get? i=some o)(t q:Array Value):Meets (Builtin.«zip.__new__» ⟨[.type "zip",.ref j,.ref i],[]⟩) (λ_ R s=>c s.heap t/\a s.heap q/\R (.ok (.ret (.ref (zp3 s.heap b f).objs.size))) { s with heap:=ZF s.heap b f }):=.of_wp λm w A R s n=>by
 obtain⟨v,g,d,p,os⟩:=s;obtain⟨B,E,r⟩:=n;have z:=sub_zip;have y:c (Shared.heap ⟨v,g,d,p,os⟩) t:=B;have x:a (Shared.heap ⟨v.push b,g,d,p,os⟩) q:=(u m w).Ua _ _ _ E λo e=>aB _ e
 wp_walk using ((D m w).start _ _ _ _ _ y),((u m w).start _ _ _ _ _ x)
 exact⟨_,rfl,r⟩
def Ox{s:Shared}(B:∀P w,Le P w m a f j)(z:∀P w,Le P w g b d i)(ne:∀h I,d h I->∃o,h.get? g=some o){Q:gy}(H:f s.heap l)(K:d s.heap k)(h:∀q,IsZip q (s.heap.objs.size+4) (s.heap.objs.size+2) (s.heap.objs.size+3) .none->IsPair q (s.heap.objs.size+2) (.ref s.heap.objs.size) (.ref (s.heap.objs.size+1))->IsPair q (s.heap.objs.size+3) .none .none->j s.heap.objs.size 0 q->i (s.heap.objs.size+1) 0 q->(∀c o,s.heap.get? c=some o->q.get? c=some o)->Q (.ref (s.heap.objs.size+4)) { s with heap:=q })(J:a.isFreed=false)(G:b.isFreed=false):wpAny (model P w) p (call (.type "zip") [.ref m,.ref g]) Q n s:=by
 refine callType_new F.called_zip (by decide) (F.typeCall_zip_2 _ _) (F.newCall_zip_2 _ _) (λt=>F.args_object_init_3 t _ _) F.entry_zip_new (FH B z ne l k) ⟨H,K,?_⟩;have r:(s.heap.push a).objs.size=s.heap.objs.size+1:=d5 ..;have v:(zp1 s.heap a b).objs.size=s.heap.objs.size+2:=by rw[d5,r]
 have u:(zp2 s.heap a b).objs.size=s.heap.objs.size+3:=by rw[d5,v]
 have y:(zp3 s.heap a b).objs.size=s.heap.objs.size+4:=by rw[d5,u]
 have x:(ZF s.heap a b).get? (zp3 s.heap a b).objs.size=some _:=bc _ rfl;have D:(ZF s.heap a b).get? (zp2 s.heap a b).objs.size=some _:=aB _ (bc _ rfl);have A:(ZF s.heap a b).get? (zp1 s.heap a b).objs.size=some _:=aB _ (aB _ (bc _ rfl));have C:(ZF s.heap a b).get? (s.heap.push a).objs.size=some b:=aB _ (aB _ (aB _ (bc _ G)));have E:(ZF s.heap a b).get? s.heap.objs.size=some a:=aB _ (aB _ (aB _ (aB _ (bc _ J))));show _/\_;rw[v,u,y]at x;rw[r,v]at A;rw[u]at D;rw[r]at C;rw[y];exact⟨⟨_,x,rfl⟩,h _ x A D ((B P w).first _ _ E) ((z P w).first _ _ C) λc o e=>aB _ (aB _ (aB _ (aB _ (aB _ e))))⟩
def Ω(K:hB):Bool->Hp->Addr->List V->Prop
 | true,H,a,xs=>ι K H a xs
 | false,H,a,xs=>Α K H a xs
def Itz(K:hB)(c d:Bool)(a b:Addr):It:=⟨λi H=>∃f e x y,Ω K c H a f/\Ω K d H b e/\f[i]?=some x/\e[i]?=some y,λi H v g=>∃p x y,H p=none/\v=.ref p/\g=upd H p (.tup [x,y])/\(∀f,Ω K c H a f->f[i]?=some x)/\∀e,Ω K d H b e->e[i]?=some y,λi H=>∃f e,Ω K c H a f/\Ω K d H b e/\(f.length<=i\/e.length<=i)⟩
def Sd(a:Addr):Bool->Obj
 | true=>{ cls:=.type "list_iterator",data:=.fields #[.ref a,.int 0 0] }
 | false=>{ cls:=.type "tuple_iterator",data:=.fields #[.ref a,.int 0 0] }
def KN(a:Addr):Bool->Heap->Array Value->Prop
 | true,h,vs=>h.IsList a vs
 | false,h,vs=>h.IsTuple a vs
def zAt(a:Addr):Bool->Addr->Nat->Heap->Prop
 | true,it,i,h=>h.IsListIter it a i
 | false,it,i,h=>h.IsTupleIter it a i
def kq(a:Addr)(c:Bool)(P:Program)(w:World):Le P w a (Sd a c) (KN a c) (zAt a c):=by
 cases c
 .exact PX a
 .exact Nj a
def xW(a:Addr)(c:Bool):(Sd a c).isFreed=false:=by cases c<;>rfl
def sR(a:Addr)(c:Bool)(h:Heap)(b:Array Value)(e:KN a c h b):∃o,h.get? a=some o:=by
 cases c
 .obtain⟨o,ho,_⟩:=e;exact⟨o,ho⟩
 .obtain⟨o,ho,_⟩:=e;exact⟨o,ho⟩
def Inv.ϫ{X:Cx}{d:hE}{f:St}{H:Hp}{s:Shared}{c:Bool}{a:Addr}{e:List V}(I:Inv X d f H s)(h:Ω X.K c H a e):∃b:List Value,Vals e b/\KN a c s.heap b.toArray:=by
 cases c with
 | true=>
   obtain⟨b,r,j,_⟩:=I.list h;exact⟨b,r,j.isList⟩
 | false=>
   obtain⟨b,r,⟨o,i,k,n,g⟩,_⟩:=I.tuple h;exact⟨b,r,⟨o,i,k,n,g⟩⟩
def Inv.Ub{X:Cx}{b:hE}{g:St}{H:Hp}{s:Shared}{c:Bool}{a:Addr}{f e:List V}(I:Inv X b g H s)(h:Ω X.K c H a f)(d:Ω X.K c H a e):f=e:=by
 cases c with
 | true=>exact I.ϱ h d
 | false=>exact I.TL h d
def Og{P:Program}{w:World}{K:hB}{ab:List Expr}{x1}{UG:Pos}(c d:Bool)(a b z TI TO i1 i2:Addr)(D:ZAp z TI TO i1 i2 a b):Turn P w K (.Tuple ab x1 UG) (Itz K c d a b) [z,TI,TO,i1,i2] z (λi h=>IsZip h z TI TO .none/\IsPair h TI (.ref i1) (.ref i2)/\(∃u v,IsPair h TO u v)/\zAt a c i1 i h/\zAt b d i2 i h) where
 mem:=by simp
 obj:=λi h t e he=>by
  obtain⟨t1,J,⟨u,v,M⟩,L,N⟩:=t;simp only[aE,dL,or_false]at he;rcases he with rfl|rfl|rfl|rfl|rfl
  .exact⟨_,t1,λv z=>by cases z⟩
  .exact⟨_,J,λv z=>by cases z⟩
  .exact⟨_,M,λv z=>by cases z⟩
  .exact(kq a c P w).obj _ _ _ L
  .exact(kq b d P w).obj _ _ _ N
 keep:=λi h h' t k=>by
  obtain⟨t1,J,⟨u,v,M⟩,L,N⟩:=t;exact⟨k z (by simp) _ t1,k TI (by simp) _ J,⟨u,v,k TO (by simp) _ M⟩,(kq a c P w).atK _ _ _ _ L λo e=>k i1 (by simp) o e,(kq b d P w).atK _ _ _ _ N λo e=>k i2 (by simp) o e⟩
 item:=λX e1 e2 e3 hc i B s σ H E I f t g=>by
  subst e1 e2 e3;obtain⟨t1,J,⟨u,v,M⟩,L,N⟩:=t;obtain⟨xs,ys,x,y,s1,s2,hx,hy⟩:=g;obtain⟨us,r1,q1⟩:=I.ϫ s1;obtain⟨vs,r2,q2⟩:=I.ϫ s2;obtain⟨xu,bd,rx⟩:=r1.get hx;obtain⟨yu,ak,ry⟩:=r2.get hy;have Y:s.TypeIs (.ref z) "zip":=⟨_,t1,rfl⟩;unfold pyNext;refine ao (wpAny_attempt (wpAny_callSpecial?_slot (name:=Str.ofString "__next__") Y jU (jh jU Y F.entry_zip_next
   (Hv (kq a c _ _) (kq b d _ _) D t1 J M L N q1 q2 (x:=xu) (y:=yu) (by simpa using bd) (by simpa using ak) λh' w1 w2 w3 w4 w5 w6 w7=>bh ?_) (F.args_zip_next_1 _))))
  refine⟨_,rfl,wpAny_letOwnedTupleGo_zip w1 λZ n1 S=>?_⟩;have G:∀q∈[z,TI,TO,i1,i2],p8 X B H q:=f;have ba:s.heap.objs.size≠z:=eC (aK t1);have new:IsPair Z s.heap.objs.size xu yu:=S.extBut _ _ ba w5;have kp:∀q o,q∉[z,TI,TO,i1,i2]->s.heap.get? q=some o->Z.get? q=some o:=λq o j e=>by
   simp only[aE,dL,or_false,not_or]at j;exact S.extBut _ _ j.1 (w7 q o j.1 j.2.2.1 j.2.2.2.1 j.2.2.2.2 e)
  have a8:Z.get? TI=some _:=S.extBut _ _ D.a1 (w7 TI _ D.a1 D.a5 D.a6 D.a7 J);have U:∀q u,H q=some u->q∉[z,TI,TO,i1,i2]:=λq u e j=>by rw[(G q j).1]at e;cases e
  have C:Inv X B σ H { s with heap:=Z }:=by
   refine I.step (g':=s.gens) (d':=s.drawn) (t':=s.toks) (ch:=[z,TI,TO,i1,i2]) (λq j=>⟨(G q j).2.2.2.1,(G q j).2.1,(G q j).2.2.2.2.1,(G q j).2.2.2.2.2⟩) (λq o _ _ j e _=>kp q o j e) (λq o _ _ j e _=>⟨o.slots,kp q o j e⟩) (λ_ _ _ _ n=>n)
    (λq o j e=>⟨o,kp q o j e⟩) (λ_ _ e=>e) (λ_ _ _ e=>e) (λq ps e=>⟨#[],by rw[e];simp⟩) (λm hm=>?_) (λq u e=>?_) I.bare
   .obtain⟨o,es,ep,O,r⟩:=hm;exact⟨o,es,ep,kp _ o (λj=>(G _ j).2.1 rfl) O,r⟩
   .refine(I.Β q u e).lE (λV v Ti l=>kp V v ?_ l) (λ_ l=>l) λ_ _ l=>l;rcases Ti with rfl|Ti
    .exact U _ u e
    .exact U _ _ Ti
  have R:H s.heap.objs.size=none:=I.fresh;have I3:Inv X B σ (upd H s.heap.objs.size (.tup [x,y])) { s with heap:=Z }:=by
   refine⟨C.ok,C.os,C.bare,?_,C.loc,C.cell,?_,λn c e=>?_,λp hp=>?_,λq u e=>?_,C.len⟩
   .refine⟨C.base.keep,C.base.slot,λq o e n hx=>?_,C.base.there,λq xs e=>?_,λq o u e=>?_,λq ps e=>?_⟩
    .have lt:q<X.s₀.heap.objs.size:=aK e;rw[aM (aV (aU lt I.sz))];exact C.base.free q o e n hx
    .have l:=C.base.lT q xs e;rw[aM (λz=>by rw[z,R]at l;cases l)];exact l
    .have l:=C.base.gE q o u e;rw[aM (λz=>by rw[z,R]at l;cases l)];exact l
    .obtain⟨more,l⟩:=C.base.nE q ps e;exact⟨more,by rw[aM (λz=>by rw[z,R]at l;cases l)];exact l⟩
   .rw[aM (aV I.lt)];exact C.free
   .obtain⟨vv,o,O,_⟩:=I.cell n c e;rw[aM (aV (aK O))];exact C.ϔ n c e
   .obtain⟨k1,k2,k3⟩:=I.pin p hp;rw[aM (aV (aK k1))];exact C.pin p hp
   .by_cases j:q=s.heap.objs.size
    .subst j;rw[au]at e;cases e;exact⟨by show 2<=sizeLine;decide,[xu,yu],.cons rx (.cons ry .nil),_,new,rfl,_,rfl⟩
    .rw[aM j]at e;refine(C.Β q u e).lE (λ_ _ _ l=>l) (λV l=>?_) λV xs l=>?_
     .rw[aM (λz=>by rw[z,R]at l;cases l)];exact l
     .rw[aM (λz=>by rw[z,R]at l;cases l)];exact l
  refine⟨.ref s.heap.objs.size,_,I3,rfl,⟨_,x,y,R,rfl,rfl,λco q=>?_,λϮ q=>?_⟩,⟨n1,a8,⟨_,_,S.extBut _ _ D.a2 w2⟩,(kq a c X.prog X.w).atK _ _ _ _ w3 λo e=>S.extBut _ _ D.a3 e,(kq b d X.prog X.w).atK _ _ _ _ w4 λo e=>S.extBut _ _ D.a4 e⟩,λq j=>?_⟩
  .rw[<-I.Ub s1 q];exact hx
  .rw[<-I.Ub s2 q];exact hy
  .have ϐ:q<s.heap.objs.size:=by
    simp only[aE,dL,or_false]at j;rcases j with rfl|rfl|rfl|rfl|rfl
    .exact aK t1
    .exact aK J
    .exact aK M
    .exact let ⟨o,e,_⟩:=(kq a c X.prog X.w).obj _ _ _ L;aK e
    .exact let ⟨o,e,_⟩:=(kq b d X.prog X.w).obj _ _ _ N;aK e
   rw[aM (aV ϐ)];exact(G q j).1
 done:=λX e1 e2 e3 hc i B s σ H E I f t g=>by
  subst e1 e2 e3;obtain⟨t1,J,⟨u,v,M⟩,L,N⟩:=t;obtain⟨xs,ys,s1,s2,Xu⟩:=g;obtain⟨us,r1,q1⟩:=I.ϫ s1;obtain⟨vs,r2,q2⟩:=I.ϫ s2;have G:∀q∈[z,TI,TO,i1,i2],p8 X B H q:=f;have hh:X.A.handled=none:=I.ok.hd hc;have Y:s.TypeIs (.ref z) "zip":=⟨_,t1,rfl⟩;have bk:us.toArray[i]?=none\/vs.toArray[i]?=none:=by
   rcases Xu with e|e
   .exact .inl (by have:=r1.length;simp;lia)
   .exact .inr (by have:=r2.length;simp;lia)
  unfold pyNext;refine ao (wpAny_attempt (wpAny_callSpecial?_slot (name:=Str.ofString "__next__") Y jU (jh jU Y F.entry_zip_next
   (IB (kq a c _ _) (kq b d _ _) hh D t1 J M L N q1 q2 bk λh' e hk he=>?_) (F.args_zip_next_1 _))))
  obtain⟨o,O,ai⟩:=he;refine ao (wpAny_isInstance (T:="StopIteration") (b:=true) ⟨o,O,ai⟩ isSubtype_stop (bh ⟨rfl,?_⟩));have kp:∀q o,q∉[z,TI,TO,i1,i2]->s.heap.get? q=some o->h'.get? q=some o:=λq o j e=>by
   simp only[aE,dL,or_false,not_or]at j;exact hk q o j.1 j.2.2.1 j.2.2.2.1 j.2.2.2.2 e
  have U:∀q u,H q=some u->q∉[z,TI,TO,i1,i2]:=λq u e j=>by rw[(G q j).1]at e;cases e
  refine I.step (g':=s.gens) (d':=s.drawn) (t':=s.toks) (ch:=[z,TI,TO,i1,i2]) (λq j=>⟨(G q j).2.2.2.1,(G q j).2.1,(G q j).2.2.2.2.1,(G q j).2.2.2.2.2⟩) (λq o _ _ j e _=>kp q o j e) (λq o _ _ j e _=>⟨o.slots,kp q o j e⟩) (λ_ _ _ _ n=>n)
   (λq o j e=>⟨o,kp q o j e⟩) (λ_ _ e=>e) (λ_ _ _ e=>e) (λq ps e=>⟨#[],by rw[e];simp⟩) (λm hm=>?_) (λq u e=>?_) I.bare
  .obtain⟨o,es,ep,O,r⟩:=hm;exact⟨o,es,ep,kp _ o (λj=>(G _ j).2.1 rfl) O,r⟩
  .refine(I.Β q u e).lE (λV v Ti l=>kp V v ?_ l) (λ_ l=>l) λ_ _ l=>l;rcases Ti with rfl|Ti
   .exact U _ u e
   .exact U _ _ Ti
 self:=λA i s Q E t q=>wpAny_pyIter_zip t.1 q
def Inv.aax{X:Cx}{f:hE}{j:St}{H:Hp}{i:Hp}{s:Shared}{l:Shared}{a:Addr}{o:HO}(I:Inv X f j H s)(d:Inv X f j i l)(h:s.heap.objs.size<=a)(g:i a=none)(m:Μ X.prog X.w (upd i a o) l.heap a o):Inv X f j (upd i a o) l:=by
 refine⟨d.ok,d.os,d.bare,?_,d.loc,d.cell,?_,λn c e=>?_,λp t=>?_,λq u e=>?_,d.len⟩
 .refine⟨d.base.keep,d.base.slot,λq k e n v=>?_,d.base.there,λq r e=>?_,λq k u e=>?_,λq y e=>?_⟩
  .rw[aM (aV (aU (aU (aK e) I.sz) h))];exact d.base.free q k e n v
  .have b:=d.base.lT q r e;rw[aM (λz=>by rw[z,g]at b;cases b)];exact b
  .have b:=d.base.gE q k u e;rw[aM (λz=>by rw[z,g]at b;cases b)];exact b
  .obtain⟨more,b⟩:=d.base.nE q y e;exact⟨more,by rw[aM (λz=>by rw[z,g]at b;cases b)];exact b⟩
 .rw[aM (aV (aU I.lt h))];exact d.free
 .obtain⟨vv,oc,ho,_⟩:=I.cell n c e;rw[aM (aV (aU (aK ho) h))];exact d.ϔ n c e
 .obtain⟨k1,k2,k3⟩:=I.pin p t;rw[aM (aV (aU (aK k1) h))];exact d.pin p t
 .by_cases hq:q=a
  .subst hq;rw[au]at e;cases e;exact m
  .rw[aM hq]at e;refine(d.Β q u e).lE (λ_ _ _ b=>b) (λx b=>?_) λx r b=>?_
   .rw[aM (λz=>by rw[z,g]at b;cases b)];exact b
   .rw[aM (λz=>by rw[z,g]at b;cases b)];exact b
def K4:typeLookup (.type "list_reverseiterator") "__len__"=pure none:=by rw[typeLookup_type,builtinLookup_eq_fast];kernel_rfl
def OZ:typeLookup (.type "list_reverseiterator") "__length_hint__"=pure (some (.builtin "list_reverseiterator.__length_hint__")):=by rw[typeLookup_type,builtinLookup_eq_fast];kernel_rfl
def PK(m:a.TypeIs (.ref c) "list_reverseiterator")(h:d false a):wpAny (model e i) f (Builtin.List.listLengthHint (.ref c)) d g a:=by
 unfold Builtin.List.listLengthHint;refine ao (mf m K4 ?_);refine gW (λj=>absurd j (by decide)) (λ_=>?_);refine gW (λj=>absurd j (by decide)) (λ_=>?_);refine ao (mf m OZ ?_);generalize k:("list_reverseiterator.__length_hint__":String)=l
 wp_delta
 rw[show splitId l=some ("list_reverseiterator","__length_hint__")from by subst k;decide +kernel];subst k;refine ao (wpAny_isInstance (T:="list_reverseiterator") (b:=true) m (by rw[isSubtype_type];kernel_rfl) ?_);refine gW (λj=>absurd j (by decide)) (λ_=>?_);refine gW (λ_=>?_) (λj=>absurd (by decide +kernel) j);refine gW (λj=>absurd j (by decide +kernel)) (λ_=>?_);exact bh h
def CA(I l:Addr)(a:Array Value)(i:Nat)(h:Heap):Prop:=i<=a.size/\h.IsRevIter I l ((a.size:Int)-1-(i:Int))/\h.IsList l a
def Gk(a:Array Value)(i:Nat)(v:Value):Prop:=a[a.size-1-i]?=some v
def Ds(C:A.handled=none)(st:CA I l its 0 s.heap)(ne:l≠I)(o:c≠I)(x:c≠l)(u:its.size<=sizeLine)(p:s.heap.get? c=some { cls:=.type "list",data:=.seq #[] i })(y:∀j k m,Moved [c,I] (λa b=>b=a) s j->j.heap.get? c=some { cls:=.type "list",dict:=none,data:=.seq k m,slots:=#[] }->ItemsOf (Gk its) k its.size->R (.ok (.ret d)) j):wpAny (model h g) A.in1 (Builtin.List.listExtendWith (.ref c) (.ref I) d) (λr j=>match r with|.done f=>R (.ok f) j|.again m=>m.quiet=true/\codeAny (model h g) A m R j) (λe j=>R (.error e) j) s:=by
 have W:=(Walks.listRev (prog:=h) (w:=g) (A:=A.in1) C I l ne its).toS;have n:s.TypeIs (.ref I) "list_reverseiterator":=st.2.1.typeIs;unfold Builtin.List.listExtendWith;refine ao (wpAny_typeOf n ?_);have z:Builtin.List.listSameRef (.ref c) (.ref I)=false:=by simp[Builtin.List.listSameRef,o]
 have v:(Value.type "list_reverseiterator" == Value.type "list")=false:=by decide
 have q:(Value.type "list_reverseiterator" == Value.type "tuple")=false:=by decide
 simp only[z,v,q,nX,dN,if_false];refine ao (iJ st.2.1 ?_);refine ao (ki (PK n ?_));refine gW (λB=>absurd B (by decide +kernel)) (λ_=>?_);refine bh ⟨plainId_quiet F.plain_extend_loop _,codeAny_extend_loopS W u c (by simp[o,x]) d its.size 0 _ #[] i rfl (cf _) st p (ItemsOf.nil _) λj k m E D t=>?_⟩;exact y j k m E D t
def FN(J:f.handled=none)(st:CA d g c 0 a.heap)(ne:g≠d)(E:c.size<=sizeLine)(D:∀(n:Shared) (m:Array Value) (w:Nat),n.os=a.os->n.gens=a.gens->n.drawn=a.drawn->(∀b o,b≠d->a.heap.get? b=some o->n.heap.get? b=some o)->n.heap.get? a.heap.objs.size=some { cls:=.type "list",dict:=none,data:=.seq m w,slots:=#[] }->ItemsOf (Gk c) m c.size->j (.ref a.heap.objs.size) n):wpAny (model i h) f (call (.type "list") [.ref d]) j k a:=by
 obtain⟨M,x,_⟩:=id st.2.1;obtain⟨N,y,_⟩:=id st.2.2;have K:a.heap.objs.size≠d:=eC (aK x);have H:a.heap.objs.size≠g:=eC (aK y);refine callType_codes (Q₁:=λq p=>q=.ref a.heap.objs.size/\p={ a with heap:=a.heap.push { cls:=.type "list",data:=.seq #[] } }) F.called_list (F.typeCall_list_1 _) F.entry_list_init (code_list_new _ ⟨rfl,rfl⟩) λq p r=>?_;obtain⟨rfl,rfl⟩:=r;have s:(a.heap.push { cls:=.type "list",data:=.seq #[] }).get? a.heap.objs.size=some { cls:=.type "list",data:=.seq #[] }:=bc _ rfl;refine⟨⟨_,s,rfl⟩,F.args_list_init_2 _ _,?_⟩;show wpAny (model i h) f.in1.in1 (do let v <-Builtin.List.listItems (.ref a.heap.objs.size);Builtin.List.listUpdate (.ref a.heap.objs.size) (λ_=>#[]);letGo v.toList.reverse;Builtin.List.listExtendWith (.ref a.heap.objs.size) (.ref d) .none) _ _ _;refine ao ?_;unfold Builtin.List.listItems;refine ao (eR s rfl (bh ?_));show wpAny (model i h) f.in1.in1 (updateSeq a.heap.objs.size (λ_=>#[])>>=λ_=>letGo (#[]:Array Value).toList.reverse>>=λ_=>Builtin.List.listExtendWith (.ref a.heap.objs.size) (.ref d) .none) _ _ _;refine ao (wpAny_updateSeq s rfl ?_);have B:=fH (Obj.mapSeq (λ_=>(#[]:Array Value))) s rfl;have u:∀b o,a.heap.get? b=some o->((a.heap.push { cls:=.type "list",data:=.seq #[] }).update a.heap.objs.size (Obj.mapSeq (λ_=>(#[]:Array Value)))).get? b=some o:=λb o e=>(dR _ _ (eC (aK e))).trans (aB _ e)
 refine ao (lZ ?_);refine Ds (A:=f.in1) J (I:=d) (l:=g) (its:=c) ⟨st.1,st.2.1.at λo e=>u _ o e,st.2.2.at λo e=>u _ o e⟩ ne K H E B λn m w t L G=>?_;refine⟨rfl,D n m w t.os t.gens t.drawn (λb o C e=>t.heap b o (λz=>?_) (u b o e)) L G⟩;simp only[aE,dL,or_false]at z;rcases z with z|z
 .exact absurd (aK e) (by rw[z];exact cU _)
 .exact C z
def Jg(C:g.handled=none)(st:CA d f c 0 a.heap)(ne:f≠d)(y:c.size<=sizeLine)(w:∀(m:Shared) (n:Array Value),m.os=a.os->m.gens=a.gens->m.drawn=a.drawn->(∀b o,b≠d->a.heap.get? b=some o->m.heap.get? b=some o)->a.heap.objs.size<=m.heap.objs.size->ItemsOf (Gk c) n c.size->j n.toList m):wpAny (model i h) g (collect (.ref d)) j k a:=by
 obtain⟨E,r,_⟩:=id st.2.1;obtain⟨H,t,_⟩:=id st.2.2;have D:a.heap.objs.size≠d:=eC (aK r);have A:a.heap.objs.size≠f:=eC (aK t);unfold collect;refine ao (wpAny_runValue (codeAny_builtin F.entry_proto_collect ?_));rw[Around.under_plainId F.plain_proto_collect _];show wpAny (model i h) g.in1 (newList []>>=λf=>again (.builtin "list.__iadd__" ⟨[f,.ref d],[]⟩)) _ _ a;refine ao (fB ?_);refine bh ⟨plainId_quiet F.plain_list_iadd _,codeAny_builtin F.entry_list_iadd ?_⟩;rw[Around.under_plainId F.plain_list_iadd _];have q:∀b o,a.heap.get? b=some o->(a.heap.push { cls:=.type "list",data:=.seq ([]:hL).toArray }).get? b=some o:=λb o e=>aB _ e;show wpAny (model i h) g.in1 (Builtin.List.listExtendWith (.ref a.heap.objs.size) (.ref d) (.ref a.heap.objs.size)) _ _ _;have B:(a.heap.push { cls:=.type "list",data:=.seq ([]:hL).toArray }).get? a.heap.objs.size=some { cls:=.type "list",data:=.seq #[] }:=bc _ rfl;refine Ds (R:=wants _ _) (s:={ a with heap:=a.heap.push { cls:=.type "list",data:=.seq ([]:hL).toArray } }) C (I:=d) (l:=f) (its:=c) ⟨st.1,st.2.1.at λo e=>q _ o e,st.2.2.at λo e=>q _ o e⟩ ne D A y B λm n G p u x=>?_;show wpAny (model i h) g (load a.heap.objs.size>>=_) _ _ m;refine ao (wpAny_load u (bh (w m n p.os p.gens p.drawn (λb o v e=>p.heap b o (λz=>?_) (q b o e)) (iP (aK u)) x)));simp only[aE,dL,or_false]at z;rcases z with z|z
 .exact absurd (aK e) (by rw[z];exact cU _)
 .exact v z
def Ez{b a:hL}(h:ItemsOf (Gk b.toArray) a.toArray b.toArray.size):a=b.reverse:=by
 obtain⟨e,d⟩:=h;simp only[aR]at e;refine gH λj=>?_;by_cases c:j<a.length
 .have q:=d j a[j] (by simp[c]);unfold Gk at q;rw[az c,cu (by lia)];simp only[aR,List.getElem?_toArray]at q;exact q.symm
 .rw[bW (by lia),bW (by rw[aQ];lia)]
def Qg(K:hB)(e:TE):TE:=λd H Q=>e d H λx b=>∃a c,x=.ref a/\ι K b a c/\∀l,b l=none->Q (.ref l) (upd b l (.lst c.reverse))
def JV{X:Cx}{e:Expr}{t:TE}{l:Pos}{pos:Pos}{i:Pos}{c:hE}{s:Shared}{j:St}{H:Hp}{R:List Value->Shared->Prop}(C:Gl X "reversed")(G:X.mg "reversed"=none)(y:PE X e t)(I:Inv X c j H s){m:V->Hp->Prop}(h:t j H m)(E:starEach [.Call (.Name "reversed" l) [e] [] i] X.env=[(false,eval (.Call (.Name "reversed" l) [e] [] i) X.env)])(o:starEach [e] X.env=[(false,eval e X.env)])(k:∀d f x a g (b:hL),Inv X c j f d->m x f->x=.ref a->ι X.K f a g->Vals g b->CA d.heap.objs.size a b.toArray 0 (d.heap.push (revObj a ((b.toArray.size:Int)-1)))->a≠d.heap.objs.size->b.toArray.size<=sizeLine->R [.ref d.heap.objs.size] { d with heap:=d.heap.push (revObj a ((b.toArray.size:Int)-1)) })(D:∀x f,m x f->∃a g,x=.ref a/\ι X.K f a g):wpAny (model X.prog X.w) X.A (spliced (backTo pos (starEach [.Call (.Name "reversed" l) [e] [] i] X.env))) R X.xe s:=by
 rw[E];show wpAny _ _ (spliced ((false,eval (.Call (.Name "reversed" l) [e] [] i) X.env)::backTo pos [])) _ _ s;refine ii ?_;refine Call_ (pW I C G boot_reversed (cR ?_ o rfl));rw[o];show wpAny _ _ (spliced ((false,eval e X.env)::backTo i [])) _ _ s;refine ii (eF (y c s j H _ I h) λu d x f r z v=>iH ?_);obtain⟨a,g,F,p⟩:=D x f v;subst F;cases z;obtain⟨b,q,n,B⟩:=r.list p;have ne:a≠d.heap.objs.size:=aV n.lt;refine call_reversed_list n.isList (iH ?_);refine k d f _ a g b r v rfl p q ⟨cf _,⟨_,bc _ rfl,rfl,?_⟩,n.isList.push _⟩ ne (by rw[aR,<-q.length];exact B);simp[revObj]
def Re{X:Cx}{e:Expr}{N:TE}{p1:Pos}{n:Pos}{v:Pos}{y:Pos}(hc:X.calm=true)(hg:Gl X "reversed")(hm:X.mg "reversed"=none)(w:Gl X "list")(t:X.mg "list"=none)(S:PE X e N)(R:starEach [.Call (.Name "reversed" n) [e] [] y] X.env=[(false,eval (.Call (.Name "reversed" n) [e] [] y) X.env)]:=by rfl)(T:starEach [e] X.env=[(false,eval e X.env)]:=by rfl):PE X (.Call (.Name "list" p1) [.Call (.Name "reversed" n) [e] [] y] [] v) (Qg X.K N):=by
 intro c s A H Q I h;refine Call_ (pW I w t boot_list (cR ?_ R rfl));refine JV hg hm S I h R T (λf k x a l d g q1 z m D st ne F=>?_) λx k ⟨a,l,z,m,_⟩=>⟨a,l,z,m⟩;obtain⟨a',Ϯ,i,r,q⟩:=q1;rw[z]at i;cases i;have ey:=g.ϱ m r;subst ey;refine FN (g.ok.hd hc) st ne F λU j c' G O C E p Y=>?_;obtain⟨M,gs,ds,V,ak⟩:=U;simp only at G O C E p;subst G O C;obtain⟨J,rfl⟩:∃J:List Value,j=J.toArray:=⟨j.toList,by simp⟩;have Z:=Ez Y;subst Z;have W:∀b u,f.heap.get? b=some u->M.get? b=some u:=λb u B=>E b u (aV (aK B)) (aB _ B);have I2:Inv X c A k { f with heap:=M,toks:=V }:=g.kept W;have P:(f.heap.push (revObj a ((d.toArray.size:Int)-1))).objs.size=f.heap.objs.size+1:=d5 ..;rw[P]at p;show EP X c A Q (.ref (f.heap.push (revObj a ((d.toArray.size:Int)-1))).objs.size) _;rw[P];have L:k (f.heap.objs.size+1)=none:=g.Β.fresh (gB _);refine⟨.ref _,_,g.aax (o:=.lst l.reverse) I2 (gB _) L ⟨?_,d.reverse,c',D.reverse,p⟩,rfl,q _ L⟩;rw[aQ,D.length]
 simpa using F
def ly{a b:Nat}(h:a<b\/b<a):a≠b:=by lia
def Rt(n a b:Nat)(d:a<n)(c:b<n):ZAp (n+4) (n+2) (n+3) n (n+1) a b:=⟨ly (by lia),ly (by lia),ly (by lia),ly (by lia),ly (by lia),ly (by lia),ly (by lia),ly (by lia),ly (by lia),ly (by lia),⟨ly (by lia),ly (by lia),ly (by lia),ly (by lia)⟩,⟨ly (by lia),ly (by lia),ly (by lia),ly (by lia)⟩⟩
def PP(K:hB)(c d:Bool)(j:TA):TI:=λf H R=>j f H λg e=>∃a b,g=[.ref a,.ref b]/\(∃i,Ω K c e a i)/\(∃h,Ω K d e b h)/\R (Itz K c d a b) e
def Gd{X:Cx}{j:List Expr}{x1}{UG:Pos}{ea eb:Expr}{ta:TA}{p pos:Pos}(c d:Bool)(hg:Gl X "zip")(hm:X.mg "zip"=none)(ha:PA X [ea,eb] ta)(hs:starEach [ea,eb] X.env=[(false,eval ea X.env),(false,eval eb X.env)]:=by rfl)(Wb:starEach [eb] X.env=[(false,eval eb X.env)]:=by rfl):PI X (.Tuple j x1 UG) (.Call (.Name "zip" p) [ea,eb] [] pos) (PP X.K c d ta):=by
 intro g s x H R I h;refine Call_ (pW I hg hm boot_zip (cR (sM (ha pos g s x H _ I h) λC f N y k o l=>?_) (by rw[hs,Wb]) (by rw[Wb];rfl)));obtain⟨a,b,e,⟨T,z⟩,⟨Q,G⟩,q⟩:=l;subst e;obtain⟨u,v,rfl,F,B⟩:=La o;cases F;cases B;obtain⟨C,o,l⟩:=k.ϫ z;obtain⟨N,V,w⟩:=k.ϫ G;obtain⟨S,m⟩:=sR a c _ _ l;obtain⟨U,n⟩:=sR b d _ _ w;have L:=aK m;have P:=aK n;refine Ox (kq a c) (kq b d) (sR b d) l w (λW t E J A M O=>?_) (xW a c) (xW b d);refine wpAny_pyIter_zip t ?_;have D:=Rt f.heap.objs.size a b L P;refine⟨_,[f.heap.objs.size+4,f.heap.objs.size+2,f.heap.objs.size+3,f.heap.objs.size,f.heap.objs.size+1],_,_,y,rfl,k.kept (t':=f.toks) O,Og c d a b _ _ _ _ _ D,⟨t,E,⟨_,_,J⟩,A,M⟩,λq r=>?_,q⟩;have i:f.heap.objs.size<=q:=by
  simp only[aE,dL,or_false]at r;rcases r with rfl|rfl|rfl|rfl|rfl
  .exact ji _ 4
  .exact ji _ 2
  .exact ji _ 3
  .exact aJ _
  .exact ji _ 1
 exact k.U1 i (k.Β.fresh i)
end L2
namespace Pb
structure Road where
 a:Int
 b:Int
 t:Int
 u:Int
 deriving DecidableEq
abbrev ix:=List Road
def Mq(m:Int)(c:ix):Prop:=∀S:Int->Prop,S 0->(∀r∈c,(S r.a↔S r.b))->∀v,0<=v->v<m->S v
structure Uc(m:Int)(r:Road):Prop where
 a0:0<=r.a
 a1:r.a<m
 b0:0<=r.b
 b1:r.b<m
 ne:r.a≠r.b
 t0:2<=r.t
 t1:r.t<=1000000
 u0:2<=r.u
 u1:r.u<=1000000
structure Good(m:Int)(rs:ix):Prop where
 m1:1<=m
 Ζ:m<=24
 len:(rs.length:Int)=m-1
 ok:∀r∈rs,Uc m r
 jn:Mq m rs
theorem rm{a:Type}[DecidableEq a]:∀{l l':List a},l.Nodup->(∀x∈l,x∈l')->l.length<=l'.length
 | [],_,_,_=>cf _
 | x::r,l',hn,hs=>by
   obtain⟨f,d⟩:=bD.mp hn;have b:x∈l':=hs x aL;have:r.length<=(l'.erase x).length:=rm d λy c=>(mV (λ(e:y=x)=>f (by rw[<-e];exact c))).mpr (hs y (aI _ c));rw[List.length_erase_of_mem b]at this;have g:0<l'.length:=List.length_pos_of_mem b;rw[aO]
   lia
def b7(n:Nat):List Int:=(List.range n).map λ(k:Nat)=>(k:Int)
def fK :a∈b7 b↔0<=a/\a<b:=by
 unfold b7;rw[aZ]
 constructor
 .rintro⟨k,hk,rfl⟩;have:=cW.mp hk
  lia
 .rintro⟨h0,h1⟩;exact⟨a.toNat,cW.mpr (by lia),by lia⟩
def b6(n:Nat):(b7 n).length=n:=by simp[b7]
def jK(n:Nat):(b7 n).Nodup:=by
 unfold b7;refine List.Pairwise.map _ (λa b h=>?_) (List.nodup_range (n:=n));intro e;exact h (by lia)
def iL{m:Int}{l:fc}(c:0<=m)(b:l.Nodup)(h:∀x∈l,0<=x/\x<m):(l.length:Int)<=m:=by
 have:=rm (l':=b7 m.toNat) b λx a=>fK.mpr ⟨(h x a).1,by have:=(h x a).2;lia⟩;rw[b6]at this
 lia
def NM{m:Int}{l:fc}(d:0<=m)(h:∀v,0<=v->v<m->v∈l):m<=(l.length:Int):=by
 have:=rm (l:=b7 m.toNat) (l':=l) (jK _) λx b=>by
  obtain⟨a,c⟩:=fK.mp b;exact h x a (by lia)
 rw[b6]at this
 lia
def uQ(p:Int)(r:Road):List Int:=(if r.a=p then[r.b]else[])++(if r.b=p then[r.a]else[])
def gP(a:ix)(p:Int):List Int:=a.flatMap (uQ p)
def ui :f∈gP e d↔∃r∈e,(r.a=d/\r.b=f)\/(r.b=d/\r.a=f):=by
 unfold gP uQ;rw[iG]
 constructor
 .rintro⟨r,hr,h⟩;refine⟨r,hr,?_⟩;rcases bi.mp h with h|h
  .by_cases c:r.a=d
   .rw[aj c]at h;exact .inl ⟨c,(aG.mp h).symm⟩
   .rw[ah c]at h;cases h
  .by_cases c:r.b=d
   .rw[aj c]at h;exact .inr ⟨c,(aG.mp h).symm⟩
   .rw[ah c]at h;cases h
 .rintro⟨r,hr,h⟩;refine⟨r,hr,bi.mpr ?_⟩;rcases h with⟨h1,h2⟩|⟨h1,h2⟩
  .exact .inl (by rw[aj h1,h2];exact aG.mpr rfl)
  .exact .inr (by rw[aj h1,h2];exact aG.mpr rfl)
def GC(e:ix)(p:Int):(gP e p).length<=2*e.length:=by
 unfold gP
 induction e with
 | nil=>simp
 | cons r e ih=>
   rw[dQ,aH,aO];have:(uQ p r).length<=2:=by
    unfold uQ;rw[aH];by_cases c:r.a=p<;>by_cases d:r.b=p<;>simp[c,d]
   lia
def u5(a:ix)(r:Road)(p:Int):gP (a++[r]) p=gP a p++uQ p r:=by
 unfold gP;rw[oz];simp
def CV(c:List Int×List Int)(e:Int):List Int×List Int:=if e∈c.1 then c else(c.1++[e],c.2++[e])
structure UH(m:Int)(rs:ix)(ks ws:fc):Prop where
 nd:ks.Nodup
 zero:0∈ks
 ϓ:∀k∈ks,0<=k/\k<m
 sub:∀w∈ws,w∈ks
 cl:∀k∈ks,k∉ws->∀e∈gP rs k,e∈ks
 wl:ws.length<=ks.length
def Ly{l:fc}(h:l.Nodup)(d:c∉l):(l++[c]).Nodup:=by
 rw[eK];refine⟨h,by simp,λa f b e=>?_⟩;rw[aG.mp e];exact λz=>d (z▸f)
structure Ud(m:Int)(rs:ix)(p:Int)(es ks ws ks0:fc)(n0:Nat):Prop where
 nd:ks.Nodup
 zero:0∈ks
 ϓ:∀k∈ks,0<=k/\k<m
 sub:∀w∈ws,w∈ks
 cl:∀k∈ks,k∉ws->k=p\/∀e∈gP rs k,e∈ks
 seen:∀e∈es,e∈ks
 pin:p∈ks
 mu:ks.length+n0=ks0.length+ws.length
 up:ks0.length<=ks.length
 wl:ws.length<=ks.length
def Ud.start(h:UH f d b (a++[c])):Ud f d c [] b a b a.length where
 nd:=h.nd
 zero:=h.zero
 ϓ:=h.ϓ
 sub:=λw hw=>h.sub w (bJ _ hw)
 cl:=λk hk hw=>by
  by_cases e:k=c
  .exact .inl e
  .exact .inr (h.cl k hk λz=>by
    rcases bi.mp z with z|z
    .exact hw z
    .exact e (aG.mp z))
 seen:=λe g=>by cases g
 pin:=h.sub c (bw _ (aG.mpr rfl))
 mu:=rfl
 up:=aJ _
 wl:=by have:=h.wl;rw[aH]at this;simp at this;lia
def Ud.step(h:Ud g j p f a d e i)(o:0<=b)(q:b<g):Ud g j p (f++[b]) (CV (a,d) b).1 (CV (a,d) b).2 e i:=by
 unfold CV;by_cases c:b∈a
 .rw[aj c];refine⟨h.nd,h.zero,h.ϓ,h.sub,h.cl,λx l=>?_,h.pin,h.mu,h.up,h.wl⟩;rcases bi.mp l with z|z
  .exact h.seen x z
  .rw[aG.mp z];exact c
 .rw[ah c];dsimp only;refine⟨Ly h.nd c,bJ _ h.zero,λk n=>?_,λw m=>?_,λk n m=>?_,λx l=>?_,bJ _ h.pin,?_,by have:=h.up;simp;lia,by have:=h.wl;simp;exact this⟩
  .rcases bi.mp n with z|z
   .exact h.ϓ k z
   .rw[aG.mp z];exact⟨o,q⟩
  .rcases bi.mp m with z|z
   .exact bJ _ (h.sub w z)
   .exact bw _ z
  .rcases bi.mp n with z|z
   .rcases h.cl k z λy=>m (bJ _ y)with y|y
    .exact .inl y
    .exact .inr λx l=>bJ _ (y x l)
   .exact absurd (bw _ z) m
  .rcases bi.mp l with z|z
   .exact bJ _ (h.seen x z)
   .exact bw _ z
  .have:=h.mu;simp only[aH,aO,dB]
   lia
def Ud.done(h:Ud e a d (gP a d) c b f g):UH e a c b where
 nd:=h.nd
 zero:=h.zero
 ϓ:=h.ϓ
 sub:=h.sub
 cl:=λk hk hw=>by
  rcases h.cl k hk hw with z|z
  .rw[z];exact h.seen
  .exact z
 wl:=h.wl
def UH.start(c:1<=a):UH a b [0] [0] where
 nd:=by simp
 zero:=by simp
 ϓ:=λk hk=>by rw[aG.mp hk];lia
 sub:=λw hw=>hw
 cl:=λk hk hw=>absurd hk hw
 wl:=by simp
def UH.all{m:Int}{d:ix}{c:fc}(h:UH m d c [])(f:1<=m)(j:Mq m d):(c.length:Int)=m:=by
 have up:=iL (by lia) h.nd h.ϓ;have:∀v,0<=v->v<m->v∈c:=j (λv=>v∈c) h.zero λr e=>by
  constructor
  .intro ha;exact h.cl r.a ha (by simp) r.b (ui.mpr ⟨r,e,.inl ⟨rfl,rfl⟩⟩)
  .intro hb;exact h.cl r.b hb (by simp) r.a (ui.mpr ⟨r,e,.inr ⟨rfl,rfl⟩⟩)
 have:=NM (by lia) this
 lia
def PV(h:∀r∈a,Uc c r)(e:b∈gP a d):0<=b/\b<c:=by
 obtain⟨r,f,z⟩:=ui.mp e;have k:=h r f;rcases z with⟨_,rfl⟩|⟨_,rfl⟩
 .exact⟨k.b0,k.b1⟩
 .exact⟨k.a0,k.a1⟩
structure Row where
 k:Int
 un:Int
 t:Int
 u:Int
 sw:Int
 sp:Int
structure X5(r:Row):Prop where
 u0:0<=r.un
 u1:r.un<r.k
 t0:2<=r.t
 t1:r.t<=1000000
 v0:2<=r.u
 v1:r.u<=1000000
 s0:0<=r.sp
 s1:r.sp<r.k
structure Rows(n:Nat)(rows:List Row):Prop where
 len:rows.length=n
 ok:∀(i:Nat)(r:Row),rows[i]?=some r->r.k=(i:Int)+1/\X5 r
structure Ts(n:Nat)(ls:fc):Prop where
 len:ls.length=n
 nd:ls.Nodup
 all:∀v:Int,0<=v->v<n->v∈ls
 ϓ:∀v∈ls,0<=v/\v<n
def CS{a:Type}{l:List a}{k:Nat}{x y:a}:y∈l.take k++x::l.drop k↔y=x\/y∈l:=by
 rw[bi,aE]
 constructor
 .rintro(h|h|h)
  .exact .inr (mW h)
  .exact .inl h
  .exact .inr (gA h)
 .rintro(h|h)
  .exact .inr (.inl h)
  .rw[<-de k l]at h;rcases bi.mp h with z|z
   .exact .inl z
   .exact .inr (.inr z)
def qA(a:fc)(r:Row):Road:=if r.sw=1 then⟨a.getD r.un.toNat 0,a.getD r.k.toNat 0,r.t,r.u⟩else⟨a.getD r.k.toNat 0,a.getD r.un.toNat 0,r.t,r.u⟩
structure X6(ls:fc)(rows:List Row)(rs:ix):Prop where
 len:rs.length=rows.length
 of:∀r∈rs,∃w∈rows,r=qA ls w
 to:∀w∈rows,qA ls w∈rs
def X6.nil(a:fc):X6 a [] []:=⟨rfl,λr h=>(by cases h),λr h=>(by cases h)⟩
def X6.step(h:X6 c a b)(w:Row)(k:Nat):X6 c (a++[w]) (b.take k++qA c w::b.drop k) where
 len:=by
  rw[aH,aO,bq,fP,aH,h.len];simp
  lia
 of:=λr hr=>by
  rcases CS.mp hr with z|z
  .exact⟨w,by simp,z⟩
  .obtain⟨d,hw,e⟩:=h.of r z;exact⟨d,bJ _ hw,e⟩
 to:=λd hw=>by
  rw[CS];rcases bi.mp hw with z|z
  .exact .inr (h.to d z)
  .exact .inl (by rw[aG.mp z])
def zx(h:Ts c a)(d:b<c):a[b]?=some (a.getD b 0):=by
 have:b<a.length:=by rw[h.len];exact d
 simp[List.getD,az this]
def Ik(h:Ts c a)(d:b<c):a.getD b 0∈a:=aP (zx h d)
def NO(h:Ts d a)(j:c<d)(l:b<d)(e:a.getD c 0=a.getD b 0):c=b:=by
 have g:c<a.length:=by rw[h.len];exact j
 have f:b<a.length:=by rw[h.len];exact l
 have i:=zx h j;have m:=zx h l;rw[e]at i;have k:a[c]'g=a[b]'f:=by
  rw[az g]at i;rw[az f]at m;exact bF (i.trans m.symm)
 have nd:=ft.mp h.nd;rcases kQ c b with z|z|z
 .exact absurd k (nd c b g f z)
 .exact z
 .exact absurd k.symm (nd b c f g z)
def Qo(q:1<=n)(s:n<=24)(L:Ts n b)(W:Rows (n-1) a)(P:X6 b a d):Good n d where
 m1:=by lia
 Ζ:=by lia
 len:=by rw[P.len,W.len];lia
 ok:=λr hr=>by
  obtain⟨w,hw,rfl⟩:=P.of r hr;obtain⟨i,hi⟩:=cD hw;obtain⟨x,ok⟩:=W.ok i w hi;have f:i<a.length:=(ax.mp hi).1;rw[W.len]at f;have hk:w.k.toNat<n:=by lia
  have l:w.un.toNat<n:=by have:=ok.u0;have:=ok.u1;lia
  have h:=L.ϓ _ (Ik L hk);have m:=L.ϓ _ (Ik L l);have ne:b.getD w.k.toNat 0≠b.getD w.un.toNat 0:=λe=>by
   have:=NO L hk l e;have:=ok.u0;have:=ok.u1
   lia
  unfold qA;by_cases c:w.sw=1
  .rw[aj c];exact⟨m.1,m.2,h.1,h.2,ne.symm,ok.t0,ok.t1,ok.v0,ok.v1⟩
  .rw[ah c];exact⟨h.1,h.2,m.1,m.2,ne,ok.t0,ok.t1,ok.v0,ok.v1⟩
 jn:=by
  intro S s0 t;have g:∀i:Nat,i<n->(S (b.getD i 0)↔S (b.getD 0 0)):=by
   intro i
   induction i using Nat.strongRecOn with
   | ind i ih=>
     intro hi;by_cases z:i=0
     .rw[z]
     .have f:i-1<a.length:=(by rw[W.len];lia);obtain⟨x,ok⟩:=W.ok (i-1) a[i-1] (az f);have A:=P.to a[i-1] (dh f);have hr:=t _ A;have hk:(a[i-1]).k.toNat=i:=(by lia);have l:(a[i-1]).un.toNat<i:=(by have:=ok.u0;have:=ok.u1;lia);have p:=ih _ l (by lia);unfold qA at hr;rw[hk]at hr;by_cases c:(a[i-1]).sw=1
      .rw[aj c]at hr;exact hr.symm.trans p
      .rw[ah c]at hr;exact hr.trans p
  have at_:∀v,0<=v->v<(n:Int)->∃i,i<n/\b.getD i 0=v:=λv o q=>by
   obtain⟨i,hi⟩:=cD (L.all v o q);have f:i<n:=(by have:=(ax.mp hi).1;rw[L.len]at this;exact this);refine⟨i,f,?_⟩;have:=zx L f;rw[hi]at this;exact(bF this).symm
  intro v o hv;obtain⟨i,hi,rfl⟩:=at_ v o hv;obtain⟨j,u,y⟩:=at_ 0 (by lia) (by lia);refine(g i hi).mpr ((g j u).mp ?_);rw[y];exact s0
def U8(c:ix)(a b:Int):Prop:=∃x∈c,(x.a=a/\x.b=b)\/(x.b=a/\x.a=b)
def U8.symm(h:U8 a b c):U8 a c b:=by
 obtain⟨x,d,h⟩:=h;rcases h with⟨h1,h2⟩|⟨h1,h2⟩
 .exact⟨x,d,.inr ⟨h2,h1⟩⟩
 .exact⟨x,d,.inl ⟨h2,h1⟩⟩
def GQ :c∈gP a b↔U8 a b c:=ui
def Good.WW(g:Good d c)(h:U8 c b a):(0<=b/\b<d)/\(0<=a/\a<d)/\b≠a:=by
 obtain⟨x,e,h⟩:=h;have k:=g.ok x e;rcases h with⟨h1,h2⟩|⟨h1,h2⟩
 .subst h1 h2;exact⟨⟨k.a0,k.a1⟩,⟨k.b0,k.b1⟩,k.ne⟩
 .subst h1 h2;exact⟨⟨k.b0,k.b1⟩,⟨k.a0,k.a1⟩,k.ne.symm⟩
def Good.from(g:Good c e)(i:0<=d)(k:d<c)(S:Int->Prop)(l:S d)(m:∀x∈e,(S x.a↔S x.b)):∀v,0<=v->v<c->S v:=by
 have f:∀v,0<=v->v<c->(S v↔S 0):=g.jn (λv=>S v↔S 0) Iff.rfl λx j=>by
  have:=m x j;exact⟨λh=>this.symm.trans h,λh=>this.trans h⟩
 intro v a b;exact(f v a b).mpr ((f d i k).mp l)
inductive Tu(rs:ix)(r:Int):Nat->Int->Prop
 | zero:Tu rs r 0 r
 | step {n:Nat} {u v:Int}:Tu rs r n u->U8 rs u v->Tu rs r (n+1) v
def SG{P:Nat->Prop}:∀n,P n->∃k,P k/\∀j,j<k->¬P j:=by
 intro n
 induction n using Nat.strongRecOn with
 | ind n ih=>
   intro h;by_cases z:∃j,j<n/\P j
   .obtain⟨j,a,b⟩:=z;exact ih j a b
   .exact⟨n,h,λj a b=>z ⟨j,a,b⟩⟩
structure ζ(m:Int)(rs:ix)(r:Int)(par:fz)(dep:gn):Prop where
 root:dep r=0
 up:∀v,0<=v->v<m->v≠r->(0<=par v/\par v<m)/\U8 rs v (par v)/\dep (par v)+1=dep v
 road:∀x∈rs,(x.a≠r/\par x.a=x.b)\/(x.b≠r/\par x.b=x.a)
 one:(rs.map λx=>if x.a≠r/\par x.a=x.b then x.a else x.b).Nodup
def Q4{n:Nat}{l:List Nat}(a:l.Nodup)(d:l.length=n)(c:∀x∈l,x<n):∀i,i<n->i∈l:=by
 intro i b;by_cases z:i∈l
 .exact z
 .have:=rm (l:=i::l) (l':=List.range n) (bD.mpr ⟨z,a⟩) λx hx=>by
   rcases aE.mp hx with rfl|hx
   .exact cW.mpr b
   .exact cW.mpr (c x hx)
  rw[aO,cN]at this
  lia
def sC(g:Good m f){r:Int}(X:0<=r)(h1:r<m):∃o s,ζ m f r o s:=by
 classical
 have C:∀v,0<=v->v<m->∃n,Tu f r n v:=g.from X h1 (λv=>∃n,Tu f r n v) ⟨0,.zero⟩ λx hx=>by
  constructor
  .rintro⟨n,d⟩;exact⟨n+1,d.step ⟨x,hx,.inl ⟨rfl,rfl⟩⟩⟩
  .rintro⟨n,d⟩;exact⟨n+1,d.step ⟨x,hx,.inr ⟨rfl,rfl⟩⟩⟩
 have Z:∀v,∃k,(0<=v/\v<m)->Tu f r k v/\∀j,j<k->¬Tu f r j v:=λv=>by
  by_cases z:0<=v/\v<m
  .obtain⟨n,d⟩:=C v z.1 z.2;obtain⟨k,h⟩:=SG (P:=λk=>Tu f r k v) n d;exact⟨k,λ_=>h⟩
  .exact⟨0,λh=>absurd h z⟩
 obtain⟨s,U⟩:∃s:Int->Nat,∀v,0<=v->v<m->Tu f r (s v) v/\∀j,j<s v->¬Tu f r j v:=⟨λv=>(Z v).choose,λv a b=>(Z v).choose_spec ⟨a,b⟩⟩;have dr:s r=0:=by
  have:=(U r X h1).2 0;by_cases z:s r=0
  .exact z
  .exact absurd Tu.zero (this (by lia))
 have hp:∀v,∃u,(0<=v/\v<m/\v≠r)->U8 f v u/\s u+1=s v:=λv=>by
  by_cases z:0<=v/\v<m/\v≠r
  .obtain⟨a,b,c⟩:=z;obtain⟨d,dm⟩:=U v a b;generalize hk:s v=k at d dm;cases d with
   | zero=>exact absurd rfl c
   | @step n u _ d e=>
     refine⟨u,λ_=>⟨e.symm,?_⟩⟩;obtain⟨⟨u0,u1⟩,_⟩:=g.WW e;have l1:s u<=n:=by
      by_cases w:s u<=n
      .exact w
      .exact absurd d ((U u u0 u1).2 n (by lia))
     have l2:¬s u<n:=λw=>dm (s u+1) (by lia) ((U u u0 u1).1.step e)
     lia
  .exact⟨0,λh=>absurd h z⟩
 obtain⟨o,H⟩:∃o:Int->Int,∀v,0<=v->v<m->v≠r->U8 f v (o v)/\s (o v)+1=s v:=⟨λv=>(hp v).choose,λv a b c=>(hp v).choose_spec ⟨a,b,c⟩⟩;have hi:∀v,∃i:Nat,(0<=v/\v<m/\v≠r)->∃x,f[i]?=some x/\((x.a=v/\x.b=o v)\/(x.b=v/\x.a=o v)):=λv=>by
  by_cases z:0<=v/\v<m/\v≠r
  .obtain⟨x,hx,h⟩:=(H v z.1 z.2.1 z.2.2).1;obtain⟨i,e⟩:=cD hx;exact⟨i,λ_=>⟨x,e,h⟩⟩
  .exact⟨0,λh=>absurd h z⟩
 obtain⟨t,Q⟩:∃t:Int->Nat,∀v,0<=v->v<m->v≠r->∃x,f[t v]?=some x/\((x.a=v/\x.b=o v)\/(x.b=v/\x.a=o v)):=⟨λv=>(hi v).choose,λv a b c=>(hi v).choose_spec ⟨a,b,c⟩⟩;have W:∀v u,0<=v->v<m->v≠r->0<=u->u<m->u≠r->t v=t u->v=u:=by
  intro v u a b c G F I e;obtain⟨x,hx,h⟩:=Q v a b c;obtain⟨y,N,h'⟩:=Q u G F I;rw[e,N]at hx;cases hx;have R:=(H v a b c).2;have T:=(H u G F I).2;rcases h with⟨p,q⟩|⟨p,q⟩<;>rcases h' with⟨p',q'⟩|⟨p',q'⟩
  .exact p.symm.trans p'
  .exfalso
   have D:v=o u:=p.symm.trans q';have J:u=o v:=p'.symm.trans q;rw[<-D]at T;rw[<-J]at R
   lia
  .exfalso
   have D:v=o u:=p.symm.trans q';have J:u=o v:=p'.symm.trans q;rw[<-D]at T;rw[<-J]at R
   lia
  .exact p.symm.trans p'
 let B:List Int:=(b7 m.toNat).filter λv=>decide (v≠r)
 have K:∀v,v∈B↔(0<=v/\v<m/\v≠r):=λv=>by
  rw[b9,fK,b4]
  constructor
  .rintro⟨⟨a,b⟩,c⟩;exact⟨a,by lia,c⟩
  .rintro⟨a,b,c⟩;exact⟨⟨a,by lia⟩,c⟩
 have nv:B.Nodup:=(jK _).filter _;have lv:B.length=f.length:=by
  have D:(r::B).length<=(b7 m.toNat).length:=rm (bD.mpr ⟨λh=>((K r).mp h).2.2 rfl,nv⟩) λx hx=>by
   rcases aE.mp hx with rfl|hx
   .exact fK.mpr ⟨X,by lia⟩
   .have:=(K x).mp hx;exact fK.mpr ⟨this.1,by lia⟩
  have J:(b7 m.toNat).length<=(r::B).length:=rm (jK _) λx hx=>by
   have:=fK.mp hx;by_cases z:x=r
   .rw[z];exact aL
   .exact aI _ ((K x).mpr ⟨this.1,by lia,z⟩)
  rw[b6,aO]at D J;have:=g.len;have:=g.m1
  lia
 have il:(B.map t).Nodup:=by
  have:∀(l:fc),l.Nodup->(∀v∈l,0<=v/\v<m/\v≠r)->(l.map t).Nodup:=by
   intro l
   induction l with
   | nil=>intro _ _;simp
   | cons v l ih=>
     intro hn Y;obtain⟨n1,n2⟩:=bD.mp hn;rw[aF];refine bD.mpr ⟨λz=>?_,ih n2 λu S=>Y u (aI _ S)⟩;obtain⟨u,S,e⟩:=aZ.mp z;obtain⟨a,b,c⟩:=Y v aL;obtain⟨G,F,I⟩:=Y u (aI _ S);exact n1 (W u v G F I a b c e▸S)
  exact this B nv λv E=>(K v).mp E
 have ib:∀i∈B.map t,i<f.length:=λi O=>by
  obtain⟨v,E,rfl⟩:=aZ.mp O;obtain⟨a,b,c⟩:=(K v).mp E;obtain⟨x,hx,_⟩:=Q v a b c;exact(ax.mp hx).1
 have V:=Q4 il (by rw[ag,lv]) ib;have A:∀i x,f[i]?=some x->∃v,(0<=v/\v<m/\v≠r)/\t v=i/\((x.a=v/\x.b=o v)\/(x.b=v/\x.a=o v)):=λi x e=>by
  obtain⟨v,E,rfl⟩:=aZ.mp (V i (ax.mp e).1);obtain⟨a,b,c⟩:=(K v).mp E;obtain⟨y,N,h⟩:=Q v a b c;rw[e]at N;cases N;exact⟨v,⟨a,b,c⟩,rfl,h⟩
 have Y1:∀v,0<=v->v<m->v≠r->o v≠r->o (o v)≠v:=λv a b c I z=>by
  have R:=H v a b c;obtain⟨_,⟨G,F⟩,_⟩:=g.WW R.1;have T:=H (o v) G F I;rw[z]at T
  lia
 have M:∀i x,f[i]?=some x->∃v,(0<=v/\v<m/\v≠r)/\t v=i/\(if x.a≠r/\o x.a=x.b then x.a else x.b)=v:=λi x e=>by
  obtain⟨v,⟨a,b,c⟩,E,h⟩:=A i x e;refine⟨v,⟨a,b,c⟩,E,?_⟩;rcases h with⟨p,q⟩|⟨p,q⟩
  .rw[aj ⟨by rw[p];exact c,by rw[p];exact q.symm⟩];exact p
  .rw[ah]
   .exact p
   .rintro⟨z1,z2⟩;rw[q]at z1 z2;exact Y1 v a b c z1 (z2.trans p)
 refine⟨o,s,dr,λv a b c=>?_,λx hx=>?_,?_⟩
 .obtain⟨p,q⟩:=H v a b c;obtain⟨_,w,_⟩:=g.WW p;exact⟨w,p,q⟩
 .obtain⟨i,e⟩:=cD hx;obtain⟨v,⟨a,b,c⟩,_,h⟩:=A i x e;rcases h with⟨p,q⟩|⟨p,q⟩
  .exact .inl ⟨by rw[p];exact c,by rw[p];exact q.symm⟩
  .exact .inr ⟨by rw[p];exact c,by rw[p];exact q.symm⟩
 .refine ft.mpr λi j O L lt=>?_;rw[ag]at O L;rw[jk,jk];intro z;obtain⟨v,_,D,k1⟩:=M i f[i] (az O);obtain⟨u,_,J,k2⟩:=M j f[j] (az L);rw[k1,k2]at z;rw[z]at D
  lia
def Kr(g:Good j i)(B:0<=f)(C:f<j):(gP i f).Nodup:=by
 obtain⟨k,v,R⟩:=sC g B C;have one:=R.one;have ok:=g.ok;have road:=R.road;clear R g
 induction i with
 | nil=>simp[gP]
 | cons x l ih=>
   have q:=ok x aL;have t:∀y∈l,Uc j y:=λy hy=>ok y (aI _ hy);rw[aF]at one;obtain⟨s,A⟩:=bD.mp one;have o:=ih A t λy hy=>road y (aI _ hy);have e:gP (x::l) f=uQ f x++gP l f:=by unfold gP;rw[dQ]
   rw[e];have m:∀y,Uc j y->((y.a≠f/\k y.a=y.b)\/(y.b≠f/\k y.b=y.a))->(y.a=f->(if y.a≠f/\k y.a=y.b then y.a else y.b)=y.b)/\(y.b=f->(if y.a≠f/\k y.a=y.b then y.a else y.b)=y.a):=λy D hy=>by
    constructor
    .intro z;rw[ah (λw=>w.1 z)]
    .intro z;rcases hy with hy|hy
     .rw[aj hy]
     .exact absurd z hy.1
   have p:=m x q (road x aL);have n:∀e∈gP l f,e∈l.map λy=>if y.a≠f/\k y.a=y.b then y.a else y.b:=λe u=>by
    obtain⟨y,hy,h⟩:=ui.mp u;have r:=m y (t y hy) (road y (aI _ hy));refine aZ.mpr ⟨y,hy,?_⟩;rcases h with⟨p1,q1⟩|⟨p1,q1⟩
    .rw[r.1 p1];exact q1
    .rw[r.2 p1];exact q1
   unfold uQ;by_cases c:x.a=f
   .have d:¬x.b=f:=λz=>q.ne (c.trans z.symm);rw[aj c,ah d,cj];refine bD.mpr ⟨λz=>s ?_,o⟩;rw[p.1 c];exact n _ z
   .rw[ah c,jJ];by_cases d:x.b=f
    .rw[aj d];refine bD.mpr ⟨λz=>s ?_,o⟩;rw[p.2 d];exact n _ z
    .rw[ah d];exact o
def jM(m:Int)(a:ix)(p:Int):List Int:=(b7 m.toNat).filter λq=>decide (q∈gP a p)
theorem Ey:∀{l c:fc},l.Perm c->l.Pairwise (·<=·)->c.Pairwise (·<=·)->l=c
 | [],c,p,_,_=>(List.Perm.nil_eq p)
 | a::l,c,p,h,h'=>by
   cases c with
   | nil=>exact absurd p.symm.nil_eq (by simp)
   | cons b r=>
     obtain⟨g,f⟩:=List.pairwise_cons.mp h;obtain⟨i,d⟩:=List.pairwise_cons.mp h';have e:a=b:=by
      have j:a∈b::r:=p.subset aL;have k:b∈a::l:=p.symm.subset aL;rcases aE.mp j with z|z
      .exact z
      .rcases aE.mp k with w|w
       .exact w.symm
       .have:=g b w;have:=i a z
        lia
     subst e;rw[Ey (List.Perm.cons_inv p) f d]
def Hg(n:Nat):(b7 n).Pairwise (·<=·):=by
 unfold b7;refine List.Pairwise.map _ (λa b (h:a<b)=>?_) List.pairwise_lt_range
 lia
def Ja(m:Int)(a:ix)(p:Int):(jM m a p).Pairwise (·<=·):=(Hg _).filter _
def Di(m:Int)(a:ix)(p:Int):(jM m a p).Nodup:=(jK _).filter _
def xa(g:Good f c) :d∈jM f c e↔U8 c e d:=by
 unfold jM;rw[b9,b4,GQ,fK]
 constructor
 .exact λh=>h.2
 .intro h;obtain⟨_,⟨a,b⟩,_⟩:=g.WW h;exact⟨⟨a,by lia⟩,h⟩
theorem jZ:∀{l c:fc},l.Nodup->c.Nodup->(∀x,x∈l↔x∈c)->l.Perm c
 | [],c,_,_,h=>by
   cases c with
   | nil=>exact .nil
   | cons b r=>exact absurd ((h b).mpr aL) (by simp)
 | a::l,c,n,n',h=>by
   obtain⟨d,e⟩:=bD.mp n;have f:a∈c:=(h a).mp aL;refine List.Perm.trans (List.Perm.cons a ?_) (List.perm_cons_erase f).symm;refine jZ e (n'.erase a) λx=>?_
   constructor
   .intro hx;have ne:x≠a:=λz=>d (z▸hx);exact(mV ne).mpr ((h x).mp (aI _ hx))
   .intro hx;have:x≠a:=λz=>by
     subst z;exact(List.Nodup.not_mem_erase n') hx
    rcases aE.mp ((h x).mpr (List.mem_of_mem_erase hx))with z|z
    .exact absurd z this
    .exact z
def Qr(g:Good c a)(e:0<=b)(h:b<c)(i:d.Perm (gP a b))(f:d.Pairwise (·<=·)):d=jM c a b:=by
 refine Ey (i.trans (jZ (Kr g e h) (Di c a b) λx=>?_)) f (Ja c a b);rw[xa g,GQ]
def ja(a b:Int)(x:Road):Option Int:=if x.a=a/\x.b=b then some x.t else if x.a=b/\x.b=a then some x.u else none
def cJ(c:ix)(a b:Int):Option Int:=c.findSome? (ja a b)
def NH :(cJ g e f).isSome=true↔U8 g e f:=by
 unfold cJ;rw[List.findSome?_isSome_iff]
 constructor
 .rintro⟨x,hx,h⟩;unfold ja at h;by_cases c:x.a=e/\x.b=f
  .exact⟨x,hx,.inl c⟩
  .rw[ah c]at h;by_cases d:x.a=f/\x.b=e
   .exact⟨x,hx,.inr ⟨d.2,d.1⟩⟩
   .rw[ah d]at h;cases h
 .rintro⟨x,hx,h⟩;refine⟨x,hx,?_⟩;unfold ja;rcases h with h|h
  .rw[aj h];rfl
  .by_cases c:x.a=e/\x.b=f
   .rw[aj c];rfl
   .rw[ah c,aj ⟨h.2,h.1⟩];rfl
def wM(x:Road)(a b:Int):Prop:=(x.a=a/\x.b=b)\/(x.b=a/\x.a=b)
def Mr{m:Int}{f:ix}(g:Good m f){a b:Int}{i j:Nat}(o:f[i]?=some c)(u:f[j]?=some d)(s:wM c a b)(v:wM d a b):i=j:=by
 obtain⟨⟨B,y⟩,_,_⟩:=g.WW (show U8 f a b from⟨c,aP o,s⟩);obtain⟨e,x,R⟩:=sC g B y;have h:∀z∈f,wM z a b->(if z.a≠a/\e z.a=z.b then z.a else z.b)=b:=λz A D=>by
  rcases D with⟨p,q⟩|⟨p,q⟩
  .rw[ah (λw=>w.1 p)];exact q
  .rcases R.road z A with w|w
   .rw[aj w];exact q
   .exact absurd p w.1
 have l:=(ax.mp o);have k:=(ax.mp u);obtain⟨l,C⟩:=l;obtain⟨k,E⟩:=k;have r:=ft.mp R.one;have n:(f.map λz=>if z.a≠a/\e z.a=z.b then z.a else z.b)[i]'(by rw[ag];exact l)=b:=by
  rw[jk];exact h _ (dh l) (C▸s)
 have t:(f.map λz=>if z.a≠a/\e z.a=z.b then z.a else z.b)[j]'(by rw[ag];exact k)=b:=by
  rw[jk];exact h _ (dh k) (E▸v)
 rcases kQ i j with z|z|z
 .exact absurd (n.trans t.symm) (r i j _ _ z)
 .exact z
 .exact absurd (t.trans n.symm) (r j i _ _ z)
def Kl(h:¬wM b a c):ja a c b=none:=by
 unfold ja;rw[ah (λz=>h (.inl z)),ah (λz=>h (.inr ⟨z.2,z.1⟩))]
def uW{m:Int}{f:ix}(g:Good m f){a b:Int}{i:Nat}(n:f[i]?=some d)(j:wM d a b):cJ f a b=ja a b d:=by
 have lt:=(ax.mp n);obtain⟨lt,t⟩:=lt;have e:f=f.take i++d::f.drop (i+1):=by rw[<-t,jg,de]
 have h:cJ (f.take i) a b=none:=by
  unfold cJ;rw[List.findSome?_eq_none_iff];intro y o;refine Kl λp=>?_;obtain⟨k,l⟩:=cD o;have s:=(ax.mp l).1;rw[bq]at s;rw[gS (by lia)]at l;have:=Mr g l n p j
  lia
 have q:(ja a b d).isSome=true:=by
  unfold ja;rcases j with z|z
  .rw[aj z];rfl
  .by_cases c:d.a=a/\d.b=b
   .rw[aj c];rfl
   .rw[ah c,aj ⟨z.2,z.1⟩];rfl
 obtain⟨v,r⟩:=gR.mp q;have:cJ (f.take i++d::f.drop (i+1)) a b=ja a b d:=by
  unfold cJ at h ⊢;rw[gC,h,hZ,r]
  rfl
 rw[<-e]at this;exact this
end Pb
namespace L2
open PySem PySem.Spec PyProof.Rows
def bI(b:Th):Prop:=∀a H s e c,¬b a H s E0 e c
def d7(q:bI a) :pM a b E0:=λ_ _ _ _ _ _ _ h=>(q _ _ _ _ _ h).elim
structure Df(K:hB)(mg:hP)(x:Str)(st:Stmt)(ps:hU)(f:Addr)(fd:FuncData):Prop where
 F:WV K x x st f fd
 m:mg x=some (.ref f)
 b:Binds K fd ps []
def WV.Ο{P:Program}{w:World}{K:hB}{m:hP}{c:Heap}{l:Th}{x b:Str}{st:Stmt}{f:Addr}{n:FuncData}{N i:hU}{k:Nat}{g:Sp}(F:WV K x b st f n)(S:ε N i (aA st))(p:∀(e:Value) (A:Around) (a:List Env) (s:Shared) (H:Hp) (d:List V) (Q:VK) (E:XK),Ρ k (A.deeper (envOfC b (aA st) s.heap.objs.size f e))->g d H Q E->∃t,UQ (sH l P w K m c N b (aA st) f e A a s H E).Xh (jB st) t/\t { nx:=λ_ u=>Q .ο u,rt:=Q } (start N d) H)(j:∀d H Q E,g d H Q E->d.length=i.length:=by walk_at "v"):ϋ P w K m c l (k+1) f n i g:=by
 obtain⟨G,B,kV,v,J,C,e,I,D,rfl,y,o⟩:=F.ex;refine Qd y o S j λA a s H d Q E z r=>?_;obtain⟨t,h,q⟩:=p e A a s H d Q E z r;exact⟨t,h.Xh,q⟩
structure Ue(sc:Scope)(x:Str):Prop where
 l:sc.names.lookup x=some .local
 d:(x==("__debug__":Str))=false
 c:(x==("__classdict__":Str))=false
structure VX(sc:Scope)(x:Str):Prop where
 l:sc.names.lookup x=some .cell
 d:(x==("__debug__":Str))=false
 c:(x==("__classdict__":Str))=false
structure Ψ(sc:Scope)(x:Str):Prop where
 g:sc.names.lookup x=some .globalImplicit
 d:(x==("__debug__":Str))=false
 n:x≠"__name__"
def us1{a:hL}(h:a.length=1):∃b,a=[b]:=List.length_eq_one_iff.mp h
def us2{b:hL}(h:b.length=2):∃a c,b=[a,c]:=by
 cases b with
 | nil=>cases h
 | cons a t=>
   obtain⟨c,e⟩:=us1 (lA h);subst e;exact⟨a,c,rfl⟩
def us3{b:hL}(h:b.length=3):∃a d c,b=[a,d,c]:=by
 cases b with
 | nil=>cases h
 | cons a t=>
   obtain⟨d,c,e⟩:=us2 (lA h);subst e;exact⟨a,d,c,rfl⟩
def us4{b:hL}(h:b.length=4):∃a d c f,b=[a,d,c,f]:=by
 cases b with
 | nil=>cases h
 | cons a t=>
   obtain⟨d,c,f,e⟩:=us3 (lA h);subst e;exact⟨a,d,c,f,rfl⟩
def us5{b:hL}(h:b.length=5):∃a d c f g,b=[a,d,c,f,g]:=by
 cases b with
 | nil=>cases h
 | cons a t=>
   obtain⟨d,c,f,g,e⟩:=us4 (lA h);subst e;exact⟨a,d,c,f,g,rfl⟩
def nmL(a:Scope)(x:Str):Bool:=decide (a.names.lookup x=some .local)&&!(x==("__debug__":Str))&&!(x==("__classdict__":Str))
def nmC(a:Scope)(x:Str):Bool:=decide (a.names.lookup x=some .cell)&&!(x==("__debug__":Str))&&!(x==("__classdict__":Str))
def nmG(a:Scope)(x:Str):Bool:=decide (a.names.lookup x=some .globalImplicit)&&!(x==("__debug__":Str))&&!decide (x="__name__")
def Ue.of(h:nmL a b=true):Ue a b:=by
 unfold nmL at h;simp only[bG,b4,iE]at h;exact⟨h.1.1,h.1.2,h.2⟩
def VX.of(h:nmC a b=true):VX a b:=by
 unfold nmC at h;simp only[bG,b4,iE]at h;exact⟨h.1.1,h.1.2,h.2⟩
def Ψ.of(h:nmG a b=true:=by kernel_rfl):Ψ a b:=by
 unfold nmG at h;simp only[bG,b4,iE,decide_eq_false_iff_not]at h;exact⟨h.1.1,h.1.2,h.2⟩
def R9(N b:hU)(a:Scope):Bool:=decide (a.kind=.function)&&!a.isCoroutine&&!a.isGenerator&&decide N.Nodup&&decide (N.take b.length=b)&&(b.all λx=>decide (a.names.lookup x=some .local\/a.names.lookup x=some .cell))&&(a.names.all λy=>decide (y.2≠.free))
def ε.of(h:R9 c b a=true:=by kernel_rfl):ε c b a:=by
 unfold R9 at h;simp only[bG,b4,iE,eG]at h;obtain⟨⟨⟨⟨⟨⟨i,f⟩,g⟩,k⟩,j⟩,d⟩,e⟩:=h;exact⟨i,f,g,k,j,d,e⟩
def pvl(i:Nat)(n:Ue a.env.scope b)(f:a.N[i]?=some b:=by rfl):PE a (.Name b e) (x6 i):=HW f (.inl n.l) n.d n.c
def pvc(i:Nat)(n:VX a.env.scope b)(f:a.N[i]?=some b:=by rfl):PE a (.Name b e) (x6 i):=HW f (.inr (.inl n.l)) n.d n.c
theorem Mh{e:Th}{P:Program}{w:World}{K:hB}{g:hP}{c:Heap}{N:hU}{d:Str}{b:Scope}{f:Addr}{cd:Value}{A:Around}{a:List Env}{s:Shared}{H:Hp}{E:XK}:(sH e P w K g c N d b f cd A a s H E).K=K:=rfl
theorem EF(D:Ends)(a:St)(H:Hp):Wa D a H=False:=rfl
theorem Qt(i j:Int):uo (.int i) (.int j)=true:=rfl
theorem QS(i j:Bool):uo (.bl i) (.bl j)=true:=rfl
theorem QX(i:Int):uo (.int i) .ο=true:=rfl
theorem QY(i:Int):uo .ο (.int i)=true:=rfl
theorem Qi:uo .ο .ο=true:=rfl
theorem Qn(i j:Str):uo (.str i) (.str j)=true:=rfl
def Tv{K:hB}{H:Hp}{p:Addr}{a:List V}{i:Int}{v:V}{Q:VK}(h:H p=some (.tup a))(e:ϳ a i=some v)(q:Q v H):Kh K (.ref p) (.int i) H Q:=⟨p,a,i,v,rfl,rfl,Α.of h,e,q⟩
def Γ{K:hB}{H:Hp}{p:Addr}{a:List V}{i:Int}{v:V}{Q:VK}(h:H p=some (.lst a))(e:ϳ a i=some v)(q:Q v H):DI K (.ref p) (.int i) H Q:=⟨p,a,i,v,rfl,rfl,ι.of h,e,q⟩
def ixS{K:hB}{H:Hp}{p:Addr}{a:List V}{i:Int}{v:V}{Q:VK}(h:ι K H p a)(e:ϳ a i=some v)(q:Q v H):DI K (.ref p) (.int i) H Q:=⟨p,a,i,v,rfl,rfl,h,e,q⟩
def S9{K:hB}{H:Hp}{l:Addr}{a:List V}(h:H l=some (.lst a)):VW K "list" (.ref l) H:=.inl ⟨rfl,_,ι.of h⟩
def oS(h:c b=some (.lst a))(f:a.length<sizeLine)(q:e .ο (upd c b (.lst (a++[d])))):rW (.ref b) [d] c e:=⟨b,a,d,rfl,rfl,h,f,q⟩
def SN(h:d c=some (.lst a))(g:0<=b)(i:b<=a.length)(j:a.length<sizeLine)(q:f .ο (upd d c (.lst (a.take b.toNat++e::a.drop b.toNat)))):T8 (.ref c) [.int b,e] d f:=⟨c,a,b,e,rfl,rfl,h,g,i,j,q⟩
def NP(h:d b=some (.lst (a++[c])))(q:e c (upd d b (.lst a))):YN (.ref b) [] d e:=⟨b,a++[c],c,rfl,rfl,h,by simp,by rw[j5];exact q⟩
def d8(h:a<=100000):a<sizeLine:=fY h (by decide)
def bX(h:a<=100000):a<=sizeLine:=iP (d8 h)
def fR{a:Type}{b:List a}{i:Int}{v:a}(c:0<=i)(h:b[i.toNat]?=some v):ϳ b i=some v:=by
 obtain⟨n,rfl⟩:∃n:Nat,i=n:=⟨i.toNat,by lia⟩;exact Jn (by simpa using h)
def oJ(d:Gl b a)(f:∃t,b.mg a=some (.int i t))(hd:(a==("__debug__":Str))=false:=by decide):PE b (.Name a c) (tC (.int i)):=by
 obtain⟨t,e⟩:=f;exact DR d e ⟨t,rfl⟩ hd
def Itx(K:hB):Bool->Addr->It
 | true,a=>X0 K a
 | false,a=>YC K a
def O0(K:hB)(c:Bool)(f:TE):TI:=λd H R=>f d H λx b=>∃a,x=.ref a/\(∃e,Ω K c b a e)/\R (Itx K c a) b
def vT(c:Bool)(f:PE a d b):PI a e d (O0 a.K c b):=by
 cases c
 .exact y4 f
 .exact iA f
def tW(J:It)(p:Addr)(Q:VK)(g:TG)(q:TT)(r:TE)(h:St)(n:Hp):Prop:=∃W:Nat->Nat->List V->St->Hp->Prop,(∃m,W 0 m [] h n)/\∀i m c f d,W i m c f d->(J.stop i d/\Q (.ref p) d)\/(J.go i d/\∀x k,J.XZ i d x k->g x f k λa o=>q a o λb j=>
 if b=true then r a j λy l=>l p=some (.lst c)/\c.length<sizeLine/\∃e,e<m/\W (i+1) e (c++[y]) a (upd l p (.lst (c++[y])))
 else ∃e,e<m/\W (i+1) e c a j)
theorem Fs :K9 b f c h e d a g i=c a g λJ j=>∀p,j p=none->tW J p i h e d (nj b f a) (upd j p (.lst [])):=rfl
def sU(J:It)(D:Ends)(g:TG)(h:TS)(a:St)(H:Hp):Prop:=∃W:Nat->Nat->St->Hp->Prop,(∃m,W 0 m a H)/\∀i m a H,W i m a H->(J.stop i H/\D.nx a H)\/(J.go i H/\∃N:St->Hp->Prop,(∀c b,N c b->∃e,e<m/\W (i+1) e c b)/\∀x b,J.XZ i H x b->g x a b λd f=>h { D with nx:=N,ct:=N,bk:=D.nx } d f)
theorem JQ :Se b e c f a d=b a d λJ g=>sU J f e c a g:=rfl
def me{K:hB}{c:Bool}{a p:Addr}{xs:List V}{Q:VK}{g:TG}{v:TT}{w:TE}{n:St}{s:Hp}(l:Nat->List V->St->Hp->Prop)(I:l 0 [] n s)(B:∀i d f H,i<=xs.length->l i d f H->Ω K c H a xs)(E:∀(i:Nat) (x:V) (d:List V) (f:St) (H:Hp) (N:List V->St->Hp->Prop),(∀o h k,l (i+1) o h k->N o h k)->xs[i]?=some x->l i d f H->g x f H λj D=>v j D λb t=>
 if b=true then w j t λy z=>z p=some (.lst d)/\d.length<sizeLine/\N (d++[y]) j (upd z p (.lst (d++[y])))else N d j t)(A:∀d f H,l xs.length d f H->Q (.ref p) H):tW (Itx K c a) p Q g v w n s:=by
 refine⟨λi m d f H=>m=xs.length-i/\i<=xs.length/\l i d f H,⟨xs.length,by simp,cf _,I⟩,?_⟩;rintro i m d f H ⟨rfl,F,pv⟩;have q:=B i d f H F pv;by_cases r:i<xs.length
 .refine .inr ⟨?_,λx k y=>?_⟩
  .cases c
   .exact⟨xs,xs[i],q,by simp[r]⟩
   .exact⟨xs,xs[i],q,by simp[r]⟩
  .have e:k=H/\xs[i]?=some x:=by
    cases c
    .exact⟨y.1,y.2 xs q⟩
    .exact⟨y.1,y.2 xs q⟩
   obtain⟨rfl,C⟩:=e;exact E i x d f _ (λo h k=>∃u,u<xs.length-i/\(u=xs.length-(i+1)/\i+1<=xs.length/\l (i+1) o h k)) (λo h k G=>⟨xs.length-(i+1),by lia,rfl,r,G⟩) C pv
 .have e:i=xs.length:=by lia
  subst e;refine .inl ⟨?_,A d f H pv⟩;cases c
  .exact⟨xs,q,aJ _⟩
  .exact⟨xs,q,aJ _⟩
def kg{lo:Int}{n:Nat}{Q:VK}{g:TG}(q:Nat->List V->St->Hp->Prop)(C:q 0 [] c f)(A:∀(i:Nat) (j:List V) (l:St) (H:Hp) (N:List V->St->Hp->Prop),(∀r k p,q (i+1) r k p->N r k p)->i<n->q i j l H->g (.int (lo+i)) l H λo z=>h o z λb t=>
 if b=true then d o t λy v=>v a=some (.lst j)/\j.length<sizeLine/\N (j++[y]) o (upd v a (.lst (j++[y])))else N j o t)(w:∀j l H,q n j l H->Q (.ref a) H):tW (WO lo n) a Q g h d c f:=by
 refine⟨λi m j l H=>m=n-i/\i<=n/\q i j l H,⟨n,by simp,cf _,C⟩,?_⟩;rintro i m j l H ⟨rfl,D,pv⟩;by_cases s:i<n
 .refine .inr ⟨s,λx p y=>?_⟩;obtain⟨rfl,rfl⟩:=y;exact A i j l _ (λr k p=>∃u,u<n-i/\(u=n-(i+1)/\i+1<=n/\q (i+1) r k p)) (λr k p B=>⟨n-(i+1),by lia,rfl,s,B⟩) s pv
 .have e:i=n:=by lia
  subst e;exact .inl ⟨aJ _,w j l H pv⟩
def Oi:bootBuiltins "tuple"=some (.type "tuple"):=by decide +kernel
def Ek(K:hB)(h:a.K=K):lh a (.type "tuple") (λc H Q=>∃p b,c=[.ref p]/\((ι K H p b/\∀l,H l=none->Q (.ref l) (upd H l (.tup b)))\/(Α K H p b/\Q (.ref p) H))):=by subst h;exact gi
def oM(K:hB)(h:a.K=K):Xk a (DI K):=by subst h;exact bu
def Ka(K:hB)(h:a.K=K):Xk a (Kh K):=by subst h;exact eM
theorem Ct :∀{l:List (Str×NameKind)},l.lookup b=some a->∃y,(y,a)∈l
 | [],h=>by simp at h
 | (n,j)::r,h=>by
   rw[cV]at h;cases q:b==n with
   | true=>
     rw[q]at h;cases h;exact⟨n,aL⟩
   | false=>
     rw[q]at h;obtain⟨y,c⟩:=Ct h;exact⟨y,aI _ c⟩
def md(own:Nat)(f:∀y∈a.names,y.2≠.free)(l:∀y∈a.names,y.2≠.cell)(hk:a.kind=.function)(hn:∀y∈a.names,y.2=.local->a.names.lookup y.1=some .local)(hl:Nc.length=own):ϩ b Nc own [] a [] where
 YV:=closureFor_none f
 kind:=hk
 U5:=l
 names:=hn
 cells:=λx c h=>by cases h
 has:=λx h=>by
  have d:∀k,(relabel a b.env).names.lookup x=some k->k≠.cell/\k≠.free:=λk e=>by
   obtain⟨y,q⟩:=Ct e;obtain⟨⟨n,k0⟩,m,g⟩:=aZ.mp q;have j:=f _ m;have p:=l _ m;have o:(k0==NameKind.free)=false:=(by simpa using j);simp only[o,gg,dN,if_false]at g;cases g;exact⟨p,j⟩
  rcases h with h|h
  .exact absurd rfl (d _ h).1
  .exact absurd rfl (d _ h).2
 len:=by simpa using hl
 outer:=λi x h=>by
  rw[bW (by lia)]at h;cases h
def uM{K:hB}{a:Addr}{xs:List V}{g:TG}{h:TS}{D:Ends}{b:St}{H:Hp}(c:Nat->St->Hp->Prop)(o:c 0 b H)(k:∀i b H,i<=xs.length->c i b H->ι K H a xs)(n:∀(i:Nat) (x:V) (b:St) (H:Hp) (N:St->Hp->Prop),(∀d f,c (i+1) d f->N d f)->xs[i]?=some x->c i b H->g x b H λe m=>h { D with nx:=N,ct:=N,bk:=D.nx } e m)(j:∀b H,c xs.length b H->D.nx b H):sU (X0 K a) D g h b H:=OV c o k (λi x b H l p=>n i x b H (c (i+1)) (λ_ _ z=>z) l p) j
def F7{K:hB}{a:Addr}{xs:List V}{g:TG}{h:TS}{D:Ends}{b:St}{H:Hp}(c:Nat->St->Hp->Prop)(o:c 0 b H)(k:∀i b H,i<=xs.length->c i b H->Α K H a xs)(n:∀(i:Nat) (x:V) (b:St) (H:Hp) (N:St->Hp->Prop),(∀d f,c (i+1) d f->N d f)->xs[i]?=some x->c i b H->g x b H λe m=>h { D with nx:=N,ct:=N,bk:=D.nx } e m)(j:∀b H,c xs.length b H->D.nx b H):sU (YC K a) D g h b H:=DG c o k (λi x b H l p=>n i x b H (c (i+1)) (λ_ _ z=>z) l p) j
def Dt{lo:Int}{n:Nat}{g:TG}(e:Nat->St->Hp->Prop)(o:e 0 a b)(l:∀(i:Nat) (a:St) (b:Hp) (N:St->Hp->Prop),(∀f j,e (i+1) f j->N f j)->i<n->e i a b->g (.int (lo+i)) a b λh q=>d { c with nx:=N,ct:=N,bk:=c.nx } h q)(m:∀a b,e n a b->c.nx a b):sU (WO lo n) c g d a b:=MS e o (λi a b k p=>l i a b (e (i+1)) (λ_ _ z=>z) k p) m
def DF(W:Nat->St->Hp->Prop)(l:Nat)(q:W l a c)(m:∀(n:Nat) (a:St) (c:Hp) (N:St->Hp->Prop),(∀j g h,j<n->W j g h->N g h)->(∀g h,N g h->∃i,i<n/\W i g h)->W n a c->f a c λb k=>if b=true then ∃N:St->Hp->Prop,(∀g h,N g h->∃i,i<n/\W i g h)/\e { d with nx:=N,ct:=N,bk:=d.nx } a k else d.nx a k):Im f e d a c:=⟨W,⟨l,q⟩,λn a c w=>m n a c (λg h=>∃i,i<n/\W i g h) (λj _ _ p o=>⟨j,p,o⟩) (λ_ _ z=>z) w⟩
def p60:(0:Int)<10^(60:Int).toNat:=dI (by decide)
def zJ(h:a.natAbs<2^b):Builtin.Int.intBits a<=b:=by
 unfold Builtin.Int.intBits;by_cases z:a=0
 .subst z;simp
 .have hz:(a==0)=false:=by simpa using z
  rw[hz];simp only[dN,if_false];have:=(lM (by lia)).mpr h
  lia
def RE(d:a.natAbs<2^4000)(c:b.natAbs<2^4000):IntMulOk a b:=IntMulOk.of_bits (aW (zJ d) (by decide)) (aW (zJ c) (by decide))
open Pb
def tf(r:Road):List V:=[.int r.a,.int r.b,.int r.t,.int r.u]
abbrev ν(H:Hp):List Addr->List Road->Prop:=Paired λp r=>H p=some (.tup (tf r))
def ν.same(e:δ H b)(h:ν H c a):ν b c a:=Paired.imp' (λp r q=>e p _ q) h
theorem ν.get :∀{d:hH}{f:ix}{i:Nat}{x:V},ν c d f->(d.map V.ref)[i]?=some x->∃p r,x=.ref p/\d[i]?=some p/\f[i]?=some r/\c p=some (.tup (tf r))
 | _,_,i,x,.nil,e=>by simp at e
 | _,_,0,x,.cons (a:=p) (b:=r) h hs,e=>⟨p,r,by simpa using e.symm,by simp,by simp,h⟩
 | a::l1,_,i+1,x,.cons h hs,e=>by
   have g:(List.map V.ref l1)[i]?=some x:=by simpa using e
   obtain⟨p,r,l,j,k,m⟩:=ν.get hs g;exact⟨p,r,l,by simpa using j,by simpa using k,m⟩
def δ.tup{K:hB}{H b:Hp}{a:Addr}{xs:List V}(e:δ H b)(h:Α K H a xs):Α K b a xs:=by
 rcases h with(h|⟨o,h⟩)|h
 .exact .inl (.inl (e _ _ h))
 .exact .inl (.inr ⟨o,e _ _ h⟩)
 .exact .inr h
def δ.ϫ{K:hB}{H b:Hp}{c:Bool}{a:Addr}{d:List V}(e:δ H b)(h:Ω K c H a d):Ω K c b a d:=by
 cases c
 .exact δ.tup e h
 .exact δ.seq e h
def δ.new(o:HO)(h:a c=none):δ a (upd a c o):=λb u e=>by rw[aM (cC e h)];exact e
end L2
namespace L2
open PySem PySem.Spec PyProof.Rows
abbrev Wm:List Value:=[.type "ValueError",.type "Exception",.type "BaseException",.type "object"]
structure Wn(K:hB)(C:Addr):Prop where
 ty:PySem.W.typeIn K (.ref C)=some (.type "type")
 ga:PySem.W.findIn K (.ref C) "__getattribute__"=some (some (.builtin "BaseException.__getattribute__"))
 gt:PySem.W.findIn K (.ref C) "__getattr__"=some none
 cl:PySem.W.findIn K (.ref C) "__class__"=some (some (.builtin "object.__class__"))
 gs:PySem.W.specialIn K (.builtin "object.__class__") "__get__"=some (some (.builtin "getset_descriptor.__get__"))
 tk:PySem.W.takesIn K (.builtin "object.__class__")=some true
 mo:PySem.W.mroIn K C (.type "object")=some true
 mb:PySem.W.mroIn K C (.type "BaseException")=some true
 hd:PySem.W.hasDictIn K C=true
 sf:PySem.W.mroIn K C (.ref C)=some true
def qu(h:Heap)(e:Addr)(cls:Value)(d:Option Addr)(a:Value):Prop:=∃b c,h.get? e=some b/\b.cls=cls/\b.dict=d/\b.data=.fields c/\c[1]?=some a/\c[2]?=some .none
def TbO(h:Heap)(T:Addr)(c:Value):Prop:=∃a b,h.get? T=some a/\a.data=.fields b/\b[3]?=some c
structure Wo(h:Heap)(ea T:Addr)(cls:Value)(od:Option Addr)(fl:Value):Prop where
 e:qu h ea cls od (.ref T)
 t:TbO h T fl
 ne:T≠ea
structure Kept(fs xs:hH)(h h':Heap):Prop where
 keep:∀b o,h.get? b=some o->b∉fs->b∉xs->h'.get? b=some o
 slot:∀b o,h.get? b=some o->b∈fs->b∉xs->∃sl,h'.get? b=some { o with slots:=sl }
 there:∀b o,h.get? b=some o->∃o',h'.get? b=some o'
def Kept.mono(k:Kept g c h d)(s:∀b∈c,b∈a):Kept g a h d:=⟨λb o e f x=>k.keep b o e f λz=>x (s b z),λb o e f x=>k.slot b o e f λz=>x (s b z),k.there⟩
def Kept.trans(a:Kept g d j i)(b:Kept g d i h):Kept g d j h where
 keep:=λc o e f x=>b.keep c o (a.keep c o e f x) f x
 slot:=λc o e f x=>by
  obtain⟨s1,k⟩:=a.slot c o e f x;obtain⟨l,n⟩:=b.slot c _ k f x;exact⟨l,n⟩
 there:=λc o e=>by
  obtain⟨m,k⟩:=a.there c o e;exact b.there c m k
def Kept.Y2(k:∀b o,c.get? b=some o->a.get? b=some o):Kept f d c a:=⟨λb o e _ _=>k b o e,λb o e _ _=>⟨o.slots,k b o e⟩,λb o e=>⟨o,k b o e⟩⟩
def AQ(n:c.get? a=some f)(l:f.data=.fields j)(m:a∈d):Kept i d c (c.update a (Obj.mapFields (·.setIfInBounds g h))):=by
 have k:∀b o,c.get? b=some o->b∉d->(c.update a (Obj.mapFields (·.setIfInBounds g h))).get? b=some o:=λb o e x=>by
  rw[dR _ _ (λ(z:a=b)=>x (z▸m))];exact e
 refine⟨λb o e _ x=>k b o e x,λb o e _ x=>⟨o.slots,k b o e x⟩,λb o e=>?_⟩;by_cases z:b=a
 .subst z;exact⟨_,fH _ n (iB (eZ l _))⟩
 .rw[dR _ _ (Ne.symm z)];exact⟨o,e⟩
def OA(e:qu h a b f i):qu (h.update a (Obj.mapFields (·.setIfInBounds 1 g))) a b f g:=by
 obtain⟨o,p,r,m,n,j,s,k⟩:=e;have q:1<p.size:=(gQ.mp s).1;refine⟨_,_,fH _ r (iB (eZ j _)),?_,?_,eZ j _,by simp[q],by rw[Array.getElem?_setIfInBounds_ne (by decide)];exact k⟩
 .rw[<-m];exact Obj.cls_mapFields _ _
 .rw[<-n];obtain⟨c,d,l,t⟩:=o;cases l<;>rfl
def BR(e:qu f a b c d)(ne:g≠a):qu (f.update g h) a b c d:=by
 obtain⟨i,j,l,k⟩:=e;exact⟨i,j,by rw[dR _ _ ne];exact l,k⟩
def EH(e:qu g a b d f)(k:∀o,g.get? a=some o->c.get? a=some o):qu c a b d f:=by
 obtain⟨h,i,l,j⟩:=e;exact⟨h,i,k _ l,j⟩
def MB(e:qu d a g h i)(f:d.FunFrames b c):a∉ϧ c:=λz=>by
 obtain⟨p,l,m,_,_,n,_⟩:=e;obtain⟨_,o,j,k⟩:=f.mem z;rw[m]at j;cases j;exact k l n
def Pf(e:TbO c d g)(f:c.FunFrames a b):d∉ϧ b:=λz=>by
 obtain⟨m,j,k,l,_⟩:=e;obtain⟨_,o,h,i⟩:=f.mem z;rw[k]at h;cases h;exact i j l
def zF(r:Wo s.heap a c b d f)(h:∀m,Wo m a c b d .none->Kept fs [c] s.heap m->e () { s with heap:=m }):wpAny j i (setFlight (.ref a) none) e g s:=by
 obtain⟨⟨y,z,p,u,v,n,q,t⟩,⟨A,w,l,k,x⟩,ne⟩:=r;have o:3<w.size:=(gQ.mp x).1;unfold setFlight;refine ao (cQ p n q ?_);rw[aj (by simp:(Value.ref c != Value.none)=true)];refine iY l k o (h _ ⟨BR ⟨y,z,p,u,v,n,q,t⟩ ne,⟨_,_,fH _ l (iB (eZ k _)),eZ k _,by simp[o]⟩,ne⟩ (AQ l k (by simp)))
def Gc{A:Around}{s:Shared}{Q:Unit->Shared->Prop}(L:A.frames=some (d::g))(D:s.heap.FunFrames p (d::g))(K:d.frame=some j)(r:qu s.heap c i l m)(h:∀y H,Wo y c H i l (rawInt j)->Kept (ϧ (d::g)) [c] s.heap y->s.heap.get? H=none->Q () { s with heap:=y }):wpAny t A (do let a <-frameOf d;let v <-entryPlaceOf j n;let b <-EntryCells.newEntry k a .none (rawInt j) .none v;setField (.ref c) 1 b) Q q s:=by
 have J:=MB r D;refine ao (wpAny_frameOf_fun L D K λu w=>ao (wpAny_entryPlaceOf λv I=>?_));unfold EntryCells.newEntry newFields;refine ao (fB ?_ (I.sizeOk5 _ _ _ _ _));have B:qu u c i l m:=EH r λo e=>(w.2.1 c J).trans e;generalize E:({ cls:=.type "traceback",dict:=none,data:=.fields ([k,.ref j,.none,rawInt j,.none]++(if v.isEmpty then List.replicate 6 Value.none else v)).toArray }:Obj)=x;have G:qu (u.push x) c i l m:=EH B λo e=>aB _ e;obtain⟨T,U,F,S,O,C,M,R⟩:=id G;have lt:c<u.objs.size:=by
  obtain⟨_,_,e,_⟩:=B;exact aK e
 have N:(u.push x).get? u.objs.size=some x:=bc u (by rw[<-E];rfl);refine iY F C (gQ.mp M).1 (h _ u.objs.size ⟨OA G,⟨x,([k,.ref j,.none,rawInt j,.none]++(if v.isEmpty then List.replicate 6 Value.none else v)).toArray,?_,by rw[<-E],by simp⟩,eC lt⟩ ?_ ?_)
 .rw[dR _ _ (aV lt)];exact N
 .have k1:Kept (ϧ (d::g)) [c] s.heap u:=⟨λb o e f _=>(w.2.1 b f).trans e,λb o e _ _=>w.2.2 b o e,λb o e=>by
   obtain⟨P,z⟩:=w.2.2 b o e;exact⟨_,z⟩⟩
  exact k1.trans ((Kept.Y2 λb o e=>aB _ e).trans (AQ F C (by simp)))
 .exact Heap.get?_none_of_le (by rw[w.1];exact aJ _)
def OG{A:Around}{s:Shared}{Q:Unit->Shared->Prop}(p:A.frames=some (a::b))(o:s.heap.FunFrames f (a::b))(l:a.frame=some g)(r:qu s.heap c d e .none)(h:∀k m,Wo k c m d e (rawInt g)->Kept (ϧ (a::b)) [c] s.heap k->s.heap.get? m=none->Q () { s with heap:=k }):wpAny j A (noteFrame (.ref c) a) Q i s:=by
 obtain⟨x,y,t,w,u,n,q,v⟩:=id r;unfold noteFrame;simp only[l];refine ao (cQ t n q ?_);rw[ah (by decide)];exact Gc p o l r h
def JE{A:Around}{s:Shared}{Q:Unit->Shared->Prop}(F:A.frames=some (a::c))(y:s.heap.FunFrames j (a::c))(x:a.frame=some k)(r:Wo s.heap d f g i .none)(h:∀u p,Wo u d p g i (rawInt k)->Kept (ϧ (a::c)) [d,f] s.heap u->s.heap.get? p=none->Q () { s with heap:=u }):wpAny m A (noteFrame (.ref d) a) Q l s:=by
 have L:=Pf r.t y;obtain⟨⟨R,T,J,P,M,E,H,O⟩,⟨S,G,w,v,B⟩,ne⟩:=id r;unfold noteFrame;simp only[x];refine ao (cQ J E H ?_);rw[aj (by simp:(Value.ref f != Value.none)=true)];refine ao (cQ w v B ?_);rw[ah (by simp[rawInt])];have C:Kept (ϧ (a::c)) [d,f] s.heap (s.heap.update f (Obj.mapFields (·.setIfInBounds 3 Value.none))):=AQ w v (by simp);refine ao (iY w v (gQ.mp B).1 ?_);refine Gc F (y.of_keeps λb o e D=>⟨o,?_,rfl⟩) x (BR r.e ne) λu p K I n=>h u p K (C.trans (I.mono (by simp))) ?_
 .by_cases z:b=f
  .subst z;rw[w]at e;cases e;exact absurd v (D G)
  .rw[dR _ _ (Ne.symm z)];exact e
 .cases q:s.heap.get? p with
  | none=>rfl
  | some o=>
    obtain⟨N,z⟩:=C.there p o q;rw[z]at n;cases n
def MV{A:Around}{s:Shared}{Q:Unit->Shared->Prop}(z:A.frames=some (a::c))(y:s.heap.FunFrames base (a::c))(w:a.frame=some l)(r:qu s.heap d g i .none)(h:∀p t,Wo p d t g i .none->Kept (ϧ (a::c)) [d] s.heap p->s.heap.get? t=none->Q () { s with heap:=p }):wpAny k A (leaving a (.ref d)) Q j s:=by
 unfold leaving;refine ao (OG z y w r λF E u n q=>zF (fs:=ϧ (a::c)) (s:={ s with heap:=F }) u λv D m=>h v E D ⟨λb o e f x=>m.keep b o (n.keep b o e f x) f ?_,λb o e f x=>?_,λb o e=>?_⟩ q)
 .simp only[aG];rintro rfl;rw[q]at e;cases e
 .obtain⟨s1,e1⟩:=n.slot b o e f x;obtain⟨B,C⟩:=m.slot b _ e1 f (by
   simp only[aG];rintro rfl;rw[q]at e;cases e)
  exact⟨B,C⟩
 .obtain⟨o1,e1⟩:=n.there b o e;exact m.there b o1 e1
def Oa{A:Around}{s:Shared}{Q:Unit->Shared->Prop}(B:A.frames=some (a::c))(z:s.heap.FunFrames base (a::c))(y:a.frame=some m)(r:Wo s.heap d j g i .none)(h:∀q u,Wo q d u g i .none->Kept (ϧ (a::c)) [d,j] s.heap q->s.heap.get? u=none->Q () { s with heap:=q }):wpAny l A (leaving a (.ref d)) Q k s:=by
 unfold leaving;refine ao (JE B z y r λG F v p t=>zF (fs:=ϧ (a::c)) (s:={ s with heap:=G }) v λw E n=>h w F E ⟨λb o e f x=>n.keep b o (p.keep b o e f x) f ?_,λb o e f x=>?_,λb o e=>?_⟩ t)
 .simp only[aG];rintro rfl;rw[t]at e;cases e
 .obtain⟨s1,e1⟩:=p.slot b o e f x;obtain⟨C,D⟩:=n.slot b _ e1 f (by
   simp only[aG];rintro rfl;rw[t]at e;cases e)
  exact⟨C,D⟩
 .obtain⟨o1,e1⟩:=p.there b o e;exact n.there b o1 e1
def τ(P:Program)(w:World):Th:=λa H s E e c=>∃(f T:Addr)(d:Value)(g:Option Addr)(b:Hp),e=.ref f/\c.os=s.os/\AllBare c.gens/\Un (ϧ a) [] H b s.heap c.heap/\ϰ P w b c.heap/\b f=none/\b T=none/\s.heap.get? f=none/\s.heap.get? T=none/\Wo c.heap f T d g .none/\E d g b
def bz :bI (τ a b):=λc H s e d h=>by
 obtain⟨_,_,_,_,_,_,_,_,_,_,_,_,_,_,_,z⟩:=h;exact z
def Bk(x:ϰ i l c j)(k:Kept h d j g)(f:∀b∈h,c b=none)(u:∀b∈d,c b=none):ϰ i l c g:=λa o e=>by
 refine(x a o e).lE (λb m hb q=>k.keep b m q ?_ ?_) (λ_ q=>q) λ_ _ q=>q
 .intro z;rcases hb with rfl|hb
  .rw[f _ z]at e;cases e
  .rw[f _ z]at hb;cases hb
 .intro z;rcases hb with rfl|hb
  .rw[u _ z]at e;cases e
  .rw[u _ z]at hb;cases hb
def Go(x:ϰ d g c b)(n:b.get? a=none):c a=none:=by
 cases q:c a with
 | none=>rfl
 | some o=>
   have lt:=x.lt q;cases z:b.get? a with
   | some o'=>rw[z]at n;cases n
   | none=>
     exfalso
     have:=(x a o q);cases o with
     | lst xs=>obtain⟨_,_,_,_,e⟩:=this;rw[n]at e;cases e
     | tup xs=>obtain⟨_,_,_,h,e,_⟩:=this;rw[n]at e;cases e
     | dK ρ=>obtain⟨_,_,_,_,h,_,_,e,_⟩:=this;rw[n]at e;cases e
     | dT ρ=>obtain⟨_,_,_,_,h,_,_,e,_⟩:=this;rw[n]at e;cases e
     | set S m=>obtain⟨h,_,_,_,e,_⟩:=this;rw[n]at e;cases e
     | ins C dx fs=>obtain⟨_,_,_,e,_⟩:=this;rw[n]at e;cases e
     | own y=>obtain⟨_,e⟩:=this;rw[n]at e;cases e
     | xd fs=>obtain⟨_,⟨_,_,_,e,_⟩,_⟩:=this;rw[n]at e;cases e
     | ϓ lo hi=>obtain⟨_,_,_,e⟩:=this;rw[n]at e;cases e
     | U0 h u=>obtain⟨e,_⟩:=this;rw[n]at e;cases e
     | XW ps=>have e:b.get? a=some _:=this;rw[n]at e;cases e
     | met f y=>have e:b.get? a=some _:=this;rw[n]at e;cases e
     | ext φ=>obtain⟨_,⟨_,e⟩,_⟩:=this;rw[n]at e;cases e
def Gx{P:Program}{w:World}{K:hB}{x:hP}{base:Heap}{N:hU}{d:Str}{c:Scope}{f:Addr}{cd:Value}{A:Around}{a:List Env}{s:Shared}{H:Hp}{E:XK}{v:Th}{h:hE}{t:St}{q:Hp}{l:Shared}{r:Heap}{p:hH}(J:Inv (sH v P w K x base N d c f cd A a s H E) h t q l)(k:Kept (ϧ (envOfC d c s.heap.objs.size f cd::a)) p l.heap r)(y:∀b∈p,s.heap.get? b=none):Un (ϧ a) [] H q s.heap r:=by
 have g:Un (ϧ a) [] H q s.heap l.heap:=J.base;have nl:∀b o,s.heap.get? b=some o->b∉p:=λb o e z=>by rw[y b z]at e;cases e
 have u:∀b o,s.heap.get? b=some o->b∉ϧ a->b∉ϧ (envOfC d c s.heap.objs.size f cd::a):=λb o e z m=>by
  unfold ϧ at m z;rw[i5]at m;have:(envOfC d c s.heap.objs.size f cd).frame=some s.heap.objs.size:=rfl;rw[this]at m;rcases aE.mp m with m|m
  .exact absurd (aK e) (by rw[m];exact cU _)
  .exact z m
 refine⟨λb o e n j i=>k.keep b o (g.keep b o e n j i) (u b o e j) (nl b o e),λb o e n j i=>?_,g.free,λb o e i=>?_,g.lT,g.gE,g.nE⟩
 .obtain⟨sl,e1⟩:=g.slot b o e n j i;by_cases m:b∈ϧ (envOfC d c s.heap.objs.size f cd::a)
  .obtain⟨s2,e2⟩:=k.slot b _ e1 m (nl b o e);exact⟨s2,e2⟩
  .exact⟨sl,k.keep b _ e1 m (nl b o e)⟩
 .obtain⟨o1,e1⟩:=g.there b o e i;exact k.there b o1 e1
def rG{P:Program}{w:World}{K:hB}{l:hP}{base:Heap}{N:hU}{g:Str}{c:Scope}{f:Addr}{cd:Value}{A:Around}{a:List Env}{s:Shared}{H:Hp}{E:XK}{k:Th}{d:hE}{j:St}{i:Hp}{h:Shared}(J:Inv (sH k P w K l base N g c f cd A a s H E) d j i h){b:Addr}(n:h.heap.get? b=none):s.heap.get? b=none:=by
 cases q:s.heap.get? b with
 | none=>rfl
 | some o=>
   have m:Un (ϧ a) [] H i s.heap h.heap:=J.base;obtain⟨p,e⟩:=m.there b o q (by simp);rw[n]at e;cases e
def bT{P:Program}{w:World}{K:hB}{y:hP}{base:Heap}{N:hU}{d:Str}{a:Scope}{f:Addr}{cd:Value}{A:Around}{c:List Env}{s:Shared}{H:Hp}{E:XK} :pM (τ P w) (sH (τ P w) P w K y base N d a f cd A c s H E) E:=by
 intro m D F M e G I h;obtain⟨u,T,i,r,n,rfl,os,bare,t,g,o,B,p,z,x,q⟩:=h;have J:=I.V8 (ch:=[]) os t g bare (by simp);refine Oa (base:=base) J.ok.frames J.stack rfl x λL C j k l=>?_;have v:∀b∈ϧ (envOfC d a s.heap.objs.size f cd::c),n b=none:=J.oR;refine⟨u,C,i,r,n,rfl,J.os,J.bare,Gx J k ?_,Bk g k v ?_,o,Go g l,rG I p,rG J l,j,q⟩
 .intro b hb;simp only[aE,fN,or_false]at hb;rcases hb with rfl|rfl
  .exact rG I p
  .exact rG I z
 .intro b hb;simp only[aE,fN,or_false]at hb;rcases hb with rfl|rfl
  .exact o
  .exact B
def ME(X:Cx)(E:XK):Prop:=∀(a:hE)(g:St)(H:Hp)(s:Shared)(e:Addr)(c:Value)(f:Option Addr)(d:Heap)(h:Nat),Inv X a g H s->(∀b o,s.heap.get? b=some o->d.get? b=some o)->s.heap.get? e=none->qu d e c f .none->E c f H->X.xe (.ref e) { s with heap:=d,toks:=h }
def tK{P:Program}{w:World}{K:hB}{u:hP}{base:Heap}{N:hU}{d:Str}{a:Scope}{f:Addr}{cd:Value}{A:Around}{c:List Env}{s:Shared}{H:Hp}{E:XK} :ME (sH (τ P w) P w K u base N d a f cd A c s H E) E:=by
 intro l x j B o g m z n I r e t q;have J:=I.kept (t':=n) r;refine MV (base:=base) J.ok.frames J.stack rfl t λy v h k i=>?_;have p:∀b∈ϧ (envOfC d a s.heap.objs.size f cd::c),j b=none:=J.oR;refine⟨o,v,g,m,j,rfl,J.os,J.bare,Gx J k ?_,Bk J.Β k p ?_,Go I.Β e,Go J.Β i,rG I e,rG J i,h,q⟩
 .intro b hb;rw[aG.mp hb];exact rG I e
 .intro b hb;rw[aG.mp hb];exact Go I.Β e
def Bj(K:hB)(C:Addr):Prop:=∃(o e:Str)(N:Addr)(g d:hL)(a:Bool)(j:hU)(b:hL)(l:Bool)(c:Option Bool)(n:Option Addr)(i k m f h:Option Value),K.lookup C=some (excClassObj o e C N g d a j b l c n i k m f h "ValueError.__new__")/\PySem.W.nsOkIn K N=true/\PySem.W.nsIn K N "__init__"=some none/\PySem.W.tailIn K Wm d=true
def Ra{K:hB}(s k:Str)(N:Addr)(t j:hL)(g:Bool)(u:hU)(h:hL)(v:Bool)(i:Option Bool)(r:Option Addr)(m q p n o:Option Value)(l:K.lookup d=some f)(e:f=excClassObj s k d N t j g u h v i r m q p n o "ValueError.__new__")(a:PySem.W.nsOkIn K N=true)(b:PySem.W.nsIn K N "__init__"=some none)(c:PySem.W.tailIn K Wm j=true):Bj K d:=by
 subst e;exact⟨_,_,_,_,_,_,_,_,_,_,_,_,_,_,_,_,l,a,b,c⟩
def Mf(C:Addr)(E:XK)(t:TA):TS:=λ_ a H=>t a H λc b=>c.length<=sizeLine/\E (.ref C) none b
def rH{X:Cx}{x:Str}{L:Pos}{c:Pos}{f:Pos}{d:Expr}{b:List Expr}{t:TA}{C:Addr}{E:XK}(q:Bj X.K C)(S:X.calm=true)(M:ME X E)(O:Gl X x)(T:X.mg x=some (.ref C))(z:PA X (d::b) t)(hdb:(x==("__debug__":Str))=false:=by decide)(i:starEach (d::b) X.env=(false,eval d X.env)::starEach b X.env:=by rfl)(r:(backTo c (starEach b X.env)).any (·.1)=false:=by rfl):PS X (.Raise (some (.Call (.Name x L) (d::b) [] c)) none f) (Mf C E t):=by
 intro a s j H D I h;obtain⟨nm,v,N,bs,bm,hdct,sn,sub,ab,col,dd,k0,k1,k2,k3,k5,w,k,U,P⟩:=q;have B:=I.mod.Yw;have n:=PySem.W.tail_of_in B P;have y:X.base.Ns N (X.base.nsMap N):=.of_isNs (PySem.W.isNs_of_in B k);have Q:(backTo c (starEach (d::b) X.env)).any (·.1)=false:=by
  rw[i];show(false||(backTo c (starEach b X.env)).any (·.1))=false;rw[r]
  rfl
 refine wpAny_Raise_call_subT (C:=C) (nm:=nm) (q:=v) (N:=N) (bs:=bs) (bm:=bm) (hdct:=hdct) (sn:=sn) (sub:=sub) (ab:=ab) (col:=col) (dd:=dd) (k0:=k0) (k1:=k1) (k2:=k2) (k3:=k3) (k5:=k5) PySem.F.excBase_ValueError
  (n.hasType (by decide +kernel)) (I.ok.hd S) Q (PySem.W.nsMap_none_of_in B k U) (tS I O T ⟨rfl,?_⟩ hdb)
 have g:=z c a s j H _ I h;rw[i]at g ⊢;refine jX (ϕ g λA o ⟨Y,p,e,u,l⟩=>⟨rfl,by show A.length<=_;rw[<-u.length];exact l.1,e.bk _ _ (B _ _ w),y.keeps e.bk,n.keeps e.bk,λR J m=>?_⟩);obtain⟨V,G,_,_⟩:=m.there;exact M a j p o J (.ref C) none R o.toks e m.keeps m.new ⟨_,_,G,rfl,rfl,rfl,rfl,rfl⟩ l.2
def XP(CX:Th)(X:Cx)(a:hE)(b:St)(E:XK)(e:Value)(c:Shared):Prop:=∃H s,Inv X a b H s/\CX X.stack H s E e c
def PEx(c:Th)(X:Cx)(e:Expr)(t:XK->TE):Prop:=∀(E:XK)(a:hE)(s:Shared)(b:St)(H:Hp)(Q:VK),Inv X a b H s->t E b H Q->wpAny (model X.prog X.w) X.A (eval e X.env) (EP X a b Q) (XP c X a b E) s
abbrev XS(d:Th)(X:Cx)(a:hE)(c:St->XK)(e:Value)(f:Shared):Prop:=∃b,XP d X a b (c b) e f
def PSx(d:Th)(X:Cx)(st:Stmt)(t:(St->XK)->TS):Prop:=∀(c:St->XK)(a:hE)(s:Shared)(b:St)(H:Hp)(D:Ends),Inv X a b H s->t c D b H->wpAny (model X.prog X.w) X.A (exec st X.env) (SP X a D) (XS d X a c) s
def RF(d:Th)(X:Cx)(st:List Stmt)(t:(St->XK)->TS):Prop:=∀(c:St->XK)(a:hE)(s:Shared)(b:St)(H:Hp)(D:Ends),Inv X a b H s->t c D b H->wpAny (model X.prog X.w) X.A (execs st X.env) (SP X a D) (XS d X a c) s
def Pq{y:Th}{X:Cx}{k:Nat}{f:Addr}{G:FuncData}{m:hU}{v:Sp}{j:List V}{i:hL}{x:Str}{p:Pos}{a:Pos}{e:Expr}{g:List Expr}{t:TA}(F:ϋ X.prog X.w X.K X.mg X.base y k f G m v)(Y:Ρ k X.A)(U:Gl X x)(Z:X.mg x=some (.ref f))(T:PySem.W.keepIn X.K (.ref f)=true)(P:Binds X.K G m i)(O:Vals j i)(S:PA X.Xh (e::g) t)(l:(x==("__debug__":Str))=false:=by decide)(L:starEach (e::g) X.env=(false,eval e X.env)::starEach g X.env:=by rfl)(N:(backTo a (starEach g X.env)).any (·.1)=false:=by rfl):PEx y X (.Call (.Name x p) (e::g) [] a) (λE=>sd v j E t):=by
 intro E c s M H Q I h;refine hW (tS I U Z ?_ l);refine iZ (h₀:=X.base) I.ok.mod.Yw T (da (S a c s M H _ (I.wish _) h) (λd n ⟨D,o,B,r,q⟩=>⟨B.Ϝ.oK,?_⟩) λ_ _ z=>False.elim z) L N;have J:=B.Ϝ;have C:Vals (D++j) (d++i):=r.append O;have R:(d++i).length=m.length:=by rw[<-C.length];exact F.len _ _ _ _ q
 refine my (jv (F.run X.A X.stack n o ⟨d,[]⟩ (d++i) (D++j) Q E Y J.YF (P n d J.oK R) C q) λr s' b=>?_);cases r with
 | error e=>exact⟨o,n,J,b⟩
 | ok fl=>
   cases fl with
   | ret u=>exact J.after b
   | next=>exact False.elim b
   | brk=>exact False.elim b
   | cont=>exact False.elim b
def QG(j:PEx a d c b):PSx a d (.Return (some c) e) (λi D f H=>b (i f) f H D.rt):=by
 intro i g s f H D I h;exact wpAny_Return_some (da (j (i f) g s f H _ I h) (λv p ⟨x,k,m,l,n⟩=>⟨x,f,k,m,l,n⟩) λc o z=>⟨f,z⟩)
def Ov{c:Th}{X:Cx}{st:Stmt}{b:(St->XK)->TS}(g:PSx c X st b):RF c X [st] b:=by
 intro d a s e H D I h;refine lF (ϕ (g d a s e H D I h) λf i q=>?_);cases f with
 | next=>exact gV q
 | ret v=>exact q
 | brk=>exact q
 | cont=>exact q
abbrev Cx.held(X:Cx)(e:Value):Cx:={ X with A:=X.A.mark (some e),calm:=false }
def Cx.Ok.held{X:Cx}(a:X.Ok)(e:Value):(X.held e).Ok:=⟨a.mod,a.kind,a.glob,a.blt,a.above,a.inj,a.has,a.XX,(λz=>nomatch z),a.frames,a.Yx,a.Z1,a.bs,a.V7,a.Uu,a.T6,a.gT,a.WN⟩
def Cx.Ok.U9{X:Cx}(b:(X.held a).Ok)(c:X.calm=true->X.A.handled=none):X.Ok:=⟨b.mod,b.kind,b.glob,b.blt,b.above,b.inj,b.has,b.XX,c,b.frames,b.Yx,b.Z1,b.bs,b.V7,b.Uu,b.T6,b.gT,b.WN⟩
def Inv.held{X:Cx}{a:hE}{b:St}{H:Hp}{s:Shared}(I:Inv X a b H s)(e:Value):Inv (X.held e) a b H s:=⟨I.ok.held e,I.os,I.bare,I.base,I.loc,I.cell,I.free,I.ϔ,I.pin,I.Β,I.len⟩
def Inv.U9{X:Cx}{a:hE}{b:St}{H:Hp}{s:Shared}{e:Value}(I:Inv (X.held e) a b H s)(c:X.calm=true->X.A.handled=none):Inv X a b H s:=⟨I.ok.U9 c,I.os,I.bare,I.base,I.loc,I.cell,I.free,I.ϔ,I.pin,I.Β,I.len⟩
def Inv.moved{X:Cx}{a:hE}{L:St}{H:Hp}{s:Shared}{B:hH}{D:Heap}{tk:Nat}(I:Inv X a L H s)(k:Kept (ϧ X.stack) B s.heap D)(y:∀b∈B,H b=none/\X.s₀.heap.get? b=none/\b≠X.env.locals/\(∀x c,X.env.cells.lookup x=some c->c≠b)/\∀p∈X.pn++a,p.1≠b):Inv X a L H { s with heap:=D,toks:=tk }:=by
 have w:∀b o,X.s₀.heap.get? b=some o->b∉B:=λb o e z=>by rw[(y b z).2.1]at e;cases e
 have E:∀b o,X.s₀.heap.get? b=some o->b≠X.env.locals:=λb o e z=>absurd (aU (aK e) I.ok.above) (by rw[z];exact cU _);have h:∀b,b≠X.env.locals->b∉X.fs->b∉ϧ X.stack:=λb J F z=>(aE.mp (I.T7 b z)).elim J F;have g:∀b o,s.heap.get? b=some o->b∉B->∃C,D.get? b=some { o with slots:=C }:=λb o e z=>by
  by_cases f:b∈ϧ X.stack
  .exact k.slot b o e f z
  .exact⟨o.slots,k.keep b o e f z⟩
 have cells:∀x c v,X.env.cells.lookup x=some c->s.heap.IsCell c v->D.IsCell c v:=λx c v e ⟨o,G,O⟩=>by
  obtain⟨C,q⟩:=g c o G λz=>(y c z).2.2.2.1 x c e rfl;exact⟨_,q,O⟩
 refine⟨I.ok,I.os,I.bare,⟨λb o e n A j=>?_,λb o e n A j=>?_,I.base.free,λb o e j=>?_,I.base.lT,I.base.gE,I.base.nE⟩,?_,λx c e=>?_,I.free,I.ϔ,λp M=>?_,Bk I.Β k I.oR λb P=>(y b P).1,I.len⟩
 .exact k.keep b o (I.base.keep b o e n A j) (h b (E b o e) A) (w b o e)
 .obtain⟨C,t⟩:=I.base.slot b o e n A j;obtain⟨R,T⟩:=g b _ t (w b o e);exact⟨R,T⟩
 .obtain⟨o1,t⟩:=I.base.there b o e j;exact k.there b o1 t
 .obtain⟨m,⟨o,es,ep,G,r⟩,l⟩:=I.loc;obtain⟨C,t⟩:=g _ o G λz=>(y _ z).2.2.1 rfl;refine⟨m,⟨_,es,ep,t,r⟩,λi x v J F S=>?_⟩;obtain⟨u,N,K⟩:=l i x v J F S;refine⟨u,N,?_⟩;rcases K with K|⟨Q,c,e,z⟩
  .exact .inl K
  .exact .inr ⟨Q,c,e,cells x c _ e z⟩
 .obtain⟨v,z⟩:=I.cell x c e;exact⟨v,cells x c v e z⟩
 .obtain⟨e,n,ne,nf,d⟩:=I.pin p M;exact⟨k.keep p.1 p.2 e (h p.1 ne nf) λz=>(y p.1 z).2.2.2.2 p M rfl,n,ne,nf,d⟩
def Inv.young{X:Cx}{a:hE}{c:St}{H:Hp}{s:Shared}(I:Inv X a c H s){b:Addr}(n:s.heap.get? b=none):X.s₀.heap.get? b=none\/b∈X.ex:=by
 by_cases z:b∈X.ex
 .exact .inr z
 .refine .inl ?_;cases q:X.s₀.heap.get? b with
  | none=>rfl
  | some o=>
    obtain⟨d,e⟩:=I.base.there b o q z;rw[n]at e;cases e
def Inv.apart{X:Cx}{a:hE}{f:St}{H:Hp}{s:Shared}(I:Inv X a f H s){b:Addr}(n:s.heap.get? b=none):b≠X.env.locals/\(∀x c,X.env.cells.lookup x=some c->c≠b)/\∀p∈X.pn++a,p.1≠b:=by
 refine⟨?_,λx c e z=>?_,λp g z=>?_⟩
 .rintro rfl;obtain⟨m,⟨o,i,h,d,r⟩,_⟩:=I.loc;rw[n]at d;cases d
 .obtain⟨v,o,d,hd⟩:=I.cell x c e;rw[z,n]at d;cases d
 .obtain⟨e,_⟩:=I.pin p g;rw[z,n]at e;cases e
def IE{K:hB}{s:Shared}{Q:Bool->Shared->Prop}(X:K.In s.heap)(r:∃o,s.heap.get? f=some o/\o.cls=.ref d)(l:Wn K b)(m:PySem.W.mroIn K d (.ref b)=some c)(h:Q c s):wpAny a j (excMatches (.ref f) (.ref b)) Q i s:=by
 obtain⟨o,p,u⟩:=r;obtain⟨n,g,D,t,os⟩:=s;have z:PySem.W.Looks a n (typeOf (.ref f)) (.ref d):=u▸(PySem.W.Looks.ld p).andThen .now;have y:=nF (M:=a) X m;have F:=nF (M:=a) X l.mb;have E:=PySem.W.looks_typeIn (M:=a) X l.ty;have B:PySem.W.Looks a n (isSubtype (.type "type") (.type "tuple")) false:=.of_pure tc_notTuple;obtain⟨cd,e,_⟩:=PySem.W.any_some l.hd;have C:PySem.W.Looks a n (isType (.ref b)) true:=by
  unfold PySem.W.clsIn at e;split at e
  .rename_i Uv
   intro v x A w k q;unfold isType loadHead;exact ao (wpAny_loadPart (k _ _ (X _ _ Uv)) (bh q))
  .cases e
 unfold excMatches isInstance isExcClass;cases c
 all_goals
  repeat lk
  exact h
structure Loose(X:Cx)(pins:hE)(H:Hp)(b:Addr):Prop where
 un:H b=none
 new:X.s₀.heap.get? b=none
 loc:b≠X.env.locals
 cel:∀x c,X.env.cells.lookup x=some c->c≠b
 pin:∀p∈X.pn++pins,p.1≠b
def Loose.all(l:Loose d b e a):e a=none/\d.s₀.heap.get? a=none/\a≠d.env.locals/\(∀x c,d.env.cells.lookup x=some c->c≠a)/\∀p∈d.pn++b,p.1≠a:=⟨l.un,l.new,l.loc,l.cel,l.pin⟩
abbrev TH:=Ends->St->Value->Option Addr->Hp->Prop
def PHs(X:Cx)(f:List ExceptHandler)(g:TH):Prop:=∀(a:hE)(s:Shared)(d:St)(H:Hp)(D:Ends)(c T:Addr)(b:Value)(e:Option Addr),Inv X a d H s->Wo s.heap c T b e .none->Loose X a H c->Loose X a H T->g D d b e H->wpAny (model X.prog X.w) X.A (handleBy (.ref c) X.env f) (SP X a D) X.xe s
def Xw:TH:=λ_ _ _ _ _=>False
def R4:PHs a [] Xw:=λ_ _ _ _ _ _ _ _ _ _ _ _ _ h=>h.elim
def P2(g:(St->XK)->TS)(f:TH):TS:=λD c H=>g (λa b d e=>f D a b d e) D c H
def RM(G:a.ex=[])(F:a.stack=a.env::a.outer)(Q:a.env.frame=some a.env.locals)(o:RF (τ a.prog a.w) a c g)(V:PHs a (d::j) i):PS a (.Try c (d::j) [] [] k) (P2 g i):=by
 intro l s O H D I h;refine wpAny_Try_except (da (o _ l s O H D I h) (λf N q=>?_) λe p z=>?_)
 .cases f with
  | next=>exact gV q
  | ret v=>exact q
  | brk=>exact q
  | cont=>exact q
 .obtain⟨σ1,H1,N,I1,ea,T,cls,od,H',rfl,os,bare,un,Β,n1,n2,f1,f2,er,q⟩:=z;have J:=I1.V8 (ch:=[]) os un Β bare (by simp);have m:∀b,N.heap.get? b=none->H' b=none->Loose a l H' b:=λb z u=>by
   obtain⟨t,A,B⟩:=I1.apart z;refine⟨u,?_,t,A,B⟩;rcases I1.young z with y|y
   .exact y
   .rw[G]at y;cases y
  have le:=m ea f1 n1;have lt:=m T f2 n2;have L:=J.ok.frames;have st:=J.stack;rw[F]at L st;refine JE L st Q er λE M C K n=>?_;rw[<-F]at K;have P:Inv a l σ1 H' { p with heap:=E }:=J.moved (tk:=p.toks) K λb o=>by
   simp only[aE,fN,or_false]at o;rcases o with rfl|rfl
   .exact le.all
   .exact lt.all
  have r:Loose a l H' M:=by
   obtain⟨t,A,B⟩:=J.apart n;refine⟨Go Β n,?_,t,A,B⟩;rcases J.young n with y|y
   .exact y
   .rw[G]at y;cases y
  refine zF (fs:=ϧ a.stack) (s:={ p with heap:=E }) C λU x R=>?_;have S:Inv a l σ1 H' { p with heap:=U }:=P.moved (tk:=p.toks) R λb o=>by rw[aG.mp o];exact r.all
  exact V l _ σ1 H' D ea M cls od S x le r q
def uu(a:List (Str×Addr)):List (Str×NameKind)->List (Str×Addr)->List (Str×Addr)
 | [],acc=>acc
 | (n,k)::r,acc=>if k==.free then uu a r ((n,(a.lookup n).getD 0)::acc)else uu a r acc
def Ks(h:∀y∈d.names,y.2=.free->(b.cells.lookup y.1).isSome=true):closureFor d b=pure (uu b.cells d.names []):=by
 have f:∀(l:List (Str×NameKind))(e:List (Str×Addr)),(∀y∈l,y.2=.free->(b.cells.lookup y.1).isSome=true)->(forIn l e λ(y:Str×NameKind)(c:List (Str×Addr))=>(if y.2==NameKind.free then do let a <-cellOf b y.1;pure (ForInStep.yield ((y.1,a)::c))else pure (ForInStep.yield c):Sem (ForInStep (List (Str×Addr)))))=(pure (uu b.cells l e):Sem (List (Str×Addr))):=by
  intro l
  induction l with
  | nil=>intro e _;rfl
  | cons y l ih=>
    obtain⟨n,k⟩:=y;intro e g;have m:=g (n,k) aL;have i:∀y∈l,y.2=.free->(b.cells.lookup y.1).isSome=true:=λy o=>g y (aI _ o);rw[mE];unfold uu;cases q:k==NameKind.free with
    | false=>
      simp only[dN,if_false,pure_bind];exact ih e i
    | true=>
      obtain⟨c,j⟩:=gR.mp (m (by simpa using q));dsimp only at j;simp only[if_true,cellOf,j,pure_bind,Option.getD_some];exact ih _ i
 have:=f d.names [] h;unfold closureFor;simp only[bind_pure];exact this
theorem Bm :∀{l:List (Str×NameKind)}{f:List (Str×Addr)},(∀y∈l,y.2=.free->(b.lookup y.1).isSome=true)->(∀c e,f.lookup c=some e->b.lookup c=some e)->(uu b l f).lookup c=some e->b.lookup c=some e
 | [],f,_,h2,h3=>h2 c e h3
 | (n,k)::r,f,h1,h2,h3=>by
   have i:∀y∈r,y.2=.free->(b.lookup y.1).isSome=true:=λy g=>h1 y (aI _ g);unfold uu at h3;cases q:k==NameKind.free with
   | false=>
     rw[q]at h3;exact Bm i h2 (by simpa using h3)
   | true=>
     rw[q]at h3;simp only[if_true]at h3;obtain⟨a,h⟩:=gR.mp (h1 (n,k) aL (by simpa using q));dsimp only at h;rw[h]at h3;refine Bm i (λy d g=>?_) h3;rw[cV]at g;cases z:y==n with
     | true=>
       rw[z]at g;cases g;rw[eq_of_beq z];exact h
     | false=>
       rw[z]at g;exact h2 y d g
theorem Bn :∀{l:List (Str×NameKind)}{d:List (Str×Addr)},((∃c,d.lookup a=some c)\/(a,NameKind.free)∈l)->∃c,(uu b l d).lookup a=some c
 | [],d,h=>by
   rcases h with h|h
   .exact h
   .cases h
 | (n,k)::r,d,h=>by
   unfold uu;cases q:k==NameKind.free with
   | false=>
     simp only[dN,if_false];refine Bn ?_;rcases h with h|h
     .exact .inl h
     .rcases aE.mp h with z|z
      .cases z;simp at q
      .exact .inr z
   | true=>
     simp only[if_true];refine Bn ?_;by_cases z:a=n
     .subst z;exact .inl ⟨(b.lookup a).getD 0,by rw[cV];simp⟩
     .rcases h with⟨c,h⟩|h
      .refine .inl ⟨c,?_⟩;rw[cV];have:(a==n)=false:=(by simpa using z);rw[this];exact h
      .rcases aE.mp h with y|y
       .cases y;exact absurd rfl z
       .exact .inr y
theorem rf{env:Env}{x:Str}{k:NameKind}:∀{l:List (Str×NameKind)},l.lookup x=some k->(l.map λ(n,k)=>if(k==NameKind.free&&env.scope.kind==.function&&env.kindOf n==some .cell)then(n,NameKind.cell)else(n,k)).lookup x=some (if(k==NameKind.free&&env.scope.kind==.function&&env.kindOf x==some .cell)then NameKind.cell else k)
 | [],h=>by simp at h
 | (n,j)::r,h=>by
   have a:=@rf env x k r;rw[aF];rw[cV]at h;cases z:x==n with
   | true=>
     rw[z]at h;cases h;have e:=eq_of_beq z;subst e;by_cases q:(k==NameKind.free&&env.scope.kind==.function&&env.kindOf x==some .cell)=true
     .simp only[q,if_true,cV,z]
     .simp only[q,if_false,cV,z,dN]
   | false=>
     rw[z]at h;dsimp only;by_cases q:(j==NameKind.free&&env.scope.kind==.function&&env.kindOf n==some .cell)=true
     .rw[aj q,cV,z];exact a h
     .rw[ah q,cV,z];exact a h
def QN{X:Cx}{d:hU}{scope:Scope}(a:Nat)(b:List Nat)(s:∀y∈scope.names,y.2≠.cell)(D:scope.kind=.function)(F:∀y∈scope.names,y.2=.local->scope.names.lookup y.1=some .local)(B:d.length=a+b.length)(m:∀y∈scope.names,y.2=.free->X.env.scope.names.lookup y.1=some .cell)(G:X.env.scope.kind=.function)(v:∀x,X.env.scope.names.lookup x=some .cell->∃c,X.env.cells.lookup x=some c)(t:∀i,i<b.length->∃x j,d[a+i]?=some x/\b[i]?=some j/\X.N[j]?=some x/\scope.names.lookup x=some .free):ϩ X d a b scope (uu X.env.cells scope.names []):=by
 have p:∀y∈scope.names,y.2=.free->(X.env.cells.lookup y.1).isSome=true:=λy C e=>by
  obtain⟨c,q⟩:=v _ (m y C e);rw[q]
  rfl
 have A:∀x,scope.names.lookup x=some .free->X.env.scope.names.lookup x=some .cell:=λx h=>m (x,.free) (ee h) rfl;refine⟨Ks p,D,s,F,λx c h=>Bm p (λx c z=>by simp at z) h,λx h=>?_,B,λi x h=>?_⟩
 .cases q:scope.names.lookup x with
  | none=>
    exfalso
    have:(relabel scope X.env).names.lookup x=none:=by
     unfold relabel;dsimp only
     revert q
     generalize scope.names=l
     induction l with
     | nil=>intro _;rfl
     | cons y l ih=>
       obtain⟨n,k⟩:=y;intro q;rw[cV]at q;cases z:x==n with
       | true=>rw[z]at q;cases q
       | false=>
         rw[z]at q;rw[aF];dsimp only;by_cases w:(k==NameKind.free&&X.env.scope.kind==.function&&X.env.kindOf n==some .cell)=true
         .rw[aj w,cV,z];exact ih q
         .rw[ah w,cV,z];exact ih q
    rw[this]at h;rcases h with h|h<;>cases h
  | some k=>
    have r:(relabel scope X.env).names.lookup x=some _:=rf (env:=X.env) q;cases k with
    | free=>exact Bn (.inr (ee q))
    | cell=>exact absurd rfl (s _ (ee q))
    | _=>
      rw[r]at h;simp at h
 .have hi:i<b.length:=by
   have:=(ax.mp h).1
   lia
  obtain⟨y,j,o,E,u,g⟩:=t i hi;rw[h]at o;cases o;have f:=A x g;refine⟨j,E,u,f,?_⟩;have r:(relabel scope X.env).names.lookup x=some _:=rf (env:=X.env) g;rw[r];have:X.env.kindOf x=some .cell:=f;rw[this,G]
  rfl
theorem JJ:∀{a:fc}{b:hL},Vals (a.map V.int) b->IntsAre b a
 | [],_,h=>by cases h;exact .nil
 | n::a,_,h=>by
   cases h with
   | cons r t=>
     obtain⟨k,rfl⟩:=(show ∃t,_=Value.int n t from r);exact .cons n k (JJ t)
theorem JK:∀{a:fc}{b:hL},IntsAre b a->Vals (a.map V.int) b
 | _,_,.nil=>.nil
 | _,_,.cons n t r=>.cons ⟨t,rfl⟩ (JK r)
def IQ:lh c (.builtin "sorted") (λk H Q=>∃(p:Addr)(g:fc),k=[.ref p]/\ι c.K H p (g.map V.int)/\g.length<64/\∀(l:Addr)(d:fc),H l=none->d.Perm g->d.Pairwise (·<=·)->Q (.ref l) (upd H l (.lst (d.map V.int)))):=by
 intro j s E H k F Q I r h;obtain⟨p,g,rfl,C,v,q⟩:=h;obtain⟨u,rfl,z⟩:=oF r;cases z;obtain⟨i,w,A,G⟩:=I.list C;have m:=JJ w;have J:=IntsAre.length m;refine sorted_ints A.isList m (by lia) λf d y n B=>?_;obtain⟨e,t⟩:=sortedAll_at s.heap i f;have D:H (s.heap.objs.size+1)=none:=I.Β.fresh (gB _);have x:d.length=g.length:=n.length_eq;refine⟨.ref (s.heap.objs.size+1),_,I.laid (a:=s.heap.objs.size+1) (o:=.lst (d.map V.int)) (t':=s.toks) (λb o e=>sortedAll_old e) (gB _) ⟨?_,f.toList,e,JK y,?_⟩,rfl,q _ d D n B⟩
 .rw[ag,x];exact bX (by lia)
 .exact t
def QZ{K:hB}(h:K.lookup c=some ⟨f,i,.cls e,g⟩)(m:e.mro=.ref c::.ref d::Wm)(j:Addr):PySem.W.mroIn K c (.ref j)=some (decide (j=c)||decide (j=d)):=by
 unfold PySem.W.mroIn PySem.W.clsIn;rw[h];simp only[Option.bind_some,m,List.isEmpty_cons,dN,if_false]
 congr 1
 by_cases k:j=c
 .subst k;simp
 .by_cases h2:j=d
  .subst h2;simp
  .have a:(Value.ref j==Value.ref c)=false:=(by simpa using k);have b:(Value.ref j==Value.ref d)=false:=(by simpa using h2);simp[fA,a,b,k,h2]
structure Ta(K:hB)(T C:Addr):Prop where
 x:Wn K C
 mr:∀C',PySem.W.mroIn K C (.ref C')=some (decide (C'=C)||decide (C'=T))
 mv:PySem.W.mroIn K C (.type "ValueError")=some true
def BX{K:hB}(h:K.lookup a=some ⟨e,g,.cls b,f⟩)(m:b.mro=.ref a::c)(i:(Value.ref a::c).contains d=true):PySem.W.mroIn K a d=some true:=by
 unfold PySem.W.mroIn PySem.W.clsIn;rw[h];simp only[Option.bind_some,m,List.isEmpty_cons,dN,if_false,i]
def Jr{K:hB}{C:Addr}{g:Value}{l:Option Addr}{cd:ClassData}{d:Array (Option Value)}{r:hL}(j:PySem.W.typeIn K (.ref C)=some (.type "type"))(f:PySem.W.findIn K (.ref C) "__getattribute__"=some (some (.builtin "BaseException.__getattribute__")))(i:PySem.W.findIn K (.ref C) "__getattr__"=some none)(n:PySem.W.findIn K (.ref C) "__class__"=some (some (.builtin "object.__class__")))(k:PySem.W.specialIn K (.builtin "object.__class__") "__get__"=some (some (.builtin "getset_descriptor.__get__")))(c:PySem.W.takesIn K (.builtin "object.__class__")=some true)(e:PySem.W.hasDictIn K C=true)(h:K.lookup C=some ⟨g,l,.cls cd,d⟩)(m:cd.mro=.ref C::r)(a:r.contains (.type "object")=true)(b:r.contains (.type "BaseException")=true):Wn K C:=⟨j,f,i,n,k,c,BX h m (by rw[fA,a,lO]),BX h m (by rw[fA,b,lO]),e,BX h m (by simp)⟩
section
variable{K:hB}{T C:Addr}
structure aaB(K:hB)(T:Addr):Prop where
 x:Wn K T
end
def Qy{K:hB}{C:Addr}{e:Value}{j:Option Addr}{cd:ClassData}{b:Array (Option Value)}(g:PySem.W.typeIn K (.ref C)=some (.type "type"))(d:PySem.W.findIn K (.ref C) "__getattribute__"=some (some (.builtin "BaseException.__getattribute__")))(f:PySem.W.findIn K (.ref C) "__getattr__"=some none)(k:PySem.W.findIn K (.ref C) "__class__"=some (some (.builtin "object.__class__")))(i:PySem.W.specialIn K (.builtin "object.__class__") "__get__"=some (some (.builtin "getset_descriptor.__get__")))(a:PySem.W.takesIn K (.builtin "object.__class__")=some true)(c:PySem.W.hasDictIn K C=true)(h:K.lookup C=some ⟨e,j,.cls cd,b⟩)(m:cd.mro=.ref C::Wm):aaB K C:=⟨Jr g d f k i a c h m (by decide +kernel) (by decide +kernel)⟩
def Q0{K:hB}{T:Addr}{C:Addr}{l:Value}{i:Option Addr}{cd:ClassData}{f:Array (Option Value)}(n:PySem.W.typeIn K (.ref C)=some (.type "type"))(d:PySem.W.findIn K (.ref C) "__getattribute__"=some (some (.builtin "BaseException.__getattribute__")))(g:PySem.W.findIn K (.ref C) "__getattr__"=some none)(j:PySem.W.findIn K (.ref C) "__class__"=some (some (.builtin "object.__class__")))(o:PySem.W.specialIn K (.builtin "object.__class__") "__get__"=some (some (.builtin "getset_descriptor.__get__")))(e:PySem.W.takesIn K (.builtin "object.__class__")=some true)(k:PySem.W.hasDictIn K C=true)(h:K.lookup C=some ⟨l,i,.cls cd,f⟩)(m:cd.mro=.ref C::.ref T::Wm):Ta K T C:=by
 have a:(Value.ref T::Wm).contains (.type "object")=true:=by rw[fA];simp[Wm]
 have b:(Value.ref T::Wm).contains (.type "BaseException")=true:=by rw[fA];simp[Wm]
 have c:(Value.ref T::Wm).contains (.type "ValueError")=true:=by rw[fA];simp[Wm]
 exact⟨Jr n d g j o e k h m a b,QZ h m,BX h m (by rw[fA,c,lO])⟩
def WV.Ϻ{P:Program}{w:World}{K:hB}{j:hP}{c:Heap}{x b:Str}{st:Stmt}{f:Addr}{l:FuncData}{N h:hU}{k:Nat}{g:Sp}(F:WV K x b st f l)(S:ε N h (aA st))(n:∀(e:Value) (A:Around) (a:List Env) (s:Shared) (H:Hp) (d:List V) (Q:VK) (E:XK),Ρ k (A.deeper (envOfC b (aA st) s.heap.objs.size f e))->g d H Q E->∃t,UQ (sH (τ P w) P w K j c N b (aA st) f e A a s H E) (jB st) t/\t { nx:=λ_ p=>Q .ο p,rt:=Q } (start N d) H)(i:∀d H Q E,g d H Q E->d.length=h.length:=by walk_at "v"):ϋ P w K j c (τ P w) (k+1) f l h g:=by
 obtain⟨B,v,kV,q,D,y,e,C,z,rfl,r,m⟩:=F.ex;exact Qd r m S i λA a s H d Q E u o=>n e A a s H d Q E u o
theorem ES :Mf d e c f a b=c a b λh g=>h.length<=sizeLine/\e (.ref d) none g:=rfl
theorem J0 :P2 c a b d e=c (λf g h i=>a b f g h i) b d e:=rfl
def O5(h:c d=some (.lst b))(g:c e=some (.lst a))(i:b.length+a.length<=sizeLine)(q:∀p,c p=none->f (.ref p) (upd c p (.lst (b++a)))):YQ (.ref d) (.ref e) c f:=⟨d,e,b,a,rfl,rfl,h,g,i,q⟩
def δ.put(e:δ a c)(n:a d=none)(o:HO):δ a (upd c d o):=λb u h=>by rw[aM (cC h n)];exact e b u h
theorem GH(i:Int):∀a:List Int,Xn (.int i) (a.map V.int)=decide (i∈a)
 | []=>by simp[Xn]
 | n::a=>by
   have b:=GH i a;unfold Xn at b ⊢;rw[aF,iT,b];have e:WU (.int n) (.int i)=decide (n=i):=by first|rfl|simp[WU]
   rw[e];by_cases h:i=n
   .subst h;simp
   .simp[h,Ne.symm h]
theorem Fp:∀a:List Int,(a.map V.int).all tz=true
 | []=>rfl
 | n::a=>by rw[aF,nZ,Fp a];rfl
def inL{K:hB}{a:Bool}{H:Hp}{p:Addr}{i:Int}{b:fc}{Q:VK}(h:H p=some (.lst (b.map V.int)))(q:Q (.bl (if a then !decide (i∈b)else decide (i∈b))) H):rIn K a (.int i) (.ref p) H Q:=by
 refine⟨p,_,rfl,.inl (ι.of h),rfl,Fp b,?_⟩;rw[GH];exact q
def PR(h:wpAny f b (storeName a c v) i g e):wpAny f b (assign (.Name c d) a v) i g e:=by
 show wpAny f b (do standAt d;bindName a c v) i g e;exact ao (i7 (mJ h))
def tE{X:Cx}{Nc:hU}{an:Nat}{js:List Nat}{scope:Scope}{M:List (Str×Addr)}{i:Nat}{x:Str}{px av:Pos}{P a m:Expr}{S:List Expr}{ϑ:Pos}{wi:TI}{g:TG}{tc:TT}{te:TE}(hN:X.N.Nodup)(bk:X.N[i]?=some x)(ar:X.env.scope.names.lookup x=some .local)(hc:X.calm=true)(T:ϩ X Nc an js scope M)(hi:PI X a m wi)(hg:∀C B z j,PG (X.comp Nc scope M C B z j) a g)(ht:∀C B z j,PTs (X.comp Nc scope M C B z j) S tc)(he:∀C B z j,PE (X.comp Nc scope M C B z j) P te)(hs:∀x,foldedSetIterable m X.env x=pure x:=by intro _;rfl)(bl:swapsWith (.ListComp P [⟨a,m,S,0⟩] scope ϑ) (some (.Name x px)) av.line X.env=pure true:=by rfl):PS X (.Assign [.Name x px] (.ListComp P [⟨a,m,S,0⟩] scope ϑ) av) (DX (K9 an js wi g tc te) (wR i)):=by
 intro G s σ H D I h;rw[exec_Assign_Name_used _ _ _ _ bl];refine ao (i7 (ao ?_));rw[arm_evalThenUse_ListComp];refine ao ?_;refine wpAny_comprehension_free (use:=some (assign (.Name x px) X.env)) rfl hs T.YV T.kind T.names (ϕ (hi G s σ H _ I h) λv s1 h1=>ϕ h1 λei f h2=>?_);obtain⟨it,j,tn,J,H1,rfl,Y,U,st,f1,R⟩:=h2;have Xq:∀b∈j,b<f.heap.objs.size:=λb k=>let ⟨o,e,_⟩:=U.obj _ _ st b k;aK e;refine fB (wpAny_newFunctionEnv T.U5 (by intro y hy;simp at hy) (λE iD Ϫ=>?_) T.kind);dsimp only at iD Ϫ ⊢;generalize YY:f.heap.push { cls:=.type "list",dict:=none,data:=.seq ([]:hL).toArray }=l at iD Ϫ ⊢;have hC:l.objs.size=f.heap.objs.size+1:=by rw[<-YY,d5]
 have YX:f.heap.objs.size≠l.objs.size:=by rw[hC];exact aV (fQ _)
 have Tr:f.heap.objs.size<=l.objs.size:=by rw[hC];exact gB _
 have b7:∀b,b<f.heap.objs.size->b≠l.objs.size:=λb k=>by rw[hC];exact aV (gm k)
 have a0:∀b o,f.heap.get? b=some o->E.get? b=some o:=λb o e=>Ϫ.extBut b o (b7 b (aK e)) (aB _ (YY▸aB _ e));have ϴ:∃n,E.get? f.heap.objs.size=some { cls:=.type "list",data:=.seq ([]:hL).toArray n }:=⟨_,Ϫ.extBut _ _ YX (aB _ (YY▸bc _ rfl))⟩;have UE:tn 0 E:=U.keep _ _ _ st λb _ o e=>a0 b o e;obtain⟨W,⟨m0,w0⟩,aT⟩:=R f.heap.objs.size Y.fresh;have Ic:=Gz (t:=f.toks+([]:List (Str×Value)).length) T Y Tr (aJ _) YX f1 Xq a0 iD ϴ;generalize Xr:X.comp Nc scope M l.objs.size f H1 j=Xc at Ic;have L:∀{Q:Hp},(∀b∈j,Q b=none)->∀b∈j,p8 Xc [] Q b:=λ{Q} hn b k=>by
  subst Xr;exact⟨hn b k,b7 b (Xq b k),(DZ T Y Tr f1 Xq).T6 b k,.inl k,λx c e=>(f1 b k).2.2.2.2.1 x c (T.cells x c e),λp hp=>by cases hp⟩
 have cr:∀b∈j,upd H1 f.heap.objs.size (.lst []) b=none:=λb k=>by
  rw[aM (aV (Xq b k))];exact(f1 b k).1
 have dK:Xc.calm=true:=by subst Xr;exact hc
 have Z:∀K:Shared,K={ f with heap:=E,toks:=f.toks+([]:List (Str×Value)).length }->codeAny (model X.prog X.w) X.A (.compLoop (.ListComp P [⟨a,m,S,0⟩] scope ϑ) 0 (.ref it) (.ref f.heap.objs.size) (compEnvC scope M l.objs.size X.env))
  (compPost (model X.prog X.w) X.A X.xe (some (assign (.Name x px) X.env)) (λ_ s'=>wpAny (model X.prog X.w) X.A (pure ()) (λ_ cS=>wpAny (model X.prog X.w) X.A (pure Flow.next) (SP X G D) X.xe cS) X.xe s') (.ref f.heap.objs.size) l.objs.size) K:=by
  rintro K rfl;refine An (λn s'=>∃i ys am Q,Inv Xc [] am Q s'/\tn i s'.heap/\(∀b∈j,Q b=none)/\W i n ys am Q) ?_ m0 ⟨0,[],_,_,Ic,UE,cr,w0⟩;rintro n s3 ⟨i,ys,O,H3,I3,VS,X1,w3⟩;rcases aT i n ys O H3 w3 with⟨stop,q⟩|⟨go,step⟩
  .subst Xr;refine ϕ (U.done (X.comp Nc scope M l.objs.size f H1 j) rfl rfl rfl hc i [] s3 O H3 _ I3 (L X1) VS stop) λr s4 ⟨hr,I4⟩=>?_;subst hr;obtain⟨m4,bS,_⟩:=id I4.loc;have J:=ET Y Tr f1 I4 (h':=s4.heap) (Heap.SameBut.refl _ _);have a1:l.objs.size≠X.env.locals:=eC (aU Y.lt Tr);have cy:X.s₀.heap.objs.size<=l.objs.size:=aW Y.sz Tr;have cc:∀y c,X.env.cells.lookup y=some c->c≠l.objs.size:=λy c e=>by
    obtain⟨v',o',Uv,_⟩:=Y.cell y c e;exact aV (aU (aK Uv) Tr)
   have cp:∀p∈X.pn++G,p.1≠l.objs.size:=λp hp=>by
    obtain⟨Uv,_⟩:=Y.pin p hp;exact aV (aU (aK Uv) Tr)
   refine PR (Fh (v:=.ref f.heap.objs.size) J hN bk (.inl ar) rfl (λs5 I5 ⟨ad,sb,had⟩=>?_) (.inr ar));have b0:l.objs.size≠ad:=by
    rcases had with rfl|had
    .exact a1
    .exact(cc _ _ had).symm
   obtain⟨oo,es,ep,e1,e2⟩:=bS;refine⟨m4,⟨oo,es,ep,(sb.2 _ b0).trans e1,e2⟩,λh' bx=>bh (bh ⟨_,H3,?_,q⟩)⟩;exact I5.turned (it:=l.objs.size) (t':=s5.toks) (λb o n e=>bx.extBut b o n e) I4.free a1 (.inr cy) cc cp
  .subst Xr;refine ϕ (U.item (X.comp Nc scope M l.objs.size f H1 j) rfl rfl rfl hc i [] s3 O H3 _ I3 (L X1) VS go) λr s4 ⟨u,hr,h4⟩=>?_;subst hr;refine ϕ h4 λ_ s5 ⟨x,H5,I5,r5,y5,Wc,Z7⟩=>?_;have Z8:=I5.pinned (L Z7) (U.obj _ _ Wc);have V:∀{af:St}{H7:Hp}{s7:Shared},Inv (X.comp Nc scope M l.objs.size f H1 j) ([]++wn j s5.heap) af H7 s7->Inv (X.comp Nc scope M l.objs.size f H1 j) [] af H7 s7/\tn (i+1) s7.heap/\∀b∈j,H7 b=none:=λ{af H7 s7} I7=>by
    refine⟨I7.ϲ,U.keep _ _ _ Wc λb k o e=>(I7.pin (b,o) (bw _ (bw _ (pE k e)))).1,λb k=>?_⟩;obtain⟨o,e,d⟩:=U.obj _ _ Wc b k;exact(I7.pin (b,o) (bw _ (bw _ (pE k e)))).2.1
   refine ϕ (hg _ _ _ _ _ s5 O H5 x u _ Z8 r5 (step x H5 y5)) λ_ s6 ⟨F,H6,I6,q6⟩=>?_;refine BA (ht _ _ _ _ _ s6 F H6 _ I6 q6) λok s7 H7 I7 q7=>?_;cases ok with
   | false=>
     rw[ah bj]at q7 ⊢;obtain⟨m',hm,w7⟩:=q7;obtain⟨J1,J2,J3⟩:=V I7;exact⟨m',hm,i+1,ys,F,H7,J1,J2,J3,w7⟩
   | true=>
     rw[aj rfl]at q7 ⊢;refine eF (he _ _ _ _ _ s7 F H7 _ I7 q7) λy s8 yv H8 I8 r8 ⟨cx,cv,m',hm,w8⟩=>?_;refine ϕ (yc _ s8 F H8 (.ref f.heap.objs.size) [yv] _ [y] (λv' Q=>W (i+1) m' (ys++[yv]) F Q) I8 rfl (.cons r8 .nil) ⟨_,ys,yv,rfl,rfl,cx,cv,w8⟩) λv9 s9 ⟨_,H9,I9,_,w9⟩=>?_;obtain⟨J1,J2,J3⟩:=V I9;exact⟨m',hm,i+1,ys++[yv],F,H9,J1,J2,J3,w9⟩
 exact codeAny_compStart_list (Z _ rfl) (U.self _ 0 _ _ _ UE (Z _ rfl))
theorem yC{K:hB}{H:Hp}:∀a:List Int,ό K H (a.map V.int) (a.map PyData.int)
 | []=>.nil
 | n::a=>.cons (.int n) (yC a)
theorem xH:∀a:List Int,PyData.depthAll (a.map PyData.int)<=1
 | []=>by simp[PyData.depthAll]
 | n::a=>by
   simp only[aF,PyData.depthAll];have:=xH a;have:(PyData.int n).depth<=1:=by simp[PyData.depth]
   lia
end L2
namespace Pb
open L2 PySem
def front(r:Int)(a:fz)(p:Int):V:=if p=r then .ο else .int (a p)
def cF(m:Int)(a:ix)(b:V)(p:Int):List Int:=(jM m a p).filter λv=>decide (V.int v≠b)
def ζ.ne(R:ζ e f d b c)(g:0<=a)(h:a<e)(i:a≠d):b a≠a:=λz=>by
 have:=(R.up a g h i).2.2;rw[z]at this
 lia
def dg(g:Good l m)(R:ζ l m k d n)(y:0<=i)(t:i<l):f∈cF l m (front k d i) i↔(0<=f/\f<l)/\f≠k/\d f=i:=by
 unfold cF;rw[b9,xa g,b4]
 constructor
 .rintro⟨ad,hf⟩;obtain⟨_,r,_⟩:=g.WW ad;refine⟨r,?_⟩;obtain⟨x,p,j⟩:=ad;have o:∀u w:Int,(u≠k/\d u=w)\/(w≠k/\d w=u)->u=i->w=f->f≠k/\d f=i:=λu w h s v=>by
   subst s v;rcases h with h|h
   .exfalso
    apply hf;unfold front;rw[ah h.1,h.2]
   .exact h
  rcases j with⟨a,b⟩|⟨a,b⟩
  .exact o x.a x.b (R.road x p) a b
  .exact o x.b x.a (R.road x p).symm a b
 .rintro⟨r,hr,hp⟩;have u:=R.up f r.1 r.2 hr;rw[hp]at u;refine⟨?_,λz=>?_⟩
  .obtain⟨x,p,j⟩:=u.2.1;exact⟨x,p,j.elim (λq=>.inr ⟨q.2,q.1⟩) (λq=>.inl ⟨q.2,q.1⟩)⟩
  .unfold front at z;by_cases c:i=k
   .rw[aj c]at z;cases z
   .rw[ah c]at z;have e:f=d i:=(by injection z);have w:=(R.up i y t c).2.2;have A:=u.2.2;rw[<-e]at w
    lia
def tj :(cF b a d c).Nodup:=(Di b a c).filter _
def nl(m:Int)(a:fz)(b:fc):List V:=(b7 m.toNat).map λv=>if v∈b then .int (a v)else .ο
def oj(m r:Int)(a:fz):List V:=(b7 m.toNat).map (front r a)
def uS :(nl b a c).length=b.toNat:=by unfold nl;rw[ag,b6]
def gY(h:a<b):(b7 b)[a]?=some (a:Int):=by unfold b7;rw[aN,gO h];rfl
def Ma(a:0<=v)(b:v<m):(nl m par ks)[v.toNat]?=some (if v∈ks then .int (par v)else .ο):=by
 unfold nl;rw[aN,gY (by lia)];show some (if((v.toNat:Nat):Int)∈ks then V.int (par ((v.toNat:Nat):Int))else V.ο)=_;rw[cA a]
def RB(h:0<=b)(j:b<d):(nl d a f).set b.toNat (.int (a b))=nl d a (f++[b]):=by
 refine gH λi=>?_;rw[List.getElem?_set];by_cases c:i<d.toNat
 .have e:∀l:List Int,(nl d a l)[i]?=some (if(i:Int)∈l then .int (a (i:Int))else .ο):=λl=>by
   have:=Ma (par:=a) (ks:=l) (v:=(i:Int)) (m:=d) (by lia) (by lia)
   rwa [dJ]at this
  rw[e,uS];by_cases z:b.toNat=i
  .have g:b=(i:Int):=(by lia);rw[aj z,aj (by lia),e,aj (by rw[g];simp),<-g]
  .rw[ah z,e];have g:¬((i:Int)=b):=(by lia);simp[g]
 .have e:∀l:List Int,(nl d a l)[i]?=none:=λl=>bW (by rw[uS];lia);rw[e,e,uS];by_cases z:b.toNat=i
  .lia
  .rw[ah z]
section
variable{m:Int}{b:ix}{r:Int}{a:fz}
structure Ϥ(m:Int)(b:ix)(r:Int)(a:fz)(ks ws:fc):Prop where
 nd:ks.Nodup
 ϓ:∀k∈ks,0<=k/\k<m
 nr:r∉ks
 sub:∀w∈ws,w=r\/w∈ks
 ZI:ws.Nodup
 ok:∀v∈ks,a v∉ws/\(a v=r\/a v∈ks)
 dn:∀v,0<=v->v<m->v≠r->(a v=r\/a v∈ks)->a v∉ws->v∈ks
end
def Ϥ.start:Ϥ d c a b [] [a] where
 nd:=List.nodup_nil
 ϓ:=λ_ h=>by cases h
 nr:=λh=>by cases h
 sub:=λw h=>.inl (aG.mp h)
 ZI:=by simp
 ok:=λ_ h=>by cases h
 dn:=λv _ _ _ h n=>by
  rcases h with h|h
  .exact absurd (by rw[h];simp) n
  .cases h
def Ϥ.at_(J:Ϥ b e c d ks ws)(g:0<=c)(f:c<b)(i:a∈ws):0<=a/\a<b:=by
 rcases J.sub a i with h|h
 .rw[h];exact⟨g,f⟩
 .exact J.ϓ a h
def Ϥ.front(J:Ϥ f e d b ks ws)(g:a∈ws):(if a∈ks then V.int (b a)else V.ο)=front d b a:=by
 unfold Pb.front;by_cases c:a=d
 .rw[aj c,ah (by rw[c];exact J.nr)]
 .rw[ah c,aj ((J.sub a g).resolve_left c)]
def Ϥ.step(g:Good j f)(R:ζ j f i d q)(H:0<=i)(G:i<j)(J:Ϥ j f i d l m)(e:m.Perm (p::ws')):Ϥ j f i d (l++cF j f (Pb.front i d p) p) (ws'++cF j f (Pb.front i d p) p):=by
 have B:p∈m:=e.mem_iff.mpr aL;have E:=J.at_ H G B;have r:∀v,v∈cF j f (Pb.front i d p) p↔(0<=v/\v<j)/\v≠i/\d v=p:=λv=>dg g R E.1 E.2;have D:(cF j f (Pb.front i d p) p).Nodup:=tj;generalize cF j f (Pb.front i d p) p=F at r D ⊢;have s:∀v∈F,v∉l:=λv A z=>(J.ok v z).1 (by rw[((r v).mp A).2.2];exact B);obtain⟨L,I⟩:=bD.mp (e.nodup_iff.mp J.ZI);have C:∀w∈ws',w∈m:=λw x=>e.mem_iff.mpr (aI _ x);refine⟨?_,?_,?_,?_,?_,?_,?_⟩
 .rw[eK];exact⟨J.nd,D,λa u b t z=>s b t (z▸u)⟩
 .intro k hk;rcases bi.mp hk with h|h
  .exact J.ϓ k h
  .exact((r k).mp h).1
 .intro z;rcases bi.mp z with h|h
  .exact J.nr h
  .exact((r i).mp h).2.1 rfl
 .intro w x;rcases bi.mp x with h|h
  .exact(J.sub w (C w h)).imp id (bJ _)
  .exact .inr (bw _ h)
 .rw[eK];refine⟨I,D,λa u b t z=>?_⟩;subst z;rcases J.sub a (C a u)with h|h
  .exact((r a).mp t).2.1 h
  .exact s a t h
 .intro v A;rcases bi.mp A with h|h
  .obtain⟨o1,o2⟩:=J.ok v h;refine⟨λz=>?_,o2.imp id (bJ _)⟩;rcases bi.mp z with z|z
   .exact o1 (C _ z)
   .rcases o2 with o|o
    .exact((r _).mp z).2.1 o
    .exact s _ z o
  .obtain⟨q1,q2,q3⟩:=(r v).mp h;rw[q3];refine⟨λz=>?_,(J.sub p B).imp id (bJ _)⟩;rcases bi.mp z with z|z
   .exact L z
   .obtain⟨w1,w2,w3⟩:=(r p).mp z;exact R.ne w1.1 w1.2 w2 w3
 .intro v v0 v1 vr h n;have y:d v∉F:=λz=>n (bw _ z);have K:d v=i\/d v∈l:=h.imp id λz=>(bi.mp z).resolve_right y;by_cases c:d v=p
  .exact bw _ ((r v).mpr ⟨⟨v0,v1⟩,vr,c⟩)
  .refine bJ _ (J.dn v v0 v1 vr K λz=>?_);rcases aE.mp (e.mem_iff.mp z)with z|z
   .exact c z
   .exact n (bJ _ z)
def Ϥ.perm(J:Ϥ g c i b f d)(e:d.Perm a):Ϥ g c i b f a where
 nd:=J.nd
 ϓ:=J.ϓ
 nr:=J.nr
 sub:=λw h=>J.sub w (e.mem_iff.mpr h)
 ZI:=e.nodup_iff.mp J.ZI
 ok:=λv h=>⟨λz=>(J.ok v h).1 (e.mem_iff.mpr z),(J.ok v h).2⟩
 dn:=λv j k hr h n=>J.dn v j k hr h λz=>n (e.mem_iff.mp z)
def Ϥ.all(R:ζ g h b a f)(J:Ϥ g h b a d []):∀v,0<=v->v<g->v≠b->v∈d:=by
 have l:∀n v,f v=n->0<=v->v<g->v≠b->v∈d:=by
  intro n
  induction n with
  | zero=>
    intro v e i j k;have:=(R.up v i j k).2.2
    lia
  | succ n ih=>
    intro v e i j k;have u:=R.up v i j k;refine J.dn v i j k ?_ (by simp);by_cases c:a v=b
    .exact .inl c
    .exact .inr (ih (a v) (by lia) u.1.1 u.1.2 c)
 exact λv=>l _ v rfl
def Ϥ.done(R:ζ b e d a g)(J:Ϥ b e d a f []):nl b a f=oj b d a:=by
 unfold nl oj;refine cB λv h=>?_;have i:0<=v/\v<b:=by
  unfold b7 at h;obtain⟨k,j,rfl⟩:=aZ.mp h;have:=cW.mp j
  lia
 unfold Pb.front;by_cases c:v=d
 .rw[aj c,ah (by rw[c];exact J.nr)]
 .rw[ah c,aj (J.all R v i.1 i.2 c)]
def rp(n:Nat)(v:V):(List.replicate n [v]).flatten=List.replicate n v:=by
 induction n with
 | zero=>rfl
 | succ n ih=>rw[dF,gF,ih,dF];rfl
def RY:nl a par []=List.replicate a.toNat V.ο:=by
 unfold nl;refine gH λi=>?_;by_cases c:i<a.toNat
 .rw[aN,gY c,jc,aj c];simp
 .rw[bW (by rw[ag,b6];lia),bW (by rw[b8];lia)]
def nQ(a:fz):Nat->Int->List Int
 | 0,v=>[v]
 | n+1,v=>v::nQ a n (a v)
def ζ.pos(R:ζ e f d c a)(g:0<=b)(h:b<e)(i:b≠d):a b=a (c b)+1:=(R.up b g h i).2.2.symm
theorem Dk(R:ζ c f d a b):∀(n:Nat)(v:Int),b v=n->0<=v->v<c->(nQ a n v).Nodup/\(∀x∈nQ a n v,(0<=x/\x<c)/\b x<=n)/\(nQ a n v).length=n+1
 | 0,v,e,h0,h1=>⟨by unfold nQ;simp,λx hx=>by
  unfold nQ at hx;rw[aG.mp hx];exact⟨⟨h0,h1⟩,by lia⟩,rfl⟩
 | n+1,v,e,h0,h1=>by
   have i:v≠d:=λz=>by rw[z,R.root]at e;lia
   have u:=R.up v h0 h1 i;obtain⟨j,g,h⟩:=Dk R n (a v) (by lia) u.1.1 u.1.2;unfold nQ;refine⟨bD.mpr ⟨λz=>?_,j⟩,λx hx=>?_,by rw[aO,h]⟩
   .have:=(g v z).2
    lia
   .rcases aE.mp hx with rfl|hx
    .exact⟨⟨h0,h1⟩,by lia⟩
    .exact⟨(g x hx).1,by have:=(g x hx).2;lia⟩
def lV(R:ζ b e f d a)(g:0<=c)(j:c<b):a c+1<=b.toNat:=by
 obtain⟨k,i,l⟩:=Dk R _ c rfl g j;have:=iL (m:=b) (by lia) k λx h=>(i x h).1
 lia
def wW(a:0<=v)(b:v<m):(oj m r par)[v.toNat]?=some (front r par v):=by
 unfold oj;rw[aN,gY (by lia)];show some (front r par ((v.toNat:Nat):Int))=_;rw[cA a]
def jw(g:Good h f)(R:ζ h f m e l)(p:0<=d)(q:d<h)(r:d≠m):∃k,cJ f d (e d)=some k/\2<=k/\k<=1000000:=by
 obtain⟨x,n,j⟩:=(R.up d p q r).2.1;obtain⟨i,o⟩:=cD n;have ok:=g.ok x n;rw[uW g o j];unfold ja;by_cases c:x.a=d/\x.b=e d
 .rw[aj c];exact⟨_,rfl,ok.t0,ok.t1⟩
 .rw[ah c];have s:x.a=e d/\x.b=d:=by
   rcases j with j|j
   .exact absurd j c
   .exact⟨j.2,j.1⟩
  rw[aj s];exact⟨_,rfl,ok.u0,ok.u1⟩
def sL(m:Int)(b:ix)(r:Int)(a:fz):Nat->Int->List Int
 | 0,v=>[v]
 | n+1,v=>v::(cF m b (front r a v) v).flatMap (sL m b r a n)
def eX(m:Int)(c:ix)(r:Int)(a:fz)(b:gn)(v:Int):List Int:=sL m c r a (m.toNat-1-b v) v
theorem wv{f h:Int->List Int}:∀{l:fc},(∀x∈l,f x=h x)->l.flatMap f=l.flatMap h
 | [],_=>rfl
 | a::l,e=>by rw[dQ,dQ,e a aL,wv λx b=>e x (aI _ b)]
def lY(g:Good f c)(R:ζ f c h a b)(l:0<=d)(o:d<f):eX f c h a b d=d::(cF f c (front h a d) d).flatMap (eX f c h a b):=by
 have p:∀u,u∈cF f c (front h a d) d->(0<=u/\u<f)/\u≠h/\a u=d:=λu=>(dg g R l o).mp;have k:∀u∈cF f c (front h a d) d,b u=b d+1/\b u+1<=f.toNat:=λu i=>by
  obtain⟨j,m,q⟩:=p u i;have:=R.pos j.1 j.2 m;rw[q]at this;exact⟨this,lV R j.1 j.2⟩
 unfold eX;cases e:f.toNat-1-b d with
 | zero=>
   have:cF f c (front h a d) d=[]:=ik.mpr λu i=>by
    have:=k u i
    lia
   rw[this]
   rfl
 | succ n=>
   show d::(cF f c (front h a d) d).flatMap (sL f c h a n)=_;rw[wv λu i=>show sL f c h a n u=sL f c h a (f.toNat-1-b u) u by rw[show f.toNat-1-b u=n by have:=k u i;lia]]
def up(a:fz):Nat->Int->Int
 | 0,x=>x
 | k+1,x=>a (up a k x)
theorem CD{f:Int->List Int}:∀{l:fc},l.Nodup->(∀u∈l,(f u).Nodup)->(∀u∈l,∀w∈l,∀x,x∈f u->x∈f w->u=w)->(l.flatMap f).Nodup
 | [],_,_,_=>by simp
 | a::l,n,h1,h2=>by
   obtain⟨e,i⟩:=bD.mp n;rw[dQ,eK];refine⟨h1 a aL,CD i (λu d=>h1 u (aI _ d)) (λu d w b=>h2 u (aI _ d) w (aI _ b)),λx h y g z=>?_⟩;subst z;obtain⟨w,b,c⟩:=iG.mp g;have:=h2 a aL w (aI _ b) x h c;exact e (this▸b)
theorem vW(g:Good d b)(R:ζ d b h a c):∀(n:Nat)(v:Int),0<=v->v<d->(sL d b h a n v).Nodup/\∀x∈sL d b h a n v,(0<=x/\x<d)/\∃k,c x=c v+k/\up a k x=v
 | 0,v,h0,h1=>⟨by unfold sL;simp,λx hx=>by
  unfold sL at hx;rw[aG.mp hx];exact⟨⟨h0,h1⟩,0,rfl,rfl⟩⟩
 | n+1,v,h0,h1=>by
   have l:∀u,u∈cF d b (front h a v) v->(0<=u/\u<d)/\u≠h/\a u=v:=λu=>(dg g R h0 h1).mp;have B:(cF d b (front h a v) v).Nodup:=tj;have j:=λu i=>vW g R n u (l u i).1.1 (l u i).1.2;have m:∀u∈cF d b (front h a v) v,c u=c v+1:=λu i=>by
    obtain⟨o,s,A⟩:=l u i;have:=R.pos o.1 o.2 s;rw[A]at this;exact this
   unfold sL;refine⟨bD.mpr ⟨λz=>?_,CD B (λu i=>(j u i).1) λu i w p x hx q=>?_⟩,λx hx=>?_⟩
   .obtain⟨u,i,hv⟩:=iG.mp z;obtain⟨_,k,e,_⟩:=(j u i).2 v hv;have:=m u i
    lia
   .obtain⟨_,k1,e1,f1⟩:=(j u i).2 x hx;obtain⟨_,t,C,y⟩:=(j w p).2 x q;have D:=m u i;have E:=m w p;have:k1=t:=(by lia);rw[<-f1,<-y,this]
   .rcases aE.mp hx with rfl|hx
    .exact⟨⟨h0,h1⟩,0,rfl,rfl⟩
    .obtain⟨u,i,hv⟩:=iG.mp hx;obtain⟨r,k,e,f⟩:=(j u i).2 x hv;exact⟨r,k+1,by rw[e,m u i];lia,by show a (up a k x)=v;rw[f];exact(l u i).2.2⟩
def p7(g:Good b d)(R:ζ b d f e a)(h:0<=c)(l:c<b):(eX b d f e a c).length<=24:=by
 obtain⟨i,j⟩:=vW g R (b.toNat-1-a c) c h l;have:=iL (m:=b) (by lia) i λx k=>(j x k).1;have:=g.Ζ;unfold eX
 lia
end Pb
namespace L2
open PySem PySem.Spec PyProof.Rows
def Itv(K:hB)(a:Addr)(n:Nat):It:=⟨λi H=>i<n/\∃b x,ι K H a b/\b[n-1-i]?=some x,λi H x c=>c=H/\∀b,ι K H a b->b[n-1-i]?=some x,λi H=>n<=i⟩
def Od{P:Program}{w:World}{K:hB}{S:Expr}(a g:Addr)(n:Nat):Turn P w K S (Itv K a n) [g] g (λi h=>i<=n/\h.IsRevIter g a ((n:Int)-1-(i:Int))) where
 mem:=by simp
 obj:=λi h st b hb=>by
  have e:b=g:=by simpa using hb
  subst e;obtain⟨_,o,e,c,d⟩:=st;exact⟨o,e,λv z=>by rw[d]at z;cases z⟩
 keep:=λi h m st k=>⟨st.1,st.2.at λo e=>k g (by simp) o e⟩
 item:=by
  intro X C hw r M i f s G H E I l st y;subst C hw r;obtain⟨hi,xs,x,J,L⟩:=y;obtain⟨ac,R,p,hz⟩:=I.list J;obtain⟨u,hu,U⟩:=R.get L;obtain⟨q,D,Y,A,B,F⟩:=l g (by simp);have T:(n:Int)-1-(i:Int)=((n-1-i:Nat):Int):=by lia
  have j:=st.2;rw[T]at j;refine wpAny_pyNext_rev_item j p.isList (x:=u) (by simpa using hu) λm t sb=>?_;have Z:Inv X f G H { s with heap:=m }:=I.turned (t':=s.toks) (λb o hb e=>(sb.2 b hb).trans e) q D A B F;obtain⟨o,e,c,d⟩:=id t;have V:((n-1-i:Nat):Int)-1=(n:Int)-1-((i+1:Nat):Int):=by lia
  rw[V]at t;exact⟨u,rfl,C1 (s:={ s with heap:=m }) e c d (by decide) ⟨x,H,Z,U,⟨rfl,λys Q=>by rw[I.ϱ Q J];exact L⟩,⟨hi,t⟩,λb hb=>(l b hb).1⟩⟩
 done:=by
  intro X C hw r M i f s G H E I l st y;subst C hw r;have O:n<=i:=y;obtain⟨q,D,Y,A,B,F⟩:=l g (by simp);have j:=st.2;have Zx:=st.1;rw[show(n:Int)-1-(i:Int)=-1 by lia]at j;exact wpAny_pyNext_rev_end (I.ok.hd M) j λm N=>⟨rfl,I.turned (t':=s.toks) (λb o hb e=>N b o hb e) q D A B F⟩
 self:=λ_ _ _ _ _ st h=>iJ st.2 h
def Pe(K:hB)(e:TE):TI:=λd H R=>e d H λx b=>∃a c,x=.ref a/\ι K b a c/\R (Itv K a c.length) b
def tT{X:Cx}{B:Expr}{e:Expr}{n:TE}{A:Pos}{d:Pos}(D:Gl X "reversed")(J:X.mg "reversed"=none)(p:PE X e n)(m:starEach [e] X.env=[(false,eval e X.env)]:=by rfl):PI X B (.Call (.Name "reversed" A) [e] [] d) (Pe X.K n):=by
 intro c s r H R I h;refine Call_ (pW I D J boot_reversed (cR ?_ m rfl));rw[m];show wpAny _ _ (spliced ((false,eval e X.env)::backTo d [])) _ _ s;refine ii (eF (p c s r H _ I h) λu g x t f v E=>iH ?_);obtain⟨a,j,G,y,q⟩:=E;subst G;cases v;obtain⟨k,z,C,L⟩:=f.list y;refine call_reversed_list C.isList ?_;have F:k.toArray.size=j.length:=by rw[aR,z.length]
 rw[F];refine iJ (i:=(j.length:Int)-1) (l:=a) ⟨_,bc _ rfl,rfl,rfl⟩ ?_;refine⟨g.heap.objs.size,[g.heap.objs.size],_,_,t,rfl,f.kept (t':=g.toks) λb o e=>aB _ e,Od a _ j.length,⟨cf _,?_⟩,λb w=>?_,q⟩
 .exact⟨_,bc _ rfl,rfl,by simp[revObj]⟩
 .have e:b=g.heap.objs.size:=by simpa using w
  subst e;exact f.U1 (aJ _) (f.Β.fresh (aJ _))
def rq{K:hB}{a:Addr}{xs:List V}{g:TG}{l:TS}{D:Ends}{b:St}{H:Hp}(f:Nat->St->Hp->Prop)(v:f 0 b H)(o:∀i b H,i<=xs.length->f i b H->ι K H a xs)(t:∀(i:Nat) (x:V) (b:St) (H:Hp) (N:St->Hp->Prop),(∀c d,f (i+1) c d->N c d)->xs.reverse[i]?=some x->f i b H->g x b H λh r=>l { D with nx:=N,ct:=N,bk:=D.nx } h r)(n:∀b H,f xs.length b H->D.nx b H):sU (Itv K a xs.length) D g l b H:=by
 refine⟨λi m b H=>m=xs.length-i/\i<=xs.length/\f i b H,⟨xs.length,by simp,cf _,v⟩,?_⟩;rintro i m b H ⟨rfl,u,p⟩;have q:=o i b H u p;by_cases j:i<xs.length
 .have hx:xs[xs.length-1-i]?=some xs[xs.length-1-i]:=az (by lia);refine .inr ⟨⟨j,xs,_,q,hx⟩,λc d=>∃k,k<xs.length-i/\(k=xs.length-(i+1)/\i+1<=xs.length/\f (i+1) c d),λc d z=>z,λx d y=>?_⟩;obtain⟨e,y⟩:=y;subst e;exact t i x b _ _ (λc d s=>⟨xs.length-(i+1),by lia,rfl,j,s⟩) (by rw[cu j];exact y xs q) p
 .have e:i=xs.length:=by lia
  subst e;exact .inl ⟨aJ _,n b H p⟩
theorem Ak(a:fc):∀n,n<=a.length->preSum (λi=>a.getD i 0) n=(a.take n).sum
 | 0,_=>by simp[preSum]
 | n+1,h=>by
   have c:=Ak a n (by lia);have b:n<a.length:=by lia
   rw[bg,az b,iV,<-c];simp[preSum,List.getD,b]
def BK(R:a.calm=true):lh a (.builtin "sum") (λL H Q=>∃(p:Addr)(f:fc),L=[.ref p]/\(ι a.K H p (f.map V.int)\/Α a.K H p (f.map V.int))/\Q (.int f.sum) H):=by
 intro J s S H L T Q I r h;obtain⟨p,f,rfl,hp,q⟩:=h;obtain⟨u,rfl,D⟩:=oF r;cases D;have O:a.A.in1.handled=none:=I.ok.hd R;have g:∀{c:hL},Vals (f.map V.int) c->c.length=f.length/\∀(i:Nat)(v:Value),c.toArray[i]?=some v->∃t,v=Value.int (f.getD i 0) t:=by
  intro c l;have d:c.length=f.length:=by rw[<-l.length,ag]
  refine⟨d,λi v y=>?_⟩;have M:c[i]?=some v:=by simpa using y
  have N:i<f.length:=by rw[<-d];exact(ax.mp M).1
  obtain⟨u,P,D⟩:=l.get (i:=i) (x:=V.int f[i]) (by rw[aN,az N];rfl);rw[M]at P;cases P;obtain⟨t,e⟩:=(show ∃t,v=Value.int f[i] t from D);exact⟨t,by rw[e];simp[List.getD,N]⟩
 have m:∀{n:Nat},n=f.length->preSum (λi=>f.getD i 0) n=f.sum:=λ{n} e=>by rw[Ak f n (by lia),bZ (by lia)]
 rcases hp with hp|hp
 .obtain⟨c,l,pl,hz⟩:=I.list hp;obtain⟨d,E⟩:=g l;have k:=pl.isList;have w:=pl.lt;refine call_sum_walkG (ig k ?_);refine⟨s.heap.objs.size,[s.heap.objs.size,p],[s.heap.objs.size],c.toArray.size,_,_,λi=>f.getD i 0,rfl,Walks.list (A:=a.A.in1) O _ p (aV w) c.toArray,⟨⟨_,bc _ rfl,rfl,rfl⟩,k.push _⟩,λb B=>?_,λi v y=>E i v y,λF z t' C=>?_⟩
  .simp only[Heap.push,nC];rcases aE.mp B with e|e
   .rw[e];exact fQ _
   .rw[aG.mp e];exact gm w
  .have kk:∀b o,s.heap.get? b=some o->F.get? b=some o:=λb o j=>C b o (λG=>by rw[aG.mp G]at j;exact cU _ (aK j)) (aB _ j);rw[m (by rw[aR,d])];exact⟨.int _,H,I.kept (t':=z) kk,⟨t',rfl⟩,q⟩
 .obtain⟨c,l,pl,hz⟩:=I.tuple hp;obtain⟨d,E⟩:=g l;have k:s.heap.IsTuple p c.toArray:=pl;have w:p<s.heap.objs.size:=by
   obtain⟨o,e,_⟩:=id k;exact aK e
  refine call_sum_walkG (ku k ?_);refine⟨s.heap.objs.size,[s.heap.objs.size,p],[s.heap.objs.size],c.toArray.size,_,_,λi=>f.getD i 0,rfl,Walks.tuple (A:=a.A.in1) O _ p (aV w) c.toArray,⟨⟨_,bc _ rfl,rfl,rfl⟩,k.push _⟩,λb B=>?_,λi v y=>E i v y,λF z t' C=>?_⟩
  .simp only[Heap.push,nC];rcases aE.mp B with e|e
   .rw[e];exact fQ _
   .rw[aG.mp e];exact gm w
  .have kk:∀b o,s.heap.get? b=some o->F.get? b=some o:=λb o j=>C b o (λG=>by rw[aG.mp G]at j;exact cU _ (aK j)) (aB _ j);rw[m (by rw[aR,d])];exact⟨.int _,H,I.kept (t':=z) kk,⟨t',rfl⟩,q⟩
def Sv(_ j:Int):Prop:=0<j/\j<18446744073709551616
def F8 :bY a (binaryOp .FloorDiv) (rI Sv λi j=>.int (i/j)):=ZC λi j _ _ _ _ _ b q=>by
 have f:(0:Int)<j:=b.1;have d:j<18446744073709551616:=b.2;refine floordiv_int (by lia) (by rw[kO i (by lia)];exact q) (.inl ?_);have e:j.natAbs.log2<64:=(lM (by lia)).mpr (by lia);unfold Builtin.divisionGoesByPylong;have c:(j==0)=false:=by simp;lia
 simp only[c,dN,if_false];have:¬(j.natAbs.log2/30+1>300):=by lia
 simp[this]
def wo{X:Cx}(K:hB)(c:X.K=K){a:List Expr}{k:Nat}{b:Pos}{t:Yz}{n:Nat}(f:X.calm=true)(h:ZA X a t)(e:(assignEach a X.env).length=n:=by rfl)(d:(assignEach a X.env).findIdx? (·.1)=none:=by rfl):PG X (.Tuple a k b) (LC K n t):=by
 subst c;exact iC f h e d
def BD{K:hB}{c d:Bool}{a b p:Addr}{xs zs:List V}{Q:VK}{g:TG}{A:TT}{B:TE}{o:St}{u:Hp}(l:Nat->List V->St->Hp->Prop)(P:l 0 [] o u)(E:∀i f h H,l i f h H->Ω K c H a xs/\Ω K d H b zs)(J:∀(i:Nat) (x z:V) (f:List V) (h:St) (H:Hp) (q:Addr) (N:List V->St->Hp->Prop),(∀r j n,l (i+1) r j n->N r j n)->xs[i]?=some x->zs[i]?=some z->l i f h H->H q=none->g (.ref q) h (upd H q (.tup [x,z])) λk F=>A k F λb v=>
 if b=true then B k v λy C=>C p=some (.lst f)/\f.length<sizeLine/\N (f++[y]) k (upd C p (.lst (f++[y])))else N f k v)(D:∀f h H,l (min xs.length zs.length) f h H->Q (.ref p) H):tW (Itz K c d a b) p Q g A B o u:=by
 refine⟨λi m f h H=>m=min xs.length zs.length-i/\i<=min xs.length zs.length/\l i f h H,⟨_,rfl,cf _,P⟩,?_⟩;rintro i m f h H ⟨rfl,U,pv⟩;obtain⟨s,t⟩:=E i f h H pv;by_cases S:i<min xs.length zs.length
 .refine .inr ⟨⟨xs,zs,xs[i]'(by lia),zs[i]'(by lia),s,t,az (by lia),az (by lia)⟩,λx n y=>?_⟩;obtain⟨G,R,T,M,rfl,rfl,I,O⟩:=y;exact J i R T f h H G (λr j n=>∃w,w<min xs.length zs.length-i/\(w=min xs.length zs.length-(i+1)/\i+1<=min xs.length zs.length/\l (i+1) r j n)) (λr j n L=>⟨min xs.length zs.length-(i+1),by lia,rfl,S,L⟩) (I xs s) (O zs t) pv M
 .have e:i=min xs.length zs.length:=by lia
  subst e;exact .inl ⟨⟨xs,zs,s,t,by lia⟩,D f h H pv⟩
def om(h:d c=some (.lst a))(g:0<=b)(i:b<a.length)(q:e (upd d c (.lst (a.set b.toNat f)))):Wf (.ref c) (.int b) f d e:=⟨c,a,b,b.toNat,rfl,rfl,h,by unfold Vx;rw[aj g,aj (by lia)],q⟩
def Ϲ{xs:fc}{i:Int}(a:0<=i)(b:i<xs.length):ϳ (xs.map V.int) i=some (.int (xs.getD i.toNat 0)):=fR a (by
 have h:i.toNat<xs.length:=by lia
 rw[aN,az h];simp[List.getD,h])
def F2(n:Nat)(v:V):(List.replicate n [v]).flatten=List.replicate n v:=by
 induction n with
 | zero=>rfl
 | succ n ih=>rw[dF,gF,ih,dF];rfl
def Ry{a:fc}{n:Nat}{v:Int}(h:∀x∈a,0<=x)(b:0<=v):∀x∈a.set n v,0<=x:=λx c=>by
 rcases fE c with h1|h1
 .exact h x h1
 .rw[h1];exact b
def Kc{a:fc}(h:∀x∈a,0<=x)(n:Nat):0<=a.getD n 0:=by
 by_cases z:n<a.length
 .rw[List.getD,az z];exact h _ (dh z)
 .rw[List.getD,bW (by lia)];exact bO _
def qb :RH a (DI a.K):=by
 intro b s m H x y v u Q I n C h;obtain⟨p,J,i,z,rfl,rfl,o,l,q⟩:=h;cases n;obtain⟨t,rfl⟩:=C;obtain⟨e,r,f,G⟩:=I.list o;obtain⟨j,d,A,L,D,F⟩:=zB l;obtain⟨w,k,E⟩:=r.get A;have B:=r.length;have M:=qN;have c:EP a b m Q w s:=⟨z,H,I,E,q⟩;by_cases g:0<=i
 .have hj:i.toNat=j:=by
   rw[seqIndex_of g F]at d;exact bF d
  exact wpAny_getItem_list f.isList g (by lia) (by rw[hj];simpa using k) c
 .have hj:(i+(e.toArray.size:Int)).toNat=j:=by
   rw[seqIndex_neg (by lia) D]at d;rw[aR,<-B];exact bF d
  exact wpAny_getItem_list_neg f.isList (by lia) (by rw[aR]<;>lia) (by lia) (by rw[hj];simpa using k) c
def OY{K:hB}{a p:Addr}{xs:List V}{Q:VK}{g:TG}{u:TT}{v:TE}{l:St}{r:Hp}(j:Nat->List V->St->Hp->Prop)(F:j 0 [] l r)(A:∀i c d H,i<=xs.length->j i c d H->ι K H a xs)(C:∀(i:Nat) (x:V) (c:List V) (d:St) (H:Hp) (N:List V->St->Hp->Prop),(∀n f k,j (i+1) n f k->N n f k)->xs.reverse[i]?=some x->j i c d H->g x d H λh B=>u h B λb s=>
 if b=true then v h s λy w=>w p=some (.lst c)/\c.length<sizeLine/\N (c++[y]) h (upd w p (.lst (c++[y])))else N c h s)(z:∀c d H,j xs.length c d H->Q (.ref p) H):tW (Itv K a xs.length) p Q g u v l r:=by
 refine⟨λi m c d H=>m=xs.length-i/\i<=xs.length/\j i c d H,⟨xs.length,by simp,cf _,F⟩,?_⟩;rintro i m c d H ⟨rfl,D,pv⟩;have q:=A i c d H D pv;by_cases o:i<xs.length
 .have hx:xs[xs.length-1-i]?=some xs[xs.length-1-i]:=az (by lia);refine .inr ⟨⟨o,xs,_,q,hx⟩,λx k y=>?_⟩;obtain⟨e,y⟩:=y;subst e;exact C i x c d _ (λn f k=>∃t,t<xs.length-i/\(t=xs.length-(i+1)/\i+1<=xs.length/\j (i+1) n f k)) (λn f k E=>⟨xs.length-(i+1),by lia,rfl,o,E⟩) (by rw[cu o];exact y xs q) pv
 .have e:i=xs.length:=by lia
  subst e;exact .inl ⟨aJ _,z c d H pv⟩
end L2
namespace Pb
open L2
def After(a:fz):List Int->List Int->Prop
 | _,[]=>True
 | S,c::t=>a c∈S/\After a (c::S) t
theorem After.mono:∀{l S d:fc},(∀x∈S,x∈d)->After b S l->After b d l
 | [],_,_,_,_=>trivial
 | c::t,S,d,h,a=>⟨h _ a.1,After.mono (λx f=>by
  rcases aE.mp f with e|e
  .exact aE.mpr (.inl e)
  .exact aI _ (h x e)) a.2⟩
theorem After.append:∀{f e S:fc},After d S f->After d S e->After d S (f++e)
 | [],_,_,_,b=>b
 | c::t,e,S,a,b=>⟨a.1,After.append a.2 (b.mono λx g=>aI _ g)⟩
theorem After.up:∀{A B S:fc},After b S (A++B)->∀k∈A,b k∈S\/b k∈A
 | [],_,_,_,k,hk=>by cases hk
 | c::t,B,S,a,k,hk=>by
   rcases aE.mp hk with e|e
   .rw[e];exact .inl a.1
   .rcases After.up (A:=t) (B:=B) a.2 k e with h|h
    .rcases aE.mp h with h|h
     .exact .inr (by rw[h];exact aL)
     .exact .inl h
    .exact .inr (aI _ h)
section
variable{m:Int}{r:Int}{a:fz}
structure Order(m r:Int)(a:fz)(t:fc):Prop where
 nd:(r::t).Nodup
 ϓ:∀v∈t,0<=v/\v<m
 all:∀v,0<=v->v<m->v=r\/v∈t
 af:After a [r] t
end
def Order.ne(O:Order e a d b)(h:c∈b):c≠a:=λz=>(bD.mp O.nd).1 (z▸h)
theorem Cf(g:Good c b)(R:ζ c b d a e):∀(n:Nat)(v:Int)(S:fc),0<=v->v<c->a v∈S->After a S (sL c b d a n v)
 | 0,v,S,_,_,h=>⟨h,trivial⟩
 | n+1,v,S,h0,h1,h=>by
   refine⟨h,?_⟩;have:∀(f:fc)(S:fc),v∈S->(∀u∈f,u∈cF c b (front d a v) v)->After a S (f.flatMap (sL c b d a n)):=by
    intro f
    induction f with
    | nil=>intro S _ _;exact trivial
    | cons u f ih=>
      intro S j k;rw[dQ];obtain⟨i,p,l⟩:=(dg g R h0 h1).mp (k u aL);exact(Cf g R n u S i.1 i.2 (by rw[l];exact j)).append (ih S j λx m=>k x (aI _ m))
   exact this _ _ aL λu o=>o
def BU(g:Good f c)(R:ζ f c a b d)(m:0<=a)(j:a<f)(n:(eX f c a b d a).Nodup)(i:∀v,v∈eX f c a b d a↔0<=v/\v<f):∃t,eX f c a b d a=a::t/\Order f a b t:=by
 have e:=lY g R m j;refine⟨_,e,?_⟩;rw[e]at n i;refine⟨n,λv p=>(i v).mp (aI _ p),λv r s=>aE.mp ((i v).mpr ⟨r,s⟩),?_⟩;have:∀h:List Int,(∀u∈h,u∈cF f c (front a b a) a)->After b [a] (h.flatMap (eX f c a b d)):=by
  intro h
  induction h with
  | nil=>intro _;exact trivial
  | cons u h ih=>
    intro l;rw[dQ];obtain⟨k,y,q⟩:=(dg g R m j).mp (l u aL);exact(Cf g R _ u [a] k.1 k.2 (by rw[q];exact aL)).append (ih λx o=>l x (aI _ o))
 exact this _ λu w=>w
def Bq(m:Int)(e:ix)(r:Int)(b:fz)(a:fz)(d:hY):Nat->Int->Int
 | 0,v=>a v
 | n+1,v=>a v+((cF m e (front r b v) v).map λc=>d c (Bq m e r b a d n c)).sum
def Ϟ(m:Int)(e:ix)(r:Int)(b:fz)(c:gn)(a:fz)(d:hY)(v:Int):Int:=Bq m e r b a d (m.toNat-1-c v) v
def xc(g:Good d h)(R:ζ d h k a b)(r:0<=f)(t:f<d):Ϟ d h k a b i j f=i f+((cF d h (front k a f) f).map λc=>j c (Ϟ d h k a b i j c)).sum:=by
 have p:∀u,u∈cF d h (front k a f) f->(0<=u/\u<d)/\u≠k/\a u=f:=λu=>(dg g R r t).mp;have o:∀u∈cF d h (front k a f) f,b u=b f+1/\b u+1<=d.toNat:=λu l=>by
  obtain⟨m,s,q⟩:=p u l;have:=R.pos m.1 m.2 s;rw[q]at this;exact⟨this,lV R m.1 m.2⟩
 unfold Ϟ;cases e:d.toNat-1-b f with
 | zero=>
   have:cF d h (front k a f) f=[]:=ik.mpr λu l=>by
    have:=o u l
    lia
   rw[this];simp[Bq]
 | succ n=>
   show i f+_=_;rw[cB λu l=>show j u (Bq d h k a i j n u)=j u (Bq d h k a i j (d.toNat-1-b u) u) by rw[show d.toNat-1-b u=n by have:=o u l;lia]]
def xi{l:fc}(h:l.Perm a):l.sum=a.sum:=by
 induction h with
 | nil=>rfl
 | cons x _ ih=>rw[bf,bf,ih]
 | swap x y l=>simp only[bf];lia
 | trans _ _ h1 h2=>exact h1.trans h2
def rZ(a:fz)(b:hY)(c:fc)(v:Int):List Int:=c.set (a v).toNat (c.getD (a v).toNat 0+b v (c.getD v.toNat 0))
section
variable{m:Int}{f:ix}{r:Int}{b:fz}{e:gn}{a:fz}{d:hY}
structure ϖ(m:Int)(f:ix)(r:Int)(b:fz)(e:gn)(a:fz)(d:hY)(t cs:fc):Prop where
 len:(cs.length:Int)=m
 val:∀v,0<=v->v<m->cs.getD v.toNat 0=a v+((t.filter λc=>decide (b c=v)).map λc=>d c (Ϟ m f r b e a d c)).sum
end
def ϖ.nil(h:(a.length:Int)=d):ϖ d f g c b (λv=>a.getD v.toNat 0) e [] a:=⟨h,λv _ _=>by simp⟩
def Ap(g:Good b d)(R:ζ b d e a f){t:fc}(n:t.Nodup)(i:∀x∈t,(0<=x/\x<b)/\x≠e){v:Int}(l:0<=v)(m:v<b)(j:∀k,0<=k->k<b->k≠e->a k=v->k∈t):(t.filter λc=>decide (a c=v)).Perm (cF b d (front e a v) v):=by
 refine jZ (n.filter _) tj λx=>?_;rw[b9,dg g R l m,b4];exact⟨λh=>⟨(i x h.1).1,(i x h.1).2,h.2⟩,λh=>⟨j x h.1.1 h.1.2 h.2.1 h.2.2,h.2.2⟩⟩
def ϖ.full(g:Good b d)(R:ζ b d e a c)(s:ϖ b d e a c f h i j)(o:i.Nodup)(n:∀x∈i,(0<=x/\x<b)/\x≠e){v:Int}(l:0<=v)(m:v<b)(p:∀k,0<=k->k<b->k≠e->a k=v->k∈i):j.getD v.toNat 0=Ϟ b d e a c f h v:=by
 rw[s.val v l m,xc g R l m,xi ((Ap g R o n l m p).map _)]
def ϖ.step(g:Good k i)(R:ζ k i l a h)(s:ϖ k i l a h f b m j)(o:0<=d)(p:d<k)(hr:d≠l)(e:j.getD d.toNat 0=Ϟ k i l a h f b d):ϖ k i l a h f b (d::m) (rZ a b j d) where
 len:=by unfold rZ;rw[bN];exact s.len
 val:=λu u0 u1=>by
  have r:=(R.up d o p hr).1;have q:=s.len;have n:=s.val u u0 u1;unfold rZ;rw[e];by_cases c:a d=u
  .have hl:u.toNat<j.length:=(by lia);rw[dD (by simpa using c),aF,bf,c];rw[show(j.set u.toNat (j.getD u.toNat 0+b d (Ϟ k i l a h f b d))).getD u.toNat 0=j.getD u.toNat 0+b d (Ϟ k i l a h f b d) by simp[List.getD,hl],n]
   lia
  .rw[dE (by simpa using c),<-n];have:(a d).toNat≠u.toNat:=(by lia);simp[List.getD,cz this]
def Order.places(O:Order c d b a):∀x∈a,(0<=x/\x<c)/\x≠d:=λx e=>⟨O.ϓ x e,O.ne e⟩
def Order.turn(g:Good l h)(R:ζ l h n c d)(O:Order l n c a)(s:ϖ l h n c d i f (a.drop (a.length-m)) o)(q:a.reverse[m]?=some b):((0<=b/\b<l)/\b≠n)/\o.getD b.toNat 0=Ϟ l h n c d i f b/\ϖ l h n c d i f (a.drop (a.length-(m+1))) (rZ c f o b):=by
 have H:m<a.length:=by
  have:=(ax.mp q).1
  rwa [aQ]at this
 rw[cu H]at q;generalize K:a.length-1-m=j at q;have J:a.length-m=j+1:=by lia
 have r:a.length-(m+1)=j:=by lia
 rw[J]at s;rw[r];have E:j<a.length:=by lia
 have G:b∈a:=aP q;have p:=O.places b G;have C:a.drop j=b::a.drop (j+1):=by
  rw[i6 E];rw[az E]at q;cases q
  rfl
 have t:a=a.take j++b::a.drop (j+1):=by rw[<-C,de]
 have D:=(bD.mp O.nd).2;have B:=D;rw[t]at B;have I:b∉a.take j:=λz=>(eK.mp B).2.2 b z b aL rfl;have e:=s.full g R (D.sublist (List.drop_sublist _ _)) (λx F=>O.places x (gA F)) p.1.1 p.1.2 λk v A y u=>by
  rcases O.all k v A with z|z
  .exact absurd z y
  .rw[t]at z;rcases bi.mp z with z|z
   .have af:=O.af;rw[t]at af;rcases af.up k z with w|w
    .rw[u]at w;exact absurd (aG.mp w) p.2
    .rw[u]at w;exact absurd w I
   .rcases aE.mp z with z|z
    .subst z;exact absurd u (R.ne v A y)
    .exact z
 exact⟨p,e,by rw[C];exact s.step g R p.1.1 p.1.2 p.2 e⟩
def oX(m:Int)(e:ix)(r:Int)(b:fz)(c:gn)(a:fz)(d:hY):List Int:=(b7 m.toNat).map (Ϟ m e r b c a d)
def uh(i:0<=d)(j:d<g):(oX g f h c b a e).getD d.toNat 0=Ϟ g f h c b a e d:=by
 unfold oX;rw[List.getD,aN,gY (by lia),cA i]
 rfl
def Order.done(g:Good c d)(R:ζ c d l a b)(O:Order c l a n)(s:ϖ c d l a b f m n j):j=oX c d l a b f m:=by
 have r:=s.len;refine gH λi=>?_;by_cases h:i<c.toNat
 .have hc:i<j.length:=by lia
  have e:=s.full g R (bD.mp O.nd).2 O.places (v:=(i:Int)) (by lia) (by lia) λk o q p t=>(O.all k o q).resolve_left p;unfold oX;rw[aN,gY h];rw[dJ,List.getD,az hc]at e;rw[az hc];exact congrArg some e
 .unfold oX;rw[bW (by lia),bW (by rw[ag,b6];lia)]
def ϯ(b:ix)(a:fz)(v x:Int):Int:=x/(cJ b v (a v)).getD 1
def PM(v:Int):ϯ b a v 0=0:=by unfold ϯ;exact Int.zero_ediv _
def tol(b:ix)(a:fz)(v:Int):Int:=(cJ b v (a v)).getD 1
def VA(m:Int)(d:ix)(r:Int)(a:fz)(c:gn)(b:fz)(v:Int):Int:=ϯ d a v (Ϟ m d r a c b (ϯ d a) v)
section
variable{m:Int}{d:ix}{r:Int}{a:fz}{b:fz}
theorem J8(e:∀v,0<=b v)(f:∀v x,0<=x->0<=ϯ d a v x):∀(n:Nat)(v:Int),0<=Bq m d r a b (ϯ d a) n v
 | 0,v=>e v
 | n+1,v=>by
   show 0<=b v+_;have:∀l:List Int,0<=(l.map λc=>ϯ d a c (Bq m d r a b (ϯ d a) n c)).sum:=by
    intro l
    induction l with
    | nil=>exact bO _
    | cons c l ih=>
      rw[aF,bf];have:=f c _ (J8 e f n c)
      lia
   have h:=this (cF m d (front r a v) v);have g:=e v
   lia
end
def RJ(g:Good f c)(v x:Int)(h:0<=x):0<=ϯ c d v x:=by
 unfold ϯ;refine mK h ?_;cases e:cJ c v (d v)with
 | none=>decide
 | some k=>
   have n:=NH.mp (show(cJ c v (d v)).isSome=true by rw[e];rfl);obtain⟨x,l,j⟩:=n;obtain⟨i,m⟩:=cD l;have ok:=g.ok x l;rw[uW g m (by rcases j with⟨a,b⟩|⟨a,b⟩;exact .inl ⟨a,b⟩;exact .inr ⟨a,b⟩)]at e;unfold ja at e;have t0:=ok.t0;have u0:=ok.u0;show 0<=k;split at e
   .cases e;lia
   .split at e
    .cases e;lia
    .cases e
def Rv(g:Good m b)(c:∀v,0<=a v)(v:Int):0<=Ϟ m b r par dep a (ϯ b par) v:=J8 c (RJ g) _ _
def Bo(l:fc)(i j:Nat)(x:Int)(h:i<l.length):(l.set i x).getD j 0=if i=j then x else l.getD j 0:=by
 by_cases c:i=j
 .subst c;rw[aj rfl];simp[List.getD,h]
 .rw[ah c];simp[List.getD,cz c]
def l9(m:Int)(d:ix)(r:Int)(b:fz)(c:gn)(a:fz)(l:fc):List Int:=l.filter λv=>decide (0<VA m d r b c a v)
def Lh(c:0<VA g e f d b a h):l9 g e f d b a (i++[h])=l9 g e f d b a i++[h]:=by
 unfold l9;rw[cw]
 congr 1
 exact dD (l:=[]) (bo c)
def K0(c:¬0<VA h e g d b a f):l9 h e g d b a (i++[f])=l9 h e g d b a i:=by
 unfold l9;rw[cw];have:[f].filter (λf=>decide (0<VA h e g d b a f))=[]:=dE (l:=[]) (λz=>c (bB z));rw[this,cj]
section
open PySem
def Kx(m:Int)(d:ix)(r:Int)(a:fz)(c:gn)(b:fz)(v:Int):List V:=[.int v,.int (a v),.int (VA m d r a c b v)]
abbrev Ϡ(H:Hp)(m:Int)(d:ix)(r:Int)(b:fz)(c:gn)(a:fz):List Addr->List Int->Prop:=Paired λq v=>H q=some (.tup (Kx m d r b c a v))
theorem Ϡ.snoc(e:g i=some (.tup (Kx h d f c b a j))):∀{k:hH}{l:fc},Ϡ g h d f c b a k l->Ϡ g h d f c b a (k++[i]) (l++[j])
 | _,_,.nil=>.cons e .nil
 | _,_,.cons x xs=>.cons x (Ϡ.snoc e xs)
end
end Pb
namespace L2
open PySem PySem.Spec PyProof.Rows
def xn(a:fc)(lo b:Option Int):List Int:=(a.drop (HT.TN a.length 0 lo)).take (HT.TN a.length a.length b-HT.TN a.length 0 lo)
def Gn(b:fc)(lo a:Option Int):yY (b.map V.int) lo a=(xn b lo a).map V.int:=by
 unfold yY xn;rw[ag,List.map_take,nB]
def PJ(a:fc)(lo b:Option Int):(xn a lo b).length<=a.length:=by
 unfold xn;rw[bq,fP]
 lia
def slI{K:hB}{H:Hp}{a:Addr}{c:fc}{lo b:Option Int}{Q:VK}(h:ι K H a (c.map V.int))(q:∀p,H p=none->Q (.ref p) (upd H p (.lst ((xn c lo b).map V.int)))):RD K (.ref a) lo b H Q:=⟨a,_,rfl,h,λp d=>by rw[Gn];exact q p d⟩
theorem Ii:∀b a:List Int,PyData.eqvAll (b.map PyData.int) (a.map PyData.int)=decide (b=a)
 | [],[]=>by simp[PyData.eqvAll]
 | [],y::a=>by simp[PyData.eqvAll]
 | x::b,[]=>by simp[PyData.eqvAll]
 | x::b,y::a=>by
   rw[aF,aF];simp only[PyData.eqvAll];rw[Ii b a];simp[PyData.eqv];by_cases d:x=y<;>by_cases c:b=a<;>simp[d,c]
def P7(K:hB)(c:Bool):R2:=λx y H Q=>∃p a i v,x=.ref p/\y=.int i/\Ω K c H p a/\ϳ a i=some v/\Q v H
def CF(c:Bool):Xk a (P7 a.K c):=by
 cases c
 .exact eM
 .exact bu
def QB(c:Bool)(K:hB)(h:a.K=K):Xk a (P7 K c):=by subst h;exact CF c
def ixX{K:hB}{c:Bool}{H:Hp}{p:Addr}{a:List V}{i:Int}{v:V}{Q:VK}(h:Ω K c H p a)(e:ϳ a i=some v)(q:Q v H):P7 K c (.ref p) (.int i) H Q:=⟨p,a,i,v,rfl,rfl,h,e,q⟩
def Dx{K:hB}{H:Hp}{p:Addr}{a:List V}{i:Int}{v:V}{Q:VK}(h:Α K H p a)(e:ϳ a i=some v)(q:Q v H):Kh K (.ref p) (.int i) H Q:=⟨p,a,i,v,rfl,rfl,h,e,q⟩
end L2
namespace Pb
open L2 PySem
theorem Mw{e f:Type}{R:e->f->Prop}{a:List e}{c:List f}(h:Paired R a c):∀{d:List e}{b:List f},Paired R d b->Paired R (d++a) (b++c)
 | _,_,.nil=>h
 | _,_,.cons x xs=>.cons x (Mw h xs)
def Tx(b:ix)(a:fz)(v x:Int):Int:=if 0<=x then x/(cJ b v (a v)).getD 1 else x*(cJ b (a v) v).getD 1
def tJ(g:Good h f)(R:ζ h f m e l)(q:0<=d)(r:d<h)(s:d≠m):∃k,cJ f (e d) d=some k/\2<=k/\k<=1000000:=by
 obtain⟨x,o,j⟩:=(R.up d q r s).2.1;obtain⟨i,p⟩:=cD o;have ok:=g.ok x o;have n:wM x (e d) d:=by
  rcases j with⟨a,b⟩|⟨a,b⟩
  .exact .inr ⟨b,a⟩
  .exact .inl ⟨b,a⟩
 rw[uW g p n];unfold ja;by_cases c:x.a=e d/\x.b=d
 .rw[aj c];exact⟨_,rfl,ok.t0,ok.t1⟩
 .rw[ah c];have t:x.a=d/\x.b=e d:=by
   rcases n with w|w
   .exact absurd w c
   .exact⟨w.2,w.1⟩
  rw[aj t];exact⟨_,rfl,ok.u0,ok.u1⟩
def qG(i:Nat):b7 (i+1)=b7 i++[(i:Int)]:=by
 unfold b7;rw[dZ,aq]
 rfl
def lU(m:Int)(b a:fc):List Int:=(List.range m.toNat).map λi=>b.getD i 0-a.getD i 0
def Mz(h:0<=m)(b a:fc):((lU m b a).length:Int)=m:=by unfold lU;rw[ag,cN];lia
end Pb
namespace L2
open PySem PySem.Spec PyProof.Rows
def GG(c:Bool)(n:A.handled=none)(ne:l≠it)(a:Array Value):Draws P w A it [it,l] a.size (λi v=>a[i]?=some v) (λi h=>zAt l c it i h/\KN l c h a) where
 live:=λi h st=>let ⟨o,e,_⟩:=(kq l c P w).obj _ _ _ st.1;⟨o,e⟩
 frame:=λi h b st k=>⟨(kq l c P w).atK _ _ _ _ st.1 λo e=>k it (by simp) o e,(kq l c P w).Ua _ _ _ st.2 λo e=>k l (by simp) o e⟩
 item:=λi s Q E hi st d=>(kq l c P w).item A s it i a a[i] Q E st.1 st.2 (by simp[hi]) λb f g=>d a[i] b s.toks (by simp[hi]) ⟨f,(kq l c P w).Ua _ _ _ st.2 λo e=>g.extBut _ _ ne e⟩ g
 done:=λs Q E st d=>(kq l c P w).fin A s it a.size a Q E n st.1 st.2 (by simp) λb e m j=>d b e m j
abbrev FZ(n:Nat):Obj:={ cls:=.type "enumerate",data:=.fields #[.none,.bool false,.ref n,rawInt 0,.none,.none] }
def DD(S:∀P w,Le P w h e a f)(l:Array Value):Meets (Builtin.«enumerate.__new__» ⟨[.type "enumerate",.ref h],[]⟩) (λ_ R s=>a s.heap l/\R (.ok (.ret (.ref (s.heap.push e).objs.size))) { s with heap:=(s.heap.push e).push (FZ s.heap.objs.size) }):=.of_wp λi w A R s k=>by
 obtain⟨q,g,d,m,os⟩:=s;obtain⟨p,r⟩:=k;have o:=sub_enumerate;have j:a (Shared.heap ⟨q,g,d,m,os⟩) l:=p
 wp_walk using ((S i w).start _ _ _ _ _ j)
 refine wpAny_stack_any λst=>?_;dsimp only;refine bh ?_;have n:∀b:Bool,b=true\/b=false:=λb=>by cases b<;>simp
 split
 .rename_i c _ _ _ _ _
  rcases n (c==Value.type "enumerate")with z|z
  .rw[z]
   wp_walk using ((S i w).start _ _ _ _ _ j)
   exact⟨_,rfl,r⟩
  .rw[z]
   wp_walk using ((S i w).start _ _ _ _ _ j)
   exact⟨_,rfl,r⟩
 .wp_walk using ((S i w).start _ _ _ _ _ j)
  exact⟨_,rfl,r⟩
def LM{s:Shared}(S:∀P w,Le P w g a b d){Q:gy}(p:b s.heap f)(q:a.isFreed=false)(h:∀k,IsEnum k (s.heap.objs.size+1) s.heap.objs.size 0 .none->d s.heap.objs.size 0 k->(∀c o,s.heap.get? c=some o->k.get? c=some o)->Q (.ref (s.heap.objs.size+1)) { s with heap:=k }):wpAny (model P w) j (call (.type "enumerate") [.ref g]) Q i s:=by
 refine callType_new F.called_enumerate (by decide) (F.typeCall_enumerate_1 _) (F.newCall_enumerate_1 _) (λl=>F.args_object_init_2 l _) F.entry_enumerate_new (DD S f) ⟨p,?_⟩;have n:(s.heap.push a).objs.size=s.heap.objs.size+1:=d5 ..;have m:((s.heap.push a).push (FZ s.heap.objs.size)).get? (s.heap.push a).objs.size=some (FZ s.heap.objs.size):=bc _ rfl;have r:((s.heap.push a).push (FZ s.heap.objs.size)).get? s.heap.objs.size=some a:=aB _ (bc _ q);show _/\_;rw[n]at m;rw[n];exact⟨⟨_,m,rfl⟩,h _ m ((S P w).first _ _ r) λc o e=>aB _ (aB _ e)⟩
def Ite(K:hB)(c:Bool)(a:Addr):It:=⟨λi H=>∃b x,Ω K c H a b/\b[i]?=some x,λi H v d=>∃p x,H p=none/\v=.ref p/\d=upd H p (.tup [.int i,x])/\∀b,Ω K c H a b->b[i]?=some x,λi H=>∃b,Ω K c H a b/\b.length=i⟩
def L6{P:Program}{w:World}{K:hB}{G:List Expr}{x1}{UG:Pos}(c:Bool)(a e it:Addr)(ne:e≠it)(ae:a≠e)(ai:a≠it):Turn P w K (.Tuple G x1 UG) (Ite K c a) [e,it] e (λi h=>(∃y,IsEnum h e it (i:Nat) y)/\zAt a c it i h) where
 mem:=by simp
 obj:=λi h t b hb=>by
  obtain⟨⟨y,t1⟩,F⟩:=t;simp only[aE,dL,or_false]at hb;rcases hb with rfl|rfl
  .exact⟨_,t1,λv z=>by cases z⟩
  .exact(kq a c P w).obj _ _ _ F
 keep:=λi h S t k=>by
  obtain⟨⟨y,t1⟩,F⟩:=t;exact⟨⟨y,k e (by simp) _ t1⟩,(kq a c P w).atK _ _ _ _ F λo e=>k it (by simp) o e⟩
 item:=λX e1 e2 e3 hc i B s σ H E I f t g=>by
  subst e1 e2 e3;obtain⟨⟨y,t1⟩,F⟩:=t;obtain⟨Y,x,s1,U⟩:=g;obtain⟨J,r1,q1⟩:=I.ϫ s1;obtain⟨xu,R,rx⟩:=r1.get U;have hh:X.A.in1.handled=none:=I.ok.hd hc;have D:∀q∈[e,it],p8 X B H q:=f;have W:=WalksT.enumerateD (A:=X.A) (GG (P:=X.prog) (w:=X.w) (A:=X.A.in1) (l:=a) c (it:=it) hh ai J.toArray) e ne (by simp;exact⟨ne,ae.symm⟩) (by simp);have Tt:i<J.toArray.size:=by
   have:=(ax.mp R).1
   simpa using this
  refine W.item i s _ _ Tt ⟨⟨y,t1⟩,F,q1⟩ λT ba S tk pt le tup O keep=>?_;refine⟨_,rfl,W.go G x1 UG i T { s with heap:=S,toks:=tk } _ _ O λZ UP X7=>?_⟩;obtain⟨tt,xv,px,ev⟩:=pt;have am:xv=xu:=by
   have h1:J[i]?=some xv:=(by simpa using px);rw[R]at h1;cases h1
   rfl
  subst am;have Tw:T∉[e,it]:=W.apart i T S O;have kp:∀q o,q∉[e,it]->s.heap.get? q=some o->Z.get? q=some o:=λq o d eo=>X7 q o d (keep q o d eo);obtain⟨ot,ht,a1,nt,al⟩:=tup;have new:Z.get? T=some ot:=X7 T ot Tw ht;have M:∀q u,H q=some u->q∉[e,it]:=λq u e d=>by rw[(D q d).1]at e;cases e
  have L:H T=none:=I.Β.fresh le;have V:∀q o,s.heap.get? q=some o->q≠T:=λq o eo=>aV (aU (aK eo) le);have C:Inv X B σ H { s with heap:=Z,toks:=tk }:=by
   refine I.step (g':=s.gens) (d':=s.drawn) (t':=tk) (ch:=[e,it]) (λq d=>⟨(D q d).2.2.2.1,(D q d).2.1,(D q d).2.2.2.2.1,(D q d).2.2.2.2.2⟩) (λq o _ _ d e _=>kp q o d e) (λq o _ _ d e _=>⟨o.slots,kp q o d e⟩) (λ_ _ _ _ n=>n)
    (λq o d e=>⟨o,kp q o d e⟩) (λ_ _ e=>e) (λ_ _ _ e=>e) (λq ps e=>⟨#[],by rw[e];simp⟩) (λm hm=>?_) (λq u e=>?_) I.bare
   .obtain⟨o,es,ep,ho,r⟩:=hm;exact⟨o,es,ep,kp _ o (λd=>(D _ d).2.1 rfl) ho,r⟩
   .refine(I.Β q u e).lE (λN v Ti j=>kp N v ?_ j) (λ_ j=>j) λ_ _ j=>j;rcases Ti with rfl|Ti
    .exact M _ u e
    .exact M _ _ Ti
  have I3:Inv X B σ (upd H T (.tup [.int i,x])) { s with heap:=Z,toks:=tk }:=by
   refine⟨C.ok,C.os,C.bare,?_,C.loc,C.cell,?_,λn c e=>?_,λp hp=>?_,λq u e=>?_,C.len⟩
   .refine⟨C.base.keep,C.base.slot,λq o e n U=>?_,C.base.there,λq Y e=>?_,λq o u e=>?_,λq ps e=>?_⟩
    .have lt:q<X.s₀.heap.objs.size:=aK e;rw[aM (aV (aU lt (aW I.sz le)))];exact C.base.free q o e n U
    .have j:=C.base.lT q Y e;rw[aM (λz=>by rw[z,L]at j;cases j)];exact j
    .have j:=C.base.gE q o u e;rw[aM (λz=>by rw[z,L]at j;cases j)];exact j
    .obtain⟨more,j⟩:=C.base.nE q ps e;exact⟨more,by rw[aM (λz=>by rw[z,L]at j;cases j)];exact j⟩
   .rw[aM (aV (aU I.lt le))];exact C.free
   .obtain⟨vv,o,ho,_⟩:=I.cell n c e;rw[aM (V _ _ ho)];exact C.ϔ n c e
   .obtain⟨k1,k2,k3⟩:=I.pin p hp;rw[aM (V _ _ k1)];exact C.pin p hp
   .by_cases d:q=T
    .subst d;rw[au]at e;cases e;refine⟨by show 2<=sizeLine;decide,[.int (i:Nat) tt,xv],.cons ⟨tt,rfl⟩ (.cons rx .nil),ot,new,a1,nt,?_⟩;rw[al,ev]
    .rw[aM d]at e;refine(C.Β q u e).lE (λ_ _ _ j=>j) (λN j=>?_) λN Y j=>?_
     .rw[aM (λz=>by rw[z,L]at j;cases j)];exact j
     .rw[aM (λz=>by rw[z,L]at j;cases j)];exact j
  refine⟨.ref T,_,I3,rfl,⟨T,x,L,rfl,rfl,λbv q=>?_⟩,⟨UP.1,UP.2.1⟩,λq d=>?_⟩
  .rw[<-I.Ub s1 q];exact U
  .have ϐ:q≠T:=by
    simp only[aE,dL,or_false]at d;rcases d with rfl|rfl
    .exact V _ _ t1
    .exact let ⟨o,e,_⟩:=(kq a c X.prog X.w).obj _ _ _ F;V _ _ e
   rw[aM ϐ];exact(D q d).1
 done:=λX e1 e2 e3 hc i B s σ H E I f t g=>by
  subst e1 e2 e3;obtain⟨⟨y,t1⟩,F⟩:=t;obtain⟨Y,s1,Xu⟩:=g;obtain⟨J,r1,q1⟩:=I.ϫ s1;have hh:X.A.in1.handled=none:=I.ok.hd hc;have D:∀q∈[e,it],p8 X B H q:=f;have W:=WalksT.enumerateD (A:=X.A) (GG (P:=X.prog) (w:=X.w) (A:=X.A.in1) (l:=a) c (it:=it) hh ai J.toArray) e ne (by simp;exact⟨ne,ae.symm⟩) (by simp);have ei:i=J.toArray.size:=by
   have:=r1.length;simp
   lia
  subst ei;refine W.done s _ _ ⟨⟨y,t1⟩,F,q1⟩ λS tk keep=>⟨rfl,?_⟩;have kp:∀q o,q∉[e,it]->s.heap.get? q=some o->S.get? q=some o:=λq o d e=>keep q o d e;have M:∀q u,H q=some u->q∉[e,it]:=λq u e d=>by rw[(D q d).1]at e;cases e
  refine I.step (g':=s.gens) (d':=s.drawn) (t':=tk) (ch:=[e,it]) (λq d=>⟨(D q d).2.2.2.1,(D q d).2.1,(D q d).2.2.2.2.1,(D q d).2.2.2.2.2⟩) (λq o _ _ d e _=>kp q o d e) (λq o _ _ d e _=>⟨o.slots,kp q o d e⟩) (λ_ _ _ _ n=>n)
   (λq o d e=>⟨o,kp q o d e⟩) (λ_ _ e=>e) (λ_ _ _ e=>e) (λq ps e=>⟨#[],by rw[e];simp⟩) (λm hm=>?_) (λq u e=>?_) I.bare
  .obtain⟨o,es,ep,ho,r⟩:=hm;exact⟨o,es,ep,kp _ o (λd=>(D _ d).2.1 rfl) ho,r⟩
  .refine(I.Β q u e).lE (λN v Ti j=>kp N v ?_ j) (λ_ j=>j) λ_ _ j=>j;rcases Ti with rfl|Ti
   .exact M _ u e
   .exact M _ _ Ti
 self:=λA i s Q E t q=>by
  obtain⟨⟨y,t1⟩,F⟩:=t;exact wpAny_pyIter_enum t1 q
def Kp(K:hB)(c:Bool)(f:TE):TI:=λd H R=>f d H λx b=>∃a,x=.ref a/\(∃e,Ω K c b a e)/\R (Ite K c a) b
def zA{X:Cx}{e:Expr}{r:TE}{z:Pos}{i:Pos}{g:List Expr}{x1}{UG:Pos}(c:Bool)(hg:Gl X "enumerate")(hm:X.mg "enumerate"=none)(he:PE X e r)(h2:starEach [e] X.env=[(false,eval e X.env)]:=by rfl):PI X (.Tuple g x1 UG) (.Call (.Name "enumerate" z) [e] [] i) (Kp X.K c r):=by
 intro d s v H R I h;refine Call_ (pW I hg hm boot_enumerate (cR ?_ h2 rfl));rw[h2];show wpAny _ _ (spliced ((false,eval e X.env)::backTo i [])) _ _ s;refine ii (eF (he d s v H _ I h) λu l x w j n k=>iH ?_);obtain⟨a,C,⟨F,y⟩,q⟩:=k;subst C;cases n;obtain⟨E,n,k⟩:=j.ϫ y;obtain⟨D,m⟩:=sR a c _ _ k;have t:=aK m;refine LM (kq a c) k (xW a c) λG o A B=>?_;refine wpAny_pyIter_enum o ?_;refine⟨_,[l.heap.objs.size+1,l.heap.objs.size],_,_,w,rfl,j.kept (t':=l.toks) B,L6 c a _ _ (Nat.succ_ne_self _) (aV (gm t)) (aV t),⟨⟨_,o⟩,A⟩,λb p=>?_,q⟩;have f:l.heap.objs.size<=b:=by
  simp only[aE,dL,or_false]at p;rcases p with rfl|rfl
  .exact gB _
  .exact aJ _
 exact j.U1 f (j.Β.fresh f)
def HL{K:hB}{c:Bool}{a:Addr}{xs:List V}{g:TG}{o:TS}{D:Ends}{b:St}{H:Hp}(h:Nat->St->Hp->Prop)(A:h 0 b H)(s:∀i b H,h i b H->Ω K c H a xs)(v:∀(i:Nat) (x:V) (b:St) (H:Hp) (p:Addr) (N:St->Hp->Prop),(∀d f,h (i+1) d f->N d f)->xs[i]?=some x->h i b H->H p=none->g (.ref p) b (upd H p (.tup [.int i,x])) λl t=>o { D with nx:=N,ct:=N,bk:=D.nx } l t)(r:∀b H,h xs.length b H->D.nx b H):sU (Ite K c a) D g o b H:=by
 refine⟨λi m b H=>m=xs.length-i/\i<=xs.length/\h i b H,⟨_,rfl,cf _,A⟩,?_⟩;rintro i m b H ⟨rfl,C,p⟩;have k:=s i b H p;by_cases q:i<xs.length
 .refine .inr ⟨⟨xs,xs[i],k,az q⟩,λd f=>∃n,n<xs.length-i/\(n=xs.length-(i+1)/\i+1<=xs.length/\h (i+1) d f),λd f z=>z,λx f y=>?_⟩;obtain⟨j,B,w,rfl,rfl,u⟩:=y;exact v i B b H j _ (λd f j=>⟨xs.length-(i+1),by lia,rfl,q,j⟩) (u xs k) p w
 .have e:i=xs.length:=by lia
  subst e;exact .inl ⟨⟨xs,k,rfl⟩,r b H p⟩
end L2
namespace Pb
open L2 PySem
abbrev ϻ:=Int×Int×Int
def Xx(s:ϻ):List V:=[.int s.1,.int s.2.1,.int s.2.2]
abbrev Δ(H:Hp):List Addr->List ϻ->Prop:=Paired λq s=>H q=some (.tup (Xx s))
def Δ.same(e:δ H c)(h:Δ H a b):Δ c a b:=Paired.imp' (λq v x=>e q _ x) h
theorem Δ.get :∀{d:hH}{f:List ϻ}{i:Nat}{x:V},Δ c d f->(d.map V.ref)[i]?=some x->∃p v,x=.ref p/\d[i]?=some p/\f[i]?=some v/\c p=some (.tup (Xx v))
 | _,_,i,x,.nil,e=>by simp at e
 | _,_,0,x,.cons (a:=p) (b:=r) h hs,e=>⟨p,r,by simpa using e.symm,by simp,by simp,h⟩
 | a::l1,_,i+1,x,.cons h hs,e=>by
   have l:(List.map V.ref l1)[i]?=some x:=by simpa using e
   obtain⟨p,r,k,g,j,m⟩:=Δ.get hs l;exact⟨p,r,k,by simpa using g,by simpa using j,m⟩
theorem zK{R:b->a->Prop}(h:R d c):∀{f:List b}{e:List a},Paired R f e->Paired R (f++[d]) (e++[c])
 | _,_,.nil=>.cons h .nil
 | _,_,.cons x xs=>.cons x (zK h xs)
theorem G1 :∀{g:List c}{j:List f}{i:Nat}{x:c},Paired d g j->g[i]?=some x->∃v,j[i]?=some v/\d x v
 | _,_,i,x,.nil,e=>by simp at e
 | _,_,0,x,.cons (a:=p) (b:=r) h hs,e=>by
   have:p=x:=by simpa using e
   subst this;exact⟨r,by simp,h⟩
 | a::l1,_,i+1,x,.cons h hs,e=>by
   have l:l1[i]?=some x:=by simpa using e
   obtain⟨v,m,k⟩:=G1 hs l;exact⟨v,by simpa using m,k⟩
abbrev MH(H:Hp):List Addr->List (List Int)->Prop:=Paired λq a=>H q=some (.tup (a.map V.int))
def jI(c:ix)(a b:Int):Int:=(cJ c a b).getD 1
def pp(b:ix)(a:fc)(s:ϻ):List Int:=(a.set s.1.toNat (a.getD s.1.toNat 0-s.2.2*jI b s.1 s.2.1)).set s.2.1.toNat ((a.set s.1.toNat (a.getD s.1.toNat 0-s.2.2*jI b s.1 s.2.1)).getD s.2.1.toNat 0+s.2.2)
def EO(b:ix)(a:fc)(s:ϻ):(pp b a s).length=a.length:=by unfold pp;rw[bN,bN]
def qJ(m:Int)(a:ix)(s:ϻ):Bool:=decide (0<=s.1)&&decide (s.1<m)&&decide (s.2.1∈jM m a s.1)&&decide (1<=s.2.2)
def tp(m:Int)(a:ix)(b:fc)(s:ϻ):Bool:=qJ m a s&&decide (s.2.2*jI a s.1 s.2.1<=b.getD s.1.toNat 0)
def qI(b:ix)(c:fc)(a:List ϻ)(i:Nat):List Int:=(a.take i).foldl (pp b) c
def uK(b:ix)(c:fc)(a:List ϻ):List (List Int):=(List.range (a.length+1)).map (qI b c a)
def Gs(m:Int)(a:ix)(c:fc)(b:List ϻ):Prop:=∀i s,b[i]?=some s->tp m a (qI a c b i) s=true
def O7(b:ix)(c:fc)(d:List ϻ)(i:Nat):(qI b c d i).length=c.length:=by
 unfold qI;have:∀(l:List ϻ)(a:fc),(l.foldl (pp b) a).length=a.length:=by
  intro l
  induction l with
  | nil=>intro a;rfl
  | cons s l ih=>intro a;rw[iX,ih,EO]
 exact this _ _
def LL(h:b[d]?=some e):qI a c b (d+1)=pp a (qI a c b d) e:=by
 unfold qI;rw[bg,h,lD]
 rfl
def yt(b:ix)(c:fc)(a:List ϻ):(uK b c a).length=a.length+1:=by unfold uK;rw[ag,cN]
def uV(h:i<=ss.length):(uK rs xs ss)[i]?=some (qI rs xs ss i):=by
 unfold uK;rw[aN,gO (by lia)]
 rfl
def Mc(c:ix)(a:fc)(b:List ϻ):qI c a b 0=a:=by unfold qI;rw[dU];rfl
def wF(h:qJ b c a=true):(0<=a.1/\a.1<b)/\a.2.1∈jM b c a.1/\1<=a.2.2:=by
 unfold qJ at h;rw[bG,bG,bG]at h;exact⟨⟨bB h.1.1.1,bB h.1.1.2⟩,bB h.1.2,bB h.2⟩
def Bb(g:Good l f)(h:U8 f e d):∃k,cJ f e d=some k/\2<=k/\k<=1000000:=by
 obtain⟨x,n,j⟩:=h;obtain⟨i,o⟩:=cD n;have ok:=g.ok x n;have m:wM x e d:=j;rw[uW g o m];unfold ja;by_cases c:x.a=e/\x.b=d
 .rw[aj c];exact⟨_,rfl,ok.t0,ok.t1⟩
 .rw[ah c];have p:x.a=d/\x.b=e:=by
   rcases m with w|w
   .exact absurd w c
   .exact⟨w.2,w.1⟩
  rw[aj p];exact⟨_,rfl,ok.u0,ok.u1⟩
def EZ(g:Good c b)(h:qJ c b a=true):∃k,cJ b a.1 a.2.1=some k/\jI b a.1 a.2.1=k/\(2<=k/\k<=1000000)/\(0<=a.2.1/\a.2.1<c):=by
 obtain⟨j,f,i⟩:=wF h;have d:=(xa g).mp f;obtain⟨k,e,r⟩:=Bb g d;exact⟨k,e,by unfold jI;rw[e];rfl,r,(g.WW d).2.1⟩
def D0(a:fc):PyData:=.tuple (a.map PyData.int)
def HD(h:c b=some (.tup (a.map V.int))):Io d c (.ref b) (D0 a):=.tup (Α.of h) (yC a)
def MY(a:fc):(D0 a).depth<=2:=by
 unfold D0;have:=xH a;simp only[PyData.depth]
 lia
end Pb
namespace Pb
open L2
def zH{f h:fz}{l:fc}(a:∀c∈l,f c=h c):(l.map f).sum=(l.map h).sum:=by rw[cB a]
theorem JF{f h:fz}{c0:Int}:∀{l:fc},l.Nodup->c0∈l->(∀c∈l,c≠c0->f c=h c)->(l.map f).sum=(l.map h).sum+(f c0-h c0)
 | [],_,hm,_=>by cases hm
 | c::l,nd,hm,hl=>by
   obtain⟨b,d⟩:=bD.mp nd;rw[aF,aF,bf,bf];by_cases z:c=c0
   .subst z;rw[zH (f:=f) (h:=h) (l:=l) λx a=>hl x (aI _ a) λw=>b (w▸a)]
    lia
   .have hm':c0∈l:=by
     rcases aE.mp hm with w|w
     .exact absurd w.symm z
     .exact w
    rw[hl c aL z,JF d hm' λx a=>hl x (aI _ a)]
    lia
end Pb
namespace L2
open PySem PySem.Spec PyProof.Rows
def Nb(b:List V)(f:0<=a):yY b (some a) none=b.drop a.toNat:=by
 unfold yY;have d:HT.TN b.length b.length none=b.length:=rfl;have e:HT.TN b.length 0 (some a)=min a.toNat b.length:=by
  show(if a<0 then(a+(b.length:Int)).toNat else min a.toNat b.length)=_;rw[ah (by lia)]
 rw[d,e,bZ (by rw[fP];lia)];by_cases c:a.toNat<=b.length
 .rw[Nat.min_eq_left c]
 .rw[Nat.min_eq_right (by lia),mM (aJ _),mM (by lia)]
end L2
namespace Pb
open L2 PySem
def VY(c:Bool)(H:Hp)(a:Addr)(b:List V):Prop:=H a=some (if c then .lst b else .tup b)
def VY.sq(h:VY b d c a):Ω K b d c a:=by
 cases b
 .exact Α.of h
 .exact ι.of h
def D5(a:fz)(b:Int):Nat->Int->Bool
 | 0,v=>decide (v=b)
 | n+1,v=>decide (v=b)||D5 a b n (a v)
def ZJ(a:fz)(c:gn)(b v:Int):Bool:=D5 a b (c v) v
def OP(R:ζ f g e a b)(h:0<=c)(i:c<f)(j:c≠e):ZJ a b d c=(decide (c=d)||ZJ a b d (a c)):=by
 unfold ZJ;rw[R.pos h i j]
 rfl
end Pb
namespace L2
def db(h:∀N:St->Hp->Prop,(∀f g,b a f g->N f g)->d { a with nx:=N } c e):Lr d b a c e:=h (b a) λ_ _ z=>z
def lN(h:∀j k:St->Hp->Prop,(∀g i,b a g i->j g i)->(∀g i,c a g i->k g i)->GO f (λ_=>j) (λ_=>k) a d e):GO f b c a d e:=h (b a) (c a) (λ_ _ z=>z) λ_ _ z=>z
end L2
namespace L2
open PySem
def jL(h:Nat->St->Hp->Prop)(s:h 0 a b)(o:∀i a b,i<=xs.length->h i a b->ι K b f xs)(r:∀(i:Nat) (x:V) (a:St) (b:Hp) (N B:St->Hp->Prop),(∀a b,(e x a b λg k=>d { c with nx:=N,ct:=N,bk:=c.nx } g k)->B a b)->(∀j l,h (i+1) j l->N j l)->xs[i]?=some x->h i a b->B a b)(m:∀(B:St->Hp->Prop) a b,(∀a b,c.nx a b->B a b)->h xs.length a b->B a b):sU (X0 K f) c e d a b:=uM h s o (λi x a b N n q p=>r i x a b N (λa b=>e x a b λg k=>d { c with nx:=N,ct:=N,bk:=c.nx } g k) (λ_ _ z=>z) n q p) λa b p=>m (λa b=>c.nx a b) a b (λ_ _ z=>z) p
def K7(j:Nat->St->Hp->Prop)(s:j 0 a b)(n:∀(i:Nat) (a:St) (b:Hp) (N B:St->Hp->Prop),(∀a b,(g (.int (e+i)) a b λh l=>d { c with nx:=N,ct:=N,bk:=c.nx } h l)->B a b)->(∀k m,j (i+1) k m->N k m)->i<f->j i a b->B a b)(q:∀(B:St->Hp->Prop) a b,(∀a b,c.nx a b->B a b)->j f a b->B a b):sU (WO e f) c g d a b:=Dt j s (λi a b N r o p=>n i a b N (λa b=>g (.int (e+i)) a b λh l=>d { c with nx:=N,ct:=N,bk:=c.nx } h l) (λ_ _ z=>z) r o p) λa b p=>q (λa b=>c.nx a b) a b (λ_ _ z=>z) p
def Em(W:Nat->St->Hp->Prop)(k:Nat)(q:W k a c)(p:∀(n:Nat) (a:St) (c:Hp) (N:St->Hp->Prop) (B:Nat->St->Hp->Prop),(∀n a c,(f a c λb j=>if b=true then ∃N:St->Hp->Prop,(∀g h,N g h->∃i,i<n/\W i g h)/\e { d with nx:=N,ct:=N,bk:=d.nx } a j else d.nx a j)->B n a c)->(∀l g h,l<n->W l g h->N g h)->(∀g h,N g h->∃i,i<n/\W i g h)->W n a c->B n a c):Im f e d a c:=DF W k q λn a c N m o w=>p n a c N (λn a c=>f a c λb j=>if b=true then ∃N:St->Hp->Prop,(∀g h,N g h->∃i,i<n/\W i g h)/\e { d with nx:=N,ct:=N,bk:=d.nx } a j else d.nx a j) (λ_ _ _ z=>z) m o w
def Vl(e:a)(h:d)(f:c)(g:b):a/\d/\c/\b:=⟨e,h,f,g⟩
def an5(f:b)(i:e)(g:d)(h:c)(j:a):b/\e/\d/\c/\a:=⟨f,i,g,h,j⟩
def an6(g:b)(j:f)(h:e)(i:c)(l:a)(k:d):b/\f/\e/\c/\a/\d:=⟨g,j,h,i,l,k⟩
def an7(i:b)(l:g)(j:e)(k:c)(n:a)(m:d)(h:f):b/\g/\e/\c/\a/\d/\f:=⟨i,l,j,k,n,m,h⟩
def an9(k:b)(p:h)(m:f)(o:c)(r:a)(q:d)(j:g)(l:e)(n:i):b/\h/\f/\c/\a/\d/\g/\e/\i:=⟨k,p,m,o,r,q,j,l,n⟩
end L2
namespace Pb
open L2 PySem
theorem Jh:∀(n:Nat)(v:Int),D5 a b n v=decide (b∈nQ a n v)
 | 0,v=>by
   show decide (v=b)=decide (b∈[v]);exact decide_eq_decide.mpr ⟨λz=>by rw[z];exact aL,λz=>(aG.mp z).symm⟩
 | n+1,v=>by
   show(decide (v=b)||D5 a b n (a v))=decide (b∈v::nQ a n (a v));rw[Jh n (a v)];by_cases c:v=b
   .rw[bo c,Bool.true_or,bo (by rw[c];exact aL)]
   .rw[bM c,nY];exact decide_eq_decide.mpr ⟨λz=>aI _ z,λz=>by
     rcases aE.mp z with z|z
     .exact absurd z.symm c
     .exact z⟩
theorem Qf:∀(k:Nat)(x:Int),up a (k+1) x=up a k (a x)
 | 0,_=>rfl
 | k+1,x=>by show a (up a (k+1) x)=a (up a k (a x));rw[Qf k x]
theorem AG:∀(n k:Nat)(x:Int),k<=n->up a k x∈nQ a n x
 | 0,0,x,_=>aL
 | n+1,0,x,_=>aL
 | n+1,k+1,x,h=>by
   rw[Qf];exact aI _ (AG n k (a x) (by lia))
theorem JG :∀{l:fc}{k:Nat}{p:Int},(l.flatMap a)[k]?=some p->∃u∈l,∃b rest,(a u)[b]?=some p/\(l.flatMap a).drop k=(a u).drop b++rest
 | [],k,p,h=>by simp at h
 | u::l,k,p,h=>by
   rw[dQ]at h ⊢;by_cases c:k<(a u).length
   .rw[eJ c]at h;exact⟨u,aL,k,l.flatMap a,h,List.drop_append_of_le_length (iP c)⟩
   .rw[dc (by lia)]at h;obtain⟨w,d,b,rest,f,e⟩:=JG h;refine⟨w,aI _ d,b,rest,f,?_⟩;rw[<-e,List.drop_append,List.drop_eq_nil_of_le (by lia),jJ]
def NN(g:Good d c)(R:ζ d c f b a):∀(n:Nat)(v:Int),d.toNat-1-a v=n->0<=v->v<d->∀(k:Nat)(p:Int),(eX d c f b a v)[k]?=some p->∃rest,(eX d c f b a v).drop k=eX d c f b a p++rest:=by
 intro n
 induction n with
 | zero=>
   intro v o l m k p h;have e:eX d c f b a v=[v]:=by unfold eX;rw[o];rfl
   cases k with
   | zero=>
     have:p=v:=(by rw[e]at h;exact(bF h).symm);rw[this];exact⟨[],by rw[cj];rfl⟩
   | succ k=>rw[e]at h;simp at h
 | succ n ih=>
   intro v o l m k p h;have e:=lY g R l m;cases k with
   | zero=>
     have:p=v:=(by rw[e]at h;exact(bF h).symm);rw[this];exact⟨[],by rw[cj];rfl⟩
   | succ k=>
     rw[e,je]at h;obtain⟨u,y,t,rest,x,q⟩:=JG h;obtain⟨i,r,up⟩:=(dg g R l m).mp y;have w:=R.pos i.1 i.2 r;rw[up]at w;have dl:=lV R i.1 i.2;obtain⟨j,s⟩:=ih u (by lia) i.1 i.2 t p x;exact⟨j++rest,by rw[e,oG,q,s,ci]⟩
def Bi(g:Good c a)(R:ζ c a f e b)(h:0<=d)(i:d<c):d∈eX c a f e b d:=by
 rw[lY g R h i];exact aL
def Qm(g:Good d f)(R:ζ d f j b a)(o:0<=c)(m:c<d)(x:Int):x∈eX d f j b a c↔(0<=x/\x<d)/\ZJ b a c x=true:=by
 constructor
 .intro h;obtain⟨l,k,t,q⟩:=(vW g R _ c o m).2 x h;refine⟨l,?_⟩;unfold ZJ;rw[Jh];refine bo ?_;rw[<-q];exact AG _ _ _ (by lia)
 .rintro⟨l,h⟩;generalize s:a x=n
  induction n generalizing x with
  | zero=>
    by_cases z:x=j
    .subst z;have:c=x:=by
      unfold ZJ at h;rw[R.root]at h;exact(bB h).symm
     rw[this];exact Bi g R l.1 l.2
    .have:=R.pos l.1 l.2 z
     lia
  | succ n ih=>
    have z:x≠j:=λz=>by rw[z,R.root]at s;lia
    have u:=R.up x l.1 l.2 z;rw[OP R l.1 l.2 z]at h;by_cases y:x=c
    .rw[y];exact Bi g R o m
    .rw[bM y,nY]at h;have p:=ih (b x) u.1 h (by lia);obtain⟨k,r⟩:=cD p;obtain⟨rest,e⟩:=NN g R _ c rfl o m k _ r;refine gA (i:=k) ?_;rw[e,lY g R u.1.1 u.1.2];refine bJ _ (aI _ (iG.mpr ⟨x,(dg g R u.1.1 u.1.2).mpr ⟨l,z,rfl⟩,Bi g R l.1 l.2⟩))
end Pb
namespace Pb
open PySem L2
def X8(b:ix)(a:fz)(v x:Int):Int:=x*(cJ b (a v) v).getD 1
end Pb
set_option exponentiation.threshold 5000
namespace Pb
open L2 PySem
def Y5(f:hY)(m:Int)(e:ix)(r:Int)(b:fz)(a:fz)(d:hY):Nat->Int->Int
 | 0,v=>a v
 | n+1,v=>((cF m e (front r b v) v).map λc=>d c (Y5 f m e r b a d n c)).foldl f (a v)
def fo(f:hY)(m:Int)(e:ix)(r:Int)(b:fz)(c:gn)(a:fz)(d:hY)(v:Int):Int:=Y5 f m e r b a d (m.toNat-1-c v) v
def wB(g:Good f i)(R:ζ f i l b a)(r:0<=j)(t:j<f):fo k f i l b a d h j=((cF f i (front l b j) j).map λc=>h c (fo k f i l b a d h c)).foldl k (d j):=by
 have p:∀u∈cF f i (front l b j) j,a u=a j+1/\a u+1<=f.toNat:=λu m=>by
  obtain⟨o,s,q⟩:=(dg g R r t).mp m;have:=R.pos o.1 o.2 s;rw[q]at this;exact⟨this,lV R o.1 o.2⟩
 unfold fo;cases e:f.toNat-1-a j with
 | zero=>
   have:cF f i (front l b j) j=[]:=ik.mpr λu m=>by
    have:=p u m
    lia
   rw[this]
   rfl
 | succ n=>
   show List.foldl k (d j) _=_;rw[cB λu m=>show h u (Y5 k f i l b d h n u)=h u (Y5 k f i l b d h (f.toNat-1-a u) u) by rw[show f.toNat-1-a u=n by have:=p u m;lia]]
def Bz(d:hY):Prop:=∀a b c,d (d a b) c=d (d a c) b
def No(TR:Bz b){l:fc}(h:l.Perm c):∀a,l.foldl b a=c.foldl b a:=by
 induction h with
 | nil=>exact λ_=>rfl
 | cons x _ ih=>exact λa=>ih _
 | swap x y l=>intro a;show List.foldl b (b (b a y) x) l=List.foldl b (b (b a x) y) l;rw[TR]
 | trans _ _ h1 h2=>exact λa=>(h1 a).trans (h2 a)
theorem JT(TR:Bz b):∀(l:fc)(a x:Int),l.foldl b (b a x)=b (l.foldl b a) x
 | [],a,x=>rfl
 | y::l,a,x=>by show l.foldl b (b (b a x) y)=b (l.foldl b (b a y)) x;rw[TR,JT TR l]
def zC(d:hY)(a:fz)(c:hY)(b:fc)(v:Int):List Int:=b.set (a v).toNat (d (b.getD (a v).toNat 0) (c v (b.getD v.toNat 0)))
section
variable{m:Int}{g:ix}{r:Int}{b:fz}{e:gn}{f:hY}{a:fz}{d:hY}
structure Rw(f:hY)(m:Int)(g:ix)(r:Int)(b:fz)(e:gn)(a:fz)(d:hY)(t cs:fc):Prop where
 len:(cs.length:Int)=m
 val:∀v,0<=v->v<m->cs.getD v.toNat 0=((t.filter λc=>decide (b c=v)).map λc=>d c (fo f m g r b e a d c)).foldl f (a v)
end
def Rw.nil(h:(b.length:Int)=c)(e:∀v,0<=v->v<c->b.getD v.toNat 0=a v):Rw j c i k f d a g [] b:=⟨h,λv l m=>e v l m⟩
def Rw.full(TR:Bz h)(g:Good b d)(R:ζ b d e a c)(s:Rw h b d e a c f i j l)(p:j.Nodup)(o:∀x∈j,(0<=x/\x<b)/\x≠e){v:Int}(m:0<=v)(n:v<b)(q:∀k,0<=k->k<b->k≠e->a k=v->k∈j):l.getD v.toNat 0=fo h b d e a c f i v:=by
 rw[s.val v m n,wB g R m n,No TR ((Ap g R p o m n q).map _)]
def Rw.step(TR:Bz h)(g:Good k i)(R:ζ k i m a d)(s:Rw h k i m a d j f n l)(p:0<=b)(q:b<k)(hr:b≠m)(e:l.getD b.toNat 0=fo h k i m a d j f b):Rw h k i m a d j f (b::n) (zC h a f l b) where
 len:=by unfold zC;rw[bN];exact s.len
 val:=λu u0 u1=>by
  have t:=(R.up b p q hr).1;have r:=s.len;have o:=s.val u u0 u1;unfold zC;rw[e];by_cases c:a b=u
  .have hl:u.toNat<l.length:=(by lia);rw[dD (by simpa using c),aF,iX,JT TR,<-o,c];simp[List.getD,hl]
  .rw[dE (by simpa using c),<-o];have:(a b).toNat≠u.toNat:=(by lia);simp[List.getD,cz this]
def Order.cut(R:ζ e h f d g)(O:Order e f d a)(i:a.reverse[c]?=some b):((0<=b/\b<e)/\b≠f)/\a.drop (a.length-(c+1))=b::a.drop (a.length-c)/\(a.drop (a.length-c)).Nodup/\(∀x∈a.drop (a.length-c),(0<=x/\x<e)/\x≠f)/\∀k,0<=k->k<e->k≠f->d k=b->k∈a.drop (a.length-c):=by
 have B:c<a.length:=by
  have:=(ax.mp i).1
  rwa [aQ]at this
 rw[cu B]at i;generalize E:a.length-1-c=j at i;have D:a.length-c=j+1:=by lia
 have l:a.length-(c+1)=j:=by lia
 rw[D,l];have v:j<a.length:=by lia
 have A:b∈a:=aP i;have p:=O.places b A;have t:a.drop j=b::a.drop (j+1):=by
  rw[i6 v];rw[az v]at i;cases i
  rfl
 have m:a=a.take j++b::a.drop (j+1):=by rw[<-t,de]
 have u:=(bD.mp O.nd).2;have s:=u;rw[m]at s;have C:b∉a.take j:=λz=>(eK.mp s).2.2 b z b aL rfl;refine⟨p,t,u.sublist (List.drop_sublist _ _),λx y=>O.places x (gA y),λk o r q n=>?_⟩;rcases O.all k o r with z|z
 .exact absurd z q
 .rw[m]at z;rcases bi.mp z with z|z
  .have af:=O.af;rw[m]at af;rcases af.up k z with w|w
   .rw[n]at w;exact absurd (aG.mp w) p.2
   .rw[n]at w;exact absurd w C
  .rcases aE.mp z with z|z
   .subst z;exact absurd n (R.ne o r q)
   .exact z
def Order.aaD(TR:Bz d)(g:Good i f)(R:ζ i f k a b)(O:Order i k a l)(s:Rw d i f k a b h c (l.drop (l.length-n)) m)(q:l.reverse[n]?=some j):((0<=j/\j<i)/\j≠k)/\m.getD j.toNat 0=fo d i f k a b h c j/\Rw d i f k a b h c (l.drop (l.length-(n+1))) (zC d a c m j):=by
 obtain⟨o,p,t,r,u⟩:=O.cut R q;have e:=s.full TR g R t r o.1.1 o.1.2 u;exact⟨o,e,by rw[p];exact s.step TR g R o.1.1 o.1.2 o.2 e⟩
def Y6(f:hY)(m:Int)(e:ix)(r:Int)(b:fz)(c:gn)(a:fz)(d:hY):List Int:=(b7 m.toNat).map (fo f m e r b c a d)
def kK(j:0<=c)(k:c<g):(Y6 h g f i d b a e).getD c.toNat 0=fo h g f i d b a e c:=by
 unfold Y6;rw[List.getD,aN,gY (by lia),cA j]
 rfl
def tF:(Y6 g d f h e b a c).length=d.toNat:=by unfold Y6;rw[ag,b6]
def Order.doneF(TR:Bz j)(g:Good c d)(R:ζ c d m a b)(O:Order c m a o)(s:Rw j c d m a b f n o l):l=Y6 j c d m a b f n:=by
 have t:=s.len;refine gH λi=>?_;by_cases h:i<c.toNat
 .have hc:i<l.length:=by lia
  have e:=s.full TR g R (bD.mp O.nd).2 O.places (v:=(i:Int)) (by lia) (by lia) λk p r q u=>(O.all k p r).resolve_left q;unfold Y6;rw[aN,gY h];rw[dJ,List.getD,az hc]at e;rw[az hc];exact congrArg some e
 .rw[bW (by lia),bW (by rw[tF];lia)]
def mx(i j:Int):Int:=if j>i then j else i
def Ke:Bz mx:=λa b c=>by
 have h:∀x y,mx x y=max x y:=λx y=>by unfold mx;lia
 rw[h,h,h,h]
 lia
def bor(b:ix)(a:fz)(v x:Int):Int:=x*(cJ b v (a v)).getD 1
abbrev ώ(m:Int)(c:ix)(r:Int)(a:fz)(b:gn):Int->Int:=fo mx m c r a b (λ_=>1) (bor c a)
abbrev ic(m:Int)(c:ix)(r:Int)(a:fz)(b:gn):List Int:=Y6 mx m c r a b (λ_=>1) (bor c a)
theorem zD :∀(l:fc)(a:Int),a<=B->(∀x∈l,x<=B)->a<=l.foldl mx a/\l.foldl mx a<=B/\∀x∈l,x<=l.foldl mx a
 | [],a,h,_=>⟨bO _,h,λx b=>by cases b⟩
 | y::l,a,h,hl=>by
   have i:=hl y aL;have c:a<=mx a y/\y<=mx a y/\mx a y<=B:=by unfold mx;split<;>lia
   obtain⟨d,g,f⟩:=zD l (mx a y) c.2.2 λx b=>hl x (aI _ b);refine⟨cg c.1 d,g,λx b=>?_⟩;rcases aE.mp b with e|e
   .rw[e];exact cg c.2.1 d
   .exact f x e
theorem B9(g:Good d b)(R:ζ d b e a f):∀(n:Nat)(v:Int),0<=v->v<d->1<=Y5 mx d b e a (λ_=>1) (bor b a) n v/\Y5 mx d b e a (λ_=>1) (bor b a) n v<=1000000^n
 | 0,v,_,_=>⟨bO _,bO _⟩
 | n+1,v,h0,h1=>by
   have y:(1:Int)<=1000000^n:=dI (by decide);have i:(1000000:Int)^(n+1)=1000000^n*1000000:=Int.pow_succ ..;show 1<=List.foldl mx 1 _/\List.foldl mx 1 _<=_;obtain⟨p,r,_⟩:=zD (B:=1000000^(n+1)) ((cF d b (front e a v) v).map λc=>bor b a c (Y5 mx d b e a (λ_=>1) (bor b a) n c)) 1 (by lia) λx l=>by
    obtain⟨c,s,rfl⟩:=aZ.mp l;obtain⟨h,m,w⟩:=(dg g R h0 h1).mp s;obtain⟨k,j,t,o⟩:=jw g R h.1 h.2 m;obtain⟨u,q⟩:=B9 g R n c h.1 h.2;unfold bor;rw[j,i];show _*k<=_;exact dH q o (by lia) (by lia)
   exact⟨p,r⟩
def kJ(g:Good d f)(R:ζ d f j i c)(l:0<=e)(m:e<d):1<=ώ d f j i c e/\ώ d f j i c e<=2^480:=by
 obtain⟨a,b⟩:=B9 g R (d.toNat-1-c e) e l m;refine⟨a,cg b ?_⟩;have Ζ:=g.Ζ;have:(1000000:Int)^(d.toNat-1-c e)<=1000000^24:=by
  have k:d.toNat-1-c e<=24:=by lia
  have h:=Int.ofNat_le.mpr (dq (show 0<1000000 by decide) k);rw[Int.natCast_pow,Int.natCast_pow]at h;exact h
 exact cg this (by decide +kernel)
def EB(g:Good d b)(R:ζ d b e a c):∀x∈ic d b e a c,x.natAbs<2^4000:=λx i=>by
 obtain⟨v,h,rfl⟩:=aZ.mp i;obtain⟨f,n⟩:=fK.mp h;obtain⟨l,j⟩:=kJ g R f (show v<d by lia);have k:((fo mx d b e a c (λ_=>1) (bor b a) v).natAbs:Int)<=2^480:=by rw[Int.natAbs_of_nonneg (cg (by decide) l)];exact j
 have m:(fo mx d b e a c (λ_=>1) (bor b a) v).natAbs<=2^480:=by exact_mod_cast k
 exact fY m (mZ (by decide) (by decide))
def Ll(c:-(10^60)<=a)(d:a<=10^60):(a-1).natAbs<2^4000:=by
 have b:(a-1).natAbs<=10^60+1:=by lia
 exact fY b (aU (show 10^60+1<2^200 by decide +kernel) (dq (by decide) (by decide)))
def X9(b:ix)(a:fz)(c:fc)(v:Int):Int:=c.getD v.toNat 0*((cJ b v (a v)).getD 1-1)
def UI(m:Int)(c:ix)(r:Int)(a:fz)(b:fc)(w:Int):Int:=b.getD r.toNat 0*(w-1)+(((b7 m.toNat).filter λv=>decide (v≠r)).map (X9 c a b)).sum
def Order.sums(O:Order b c d a)(f:fz):(a.map f).sum=(((b7 b.toNat).filter λv=>decide (v≠c)).map f).sum:=by
 refine xi ((jZ (bD.mp O.nd).2 ((jK _).filter _) λx=>?_).map f);rw[b9,fK,b4];refine⟨λh=>⟨⟨(O.ϓ x h).1,?_⟩,O.ne h⟩,λh=>(O.all x h.1.1 ?_).resolve_left h.2⟩
 .have:=(O.ϓ x h).2
  lia
 .have:=h.1.2
  lia
def Order.Wq(O:Order a b d c)(e:0<=b)(f:b<a):c.length+1=a.toNat:=by
 have h:=(jZ O.nd (jK a.toNat) λx=>by
  rw[aE,fK];refine⟨λh=>?_,λh=>O.all x h.1 (by have:=h.2;lia)⟩;rcases h with h|h
  .rw[h];exact⟨e,by lia⟩
  .have:=O.ϓ x h;exact⟨this.1,by lia⟩).length_eq
 rw[b6,aO]at h;exact h
def Om{f:fz}{l:fc}{i:Nat}{v:Int}(h:l[i]?=some v):((l.take (i+1)).map f).sum=((l.take i).map f).sum+f v:=by
 rw[bg,h,Option.toList_some,aq,iV];simp
section
variable{m:Int}{b:ix}{a:fz}
structure Slk(m:Int)(b:ix)(a:fz)(t cs:fc):Prop where
 len:(cs.length:Int)=m
 pos:∀v,0<=v->v<m->1<=cs.getD v.toNat 0
 std:∀c∈t,cs.getD c.toNat 0*(cJ b c (a c)).getD 1<=cs.getD (a c).toNat 0
end
def QH{cs:fc}{i:Nat}(h:i<cs.length):cs.getD i 0∈cs:=by
 rw[List.getD,az h];exact dh h
end Pb
namespace L2
open PySem PySem.Spec PyProof.Rows
theorem Ai(f:Nat->Int):∀n,argBest (λi j=>decide (f i>f j)) n<=n/\∀i,i<=n->f i<=f (argBest (λi j=>decide (f i>f j)) n)
 | 0=>⟨aJ _,λi h=>by rw[show i=0 by lia];exact bO _⟩
 | n+1=>by
   obtain⟨b,a⟩:=Ai f n;show(if decide (f (n+1)>f (argBest (λi j=>decide (f i>f j)) n))=true then n+1 else argBest (λi j=>decide (f i>f j)) n)<=n+1/\∀i,i<=n+1->f i<=f (if decide (f (n+1)>f (argBest (λi j=>decide (f i>f j)) n))=true then n+1 else argBest (λi j=>decide (f i>f j)) n);by_cases c:f (n+1)>f (argBest (λi j=>decide (f i>f j)) n)
   .rw[aj (bo c)];refine⟨aJ _,λi h=>?_⟩;by_cases z:i=n+1
    .rw[z];exact bO _
    .have:=a i (by lia)
     lia
   .rw[ah (by simpa using c)];refine⟨by lia,λi h=>?_⟩;by_cases z:i=n+1
    .rw[z];lia
    .exact a i (by lia)
def MJ(X:a.calm=true):lh a (.builtin "max") (λF H Q=>∃(p:Addr)(c:fc),F=[.ref p]/\ι a.K H p (c.map V.int)/\c≠[]/\∀y,y∈c->(∀x∈c,x<=y)->Q (.int y) H):=by
 intro B s Z H F us Q I r h;obtain⟨p,c,rfl,T,z,q⟩:=h;obtain⟨u,rfl,n⟩:=oF r;cases n;have W:a.A.in1.handled=none:=I.ok.hd X;obtain⟨d,D,G,hz⟩:=I.list T;have f:d.length=c.length:=by rw[<-D.length,ag]
 have L:∀(i:Nat)(v:Value),d.toArray[i]?=some v->∃t,v=Value.int (c.getD i 0) t:=λi v g=>by
  have l:d[i]?=some v:=by simpa using g
  have J:i<c.length:=by rw[<-f];exact(ax.mp l).1
  obtain⟨u,N,n⟩:=D.get (i:=i) (x:=V.int c[i]) (by rw[aN,az J];rfl);rw[l]at N;cases N;obtain⟨t,e⟩:=(show ∃t,v=Value.int c[i] t from n);exact⟨t,by rw[e];simp[List.getD,J]⟩
 have C:=G.isList;have M:=G.lt;have P:0<c.length:=j6.mpr z;refine call_max_walk (ig C ?_);refine⟨s.heap.objs.size,[s.heap.objs.size,p],[s.heap.objs.size],d.toArray.size,_,_,_,rfl,Walks.list (A:=a.A.in1) W _ p (aV M) d.toArray,⟨⟨_,bc _ rfl,rfl,rfl⟩,C.push _⟩,λb k=>?_,by rw[aR,f];exact P,CmpOf.ints_gt (λi=>c.getD i 0) λi v g=>L i v g,λv U O g R=>?_⟩
 .simp only[Heap.push,nC];rcases aE.mp k with e|e
  .rw[e];exact fQ _
  .rw[aG.mp e];exact gm M
 .have kk:∀b o,s.heap.get? b=some o->U.get? b=some o:=λb o m=>R b o (λY=>by rw[aG.mp Y]at m;exact cU _ (aK m)) (aB _ m);obtain⟨t,rfl⟩:=L _ v g;obtain⟨E,w⟩:=Ai (λi=>c.getD i 0) (d.toArray.size-1);rw[aR,f]at E w ⊢;generalize argBest (λi j=>decide (c.getD i 0>c.getD j 0)) (c.length-1)=b at E w ⊢;have k:b<c.length:=by lia
  refine⟨.int _,H,I.kept (t':=O) kk,⟨t,rfl⟩,q _ ?_ λx S=>?_⟩
  .rw[List.getD,az k];exact dh k
  .obtain⟨i,l,rfl⟩:=jW S;have:=w i (by lia);rw[List.getD,az l]at this;exact this
def Xy:V->List V->Hp->VK->Prop:=λx b H Q=>∃(l:Addr)(a:fc)(y:Int),x=.ref l/\b=[.int y]/\H l=some (.lst (a.map V.int))/\y∈a/\a.length<=1000/\∀j:Nat,a[j]?=some y->(∀i,i<j->a[i]?≠some y)->Q (.int j) H
theorem Hs :∀{d:fc},b∈d->∃j:Nat,d[j]?=some b/\∀i,i<j->d[i]?≠some b
 | a::l,h=>by
   by_cases c:a=b
   .exact⟨0,by rw[c];rfl,λi e=>absurd e (Nat.not_lt_zero _)⟩
   .obtain⟨j,h1,h2⟩:=Hs ((aE.mp h).resolve_left λz=>c z.symm);refine⟨j+1,h1,λi e=>?_⟩;cases i with
    | zero=>exact λz=>c (bF z)
    | succ i=>exact h2 i (by lia)
def eqI(y:Int):Value->Bool
 | .int i _=>i==y
 | _=>false
def Oe:YL a "list.index" Xy:=by
 intro C s S H x X v U Q I M O h;obtain⟨l,g,y,rfl,rfl,R,N,W,q⟩:=h;cases M;obtain⟨u,rfl,w⟩:=O.one;obtain⟨E,rfl⟩:=(show ∃t,u=Value.int y t from w);obtain⟨z,c,n,r,T,e⟩:=I.U4 R;have d:c.length=g.length:=by rw[<-r.length,ag]
 have B:∀(i:Nat)(v:Value),c[i]?=some v->∃x t,g[i]?=some x/\v=Value.int x t:=λi v f=>by
  have D:i<g.length:=by rw[<-d];exact(ax.mp f).1
  obtain⟨u,K,w⟩:=r.get (i:=i) (x:=V.int g[i]) (by rw[aN,az D];rfl);rw[f]at K;cases K;obtain⟨t,e⟩:=(show ∃t,v=Value.int g[i] t from w);exact⟨g[i],t,az D,e⟩
 obtain⟨j,p,J⟩:=Hs N;have G:j<c.length:=by rw[d];exact(ax.mp p).1
 refine call_meets F.slot_list_index ⟨_,e,rfl⟩ F.entry_list_index (F.args_list_index_2 _ _) (PySem.MeetsSeq.list_index l c.toArray n (.int y E) (eqI y) (λv P=>?_) j (by simpa using G) (by lia) ?_ λi f A=>?_) ⟨e,?_⟩
 .obtain⟨i,f,rfl⟩:=jW (by simpa using P);obtain⟨x,t,_,k⟩:=B i c[i] (az f);rw[k];exact PySem.MeetsSeq.EqGives.int x y t E
 .obtain⟨x,t,m,k⟩:=B j c[j] (az G);rw[p]at m;cases m;simp[k,eqI]
 .have Tt:i<c.length:=by simpa using f
  obtain⟨x,t,m,k⟩:=B i c[i] (az Tt);have:x≠y:=λz=>J i A (by rw[m,z]);simp[k,eqI,this]
 .exact⟨.int j,H,I.kept (t':=s.toks+1) λb o L=>L,⟨s.toks,rfl⟩,q j p J⟩
end L2
namespace Pb
structure VB(ns:fc)(y j:Int):Prop where
 mem:y∈ns
 top:∀x∈ns,x<=y
 at_:∃n:Nat,j=n/\ns[n]?=some y/\∀i,i<n->ns[i]?≠some y
def VB.same(a:VB g d h)(b:VB g c f):d=c/\h=f:=by
 have e:d=c:=Int.le_antisymm (b.top d a.mem) (a.top c b.mem);subst e;refine⟨rfl,?_⟩;obtain⟨n,rfl,l,k⟩:=a.at_;obtain⟨j,rfl,m,i⟩:=b.at_;have:n=j:=by
  rcases kQ n j with z|z|z
  .exact absurd l (i n z)
  .exact z
  .exact absurd m (k j z)
 rw[this]
end Pb
namespace L2
open PySem PySem.Spec PyProof.Rows
def R7{l:hH}(h:l.Nodup)(i j:Nat)(k:l[i]?=some b)(m:l[j]?=some a)(g:i≠j):b≠a:=λz=>by
 subst z;obtain⟨d,e⟩:=ax.mp k;obtain⟨c,f⟩:=ax.mp m;rcases Nat.lt_or_gt_of_ne g with q|q
 .exact ft.mp h i j d c q (e.trans f.symm)
 .exact ft.mp h j i c d q (f.trans e.symm)
def LR:bootBuiltins "str"=some (.type "str"):=by decide +kernel
end L2
namespace Pb
open L2 PySem
def tup(b:ix)(a:fz)(v:Int):Int:=(cJ b v (a v)).getD 1
section
variable{m:Int}{d:ix}{r:Int}{a:fz}{c:gn}
structure Bea(m:Int)(d:ix)(r:Int)(a:fz)(c:gn)(ch:Int->Option Int):Prop where
 no:∀v,0<=v->v<m->ch v=none->cF m d (front r a v) v=[]
 hv:∀v b,0<=v->v<m->ch v=some b->b∈cF m d (front r a v) v/\ώ m d r a c b*tup d a b=ώ m d r a c v
end
def nN(g:Good d a)(R:ζ d a f b e)(i:0<=c)(m:c<d)(n:c≠f):2<=tup a b c/\tup a b c<=1000000:=by
 obtain⟨k,h,j,l⟩:=jw g R i m n;unfold tup;rw[h];exact⟨j,l⟩
theorem Ff:∀(l:fc)(a:Int),l.foldl mx a=a\/l.foldl mx a∈l
 | [],a=>.inl rfl
 | y::l,a=>by
   show l.foldl mx (mx a y)=a\/l.foldl mx (mx a y)∈y::l;rcases Ff l (mx a y)with h|h
   .rw[h];unfold mx;by_cases c:y>a
    .rw[aj c];exact .inr aL
    .rw[ah c];exact .inl rfl
   .exact .inr (aI _ h)
def EA(g:Good i b)(R:ζ i b k a f)(r:0<=j)(t:j<i)(v:cF i b (front k a j) j≠[]):∃c∈cF i b (front k a j) j,ώ i b k a f c*tup b a c=ώ i b k a f j:=by
 have e:ώ i b k a f j=((cF i b (front k a j) j).map λc=>bor b a c (ώ i b k a f c)).foldl mx 1:=wB g R r t;have m:=Ff ((cF i b (front k a j) j).map λc=>bor b a c (ώ i b k a f c)) 1;rw[<-e]at m;rcases m with h|h
 .exfalso
  obtain⟨c,l,z⟩:=List.exists_cons_of_ne_nil v;have p:c∈cF i b (front k a j) j:=by rw[z];exact aL
  obtain⟨n,C,G⟩:=(dg g R r t).mp p;have q:=nN g R n.1 n.2 C;have s:=kJ g R n.1 n.2;have A:∀x∈(cF i b (front k a j) j).map λc=>bor b a c (ώ i b k a f c),x<=2^480*1000000:=λx y=>by
   obtain⟨d,u,rfl⟩:=aZ.mp y;obtain⟨o,D,F⟩:=(dg g R r t).mp u;have q:=nN g R o.1 o.2 D;have s:=kJ g R o.1 o.2;show _*tup b a d<=_;exact dH s.2 q.2 (by lia) (by decide +kernel)
  obtain⟨_,_,w⟩:=zD (B:=2^480*1000000) ((cF i b (front k a j) j).map λc=>bor b a c (ώ i b k a f c)) 1 (by decide +kernel) A;have:ώ i b k a f c*tup b a c<=_:=w _ (aZ.mpr ⟨c,p,rfl⟩);rw[<-e,h]at this;have E:(1:Int)*2<=ώ i b k a f c*tup b a c:=dH s.1 q.1 (by decide) (by lia)
  lia
 .obtain⟨c,p,ec⟩:=aZ.mp h;exact⟨c,p,ec⟩
def Va(o:Option Int):V:=match o with|none=>.ο|some b=>.int b
def Vm(m:Int)(ch:Int->Option Int):List V:=(b7 m.toNat).map λv=>Va (ch v)
def D7(d:0<=a)(e:a<c):ϳ (Vm c b) a=some (Va (b a)):=by
 refine fR d ?_;unfold Vm;rw[aN,gY (by lia),cA d]
 rfl
def Rb(f:0<=a)(g:a<e):(Vm e b).set a.toNat (.int d)=Vm e λx=>if x=a then some d else b x:=by
 refine gH λi=>?_;unfold Vm;by_cases c:i<e.toNat
 .rw[aN,gY c];by_cases z:a.toNat=i
  .rw[<-z,cY (by rw[ag,b6];lia)];show _=some (Va (if((a.toNat:Nat):Int)=a then some d else _));rw[aj (by lia)]
   rfl
  .rw[cz z,aN,gY c];show some (Va (b _))=some (Va (if((i:Nat):Int)=a then some d else _));rw[ah (by lia)]
 .rw[bW (by rw[bN,ag,b6];lia),bW (by rw[ag,b6];lia)]
def S7(m:Int)(d:ix)(r:Int)(a:fz)(c:gn)(t:fc)(v:Int):Option Int:=(t.filter λb=>decide (a b=v/\ώ m d r a c b*tup d a b=ώ m d r a c v)).getLast?
def Nq(h:ώ g d f a b e*tup d a e=ώ g d f a b (a e)):S7 g d f a b (i++[e])=λx=>if x=a e then some e else S7 g d f a b i x:=by
 funext x
 unfold S7;rw[cw];by_cases c:x=a e
 .subst c;rw[aj rfl,dD (by simpa using h),fI,List.getLast?_append]
  rfl
 .rw[ah c,dE (by simp;intro z;exact absurd z.symm c),fI,cj]
def Nn(h:¬ώ e c d a b f*tup c a f=ώ e c d a b (a f)):S7 e c d a b (g++[f])=S7 e c d a b g:=by
 funext x
 unfold S7;rw[cw,dE (by simp;intro z;rw[<-z];exact h),fI,cj]
def RG(g:Good h d)(R:ζ h d i a f)(O:Order h i a j):Bea h d i a f (S7 h d i a f j) where
 no:=λv k l e=>by
  apply Classical.byContradiction;intro z;obtain⟨c,t,p⟩:=EA g R k l z;obtain⟨c1,c2,r⟩:=(dg g R k l).mp t;have m:c∈j.filter λb=>decide (a b=v/\ώ h d i a f b*tup d a b=ώ h d i a f v):=b9.mpr ⟨(O.all c c1.1 c1.2).resolve_left c2,bo ⟨r,p⟩⟩;unfold S7 at e;rw[List.getLast?_eq_none_iff]at e;rw[e]at m;cases m
 hv:=λv b k l e=>by
  have m:=List.mem_of_getLast? e;obtain⟨n,o⟩:=b9.mp m;obtain⟨q,s⟩:=bB o;exact⟨(dg g R k l).mpr ⟨O.ϓ b n,O.ne n,q⟩,s⟩
section
variable{m:Int}{b:ix}{r:Int}{a:fz}
structure To(m:Int)(b:ix)(r:Int)(a:fz)(ch:Int->Option Int)(w:Int)(cn:fz):Prop where
 rt:cn r=w-1
 up:∀v,0<=v->v<m->v≠r->cn v=((if ch (a v)=some v then cn (a v)else 0)+1)*tup b a v-1
end
section
variable{m:Int}{b:ix}{r:Int}{a:fz}
structure Y7(m:Int)(b:ix)(r:Int)(a:fz)(ch:Int->Option Int)(w:Int)(t cs:fc):Prop where
 len:(cs.length:Int)=m
 rt:cs.getD r.toNat 0=w-1
 up:∀v∈t,cs.getD v.toNat 0=((if ch (a v)=some v then cs.getD (a v).toNat 0 else 0)+1)*tup b a v-1
end
def Y7.step(R:ζ g f e b j)(O:Order g e b a)(C:0<=e)(S:Y7 g f e b ch wϗ (a.take i) d)(v:a[i]?=some c)(B:h=((if ch (b c)=some c then d.getD (b c).toNat 0 else 0)+1)*tup f b c-1):Y7 g f e b ch wϗ (a.take (i+1)) (d.set c.toNat h):=by
 have D:=S.len;have y:=aP v;have I:=O.ϓ c y;have s:=O.ne y;have F:=(ax.mp v).1;have E:=(bD.mp O.nd).2;have A:a=a.take (i+1)++a.drop (i+1):=(de _ _).symm;have r:a.take (i+1)=a.take i++[c]:=by rw[bg,v];rfl
 have w:c∉a.take i:=λz=>by
  have nd:=E;rw[A,r]at nd;exact(eK.mp (eK.mp nd).1).2.2 c z c (aG.mpr rfl) rfl
 have l:∀u,0<=u->u≠c->(d.set c.toNat h).getD u.toNat 0=d.getD u.toNat 0:=λu H G=>by rw[Bo _ _ _ _ (by lia),ah (by lia)]
 have k:∀u∈a.take (i+1),b u≠c:=λu m z=>by
  have af:=O.af;rw[A]at af;rcases af.up u m with x|x
  .exact s (z▸aG.mp x)
  .rw[z,r]at x;have p:=(kZ (i+1) a).subset m;have n:=O.ϓ u p;have ne:=R.ne n.1 n.2 (O.ne p);rcases bi.mp (r▸m)with q|q
   .-- u stands k of c,so its place k is not c
    have t:a=a.take i++a.drop i:=(de _ _).symm;have o:=O.af;rw[t]at o;rcases o.up u q with wϗ|wϗ
    .exact s (z▸aG.mp wϗ)
    .exact w (z▸wϗ)
   .rw[aG.mp q]at z ne;exact ne z
 refine⟨by rw[bN];exact D,by rw[l e C (Ne.symm s)];exact S.rt,λu m=>?_⟩;have p:=(kZ (i+1) a).subset m;have n:=O.ϓ u p;have up:=R.up u n.1 n.2 (O.ne p);rw[l (b u) up.1.1 (k u m)];rcases bi.mp (r▸m)with q|q
 .rw[l u n.1 (λz=>w (z▸q))];exact S.up u q
 .rw[aG.mp q,Bo _ _ _ _ (by lia),aj rfl];exact B
def Y7.done(O:Order e f a g)(S:Y7 e b f a c h g d):To e b f a c h (λv=>d.getD v.toNat 0):=⟨S.rt,λv i k j=>S.up v ((O.all v i k).resolve_left j)⟩
def lies(ch:Int->Option Int)(a:fz)(v:Int):Int:=if ch v=none then a v else 0
def MK(g:Good m i)(R:ζ m i o k n)(B:Bea m i o k n j)(p:0<=d)(q:d<m)(f:fz)(c:Int):((cF m i (front o k d) d).map λu=>if j d=some u then f u else 0).sum=match j d with|some b=>f b|none=>0:=by
 cases e:j d with
 | none=>
   rw[B.no d p q e]
   rfl
 | some b=>
   obtain⟨r,_⟩:=B.hv d b p q e;rw[JF (h:=λ_=>0) (c0:=b) tj r λu _ s=>ah (by intro z;cases z;exact s rfl)];rw[aj rfl];have:∀l:List Int,(l.map λ_=>(0:Int)).sum=0:=λl=>by
    induction l with
    | nil=>rfl
    | cons a l ih=>rw[aF,bf,ih];rfl
   rw[this];show _=f b
   lia
theorem To.nn(g:Good c f)(R:ζ c f b a h)(N:To c f b a i j d)(m:1<=j)(o:0<=b)(l:b<c):∀(n:Nat)(v:Int),h v=n->0<=v->v<c->0<=d v
 | 0,v,e,h0,h1=>by
   have:v=b:=by
    apply Classical.byContradiction;intro z;have:=R.pos h0 h1 z
    lia
   rw[this,N.rt]
   lia
 | n+1,v,e,h0,h1=>by
   by_cases z:v=b
   .rw[z,N.rt];lia
   .have u:=R.up v h0 h1 z;have p:=R.pos h0 h1 z;have q:=To.nn g R N m o l n (a v) (by lia) u.1.1 u.1.2;have k:=nN g R h0 h1 z;rw[N.up v h0 h1 z];have:1<=(if i (a v)=some v then d (a v)else 0)+1:=(by split<;>lia);have:=dH this k.1 (by decide) (by lia)
    lia
theorem To.same(R:ζ g c b a d)(N:To g c b a h j i)(k:To g c b a h j f):∀(n:Nat)(v:Int),d v=n->0<=v->v<g->i v=f v
 | 0,v,e,h0,h1=>by
   have:v=b:=by
    apply Classical.byContradiction;intro z;have:=R.pos h0 h1 z
    lia
   rw[this,N.rt,k.rt]
 | n+1,v,e,h0,h1=>by
   by_cases z:v=b
   .rw[z,N.rt,k.rt]
   .have u:=R.up v h0 h1 z;have l:=R.pos h0 h1 z;rw[N.up v h0 h1 z,k.up v h0 h1 z,To.same R N k n (a v) (by lia) u.1.1 u.1.2]
def To.Y8(R:ζ c d f b h)(N:To c d f b a i g)(l:To c d f b a i e):(b7 c.toNat).map (Pb.lies a g)=(b7 c.toNat).map (Pb.lies a e):=by
 refine cB λv k=>?_;obtain⟨j,m⟩:=fK.mp k;unfold Pb.lies;rw[To.same R N l _ v rfl j (by lia)]
theorem Bd(f:fz)(h:Int->List Int):∀l:List Int,((l.flatMap h).map f).sum=(l.map λc=>((h c).map f).sum).sum
 | []=>rfl
 | a::l=>by rw[dQ,aq,iV,Bd f h l,aF,bf]
theorem A6(f h:fz):∀l:List Int,(l.map λc=>f c-h c).sum=(l.map f).sum-(l.map h).sum
 | []=>rfl
 | a::l=>by rw[aF,aF,aF,bf,bf,bf,A6 f h l];lia
theorem To.sums(g:Good h d)(R:ζ h d i a f)(B:Bea h d i a f l)(N:To h d i a l m j):∀(n:Nat)(v:Int),h.toNat-f v=n->0<=v->v<h->((eX h d i a f v).map λu=>lies l j u-ώ h d i a f u*(tup d a u-1)).sum=ώ h d i a f v*j v-ώ h d i a f v*(tup d a v-1)
 | 0,v,e,h0,h1=>by
   have:=lV R h0 h1
   lia
 | n+1,v,e,h0,h1=>by
   rw[lY g R h0 h1,aF,bf,Bd];have w:∀u∈cF h d (front i a v) v,((eX h d i a f u).map λu=>lies l j u-ώ h d i a f u*(tup d a u-1)).sum=if l v=some u then ώ h d i a f u*tup d a u*j v else 0:=λu x=>by
    obtain⟨o,q,p⟩:=(dg g R h0 h1).mp x;have t:=R.pos o.1 o.2 q;rw[p]at t;rw[To.sums g R B N n u (by lia) o.1 o.2,N.up u o.1 o.2 q,p];generalize ώ h d i a f u=W;generalize tup d a u=k;by_cases c:l v=some u
    .rw[aj c,aj c,ms,ms,eW,fM,pI,mz,fV (j v) k,<-eU]
     lia
    .rw[ah c,ah c,d9,mz]
     lia
   rw[zH w,MK g R B h0 h1 (λu=>ώ h d i a f u*tup d a u*j v) 0];unfold lies;cases e:l v with
   | none=>
     rw[aj rfl];have r:ώ h d i a f v=1:=by
      show fo mx h d i a f _ _ v=1;rw[wB g R h0 h1,B.no v h0 h1 e]
      rfl
     rw[r];show j v-_+0=_
     lia
   | some b=>
     rw[ah (by nofun)];obtain⟨_,s⟩:=B.hv v b h0 h1 e;show 0-_+ώ h d i a f b*tup d a b*j v=_;rw[s]
     lia
def To.total(g:Good e b)(R:ζ e b d a c)(B:Bea e b d a c i)(N:To e b d a i l k)(m:0<=d)(n:d<e)(q:eX e b d a c d=d::j)(O:Order e d a j):((b7 e.toNat).map (lies i k)).sum=UI e b d a (ic e b d a c) l:=by
 have h:=To.sums g R B N _ d rfl m n;rw[q,A6,N.rt]at h;have p:((d::j).map (lies i k)).sum=((b7 e.toNat).map (lies i k)).sum:=by
  refine xi ((jZ O.nd (jK _) λx=>?_).map _);rw[aE,fK];refine⟨λh=>?_,λh=>O.all x h.1 (by have:=h.2;lia)⟩;rcases h with h|h
  .rw[h];exact⟨m,by lia⟩
  .have:=O.ϓ x h;exact⟨this.1,by lia⟩
 rw[<-p];unfold UI;rw[<-O.sums,show(ic e b d a c).getD d.toNat 0=ώ e b d a c d from kK m n];have r:(j.map (X9 b a (ic e b d a c))).sum=(j.map λu=>ώ e b d a c u*(tup b a u-1)).sum:=by
  refine zH λu o=>?_;unfold X9 tup;rw[show(ic e b d a c).getD u.toNat 0=ώ e b d a c u from kK (O.ϓ u o).1 (O.ϓ u o).2]
 rw[r];rw[aF (f:=λu=>ώ e b d a c u*(tup b a u-1)),bf]at h
 lia
def Jq(g:Good f b)(R:ζ f b i a h)(O:Order f i a j):Slk f b a j (ic f b i a h) where
 len:=by
  have:=g.m1;rw[tF]
  lia
 pos:=λv v0 v1=>by rw[kK v0 v1];exact(kJ g R v0 v1).1
 std:=λc n=>by
  have k:=O.ϓ c n;have m:=O.ne n;have u:=R.up c k.1 k.2 m;rw[kK k.1 k.2,kK u.1.1 u.1.2];have hk:c∈cF f b (front i a (a c)) (a c):=(dg g R u.1.1 u.1.2).mpr ⟨k,m,rfl⟩;have e:ώ f b i a h (a c)=((cF f b (front i a (a c)) (a c)).map λc=>bor b a c (ώ f b i a h c)).foldl mx 1:=wB g R u.1.1 u.1.2;have r:∀x∈(cF f b (front i a (a c)) (a c)).map λc=>bor b a c (ώ f b i a h c),x<=2^480*1000000:=λx p=>by
   obtain⟨d,hd,rfl⟩:=aZ.mp p;obtain⟨l,s,t⟩:=(dg g R u.1.1 u.1.2).mp hd;have tk:=nN g R l.1 l.2 s;have q:=kJ g R l.1 l.2;show _*tup b a d<=_;exact dH q.2 tk.2 (by lia) (by decide +kernel)
  obtain⟨_,_,o⟩:=zD (B:=2^480*1000000) ((cF f b (front i a (a c)) (a c)).map λc=>bor b a c (ώ f b i a h c)) 1 (by decide +kernel) r;have:=o _ (aZ.mpr ⟨c,hk,rfl⟩);rw[<-e]at this;exact this
end Pb
namespace L2
open PySem PySem.Spec PyProof.Rows PySem.W
section
variable(a:0<n)
include a
end
end L2
namespace Pb
open L2 PySem
def xq(m:Int)(a:ix)(b:hY)(c:Int->Int->Nat)(e d:fc)(i:Nat):List Int:=(b7 i).map λr=>Ϟ m a r (b r) (c r) (λv=>(lU m e d).getD v.toNat 0) (Tx a (b r)) r
def Ib :(xq g d b c e f a).length=a:=by unfold xq;rw[ag,b6]
theorem Nh:∀{z:fc},(∀x∈z,0<=x)->0<=z.sum
 | [],_=>bO 0
 | x::z,h=>by
   have c:=h x (.head _);have b:=Nh λy a=>h y (.tail _ a);rw[bf]
   lia
end Pb
namespace L2
open PySem
def Y9(K:hB)(a:Addr)(c:List V):Prop:=∃(o:Obj)(b:Array Value)(n:Nat),K.lookup a=some o/\o.cls=.type "tuple"/\o.data=.seq b n/\b.size<=sizeLine/\Vals c b.toList
def Y9.sq(h:Y9 K b a):Α K c b a:=.inr h
end L2
namespace Pb
open L2 PySem
abbrev iN(m:Int)(c:ix)(r:Int)(a:fz)(b:gn)(d z:fc)(v:Int):Int:=Ϟ m c r a b (λv=>(lU m z d).getD v.toNat 0) (Tx c a) v
end Pb
namespace L2
open PySem PySem.Spec PyProof.Rows PySem.W
def Px:YL a "str.zfill" (λx c H Q=>∃z i,x=.str z/\c=[.int i]/\PadOk i=true/\Q (.str (Txt.zfill z i)) H):=by
 intro b s g H x c v j Q I d e h;obtain⟨z,i,rfl,rfl,f,q⟩:=h;obtain⟨t,rfl⟩:=d;obtain⟨u,rfl,l,rfl⟩:=oF e;exact SC.zfill f λm k=>⟨.str _,H,I.tok _,⟨_,rfl⟩,q⟩
theorem BL:∀{b:hU}{a:hL},Vals (b.map V.str) a->StrsAre a b
 | [],_,.nil=>.nil
 | y::b,_,.cons h r=>by
   obtain⟨t,rfl⟩:=h;exact .cons y t (BL r)
def SH(K:hB):V->List V->Hp->VK->Prop:=λx b H Q=>∃z l a,x=.str z/\b=[.ref l]/\ι K H l (a.map V.str)/\(a.map (·.length)).sum+a.length*z.length<=16777216/\Q (.str (Str.join z a)) H
def zP:YL a "str.join" (SH a.K):=by
 intro b s m H x y v o Q I c e h;obtain⟨z,l,n,rfl,rfl,d,f,q⟩:=h;obtain⟨t,rfl⟩:=c;obtain⟨u,rfl,j⟩:=oF e;cases j;obtain⟨i,r,g,p⟩:=I.list d;refine join_list g.isList (by simpa using BL r) f λw k=>⟨.str _,H,I.tok _,⟨_,rfl⟩,?_⟩;unfold Txt.join;rw[StrLaws.glued_eq_join];exact q
theorem Fv:∀l:List (Str×Tok),Vals ((l.map (·.1)).map V.str) (strValues l)
 | []=>.nil
 | (y,t)::l=>.cons ⟨t,rfl⟩ (Fv l)
def Pi:YL c "str.split" (λx p H Q=>∃z y,x=.str z/\p=[.str y]/\(y.length==0)=false/\z.length<=60000/\∀l,H l=none->Q (.ref l) (upd H l (.lst ((Txt.split z y).map V.str)))):=by
 intro f s r H x p v C Q I w B h;obtain⟨z,y,rfl,rfl,j,m,q⟩:=h;obtain⟨t,rfl⟩:=w;obtain⟨D,rfl,u,rfl⟩:=oF B;have i:z.length<=sizeLine:=aW m (by decide);have d:∀(l:List (Str×Tok))(k:Nat),l.map (·.1)=Txt.split z y->l.length<=sizeLine->EP c f r Q (.ref s.heap.objs.size) { s with toks:=k,heap:=s.heap.push { cls:=.type "list",data:=.seq (strValues l).toArray } }:=λl k e A=>by
  refine⟨.ref s.heap.objs.size,_,I.laid (a:=s.heap.objs.size) (o:=.lst ((Txt.split z y).map V.str)) (t':=k) (λb u e=>aB _ e) (aJ _) ⟨?_,strValues l,_,?_,bc _ rfl⟩,rfl,q _ (I.Β.fresh (aJ _))⟩
  .rw[ag,<-e,ag];exact A
  .rw[<-e];exact Fv l
 have n:(Txt.split z y).length<=sizeLine:=aW (split_le z y) (aW (Nat.add_le_add_right m 2) (by decide));have g:∀{l:List (Str×Tok)},l.map (·.1)=Txt.split z y->l.length<=sizeLine:=λ{l} e=>by
  have:=congrArg List.length e;rw[ag]at this;rw[this];exact n
 cases h1:(decide (z.length<y.length)||decide (Builtin.Str.strKind z<Builtin.Str.strKind y))
 .cases hf:(Builtin.Str.occurrences z y 0 z.length (z.length+1)).isEmpty
  .have es:Txt.split z y=Builtin.Str.partsBetween z (Builtin.Str.occurrences z y 0 z.length (z.length+1)) y.length:=by
    unfold Txt.split;rw[ah (ne_true_of_eq_false h1),ah (ne_true_of_eq_false hf)]
   refine call_meets mi (typeIs_str _ _ _) lG (kY _ _) (meets_str_split_sep z y t u h1 j hf i (by rw[<-es];exact n)) ?_;show wants _ _ _ { s with toks:=_,heap:=s.heap.push { cls:=.type "list",data:=.seq (strsFrom s.toks (Builtin.Str.partsBetween z (Builtin.Str.occurrences z y 0 z.length (z.length+1)) y.length)).toArray } };rw[strsFrom_eq];have e:(numbered s.toks (Builtin.Str.partsBetween z (Builtin.Str.occurrences z y 0 z.length (z.length+1)) y.length)).map (·.1)=Txt.split z y:=(numbered_texts _ _).trans es.symm;exact d _ _ e (g e)
  .have e:[(z,t)].map (·.1)=Txt.split z y:=by
    unfold Txt.split;rw[ah (ne_true_of_eq_false h1),aj hf]
    rfl
   exact call_meets mi (typeIs_str _ _ _) lG (kY _ _) (meets_str_split_not_found z y t u h1 j hf) (d [(z,t)] s.toks e (g e))
 .have e:[(z,t)].map (·.1)=Txt.split z y:=by
   unfold Txt.split;rw[aj h1]
   rfl
  exact call_meets mi (typeIs_str _ _ _) lG (kY _ _) (meets_str_split_cannot_occur z y t u h1) (d [(z,t)] s.toks e (g e))
def LZ:lh a (.type "int") (λc H Q=>∃z i,c=[.str z]/\PySem.intText? z=some i/\z.length<=640/\Q (.int i) H):=by
 intro b s f H c g Q I r h;obtain⟨z,i,rfl,d,e,q⟩:=h;obtain⟨u,rfl,t,rfl⟩:=oF r;exact KIN.call_text d e ⟨.int i,H,I.tok _,⟨_,rfl⟩,q⟩
def Its(z:Str):It:=⟨λi _=>i<z.cps.size,λi H x a=>a=H/\∃c,z.cps[i]?=some c/\x=.str ⟨#[c]⟩,λi _=>z.cps.size<=i⟩
def OT{P:Program}{w:World}{K:hB}{F:Expr}(g:Addr)(z:Str)(t:Tok):Turn P w K F (Its z) [g] g (λi h=>h.IsStrIter g "str_ascii_iterator" z t i) where
 mem:=by simp
 obj:=λi h st b hb=>by
  have e:b=g:=by simpa using hb
  subst e;obtain⟨o,e,c,d⟩:=st;exact⟨o,e,λv z=>by rw[d]at z;cases z⟩
 keep:=λi h l st k=>let ⟨o,ho,r⟩:=st;⟨o,k g (by simp) o ho,r⟩
 item:=by
  intro X u hw n C i a s A H E I j st f;subst u hw n;have f:i<z.cps.size:=f;obtain⟨m,x,G,p,q,y⟩:=j g (by simp);refine wpAny_pyNext_ascii_item st (c:=z.cps[i]) (by simp[f]) λl B L=>?_;have J:Inv X a A H { s with heap:=l,toks:=s.toks+1 }:=I.turned (t':=s.toks+1) (λb o hb e=>(L.2 b hb).trans e) m x p q y;obtain⟨o,e,c,d⟩:=id B;exact⟨_,rfl,C1 (s:={ s with heap:=l,toks:=s.toks+1 }) e c d (by decide) ⟨.str ⟨#[z.cps[i]]⟩,H,J,⟨_,rfl⟩,⟨rfl,_,by simp[f],rfl⟩,B,λb hb=>(j b hb).1⟩⟩
 done:=by
  intro X u hw n C i a s A H E I j st f;subst u hw n;have f:z.cps.size<=i:=f;obtain⟨m,x,G,p,q,y⟩:=j g (by simp);exact wpAny_pyNext_ascii_end (I.ok.hd C) st (by simp[f]) λl D=>⟨rfl,I.turned (t':=s.toks) (λb o hb e=>D b o hb e) m x p q y⟩
 self:=λ_ _ _ _ _ st h=>wpAny_pyIter_striter_ascii st h
def OJ(c:TE):TI:=λa H R=>c a H λx b=>∃z,x=.str z/\z.cps.all (·<128)=true/\R (Its z) b
def RA{X:Cx}{p:Expr}{l:Expr}{f:TE}(m:PE X l f):PI X p l (OJ f):=by
 intro a s g H R I h;refine eF (m a s g H _ I h) λv c x i d j r=>?_;obtain⟨z,e,n,q⟩:=r;subst e;obtain⟨t,rfl⟩:=j;refine wpAny_pyIter_ascii n ?_;refine⟨c.heap.objs.size,[c.heap.objs.size],_,_,i,rfl,d.kept (t':=c.toks) λb o e=>aB _ e,OT _ z t,⟨_,bc _ rfl,rfl,rfl⟩,λb k=>?_,q⟩;have e:b=c.heap.objs.size:=by simpa using k
 subst e;exact d.U1 (aJ _) (d.Β.fresh (aJ _))
def Ml :∀{l:List (Str×Tok)},Builtin.Str.tooLong ((l.map (·.1)).toArray.foldl (·+·.length+a.length) 0)=false->Gives (joinTail a (strValues l)) (joinMade a l)
 | [],h=>gives_joinTail a [] h
 | [p],h=>gives_joinTail a [p] h
 | p::q::r,h=>gives_joinTail a (p::q::r) h
def Fy(O:h.handled=none)(st:CA f n a 0 e.heap)(ne:n≠f)(H:a.size<=sizeLine)(L:StrsAre a.toList c)(G:(c.map (·.length)).sum+c.length*d.length<=16777216)(D:∀(q:Shared) (x k:Nat),q.os=e.os->q.gens=e.gens->q.drawn=e.drawn->(∀b o,b≠f->e.heap.get? b=some o->q.heap.get? b=some o)->e.heap.objs.size<=q.heap.objs.size->i (.str (Str.join d c.reverse) x) { q with toks:=k }):wpAny (model m l) h (call (.builtin "str.join") [.str d p,.ref f]) i j e:=by
 refine my (codeAny_call_builtin mN.plain F.entry_str_join (mN.check _ _ _ _ _ _ _ _ (typeIs_str _ _ _) (F.args_str_join_2 _ _) ?_));rw[join_tree_other];refine ao (wpAny_typeOf st.2.1.typeIs ?_);show wpAny _ h.in1 ((pyIter (.ref f)).tryCatch _>>=λE=>collect E>>=λs=>joinTail d s) _ _ e;refine ao (wpAny_tryCatch (iJ st.2.1 ?_));have y:h.in1.handled=none:=O;refine ao (Jg y st ne H λq u P B M N Q I=>?_);obtain⟨z,rfl⟩:∃z:List Value,u=z.toArray:=⟨u.toList,by simp⟩;obtain⟨t,rfl⟩:∃t:List Value,a=t.toArray:=⟨a.toList,by simp⟩;have J:=Ez I;subst J;obtain⟨r,w,C⟩:=strsAre_values L;have w:strValues r=t:=by simpa using w.symm
 have K:strValues r.reverse=t.reverse:=by
  rw[<-w];unfold strValues;rw[eB]
 have A:r.reverse.map (·.1)=c.reverse:=by rw[eB,C]
 show wpAny _ _ (joinTail d t.reverse.toArray.toList) _ _ q;rw[show t.reverse.toArray.toList=strValues r.reverse by rw[K]];have v:JoinOk d (r.reverse.map (·.1))=true:=by
  refine joinOk_of ?_;rw[A,eB,List.sum_reverse,aQ];exact G
 unfold JoinOk at v;rw[iE]at v;have g:=Ml v;refine g m l h (wants i j) q (post_join r.reverse ⟨joinFit_length v,λx k=>?_⟩);have:Txt.join d (r.reverse.map (·.1))=Str.join d c.reverse:=by
  unfold Txt.join;rw[StrLaws.glued_eq_join,A]
 rw[this];exact D q x k P B M N Q
def Hm(K:hB)(z:Str)(e:TE):TE:=λd H Q=>e d H λx c=>∃(a:Addr)(b:hU),x=.ref a/\ι K c a (b.map V.str)/\(b.map (·.length)).sum+b.length*z.length<=16777216/\Q (.str (Str.join z b.reverse)) c
def OM{X:Cx}{e:Expr}{D:TE}{i:Pos}{c:Pos}{g:Pos}{l:Pos}{z:Str}{n:Pos}{o:Nat}(hc:X.calm=true)(hg:Gl X "reversed")(hm:X.mg "reversed"=none)(J:PE X e D)(UB:attributeBase (.Constant (.str z) o n) "join" X.env (eval (.Constant (.str z) o n) X.env)=eval (.Constant (.str z) o n) X.env:=by rfl)(L:((backTo g (starEach [.Call (.Name "reversed" i) [e] [] l] X.env)).all (λx=>!x.1)&&(backToKw g (keywordEach [] X.env)).all (λx=>x.1.isSome)
 && decide ([Expr.Call (.Name "reversed" i) [e] [] l].length+([]:List Keyword).length+(if([]:List Keyword).isEmpty then 0 else 1)<30))=true:=by rfl)(d:(c.endLine==g.line)=true:=by rfl)(G:starEach [.Call (.Name "reversed" i) [e] [] l] X.env=[(false,eval (.Call (.Name "reversed" i) [e] [] l) X.env)]:=by rfl)(R:starEach [e] X.env=[(false,eval e X.env)]:=by rfl):PE X (.Call (.Attribute (.Constant (.str z) o n) "join" c) [.Call (.Name "reversed" i) [e] [] l] [] g) (Hm X.K z D):=by
 intro f s O H Q I h;refine wpAny_Call_method_late UB L d rfl (eF (bH f s O H (λx H'=>x=.str z/\H'=H) I ⟨rfl,rfl⟩) λv s1 x M I1 N ⟨m,S⟩=>?_);subst m S;obtain⟨t,rfl⟩:=N;refine⟨"str","str.join",F.plainAttrs_str,mN,F.type_str_join,typeIs_str _ _ _,(λ_ e=>nomatch e),?_⟩;refine jC (by rw[G];rfl) (jX ?_);refine JV (pos:=g) hg hm J I1 h G R (λs2 Y x a P am w q2 m p U st ne hz=>?_) λx M ⟨a,P,m,p,_⟩=>⟨a,_,m,p⟩;obtain⟨a',Ϯ,j,r,V,q⟩:=q2;rw[m]at j;cases j;have ey:=w.ϱ p r;subst ey;refine Fy (w.ok.hd hc) st ne hz (by simpa using BL U) V λT t' k B E A C W=>?_;obtain⟨hs,gs,ds,ts,an⟩:=T;simp only at B E A C W;subst B E A;have Z:∀b u,s2.heap.get? b=some u->hs.get? b=some u:=λb u y=>C b u (aV (aK y)) (aB _ y);exact⟨.str _,Y,w.kept (t':=k) Z,⟨_,rfl⟩,q⟩
def Pa(g:Gl b a)(h:∃t,b.mg a=some (.str d t))(f:(a==("__debug__":Str))=false:=by decide):PE b (.Name a c) (tC (.str d)):=by
 obtain⟨t,e⟩:=h;exact DR g e ⟨t,rfl⟩ f
def NF(s:Nat->List V->St->Hp->Prop)(E:s 0 [] f h)(B:∀(i c:Nat) (n:List V) (p:St) (H:Hp) (N:List V->St->Hp->Prop),(∀t o r,s (i+1) t o r->N t o r)->a.cps.toList[i]?=some c->s i n p H->k (.str ⟨#[c]⟩) p H λq A=>j q A λb u=>
 if b=true then g q u λy w=>w d=some (.lst n)/\n.length<sizeLine/\N (n++[y]) q (upd w d (.lst (n++[y])))else N n q u)(z:∀n p H,s a.cps.toList.length n p H->l (.ref d) H):tW (Its a) d l k j g f h:=by
 have I:a.cps.size=a.cps.toList.length:=by simp
 refine⟨λi m n p H=>m=a.cps.toList.length-i/\i<=a.cps.toList.length/\s i n p H,⟨a.cps.toList.length,by simp,cf _,E⟩,?_⟩;rintro i m n p H ⟨rfl,G,pv⟩;by_cases D:i<a.cps.toList.length
 .refine .inr ⟨by show i<a.cps.size;lia,λx r y=>?_⟩;obtain⟨rfl,c,F,rfl⟩:=y;exact B i c n p _ (λt o r=>∃v,v<a.cps.toList.length-i/\(v=a.cps.toList.length-(i+1)/\i+1<=a.cps.toList.length/\s (i+1) t o r)) (λt o r C=>⟨a.cps.toList.length-(i+1),by lia,rfl,D,C⟩) (by rw[j0];exact F) pv
 .have e:i=a.cps.toList.length:=by lia
  subst e;exact .inl ⟨by show a.cps.size<=_;lia,z n p H pv⟩
end L2
namespace Pb
open L2 PySem PySem.W NumText
def gl(n:Nat):List Nat:=(Nat.toDigits 10 n).map Char.toNat
def FS(n:Nat):Str:=⟨(gl n).toArray⟩
theorem rP(n:Nat):(FS n).cps.toList=gl n:=rfl
def rA{a b:Str}(h:a.cps.toList=b.cps.toList):a=b:=by
 cases a;cases b
 congr 1
 exact Array.toList_inj.mp h
def qO(n:Nat):Str.ofString (toString ((n:Nat):Int))=FS n:=rA (KIN.signs_num n)
def Sr:∀d:Nat,d<10->(Nat.digitChar d).toNat=48+d:=by decide
def qg(h:a<10):gl a=[48+a]:=by
 unfold gl;rw[Nat.toDigits_of_lt_base h];show[(Nat.digitChar a).toNat]=_;rw[Sr a h]
def tH(h:10<=a):gl a=gl (a/10)++[48+a%10]:=by
 have b:a%10<10:=mw a (by decide);have t:Nat.toDigits 10 (a/10)++Nat.toDigits 10 (a%10)=Nat.toDigits 10 (10*(a/10)+a%10):=Nat.toDigits_append_toDigits (by decide) (by lia) b;rw[Nat.div_add_mod]at t;unfold gl;rw[<-t,aq]
 congr 1
 exact qg b
def rK(n:Nat):AllDigits (gl n):=by
 induction n using Nat.strongRecOn with
 | _ n ih=>
   by_cases h:n<10
   .rw[qg h];intro c hc;rw[aG.mp hc]
    lia
   .rw[tH (by lia)];intro c hc;rcases bi.mp hc with hc|hc
    .exact ih (n/10) (by lia) c hc
    .rw[aG.mp hc];have:=mw n (show 10>0 by decide)
     lia
def zw(n:Nat):gl n≠[]:=by
 by_cases h:n<10
 .rw[qg h];simp
 .rw[tH (by lia)];simp
def EY(n:Nat)(h:0<n):∃c r,gl n=c::r/\c≠48:=by
 induction n using Nat.strongRecOn with
 | _ n ih=>
   by_cases a:n<10
   .exact⟨48+n,[],qg a,by lia⟩
   .obtain⟨c,r,e,hc⟩:=ih (n/10) (by lia) (by lia);exact⟨c,r++[48+n%10],by rw[tH (by lia),e];rfl,hc⟩
theorem oP:∀(k n:Nat),n<10^(k+1)->(gl n).length<=k+1
 | 0,n,h=>by rw[qg (by simpa using h)];simp
 | k+1,n,h=>by
   by_cases a:n<10
   .rw[qg a];simp
   .rw[tH (by lia),aH,gj];have:=oP k (n/10) (by rw[dX]at h;lia)
    lia
def P5(n:Nat):digitsVal (gl n)=n:=KIN.val_back n
def vd:Nat->Nat->List Nat
 | 0,_=>[]
 | k+1,m=>vd k (m/10)++[48+m%10]
theorem Fa:∀k,vd k 0=List.replicate k 48
 | 0=>rfl
 | k+1=>by
   show vd k 0++[48+0%10]=_;rw[Fa k,mS]
theorem GY:∀(k m:Nat),m<10^(k+1)->List.replicate (k+1-(gl m).length) 48++gl m=vd (k+1) m
 | 0,m,h=>by
   have h:m<10:=by simpa using h
   rw[qg h];show _=[]++[48+m%10];rw[Nat.mod_eq_of_lt h]
   rfl
 | k+1,m,h=>by
   show _=vd (k+1) (m/10)++[48+m%10];by_cases a:m<10
   .rw[qg a,show m/10=0 by lia,Fa,Nat.mod_eq_of_lt a]
    rfl
   .have ih:=GY k (m/10) (by rw[dX]at h;lia);rw[tH (by lia),aH,gj,<-ih,show k+1+1-((gl (m/10)).length+1)=k+1-(gl (m/10)).length by lia,ci]
theorem HZ:∀(k q m:Nat),0<q->m<10^k->gl (q*10^k+m)=gl q++vd k m
 | 0,q,m,hq,h=>by
   have:m=0:=by simpa using h
   subst this;simp[vd]
 | k+1,q,m,hq,h=>by
   have e:(q*10^(k+1)+m)/10=q*10^k+m/10:=by
    rw[dX,<-ko]
    lia
   have b:(q*10^(k+1)+m)%10=m%10:=by
    rw[dX,<-ko]
    lia
   have p:0<10^k:=Nat.pow_pos (by decide);have a:10<=q*10^(k+1)+m:=by
    rw[dX,<-ko];have:1<=q*10^k:=Nat.mul_pos hq p
    lia
   rw[tH a,e,b,HZ k q (m/10) hq (by rw[dX]at h;lia),ci]
   rfl
def app_list(a b:Str):(a++b).cps.toList=a.cps.toList++b.cps.toList:=PySem.W.KT.app_list a b
def iI(a:Str):a.length=a.cps.toList.length:=by
 show a.cps.size=_;simp
def jE(s:List Nat):List (List Nat)->List Nat
 | []=>[]
 | [x]=>x
 | x::y::r=>x++s++jE s (y::r)
theorem kE(z:Str):∀a:List Str,(Str.join z a).cps.toList=jE z.cps.toList (a.map (·.cps.toList))
 | []=>rfl
 | [x]=>rfl
 | x::y::r=>by
   show(x++z++Str.join z (y::r)).cps.toList=_;rw[app_list,app_list,kE z (y::r)]
   rfl
theorem C7 :∀{a b X Y:List Nat},c∉a->c∉b->a++c::X=b++c::Y->a=b/\X=Y
 | [],[],X,Y,_,_,e=>⟨rfl,by simpa using e⟩
 | [],b::bs,X,Y,_,hb,e=>by
   have:=(eV e).1;exact absurd (by rw[this];exact .head _) hb
 | a::as,[],X,Y,ha,_,e=>by
   have:=(eV e).1;exact absurd (by rw[<-this];exact .head _) ha
 | a::as,b::bs,X,Y,ha,hb,e=>by
   obtain⟨g,i⟩:=eV e;obtain⟨f,d⟩:=C7 (λh=>ha (.tail _ h)) (λh=>hb (.tail _ h)) i;exact⟨by rw[g,f],d⟩
theorem E1 :∀{A B:List (List Nat)},A≠[]->B≠[]->(∀a∈A,c∉a)->(∀b∈B,c∉b)->jE [c] A=jE [c] B->A=B
 | [],_,h,_,_,_,_=>absurd rfl h
 | _,[],_,h,_,_,_=>absurd rfl h
 | [a],[b],_,_,_,_,e=>by rw[show a=b from e]
 | [a],b::b'::r,_,_,ha,_,e=>by
   have:c∈a:=by rw[show a=b++[c]++jE [c] (b'::r)from e];simp
   exact absurd this (ha a (.head _))
 | a::a'::r,[b],_,_,_,hb,e=>by
   have:c∈b:=by rw[<-show a++[c]++jE [c] (a'::r)=b from e];simp
   exact absurd this (hb b (.head _))
 | a::a'::r,b::b'::r',_,_,ha,hb,e=>by
   have e:a++[c]++jE [c] (a'::r)=b++[c]++jE [c] (b'::r'):=e;rw[ci,ci]at e;obtain⟨g,f⟩:=C7 (ha a (.head _)) (hb b (.head _)) e;rw[g,E1 (by simp) (by simp) (λx d=>ha x (.tail _ d)) (λx d=>hb x (.tail _ d)) f]
def Kz(h:ys≠[])(q:∀y∈ys,c∉y.cps.toList):Txt.split (Str.join ⟨#[c]⟩ ys) ⟨#[c]⟩=ys:=by
 have e:=StrLaws.join_split (Str.join ⟨#[c]⟩ ys) ⟨#[c]⟩;have f:=StrLaws.split_free (Str.join ⟨#[c]⟩ ys) c;have n:=PyProof.Rows.split_pos (Str.join ⟨#[c]⟩ ys) ⟨#[c]⟩;generalize Txt.split (Str.join ⟨#[c]⟩ ys) ⟨#[c]⟩=k at e f n ⊢;have j:=congrArg (λs:Str=>s.cps.toList) e;simp only[kE]at j;have o:k.map (·.cps.toList)=ys.map (·.cps.toList):=E1 (c:=c) (by intro z;rw[j4.mp z]at n;simp at n) (by intro z;exact h (j4.mp z)) (λa g=>by obtain⟨y,d,rfl⟩:=aZ.mp g;exact f y d) (λa g=>by obtain⟨y,d,rfl⟩:=aZ.mp g;exact q y d) j;have i:∀{l b:hU},l.map (·.cps.toList)=b.map (·.cps.toList)->l=b:=by
  intro l
  induction l with
  | nil=>intro b e;cases b with
    | nil=>rfl
    | cons _ _=>cases e
  | cons x l ih=>
    intro b e;cases b with
    | nil=>cases e
    | cons y b=>
      obtain⟨p,m⟩:=eV e;rw[rA p,ih m]
 exact i o
theorem EW:∀l:List (List Nat),jE [] l=l.flatten
 | []=>rfl
 | [x]=>by simp[jE]
 | x::y::r=>by
   show x++[]++jE [] (y::r)=_;rw[EW (y::r)];simp
def zf(h:a<10^18):(Txt.zfill (FS a) 18).cps.toList=vd 18 a:=by
 have i:=oP 17 a h;have e:=GY 17 a h;have g:(FS a).length=(gl a).length:=by rw[iI];rfl
 unfold Txt.zfill;rw[g];by_cases c:(18:Int)<=((gl a).length:Nat)
 .rw[aj c,rP,<-e,show 17+1-(gl a).length=0 by lia]
  rfl
 .rw[ah c];obtain⟨d,r,b⟩:∃d r,gl a=d::r:=by
   cases hh:gl a with
   | nil=>exact absurd hh (zw a)
   | cons d r=>exact⟨d,r,rfl⟩
  have j:=rK a d (by rw[b];exact .head _);have f:(FS a).cps[0]?=some d:=by
   rw[<-j0,rP,b];rfl
  unfold PySem.zfilled;rw[f];split
  .rename_i z;cases z;lia
  .rename_i z;cases z;lia
  .rw[<-e];unfold Builtin.Str.padded;simp[FS]
def Rx(h:a<10^18):(Txt.zfill (FS a) 18).length=18:=by
 rw[iI,zf h];have:∀k a,(vd k a).length=k:=by
  intro k
  induction k with
  | zero=>intro a;rfl
  | succ k ih=>intro a;show(vd k (a/10)++[48+a%10]).length=_;rw[aH,ih];rfl
 exact this 18 a
def Qx(h:10^18<=a):gl a=gl (a/10^18)++(Txt.zfill (FS (a%10^18)) 18).cps.toList:=by
 have b:a%10^18<10^18:=mw a (by decide);rw[zf b,<-HZ 18 (a/10^18) (a%10^18) (Nat.div_pos h (by decide)) b,Nat.div_add_mod']
def Q3{n:Nat}{a:hU}{m:Nat}(h:gl n=gl m++(a.reverse.map (·.cps.toList)).flatten):Str.join "" ((a++[FS m]).reverse)=FS n:=by
 refine rA ?_;rw[kE,rP,h,show("":Str).cps.toList=[]from rfl,EW];simp[rP]
def Q5(h:a<10^b)(c:b<=500)(d:0<b):((a:Nat):Int).natAbs.log2<1920:=by
 show a.log2<1920;by_cases z:a=0
 .subst z;decide
 .refine(lM z).mpr (aU h ?_);refine aW (dq (by decide) c) ?_
  decide
def Yb(a:List Nat):List V:=a.map λn:Nat=>V.int (n:Int)
def _root_.List.μ{a b:Type}{f:a->b}{l:List a}{i:Nat}{y:b}(h:(l.map f)[i]?=some y):∃x,l[i]?=some x/\y=f x:=by
 rw[aN]at h;cases e:l[i]? with
 | none=>rw[e]at h;cases h
 | some x=>rw[e]at h;exact⟨x,rfl,(bF h).symm⟩
def KQ(n:Nat):((FS n).cps.all λx=>decide (x<128))=true:=by
 rw[Array.all_eq_true_iff_forall_mem];intro x a;have:=rK n x (by simpa[FS]using a);simp
 lia
def PY(n:Nat)(h:n<10^60):PySem.intText? (FS n)=some (n:Int):=by
 have:=intText_digits (x:=FS n) (rK n) (zw n) (aW (lB (iI _)) (aW (oP 59 n h) (by decide)));rw[rP,P5]at this;exact this
def ixS{z:Str}{i:Nat}{c:Nat}{H:Hp}{Q:VK}(a:z.cps.toList.length<=60)(h:z.cps.toList[i]?=some c)(q:Q (.str ⟨#[c]⟩) H):aaf (.str z) (.int i) H Q:=⟨z,i,c,rfl,rfl,aW (lB (iI z)) (aW a (by decide)),Jn h,q⟩
def SJ:∀d:Nat,d<10->(Str.ofString "0123456789").cps.toList[d]?=some (48+d):=by decide +kernel
def Sj(h:48<=a/\a<=57):(!(Builtin.Str.occurrences (Str.ofString "0123456789") ⟨#[a]⟩ 0 (Str.ofString "0123456789").length 1).isEmpty)=true:=by
 rw[StrLaws.found_one,b4];have:=SJ (a-48) (by lia);rw[show 48+(a-48)=a by lia]at this;exact aP this
def Nm(h:V.str (FS a)=V.str (Str.ofString "0")->False):0<a:=by
 refine Nat.pos_of_ne_zero λz=>h ?_;subst z
 rfl
theorem yZ :∀{l:List (List Nat)},(∀x∈l,x.length<=m)->(jE s l).length<=(m+s.length)*l.length
 | [],h=>by simp[jE]
 | [x],h=>by
   have:=h x (.head _);show x.length<=(m+s.length)*1
   lia
 | x::y::r,h=>by
   have d:=h x (.head _);have c:=yZ (s:=s) (l:=y::r) λz b=>h z (.tail _ b);show((x++s)++jE s (y::r)).length<=_;rw[aH,aH,aO (a:=x),n9]
   lia
theorem D3 :∀{as:hH}{c:List b}{i:Nat}{x:V},Paired a as c->(as.map V.ref)[i]?=some x->∃q r,x=V.ref q/\as[i]?=some q/\c[i]?=some r/\a q r
 | _,_,i,x,.nil,h=>by cases h
 | q::as,r::c,0,x,.cons e _,h=>⟨q,r,(bF h).symm,rfl,rfl,e⟩
 | q::as,r::c,i+1,x,.cons _ t,h=>D3 (i:=i) t h
def nS(a b:Str):(a++b).length=a.length+b.length:=by
 rw[iI,app_list,aH,<-iI,<-iI]
def Vn(h:Str)(a:List Nat):Str:=Str.join " " (h::a.map FS)
structure Za(h:Str):Prop where
 len:h.length<=10
 sp:32∉h.cps.toList
 nl:10∉h.cps.toList
def Py(h:Str)(a:List Nat):(Vn h a).cps.toList=jE [32] (h.cps.toList::a.map gl):=by
 unfold Vn;rw[kE,aF,jo]
 rfl
def EC(e:Za a)(b:List Nat):Txt.split (Vn a b) (Str.ofString " ")=a::b.map FS:=Kz (c:=32) (ys:=a::b.map FS) (by simp) λy hy d=>by
 rcases aE.mp hy with rfl|hy
 .exact e.sp d
 .obtain⟨n,_,rfl⟩:=aZ.mp hy;have:=rK n 32 d
  lia
def JH(c:Za b)(d:∀n∈a,n<10^60):(Vn b a).length<=61*(a.length+1):=by
 rw[iI,Py];have:=yZ (s:=[32]) (m:=60) (l:=b.cps.toList::a.map gl) λx hx=>by
  rcases aE.mp hx with rfl|hx
  .have:=c.len;rw[iI]at this
   lia
  .obtain⟨n,h1,rfl⟩:=aZ.mp hx;exact oP 59 n (d n h1)
 rw[aO (as:=a.map gl),ag]at this;exact this
end Pb
namespace Pb
open L2 PySem
theorem P8{f h:fz}:∀{l:fc},(∀c∈l,f c<=h c)->(l.map f).sum<=(l.map h).sum
 | [],_=>bO _
 | a::l,hl=>by
   rw[aF,aF,bf,bf];have e:=hl a (.head _);have d:=P8 (l:=l) λc b=>hl c (.tail _ b)
   lia
theorem HP(k:Int)(f:fz):∀l:List Int,(l.map λc=>k*f c).sum=k*(l.map f).sum
 | []=>(Int.mul_zero k).symm
 | a::l=>by rw[aF,aF,bf,bf,HP k f l,fM]
theorem wle{held:fz}(g:Good f b)(R:ζ f b h a d){ws:fz}(pos:∀v,0<=v->v<f->0<=ws v)(j:∀c,0<=c->c<f->c≠h->ws c*tup b a c<=ws (a c))(p:∀v,0<=held v):∀(n:Nat)(v:Int),f.toNat-d v=n->0<=v->v<f->((eX f b h a d v).map λu=>ws u*held u-ws u*(tup b a u-1)).sum<=ws v*Ϟ f b h a d held (ϯ b a) v-ws v*(tup b a v-1)
 | 0,v,e,h0,h1=>by
   have:=lV R h0 h1
   lia
 | n+1,v,e,h0,h1=>by
   rw[lY g R h0 h1,aF,bf,Bd,xc g R h0 h1];have B:∀u∈cF f b (front h a v) v,((eX f b h a d u).map λu=>ws u*held u-ws u*(tup b a u-1)).sum<=ws v*ϯ b a u (Ϟ f b h a d held (ϯ b a) u):=λu D=>by
    obtain⟨i,l,s⟩:=(dg g R h0 h1).mp D;have A:=R.pos i.1 i.2 l;rw[s]at A;refine cg (wle g R pos j p n u (by lia) i.1 i.2) ?_;obtain⟨z,y⟩:=nN g R i.1 i.2 l;have st:=j u i.1 i.2 l;rw[s]at st;have o:=Rv (m:=f) (r:=h) (par:=a) (dep:=d) g p u;have t:=pos u i.1 i.2;show _<=ws v*(Ϟ f b h a d held (ϯ b a) u/tup b a u);generalize Ϟ f b h a d held (ϯ b a) u=G at o ⊢;generalize tup b a u=k at z y st ⊢;generalize ws u=W at t st ⊢;generalize ws v=V at st ⊢;have w:0<=G/k:=mK o (by lia);have q:=Int.emod_add_mul_ediv G k;have E:=cP G (show 0<k by lia);have x:W*G-W*(k-1)<=W*k*(G/k):=by
     have:W*G=W*(G%k)+W*k*(G/k):=(by rw[<-q,fM,<-eU,q]);rw[this];have:W*(G%k)<=W*(k-1):=bL (by lia) t
     lia
    exact cg x (b5 st w)
   have C:=P8 B;rw[HP (ws v) (λu=>ϯ b a u (Ϟ f b h a d held (ϯ b a) u))]at C;rw[fM]
   lia
def Q1{held:fz}(g:Good i b)(R:ζ i b e a k)(l:0<=e)(m:e<i)(n:eX i b e a k e=e::j)(O:Order i e a j)(S:Slk i b a j d)(q:∀v,0<=held v){w:Int}(A:Ϟ i b e a k held (ϯ b a) e<w):((b7 i.toNat).map λv=>d.getD v.toNat 0*held v).sum<=UI i b e a d w:=by
 have pos:∀v,0<=v->v<i->0<=d.getD v.toNat 0:=λv t z=>by have:=S.pos v t z;lia
 have h:=wle (held:=held) g R (ws:=λv=>d.getD v.toNat 0) pos (λc y r o=>S.std c ((O.all c y r).resolve_left o)) q _ e rfl l m;rw[n,A6]at h;have s:((e::j).map λv=>d.getD v.toNat 0*held v).sum=((b7 i.toNat).map λv=>d.getD v.toNat 0*held v).sum:=by
  refine xi ((jZ O.nd (jK _) λx=>?_).map _);rw[aE,fK];refine⟨λh=>?_,λh=>O.all x h.1 (by have:=h.2;lia)⟩;rcases h with h|h
  .rw[h];exact⟨l,by lia⟩
  .have:=O.ϓ x h;exact⟨this.1,by lia⟩
 rw[<-s];unfold UI;rw[<-O.sums];have p:(j.map (X9 b a d)).sum=(j.map λu=>d.getD u.toNat 0*(tup b a u-1)).sum:=rfl;rw[p];rw[aF (f:=λu=>d.getD u.toNat 0*(tup b a u-1)),bf]at h;have:d.getD e.toNat 0*Ϟ i b e a k held (ϯ b a) e<=d.getD e.toNat 0*(w-1):=bL (by lia) (pos e l m)
 lia
theorem yX:∀l:List Int,(l.map λ_=>(0:Int)).sum=0
 | []=>rfl
 | a::l=>by rw[aF,bf,yX l];rfl
def Pw(g:Good f c)(R:ζ f c i b d)(j:0<=a)(k:a<f):Ϟ f c i b d (λ_=>0) (ϯ c b) a=0:=by
 have:∀(n:Nat)(a:Int),f.toNat-d a=n->0<=a->a<f->Ϟ f c i b d (λ_=>0) (ϯ c b) a=0:=by
  intro n
  induction n with
  | zero=>
    intro a e j k;have:=lV R j k
    lia
  | succ n ih=>
    intro a e j k;rw[xc g R j k,d9];rw[zH (h:=λ_=>0) λu l=>?_]
    .exact yX _
    .obtain⟨u1,u2,u3⟩:=(dg g R j k).mp l;have m:=R.pos u1.1 u1.2 u2;rw[u3]at m;rw[ih u (by lia) u1.1 u1.2,PM]
 exact this _ a rfl j k
theorem J9(R:ζ d f b a c):∀(n:Nat)(v:Int),c v=n->0<=v->v<d->D5 a b n v=true
 | 0,v,e,h0,h1=>by
   refine bo (Classical.byContradiction λh=>?_);have:=R.pos h0 h1 h
   lia
 | n+1,v,e,h0,h1=>by
   show(decide (v=b)||D5 a b n (a v))=true;by_cases h:v=b
   .rw[bo h];rfl
   .have u:=R.up v h0 h1 h;rw[J9 R n (a v) (by lia) u.1.1 u.1.2,lO]
def uF(g:Good c d)(R:ζ c d a b e)(i:0<=a)(f:a<c):∃t,eX c d a b e a=a::t/\Order c a b t:=BU g R i f (vW g R _ a i f).1 λv=>by
 rw[Qm g R i f];exact⟨λh=>h.1,λh=>⟨h,J9 R _ v rfl h.1 h.2⟩⟩
theorem J7{f:fz}{C:Int}:∀{l:fc},(∀c∈l,f c<=C)->(l.map f).sum<=C*l.length
 | [],_=>by simp
 | a::l,h=>by
   have e:=h a (.head _);have d:=J7 (l:=l) λc b=>h c (.tail _ b);rw[aF,bf,aO,eO,fM];show f a+(l.map f).sum<=C*l.length+C*1
   lia
def Qp(g:Good f b)(R:ζ f b e a d)(i:0<=e)(h:e<f){w:Int}(r:1<=w)(u:w<=10^60):0<=UI f b e a (ic f b e a d) w/\UI f b e a (ic f b e a d) w+1<2^720:=by
 have Ζ:=g.Ζ;obtain⟨k,o,O⟩:=uF g R i h;have t:=O.Wq i h
 constructor
 .have m:=Q1 (held:=λ_=>0) g R i h o O (Jq g R O) (λ_=>bO _) (w:=w) (Int.lt_of_le_of_lt (bO _) (by rw[Pw g R i h];lia));refine cg (Int.le_of_eq ?_) m;rw[show(λv:Int=>(ic f b e a d).getD v.toNat 0*(0:Int))=λ_=>0 from funext λv=>Int.mul_zero _];exact(yX _).symm
 .unfold UI;rw[<-O.sums,show(ic f b e a d).getD e.toNat 0=ώ f b e a d e from kK i h];obtain⟨x,p⟩:=kJ g R i h;have m:ώ f b e a d e*(w-1)<=2^480*10^60:=dH p (by lia) (by lia) (by decide +kernel);have s:(k.map (X9 b a (ic f b e a d))).sum<=2^480*1000000*k.length:=J7 λc n=>by
   obtain⟨l,j⟩:=O.ϓ c n;obtain⟨B,z⟩:=nN g R l j (O.ne n);obtain⟨y,q⟩:=kJ g R l j;unfold X9;rw[show(ic f b e a d).getD c.toNat 0=ώ f b e a d c from kK l j];exact dH q (show tup b a c-1<=1000000 by lia) (show 0<=tup b a c-1 by lia) (by decide +kernel)
  have A:(2:Int)^480*1000000*k.length<=2^480*1000000*24:=bL (by lia) (by decide +kernel);have C:(2:Int)^480*10^60+2^480*1000000*24+1<2^720:=by decide +kernel
  lia
end Pb
namespace L2
open PySem
def Dg(K:hB)(e:Addr)(g:TS)(f:TH):TH:=λD c a d H=>∃C b,a=.ref C/\PySem.W.mroIn K C (.ref e)=some b/\if b=true then g D c H else f D c a d H
def xp{X:Cx}{x:Str}{A:List Stmt}{rest:List ExceptHandler}(P:Wn X.K a)(L:Gl X x)(N:X.mg x=some (.ref a))(t:∀e,UQ (X.held e).Xh (g::A) c)(V:PHs X rest d)(hdb:(x==("__debug__":Str))=false:=by decide):PHs X (.ExceptHandler (some (.Name x j)) none (g::A) i::rest) (Dg X.K a c d):=by
 intro l s y H D r T O E I w le lt h;obtain⟨C,b,rfl,m,q⟩:=h;refine wpAny_handleBy_cons (codeAny_handlers_test (tS (X:=X.held (.ref r)) (I.held _) L N ?_ hdb)) (by nofun);obtain⟨S,vs,U,F,Z,h4,h5,Y⟩:=id w.e;refine IE I.oK ⟨S,U,F⟩ P m ?_;cases b with
 | false=>exact V l s y H D r T _ E I w le lt (by simpa using q)
 | true=>
   rw[aj rfl]at q;refine codeAny_handlers_suite (zF (fs:=ϧ X.stack) w λR W k=>?_);have M:Inv X l y H { s with heap:=R }:=I.moved (tk:=s.toks) k λb t=>by rw[aG.mp t];exact lt.all
   have Q:=M.held (.ref r);refine da (t (.ref r) l _ _ _ _ (Q.wish _) q) (λf B z=>?_) λ_ _ z=>False.elim z;have n:∀{o:St}{p:Hp},Inv (X.held (.ref r)).Xh l o p B->Inv X l o p B:=λJ=>J.Ϝ.U9 I.ok.hd;dsimp only;cases f with
   | next=>
     obtain⟨o,p,J,z⟩:=z;exact⟨_,p,n J,z⟩
   | brk=>
     obtain⟨o,p,J,z⟩:=z;exact⟨_,p,n J,z⟩
   | cont=>
     obtain⟨o,p,J,z⟩:=z;exact⟨_,p,n J,z⟩
   | ret u=>
     obtain⟨v,o,p,J,G,z⟩:=z;exact⟨v,_,p,n J,G,z⟩
end L2
namespace Pb
open L2 PySem
def tdn(b:ix)(a:fz)(v:Int):Int:=(cJ b (a v) v).getD 1
def xz(b:ix)(a:fz)(st:fz)(v:Int):Int:=if 0<=st v then st v/tol b a v else 0
def PU(st:fz)(v:Int):Int:=if 0<=st v then 0 else-st v
def HF(b:ix)(a:fz)(st:fz)(v:Int):Bool:=decide (0<xz b a st v)
def Gb(st:fz)(v:Int):Bool:=decide (st v<0)
def OF(b:ix)(a:fz)(st:fz)(v:Int):ϻ:=(v,a v,xz b a st v)
def NS(a:fz)(st:fz)(v:Int):ϻ:=(a v,v,- st v)
def qE(b:ix)(a:fz)(st:fz)(l:fc):List ϻ:=(l.filter (HF b a st)).map (OF b a st)
def qF(a:fz)(st:fz)(l:fc):List ϻ:=(l.filter (Gb st)).map (NS a st)
def Oy(c:HF b a d e=true):qE b a d (f++[e])=qE b a d f++[OF b a d e]:=by
 unfold qE;rw[cw,dD c,aq]
 rfl
def PB(c:¬HF b a d f=true):qE b a d (e++[f])=qE b a d e:=by
 unfold qE;rw[cw,dE c,fI,cj]
def Pm(c:Gb b d=true):qF a b (e++[d])=qF a b e++[NS a b d]:=by
 unfold qF;rw[cw,dD c,aq]
 rfl
def NY(c:¬Gb a e=true):qF b a (d++[e])=qF b a d:=by
 unfold qF;rw[cw,dE c,fI,cj]
def Rc(g:Good d a)(R:ζ d a f b e)(i:0<=c)(j:c<d)(l:c≠f):2<=tol a b c/\2<=tdn a b c:=by
 obtain⟨k,m,o,_⟩:=jw g R i j l;obtain⟨p,n,h,_⟩:=tJ g R i j l;unfold tol tdn;rw[m,n];exact⟨o,h⟩
def M9(st:fz)(v:Int):Tx rs par v (st v)=xz rs par st v-PU st v*tdn rs par v:=by
 unfold Tx xz PU tol tdn;by_cases c:0<=st v
 .rw[aj c,aj c,aj c];lia
 .rw[ah c,ah c,ah c,j9];lia
def Qw(g:Good f d)(R:ζ f d j a i)(st:fz)(k:0<=b)(l:b<f)(m:b≠j):(0<Tx d a b (st b)->Tx d a b (st b)=xz d a st b)/\(¬0<Tx d a b (st b)->¬0<xz d a st b):=by
 have n:=(Rc g R k l m).2;have e:=M9 (rs:=d) (par:=a) st b;unfold xz PU at e;unfold xz;by_cases c:0<=st b
 .rw[aj c,aj c,Int.zero_mul,Int.sub_zero]at e;rw[e,aj c];exact⟨λ_=>rfl,λh=>h⟩
 .rw[ah c,ah c]at e;rw[ah c];have:0<=(- st b)*tdn d a b:=jb (by lia) (by lia);exact⟨λh=>by lia,λ_=>by decide⟩
theorem J5:∀{l:fc}{x:Int},(∀y∈l,0<=y)->x∈l->x<=l.sum
 | y::l,x,h,hx=>by
   have c:=Nh λz a=>h z (aI y a);have b:=h y aL;rw[bf];rcases aE.mp hx with e|e
   .lia
   .have:=J5 (λz a=>h z (aI y a)) e
    lia
end Pb
namespace L2
open PySem
def Fc(s:Nat->List V->St->Hp->Prop)(M:s 0 [] d g)(D:∀i n o H,s i n o H->Ω K c H j xs)(I:∀(i:Nat) (x:V) (n:List V) (o:St) (H:Hp) (q:Addr) (N:List V->St->Hp->Prop),(∀u p t,s (i+1) u p t->N u p t)->xs[i]?=some x->s i n o H->H q=none->k (.ref q) o (upd H q (.tup [.int i,x])) λr E=>h r E λb w=>
 if b=true then f r w λy A=>A a=some (.lst n)/\n.length<sizeLine/\N (n++[y]) r (upd A a (.lst (n++[y])))else N n r w)(C:∀n o H,s xs.length n o H->l (.ref a) H):tW (Ite K c j) a l k h f d g:=by
 refine⟨λi m n o H=>m=xs.length-i/\i<=xs.length/\s i n o H,⟨_,rfl,cf _,M⟩,?_⟩;rintro i m n o H ⟨rfl,P,pv⟩;have v:=D i n o H pv;by_cases B:i<xs.length
 .refine .inr ⟨⟨xs,xs[i],v,az B⟩,λx t y=>?_⟩;obtain⟨F,O,L,rfl,rfl,G⟩:=y;exact I i O n o H F (λu p t=>∃z,z<xs.length-i/\(z=xs.length-(i+1)/\i+1<=xs.length/\s (i+1) u p t)) (λu p t J=>⟨xs.length-(i+1),by lia,rfl,B,J⟩) (G xs v) pv L
 .have e:i=xs.length:=by lia
  subst e;exact .inl ⟨⟨xs,v,rfl⟩,C n o H pv⟩
def Ϙ(o:Addr)(H a:Hp):Prop:=∀b x,H b=some x->b≠o->a b=some x
def Ϙ.refl :Ϙ b a a:=λ_ _ h _=>h
def Ϙ.then(a:Ϙ g f e)(b:δ e d):Ϙ g f d:=λc x h n=>b c x (a c x h n)
def Ϙ.put(a:Ϙ d e b)(x:HO):Ϙ d e (upd b d x):=λc y h n=>by rw[aM n];exact a c y h n
def Ϙ.ϫ(e:Ϙ i a j)(p:a i=some (.ins k f g))(h:Ω l c a b d):Ω l c j b d:=by
 have n:∀{y:HO},a b=some y->y≠.ins k f g->b≠i:=λm o z=>by rw[z,p]at m;cases m;exact o rfl
 cases c
 .rcases h with(h|⟨o',h⟩)|h
  .exact .inl (.inl (e _ _ h (n h (by nofun))))
  .exact .inl (.inr ⟨o',e _ _ h (n h (by nofun))⟩)
  .exact .inr h
 .rcases h with(h|⟨o',h⟩)|h
  .exact .inl (.inl (e _ _ h (n h (by nofun))))
  .exact .inl (.inr ⟨o',e _ _ h (n h (by nofun))⟩)
  .exact .inr h
end L2
namespace Pb
open PySem L2
def nA(b a:fc):List Int:=List.zipWith (·+·) b a
def aC(m:Int):List Int:=List.replicate m.toNat 0
def wT(m:Int)(a:List (List Int)):List Int:=a.foldl nA (aC m)
def rg(b l:fc):List Int:=if b.sum<l.sum then l else b
def Nw(h:b.sum<a.sum):rg b a=a:=aj h
def ML(h:¬a.sum<b.sum):rg a b=a:=ah h
def Vo(b:ix)(a:fz)(v:Int):Int:=(cJ b v (a v)).getD 1
def Wr(b:ix)(a:fz)(v:Int):Int:=(cJ b (a v) v).getD 1
abbrev kd(m:Int)(b:ix)(r:Int)(a:fz)(v:Int):List Int:=cF m b (front r a v) v
def By(m:Int)(b:ix)(r:Int)(a:fz)(c:Int->List Int)(v:Int)(x:V):List Int:=wT m (((kd m b r a v).filter λk=>decide (V.int k≠x)).map c)
def vA(b:fc)(v d:Int):List Int:=b.set v.toNat (b.getD v.toNat 0+d)
def Xz(m:Int)(c:ix)(r:Int)(a:fz)(f:fz)(e:Int->List Int)(d:Int->Int->List Int)(v b k:Int):List Int:=nA (d k (Vo c a k*(b-f k*Wr c a k+1)-1)) (By m c r a e v (.int k))
def pB(m:Int)(b:ix)(r:Int)(a:fz)(c:fz)(d:Int->List Int)(e:Int->Int->List Int)(v y:Int):List Int:=((kd m b r a v).map (Xz m b r a c d e v (c v+y))).foldl rg (vA (By m b r a d v .ο) v (c v+y))
def ld(m:Int)(b:ix)(r:Int)(a:fz)(c:fz):Nat->Bool->Int->Int->List Int
 | 0,_,_,_=>[]
 | n+1,true,v,y=>pB m b r a c (λk=>ld m b r a c n false k 0) (λk z=>ld m b r a c n true k z) v y
 | n+1,false,v,_=>if 0<c v then By m b r a (λk=>ld m b r a c n false k 0) v .ο else pB m b r a c (λk=>ld m b r a c n false k 0) (λk z=>ld m b r a c n true k z) v (Vo b a v-1)
def Tp(m:Int)(c:ix)(r:Int)(a:fz)(b:gn)(d:fz)(v y:Int):List Int:=ld m c r a d (m.toNat-b v) true v y
def BV(m:Int)(c:ix)(r:Int)(a:fz)(b:gn)(d:fz)(v:Int):List Int:=ld m c r a d (m.toNat-b v) false v 0
def fS(m:Int)(a:fc):Int:=((b7 m.toNat).filter λv=>decide (0<a.getD v.toNat 0)).headD 0
def Jk(t:(b.length:Int)=c)(j:∀x∈b,0<=x)(h:b.sum≠0):∃f,((b7 c.toNat).filter λv=>decide (0<b.getD v.toNat 0))=fS c b::f/\(0<=fS c b/\fS c b<c)/\0<b.getD (fS c b).toNat 0:=by
 have p:∃x∈b,0<x:=by
  refine Classical.byContradiction λn=>h ?_;have:∀l:List Int,(∀x∈l,x=0)->l.sum=0:=by
   intro l
   induction l with
   | nil=>intro _;rfl
   | cons a l ih=>intro q;rw[bf,q a aL,ih λx d=>q x (aI _ d)];rfl
  refine this b λx d=>?_;have u:=j x d;have s:¬0<x:=λz=>n ⟨x,d,z⟩
  lia
 obtain⟨x,d,o⟩:=p;obtain⟨i,m,rfl⟩:=List.mem_iff_getElem.mp d;have g:(i:Int)∈(b7 c.toNat).filter λv=>decide (0<b.getD v.toNat 0):=by
  refine b9.mpr ⟨aP (gY (show i<c.toNat by lia)),bo ?_⟩;rw[show((i:Int)).toNat=i from rfl,bn,az m];exact o
 unfold fS;cases e:(b7 c.toNat).filter λv=>decide (0<b.getD v.toNat 0)with
 | nil=>rw[e]at g;cases g
 | cons a f=>
   have k:a∈(b7 c.toNat).filter λv=>decide (0<b.getD v.toNat 0):=by rw[e];exact aL
   have w:=b9.mp k;have r:=fK.mp w.1;exact⟨f,rfl,⟨r.1,by have:=r.2;show a<c;lia⟩,bB w.2⟩
theorem HC :∀{l:List f}{g:List c},Paired d l g->∀{i:Nat}{b:c},g[i]?=some b->∃a,l[i]?=some a/\d a b
 | _,_,.nil,i,b,e=>by simp at e
 | _,_,.cons (a:=a) (b:=b') h _,0,b,e=>by
   rw[List.getElem?_cons_zero]at e;cases e;exact⟨a,rfl,h⟩
 | _,_,.cons h hs,i+1,b,e=>by
   rw[je]at e;obtain⟨a,k,j⟩:=HC hs e;exact⟨a,by rw[je];exact k,j⟩
theorem vV :∀{l:List g}{i:List e},(∀a b,a∈l->c a b->d a b)->Paired c l i->Paired d l i
 | _,_,_,.nil=>.nil
 | _,_,f,.cons h hs=>.cons (f _ _ aL h) (vV (λa b j=>f a b (aI _ j)) hs)
theorem Ew :∀{l:List c}{f:List e},Paired d l f->∀{a:c},a∈l->∃b,d a b
 | _,_,.nil,a,h=>by cases h
 | _,_,.cons (b:=b) h hs,a,ha=>by
   rcases aE.mp ha with rfl|ha
   .exact⟨b,h⟩
   .exact Ew hs ha
theorem p6{R:b->a->Prop}(e:R d c):∀{l:List b}{f:List a},Paired R l f->Paired R (l++[d]) (f++[c])
 | _,_,.nil=>.cons e .nil
 | _,_,.cons x xs=>.cons x (p6 e xs)
def x9{b:Type}{a:List b}{i:Int}(h:0<=i):ϳ a i=a[i.toNat]?:=by
 cases e:a[i.toNat]? with
 | some v=>exact fR h e
 | none=>
   have:=List.getElem?_eq_none_iff.mp e;unfold ϳ Vx;rw[aj h,ah (by lia)]
   rfl
def Fq{m v:Int}(a:0<=v)(b:v<m):(b7 m.toNat)[v.toNat]?=some v:=by
 rw[gY (by lia)];exact congrArg some (cA a)
def DQ{m v:Int}(b:fz)(a:0<=v)(c:v<m):ϳ (((b7 m.toNat).map b).map V.int) v=some (.int (b v)):=fR a (by
 rw[aN,aN,Fq a c]
 rfl)
def Ed(m:Int):(aC m).map V.int=List.replicate m.toNat (V.int 0):=by unfold aC;rw[hV]
def Lp :wT b (a++[c])=nA (wT b a) c:=by unfold wT;rw[lD];rfl
def yd(h:∀k∈kd f b d a g,e k=c k):By f b d a e g x=By f b d a c g x:=by
 unfold By;rw[cB λk i=>h k (b9.mp i).1]
def Aj(h:∀k∈kd e b c a f,i k=g k)(o:∀k∈kd e b c a f,∀z,l k z=d k z):pB e b c a j i l f m=pB e b c a j g d f m:=by
 unfold pB Xz;rw[yd (x:=.ο) h,cB λk n=>by rw[o k n,yd (x:=.int k) h]]
def mL(g:Good b f)(R:ζ b f h c a)(j:0<=e)(l:e<b)(i:k∈kd b f h c e):((0<=k/\k<b)/\k≠h/\c k=e)/\b.toNat-a e=b.toNat-a k+1/\1<=b.toNat-a k:=by
 have w:=(dg g R j l).mp i;have:=R.pos w.1.1 w.1.2 w.2.1;have d:=lV R w.1.1 w.1.2;rw[w.2.2]at this;exact⟨w,by lia,by lia⟩
def F5(R:ζ b e f d a)(g:0<=c)(h:c<b):∃n,b.toNat-a c=n+1:=⟨b.toNat-a c-1,by have:=lV R g h;lia⟩
def BG(g:Good d b)(R:ζ d b h a c)(m:0<=i)(p:i<d):Tp d b h a c f i j=pB d b h a f (BV d b h a c f) (Tp d b h a c f) i j:=by
 obtain⟨n,e⟩:=F5 R m p;have o:∀k∈kd d b h a i,d.toNat-c k=n:=λk l=>by have:=(mL g R m p l).2.1;lia
 unfold Tp;rw[e];show pB d b h a f _ _ i j=_;exact Aj (λk l=>by show _=ld d b h a f (d.toNat-c k) false k 0;rw[o k l]) (λk l z=>by show _=ld d b h a f (d.toNat-c k) true k z;rw[o k l])
def Ht(g:Good d b)(R:ζ d b j a f)(m:0<=i)(p:i<d):BV d b j a f h i=if 0<h i then By d b j a (BV d b j a f h) i .ο else Tp d b j a f h i (Vo b a i-1):=by
 obtain⟨n,e⟩:=F5 R m p;have o:∀k∈kd d b j a i,d.toNat-f k=n:=λk l=>by have:=(mL g R m p l).2.1;lia
 rw[BG g R m p];unfold BV;rw[e];show(if 0<h i then By d b j a _ i .ο else pB d b j a h _ _ i _)=_;by_cases c:0<h i
 .rw[aj c,aj c];exact yd λk l=>by rw[o k l]
 .rw[ah c,ah c];exact Aj (λk l=>by show _=ld d b j a h (d.toNat-f k) false k 0;rw[o k l]) (λk l z=>by show _=ld d b j a h (d.toNat-f k) true k z;rw[o k l])
def Bw(d:a.length=b)(e:c.length=b):(nA a c).length=b:=by unfold nA;rw[List.length_zipWith];lia
theorem yw{m:Int}:∀(b:List (List Int))(a:fc),a.length=m.toNat->(∀l∈b,l.length=m.toNat)->(b.foldl nA a).length=m.toNat
 | [],a,h,_=>h
 | l::b,a,h,hl=>yw b (nA a l) (Bw h (hl l aL)) λx c=>hl x (aI _ c)
def zo(m:Int):(aC m).length=m.toNat:=b8
def zh(h:∀k∈kd a c e b f,(d k).length=a.toNat):(By a c e b d f g).length=a.toNat:=by
 unfold By wT;refine yw _ _ (zo a) λl j=>?_;obtain⟨k,i,rfl⟩:=aZ.mp j;exact h k (b9.mp i).1
theorem EE{P:List Int->Prop}:∀(a:List (List Int))(b:fc),P b->(∀l∈a,P l)->P (a.foldl rg b)
 | [],b,h,_=>h
 | l::a,b,h,hl=>EE a (rg b l) (by
   unfold rg;split
   .exact hl l aL
   .exact h) λx c=>hl x (aI _ c)
def Oo :(vA a b c).length=a.length:=by unfold vA;rw[bN]
def MR{j:Int->List Int}{i:Int->Int->List Int}(h:∀k∈kd a c d b e,(j k).length=a.toNat)(m:∀k∈kd a c d b e,∀z,(i k z).length=a.toNat):(pB a c d b f j i e g).length=a.toNat:=by
 unfold pB;refine EE (P:=λl=>l.length=a.toNat) _ _ (by rw[Oo];exact zh h) λl o=>?_;obtain⟨k,n,rfl⟩:=aZ.mp o;exact Bw (m k n _) (zh h)
section
variable{m:Int}{d:ix}{r:Int}{b:fz}{c:gn}{f:fz}
theorem Hj(g:Good m d)(R:ζ m d r b c):∀(n:Nat)(v:Int),0<=v->v<m->m.toNat-c v=n->(BV m d r b c f v).length=m.toNat/\∀y,(Tp m d r b c f v y).length=m.toNat
 | 0,v,h0,h1,e=>by have:=lV R h0 h1;lia
 | n+1,v,h0,h1,e=>by
   have i:∀k∈kd m d r b v,_:=λk h=>by
    have w:=mL g R h0 h1 h;exact Hj g R n k w.1.1.1 w.1.1.2 (by lia)
   have a:∀y,(Tp m d r b c f v y).length=m.toNat:=λy=>by
    rw[BG g R h0 h1];exact MR (λk h=>(i k h).1) λk h=>(i k h).2
   refine⟨?_,a⟩;rw[Ht g R h0 h1];split
   .exact zh λk h=>(i k h).1
   .exact a _
end
def Jm(g:Good a b)(R:ζ a b f e c)(i:0<=d)(j:d<a):(BV a b f e c h d).length=a.toNat:=(Hj g R _ d i j rfl).1
def JN(g:Good a b)(R:ζ a b f e c)(j:0<=d)(k:d<a):(Tp a b f e c i d h).length=a.toNat:=(Hj g R _ d j k rfl).2 h
theorem Hq:∀(c:List (List Int))(b:fc),c.foldl rg b=b\/c.foldl rg b∈c
 | [],b=>.inl rfl
 | a::c,b=>by
   rw[iX];rcases Hq c (rg b a)with h|h
   .rw[h];by_cases z:b.sum<a.sum
    .rw[Nw z];exact .inr aL
    .rw[ML z];exact .inl rfl
   .exact .inr (aI _ h)
theorem R6(v z:Int):Tx b a v z=if 0<=z then z/Vo b a v else z*Wr b a v:=rfl
abbrev pY(m:Int)(c:ix)(r:Int)(a:fz)(b:gn)(d:fc):Int->Int:=Ϟ m c r a b (λv=>d.getD v.toNat 0) (X8 c a)
theorem EN:∀{xs ys:fc},xs.length=ys.length->∀(i:Nat),(nA xs ys).getD i 0=xs.getD i 0+ys.getD i 0
 | [],[],_,i=>by simp[nA]
 | a::xs,b::ys,h,0=>by simp[nA]
 | a::xs,b::ys,h,i+1=>by
   have c:=EN (xs:=xs) (ys:=ys) (by simpa using h) i;unfold nA at c ⊢;rw[List.zipWith_cons_cons,kj,kj,kj,c]
def HJ(m:Int)(i:Nat):(aC m).getD i 0=0:=by
 rw[bn];cases e:(aC m)[i]? with
 | none=>rfl
 | some y=>exact(i4.mp (aP e)).2
theorem D8 :∀{l:fc},(l.map λc=>-f c).sum=-(l.map f).sum
 | []=>rfl
 | a::l=>by rw[aF,aF,bf,bf,D8];lia
def LX(b:0<=a)(c:a<m):((aC m).set a.toNat d).getD a.toNat 0=d/\∀u,0<=u->u<m->u≠a->((aC m).set a.toNat d).getD u.toNat 0=0:=by
 refine⟨?_,λu e f g=>?_⟩
 .rw[bn,cY (by rw[zo];lia)];rfl
 .rw[bn,cz (by lia),<-bn,HJ]
end Pb
namespace L2
open PySem Pb
def Sm(b a:fc):PyData.eqv (D0 b) (D0 a)=decide (b=a):=by
 unfold D0;simp only[PyData.eqv];exact Ii b a
def Hh{H:Hp}{d e:fc}{Q:VK}(g:H b=some (.tup (d.map V.int)))(f:H a=some (.tup (e.map V.int)))(q:Q (.bl (decide (d=e))) H):Rp c (.ref b) (.ref a) H Q:=⟨_,_,HD g,HD f,by have:=MY d;lia,by rw[Sm];exact q⟩
end L2
namespace Pb
open PySem L2
def GL(g:Good b a) :(kd b a r par v).length<=24:=by
 have d:=bP (λu=>decide (V.int u≠front r par v)) (jM b a v);have c:=bP (λq=>decide (q∈gP a v)) (b7 b.toNat);rw[b6]at c;have:=g.Ζ;show((jM b a v).filter λu=>decide (V.int u≠front r par v)).length<=24;unfold jM at d ⊢
 lia
theorem zL{f:fz}{M:Int}:∀{l:fc},(∀c∈l,f c<=M)->(l.map f).sum<=l.length*M
 | [],_=>by simp
 | a::l,h=>by
   have e:=h a aL;have d:=zL (l:=l) λc b=>h c (aI _ b);rw[aF,bf,aO];have:((l.length+1:Nat):Int)*M=l.length*M+M:=by
    rw[eO,eW];simp
   lia
def Eg{a b:Nat}(h:a<=b):(2:Int)^a<=2^b:=by
 obtain⟨c,rfl⟩:=Nat.exists_eq_add_of_le h;rw[gZ];have:=bL (show(1:Int)<=2^c from dI (by decide)) (fm (show(0:Int)<2^a from dI (by decide)))
 lia
section
variable{m:Int}{a:ix}{r:Int}{par:fz}
def GF(g:Good m a){f:fz}{v M:Int}(b:0<=M)(h:∀c∈kd m a r par v,f c<=M):((kd m a r par v).map f).sum<=24*M:=by
 have e:=zL h;have d:=GL (r:=r) (par:=par) g (v:=v);have:=b5 (show(((kd m a r par v).length:Nat):Int)<=24 by lia) b
 lia
end
def yT{m:Int}{d:ix}{r:Int}{c:fz}{e:gn}(g:Good m d)(R:ζ m d r c e){v:Int}(f:0<=v)(h:v<m)(i:v≠r):(2<=Vo d c v/\Vo d c v<=1000000)/\2<=Wr d c v/\Wr d c v<=1000000:=by
 obtain⟨p,k,a,l⟩:=jw g R f h i;obtain⟨o,n,b,j⟩:=tJ g R f h i;unfold Vo Wr;rw[k,n];exact⟨⟨a,l⟩,b,j⟩
end Pb
namespace L2
open PySem PySem.Spec PyProof.Rows
def KG(i j:Nat)(d:TA):TS:=λD a H=>d a H λc b=>∃v w,c=[v,w]/\D.nx ((a.set i (some v)).set j (some w)) b
def QQ{kt k2 pt2}(hc:a.calm=true)(hN:a.N.Nodup)(hi:a.N[i]?=some c)(hj:a.N[j]?=some b)(hij:i≠j)(hx:a.env.scope.names.lookup c=some .local)(hy:a.env.scope.names.lookup b=some .local)(ha:PA a [l,d] n)(hw:swappedStores [.Tuple [.Name c f,.Name b k] kt g] (.Tuple [l,d] k2 pt2) a.env=pure (some [c,b]))(hs:swapsWithSole [.Tuple [.Name c f,.Name b k] kt g] (.Tuple [l,d] k2 pt2) m.line a.env=pure false:=by rfl):PS a (.Assign [.Tuple [.Name c f,.Name b k] kt g] (.Tuple [l,d] k2 pt2) m) (KG i j n):=by
 intro r s y H D I h;rw[exec_Assign_arm];refine ao (i7 ?_);rw[hs];refine ao (bh ?_);rw[ah (by decide)];refine ao (Tuple_ (sM (ha _ r s y H _ I h) λJ u T C O F z=>?_));obtain⟨v,w,L,z⟩:=z;subst L;obtain⟨x,t,rfl,G,Q⟩:∃x t,J=[x,t]/\RelV v x/\RelV w t:=by
  cases F with
  | cons p q=>
    cases q with
    | cons p' q'=>
      cases q';exact⟨_,_,rfl,p,p'⟩
 refine fB ?_ (by show 2<=sizeLine;decide);have P:Inv a r y C { u with heap:=u.heap.push { cls:=.type "tuple",data:=.seq [x,t].toArray } }:=O.kept (t':=u.toks) λd o e=>aB _ e;rw[hw];refine ao (bh ?_);show wpAny (model a.prog a.w) a.A (do rule "assign.swapped-stores";let items <-unpackItems (.ref u.heap.objs.size) 2 none;assignInOrder [λv=>bindName a.env b v,λv=>bindName a.env c v] items.reverse;pure Flow.next) _ _ _;refine ao (mq (ao (unpackItems_tuple (items:=#[x,t]) (I.ok.hd hc) (IsTup.new u.heap _) λh' B=>?_)));have K:=P.kept (h':=h') (t':=u.toks) λd o e=>B d o (aV (aK e)) e;show wpAny _ _ (assignInOrder [λv=>bindName a.env b v,λv=>bindName a.env c v] [t,x]>>=λ_=>pure Flow.next) _ _ _;refine ao (assignInOrder_cons (mJ (uy K hN hj (.inl hy) Q (λR M=>?_) (.inr hy))));refine assignInOrder_cons (mJ (uy M hN hi (.inl hx) G (λS E=>assignInOrder_nil (bh ?_)) (.inr hx)));have e:(y.set j (some w)).set i (some v)=(y.set i (some v)).set j (some w):=List.set_comm _ _ hij.symm;rw[e]at E;exact⟨_,C,E,z⟩
end L2
namespace Pb
open PySem L2
theorem sW :∀{l:List f}{i:List d}{b:d},Paired e l (i++[b])->∃g a,l=g++[a]/\Paired e g i/\e a b
 | _,[],b,.cons (a:=a) h .nil=>⟨[],a,rfl,.nil,h⟩
 | _,c::i,b,.cons (a:=a) h hs=>by
   obtain⟨g,x,rfl,k,j⟩:=sW hs;exact⟨a::g,x,rfl,.cons h k,j⟩
def El(l:List a)(x:a):ϳ (l++[x]) (-1)=some x:=by
 unfold ϳ Vx;rw[ah (by decide),aH,aO,dB,aj (by lia)];show(l++[x])[(-1+((l.length+(0+1):Nat):Int)).toNat]?=some x;rw[show(-1+((l.length+(0+1):Nat):Int)).toNat=l.length by lia,dc (aJ _),dW]
 rfl
def RZ{b a:fc}(l:b.length=a.length)(h:∀i:Nat,b.getD i 0=a.getD i 0):b=a:=by
 refine List.ext_getElem l λi d c=>?_;have:=h i;rw[bn,bn,az d,az c]at this;exact this
def PQ{m v:Int}{b:fc}(k:(b.length:Int)=m)(g:0<=v)(h:v<m):nA b ((List.replicate m.toNat (0:Int)).set v.toNat a)=b.set v.toNat (b.getD v.toNat 0+a):=by
 have f:b.length=((List.replicate m.toNat (0:Int)).set v.toNat a).length:=by rw[bN,b8];lia
 refine RZ (by rw[Bw rfl f.symm,bN]) λi=>?_;rw[EN f];have j:=LX (m:=m) (d:=a) g h;by_cases e:i=v.toNat
 .subst e;have c:((List.replicate m.toNat (0:Int)).set v.toNat a).getD v.toNat 0=a:=j.1;rw[c,bn (l:=b.set v.toNat (b.getD v.toNat 0+a)),cY (by lia)]
  rfl
 .have c:((List.replicate m.toNat (0:Int)).set v.toNat a).getD i 0=0:=by
   rw[bn,cz (Ne.symm e),<-bn];exact HJ m i
  rw[c,bn (l:=b.set v.toNat (b.getD v.toNat 0+a)),cz (Ne.symm e),<-bn]
  lia
def XA(h:¬a=b):¬V.str a=V.str b:=λz=>h (by injection z)
inductive Dd where
 | put (v n:Int)|want (v n:Int)|back (v n:Int)|step (a b n:Int)
def Dd.wd:Dd->Str
 | .put _ _=>"put" | .want _ _=>"want" | .back _ _=>"back" | .step _ _ _=>"step"
def Dd.ns:Dd->List Int
 | .put v n=>[v,n]|.want v n=>[v,n]|.back v n=>[v,n]|.step a b n=>[a,b,n]
def Dd.Ok(m:Int)(c:ix):Dd->Prop
 | .put v n=>(0<=v/\v<m)/\0<=n|.want v n=>(0<=v/\v<m)/\0<=n|.back _ _=>True|.step a b n=>U8 c a b/\1<=n/\n<=3
def Zb(c:ix)(s:List Int×List Int):Dd->Option (List Int×List Int)
 | .put v n=>some (s.1.set v.toNat (s.1.getD v.toNat 0+n),s.2)
 | .want v n=>some (s.1,s.2.set v.toNat n)
 | .back _ _=>none
 | .step a b n=>if n*jI c a b<=s.1.getD a.toNat 0 then some (pp c s.1 (a,b,n),s.2)else none
def JW{D:Dd}(h:∀v n,D≠.back v n):¬V.str D.wd=V.str "back":=by
 cases D with
 | put v n=>exact(XA (by decide +kernel):¬V.str "put"=V.str "back")
 | want v n=>exact(XA (by decide +kernel):¬V.str "want"=V.str "back")
 | back v n=>exact absurd rfl (h v n)
 | step a b n=>exact(XA (by decide +kernel):¬V.str "step"=V.str "back")
end Pb
namespace Pb
open L2 PySem PySem.W NumText
structure Fig(l:List Nat):Prop where
 akP:1<=l.length
 aaF:l.length<=60
 all:∀c∈l,48<=c/\c<=57
 lead:l=[48]\/l.head?≠some 48
def RU(h:a<10^60):Fig (FS a).cps.toList:=by
 rw[rP];refine⟨j6.mpr (zw a),oP 59 a h,rK a,?_⟩;by_cases z:a=0
 .subst z;exact .inl rfl
 .obtain⟨c,r,e,hc⟩:=EY a (by lia);refine .inr ?_;rw[e];exact λq=>hc (by injection q)
open Classical in
def wsp(z:Str):List Str:=Txt.split z (Str.ofString " ")
end Pb
namespace Pb
open L2 PySem PySem.W NumText
def Pl(z:Str):Prop:=∀c∈z.cps.toList,c<128/\c≠10
theorem Fg(d:c≠[]):∀{A:List (List Nat)},A≠[]->jE s (A++c)=jE s A++s++jE s c
 | [],h=>absurd rfl h
 | [a],_=>by
   cases c with
   | nil=>exact absurd rfl d
   | cons b c=>rfl
 | a::a'::r,_=>by
   have:=Fg (s:=s) d (A:=a'::r) (by simp);show a++s++jE s ((a'::r)++c)=a++s++jE s (a'::r)++s++jE s c;rw[this];simp only[ci]
theorem Dh :∀{ws:hU},(∀w∈ws,w.length<=m)->(ws.map (·.length)).sum<=m*ws.length
 | [],_=>by simp
 | w::ws,h=>by
   have c:=h w (.head _);have b:=Dh (ws:=ws) λx a=>h x (.tail _ a);rw[aF,bf,aO,n9]
   lia
def Hr(h:∀w∈ws,w.length<=m):(Str.join z ws).length<=(m+z.length)*ws.length:=by
 rw[iI,kE];have:=yZ (s:=z.cps.toList) (m:=m) (l:=ws.map (·.cps.toList)) λx b=>by
  obtain⟨w,a,rfl⟩:=aZ.mp b;rw[<-iI];exact h w a
 rw[ag,<-iI]at this;exact this
def ch:Nat->Nat->Nat
 | _,0=>1
 | 0,_+1=>0
 | n+1,k+1=>ch n k+ch n (k+1)
def qi(n:Nat):ch n 0=1:=by cases n<;>rfl
theorem vZ:∀n k:Nat,(ch n (k+1):Int)*((k:Int)+1)=(ch n k:Int)*((n:Int)-(k:Int))
 | 0,0=>by simp[ch]
 | 0,k+1=>by simp[ch]
 | n+1,0=>by
   have h:=vZ n 0;rw[qi]at h ⊢;show((ch n 0+ch n 1:Nat):Int)*_=_;rw[qi];have h:((ch n 1:Nat):Int)*(((0:Nat):Int)+1)=((1:Nat):Int)*((n:Int)-((0:Nat):Int)):=h;simp only[eO,Int.natCast_one]at h ⊢
   lia
 | n+1,k+1=>by
   have e:=vZ n k;have d:=vZ n (k+1);show((ch n (k+1)+ch n (k+1+1):Nat):Int)*_=((ch n k+ch n (k+1):Nat):Int)*_;generalize ch n (k+1+1)=c at e d;generalize ch n (k+1)=b at e d;generalize ch n k=a at e d;simp only[eO,Int.natCast_one]at e d ⊢;have f:((b:Int)+(c:Int))*((k:Int)+1+1)=(c:Int)*((k:Int)+1+1)+(b:Int)*((k:Int)+1)+(b:Int):=by
    rw[eW,fM (b:Int) ((k:Int)+1) 1]
    lia
   have g:((a:Int)+(b:Int))*((n:Int)+1-((k:Int)+1))=(a:Int)*((n:Int)-(k:Int))+(b:Int)*((n:Int)-((k:Int)+1))+(b:Int):=by
    rw[show(n:Int)+1-((k:Int)+1)=(n:Int)-(k:Int) by lia,eW,show(n:Int)-(k:Int)=((n:Int)-((k:Int)+1))+1 by lia,fM (b:Int) _ 1]
    lia
   rw[f,g,e,d]
   lia
def Tc:List Int->Nat->Nat->Int
 | [],_,_=>0
 | d::r,n,k=>d*(ch n k:Int)+Tc r n (k+1)
theorem BH:∀(r:fc)(k:Nat),Tc r 0 (k+1)=0
 | [],_=>rfl
 | d::r,k=>by
   show d*((ch 0 (k+1):Nat):Int)+Tc r 0 (k+1+1)=0;rw[BH r (k+1)];show d*((0:Nat):Int)+0=0;simp
theorem Gi:∀(r:fc)(n k:Nat),Tc r (n+1) (k+1)=Tc r n (k+1)+Tc r n k
 | [],_,_=>rfl
 | d::r,n,k=>by
   show d*((ch n k+ch n (k+1):Nat):Int)+Tc r (n+1) (k+1+1)=(d*(ch n (k+1):Int)+Tc r n (k+1+1))+(d*(ch n k:Int)+Tc r n (k+1));rw[Gi r n (k+1),eO,fM]
   lia
def dl(f:Nat->Int):Nat->Int:=λn=>f (n+1)-f n
def Pd:Nat->(Nat->Int)->Prop
 | 0,f=>∀n,f n=f 0
 | d+1,f=>Pd d (dl f)
def UJ:Nat->(Nat->Int)->List Int
 | 0,_=>[]
 | N+1,f=>f 0::UJ N (dl f)
theorem DC:∀(N:Nat)(f:Nat->Int),(UJ N f).length=N
 | 0,_=>rfl
 | N+1,f=>by
   show(UJ N (dl f)).length+1=_;rw[DC N]
theorem Pd.zero(h:∀n,f n=0):∀d,Pd d f
 | 0=>λn=>by rw[h n,h 0]
 | d+1=>Pd.zero (f:=dl f) (λn=>by show f (n+1)-f n=0;rw[h,h];rfl) d
theorem Pd.up:∀{d:Nat}{f:Nat->Int},Pd d f->Pd (d+1) f
 | 0,f,h=>λn=>by
   show f (n+1)-f n=f (0+1)-f 0;rw[h (n+1),h n,h (0+1)]
 | d+1,f,h=>Pd.up (d:=d) (f:=dl f) h
def Pd.le(h:Pd a f)(l:a<=b):Pd b f:=by
 induction l with
 | refl=>exact h
 | step _ ih=>exact ih.up
theorem Pd.add:∀{d:Nat}{f g:Nat->Int},Pd d f->Pd d g->Pd d (λn=>f n+g n)
 | 0,f,g,h,k=>λn=>by
   show f n+g n=f 0+g 0;rw[h n,k n]
 | d+1,f,g,h,k=>by
   have:=Pd.add (d:=d) (f:=dl f) (g:=dl g) h k;have e:dl (λn=>f n+g n)=λn=>dl f n+dl g n:=by
    funext n
    show f (n+1)+g (n+1)-(f n+g n)=(f (n+1)-f n)+(g (n+1)-g n)
    lia
   show Pd d (dl (λn=>f n+g n));rw[e];exact this
theorem Pd.smul(c:Int):∀{d:Nat}{f:Nat->Int},Pd d f->Pd d (λn=>c*f n)
 | 0,f,h=>λn=>by
   show c*f n=c*f 0;rw[h n]
 | d+1,f,h=>by
   have:=Pd.smul c (d:=d) (f:=dl f) h;have e:dl (λn=>c*f n)=λn=>c*dl f n:=by
    funext n
    show c*f (n+1)-c*f n=c*(f (n+1)-f n);rw[ms]
   show Pd d (dl (λn=>c*f n));rw[e];exact this
theorem Pd.shift(b:Nat):∀{d:Nat}{f:Nat->Int},Pd d f->Pd d (λn=>f (n+b))
 | 0,f,h=>λn=>by
   show f (n+b)=f (0+b);rw[h (n+b),h (0+b)]
 | d+1,f,h=>by
   have:=Pd.shift b (d:=d) (f:=dl f) h;have e:dl (λn=>f (n+b))=λn=>dl f (n+b):=by
    funext n
    show f (n+1+b)-f (n+b)=f (n+b+1)-f (n+b);rw[show n+1+b=n+b+1 by lia]
   show Pd d (dl (λn=>f (n+b)));rw[e];exact this
def aS:Nat->(Nat->Int)->Int
 | 0,_=>0
 | k+1,f=>aS k f+f k
theorem Pd.sum{f:Nat->Nat->Int}(h:∀i,Pd d (f i)):∀k,Pd d (λn=>aS k λi=>f i n)
 | 0=>Pd.zero (λ_=>rfl) d
 | k+1=>(Pd.sum h k).add (h k)
theorem JR(f:Nat->Int)(b:Nat):∀a:Nat,f (b+a)-f b=aS a λi=>dl f (b+i)
 | 0=>by
   show f b-f b=0
   lia
 | a+1=>by
   have:=JR f b a;show f (b+(a+1))-f b=(aS a λi=>dl f (b+i))+dl f (b+a);rw[<-this];show f (b+(a+1))-f b=f (b+a)-f b+(f (b+a+1)-f (b+a));rw[show b+(a+1)=b+a+1 by lia]
   lia
theorem Pd.lin(a:Nat):∀{d:Nat}{f:Nat->Int},Pd d f->∀b,Pd d (λn=>f (a*n+b))
 | 0,f,h,b=>λn=>by
   show f (a*n+b)=f (a*0+b);rw[h (a*n+b),h (a*0+b)]
 | d+1,f,h,b=>by
   have e:dl (λn=>f (a*n+b))=λn=>aS a λi=>(λi n=>dl f (a*n+(b+i))) i n:=by
    funext n
    show f (a*(n+1)+b)-f (a*n+b)=_;rw[show a*(n+1)+b=(a*n+b)+a by rw[oY];lia,JR f (a*n+b) a]
    congr 1
    funext i
    show dl f (a*n+b+i)=dl f (a*n+(b+i));rw[Nat.add_assoc]
   show Pd d (dl (λn=>f (a*n+b)));rw[e];exact Pd.sum (λi=>Pd.lin a (d:=d) (f:=dl f) h (b+i)) a
def Ug(f g:Nat->Int)(n:Nat):Int:=aS (n+1) λk=>f k*g (n-k)
theorem uG :∀{k:Nat},(∀i,i<k->f i=g i)->aS k f=aS k g
 | 0,_=>rfl
 | k+1,h=>by
   show aS k f+f k=aS k g+g k;rw[uG λi a=>h i (by lia),h k (by lia)]
theorem JO(f g:Nat->Int):∀k,aS k (λi=>f i-g i)=aS k f-aS k g
 | 0=>rfl
 | k+1=>by
   show aS k (λi=>f i-g i)+(f k-g k)=aS k f+f k-(aS k g+g k);rw[JO f g k]
   lia
def LW(f g:Nat->Int):dl (Ug f g)=λn=>f (n+1)*g 0+Ug f (dl g) n:=by
 funext n
 show(aS (n+1) λk=>f k*g (n+1-k))+f (n+1)*g (n+1-(n+1))-aS (n+1) (λk=>f k*g (n-k))=f (n+1)*g 0+aS (n+1) λk=>f k*dl g (n-k);have e:(aS (n+1) λk=>f k*dl g (n-k))=aS (n+1) λk=>f k*g (n+1-k)-f k*g (n-k):=uG λi a=>by
  show f i*(g (n-i+1)-g (n-i))=_;rw[ms,show n-i+1=n+1-i by lia]
 rw[e,JO,dW]
 lia
theorem Pd.Ug(c:Pd b a):∀{e:Nat}{g:Nat->Int},Pd e g->Pd (b+e+1) (Ug a g)
 | 0,g,hg=>by
   show Pd b (dl (Pb.Ug a g));rw[LW];refine Pd.add ?_ (Pd.zero (λn=>?_) b)
   .have:=(c.shift 1).smul (g 0);have e:(λn=>g 0*a (n+1))=λn=>a (n+1)*g 0:=by
     funext n
     exact fV ..
    rw[e]at this;exact this
   .have z:∀m,dl g m=0:=λm=>by
     show g (m+1)-g m=0;rw[hg (m+1),hg m]
     lia
    have:=uG (k:=n+1) (f:=λk=>a k*dl g (n-k)) (g:=λ_=>0) λi _=>by rw[z];simp
    show aS (n+1) (λk=>a k*dl g (n-k))=0;rw[this];clear this
    induction n+1 with
    | zero=>rfl
    | succ k ih=>show aS k (λ_=>0)+0=0;rw[ih];rfl
 | e+1,g,hg=>by
   show Pd (b+e+1) (dl (Pb.Ug a g));rw[LW];refine Pd.add ?_ (Pd.Ug c (e:=e) (g:=dl g) hg);have:=((c.shift 1).smul (g 0)).le (show b<=b+e+1 by lia);have e:(λn=>g 0*a (n+1))=λn=>a (n+1)*g 0:=by
    funext n
    exact fV ..
   rw[e]at this;exact this
theorem F9:∀(N:Nat){d:Nat}{f:Nat->Int},Pd d f->d<N->∀n,Tc (UJ N f) n 0=f n
 | 0,_,_,_,h,_=>absurd h (Nat.not_lt_zero _)
 | N+1,d,f,hf,_,n=>by
   have a:∀n,Tc (UJ N (dl f)) n 0=dl f n:=by
    intro n;cases d with
    | zero=>
      have z:∀m,dl f m=0:=λm=>by
       show f (m+1)-f m=0;rw[hf (m+1),hf m]
       lia
      cases N with
      | zero=>rw[z];rfl
      | succ N=>exact F9 (N+1) (Pd.zero z 0) (by lia) n
    | succ d=>exact F9 N (d:=d) (f:=dl f) hf (by lia) n
   show f 0*(ch n 0:Int)+Tc (UJ N (dl f)) n (0+1)=f n;rw[qi]
   induction n with
   | zero=>
     rw[BH];simp
   | succ n ihn=>
     rw[Gi,a n];show f 0*((1:Nat):Int)+(Tc (UJ N (dl f)) n (0+1)+(f (n+1)-f n))=f (n+1)
     lia
theorem za:∀{N:Nat}{f g:Nat->Int},(∀i,i<N->f i=g i)->UJ N f=UJ N g
 | 0,_,_,_=>rfl
 | N+1,f,g,h=>by
   show f 0::UJ N (dl f)=g 0::UJ N (dl g);rw[h 0 (by lia),za (N:=N) (f:=dl f) (g:=dl g) λi a=>by
    show f (i+1)-f i=g (i+1)-g i;rw[h i (by lia),h (i+1) (by lia)]]
def Vp(a:fc):List Int:=UJ a.length λi=>a.getD i 0
def Yd(a:fc):List Int:=(a.zip (a.drop 1)).map λp=>p.2-p.1
def DU(a:fc):(Yd a).length=a.length-1:=by
 unfold Yd;rw[ag,iU,fP]
 lia
def R3(h:a+1<xs.length):(Yd xs).getD a 0=xs.getD (a+1) 0-xs.getD a 0:=by
 unfold Yd;rw[bn,aN,az (by rw[iU,fP];lia)];simp[bn,h,show a<xs.length by lia,Nat.add_comm]
def Ol(x:Int)(r:fc):Vp (x::r)=x::Vp (Yd (x::r)):=by
 unfold Vp;rw[DU];show x::UJ r.length _=x::UJ (r.length+1-1) _;rw[Nat.add_sub_cancel]
 congr 1
 exact za λi a=>(R3 (xs:=x::r) (by simpa using a)).symm
theorem Kg:∀n k:Nat,ch n k<=2^n
 | 0,0=>aJ _
 | 0,_+1=>cf _
 | n+1,0=>by rw[qi];exact Nat.one_le_two_pow
 | n+1,k+1=>by
   have b:=Kg n k;have a:=Kg n (k+1);show ch n k+ch n (k+1)<=2^(n+1);rw[dX]
   lia
theorem JZ(f:Nat->Int):∀k,((List.range k).map f).sum=aS k f
 | 0=>rfl
 | k+1=>by
   rw[dZ,aq,iV,JZ f k];show aS k f+(f k+0)=aS k f+f k
   lia
def Td:Nat:=2^200000
def sy(h:a<=2^k)(b:k<200000):a<Td:=by
 unfold Td;exact fY h (mZ (by decide) b)
def wf(d:a.natAbs<Td)(c:b.natAbs<Td):IntMulOk a b:=by
 unfold Td at d c;exact IntMulOk.of_bits (aW (zJ d) (by decide)) (aW (zJ c) (by decide))
def RX(h:a<=100000):ch a b<Td:=sy (Kg a b) (by lia)
theorem HK:∀n k:Nat,ch n k<=(n+1)^k
 | n,0=>by rw[qi];exact aJ _
 | 0,k+1=>cf _
 | n+1,k+1=>by
   have c:=HK n k;have a:=HK n (k+1);have b:(n+1)^k<=(n+1+1)^k:=nO (by lia) k;show ch n k+ch n (k+1)<=(n+1+1)^(k+1);rw[dX]at a;rw[dX,n9];have d:(n+1)^k*(n+1)<=(n+1+1)^k*(n+1):=mY _ b
   lia
def Jt(h:a+1<=2^x)(b:x*k<200000):ch a k<Td:=sy (k:=x*k) (aW (HK a k) (by rw[Nat.pow_mul];exact nO h k)) b
def ϟ(b c:Int->Bool)(a:Int->Nat->Int):List Int->Nat->Int
 | [],_=>1
 | k::ks,n=>if b k=true then Ug (a k) (ϟ b c a ks) n else if c k=true then a k n*ϟ b c a ks 0 else a k 0*ϟ b c a ks n
def Bf(h:a c=true):ϟ a e b (c::d)=Ug (b c) (ϟ a e b d):=by
 funext n
 show(if a c=true then _ else _)=_;rw[aj h]
def AW(h:¬a b=true)(f:d b=true):ϟ a d c (b::e)=λn=>c b n*ϟ a d c e 0:=by
 funext n
 show(if a b=true then _ else _)=_;rw[ah h,aj f]
def AM(h:¬a b=true)(f:¬d b=true):ϟ a d c (b::e)=λn=>c b 0*ϟ a d c e n:=by
 funext n
 show(if a b=true then _ else _)=_;rw[ah h,ah f]
section
variable{c:Int->Bool}{g:Int->Bool}{a:Int->Nat->Int}
theorem MT{d:gn}:∀{ks:fc},(∀k∈ks,Pd (d k) (a k))->Pd ((ks.map λk=>d k+1).sum) (ϟ c g a ks)
 | [],_=>λ_=>rfl
 | k::ks,h=>by
   have j:=h k (.head _);have i:=MT (ks:=ks) λx l=>h x (.tail _ l);rw[aF,bf];by_cases f:c k=true
   .rw[Bf f];exact(Pd.Ug j i).le (by lia)
   .by_cases b:g k=true
    .rw[AW f b];have:=(j.smul (ϟ c g a ks 0)).le (show d k<=d k+1+(ks.map λk=>d k+1).sum by lia);have e:(λn=>ϟ c g a ks 0*a k n)=λn=>a k n*ϟ c g a ks 0:=by
      funext n
      exact fV ..
     rw[e]at this;exact this
    .rw[AM f b];exact(i.smul (a k 0)).le (by lia)
end
theorem JB :∀{k:Nat},(∀i,i<k->0<=a i/\a i<=b)->0<=aS k a/\aS k a<=k*b
 | 0,_=>⟨bO _,by show(0:Int)<=((0:Nat):Int)*b;simp⟩
 | k+1,h=>by
   obtain⟨f,e⟩:=JB (k:=k) λi d=>h i (by lia);obtain⟨g,c⟩:=h k (by lia);show 0<=aS k a+a k/\aS k a+a k<=((k+1:Nat):Int)*b;rw[Int.natCast_succ,eW,mz]
   lia
def zM{a b A B:Int}(c:0<=a/\a<=A)(d:0<=b/\b<=B):0<=a*b/\a*b<=A*B:=⟨jb c.1 d.1,dH c.2 d.2 d.1 (cg c.1 c.2)⟩
def Ri{f g:Nat->Int}{A B:Int}{n:Nat}(b:∀i,i<=n->0<=f i/\f i<=A)(a:∀i,i<=n->0<=g i/\g i<=B):0<=Ug f g n/\Ug f g n<=((n+1:Nat):Int)*(A*B):=JB λi c=>zM (b i (by lia)) (a (n-i) (by lia))
def nR(n:Nat):(0:Int)<2^n:=dI (by decide)
section
variable{fr:Int->Bool}{be:Int->Bool}{ws:Int->Nat->Int}
theorem xf{X x:Nat}(c:((X+1:Nat):Int)<=2^x){a:gn}:∀{ks:fc},(∀k∈ks,∀i,i<=X->0<=ws k i/\ws k i<=2^a k)->∀n,n<=X->0<=ϟ fr be ws ks n/\ϟ fr be ws ks n<=2^(ks.map λk=>x+a k).sum
 | [],_,n,_=>⟨by show(0:Int)<=1;decide,by show(1:Int)<=2^0;decide⟩
 | k::ks,h,n,hn=>by
   have e:=h k (.head _);have d:=xf c (ks:=ks) λx c=>h x (.tail _ c);rw[aF,bf,gZ,gZ];have m:=nR x;have up:∀{u:Int},0<=u/\u<=2^a k*2^(ks.map λk=>x+a k).sum->0<=u/\u<=2^x*2^a k*2^(ks.map λk=>x+a k).sum:=λ{u} hu=>by
    refine⟨hu.1,?_⟩;rw[eU];have:=(zM (a:=1) (A:=2^x) (b:=u) ⟨by decide,by lia⟩ hu).2;rw[mz]at this;exact this
   by_cases f:fr k=true
   .rw[Bf f];obtain⟨l,g⟩:=Ri (n:=n) (λi j=>e i (by lia)) (λi j=>d i (by lia));refine⟨l,cg g ?_⟩;rw[eU];refine b5 (by lia) (jb (fm (nR _)) (fm (nR _)))
   .by_cases b:be k=true
    .rw[AW f b];exact up (zM (e n hn) (d 0 (by lia)))
    .rw[AM f b];exact up (zM (e 0 (by lia)) (d n hn))
end
theorem Ia:∀{N:Nat}{f:Nat->Int}{b:Nat},(∀i,i<N->(f i).natAbs<=2^b)->∀c∈UJ N f,c.natAbs<=2^(b+N)
 | 0,_,_,_,c,hc=>by cases hc
 | N+1,f,b,h,c,hc=>by
   rcases aE.mp (show c∈f 0::UJ N (dl f)from hc)with rfl|hc
   .exact aW (h 0 (by lia)) (dq (by decide) (by lia))
   .have:=Ia (N:=N) (f:=dl f) (b:=b+1) (λi e=>by
     have d:=h i (by lia);have a:=h (i+1) (by lia);show(f (i+1)-f i).natAbs<=2^(b+1);rw[dX,Nat.mul_two];exact aW (Int.natAbs_sub_le _ _) (Nat.add_le_add a d)) c hc
    rw[show b+1+N=b+(N+1) by lia]at this;exact this
def vk(d:Nat)(W:Nat->Int):Prop:=Pd d W/\∀x n,((n+1:Nat):Int)<=2^x->0<=W n/\W n<=2^(d*(x+20*d))
def Φ(c:Nat)(g:Nat):Nat:=(g+1)*c-1
def QK(h:1<=a):Φ a b=a*b+(a-1):=by
 unfold Φ;rw[jN,jp]
 lia
def Bc(h:a<=b):(2:Int)^a<=2^b:=by
 obtain⟨k,rfl⟩:∃k,b=a+k:=⟨b-a,by lia⟩;rw[gZ];have:=bL (show(1:Int)<=2^k from nR k) (fm (nR a));rw[pI]at this;exact this
theorem r9{f g:gn}{y:Nat}:∀{ks:fc},(∀k∈ks,f k<=g k*y)->(ks.map f).sum<=(ks.map g).sum*y
 | [],_=>by simp
 | k::ks,h=>by
   have c:=h k (.head _);have b:=r9 (ks:=ks) λx a=>h x (.tail _ a);rw[aF,bf,aF,bf,jN]
   lia
theorem xw{g:gn}:∀{a:fc}{k:Int},k∈a->g k<=(a.map g).sum
 | k'::a,k,h=>by
   rw[aF,bf];rcases aE.mp h with rfl|h
   .lia
   .have:=xw (g:=g) h
    lia
def JP{W:Int->Nat->Int}{c d:gn}(h:∀k∈b,vk (d k) (W k))(m:∀k∈b,1<=c k/\c k<=1000000):vk (b.map λk=>d k+1).sum (ϟ j f (λk g=>W k (Φ (c k) g)) b):=by
 refine⟨MT λk l=>?_,λx n o=>?_⟩
 .have:=(h k l).1.lin (c k) (c k-1);have e:(λg=>W k (Φ (c k) g))=λg=>W k (c k*g+(c k-1)):=by
   funext g
   rw[QK (m k l).1]
  rw[e];exact this
 .have key:=xf (fr:=j) (be:=f) (ws:=λk g=>W k (Φ (c k) g)) (X:=n) (x:=x) o (a:=λk=>d k*(x+20+20*d k)) (ks:=b) (λk l i u=>by
   refine(h k l).2 (x+20) (Φ (c k) i) ?_;have p:=(m k l).1;have s:=(m k l).2;have e:Φ (c k) i+1=(i+1)*c k:=by
    unfold Φ;have:1<=(i+1)*c k:=eA (show 1<=i+1 by lia) p
    lia
   rw[e,jS,gZ];exact dH (by lia) (by have:(2:Int)^20=1048576:=rfl;lia) (Int.natCast_nonneg _) (fm (nR x))) n (aJ _)
  refine⟨key.1,cg key.2 ?_⟩;refine Bc (r9 λk l=>?_);have q:=xw (g:=λk=>d k+1) l;generalize (b.map λk=>d k+1).sum=D at q;have t:x+d k*(x+20+20*d k)=x+d k*x+d k*(20+20*d k):=by rw[show x+20+20*d k=x+(20+20*d k) by lia,oY];lia
  have v:(d k+1)*(x+20*D)=x+d k*x+(d k+1)*(20*D):=by rw[oY,jN];lia
  have r:d k*(20+20*d k)<=(d k+1)*(20*D):=eA (by lia) (by lia)
  lia
structure Ϭ(b:Nat)(cs:fc)(f:Nat->Int):Prop where
 ne:cs≠[]
 len:cs.length<=24
 bt:∀c∈cs,c.natAbs<=2^b
 val:∀n,Tc cs n 0=f n
def QL:∀(x:Int)(r:fc),Tc (x::r) 0 0=x:=λx r=>by
 show x*((1:Nat):Int)+Tc r 0 (0+1)=x;rw[BH];simp
def Ϭ.head(h:Ϭ c a b):∃r,a=b 0::r:=by
 obtain⟨ne,_,_,v⟩:=h;cases a with
 | nil=>exact absurd rfl ne
 | cons x r=>exact⟨r,by rw[<-v 0,QL]⟩
def Ϭ.one:Ϭ 0 [1] (ϟ a d b []):=⟨by simp,by simp,λc e=>by rw[aG.mp e];decide,λn=>by
 show 1*((ch n 0:Nat):Int)+0=1;rw[qi]
 rfl⟩
theorem Gy(a:Int):∀(b:fc)(n k:Nat),Tc (b.map λc=>a*c) n k=a*Tc b n k
 | [],_,_=>by show(0:Int)=a*0;simp
 | c::b,n,k=>by
   show a*c*(ch n k:Int)+Tc (b.map λc=>a*c) n (k+1)=a*(c*(ch n k:Int)+Tc b n (k+1));rw[Gy a b,fM,eU]
def Ϭ.Vp(k:Pd d b)(g:d<a)(h:a<=24)(j:∀i,i<a->(b i).natAbs<=2^c):Ϭ (c+a) (Vp ((List.range a).map b)) b:=by
 have e:Pb.Vp ((List.range a).map b)=UJ a b:=by
  unfold Pb.Vp;rw[ag,cN];refine za λi f=>?_;rw[bn,aN,gO f]
  rfl
 rw[e];refine⟨λz=>?_,by rw[DC];exact h,Ia j,F9 a k g⟩;have:=DC a b;rw[z]at this;simp at this
 lia
def VZ:List Int->List (List Int)
 | []=>[[]]
 | k::ks=>(k::ks)::VZ ks
theorem JS:∀a:List Int,(VZ a).reverse=(List.range (a.length+1)).map λj=>a.drop (a.length-j)
 | []=>rfl
 | k::a=>by
   show((k::a)::VZ a).reverse=_;rw[fC,JS a,dZ (n:=(k::a).length),aq,aF,cG,dW,ir]
   congr 1
   refine cB λj b=>?_;have:=cW.mp b;rw[aO,show a.length+1-j=(a.length-j)+1 by lia,oG]
def Ϭ.le(h:Ϭ b a f)(l:b<=b'):Ϭ b' a f:=⟨h.ne,h.len,λc d=>aW (h.bt c d) (dq (by decide) l),h.val⟩
def Us(d:gn)(a:fc):Nat:=(a.map λk=>d k*(25+20*d k)+29).sum
def Dr{d:gn}{ks:fc}(h:(ks.map λk=>d k+1).sum<=23):Us d ks<=15000:=by
 have:Us d ks<=(ks.map λk=>d k+1).sum*514:=r9 λk a=>by
  have:=xw (g:=λk=>d k+1) a;have b:d k*(25+20*d k)<=d k*485:=Nat.mul_le_mul_left _ (by lia);rw[jN]
  lia
 lia
def Ha(g:gn)(a:fc)(j:Nat):((a.drop j).map g).sum<=(a.map g).sum:=by
 have:=congrArg (λl=>(l.map g).sum) (de j a);simp only[aq,iV]at this
 lia
def EG{W:Int->Nat->Int}{c d:gn}{N:Nat}(r:N<=24)(h:∀k∈b,vk (d k) (W k))(n:∀k∈b,1<=c k/\c k<=1000000):∀i,i<N->0<=ϟ l f (λk g=>W k (Φ (c k) g)) b i/\ϟ l f (λk g=>W k (Φ (c k) g)) b i<=2^(b.map λk=>5+d k*(25+20*d k)).sum:=by
 intro i t;refine xf (X:=23) (x:=5) (by decide) (a:=λk=>d k*(25+20*d k)) (λk m j s=>?_) i (by lia);refine(h k m).2 25 (Φ (c k) j) ?_;have q:=(n k m).1;have o:=(n k m).2;have e:Φ (c k) j+1=(j+1)*c k:=by
  unfold Φ;have:1<=(j+1)*c k:=eA (show 1<=j+1 by lia) q
  lia
 have u:(j+1)*c k<=24*1000000:=eA (by lia) o;have p:(2:Int)^25=33554432:=rfl;rw[e,p]
 lia
def Ir(h:vk c b)(f:1<=a)(d:a<=1000000)(k:j<24):0<=b (Φ a j)/\b (Φ a j)<=2^(c*(25+20*c)):=by
 refine h.2 25 (Φ a j) ?_;have e:Φ a j+1=(j+1)*a:=by
  unfold Φ;have:1<=(j+1)*a:=eA (show 1<=j+1 by lia) f
  lia
 have i:(j+1)*a<=24*1000000:=eA (by lia) d;have g:(2:Int)^25=33554432:=rfl;rw[e,g]
 lia
def uZ{z:Int}{b:Nat}(h:0<=z/\z<=2^b):z.natAbs<=2^b:=by
 have:((2^b:Nat):Int)=(2:Int)^b:=by simp
 lia
def wU(d:gn)(k:Int)(a:fc):Us d (k::a)=d k*(25+20*d k)+29+Us d a:=by
 unfold Us;rw[aF,bf]
theorem DB(d:gn):∀a:List Int,(a.map λk=>5+d k*(25+20*d k)).sum<=Us d a
 | []=>aJ _
 | k::a=>by
   have:=DB d a;rw[wU,aF,bf]
   lia
def Mn{W:Int->Nat->Int}{c d:gn}{k:Int}{N:Nat}(j:N<=24)(h:∀x∈k::a,vk (d x) (W x))(l:∀x∈k::a,1<=c x/\c x<=1000000)(n:((k::a).map λk=>d k+1).sum<N)(o:f=(List.range N).map (ϟ e b (λk g=>W k (Φ (c k) g)) (k::a))):Ϭ (Us d (k::a)) (Vp f) (ϟ e b (λk g=>W k (Φ (c k) g)) (k::a)):=by
 subst o;refine(Ϭ.Vp (JP h l).1 n j λi m=>uZ (EG j h l i m)).le ?_;have:=DB d a;rw[wU,aF,bf]
 lia
def QD{l:Int->Bool}{k:Int->Bool}{W:Int->Nat->Int}{c d:gn}(o:vk (d a) (W a))(s:1<=c a)(m:c a<=1000000)(f:¬l a=true)(b:¬k a=true)(i:Ϭ (Us d e) h (ϟ l k (λa g=>W a (Φ (c a) g)) e)):Ϭ (Us d (a::e)) (h.map λx=>W a (Φ (c a) 0)*x) (ϟ l k (λa g=>W a (Φ (c a) g)) (a::e)):=by
 refine⟨λz=>i.ne (j4.mp z),by rw[ag];exact i.len,λx p=>?_,λn=>?_⟩
 .obtain⟨y,hy,rfl⟩:=aZ.mp p;have q:=uZ (Ir o s m (j:=0) (by decide));have r:=i.bt y hy;rw[Int.natAbs_mul,wU];refine aW (eA q r) ?_;rw[<-Nat.pow_add];exact dq (by decide) (by lia)
 .rw[Gy,i.val,AM f b]
def Na(g:∀i,i<=a->d i=c i)(f:∀i,i<=a->e i=b i):Ug d e a=Ug c b a:=uG λi h=>by rw[g i (by lia),f (a-i) (by lia)]
def GP{f:Nat->Int}{N i:Nat}(h:i<N):((List.range N).map f).getD i 0=f i:=by
 rw[bn,aN,gO h]
 rfl
theorem LN{d:gn}:∀a:List Int,a.length<=(a.map λk=>d k+1).sum
 | []=>aJ _
 | k::a=>by
   have:=LN (d:=d) a;rw[aF,bf,aO]
   lia
theorem JM :∀{l:List b}{d:List c},Paired a l d->Paired a l.reverse d.reverse
 | _,_,.nil=>.nil
 | _,_,.cons e h=>by
   rw[fC,fC];exact p6 e (JM h)
theorem ze :∀{ks:fc},(∀k∈ks,fr k=fr' k/\be k=be' k/\ws k=ws' k)->ϟ fr be ws ks=ϟ fr' be' ws' ks
 | [],_=>rfl
 | k::ks,h=>by
   obtain⟨d,b,c⟩:=h k (.head _);have e:=ze (ks:=ks) λx a=>h x (.tail _ a)
   funext n
   show(if fr k=true then Ug (ws k) (ϟ fr be ws ks) n else if be k=true then ws k n*ϟ fr be ws ks 0 else ws k 0*ϟ fr be ws ks n)=(if fr' k=true then Ug (ws' k) (ϟ fr' be' ws' ks) n else if be' k=true then ws' k n*ϟ fr' be' ws' ks 0 else ws' k 0*ϟ fr' be' ws' ks n);rw[d,b,c,e]
def wyF(m:Int)(b:ix)(r:Int)(a:fz)(e d:Int->Bool)(c:gn):Nat->Int->Nat->Int
 | 0,_=>λ_=>1
 | f+1,v=>ϟ e d (λk g=>wyF m b r a e d c f k (Φ (c k) g)) (kd m b r a v)
def wy(m:Int)(d:ix)(r:Int)(a:fz)(b:gn)(f e:Int->Bool)(c:gn)(v:Int):Nat->Int:=wyF m d r a f e c (m.toNat-b v) v
def wC(g:Good d b)(R:ζ d b i a h)(m:0<=j)(n:j<d):wy d b i a h fr be c j=ϟ fr be (λk g=>wy d b i a h fr be c k (Φ (c k) g)) (kd d b i a j):=by
 unfold wy;cases e:d.toNat-h j with
 | zero=>
   have:kd d b i a j=[]:=by
    cases l:kd d b i a j with
    | nil=>rfl
    | cons k ks=>
      have:=(mL g R m n (k:=k) (by rw[l];exact .head _)).2.1
      lia
   rw[this]
   rfl
 | succ f=>
   show ϟ fr be (λk g=>wyF d b i a fr be c f k (Φ (c k) g)) (kd d b i a j)=_;refine ze λk l=>⟨rfl,rfl,?_⟩;have:=(mL g R m n l).2.1;rw[show d.toNat-h k=f by lia]
def Tz(m:Int)(c:ix)(r:Int)(a:fz)(b:gn)(v:Int):Nat:=(eX m c r a b v).length-1
def rF(g:Good d b)(R:ζ d b f a c)(i:0<=h)(j:h<d):((kd d b f a h).map λk=>Tz d b f a c k+1).sum=Tz d b f a c h:=by
 have e:=congrArg List.length (lY g R i j);rw[aO,List.length_flatMap]at e;unfold Tz;rw[e,Nat.add_sub_cancel];show _=((kd d b f a h).map λk=>(eX d b f a c k).length).sum;refine congrArg List.sum (cB λk l=>?_);obtain⟨⟨m,n⟩,_⟩:=(mL g R i j l).1;have:=congrArg List.length (lY g R m n);rw[aO]at this
 lia
theorem Qa(g:Good b c)(R:ζ b c e d a)(l:∀v,0<=v->v<b->v≠e->1<=f v/\f v<=1000000):∀(n:Nat){v:Int},0<=v->v<b->b.toNat-a v<=n->vk (Tz b c e d a v) (wy b c e d a i h f v)
 | n,v,h0,h1,hn=>by
   rw[wC g R h0 h1,<-rF g R h0 h1];refine JP (λk j=>?_) λk j=>?_
   .obtain⟨⟨k0,k1⟩,_⟩:=(mL g R h0 h1 j).1;have:=(mL g R h0 h1 j).2.1;cases n with
    | zero=>lia
    | succ n=>exact Qa g R l n k0 k1 (by lia)
   .obtain⟨⟨k0,k1⟩,kr,_⟩:=(mL g R h0 h1 j).1;exact l k k0 k1 kr
theorem D4:∀{a b:fc},b∈VZ a->∀x∈b,x∈a
 | [],b,h,x,hx=>by
   rw[aG.mp h]at hx;exact hx
 | k::a,b,h,x,hx=>by
   rcases aE.mp (show b∈(k::a)::VZ a from h)with rfl|h
   .exact hx
   .exact .tail _ (D4 h x hx)
theorem G2 :∀{l:List i}{j:List g},(∀a b,b∈j->c a b->d a b)->Paired c l j->Paired d l j
 | _,_,_,.nil=>.nil
 | _,_,f,.cons e h=>.cons (f _ _ (.head _) e) (G2 (λa b k=>f a b (.tail _ k)) h)
def HX(a:fc):∃r,VZ a=a::r:=by
 cases a with
 | nil=>exact⟨[],rfl⟩
 | cons k a=>exact⟨VZ a,rfl⟩
def C2(g:Good a d)(R:ζ a d f e b)(h:0<=c)(l:c<a):(Tz a d f e b c:Int)<a:=by
 obtain⟨i,j⟩:=vW g R (a.toNat-1-b c) c h l;have:=iL (m:=a) (by lia) i λx k=>(j x k).1;have:=g.m1;unfold Tz eX
 lia
def Sg(g:Good d f)(R:ζ d f e a j)(O:Order d e a b)(l:(e::b).reverse[i]?=some h)(o:0<=h)(p:h<d):∀k∈kd d f e a h,k∈(e::b).reverse.take i:=by
 intro k n;have w:=(dg g R o p).mp n;rw[fC]at l ⊢;by_cases c:i<b.length
 .rw[eJ (by rw[aQ];exact c)]at l;obtain⟨_,_,_,_,m⟩:=O.cut R l;have:=m k w.1.1 w.1.2 w.2.1 w.2.2;rw[List.take_append_of_le_length (by rw[aQ];lia),List.take_reverse,dP];exact this
 .rw[List.take_append,bZ (by rw[aQ];lia)];exact bJ _ (dP.mpr ((O.all k w.1.1 w.1.2).resolve_left w.2.1))
theorem Ni :∀{k:Nat},(∀i,i<k->0<=f i)->0<=aS k f
 | 0,_=>bO _
 | k+1,h=>by
   have c:=Ni (k:=k) λi a=>h i (by lia);have b:=h k (by lia);show 0<=aS k f+f k
   lia
def XB(a k:Nat):Int:=if k%2=0 then(ch (a+k) k:Int)else -(ch (a+k) k:Int)
def Zc:Int->Nat->Int
 | .ofNat n,k=>(ch n k:Int)
 | .negSucc a,k=>XB a k
def nwN:List Int->Nat->Nat->Int
 | [],_,_=>0
 | d::r,a,k=>d*XB a k+nwN r a (k+1)
def Zd(b:fc)(n:Int)(k:Nat):Int:=match n with
 | .ofNat n=>Tc b n k
 | .negSucc a=>nwN b a k
def Ec(n:Int)(k:Nat):Zd [] n k=0:=by cases n<;>rfl
def A0(d:Int)(r:fc)(n:Int)(k:Nat):Zd (d::r) n k=d*Zc n k+Zd r n (k+1):=by cases n<;>rfl
def NU(n:Int):Zc n 0=1:=by
 cases n with
 | ofNat n=>show((ch n 0:Nat):Int)=1;rw[qi];rfl
 | negSucc a=>show XB a 0=1;unfold XB;rw[aj rfl,qi];rfl
def Pt(a k:Nat):XB a (k+1)=-(if k%2=0 then(ch (a+(k+1)) (k+1):Int)else -(ch (a+(k+1)) (k+1):Int)):=by
 unfold XB;by_cases c:k%2=0
 .rw[ah (by lia),aj c]
 .rw[aj (by lia),ah c,Int.neg_neg]
def NV(n:Int)(k:Nat):Zc n (k+1)*((k:Int)+1)=Zc n k*(n-(k:Int)):=by
 cases n with
 | ofNat n=>exact vZ n k
 | negSucc a=>
   show XB a (k+1)*((k:Int)+1)=XB a k*(Int.negSucc a-(k:Int));have h:=vZ (a+k) k;have e:ch (a+(k+1)) (k+1)=ch (a+k) k+ch (a+k) (k+1):=rfl;have b:(ch (a+(k+1)) (k+1):Int)*((k:Int)+1)=(ch (a+k) k:Int)*((a:Int)+(k:Int)+1):=by
    rw[e,eO,eW,h,<-fM]
    congr 1
    rw[eO]
    lia
   have c:Int.negSucc a-(k:Int)=-((a:Int)+(k:Int)+1):=by
    rw[Int.negSucc_eq]
    lia
   rw[Pt,c,Int.mul_neg,j9];unfold XB
   congr 1
   split
   .exact b
   .rw[j9,j9,b]
def PL(r:fc)(d:Int)(n:Int)(k:Nat):Zd (r++[d]) n k=Zd r n k+d*Zc n (k+r.length):=by
 induction r generalizing k with
 | nil=>
   rw[jJ,A0,Ec,Ec,dB,Nat.add_zero]
   lia
 | cons x r ih=>
   rw[List.cons_append,A0,A0,ih (k+1),aO,show k+1+r.length=k+(r.length+1) by lia]
   lia
def rV{a b:Int}(c:1<=a)(d:1<=b):1<=a*b:=dH c d (by decide) (by lia)
section
variable{b:Int->Bool}{c:Int->Bool}{a:Int->Nat->Int}
theorem Kb:∀{ks:fc},(∀k∈ks,∀n,1<=a k n)->∀n,1<=ϟ b c a ks n
 | [],_,_=>bO _
 | k::ks,h,n=>by
   have e:=h k (.head _);have d:=Kb (ks:=ks) λx g=>h x (.tail _ g);show 1<=if b k=true then _ else if c k=true then _ else _;split
   .show 1<=aS n _+a k n*ϟ b c a ks (n-n);have:=Ni (k:=n) (f:=λi=>a k i*ϟ b c a ks (n-i)) λi _=>cg (by decide) (rV (e i) (d (n-i)));have:=rV (e n) (d (n-n))
    lia
   .split
    .exact rV (e _) (d _)
    .exact rV (e _) (d _)
end
theorem Nv(g:Good b c)(R:ζ b c f d a):∀(n:Nat){v:Int},0<=v->v<b->b.toNat-a v<=n->∀h,1<=wy b c f d a l j m v h
 | 0,v,h0,h1,e=>by have:=lV R h0 h1;lia
 | n+1,v,h0,h1,e=>by
   rw[wC g R h0 h1];refine Kb λk q i=>?_;obtain⟨o,s,r⟩:=(dg g R h0 h1).mp q;have p:=R.pos o.1 o.2 s;rw[r]at p;exact Nv g R n o.1 o.2 (by lia) _
def Q8(g:Good e c)(R:ζ e c f a d)(O:Order e f a h)(i:0<=b)(j:b<e)(k:b≠f):ώ e c f a d b*tup c a b<=ώ e c f a d (a b):=by
 have p:=(R.up b i j k).1;have:=(Jq g R O).std b ((O.all b i j).resolve_left k);rw[kK i j,kK p.1 p.2]at this;exact this
def Qz{c:gn}(g:Good f b)(R:ζ f b h a d)(O:Order f h a j){k:Int}(l:0<=k)(n:k<f)(m:k≠h)(o:(c k:Int)=tup b a k)(i:Nat):ώ f b h a d k*((Φ (c k) i:Nat)+1)<=ώ f b h a d (a k)*((i:Int)+1):=by
 have w:=Q8 g R O l n m;have t:=(nN g R l n m).1;have e:((Φ (c k) i:Nat):Int)+1=tup b a k*((i:Int)+1):=by
  unfold Φ;have:1<=(i+1)*c k:=eA (show 1<=i+1 by lia) (show 1<=c k by lia);rw[Int.natCast_sub this,jS,o,fV];simp
 rw[e,<-eU];exact b5 w (by lia)
def Lc{w a b:Int}(h:1<=w)(c:0<=a)(e:w*a<=b):a<=b:=cg (by have:=b5 h c;lia) e
def Q6{fr:Int->Bool}{be:Int->Bool}{m:Int}{r:Int}{e:ix}{b:fz}{d:gn}{c:gn}{u:fc}(g:Good m e)(R:ζ m e r b d)(O:Order m r b u)(y:∀k,0<=k->k<m->k≠r->(c k:Int)=tup e b k){x:Nat}{v:Int}(o:0<=v)(q:v<m)(w:∀k∈kd m e r b v,∀h:Nat,ώ m e r b d k*((h:Int)+1)<=2^x->0<=wy m e r b d fr be c k h/\wy m e r b d fr be c k h<=2^(x*Tz m e r b d k)){ks:fc}(n:∀k∈ks,k∈kd m e r b v){h:Nat}(p:ώ m e r b d v*((h:Int)+1)<=2^x):ϟ fr be (λk g=>wy m e r b d fr be c k (Φ (c k) g)) ks h<=2^(x*(ks.map λk=>Tz m e r b d k+1).sum):=by
 have s:=(kJ g R o q).1;have:=(xf (fr:=fr) (be:=be) (ws:=λk g=>wy m e r b d fr be c k (Φ (c k) g)) (X:=h) (x:=x) (by rw[eO];exact Lc s (by lia) p) (a:=λk=>x*Tz m e r b d k) (ks:=ks) (λk j i z=>by
  obtain⟨f,l,t⟩:=(dg g R o q).mp (n k j);refine w k (n k j) _ (cg (Qz g R O f.1 f.2 l (y k f.1 f.2 l) i) ?_);rw[t];exact cg (bL (by lia) (by lia)) p) h (aJ _)).2
 refine cg this (Bc ?_);rw[jp];exact r9 λk _=>by rw[jN,jp];lia
theorem JU(g:Good f d)(R:ζ f d j a b)(O:Order f j a l)(p:∀k,0<=k->k<f->k≠j->(c k:Int)=tup d a k) :∀(n:Nat){v:Int},0<=v->v<f->f.toNat-b v<=n->∀h:Nat,ώ f d j a b v*((h:Int)+1)<=2^x->0<=wy f d j a b fr be c v h/\wy f d j a b fr be c v h<=2^(x*Tz f d j a b v)
 | 0,v,h0,h1,e=>by have:=lV R h0 h1;lia
 | n+1,v,h0,h1,e=>λh s=>by
   refine⟨cg (by decide) (Nv g R _ h0 h1 (aJ _) h),?_⟩;rw[wC g R h0 h1,<-rF g R h0 h1];refine Q6 g R O p h0 h1 (λk o i q=>?_) (λk o=>o) s;obtain⟨m,u,t⟩:=(dg g R h0 h1).mp o;have r:=R.pos m.1 m.2 u;rw[t]at r;exact JU g R O p n m.1 m.2 (by lia) i q
def V0{l:hH}(h:l.Nodup)(i j:Nat){a b:Addr}(d:l[i]?=some a:=by rfl)(e:l[j]?=some b:=by rfl)(c:i≠j:=by decide):a≠b:=R7 h i j d e c
def γ{X:Cx}{x:Str}{a:Pos}(i:Nat)(n:Ue X.env.scope x:=by exact .of (by kernel_rfl))(b:X.N[i]?=some x:=by rfl):PE X (.Name x a) (x6 i):=pvl i n b
def Ϩ{X:Cx}{x:Str}{a:Pos}(i:Nat)(n:VX X.env.scope x:=by exact .of (by kernel_rfl))(b:X.N[i]?=some x:=by rfl):PE X (.Name x a) (x6 i):=pvc i n b
def ϊ{X:Cx}{x:Str}{a:Pos}(i:Nat)(d:X.N.Nodup:=by exact bB (by kernel_rfl))(c:X.N[i]?=some x:=by rfl)(b:X.env.scope.names.lookup x=some .local:=by kernel_rfl):PG X (.Name x a) (wR i):=d6 d c (.inl b) (.inr b)
def Κ{X:Cx}{x:Str}{b:Pos}{a:Pos}{e:Expr}{d:TE}(i:Nat)(f:PE X e d)(j:X.N.Nodup:=by exact bB (by kernel_rfl))(g:X.N[i]?=some x:=by rfl)(c:X.env.scope.names.lookup x=some .local:=by kernel_rfl)(h:swapsWith e (some (.Name x a)) b.line X.env=pure false:=by rfl):PS X (.Assign [.Name x a] e b) (DX d (wR i)):=sv j g (.inl c) f h (.inr c)
def pgl{X:Cx}{x:Str}{a:Pos}{C:Addr}(d:X.mg x=some (.ref C))(c:X.env.scope.names.lookup x=some .globalImplicit:=by kernel_rfl)(b:(x==("__debug__":Str))=false:=by kernel_rfl):PE X (.Name x a) (tC (.ref C)):=DR c d rfl b
def pcq{X:Cx}{x:Str}{p:Pos}{c:Pos}{e:Expr}{a:List Expr}{t:TA}{g:Th}{k:Nat}{j:Nat}{f:Addr}{i:FuncData}{h:hU}{d:Sp}{st:Stmt}(D:Df X.K X.mg x st h f i)(F:ϋ X.prog X.w X.K X.mg X.base g k f i h d)(u:Ρ j X.A)(q:bI g)(r:PA X (e::a) t)(o:k<=j:=by decide)(s:X.env.scope.names.lookup x=some .globalImplicit:=by kernel_rfl)(hdb:(x==("__debug__":Str))=false:=by kernel_rfl)(l:starEach (e::a) X.env=(false,eval e X.env)::starEach a X.env:=by rfl)(n:(backTo c (starEach a X.env)).any (·.1)=false:=by rfl):PE X (.Call (.Name x p) (e::a) [] c) (sd d [] E0 t):=gD F (u.mono o) s D.m D.F.kp D.b .nil (d7 q) r hdb l n
def pcx{X:Cx}{x:Str}{p:Pos}{c:Pos}{e:Expr}{a:List Expr}{t:TA}{h:Th}{k:Nat}{j:Nat}{f:Addr}{l:FuncData}{i:hU}{g:Sp}{st:Stmt}{E:XK}(D:Df X.K X.mg x st i f l)(F:ϋ X.prog X.w X.K X.mg X.base h k f l i g)(v:Ρ j X.A)(s:pM h X E)(r:PA X (e::a) t)(q:k<=j:=by decide)(u:X.env.scope.names.lookup x=some .globalImplicit:=by kernel_rfl)(d:(x==("__debug__":Str))=false:=by kernel_rfl)(n:starEach (e::a) X.env=(false,eval e X.env)::starEach a X.env:=by rfl)(o:(backTo c (starEach a X.env)).any (·.1)=false:=by rfl):PE X (.Call (.Name x p) (e::a) [] c) (sd g [] E t):=gD F (v.mono q) u D.m D.F.kp D.b .nil s r d n o
def pxc{X:Cx}{x:Str}{p:Pos}{c:Pos}{e:Expr}{a:List Expr}{t:TA}{h:Th}{k:Nat}{j:Nat}{f:Addr}{l:FuncData}{i:hU}{g:Sp}{st:Stmt}(D:Df X.K X.mg x st i f l)(F:ϋ X.prog X.w X.K X.mg X.base h k f l i g)(u:Ρ j X.A)(r:PA X.Xh (e::a) t)(q:k<=j:=by decide)(s:X.env.scope.names.lookup x=some .globalImplicit:=by kernel_rfl)(d:(x==("__debug__":Str))=false:=by kernel_rfl)(n:starEach (e::a) X.env=(false,eval e X.env)::starEach a X.env:=by rfl)(o:(backTo c (starEach a X.env)).any (·.1)=false:=by rfl):PEx h X (.Call (.Name x p) (e::a) [] c) (λE=>sd g [] E t):=Pq F (u.mono q) s D.m D.F.kp D.b .nil r d n o
section
variable{x:Str}{k j:Nat}{f:Addr}{fd:FuncData}{a:hU}{b:Sp}{c:Stmt}
structure Cb(P:Program)(w:World)(K:hB)(mg:hP)(base:Heap)(x:Str)(c:Stmt)(a:hU)(k:Nat)(b:Sp) where
 f:Addr
 fd:FuncData
 D:Df K mg x c a f fd
 G:ϋ P w K mg base (τ P w) k f fd a b
end
def cb(D:Df g c k h b f d)(G:ϋ e j g c a (τ e j) l f d b i):Cb e j g c a k h b l i:=⟨f,d,D,G⟩
def Θ{X:Cx}{x:Str}{p:Pos}{b:Pos}{e:Expr}{a:List Expr}{t:TA}{k:Nat}{j:Nat}{l:hU}{d:Sp}{st:Stmt}(c:Cb X.prog X.w X.K X.mg X.base x st l k d)(n:Ρ j X.A)(q:bI (τ X.prog X.w))(i:PA X (e::a) t)(h:k<=j:=by decide)(m:X.env.scope.names.lookup x=some .globalImplicit:=by kernel_rfl)(hdb:(x==("__debug__":Str))=false:=by kernel_rfl)(f:starEach (e::a) X.env=(false,eval e X.env)::starEach a X.env:=by rfl)(g:(backTo b (starEach a X.env)).any (·.1)=false:=by rfl):PE X (.Call (.Name x p) (e::a) [] b) (sd d [] E0 t):=pcq c.D c.G n q i h m hdb f g
def Ξ{X:Cx}{x:Str}{p:Pos}{b:Pos}{e:Expr}{a:List Expr}{t:TA}{k:Nat}{j:Nat}{m:hU}{d:Sp}{st:Stmt}{E:XK}(c:Cb X.prog X.w X.K X.mg X.base x st m k d)(o:Ρ j X.A)(l:pM (τ X.prog X.w) X E)(i:PA X (e::a) t)(h:k<=j:=by decide)(n:X.env.scope.names.lookup x=some .globalImplicit:=by kernel_rfl)(hdb:(x==("__debug__":Str))=false:=by kernel_rfl)(f:starEach (e::a) X.env=(false,eval e X.env)::starEach a X.env:=by rfl)(g:(backTo b (starEach a X.env)).any (·.1)=false:=by rfl):PE X (.Call (.Name x p) (e::a) [] b) (sd d [] E t):=pcx c.D c.G o l i h n hdb f g
def pyb{X:Cx}{x:Str}{p:Pos}{b:Pos}{e:Expr}{a:List Expr}{t:TA}{k:Nat}{j:Nat}{l:hU}{d:Sp}{st:Stmt}(c:Cb X.prog X.w X.K X.mg X.base x st l k d)(n:Ρ j X.A)(i:PA X.Xh (e::a) t)(h:k<=j:=by decide)(m:X.env.scope.names.lookup x=some .globalImplicit:=by kernel_rfl)(hdb:(x==("__debug__":Str))=false:=by kernel_rfl)(f:starEach (e::a) X.env=(false,eval e X.env)::starEach a X.env:=by rfl)(g:(backTo b (starEach a X.env)).any (·.1)=false:=by rfl):PEx (τ X.prog X.w) X (.Call (.Name x p) (e::a) [] b) (λE=>sd d [] E t):=pxc c.D c.G n i h m hdb f g
def TB{X:Cx}{x:Str}{p:Pos}{a:Pos}{e:Expr}{b:List Expr}{t:TA}{id:String}{r:List V->Hp->VK->Prop}(j:lh X (.builtin id) r)(i:X.mg x=none)(k:PA X (e::b) t)(g:bootBuiltins x=some (.builtin id):=by kernel_rfl)(h:X.env.scope.names.lookup x=some .globalImplicit:=by kernel_rfl)(hn:decide (x="__name__")=false:=by kernel_rfl)(c:(x==("__debug__":Str))=false:=by kernel_rfl)(d:starEach (e::b) X.env=(false,eval e X.env)::starEach b X.env:=by rfl)(f:(backTo a (starEach b X.env)).any (·.1)=false:=by rfl):PE X (.Call (.Name x p) (e::b) [] a) (ZE r t):=PN j h i g k (of_decide_eq_false hn) c d f
def iO{X:Cx}{x:Str}{p:Pos}{a:Pos}{e:Expr}{b:List Expr}{t:TA}{T:String}{r:List V->Hp->VK->Prop}(j:lh X (.type T) r)(i:X.mg x=none)(k:PA X (e::b) t)(g:bootBuiltins x=some (.type T):=by kernel_rfl)(h:X.env.scope.names.lookup x=some .globalImplicit:=by kernel_rfl)(d:decide (x="__name__")=false:=by kernel_rfl)(hdb:(x==("__debug__":Str))=false:=by kernel_rfl)(c:starEach (e::b) X.env=(false,eval e X.env)::starEach b X.env:=by rfl)(f:(backTo a (starEach b X.env)).any (·.1)=false:=by rfl):PE X (.Call (.Name x p) (e::b) [] a) (ZE r t):=yo j h i g k (of_decide_eq_false d) hdb c f
inductive E3{A B C:Type}(p:A->B->C->Prop):Prop
 | mk (a b c:_) (h:p a b c):E3 p
inductive E4{A B C D:Type}(p:A->B->C->D->Prop):Prop
 | mk (a b c d:_) (h:p a b c d):E4 p
inductive E5{A B C D E:Type}(p:A->B->C->D->E->Prop):Prop
 | mk (a b c d e:_) (h:p a b c d e):E5 p
inductive E6{A B C D E F:Type}(p:A->B->C->D->E->F->Prop):Prop
 | mk (a b c d e f:_) (h:p a b c d e f):E6 p
inductive E7{A B C D E F G:Type}(p:A->B->C->D->E->F->G->Prop):Prop
 | mk (a b c d e f g:_) (h:p a b c d e f g):E7 p
inductive E8{A B C D E F G H:Type}(p:A->B->C->D->E->F->G->H->Prop):Prop
 | mk (a b c d e f g i:_) (h:p a b c d e f g i):E8 p
inductive E9{A B C D E F G H I:Type}(p:A->B->C->D->E->F->G->H->I->Prop):Prop
 | mk (a b c d e f g i j:_) (h:p a b c d e f g i j):E9 p
inductive E10{A B C D E F G H I J:Type}(p:A->B->C->D->E->F->G->H->I->J->Prop):Prop
 | mk (a b c d e f g i j k:_) (h:p a b c d e f g i j k):E10 p
inductive WZ{A B C D E F G H I J K:Type}(p:A->B->C->D->E->F->G->H->I->J->K->Prop):Prop
 | mk (a b c d e f g i j k l:_) (h:p a b c d e f g i j k l):WZ p
inductive XC{A B C D E F G H I J K L:Type}(p:A->B->C->D->E->F->G->H->I->J->K->L->Prop):Prop
 | mk (a b c d e f g i j k l m:_) (h:p a b c d e f g i j k l m):XC p
inductive E13{A B C D E F G H I J K L M:Type}(p:A->B->C->D->E->F->G->H->I->J->K->L->M->Prop):Prop
 | mk (a b c d e f g i j k l m n:_) (h:p a b c d e f g i j k l m n):E13 p
inductive E14{A B C D E F G H I J K L M N:Type}(p:A->B->C->D->E->F->G->H->I->J->K->L->M->N->Prop):Prop
 | mk (a b c d e f g i j k l m n o:_) (h:p a b c d e f g i j k l m n o):E14 p
inductive E16{A B C D E F G H I J K L M N O P:Type}(p:A->B->C->D->E->F->G->H->I->J->K->L->M->N->O->P->Prop):Prop
 | mk (a b c d e f g i j k l m n o q r:_) (h:p a b c d e f g i j k l m n o q r):E16 p
inductive E17{A B C D E F G H I J K L M N O P Q:Type}(p:A->B->C->D->E->F->G->H->I->J->K->L->M->N->O->P->Q->Prop):Prop
 | mk (a b c d e f g i j k l m n o q r s:_) (h:p a b c d e f g i j k l m n o q r s):E17 p
inductive E18{A B C D E F G H I J K L M N O P Q R:Type}(p:A->B->C->D->E->F->G->H->I->J->K->L->M->N->O->P->Q->R->Prop):Prop
 | mk (a b c d e f g i j k l m n o q r s t:_) (h:p a b c d e f g i j k l m n o q r s t):E18 p
inductive E19{A B C D E F G H I J K L M N O P Q R S:Type}(p:A->B->C->D->E->F->G->H->I->J->K->L->M->N->O->P->Q->R->S->Prop):Prop
 | mk (a b c d e f g i j k l m n o q r s t u:_) (h:p a b c d e f g i j k l m n o q r s t u):E19 p
inductive E23{A B C D E F G H I J K L M N O P Q R S T U V W:Type}(p:A->B->C->D->E->F->G->H->I->J->K->L->M->N->O->P->Q->R->S->T->U->V->W->Prop):Prop
 | mk (a b c d e f g i j k l m n o q r s t u v w x y:_) (h:p a b c d e f g i j k l m n o q r s t u v w x y):E23 p
def clK(d:hU)(b:Nat)(c:List Nat)(N:hU)(a e:Scope):Bool:=(a.names.all λy=>decide (y.2≠.cell))&&decide (a.kind=.function)&&(a.names.all λy=>decide (y.2=.local->a.names.lookup y.1=some .local))&&decide (d.length=b+c.length)&&(a.names.all λy=>decide (y.2=.free->e.names.lookup y.1=some .cell))&&decide (e.kind=.function)&&(List.range c.length).all λi=>match d[b+i]?,c[i]? with
 | some x,some j=>decide (N[j]?=some x)&&decide (a.names.lookup x=some .free)
 | _,_=>false
def UT{X:Cx}(e:hU)(b:Nat)(d:List Nat)(h:clK e b d X.N a X.env.scope=true:=by kernel_rfl)(l:∀x,X.env.scope.names.lookup x=some .cell->∃c,X.env.cells.lookup x=some c:=by exact λ_ h=>Bu h):ϩ X e b d a (uu X.env.cells a.names []):=by
 unfold clK at h;simp only[bG,b4,eG,cW]at h;obtain⟨⟨⟨⟨⟨⟨p,k⟩,m⟩,n⟩,r⟩,f⟩,o⟩:=h;refine QN b d p k m n r f l λi g=>?_;have q:=o i g;split at q
 .rename_i x j e1 e2
  simp only[bG,b4]at q;exact⟨x,j,e1,e2,q.1,q.2⟩
 .cases q
abbrev Ok(P:Program)(w:World)(K:hB)(d:hP)(a:Heap)(x:Str)(st:Stmt)(b:hU)(k:Nat)(e:Sp):Prop:=∀(f:Addr)(c:FuncData),Df K d x st b f c->ϋ P w K d a (τ P w) k f c b e
def ψ(j:Xk a g)(k:PE a f d)(i:PE a b c)(h:Ju b:=by exact λ_ _=>rfl):PE a (.Subscript f b e) (Xj g d c):=jT j k i h
def Ν{X:Cx}{a:Expr}{b:Expr}{f:TE}{e:TE}{d:Pos}{c:CmpOp}{r:R2}(k:bY X (compareOp c) r)(j:PE X a f)(i:PE X b e)(h:c≠.In:=by decide)(g:c≠.NotIn:=by decide):PT X (.Compare a [c] [b] d) (C9 (Xj r f e)):=tG k j i (kP _ h g)
def TU(l:PE a e g)(n:PE a c f)(k:attributeBase e "append" a.env (eval e a.env)=eval e a.env:=by rfl)(i:((backTo b (starEach [c] a.env)).all (λx=>!x.1)&&(backToKw b (keywordEach [] a.env)).all (λx=>x.1.isSome)&&decide ([c].length+([]:List Keyword).length+(if([]:List Keyword).isEmpty then 0 else 1)<30))=true:=by rfl)(j:(d.endLine==b.line)=true:=by rfl)(h:starEach [c] a.env=(false,eval c a.env)::starEach [] a.env:=by rfl)(m:(backTo b (starEach [] a.env)).any (·.1)=false:=by rfl):PE a (.Call (.Attribute e "append" d) [c] [] b) (tBM a.K "list" rW g (F1 f We)):=sZ dv PySem.F.slot_list_append PySem.F.type_list_append yc l (aa n ap h) k i j h m
end Pb
namespace L2
open PySem PySem.Spec PyProof.Rows PySem.W
section
section
variable{n:Nat}{d:Nat->Nat->Bool}
structure Lin(n:Nat)(d:Nat->Nat->Bool):Prop where
 tot:∀a b,a<n->b<n->a≠b->d a b=false->d b a=true
 tr:∀a b c,a<n->b<n->c<n->d a b=true->d b c=true->d a c=true
end
variable(L:Lin n lt)(e:0<n)
include L e
end
end L2
namespace Pb
open L2 PySem PySem.W NumText
theorem Co{f:gn}:∀{l:fc}{k:Int},k∈l->f k+1<=(l.map λk=>f k+1).sum
 | a::l,k,h=>by
   rw[aF,bf];rcases aE.mp h with rfl|h
   .lia
   .have:=Co (f:=f) h
    lia
def QE(g:Good d b)(R:ζ d b h a c){T:Nat}(q:1<=T)(r:∀v,0<=v->v<d->v≠h->tup b a v<=T)(n:Nat):∀v,0<=v->v<d->d.toNat-c v=n->ώ d b h a c v<=(T^Tz d b h a c v:Nat):=by
 induction n with
 | zero=>
   intro v j l e;have:=lV R j l
   lia
 | succ n ih=>
   intro v j l e;by_cases p:kd d b h a v=[]
   .have o:ώ d b h a c v=1:=by
     show fo mx d b h a c _ _ v=1;rw[wB g R j l,show cF d b (front h a v) v=[]from p]
     rfl
    rw[o];have:1<=T^Tz d b h a c v:=Nat.pow_pos q
    lia
   .obtain⟨k,hk,ek⟩:=EA g R j l p;obtain⟨i,m,s⟩:=(dg g R j l).mp hk;have u:=R.pos i.1 i.2 m;rw[s]at u;have w:=rF g R j l;have le:=Co (f:=Tz d b h a c) (show k∈kd d b h a v from hk);have t:=ih k i.1 i.2 (by lia);have o:=(kJ g R i.1 i.2).1;rw[<-ek];refine cg (dH t (r k i.1 i.2 m) (by have:=(nN g R i.1 i.2 m).1;lia) (by lia)) ?_;have:T^Tz d b h a c k*T<=T^Tz d b h a c v:=by
     rw[<-dX];exact dq q (by lia)
    rw[<-jS]
    lia
end Pb
namespace L2
open PySem
def DK(w:World)(K:hB)(a:Addr)(c:List (Key×V)):Prop:=(a==sysModules)=false/\∃(o:Obj)(b:List (Key×Value)),K.lookup a=some o/\KV c b/\∀P:Program,o.IsDictOf (iM P w) b
def Si(l:List (Str×Tok×Int×Tok))(j:(a==sysModules)=false)(i:(l.map (·.1)).Nodup)(h:f.lookup a=some ⟨.type "dict",none,.dict ⟨d⟩ g,#[]⟩)(e:d=l.map λp=>DictEntry.mk (On c (.inr p.1)) (.str p.1 p.2.1) (.int p.2.2.1 p.2.2.2)):DK c f a (l.map λp=>((.inr p.1:Key),V.int p.2.2.1)):=by
 refine⟨j,_,l.map λp=>((.inr p.1:Key),Value.int p.2.2.1 p.2.2.2),h,?_,λP=>⟨_,_,⟨rfl,rfl,rfl⟩,rfl,?_,?_,?_⟩⟩
 .clear i e
  induction l with
  | nil=>exact .nil
  | cons p l ih=>exact .cons ⟨rfl,⟨_,rfl⟩⟩ ih
 .intro x hx;rw[e]at hx;obtain⟨p,k,rfl⟩:=aZ.mp (show x∈l.map _ from oH.mpr hx);exact⟨.inr p.1,vB P c _ _,rfl⟩
 .rw[e];clear i e
  induction l with
  | nil=>exact .nil
  | cons p l ih=>exact .cons (vB P c _ _) rfl ih
 .rw[jo];rw[show((λx:Key×Value=>x.1) ∘ λp:Str×Tok×Int×Tok=>((.inr p.1:Key),Value.int p.2.2.1 p.2.2.2))=(λx:Str=>(.inr x:Key)) ∘ (λp:Str×Tok×Int×Tok=>p.1)from rfl,<-jo];exact i.map _ λa b ne e=>ne (by injection e)
def DK.of{X:Cx}{a:Addr}{e:List (Key×V)}{b:hE}{f:St}{H:Hp}{s:Shared}(d:DK X.w X.K a e)(I:Inv X b f H s):(a==sysModules)=false/\∃c,KV e c/\s.heap.DictOf (iM X.prog X.w) a c:=by
 obtain⟨g,o,c,j,h,i⟩:=d;exact⟨g,c,h,Heap.dictOf_iff.mpr ⟨o,I.oK _ _ j,i X.prog⟩⟩
def Su(a:Addr)(b:List (Key×V)):R2:=λx y H Q=>∃z,x=.str z/\y=.ref a/\Q (.bl (!(oh b (.inr z)).isSome)) H
def Q9(w:World)(K:hB)(j:b.w=w)(l:b.K=K)(d:DK w K c a):bY b (compareOp .NotIn) (Su c a):=by
 subst j l;intro f s o H x y v u Q I g i h;obtain⟨z,rfl,rfl,q⟩:=h;cases i;obtain⟨n,p,e,m⟩:=d.of I;refine wpAny_notIn_of (zt (k:=.inr z) g) n m.mapOf ?_;rw[<-(e.val (.inr z)).ϸ];exact⟨.bl _,H,I.tok _,rfl,q⟩
def SV(a:Addr)(b:List (Key×V)):R2:=λx y H Q=>∃z v,x=.ref a/\y=.str z/\oh b (.inr z)=some v/\Q v H
def P3(w:World)(K:hB)(n:a.w=w)(J:a.K=K)(d:DK w K c b)(D:PE a j g)(L:PE a e f)(M:Rr e):PE a (.Subscript j e i) (Xj (SV c b) g f):=by
 subst n J;intro m s q H Q I h;refine QW PySem.F.slot_dict_getitem.lookup M (eF (D m s q H _ I h) λu S x B N C P=>eF (L m S q B _ N P) λiv Y y G A E ⟨z,r,U,O,l,V⟩=>?_);subst U O;obtain rfl:u=Value.ref c:=C;obtain⟨Z,T,p,t⟩:=d.of A;obtain⟨X,n,R⟩:=eQ.some_of (v:=r) (o:=valueAt T (.inr z)) (by rw[<-l];exact p.val (.inr z));exact⟨t.typeIs,wpAny_getItem_of (zt (k:=.inr z) E) t.mapOf n ⟨r,G,A.tok _,R,V⟩⟩
end L2
namespace Pb
open L2 PySem
def nbT:List (Str×Nat):=[("put",2),("want",2),("step",3),("back",0),("laying",0),("wish",0),("most",1),("bring",1),("stands",1),("meet",0),("enough",2),("hardest",1),("worst",2),("many",2),("always",0),("fails",0)]
def nb(w:Str):Option Nat:=(nbT.find? λp=>decide (p.1=w)).map (·.2)
def nbK:List (Key×V):=nbT.map λp=>((.inr p.1:Key),V.int (p.2:Int))
theorem Ih(w:Str):∀l:List (Str×Nat),oh (l.map λp=>((.inr p.1:Key),V.int (p.2:Int))) (.inr w)=((l.find? λp=>decide (p.1=w)).map λp:Str×Nat=>p.2).map λn:Nat=>V.int (n:Int)
 | []=>rfl
 | p::l=>by
   have a:=Ih w l;unfold oh at a ⊢;rw[aF,fG,fG];by_cases h:p.1=w
   .rw[bo h,bo (show(Sum.inr p.1:Key)=.inr w by rw[h])]
    rfl
   .rw[bM h,bM (show ¬(Sum.inr p.1:Key)=.inr w from λz=>h (by injection z))];exact a
def MO(w:Str):oh nbK (.inr w)=(nb w).map λn:Nat=>V.int (n:Int):=Ih w nbT
def Ϣ(h:a≠b):¬V.str a=V.str b:=λz=>h (by injection z)
def tU(z a:Str):Str.join z [a]=a:=rA (by rw[kE];rfl)
def Ow(a:e≠[])(b:d≠[]):Str.join c (e++d)=Str.join c e++c++Str.join c d:=rA (by
 rw[app_list,app_list,kE,kE,kE,aq,Fg (by simpa using b) (by simpa using a)])
def qj(a b c:Str):a++b++c=a++(b++c):=rA (by rw[app_list,app_list,app_list,app_list,ci])
def wdB(w:Str):Bool:=w.cps.toList.all (λc=>decide (c≠32/\c<128))&&decide (w.cps.toList.length<=100)
abbrev Wd(w:Str):Prop:=wdB w=true
def NC:∀p∈nbT,nb p.1=some p.2/\p.2<=3/\Wd p.1/\p.1.length<=10/\Wd (Txt.upper p.1)/\nb (Txt.upper p.1)=none/\Wd (p.1++Str.ofString ":")/\nb (p.1++Str.ofString ":")=none:=by decide +kernel
abbrev LS(H:Hp)(a:Addr)(b:hU):Prop:=H a=some (.lst (b.map V.str))
def SF(g:LS a d A)(f:LS a c B)(l:A.length+B.length<=100)(q:∀p e,δ a e->LS e p (A++B)->b (.ref p) e):YQ (.ref d) (.ref c) a b:=O5 g f (bX (by rw[ag,ag];lia)) λp h=>q p _ (δ.new _ h) (by show upd _ _ _ _=_;rw[au,aq])
def wdA:Nat->Str
 | 0=>"place"
 | 1=>"wish"
 | _=>"step"
def uP(z a b:Str)(l:hU):Str.join z (a::b::l)=a++(z++Str.join z (b::l)):=by
 rw[show a::b::l=[a]++(b::l)from rfl,Ow (by simp) (by simp),tU,qj]
abbrev TS(H:Hp):List Addr->List (Str×Nat)->Prop:=Paired λq p=>H q=some (.tup [.str p.1,.str (wdA p.2)])
def SW(s:String)(h:decide ((Str.ofString s).length<=20)=true:=by decide +kernel):(Str.ofString s).length<=20:=bB h
def lnA{a b:Str}{i j:Nat}(d:a.length<=i)(c:b.length<=j)(h:i+j<=1000:=by decide):a.length+b.length<=sizeLine:=bX (by lia)
def fsL(h:a<10^60):(FS a).length<=60:=by
 have:=(RU h).aaF;rw[iI];exact this
end Pb
namespace Pb
open L2 PySem PySem.W
def tI(z:Int):Str:=Str.ofString (toString z)
def vX(n:Nat):tI n=FS n:=qO n
def LP(h:a<0):Str.ofString "-" ++ tI (-a)=tI a:=by
 obtain⟨k,rfl⟩:∃k:Nat,a=-((k+1:Nat):Int):=⟨(-a).toNat-1,by lia⟩;rw[show -(-((k+1:Nat):Int))=((k+1:Nat):Int) by lia];refine rA ?_;rw[app_list];unfold tI;have e:toString (-((k+1:Nat):Int))="-" ++ toString (((k+1:Nat):Nat):Int):=rfl;rw[e,jf,jf,jf,String.toList_append];simp
abbrev Bt(z:Int):Prop:=z.natAbs<2^1900
def Bt.log(h:Bt a):a.natAbs.log2<1920:=by
 by_cases e:a.natAbs=0
 .rw[e];decide
 .exact(lM e).mpr (aU h (dq (by decide) (by decide)))
def Sw:2^1900<=10^(572+1):=by decide +kernel
def CQ(h:Bt a):(tI a).length<=600:=by
 have b:∀n:Nat,n<2^1900->(FS n).length<=573:=λn d=>by
  rw[iI];exact oP 572 n (aU d Sw)
 by_cases c:a<0
 .rw[<-LP c,nS,show -a=((a.natAbs:Nat):Int) by lia,vX];have:=b _ h;rw[show(Str.ofString "-").length=1 from rfl]
  lia
 .rw[show a=((a.natAbs:Nat):Int) by lia,vX];have:=b _ h
  lia
structure Np(z q:Int)(ps:hU):Prop where
 big:Bt q
 len:∀p∈ps,p.length=18
 cnt:ps.length<1900
 val:(ps=[]/\q=z)\/(0<q/\0<=z/\z.toNat<2^1900/\q.toNat*2^ps.length<=z.toNat/\gl z.toNat=gl q.toNat++(ps.reverse.map (·.cps.toList)).flatten)
def Np.start(h:Bt a):Np a a []:=⟨h,λ_ h=>(by cases h),by decide,.inl ⟨rfl,rfl⟩⟩
def Np.step(h:Np e b d)(c:1000000000000000000<=b):(b%1000000000000000000).natAbs.log2<1920/\Np e (b/1000000000000000000) (d++[Txt.zfill (tI (b%1000000000000000000)) 18]):=by
 have n:b.toNat*2^d.length<=e.toNat/\0<=e/\e.toNat<2^1900/\gl e.toNat=gl b.toNat++(d.reverse.map (·.cps.toList)).flatten:=by
  rcases h.val with⟨rfl,rfl⟩|⟨_,g,f,i,h5⟩
  .exact⟨by simp,by lia,by have:=h.big;lia,by simp⟩
  .exact⟨i,g,f,h5⟩
 obtain⟨o,g,f,i⟩:=n;have q:b%1000000000000000000=((b.toNat%10^18:Nat):Int):=by lia
 have j:(b/1000000000000000000).toNat=b.toNat/10^18:=by lia
 have r:10^18<=b.toNat:=by lia
 have l:b.toNat%10^18<10^18:=mw _ (by decide);have m:0<b/1000000000000000000:=by lia
 rw[q,vX];have k:(b/1000000000000000000).toNat*2^(d++[Txt.zfill (FS (b.toNat%10^18)) 18]).length<=e.toNat:=by
  rw[j,aH,gj,show 2^(d.length+1)=2^d.length*2 from dX ..];have:b.toNat/10^18*(2^d.length*2)=(b.toNat/10^18*2)*2^d.length:=by
   rw[jp (2^d.length) 2,ko]
  rw[this];exact aW (mY _ (by lia)) o
 refine⟨Q5 l (by decide) (by decide),?_,λp hp=>?_,?_,.inr ⟨m,g,f,k,?_⟩⟩
 .have:=h.big;show(b/1000000000000000000).natAbs<_
  lia
 .rcases bi.mp hp with hp|hp
  .exact h.len p hp
  .rw[aG.mp hp];exact Rx l
 .refine(Nat.pow_lt_pow_iff_right (a:=2) (by decide)).mp (fY (aW ?_ k) f);exact Nat.le_mul_of_pos_left _ (by lia)
 .rw[i,Qx r,j];simp
def Np.done(h:Np a b c):Str.join "" ((c++[tI b]).reverse)=tI a:=by
 rcases h.val with⟨rfl,rfl⟩|⟨h1,h2,_,_,h5⟩
 .exact tU _ _
 .rw[show b=((b.toNat:Nat):Int) by lia,show a=((a.toNat:Nat):Int) by lia,vX,vX];exact Q3 h5
def Np.sum(h:Np c b a):((a++[tI b]).map (·.length)).sum+(a++[tI b]).length*(Str.ofString "").length<=16777216:=by
 have d:=Dh (ws:=a++[tI b]) (m:=600) λw hw=>by
  rcases bi.mp hw with hw|hw
  .rw[h.len w hw];decide
  .rw[aG.mp hw];exact CQ h.big
 have:=h.cnt;rw[aH,gj]at d ⊢;rw[show(Str.ofString "").length=0 from rfl]
 lia
def VD(a:fc):Str:=Str.join (Str.ofString " ") (a.map tI)
def LV{a:fc}(h:∀z∈a,Bt z)(l:a.length<=100):((a.map tI).map (·.length)).sum+(a.map tI).length*(Str.ofString " ").length<=16777216:=by
 have c:=Dh (ws:=a.map tI) (m:=600) λw b=>by
  obtain⟨z,d,rfl⟩:=aZ.mp b;exact CQ (h z d)
 rw[ag]at c ⊢;rw[show(Str.ofString " ").length=1 from rfl]
 lia
def zq(h:∀z∈a,Bt z):(VD a).length<=601*a.length:=by
 have:=Hr (z:=Str.ofString " ") (ws:=a.map tI) (m:=600) λw b=>by
  obtain⟨z,c,rfl⟩:=aZ.mp b;exact CQ (h z c)
 rw[ag]at this;exact this
abbrev Ye(s:ϻ):Prop:=∀z∈[s.1,s.2.1,s.2.2],Bt z
def V1(s:ϻ):Str:=VD [s.1,s.2.1,s.2.2]
def XD(a:List ϻ):Str:=if a=[]then Str.ofString "." else Str.join (Str.ofString " / ") (a.map V1)
def JI(h:Ye a):(V1 a).length<=1803:=zq h
def Mg{a:List ϻ}(h:∀s∈a,Ye s)(l:a.length<=200):((a.map V1).map (·.length)).sum+(a.map V1).length*(Str.ofString " / ").length<=16777216:=by
 have c:=Dh (ws:=a.map V1) (m:=1803) λw b=>by
  obtain⟨z,d,rfl⟩:=aZ.mp b;exact JI (h z d)
 rw[ag]at c ⊢;rw[show(Str.ofString " / ").length=3 from rfl]
 lia
def Jz(h:∀s∈a,Ye s)(l:a.length<=48):(XD a).length<=90000:=by
 unfold XD;split
 .decide
 .have:=Hr (z:=Str.ofString " / ") (ws:=a.map V1) (m:=1803) λw b=>by
   obtain⟨z,c,rfl⟩:=aZ.mp b;exact JI (h z c)
  rw[ag,show(Str.ofString " / ").length=3 from rfl]at this
  lia
end Pb
namespace Pb
open PySem L2
abbrev Ab(M z:Int):Prop:=-M<=z/\z<=M
theorem JA(g:Good j i)(R:ζ j i k b h)(o:0<=l)(s:∀v,0<=v->v<j->Ab l (d v))(m:∀v z M,0<=v->v<j->v≠k->0<=M->Ab M z->Ab (M*1000000) (a v z)):∀(n:Nat)(v:Int),0<=v->v<j->j.toNat-h v=n->Ab (l*2^(25*n)) (Ϟ j i k b h d a v)
 | 0,v,h0,h1,e=>by have:=lV R h0 h1;lia
 | n+1,v,h0,h1,e=>by
   have u:(0:Int)<=l*2^(25*n):=jb o (fm (dI (by decide)));have A:l<=l*2^(25*n):=by
    have:=bL (show(1:Int)<=2^(25*n)from dI (by decide)) o
    lia
   have p:∀c∈kd j i k b v,Ab (l*2^(25*n)*1000000) (a c (Ϟ j i k b h d a c)):=λc t=>by
    obtain⟨q,D,_⟩:=mL g R h0 h1 t;exact m c _ _ q.1.1 q.1.2 q.2.1 u (JA g R o s m n c q.1.1 q.1.2 (by lia))
   have C:=GF (r:=k) (par:=b) g (v:=v) (f:=λc=>a c (Ϟ j i k b h d a c)) (M:=l*2^(25*n)*1000000) (by lia) λc m=>(p c m).2;have y:=GF (r:=k) (par:=b) g (v:=v) (f:=λc=>-a c (Ϟ j i k b h d a c)) (M:=l*2^(25*n)*1000000) (by lia) λc m=>by have:=(p c m).1;lia
   rw[D8]at y;have B:=s v h0 h1;have w:l*2^(25*(n+1))=l*2^(25*n)*33554432:=by
    rw[show 25*(n+1)=25*n+25 by lia,gZ,<-eU]
    rfl
   have x:Ϟ j i k b h d a v=d v+((kd j i k b v).map λc=>a c (Ϟ j i k b h d a c)).sum:=xc g R h0 h1;rw[w,x]
   constructor<;>lia
def py(h:Ab (2^n) z)(a:n<1900):Bt z:=by
 have:=Eg a;have e:(2:Int)^1900=((2^1900:Nat):Int):=by norm_cast
 rw[Int.pow_succ]at this;have p:(0:Int)<2^n:=dI (by decide);obtain⟨c,b⟩:=h;show z.natAbs<2^1900;rw[e]at this
 lia
def GI(g:Good d i)(R:ζ d i l k e)(n:∀c,0<=c->c<d->Ab (2^220) (f c))(q:∀c z M,0<=c->c<d->c≠l->0<=M->Ab M z->Ab (M*1000000) (j c z))(m:0<=c)(o:c<d):Ab (2^820) (Ϟ d i l k e f j c):=by
 have h:=JA g R (fm (dI (by decide))) n q _ c m o rfl;have Ζ:=g.Ζ;have p:=Eg (a:=220+25*(d.toNat-e c)) (b:=820) (by lia);rw[gZ]at p;exact⟨by have:=h.1;lia,cg h.2 p⟩
def GN(h:Ab a b)(d:0<=a):Ab (a*1000000) (b/c):=by
 have:=Int.natAbs_ediv_le_natAbs b c;obtain⟨e,f⟩:=h
 constructor<;>lia
def Dl(h:Ab M z)(a:0<=k)(f:k<=1000000):Ab (M*1000000) (z*k):=by
 obtain⟨e,c⟩:=h;have b:0<=M:=by lia
 have d:=b5 e a;have g:=b5 c a;have i:=bL f b;rw[j9]at d
 constructor<;>lia
def MX(c:0<=a)(h:Ab a b):Ab (a*1000000) (ϯ rs par v b):=GN h c
def RO(g:Good e a)(R:ζ e a i c f)(l:0<=b)(m:b<e)(n:b≠i)(k:0<=d)(h:Ab d j):Ab (d*1000000) (Tx a c b j):=by
 have t:=(yT g R l m n).2;rw[R6];split
 .exact GN h k
 .exact Dl h (by lia) t.2
abbrev Al(M:Int)(l:fc):Prop:=∀x∈l,Ab M x
def Al.mono(h:Al b c)(hn:b<=a):Al a c:=λx d=>by have:=h x d;constructor<;>lia
theorem Al.add :∀{a b:fc},Al d a->Al c b->Al (d+c) (nA a b)
 | [],_,_,_=>λx hx=>by cases hx
 | _::_,[],_,_=>λx hx=>by cases hx
 | y::a,z::b,ha,hb=>λx hx=>by
   rcases aE.mp (show x∈(y+z)::nA a b from hx)with rfl|hx
   .have h1:=ha y (.head _);have e:=hb z (.head _)
    constructor<;>lia
   .exact Al.add (λx hx=>ha x (.tail _ hx)) (λx hx=>hb x (.tail _ hx)) x hx
theorem Al.fold :∀{ls:List (List Int)}{A:Int}{a:fc},Al A a->(∀l∈ls,Al M l)->Al (A+ls.length*M) (ls.foldl nA a)
 | [],A,a,ha,_=>λx b=>by have:=ha x b;simp;lia
 | l::ls,A,a,ha,h=>by
   have:=Al.fold (Al.add ha (h l (.head _))) λl c=>h l (.tail _ c);rw[iX];refine this.mono ?_;rw[aO];have:((ls.length+1:Nat):Int)*M=ls.length*M+M:=by
    rw[eO,eW];simp
   lia
def Al.By(g:Good d c)(p:0<=m)(h:∀k∈kd d c f b e,Al m (i k)):Al (24*m) (By d c f b i e j):=by
 have:=Al.fold (ls:=((kd d c f b e).filter λk=>decide (V.int k≠j)).map i) (A:=0) (a:=aC d) (M:=m) (λy o=>by rw[(i4.mp o).2];decide) λl n=>by
  obtain⟨k,q,rfl⟩:=aZ.mp n;exact h k (b9.mp q).1
 refine Al.mono this ?_;rw[ag];have t:=bP (λk=>decide (V.int k≠j)) (kd d c f b e);have s:=GL (r:=f) (par:=b) g (v:=e);have:=b5 (show((((kd d c f b e).filter λk=>decide (V.int k≠j)).length:Nat):Int)<=24 by lia) p
 lia
def Al.put(h:Al a d)(i:0<=a)(g:Ab D b):Al (a+D) (vA d e b):=λx f=>by
 obtain⟨j,k⟩:=g;rcases fE f with f|rfl
 .have:=h x f
  constructor<;>lia
 .by_cases c:e.toNat<d.length
  .have:=h _ (dh c);rw[bn,az c];show -(a+D)<=d[e.toNat]+b/\d[e.toNat]+b<=a+D
   constructor<;>lia
  .rw[bn,bW (by lia)];show -(a+D)<=0+b/\0+b<=a+D
   constructor<;>lia
theorem Ny(g:Good d b)(R:ζ d b f a j)(A:1<=i)(w:∀v,0<=v->v<d->Ab i (c v)):∀(n:Nat)(v:Int),0<=v->v<d->(v≠f->Al (2*(i*4398046511104*2^(22*n))) (ld d b f a c n false v 0))/\∀y Y,Ab Y y->Al ((Y+i*4398046511104)*2^(22*n)) (ld d b f a c n true v y)
 | 0,v,h0,h1=>⟨λ_ x s=>(by cases s),λ_ _ _ x s=>by cases s⟩
 | n+1,v,h0,h1=>by
   have r:(1:Int)<=2^(22*n):=dI (by decide);have PS:(2:Int)^(22*(n+1))=2^(22*n)*4194304:=by
    rw[show 22*(n+1)=22*n+22 by lia,gZ]
    rfl
   have o:∀k∈kd d b f a v,(0<=k/\k<d)/\k≠f/\a k=v:=λk l=>(dg g R h0 h1).mp l;have q:=λk (l:k∈kd d b f a v)=>Ny g R A w n k (o k l).1.1 (o k l).1.2;rw[PS];generalize (2:Int)^(22*n)=P at r q;generalize L:i*4398046511104=C at q;have O:C<=C*P:=by
    have:=bL r (show 0<=C by lia)
    lia
   have u:∀x,Al (24*(2*(C*P))) (By d b f a (λk=>ld d b f a c n false k 0) v x):=λx=>Al.By g (by lia) λk l=>(q k l).1 (o k l).2.1;have m:∀y Y,Ab Y y->Al ((Y+C)*(P*4194304)) (pB d b f a c (λk=>ld d b f a c n false k 0) (λk z=>ld d b f a c n true k z) v y):=λy Y ⟨F,I⟩=>by
    have K:Y<=Y*P:=by
     have:=bL r (show 0<=Y by lia)
     lia
    have e:(Y+C)*(P*4194304)=(Y*P+C*P)*4194304:=(by rw[<-eU,eW]);obtain⟨Q,G⟩:=w v h0 h1;rw[e];unfold pB;rcases Hq ((kd d b f a v).map (Xz d b f a c (λk=>ld d b f a c n false k 0) (λk z=>ld d b f a c n true k z) v (c v+y))) (vA (By d b f a (λk=>ld d b f a c n false k 0) v .ο) v (c v+y))with h|h
    .rw[h];exact(Al.put (D:=i+Y) (u .ο) (by lia) (by constructor<;>lia)).mono (by lia)
    .obtain⟨k,l,ek⟩:=aZ.mp h;obtain⟨p,B,_⟩:=o k l;have t:=yT g R p.1 p.2 B;obtain⟨H,N⟩:=Dl (w k p.1 p.2) (k:=Wr b a k) (by lia) t.2.2;obtain⟨S,J⟩:=Dl (M:=Y+i*2097152) (z:=c v+y-c k*Wr b a k+1) (k:=Vo b a k) (by constructor<;>lia) (by lia) t.1.2;have U:=fV (Vo b a k) (c v+y-c k*Wr b a k+1);rw[<-ek];refine Al.mono (Al.add ((q k l).2 _ (1048576*Y+C) (by constructor<;>lia)) (u _)) ?_;have:(1048576*Y+C+C)*P=1048576*(Y*P)+C*P+C*P:=(by rw[eW,eW,eU])
     lia
   refine⟨λE=>?_,m⟩;show Al _ (if 0<c v then By d b f a (λk=>ld d b f a c n false k 0) v .ο else pB d b f a c (λk=>ld d b f a c n false k 0) (λk z=>ld d b f a c n true k z) v (Vo b a v-1));have t:=(yT g R h0 h1 E).1;have T:C*(P*4194304)=C*P*4194304:=(eU ..).symm;split
   .exact(u .ο).mono (by lia)
   .refine(m _ 1000000 (by constructor<;>lia)).mono ?_;rw[eW];have:=b5 (show 1000000<=C by lia) (show 0<=P*4194304 by lia)
    lia
inductive Ac(m:Int)(rs:ix)(x y:fc):Str->List Nat->Sum Str Nat->Prop
 | laying (l:x.length<=24) (b:∀z∈x,Bt z):Ac m rs x y "laying" [] (.inl (VD x))
 | wish (l:y.length<=24) (b:∀z∈y,Bt z):Ac m rs x y "wish" [] (.inl (VD y))
 | most {v:Nat} {par:fz} {dep:gn} (h:(v:Int)<m) (R:ζ m rs v par dep) (b:Bt (Ϟ m rs v par dep (λu=>x.getD u.toNat 0) (ϯ rs par) v)):Ac m rs x y "most" [v] (.inl (tI (Ϟ m rs v par dep (λu=>x.getD u.toNat 0) (ϯ rs par) v)))
 | Ws {v:Nat} (h:m<=v):Ac m rs x y "most" [v] (.inr 0)
 | bring {v:Nat} {par:fz} {dep:gn} {tl:fc} {ss:List ϻ} (h:(v:Int)<m) (R:ζ m rs v par dep) (et:eX m rs v par dep v=(v:Int)::tl) (es:ss=(l9 m rs v par dep (λu=>x.getD u.toNat 0) tl.reverse).map λu=>(u,par u,VA m rs v par dep (λu=>x.getD u.toNat 0) u)) (l:ss.length<=48) (b:∀s∈ss,Ye s):Ac m rs x y "bring" [v] (.inl (XD ss))
 | Vb {v:Nat} (h:m<=v):Ac m rs x y "bring" [v] (.inr 0)
 | stands {v:Nat} {par:fz} {dep:gn} (h:(v:Int)<m) (R:ζ m rs v par dep) (b:Bt (iN m rs v par dep y x v)):Ac m rs x y "stands" [v] (.inl (tI (iN m rs v par dep y x v)))
 | Uh {v:Nat} (h:m<=v):Ac m rs x y "stands" [v] (.inr 0)
 | Wt {ύ:hY} {Ϛ:Int->Int->Nat} {tl:fc} {ss:List ϻ} (RR:∀r,0<=r->r<m->ζ m rs r (ύ r) (Ϛ r)) (et:eX m rs 0 (ύ 0) (Ϛ 0) 0=0::tl) (h:0<=iN m rs 0 (ύ 0) (Ϛ 0) y x 0) (es:ss=qE rs (ύ 0) (iN m rs 0 (ύ 0) (Ϛ 0) y x) tl.reverse++qF (ύ 0) (iN m rs 0 (ύ 0) (Ϛ 0) y x) tl) (l:ss.length<=48) (b:∀s∈ss,Ye s):Ac m rs x y "meet" [] (.inl (Str.ofString "steps " ++ XD ss))
 | Wu {ύ:hY} {Ϛ:Int->Int->Nat} {zs:fc} (RR:∀r,0<=r->r<m->ζ m rs r (ύ r) (Ϛ r)) (h:¬0<=iN m rs 0 (ύ 0) (Ϛ 0) y x 0) (es:zs=(xq m rs ύ Ϛ x y m.toNat).map λz=>-z) (l:zs.length<=24) (b:∀z∈zs,Bt z):Ac m rs x y "meet" [] (.inl (Str.ofString "lack " ++ VD zs))
 | Ui (h:y.sum=0):Ac m rs x y "always" [] (.inl (tI 0))
 | always {par:fz} {dep:gn} (h:y.sum≠0) (R:ζ m rs (fS m y) par dep) (b:Bt ((Tp m rs (fS m y) par dep (pY m rs (fS m y) par dep y) (fS m y) (-1)).sum+1)):Ac m rs x y "always" [] (.inl (tI ((Tp m rs (fS m y) par dep (pY m rs (fS m y) par dep y) (fS m y) (-1)).sum+1)))
 | Vc (h:y.sum=0):Ac m rs x y "fails" [] (.inr 4)
 | fails {par:fz} {dep:gn} {zs:fc} (h:y.sum≠0) (R:ζ m rs (fS m y) par dep) (es:zs=Tp m rs (fS m y) par dep (pY m rs (fS m y) par dep y) (fS m y) (-1)) (l:zs.length<=24) (b:∀z∈zs,Bt z):Ac m rs x y "fails" [] (.inl (VD zs))
section
variable{m:Int}{x y:fc}{n:Nat}
structure Sz(m:Int)(n:Nat)(s:List Int×List Int):Prop where
 l1:(s.1.length:Int)=m
 l2:(s.2.length:Int)=m
 b1:∀x∈s.1,0<=x/\x<=n*10^60
 b2:∀y∈s.2,0<=y/\y<=10^60
end
def t9{P:Int->Prop}{l:fc}(h:∀x∈l,P x)(a:P 0)(i:Nat):P (l.getD i 0):=by
 by_cases c:i<l.length
 .rw[bn,az c];exact h _ (dh c)
 .rw[bn,bW (by lia)];exact a
def Sz.aaI(S:Sz d c (a,b))(f:c<=1000):(∀z∈a,0<=z/\z<2^219)/\∀z∈b,0<=z/\z<2^219:=by
 refine⟨λz e=>?_,λz e=>?_⟩
 .have:=S.b1 z e
  lia
 .have:=S.b2 z e
  lia
def Sz.over{m:Int}{x:fc}{y:fc}{n:Nat}(S:Sz m n (x,y))(c:n<=1000):(∀v,Ab (2^220) (x.getD v 0))/\(∀v,Ab (2^220) (y.getD v 0))/\∀v,Ab (2^220) ((lU m x y).getD v 0):=by
 obtain⟨a,b⟩:=S.aaI c;have a:=t9 a (by decide);have b:=t9 b (by decide);refine⟨λv=>?_,λv=>?_,λv=>?_⟩
 .have:=a v;lia
 .have:=b v;lia
 .refine t9 (l:=lU m x y) (λz d=>?_) (by decide) v;obtain⟨i,_,rfl⟩:=aZ.mp d;have:=a i;have:=b i
  lia
def Ln(h:Ab (2^820) a):Bt a:=py h (by decide)
def tZ(c:0<=a)(b:a<24):Bt a:=py (n:=5) (by lia) (by decide)
def Sf(g:Good d i)(S:Sz d w (m,j))(Y:w<=1000):(∃o,Ac d i m j "laying" [] o)/\(∃o,Ac d i m j "wish" [] o)/\(∀v,∃o,Ac d i m j "most" [v] o)/\(∀v,∃o,Ac d i m j "bring" [v] o)/\(∀v,∃o,Ac d i m j "stands" [v] o)/\(∃o,Ac d i m j "meet" [] o)/\(∃o,Ac d i m j "always" [] o)/\∃o,Ac d i m j "fails" [] o:=by
 have m1:=g.m1;have Ζ:=g.Ζ;obtain⟨ox,oy,oo⟩:=S.over Y;have l1:=S.l1;have l2:=S.l2;have A:∀v:Nat,(v:Int)<d->∃par x,ζ d i v par x:=λv U=>sC g (by lia) U;have X:∀{l:fc},(∀z∈l,0<=z/\z<2^219)->∀z∈l,Bt z:=λh z hz=>py (n:=219) (by have:=h z hz;lia) (by decide);obtain⟨xx,yy⟩:=S.aaI Y;have Z:∀{r:Int}{par:fz}{x:gn}(R:ζ d i r par x){v:Int},0<=v->v<d->Ab (2^820) (Ϟ d i r par x (λu=>m.getD u.toNat 0) (ϯ i par) v):=λ{r par x} R {v} B C=>GI g R (λv _ _=>ox _) (λv z M _ _ _ T h=>MX T h) B C;have Q:∀{r:Int}{par:fz}{x:gn}(R:ζ d i r par x){v:Int},0<=v->v<d->Ab (2^820) (iN d i r par x j m v):=λ{r par x} R {v} B C=>GI g R (λv _ _=>oo _) (λv z M B C H T h=>RO g R B C H T h) B C;have N:j.sum≠0->∃par x,∃_:ζ d i (fS d j) par x,(Tp d i (fS d j) par x (pY d i (fS d j) par x j) (fS d j) (-1)).length<=24/\∀z∈Tp d i (fS d j) par x (pY d i (fS d j) par x j) (fS d j) (-1),Ab (2^1800) z:=λh=>by
  obtain⟨_,_,I,_⟩:=Jk l2 (λz hz=>(S.b2 z hz).1) h;obtain⟨par,x,R⟩:=sC g I.1 I.2;refine⟨par,x,R,by rw[JN g R I.1 I.2];lia,λz hz=>?_⟩;have nb:∀v,0<=v->v<d->Ab (2^820) (pY d i (fS d j) par x j v):=λv B C=>GI g R (λv _ _=>oy _) (λv z M B C H T h=>Dl (k:=Wr i par v) h (by have:=(yT g R B C H).2;lia) (yT g R B C H).2.2) B C;have:=(Ny g R (dI (by decide)) nb (d.toNat-x (fS d j)) _ I.1 I.2).2 (-1) 1 (by decide) z hz;have p:=Eg (a:=22*(d.toNat-x (fS d j))) (b:=528) (by lia);have q:=bL p (show(0:Int)<=1+2^820*4398046511104 by decide);have e:((1:Int)+2^820*4398046511104)*2^528<=2^1800:=by decide +kernel
  constructor<;>lia
 refine⟨⟨_,.laying (by show m.length<=24;have:((m.length:Nat):Int)=d:=l1;lia) (X xx)⟩,⟨_,.wish (by have:((j.length:Nat):Int)=d:=l2;lia) (X yy)⟩,λv=>?_,λv=>?_,λv=>?_,?_,?_,?_⟩
 .by_cases c:(v:Int)<d
  .obtain⟨par,x,R⟩:=A v c;exact⟨_,.most c R (Ln (Z R (by lia) c))⟩
  .exact⟨_,.Ws (by lia)⟩
 .by_cases c:(v:Int)<d
  .obtain⟨par,x,R⟩:=A v c;obtain⟨L,K,O⟩:=uF g R (by lia) c;have V:=p7 g R (by lia) c;rw[K,aO]at V;refine⟨_,.bring c R K rfl ?_ λs hs=>?_⟩
   .rw[ag];have:=bP (λu=>decide (0<VA d i v par x (λu=>m.getD u.toNat 0) u)) L.reverse;rw[aQ]at this;exact aW this (by lia)
   .obtain⟨u,hu,rfl⟩:=aZ.mp hs;obtain⟨y,J⟩:=O.places u (dP.mp (b9.mp hu).1);have up:=(R.up u y.1 y.2 J).1;intro z hz;rcases aE.mp hz with rfl|hz
    .exact tZ y.1 (by lia)
    .rcases aE.mp hz with rfl|hz
     .exact(tZ up.1 (by lia):Bt (par u))
     .rw[aG.mp hz];refine py (n:=840) ?_ (by decide);have:=MX (rs:=i) (par:=par) (v:=u) (fm (dI (by decide))) (Z R y.1 y.2);have e:(2:Int)^820*1000000<=2^840:=(by decide +kernel);have t:VA d i v par x (λu=>m.getD u.toNat 0) u=ϯ i par u (Ϟ d i v par x (λu=>m.getD u.toNat 0) (ϯ i par) u):=rfl;show Ab _ (VA d i v par x (λu=>m.getD u.toNat 0) u);rw[t]
      constructor<;>lia
  .exact⟨_,.Vb (by lia)⟩
 .by_cases c:(v:Int)<d
  .obtain⟨par,x,R⟩:=A v c;exact⟨_,.stands c R (Ln (Q R (by lia) c))⟩
  .exact⟨_,.Uh (by lia)⟩
 .have ex:∃G:Int->(Int->Int)×(Int->Nat),∀r,0<=r->r<d->ζ d i r (G r).1 (G r).2:=by
   refine Classical.axiomOfChoice (r:=λr (p:(Int->Int)×(Int->Nat))=>0<=r->r<d->ζ d i r p.1 p.2) λr=>?_;by_cases c:0<=r/\r<d
   .obtain⟨par,x,R⟩:=sC g c.1 c.2;exact⟨(par,x),λ_ _=>R⟩
   .exact⟨(λ_=>0,λ_=>0),λa b=>absurd ⟨a,b⟩ c⟩
  obtain⟨G,D⟩:=ex;have D:∀r,0<=r->r<d->ζ d i r ((λr=>(G r).1) r) ((λr=>(G r).2) r):=D;generalize (λr=>(G r).1)=E at D;generalize (λr=>(G r).2)=P at D;have R:=D 0 (by lia) (by lia);by_cases c:0<=iN d i 0 (E 0) (P 0) j m 0
  .obtain⟨L,K,O⟩:=uF g R (by lia) (by lia);have V:=p7 g R (bO _) (by lia);rw[K,aO]at V;refine⟨_,.Wt D K c rfl ?_ λs hs=>?_⟩
   .have l1:=bP (HF i (E 0) (iN d i 0 (E 0) (P 0) j m)) L.reverse;have l2:=bP (Gb (iN d i 0 (E 0) (P 0) j m)) L;unfold qE qF;rw[aH,ag,ag];rw[aQ]at l1
    lia
   .have key:∃u k,u∈L/\Ab (2^820*1000000) k/\(s=(u,E 0 u,k)\/s=(E 0 u,u,k)):=by
     rcases bi.mp hs with hs|hs
     .obtain⟨u,hu,rfl⟩:=aZ.mp hs;have F:=dP.mp (b9.mp hu).1;obtain⟨y,J⟩:=O.places u F;refine⟨u,_,F,?_,.inl rfl⟩;unfold xz;split
      .exact GN (Q R y.1 y.2) (fm (dI (by decide)))
      .decide +kernel
     .obtain⟨u,hu,rfl⟩:=aZ.mp hs;have F:=(b9.mp hu).1;obtain⟨y,J⟩:=O.places u F;refine⟨u,_,F,?_,.inr rfl⟩;have:=Q R y.1 y.2
      constructor<;>lia
    obtain⟨u,k,F,hk,e⟩:=key;obtain⟨y,J⟩:=O.places u F;have up:=(R.up u y.1 y.2 J).1;have b1:Bt k:=py (n:=840) (by have e:(2:Int)^820*1000000<=2^840:=(by decide +kernel);constructor<;>lia) (by decide);have b2:=tZ y.1 (by lia);have b3:=tZ up.1 (by lia);intro z hz;rcases e with rfl|rfl<;>simp only[aE,fN,or_false]at hz<;>rcases hz with rfl|rfl|rfl<;>assumption
  .refine⟨_,.Wu D c rfl (by rw[ag,Ib];lia) λz hz=>?_⟩;obtain⟨q,hq,rfl⟩:=aZ.mp hz;obtain⟨v,U,rfl⟩:=aZ.mp hq;have H:=fK.mp U;have:Ab (2^820) (Ϟ d i v (E v) (P v) (λv=>(lU d m j).getD v.toNat 0) (Tx i (E v)) v):=Q (D v H.1 (by lia)) H.1 (by lia);exact Ln (by constructor<;>lia)
 .by_cases c:j.sum=0
  .exact⟨_,.Ui c⟩
  .obtain⟨par,x,R,l,b⟩:=N c;refine⟨_,.always c R (py (n:=1810) ?_ (by decide))⟩;have:=zL (f:=λz=>z) (l:=Tp d i (fS d j) par x (pY d i (fS d j) par x j) (fS d j) (-1)) λz hz=>(b z hz).2;have W:=zL (f:=λz=>-z) (l:=Tp d i (fS d j) par x (pY d i (fS d j) par x j) (fS d j) (-1)) (M:=2^1800) λz hz=>by have:=(b z hz).1;lia
   rw[D8 (f:=λz=>z)]at W;rw[List.map_id']at this W;have q:=b5 (show(((Tp d i (fS d j) par x (pY d i (fS d j) par x j) (fS d j) (-1)).length:Nat):Int)<=24 by lia) (show(0:Int)<=2^1800 from fm (dI (by decide)));have e:(24:Int)*2^1800+1<=2^1810:=(by decide +kernel)
   constructor<;>lia
 .by_cases c:j.sum=0
  .exact⟨_,.Vc c⟩
  .obtain⟨par,x,R,l,b⟩:=N c;exact⟨_,.fails c R rfl l λz hz=>py (b z hz) (by decide)⟩
inductive W0(m:Int)(rs:ix)(ς:List (List Int×List Int))(s:List Int×List Int):Str->List Nat->Sum Str Nat->List (List Int×List Int)->Prop
 | put {v n:Nat} (h:(v:Int)<m):W0 m rs ς s "put" [v,n] (.inl "done") (ς++[s]++[(s.1.set v (s.1.getD v 0+n),s.2)])
 | want {v n:Nat} (h:(v:Int)<m):W0 m rs ς s "want" [v,n] (.inl "done") (ς++[s]++[(s.1,s.2.set v n)])
 | step {a b n:Nat} (h:tp m rs s.1 (a,b,n)=true):W0 m rs ς s "step" [a,b,n] (.inl "done") (ς++[s]++[(pp rs s.1 (a,b,n),s.2)])
 | aim {a b n:Nat} (h:tp m rs s.1 (a,b,n)=false):W0 m rs ς s "step" [a,b,n] (.inr 2) (ς++[s])
 | back (h:ς≠[]):W0 m rs ς s "back" [] (.inl "done") ς
 | ain (h:ς=[]):W0 m rs ς s "back" [] (.inr 3) (ς++[s])
def Rn:Nat->Str
 | 0=>"refused place"
 | 1=>"refused wish"
 | 2=>"refused step"
 | 3=>"refused deed"
 | 4=>"refused none"
 | _=>"refused row"
def AZ:Sum Str Nat->Str
 | .inl a=>a
 | .inr c=>Rn c
def Ig(h:Ϡ i j d k a c b f g):Δ i f (g.map λu=>(u,a u,VA j d k a c b u)):=by
 induction h with
 | nil=>exact .nil
 | cons e _ ih=>exact .cons e ih
def KZ(h:nb b=some a):a<=3:=by
 unfold nb at h;obtain⟨p,c,rfl⟩:=ck.mp h;exact(NC p (List.mem_of_find?_eq_some c)).2.1
end Pb
namespace Pb
open L2 PySem PySem.W
def Sz.fil(h:Sz b c a):(∀x∈a.1,0<=x)/\∀x∈a.2,0<=x:=⟨λx d=>(h.b1 x d).1,λx d=>(h.b2 x d).1⟩
def Sz.mono(h:Sz b n c)(hn:n<=a):Sz b a c:=⟨h.l1,h.l2,λx d=>⟨(h.b1 x d).1,cg (h.b1 x d).2 (b5 (by lia) (by decide))⟩,h.b2⟩
def hdB(w:Str):Bool:=decide (w.length<=10)&&w.cps.toList.all λc=>decide (c≠32/\c≠10/\c<128)
def Lb(h:hdB a=true):Za a/\Pl a:=by
 unfold hdB at h;rw[bG,decide_eq_true_iff,eG]at h;have k:=λc b=>bB (h.2 c b);exact⟨⟨h.1,λz=>(k _ z).1 rfl,λz=>(k _ z).2.1 rfl⟩,λc b=>⟨(k c b).2.2,(k c b).2.1⟩⟩
def ON(h:∀q∈a++[e],Sz b c q)(f:Sz b (c+1) d):∀q∈a++[e]++[d],Sz b (c+1) q:=λq hq=>by
 rcases bi.mp hq with hq|hq
 .exact(h q hq).mono (by lia)
 .rw[aG.mp hq];exact f
def zG{P:Int->Prop}{b:fc}{v:Nat}{y:Int}(h:∀x∈b,P x)(c:P y):∀x∈b.set v y,P x:=λx a=>by
 rcases fE a with a|rfl
 .exact h x a
 .exact c
def QF(d:0<=a):∀q∈[(aC a,aC a)],Sz a 0 q:=λq c=>by
 rw[aG.mp c];have l:((aC a).length:Int)=a:=by rw[zo];lia
 refine⟨l,l,λx b=>?_,λx b=>?_⟩<;>rw[(i4.mp b).2]<;>decide
end Pb
namespace Pb
open L2 PySem PySem.W NumText
def Jw(w:Str):Vn w []=w:=tU _ _
def Rq(h:b=a++Str.ofString " ")(v:Nat):b++FS v=Vn a [v]:=by
 unfold Vn;rw[h,aF,cG,uP,tU,qj]
def Mu(ne:a≠[])(h:∀z∈a,0<=z):b++Str.ofString " " ++ VD a=Vn b (a.map Int.toNat):=by
 have e:a.map tI=(a.map Int.toNat).map FS:=by
  rw[jo];refine cB λz c=>?_;have:=vX z.toNat;rw[cA (h z c)]at this;exact this
 unfold VD Vn;rw[e];cases a with
 | nil=>exact absurd rfl ne
 | cons z a=>rw[aF,aF,uP,qj]
end Pb
namespace Pb
open PySem L2
def Wv(m:Int)(c:ix)(r:Int)(a:fz)(b:gn)(d:fc)(k:Int):Bool:=decide (ώ m c r a b k*tup c a k=ώ m c r a b (a k))&&decide (S7 m c r a b d (a k)≠some k)
def Ww(m:Int)(c:ix)(r:Int)(a:fz)(b:gn)(d:fc)(k:Int):Bool:=decide (S7 m c r a b d (a k)=some k)
def cK(b:ix)(a:fz)(k:Int):Nat:=(tup b a k).toNat
def V2(m:Int)(c:ix)(r:Int)(a:fz)(b:gn)(d:fc)(v:Int):Nat->Int:=wy m c r a b (Wv m c r a b d) (Ww m c r a b d) (cK c a) v
inductive iS(m:Int)(rs:ix):Str->List Nat->Str->Prop
 | enough {v w:Nat} {par:fz} {dep:gn} (h:(v:Int)<m) (w1:1<=w) (w2:w<=10^20) (R:ζ m rs v par dep) (b:Bt (UI m rs v par (ic m rs v par dep) w+1)):iS m rs "enough" [v,w] (tI (UI m rs v par (ic m rs v par dep) w+1))
 | hardest {w:Nat} {f:fz} {zs:fc} (w1:1<=w) (w2:w<=10^20) (hf:∀r,0<=r->r<m->∃par dep,ζ m rs r par dep/\UI m rs r par (ic m rs r par dep) w+1=f r) (hz:∀y j,VB ((b7 m.toNat).map f) y j->zs=[y,j]) (l:zs.length<=24) (b:∀z∈zs,Bt z):iS m rs "hardest" [w] (VD zs)
 | worst {v w:Nat} {par:fz} {dep:gn} {tl zs:fc} (h:(v:Int)<m) (w1:1<=w) (w2:w<=10^20) (R:ζ m rs v par dep) (et:eX m rs v par dep v=(v:Int)::tl) (hz:∀cn,To m rs v par (S7 m rs v par dep tl) w cn->zs=(b7 m.toNat).map (lies (S7 m rs v par dep tl) cn)) (l:zs.length<=24) (b:∀z∈zs,Bt z):iS m rs "worst" [v,w] (VD zs)
 | many {v w:Nat} {par:fz} {dep:gn} {tl:fc} (h:(v:Int)<m) (w1:1<=w) (w2:w<=10^20) (R:ζ m rs v par dep) (et:eX m rs v par dep v=(v:Int)::tl) (b:Bt (V2 m rs v par dep tl v (w-1))):iS m rs "many" [v,w] (tI (V2 m rs v par dep tl v (w-1)))
def QR{m:Int}{o:ix}(g:Good m o)(m5:m<=5){v k:Nat}(h:(v:Int)<m)(C:1<=k)(A:k<=10^20):(∃a,iS m o "enough" [v,k] a)/\(∃a,iS m o "hardest" [k] a)/\(∃a,iS m o "worst" [v,k] a)/\∃a,iS m o "many" [v,k] a:=by
 have m1:=g.m1;have s:(0:Int)<=v:=by lia
 have S:(k:Int)<=10^60:=by lia
 have M:(1:Int)<=k:=by lia
 have t:∀{r:Int}{d:fz}{l:gn},0<=r->r<m->ζ m o r d l->Ab (2^720) (UI m o r d (ic m o r d l) k)/\Ab (2^720) (UI m o r d (ic m o r d l) k+1):=λU P R=>by
  have:=Qp g R U P M S
  constructor<;>lia
 obtain⟨d,l,R⟩:=sC g s h;obtain⟨D,F,O⟩:=uF g R s h;refine⟨⟨_,.enough h C A R (py (t s h R).2 (by decide))⟩,?_,?_,⟨_,.many h C A R F ?_⟩⟩
 .obtain⟨f,hf⟩:∃f:Int->Int,∀r,0<=r->r<m->∃d l,ζ m o r d l/\UI m o r d (ic m o r d l) k+1=f r:=by
   refine Classical.axiomOfChoice (r:=λr y=>0<=r->r<m->∃d l,ζ m o r d l/\UI m o r d (ic m o r d l) k+1=y) λr=>?_;by_cases c:0<=r/\r<m
   .obtain⟨d,l,R⟩:=sC g c.1 c.2;exact⟨_,λ_ _=>⟨d,l,R,rfl⟩⟩
   .exact⟨0,λa b=>absurd ⟨a,b⟩ c⟩
  by_cases c:∃y j,VB ((b7 m.toNat).map f) y j
  .obtain⟨y,j,B⟩:=c;refine⟨_,.hardest C A hf (λy' j' X=>by obtain⟨rfl,rfl⟩:=B.same X;rfl) (jA rfl) λz hz=>?_⟩;rcases aE.mp hz with rfl|hz
   .obtain⟨r,hr,rfl⟩:=aZ.mp B.mem;have K:=fK.mp hr;obtain⟨d,l,R,e⟩:=hf r K.1 (by lia);rw[<-e];exact py (t K.1 (by lia) R).2 (by decide)
   .rw[aG.mp hz];obtain⟨i,rfl,Y,_⟩:=B.at_;have:=(ax.mp Y).1;rw[ag,b6]at this;exact tZ (by lia) (by lia)
  .exact⟨_,.hardest (zs:=[]) C A hf (λy j B=>absurd ⟨y,j,B⟩ c) (by decide) λz hz=>by cases hz⟩
 .by_cases c:∃E,To m o v d (S7 m o v d l D) k E
  .obtain⟨E,N⟩:=c;have nn:∀z∈(b7 m.toNat).map (lies (S7 m o v d l D) E),0<=z:=λz hz=>by
    obtain⟨u,Z,rfl⟩:=aZ.mp hz;have W:=fK.mp Z;unfold lies;split
    .exact To.nn g R N M s h _ u rfl W.1 (by lia)
    .exact bO _
   refine⟨_,.worst h C A R F (λV Q=>To.Y8 R N Q) (by rw[ag,b6];lia) λz hz=>py (n:=720) ?_ (by decide)⟩;have:=J5 nn hz;rw[To.total g R (RG g R O) N s h F O]at this;have:=nn z hz;have:=(t s h R).1
   constructor<;>lia
  .exact⟨_,.worst (zs:=[]) h C A R F (λE N=>absurd ⟨E,N⟩ c) (by decide) λz hz=>by cases hz⟩
 .have d4:Tz m o v d l v<=4:=by have:=C2 g R s h;lia
  have w:=QE g R (T:=1000000) (by decide) (λu H I G=>(nN g R H I G).2) _ v s h rfl;have w0:=(kJ g R s h).1;have p:1000000^Tz m o v d l v<=1000000^4:=dq (by decide) d4;have q:=dH (show ώ m o v d l v<=1000000^4 by lia) (show((k-1:Nat):Int)+1<=10^20 by lia) (by lia) (by decide);obtain⟨L,J⟩:=JU (fr:=Wv m o v d l D) (be:=Ww m o v d l D) (c:=cK o d) g R O (λu H I G=>by have:=(nN g R H I G).1;show((tup o d u).toNat:Int)=_;lia) (x:=147) m.toNat s h (by lia) (k-1) (cg q (by decide));refine py (n:=588) ?_ (by decide);have:(2:Int)^(147*Tz m o v d l v)<=2^588:=Bc (by lia);have L:0<=V2 m o v d l D v (k-1):=L;have J:V2 m o v d l D v (k-1)<=2^(147*Tz m o v d l v):=J
  constructor<;>lia
def Qe(h:a<=10^20):a<=2^4000:=aW h (by decide +kernel)
def Li(m:Int)(b:ix)(x y:fc)(w:Str)(c:List Nat)(o:Sum Str Nat):Prop:=(Ac m b x y w c o/\o≠.inr 0)\/∃a,o=.inl a/\iS m b w c a
def TF(m:Int)(b:ix)(c:List (List Int×List Int))(s:List Int×List Int)(z:Str)(o:Sum Str Nat)(S:List (List Int×List Int)):Prop:=z.length<=60000/\∃(w:Str)(a:List Nat),wsp z=w::a.map FS/\(∀n∈a,n<10^60)/\nb w=some a.length/\((o=.inl "done"/\W0 m b c s w a (.inl "done") S)\/(S=c++[s]/\Li m b s.1 s.2 w a o))
def TF.same(h:TF i f a b g c d)(e:c=.inr j):d=a++[b]:=by
 subst e;rcases h with⟨_,w,ns,_,_,_,⟨h,_⟩|⟨h,_⟩⟩
 .cases h
 .exact h
def K8(o:a.length=k)(j:∀k∈a,k<10^60)(h:Li f c d e b a g)(n:List (List Int×List Int))(i:hdB b=true:=by decide +kernel)(m:nb b=some k:=by decide +kernel):TF f c n (d,e) (Vn b a) g (n++[(d,e)]):=by
 obtain⟨i,_⟩:=Lb i;subst o;have l:=JH i j;have:=KZ m;exact⟨by lia,b,a,EC i a,j,m,.inr ⟨rfl,h⟩⟩
def Ls(g:a.length=k)(e:∀k∈a,k<10^60)(h:W0 m rs b s w a (.inl "done") c)(d:hdB w=true:=by decide +kernel)(f:nb w=some k:=by decide +kernel):TF m rs b s (Vn w a) (.inl "done") c:=by
 obtain⟨d,_⟩:=Lb d;subst g;have l:=JH d e;have:=KZ f;exact⟨by lia,w,a,EC d a,e,f,.inl ⟨rfl,h⟩⟩
def SB(g:Good i f)(s:j.Ok i f)(b:∀y∈j.ns,0<=y/\y<10^60)(e:Zb f h j=some m)(z:Sz i d h)(A:List (List Int×List Int)):TF i f A h (Vn j.wd (j.ns.map Int.toNat)) (.inl "done") (A++[h]++[m])/\Sz i (d+1) m:=by
 have Ζ:=g.Ζ;have p:∀k∈j.ns.map Int.toNat,k<10^60:=λk F=>by
  obtain⟨y,E,rfl⟩:=aZ.mp F;have:=b y E
  lia
 have q:=t9 (P:=λx=>0<=x/\x<=d*10^60) z.b1 (by lia);have up:∀x∈h.1,0<=x/\x<=(d+1:Nat)*10^60:=λx u=>by have:=z.b1 x u;lia
 cases j with
 | put v d=>
   have n:=b v (.head _);have o:=b d (.tail _ (.head _));obtain⟨v,rfl⟩:=cI n.1;obtain⟨d,rfl⟩:=cI o.1;cases e;exact⟨Ls (w:="put") (k:=2) rfl p (.put s.1.2),by rw[bN];exact z.l1,z.l2,zG up (by have:=q v;show 0<=h.1.getD v 0+_/\h.1.getD v 0+_<=_;lia),z.b2⟩
 | want v d=>
   have n:=b v (.head _);have o:=b d (.tail _ (.head _));obtain⟨v,rfl⟩:=cI n.1;obtain⟨d,rfl⟩:=cI o.1;cases e;exact⟨Ls (w:="want") (k:=2) rfl p (.want s.1.2),z.l1,by rw[bN];exact z.l2,up,zG z.b2 (by lia)⟩
 | back v d=>cases e
 | step a c d=>
   have n:=b a (.head _);have o:=b c (.tail _ (.head _));have G:=b d (.tail _ (.tail _ (.head _)));obtain⟨a,rfl⟩:=cI n.1;obtain⟨c,rfl⟩:=cI o.1;obtain⟨d,rfl⟩:=cI G.1;obtain⟨r,H,I⟩:=s;obtain⟨B,L,_⟩:=g.WW r;obtain⟨t,D,K,_⟩:=Bb g r;unfold Zb at e;by_cases l:(d:Int)*jI f a c<=h.1.getD a 0
   .simp only[dJ,aj l]at e;cases e;have cd:tp i f h.1 (a,c,d)=true:=by
     unfold tp qJ;show(decide (0<=(a:Int))&&decide ((a:Int)<i)&&decide ((c:Int)∈jM i f a)&&decide (1<=(d:Int))&&decide ((d:Int)*jI f a c<=h.1.getD a 0))=true;rw[bo B.1,bo B.2,bo ((xa g).mpr r),bo H,bo l]
     rfl
    refine⟨Ls (w:="step") (k:=3) rfl p (.step cd),by rw[EO];exact z.l1,z.l2,?_,z.b2⟩;have C:jI f a c=t:=(by unfold jI;rw[D];rfl);have J:(0:Int)<=d*t:=jb (by lia) (by lia);rw[C]at l;have n:∀x∈h.1.set a (h.1.getD a 0-d*t),0<=x/\x<=_:=zG z.b1 (by have:=q a;lia);unfold pp;show ∀x∈(h.1.set a (h.1.getD a 0-d*jI f a c)).set c ((h.1.set a (h.1.getD a 0-d*jI f a c)).getD c 0+d),_;rw[C];refine zG (λx u=>?_) ?_
    .have:=n x u
     lia
    .have:=t9 n (by lia) c
     lia
   .simp only[dJ,ah l]at e;cases e
def S0(w:Str)(v k:Nat):w++Str.ofString " " ++ FS v++Str.ofString " " ++ FS k=Vn w [v,k]:=by
 unfold Vn;rw[aF,aF,cG,uP,uP,tU,qj,qj,qj]
def KJ:List Str:=["laying","wish","most","bring","stands","always","fails","meet","enough","hardest","worst","many"]
def Sx{m:Int}{d:ix}{x:fc}{y:fc}{w:Str}{n:Nat}(g:Good m d)(S:Sz m n (x,y))(q:n<=1000)(i:m<=5){v k:Nat}(h:(v:Int)<m)(p:1<=k)(l:k<=10^20){j:Nat}(e:KJ[j]?=some w):hdB w=true/\((Xn (.str w) [V.str "most",V.str "bring",V.str "stands"]=true/\nb w=some 1/\∃o,Ac m d x y w [v] o/\o≠.inr 0)\/Xn (.str w) [V.str "most",V.str "bring",V.str "stands"]=false/\((j<8/\nb w=some 0/\∃o,Ac m d x y w [] o/\o≠.inr 0)\/¬j<8/\((w="hardest"/\∃a,iS m d w [k] a)\/w≠"hardest"/\nb w=some 2/\∃a,iS m d w [v,k] a))):=by
 have a:=Sf g S q;have c:∀{w:Str}{f:List Nat},(f=[]\/f=[v])->(∃o,Ac m d x y w f o)->∃o,Ac m d x y w f o/\o≠.inr 0:=λe ⟨o,r⟩=>⟨o,r,λz=>by
  subst z;cases r<;>rcases e with e|e<;>cases e<;>lia⟩
 have b:=QR g i h p l
 match j,e with
 | 0,rfl=>exact⟨by decide +kernel,.inr ⟨by decide +kernel,.inl ⟨by decide,by decide +kernel,c (.inl rfl) a.1⟩⟩⟩
 | 1,rfl=>exact⟨by decide +kernel,.inr ⟨by decide +kernel,.inl ⟨by decide,by decide +kernel,c (.inl rfl) a.2.1⟩⟩⟩
 | 2,rfl=>exact⟨by decide +kernel,.inl ⟨by decide +kernel,by decide +kernel,c (.inr rfl) (a.2.2.1 v)⟩⟩
 | 3,rfl=>exact⟨by decide +kernel,.inl ⟨by decide +kernel,by decide +kernel,c (.inr rfl) (a.2.2.2.1 v)⟩⟩
 | 4,rfl=>exact⟨by decide +kernel,.inl ⟨by decide +kernel,by decide +kernel,c (.inr rfl) (a.2.2.2.2.1 v)⟩⟩
 | 5,rfl=>exact⟨by decide +kernel,.inr ⟨by decide +kernel,.inl ⟨by decide,by decide +kernel,c (.inl rfl) a.2.2.2.2.2.2.1⟩⟩⟩
 | 6,rfl=>exact⟨by decide +kernel,.inr ⟨by decide +kernel,.inl ⟨by decide,by decide +kernel,c (.inl rfl) a.2.2.2.2.2.2.2⟩⟩⟩
 | 7,rfl=>exact⟨by decide +kernel,.inr ⟨by decide +kernel,.inl ⟨by decide,by decide +kernel,c (.inl rfl) a.2.2.2.2.2.1⟩⟩⟩
 | 8,rfl=>exact⟨by decide +kernel,.inr ⟨by decide +kernel,.inr ⟨by decide,.inr ⟨by decide +kernel,by decide +kernel,b.1⟩⟩⟩⟩
 | 9,rfl=>exact⟨by decide +kernel,.inr ⟨by decide +kernel,.inr ⟨by decide,.inl ⟨rfl,b.2.1⟩⟩⟩⟩
 | 10,rfl=>exact⟨by decide +kernel,.inr ⟨by decide +kernel,.inr ⟨by decide,.inr ⟨by decide +kernel,by decide +kernel,b.2.2.1⟩⟩⟩⟩
 | 11,rfl=>exact⟨by decide +kernel,.inr ⟨by decide +kernel,.inr ⟨by decide,.inr ⟨by decide +kernel,by decide +kernel,b.2.2.2⟩⟩⟩⟩
 | k+12,e=>cases e
def R8(h:W0 f c a e b d i g):Xn (.str b) [V.str "put",V.str "want",V.str "step",V.str "back"]=true:=by
 cases h<;>decide +kernel
def QJ{m:Int}{e:ix}{w:Str}{f:List Nat}{a:Str}{u:Str}(h:iS m e w f a)(n:u≠"enough"/\u≠"hardest"/\u≠"worst"/\u≠"many"):w≠u:=by
 obtain⟨a,b,c,d⟩:=n;cases h<;>apply Ne.symm<;>assumption
def Qs(h:Li f b d e a c g):¬Xn (.str a) [V.str "put",V.str "want",V.str "step",V.str "back"]=true:=by
 rcases h with⟨h,_⟩|⟨_,_,h⟩<;>cases h<;>decide +kernel
def Sh(D:Dd):D.ns.length<=3/\D.ns≠[]:=by cases D<;>simp[Dd.ns]
def Sl(D:Dd):D.wd.length<=20:=by cases D<;>exact SW _
end Pb
namespace Pb
def UU{c:Prop}[i:Decidable c]{a b:Prop}(h:¬c)(q:b):if c then a else b:=by rw[ah h];exact q
def Yg{c:Prop}[i:Decidable c]{a b:Prop}(h:c)(q:a):if c then a else b:=by rw[aj h];exact q
end Pb
namespace Pb
open PySem L2
abbrev Vq(P:Program)(w:World)(K:hB)(e:hP)(a:Heap)(x q:Str)(st:Stmt)(c:hU)(k:Nat)(d:Sp):Prop:=∀(f:Addr)(b:FuncData),WV K x q st f b->ϋ P w K e a (τ P w) k f b c d
structure Cm(P:Program)(w:World)(K:hB)(mg:hP)(base:Heap)(R:Addr->Prop)(x q:Str)(st:Stmt)(ps:hU)(k:Nat)(sp:Sp) where
 f:Addr
 fd:FuncData
 F:WV K x q st f fd
 b:Binds K fd ps []
 M:R f
 G:ϋ P w K mg base (τ P w) k f fd ps sp
def df{K:hB}{h:Heap}{n:hP}(X:K.In h)(G:h.Ns mainGlobals n){x:Str}{st:Stmt}{ps:hU}{f:Addr}{q:Value}{o i:Option Addr}{p:Array (Option Value)}{kV d k g j:Value}(a:PySem.W.nsIn K mainGlobals x=some (some (.ref f)):=by k_is)(l:K.lookup f=some ⟨q,o,.func (PySem.W.fnOf x x (kN st) (jB st) (aA st) .none kV d k i g j),p⟩:=by k_is)(c:PySem.W.codeIn K g x=true:=by k_is)(e:PySem.W.keepIn K (.ref f)=true:=by k_is)(b:∀(kV d k:Value) (i:Option Addr) (g j:Value) (m:hL),m.length=ps.length->bindArgs (PySem.W.fnOf x x (kN st) (jB st) (aA st) .none kV d k i g j) ⟨m,[]⟩=pure (ps.zip m):=by intro _ _ _ _ _ _ _ z;first|(obtain⟨_,rfl⟩:=L2.us1 z;rfl)|(obtain⟨_,_,rfl⟩:=L2.us2 z;rfl)|(obtain⟨_,_,_,rfl⟩:=L2.us3 z;rfl)|(obtain⟨_,_,_,_,rfl⟩:=L2.us4 z;rfl)|(obtain⟨_,_,_,_,_,rfl⟩:=L2.us5 z;rfl)):Df K n x st ps f (PySem.W.fnOf x x (kN st) (jB st) (aA st) .none kV d k i g j):=⟨yN (st:=st) l c e,kh X G a,(yN (st:=st) l c e).binds b⟩
def cd{P:Program}{w:World}{K:hB}{h:Heap}{p:hP}{d:Heap}(X:K.In h)(G:h.Ns mainGlobals p){x:Str}{st:Stmt}{i:hU}{k:Nat}{s:Sp}{f:Addr}{v:Value}{t m:Option Addr}{u:Array (Option Value)}{kV g r j q:Value}(o:Ok P w K p d x st i k s)(a:PySem.W.nsIn K mainGlobals x=some (some (.ref f)):=by k_is)(l:K.lookup f=some ⟨v,t,.func (PySem.W.fnOf x x (kN st) (jB st) (aA st) .none kV g r m j q),u⟩:=by k_is)(c:PySem.W.codeIn K j x=true:=by k_is)(e:PySem.W.keepIn K (.ref f)=true:=by k_is)(b:∀(kV g r:Value) (m:Option Addr) (j q:Value) (n:hL),n.length=i.length->bindArgs (PySem.W.fnOf x x (kN st) (jB st) (aA st) .none kV g r m j q) ⟨n,[]⟩=pure (i.zip n):=by intro _ _ _ _ _ _ _ z;first|(obtain⟨_,rfl⟩:=L2.us1 z;rfl)|(obtain⟨_,_,rfl⟩:=L2.us2 z;rfl)|(obtain⟨_,_,_,rfl⟩:=L2.us3 z;rfl)|(obtain⟨_,_,_,_,rfl⟩:=L2.us4 z;rfl)|(obtain⟨_,_,_,_,_,rfl⟩:=L2.us5 z;rfl)):Cb P w K p d x st i k s:=cb (df X G a l c e b) (o _ _ (df X G a l c e b))
def afO(e:PySem.W.findIn c (.ref b) a=some none):Ι c b a:=e
def cm{P:Program}{w:World}{K:hB}{s:hP}{a:Heap}{x q:Str}{st:Stmt}{g:hU}{k:Nat}{p:Sp}{C f:Addr}{y:Value}{t i:Option Addr}{v:Array (Option Value)}{kV d n h m:Value}(u:Str){R:PySem.W.Frag->Addr->Addr->Prop}(o:Vq P w K s a x q st g k p)(_n:PySem.W.nsIn K mainGlobals u=some (some (.ref C)):=by k_is)(_a:PySem.W.findIn K (.ref C) x=some (some (.ref f)):=by k_is)(r:R K C f:=by first|exact⟨by k_is,by k_is,by k_is⟩|exact⟨by k_is,by k_is,by k_is,by k_is⟩|exact L2.aaK _ _ _ _ _ _ _ _ _ _ _ _ _ _ _ _ (by k_is) (by rfl) (by kernel_rfl) (by k_is) (by kernel_rfl) (by k_is))(l:K.lookup f=some ⟨y,t,.func (PySem.W.fnOf x q (kN st) (jB st) (aA st) .none kV d n i h m),v⟩:=by k_is)(c:PySem.W.codeIn K h q=true:=by k_is)(e:PySem.W.keepIn K (.ref f)=true:=by k_is)(b:∀(kV d n:Value) (i:Option Addr) (h m:Value) (j:hL),j.length=g.length->bindArgs (PySem.W.fnOf x q (kN st) (jB st) (aA st) .none kV d n i h m) ⟨j,[]⟩=pure (g.zip j):=by intro _ _ _ _ _ _ _ z;first|(obtain⟨_,rfl⟩:=L2.us1 z;rfl)|(obtain⟨_,_,rfl⟩:=L2.us2 z;rfl)|(obtain⟨_,_,_,rfl⟩:=L2.us3 z;rfl)|(obtain⟨_,_,_,_,rfl⟩:=L2.us4 z;rfl)|(obtain⟨_,_,_,_,_,rfl⟩:=L2.us5 z;rfl)):Cm P w K s a (R K C) x q st g k p:=⟨f,_,yN (st:=st) l c e,(yN (st:=st) l c e).binds b,r,o _ _ (yN (st:=st) l c e)⟩
def lw{P:Program}{w:World}{K:hB}{h:Heap}{i:hP}(X:K.In h)(G:h.Ns mainGlobals i){x:Str}{st:Stmt}{k:Nat}{t:Sp}{f:Addr}{C:Value}{A p:Option Addr}{B:Array (Option Value)}{kV g r j q:Value}{y:Addr}{n:Str}(m:i x=some (.ref y))(o:∀d:Heap,Ok P w K i d x st [n] k t)(a:PySem.W.nsIn K mainGlobals x=some (some (.ref f)):=by k_is)(l:K.lookup f=some ⟨C,A,.func (PySem.W.fnOf x x (kN st) (jB st) (aA st) .none kV g r p j q),B⟩:=by k_is)(c:PySem.W.codeIn K j x=true:=by k_is)(e:PySem.W.keepIn K (.ref f)=true:=by k_is)(b:∀(kV g r:Value) (p:Option Addr) (j q v:Value),bindArgs (PySem.W.fnOf x x (kN st) (jB st) (aA st) .none kV g r p j q) ⟨[v],[]⟩=pure [(n,v)]:=by intros;rfl):∃u:FuncData,(∀(s:Shared)(v:Value),BindsTo s u ⟨[v],[]⟩ [(n,v)])/\∀d:Heap,K.In d->d.Ns mainGlobals i->ϋ P w K i d (τ P w) k y u [n] t:=by
 cases m.symm.trans (kh X G a);exact⟨_,λs v=>.of_eq (b ..),λd _ _=>o d _ _ (df X G a l c e λ_ _ _ _ _ _ D z=>by obtain⟨v,rfl⟩:=us1 z;exact b ..)⟩
def dkN{w:World}{K:hB}(x:Str)(l:List (Str×Tok×Int×Tok)){a:Addr}{d:Nat}{b:List DictEntry}(f:(l.map (·.1)).Nodup)(_n:PySem.W.nsIn K mainGlobals x=some (some (.ref a)):=by k_is)(h:K.lookup a=some ⟨.type "dict",none,.dict ⟨b⟩ d,#[]⟩:=by k_is)(c:(a==sysModules)=false:=by rfl)(e:b=l.map λp=>DictEntry.mk (On w (.inr p.1)) (.str p.1 p.2.1) (.int p.2.2.1 p.2.2.2):=by rfl):DK w K a (l.map λp=>((.inr p.1:Key),V.int p.2.2.1)):=Si l c f h e
end Pb
set_option maxHeartbeats 4000000
namespace Pk
open PySem L2 Pb
seal L2.UQ L2.PS L2.PE L2.PT L2.PW L2.PA L2.PG L2.ZA L2.PI L2.PTs L2.PC L2.PPs L2.PO
abbrev top(i:Nat):Stmt:=Hd.top i
local macro_rules|`(tactic| walk_at "t") => `(tactic| (walk_at "s";walk_at ""))
local macro_rules|`(tactic| walk_at "") => `(tactic| ((try dsimp only [YW, NQ, KM, ES, J0, Dg, JQ, OJ, Hm, Fs, Ob, Lu, O0, LH, K6, Kp, Pe, PP, Mh, EF, NL, Lr, V9, DX, wR, LC, Kn, YB, NZ, KG, KS, P6, ipI, GO, Lz, C9, tB, C6, tC, x6, Xj, tUn, WQ, rI, rU, rEq, rNe, sd, F0, Lw, F1, We, Ph, PF, ZE, tBM, Oq, OU, Ou, DS, Lm, Lj, yq, Oc, tOr, Pn, KY, OC, tIf, List.nil_append, List.append_nil, List.set_cons_zero, List.set_cons_succ, List.getElem?_cons_zero, List.getElem?_cons_succ]);(try simp only [YW, NQ, KM, ES, J0, Dg, JQ, OJ, Hm, Fs, Ob, Lu, O0, LH, K6, Kp, Pe, PP, Mh, EF, NL, Lr, V9, DX, wR, LC, Kn, YB, NZ, KG, KS, P6, ipI, GO, Lz, C9, tB, C6, tC, x6, Xj, tUn, WQ, rI, rU, rEq, rNe, Qt, QS, QX, QY, Qi, Qn, sd, F0, Lw, F1, We, Ph, PF, ZE, tBM, Oq, OU, Ou, DS, Lm, Lj, yq, Oc, tOr, Pn, KY, OC, tIf, List.nil_append, List.append_nil, List.set_cons_zero, List.set_cons_succ, List.getElem?_cons_zero, List.getElem?_cons_succ, Option.some.injEq, V.int.injEq, V.bl.injEq, V.ref.injEq, List.cons.injEq, exists_eq_left, exists_eq_left', exists_and_left, exists_const, and_true, true_and, decide_eq_true_eq, Bool.not_eq_true', decide_eq_false_iff_not, Bool.true_eq_false, Bool.false_eq_true, if_true, if_false])))
local macro_rules|`(tactic| walk_at "v") => `(tactic| (intro _ _ _ _ h;first|(cases h;(have q := ‹_ = _ /\ _›);rw [q.1];rfl)|((repeat (obtain ⟨_, h⟩ := h));subst_vars;rfl)))
local macro_rules|`(tactic| walk_at "s") => `(tactic| simp only [L2.start, List.map_cons, List.map_nil, List.length_cons, List.length_nil, Nat.reduceAdd, Nat.reduceSub, List.replicate_succ, List.replicate_zero, List.cons_append, List.nil_append])
set_option genSizeOf false in
set_option genInjectivity false in
structure Txt(K:hB)(mg:hP) where
 TollError:Addr
 Yh:mg "TollError"=some (.ref TollError)
 BadWeb:Addr
 aaL:mg "BadWeb"=some (.ref BadWeb)
 NoPlace:Addr
 TV:mg "NoPlace"=some (.ref NoPlace)
 NoRoad:Addr
 Wx:mg "NoRoad"=some (.ref NoRoad)
 BadLaying:Addr
 S8:mg "BadLaying"=some (.ref BadLaying)
 BadWish:Addr
 RW:mg "BadWish"=some (.ref BadWish)
 NoWorst:Addr
 TX:mg "NoWorst"=some (.ref NoWorst)
 NoDeed:Addr
 Wy:mg "NoDeed"=some (.ref NoDeed)
 BadStep:Addr
 VE:mg "BadStep"=some (.ref BadStep)
 BadText:Addr
 VF:mg "BadText"=some (.ref BadText)
 Web:Addr
 Yi:mg "Web"=some (.ref Web)
 Outlook:Addr
 VG:mg "Outlook"=some (.ref Outlook)
 Tally:Addr
 XE:mg "Tally"=some (.ref Tally)
 Desk:Addr
 Zf:mg "Desk"=some (.ref Desk)
 Yj:aaB K TollError
 aaM:Ta K TollError BadWeb
 VH:Ta K TollError NoPlace
 VI:Bj K NoPlace
 aaN:Ta K TollError NoRoad
 Wz:Bj K NoRoad
 UK:Ta K TollError BadLaying
 UL:Bj K BadLaying
 VJ:Ta K TollError BadWish
 TY:Bj K BadWish
 Χ:Ta K TollError NoWorst
 VL:Bj K NoWorst
 WB:Ta K TollError NoDeed
 VM:Ta K TollError BadStep
 VN:Ta K TollError BadText
 Vr:[TollError,BadWeb,NoPlace,NoRoad,BadLaying,BadWish,NoWorst,NoDeed,BadStep,BadText].Nodup
 range:mg "range"=none
 zip:mg "zip"=none
 len:mg "len"=none
 isinstance:mg "isinstance"=none
 all:mg "all"=none
 int:mg "int"=none
 tuple:mg "tuple"=none
 list:mg "list"=none
 reversed:mg "reversed"=none
 sorted:mg "sorted"=none
 min:mg "min"=none
 max:mg "max"=none
 enumerate:mg "enumerate"=none
 sum:mg "sum"=none
 str:mg "str"=none
 set:mg "set"=none
 TJ:∃t,mg "MOST_PLACES"=some (.int 24 t)
 Uj:∃t,mg "LEAST_TOLL"=some (.int 2 t)
 UM:∃t,mg "MOST_TOLL"=some (.int 1000000 t)
 VO:∃t,mg "FIGURES"=some (.str "0123456789" t)
 TC:∃t,mg "MOST_FIGURES"=some (.int 60 t)
 Uk:∃t,mg "PIECE"=some (.int 1000000000000000000 t)
 Te:∃t,mg "PIECE_FIGURES"=some (.int 18 t)
 DEEDS:Addr
 XF:mg "DEEDS"=some (.ref DEEDS)
 XG:Y9 K DEEDS [.str "put",.str "want",.str "step",.str "back"]
 NUMBERS_BEHIND:Addr
 ϥ:mg "NUMBERS_BEHIND"=some (.ref NUMBERS_BEHIND)
 Ε:UR K Web
 Λ:Ι K Web "many"
 Tq:Ι K Web "roads"
 υ:UR K Outlook
 Υ:Ι K Outlook "web"
 zQ:Ι K Outlook "needs"
 ϝ:Ι K Outlook "kids"
 Vd:Ι K Outlook "idle"
 Η:UR K Tally
 ϡ:Ι K Tally "web"
 Nr:Ι K Tally "down"
 TZ:Ι K Tally "weights"
 yz:Ι K Tally "bearers"
 As:Ι K Tally "kids"
 Ul:Ι K Tally "rests"
 η:UR K Desk
 χ:Ι K Desk "web"
 S4:Ι K Desk "past"
section
variable{P:Program}{w:World}{K:hB}{L:hP}{base:Heap}{CX:Th}
def uH(T:Txt K L):Sp:=λb H Q _=>E3 λ(m:Int)(t:Addr)(a:List V)=>b=[.int m,.ref t]/\Α K H t a/\1<=m/\m<=24/\(a.length:Int)=m-1/\Q .ο H
abbrev pA:Stmt:=top 20
def Cj:ε ["many","roads"] ["many","roads"] (aA pA):=.of
def mQ:Ψ (aA pA) "MOST_PLACES":=.of
def Ca(T:Txt K L)(f:bI (τ P w)):Ok P w K L base "check_counts" pA ["many","roads"] 1 (uH T):=λ_ _ D=>by
 refine D.F.Ο Cj λo A a s H l Q E n h=>?_;obtain⟨m,t,c,rfl,b,e,i,j,k⟩:=h;refine⟨_,(aw (bU (nG (A7 wV wV aD (γ 0) (oJ mQ.g T.TJ (hd:=mQ.d)))) (ay kW) bE) (ay (bU (Ν ph (TB gN T.len (aa (γ 1) ap)) (aX jt (γ 0) aD)) (ay kW) bE))),?_⟩;walk_at "t";rw[aj e,ah (by lia)];exact⟨c,.inr b,by rw[ah (by lia)];exact k⟩
def AD(T:Txt K L):Sp:=λa H Q _=>∃m n:Int,a=[.int m,.int n]/\Q (.bl (decide (0<=n)&&decide (n<m))) H
abbrev xk:Stmt:=top 19
def Jd:ε ["many","number"] ["many","number"] (aA xk):=.of
def Jc(T:Txt K L)(b:bI (τ P w)):Ok P w K L base "is_place" xk ["many","number"] 1 (AD T):=λ_ _ D=>by
 refine D.F.Ο Jd λf A a s H d Q E e h=>?_;obtain⟨m,n,rfl,k⟩:=h;refine⟨_,(ay (aY (NX wV uY aD (γ 1) (γ 0)))),?_⟩;walk_at "t";by_cases c:0<=n
 .simpa[c]using k
 .simpa[c]using k
abbrev xD(P w base)(T:Txt K L):=Cb P w K L base "is_place" xk ["many","number"] 1 (AD T)
def xP(T:Txt K L):Sp:=λc H Q _=>E3 λ(m:Int)(p:Addr)(r:Road)=>c=[.int m,.ref p]/\H p=some (.tup (tf r))/\0<=r.a/\r.a<m/\0<=r.b/\r.b<m/\r.a≠r.b/\Q .ο H
abbrev ub:Stmt:=top 21
def FB:ε ["many","road"] ["many","road"] (aA ub):=.of
def FJ(T:Txt K L)(f:bI (τ P w))(e:xD P w base T):Ok P w K L base "check_ends" ub ["many","road"] 2 (xP T):=λ_ _ D=>by
 refine D.F.Ο FB λq A d s H o Q E g h=>?_;obtain⟨m,p,r,rfl,c,j,i,l,n,ne,k⟩:=h;refine⟨_,(aw (bU (PW.pt (zI (nG (lW (Θ e g f (aa (γ 0) (aa (ψ eM (γ 1) aD) ap))))) (CB (nG (lW (Θ e g f (aa (γ 0) (aa (ψ eM (γ 1) aD) ap)))))))) (ay kW) bE) (ay (bU (Ν cM (ψ eM (γ 1) aD) (ψ eM (γ 1) aD)) (ay kW) bE))),?_⟩;walk_at "t";refine Tv c rfl ⟨m,r.a,rfl,_,rfl,?_⟩;rw[ah (by simp[j,i])];refine Tv c rfl ⟨m,r.b,rfl,_,rfl,?_⟩;rw[ah (by simp[l,n])];refine Tv c rfl (Tv c rfl ⟨rfl,?_⟩);rw[ah (by simpa using ne)];exact k
def xO(T:Txt K L):Sp:=λd H Q _=>E4 λ(t:Addr)(c:hH)(a:ix)(n:Int)=>d=[.ref t,.int n]/\Α K H t (c.map V.ref)/\ν H c a/\a.length<=1000/\∀l b,H l=none->δ H b->b l=some (.lst ((gP a n).map V.int))->Q (.ref l) b
abbrev ux:Stmt:=top 24
def FQ:ε ["roads","place","ends","road"] ["roads","place"] (aA ux):=.of
def FE(T:Txt K L)(S:bI (τ P w)):Ok P w K L base "other_ends" ux ["roads","place"] 1 (xO T):=λ_ _ D=>by
 refine D.F.Ο FQ λξ A G s H Y Q E hr h=>?_;obtain⟨t,M,c,n,rfl,J,O,W,k⟩:=h;refine⟨_,(aw (Κ 2 (eL ap)) (aw (gf PassesOwn.never rfl (y4 (γ 0)) (ϊ 3) (aw (bU (Ν cM (ψ eM (γ 3) aD) (γ 1)) (ay (cH (TU (γ 2) (ψ eM (γ 3) aD)))) bE) (ay (bU (Ν cM (ψ eM (γ 3) aD) (γ 1)) (ay (cH (TU (γ 2) (ψ eM (γ 3) aD)))) bE)))) (ay (aY (γ 2))))),?_⟩;walk_at "t";refine⟨by decide,λl m=>?_⟩;have j:M.length=c.length:=Paired.length O;refine⟨⟨_,δ.tup (δ.new _ m) J⟩,DG (xs:=M.map V.ref) (λi q y=>y=upd H l (.lst ((gP (c.take i) n).map V.int))/\∃v,q=[some (.ref t),some (.int n),some (.ref l),v]) ⟨rfl,_,rfl⟩ (λi q y _ z=>by rw[z.1];exact δ.tup (δ.new _ m) J) ?_ ?_⟩
 .rintro i x q y hi ⟨rfl,v,rfl⟩;obtain⟨p,r,rfl,Z,I,N⟩:=O.get hi;have R:p≠l:=cC N m;have X:i<c.length:=(ax.mp I).1;have u:c.take (i+1)=c.take i++[r]:=by rw[bg,I];rfl
  have U:(gP (c.take i) n).length<=2000:=aW (GC _ _) (by rw[bq];lia);have f:∀o,upd H l o p=some (.tup (tf r)):=λo=>by rw[aM R];exact N
  walk_at "";refine Tv (f _) rfl ?_;walk_at "";have d:∀(C:fc),(gP (c.take i) n++C)=gP (c.take (i+1)) n->upd H l (.lst ((gP (c.take i) n).map V.int++C.map V.int))=upd H l (.lst ((gP (c.take (i+1)) n).map V.int)):=λC e=>by
   rw[<-aq,e]
  have B:uQ n r=(if r.a=n then[r.b]else[])++(if r.b=n then[r.a]else[]):=rfl;by_cases g:r.a=n
  .rw[aj g];refine⟨S9 au,Tv (f _) rfl (oS au (d8 (by rw[ag];lia)) ?_)⟩;rw[mB];refine Tv (f _) rfl ?_;walk_at "";by_cases cb:r.b=n
   .rw[aj cb];refine⟨S9 au,Tv (f _) rfl (oS au (d8 (by rw[aH,ag];simp;lia)) ?_)⟩;rw[mB,ci];exact⟨d [r.b,r.a] (by rw[u,u5,B,aj g,aj cb];rfl),_,rfl⟩
   .rw[ah cb];exact⟨d [r.b] (by rw[u,u5,B,aj g,ah cb];rfl),_,rfl⟩
  .rw[ah g];refine Tv (f _) rfl ?_;walk_at "";by_cases cb:r.b=n
   .rw[aj cb];refine⟨S9 au,Tv (f _) rfl (oS au (d8 (by rw[ag];lia)) ?_)⟩;rw[mB];exact⟨d [r.a] (by rw[u,u5,B,ah g,aj cb];rfl),_,rfl⟩
   .rw[ah cb];have:=d [] (by rw[u,u5,B,ah g,ah cb];rfl);rw[cG,cj]at this;exact⟨this,_,rfl⟩
 .rintro q y ⟨rfl,v,rfl⟩;rw[ag,j,bC];exact⟨_,rfl,k l _ m (δ.new _ m) au⟩
abbrev yV(P w base)(T:Txt K L):=Cb P w K L base "other_ends" ux ["roads","place"] 1 (xO T)
def pF(a:fc):List (Key×V):=a.map λk=>((Sum.inl k:Key),V.bl true)
def Fj(a:fc):(pF a).length=a.length:=by unfold pF;rw[ag]
def GZ(a:fc)(e:Int):oh (pF a) (Sum.inl e:Key)=if e∈a then some (V.bl true)else none:=by
 unfold pF
 induction a with
 | nil=>rfl
 | cons k a ih=>
   rw[aF];by_cases c:k=e
   .rw[wH (by rw[c]),aj (by rw[c];exact aL)]
   .rw[xo (λz=>c (Sum.inl.inj z)),ih];by_cases d:e∈a
    .rw[aj d,aj (aI _ d)]
    .rw[ah d,ah (λz=>by rcases aE.mp z with z|z;exact c z.symm;exact d z)]
def OB{a:fc}{e:Int}(h:e∉a):og (pF a) (Sum.inl e:Key) (V.bl true)=pF (a++[e]):=by
 rw[PH _ (by rw[GZ,ah h])];unfold pF;rw[aq]
 rfl
def uO(T:Txt K L):Sp:=λd H Q _=>E4 λ(m:Int)(t:Addr)(a:hH)(b:ix)=>d=[.int m,.ref t]/\Α K H t (a.map V.ref)/\ν H a b/\Good m b/\∀c,δ H c->Q .ο c
abbrev rD:Stmt:=top 23
def Cp:ε ["many","roads","reached","waiting","place","end"] ["many","roads"] (aA rD):=.of
def C5(T:Txt K L)(hq:bI (τ P w))(mD:yV P w base T):Ok P w K L base "check_joined" rD ["many","roads"] 2 (uO T):=λ_ _ D=>by
 refine D.F.Ο Cp λξ A ad s H vs Q E hr h=>?_;obtain⟨m,t,ps,j,rfl,ht,hp,g,k⟩:=h;have hu:=Sn hr;refine⟨_,(aw (Κ 2 (QT (Oh aD zN Qq) rfl rfl (List.cons_ne_nil _ _) (by decide))) (aw (Κ 3 (eL (aa aD ap))) (aw (uv PassesOwn.never (wQ (γ 3) (λ_=>rfl)) (aw (Κ 4 (yO dv PySem.F.slot_list_pop PySem.F.type_list_pop zc (γ 3))) (ay (gf PassesOwn.never rfl (iA (Θ mD hr hq (aa (γ 1) (aa (γ 4) ap)))) (ϊ 5) (ay (bU (CI (Nf hu (γ 5) (γ 2))) (aw (QA hu (γ 2) (γ 5) zN rfl) (ay (cH (TU (γ 3) (γ 5))))) bE)))))) (ay (bU (Ν ph (TB Mt T.len (aa (γ 2) ap)) (γ 0)) (ay kW) bE))))),?_⟩;walk_at "s";have m1:=g.m1;have Ζ:=g.Ζ;have a5:=g.len;walk_at "";intro d hd;refine⟨au,[(Sum.inl 0,.bl true)],rfl,by decide,?_⟩;rw[mB];refine⟨by decide,λf W=>?_⟩;have ed:wj [] [((Sum.inl 0:Key),V.bl true)]=pF [0]:=rfl;rw[ed];have v:f≠d:=λz=>by rw[z,au]at W;cases W
 have U:H f=none:=by rw[aM v]at W;exact W
 refine DF (λn G R=>E4 λ(C N:fc)(v4 I:Option V)=>n=2*(m.toNat-C.length)+N.length/\G=[some (.int m),some (.ref t),some (.ref d),some (.ref f),v4,I]/\δ H R/\R d=some (.dK (pF C))/\R f=some (.lst (N.map V.int))/\UH m j C N) _ ⟨[0],[0],none,none,rfl,rfl,?_,?_,au,UH.start m1⟩ ?_
 .exact δ.trans (δ.new _ hd) (δ.new _ W)
 .rw[aM v.symm,au]
 rintro n G R NW hN Vk ⟨C,N,v4,I,rfl,rfl,sm,h1,S,J⟩;have kl:=iL (by lia) J.nd J.ϓ;refine⟨_,rfl,!(N.map V.int).isEmpty,.inl ⟨_,ι.of S,rfl⟩,?_⟩;rcases fF N with rfl|⟨a,p,rfl⟩
 .-- nothing aiq: all places have bd reached
  have ar:=J.all m1 g.jn;refine RN ?_;walk_at "";refine⟨pF C,h1,?_⟩;rw[Fj,ah (by lia)];exact k _ sm
 .rw[fL]at J S hN Vk ⊢;have e1:(!(List.map V.int (a++[p])).isEmpty)=true:=by simp
  rw[e1];refine Sc ⟨NW,Vk,?_⟩;walk_at "";rw[aq,aF,cG]at S;refine⟨S9 S,NP S ?_⟩;have X:d≠f:=v.symm;have r:δ H (upd R f (.lst (a.map V.int))):=λb o e=>by rw[aM (cC e U)];exact sm b o e
  refine⟨t,ps,j,p,rfl,δ.tup r ht,ν.same r hp,by lia,λl H3 hn Y hl=>?_⟩;have af:f≠l:=cC (o:=.lst (a.map V.int)) au hn;have ac:d≠l:=cC (o:=.dK (pF C)) (by rw[aM X];exact h1) hn;have ba:H l=none:=r.free hn;refine⟨l,rfl,⟨_,ι.of hl⟩,uM (K:=K) (xs:=(gP j p).map V.int) (λi G B=>∃(I:Option V),G=[some (.int m),some (.ref t),some (.ref d),some (.ref f),some (.int p),I]/\δ H B/\B l=some (.lst ((gP j p).map V.int))/\∃u y:List Int,B d=some (.dK (pF u))/\B f=some (.lst (y.map V.int))/\Ud m j p ((gP j p).take i) u y C a.length) ?_ (λi G B _ z=>by obtain⟨_,_,_,z,_⟩:=z;exact ι.of z) ?_ ?_⟩
  .refine⟨_,rfl,r.trans Y,hl,C,a,?_,?_,?_⟩
   .exact Y _ _ (by rw[aM X];exact h1)
   .exact Y _ _ au
   .rw[dU];exact Ud.start J
  .rintro i x G B NI hI hi ⟨I,rfl,s4,hl4,u,y,hd4,hw4,M⟩;rw[aN]at hi;obtain⟨e,he,rfl⟩:∃e,(gP j p)[i]?=some e/\V.int e=x:=by
    cases q:(gP j p)[i]? with
    | none=>rw[q]at hi;cases hi
    | some e=>rw[q]at hi;exact⟨e,rfl,bF hi⟩
   have er:=PV g.ok (aP he);have et:(gP j p).take (i+1)=(gP j p).take i++[e]:=(by rw[bg,he];rfl);have st:=M.step er.1 er.2;have k4:=iL (by lia) M.nd M.ϓ;have Z:=M.mu;walk_at "";refine⟨_,Wg.k (k:=Sum.inl e) hd4,?_⟩;rw[GZ];by_cases c:e∈u
   .rw[aj c];rw[ah (by simp)];refine hI _ _ ⟨_,rfl,s4,hl4,u,y,hd4,hw4,?_⟩;rw[et];unfold CV at st;rw[aj c]at st;exact st
   .rw[ah c];rw[aj (by simp)];refine⟨_,Wh.k (k:=Sum.inl e) hd4 (d8 (by rw[Fj];lia)),?_⟩;rw[OB c];have O:upd B d (.dK (pF (u++[e]))) f=some (.lst (y.map V.int)):=(by rw[aM v];exact hw4);refine⟨S9 O,oS O (d8 (by rw[ag];have:=M.wl;lia)) ?_⟩;have bt:=M.mu;refine hI _ _ ⟨_,rfl,λb o z=>?_,?_,u++[e],y++[e],?_,?_,?_⟩
    .rw[aM (cC z U),aM (cC z hd)];exact s4 b o z
    .rw[aM af.symm,aM ac.symm];exact hl4
    .rw[aM X,au]
    .rw[au,aq];rfl
    .rw[et];unfold CV at st;rw[ah c]at st;exact st
  .rintro G B ⟨I,rfl,s4,hl4,u,y,hd4,hw4,M⟩;rw[ag,bC]at M;have k4:=iL (by lia) M.nd M.ϓ;have Z:=M.mu;have bm:=M.up;refine hN _ _ _ ?_ ⟨u,y,some (.int p),I,rfl,rfl,s4,hd4,hw4,M.done⟩;rw[aH];simp only[aO,dB]
   lia
def wz(T:Txt K L):Sp:=λb H Q _=>∃(p:Addr)(r:Road),b=[.ref p]/\H p=some (.tup (tf r))/\2<=r.t/\r.t<=1000000/\2<=r.u/\r.u<=1000000/\∀a,δ H a->Q .ο a
abbrev nK:Stmt:=top 22
def Ej:ε ["road","number"] ["road"] (aA nK):=.of
def oA:Ψ (aA nK) "LEAST_TOLL":=.of
def oZ:Ψ (aA nK) "MOST_TOLL":=.of
def DN(T:Txt K L)(G:bI (τ P w)):Ok P w K L base "check_tolls" nK ["road"] 1 (wz T):=λ_ _ D=>by
 refine D.F.Ο Ej λN A c s H J Q E M h=>?_;obtain⟨p,r,rfl,f,y,o,l,C,k⟩:=h;refine⟨_,(ay (gf PassesOwn.never rfl (y4 (hJ (aa (ψ eM (γ 0) aD) (aa (ψ eM (γ 0) aD) ap)))) (ϊ 1) (ay (bU (nG (A7 wV wV (oJ oA.g T.Uj (hd:=oA.d)) (γ 1) (oJ oZ.g T.UM (hd:=oZ.d)))) (ay kW) bE)))),?_⟩;walk_at "t";refine Tv f rfl (Tv f rfl ⟨bX (by simp),λq B=>?_⟩);have e:upd H q (.tup [.int r.t,.int r.u]) q=some (.tup [.int r.t,.int r.u]):=au;refine⟨⟨_,Α.of e⟩,DG (K:=K) (xs:=[.int r.t,.int r.u]) (λi a b=>b=upd H q (.tup [.int r.t,.int r.u])/\∃v,a=[some (.ref p),v]) ⟨rfl,_,rfl⟩ (λi a b _ z=>by rw[z.1];exact Α.of e) ?_ ?_⟩
 .rintro i x a b hi ⟨rfl,v,rfl⟩;have m:∃n:Int,x=.int n/\2<=n/\n<=1000000:=by
   match i,hi with
   | 0,hi=>exact⟨r.t,by simpa using hi.symm,y,o⟩
   | 1,hi=>exact⟨r.u,by simpa using hi.symm,l,C⟩
  obtain⟨n,rfl,j,I⟩:=m;walk_at "";rw[aj j,ah (by lia)];exact⟨_,rfl⟩
 .rintro a b ⟨rfl,v,rfl⟩;exact k _ (δ.new _ B)
def C8(m:Int)(t:Addr):List (Str×V):=bp "roads" (.ref t) (bp "many" (.int m) [])
def Sy:¬(("many":Str)="roads"):=by decide +kernel
def eP(m:Int)(t:Addr):(C8 m t).lookup ("many":Str)=some (.int m):=by
 unfold C8;rw[bR,ah Sy,bR,aj rfl]
def vy(m:Int)(t:Addr):(C8 m t).lookup ("roads":Str)=some (.ref t):=by
 unfold C8;rw[bR,aj rfl]
structure θ(C:Addr)(H:Hp)(p:Addr)(m:Int)(t:Addr)(ps:hH)(rs:ix):Prop where
 ob:∃dx,H p=some (.ins C dx (C8 m t))
 tu:H t=some (.tup (ps.map V.ref))
 ro:ν H ps rs
 go:Good m rs
def θ.same{C:Addr}{H c:Hp}{p:Addr}{m:Int}{t:Addr}{a:hH}{b:ix}(e:δ H c)(h:θ C H p m t a b):θ C c p m t a b:=⟨let ⟨dx,q⟩:=h.ob;⟨dx,e _ _ q⟩,e _ _ h.tu,ν.same e h.ro,h.go⟩
def qR(T:Txt K L):Sp:=λg H Q _=>E7 λ(p h:Addr)(m:Int)(c:Bool)(a:Addr)(d:hH)(e:ix)=>g=[.ref p,.int m,.ref a]/\H p=some (.ins T.Web h [])/\Ω K c H a (d.map V.ref)/\ν H d e/\Good m e/\∀t f,H t=none->θ T.Web f p m t d e->(∀b o,H b=some o->b≠p->f b=some o)->Q .ο f
abbrev rM:Stmt:=kL (top 15) 0
def CM:ε ["self","many","roads","kept","road"] ["self","many","roads"] (aA rM):=.of
def C3(T:Txt K L)(n:bI (τ P w))(qX:Cb P w K L base "check_counts" pA ["many","roads"] 1 (uH T))(ut:Cb P w K L base "check_ends" ub ["many","road"] 2 (xP T))(rd:Cb P w K L base "check_joined" rD ["many","roads"] 2 (uO T))(sG:Cb P w K L base "check_tolls" nK ["road"] 1 (wz T)):Vq P w K L base "__init__" "Web.__init__" rM ["self","many","roads"] 3 (qR T):=λ_ _ F=>by
 refine F.Ο CM λξ A W s H vs Q E R h=>?_;obtain⟨p,Z,m,c,a,d,rs,rfl,S,ha,f,g,k⟩:=h;refine⟨_,(aw (Κ 3 (iO gi T.tuple (aa (gG rfl (md (Nc:=["road"]) 1 (by decide +kernel) (by decide +kernel) rfl (by decide +kernel) rfl) (vT c (γ 2)) (λ_ _ _ _=>(d6 (i:=0) (show(["road"]:hU).Nodup from by decide +kernel) rfl (Or.inl rfl))) (λ_ _ _ _=>gu) (λ_ _ _ _=>(yo (Ek K rfl) (by rfl) T.tuple Oi (aa (pv 0) ap)))) ap))) (aw (cH (Θ qX R n (aa (γ 1) (aa (γ 3) ap)))) (aw (gf PassesOwn.never rfl (y4 (γ 3)) (ϊ 4) (aw (cH (Θ ut R n (aa (γ 1) (aa (γ 4) ap)))) (ay (cH (Θ sG R n (aa (γ 4) ap)))))) (aw (cH (Θ rd R n (aa (γ 1) (aa (γ 3) ap)))) (aw (lR (γ 0) (γ 1) rfl) (ay (lR (γ 0) (γ 3) rfl))))))),?_⟩;walk_at "t";refine⟨⟨_,ha⟩,λl I=>?_⟩;have ai:d.length=rs.length:=Paired.length f;have a4:=g.len;have Ζ:=g.Ζ;have aT:δ H (upd H l (.lst [])):=δ.new _ I;refine me (K:=K) (xs:=d.map V.ref) (λi G j J=>J=upd H l (.lst ((d.take i).map V.ref))/\G=(d.take i).map V.ref/\∃v,j=[v]) ⟨rfl,rfl,_,rfl⟩ (λi G j J _ ⟨z,_⟩=>by rw[z];exact δ.ϫ (δ.new _ I) ha) ?_ ?_
 .rintro i x G j J N hN hi ⟨rfl,rfl,v,rfl⟩;obtain⟨q,r,rfl,Y,h2,C⟩:=f.get hi;have nq:q≠l:=cC C I;have Tt:i<d.length:=(ax.mp Y).1;have et:d.take (i+1)=d.take i++[q]:=by rw[bg,Y];rfl
  walk_at "";refine⟨tf r,.inr ⟨Α.of (by rw[aM nq];exact C),au,d8 (by rw[ag,bq];lia),hN _ _ _ ⟨?_,?_,_,rfl⟩⟩⟩
  .rw[mB,et,aq];rfl
  .rw[et,aq];rfl
 .rintro G j J ⟨rfl,rfl,v,rfl⟩;rw[ag,bC];refine⟨l,rfl,d.map V.ref,.inl ⟨ι.of au,λt ht=>?_⟩⟩;have X:δ H (upd H l (.lst (d.map V.ref))):=δ.new _ I;have s2:δ (upd H l (.lst (d.map V.ref))) (upd (upd H l (.lst (d.map V.ref))) t (.tup (d.map V.ref))):=δ.new _ ht;have B:H t=none:=X.free ht;have u:∀{H':Hp},δ (upd (upd H l (.lst (d.map V.ref))) t (.tup (d.map V.ref))) H'->H' t=some (.tup (d.map V.ref)):=λe=>e _ _ au;refine⟨m,t,d.map V.ref,rfl,Α.of au,g.m1,g.Ζ,by rw[ag];lia,⟨_,Α.of au⟩,?_⟩;refine F7 (K:=K) (xs:=d.map V.ref) (λi j O=>δ (upd (upd H l (.lst (d.map V.ref))) t (.tup (d.map V.ref))) O/\∃v,j=[some (.ref p),some (.int m),some (.ref a),some (.ref t),v]) ⟨δ.refl _,_,rfl⟩ (λi j O _ ⟨z,_⟩=>Α.of (u z)) ?_ ?_
  .rintro i x j O N hN hi ⟨s3,v,rfl⟩;have D:=X.trans (s2.trans s3);obtain⟨q,r,rfl,Y,h2,C⟩:=f.get hi;have ok:=g.ok r (aP h2);walk_at "";refine⟨m,q,r,rfl,D _ _ C,ok.a0,ok.a1,ok.b0,ok.b1,ok.ne,?_⟩;exact⟨q,r,rfl,D _ _ C,ok.t0,ok.t1,ok.u0,ok.u1,λH4 M=>hN _ _ ⟨s3.trans M,_,rfl⟩⟩
  .rintro j O ⟨s3,v,rfl⟩;have D:=X.trans (s2.trans s3);walk_at "";refine⟨m,t,d,rs,rfl,Α.of (u s3),ν.same D f,g,λH4 M=>?_⟩;have y:=D.trans M;have U:t≠p:=λz=>by rw[z,S]at B;cases B
   refine⟨T.Web,Z,[],y _ _ S,T.Ε,T.Λ,by decide,?_⟩;refine⟨T.Web,Z,_,au,T.Ε,T.Tq,by show 1<1000;decide,?_⟩;rw[mB];refine k t _ B ⟨⟨Z,au⟩,?_,?_,g⟩ λb o hb nb=>?_
   .rw[aM U];exact u (s3.trans M)
   .refine Paired.imp' (λq r n=>?_) f;rw[aM (cZ n S (by nofun))];exact y _ _ n
   .rw[aM nb];exact y _ _ hb
def MF(T:Txt K L){H:Hp}{m:Int}{c:Bool}{a:Addr}{j:hH}{i:ix}{Q:Addr->Hp->Prop}(s:Ω K c H a (j.map V.ref))(r:ν H j i)(g:Good m i)(k:∀x t f,H x=none->H t=none->δ H f->θ T.Web f x m t j i->Q x f):∀x d,H x=none->H d=none->d≠x->qR T [.ref x,.int m,.ref a] (upd (upd H d (.own x)) x (.ins T.Web d [])) (λv u=>v=.ο/\Q x u) E0:=by
 intro x d n p ne;have l:upd H d (.own x) x=none:=by rw[aM ne.symm];exact n
 have h:δ H (upd (upd H d (.own x)) x (.ins T.Web d [])):=(δ.new _ p).trans (δ.new _ l);exact⟨x,d,m,c,a,j,i,rfl,au,δ.ϫ h s,ν.same h r,g,λt f q W y=>⟨rfl,k x t f n (h.free q) (λb o e=>y b o (h b o e) (cC e n)) W⟩⟩
abbrev vU(P w base)(T:Txt K L):=Cm P w K L base (Mk K T.Web) "__init__" "Web.__init__" rM ["self","many","roads"] 3 (qR T)
def yW(T:Txt K L):Sp:=λa H Q _=>∃(c:Int),a=[.int c]/\∀(p:Addr)(t u:Int),H p=none->2<=t->t<=1000000->2<=u->u<=1000000->Q (.ref p) (upd H p (.tup [.int t,.int u]))
abbrev vx:Stmt:=top 117
def Gp:ε ["t","there","back"] ["t"] (aA vx):=.of
def HR(T:Txt K L)(I:bI (τ P w)):Ok P w K L base "_law_tolls" vx ["t"] 1 (yW T):=λ_ _ D=>by
 refine D.F.Ο Gp λR A i s H N Q E O h=>?_;obtain⟨c,rfl,k⟩:=h;refine⟨_,(aw (Κ 1 (aX gc aD (aX eE (aX eY (γ 0) aD) aD))) (aw (Κ 2 (aX gc aD (aX eE (aX eY (γ 0) aD) aD))) (aw (bU (Ν cM (aX eE (γ 0) aD) aD) (ay (Κ 2 (γ 1))) bE) (aw (bU (PW.pt (t7 (Ν cM (aX eE (γ 0) aD) aD) (rN (Ν cM (aX eE (aX eY (γ 0) aD) aD) aD)))) (aw (Κ 1 (aX gc aD (aX eE (aX eY (γ 0) aD) aD))) (ay (Κ 2 (aX gc aD (aX eE (aX eY (aX eY (γ 0) aD) aD) aD))))) bE) (ay (aY (hJ (aa (γ 1) (aa (γ 2) ap))))))))),?_⟩;walk_at "s";have f:∀{x n:Int},0<n->n<=999999->2<=2+x%n/\2+x%n<=1000000:=λ{x n} h l=>by
  have:=cL x (lP h);have:=cP x h
  lia
 refine db λM r=>?_;walk_at "";refine⟨⟨by decide,by decide⟩,by decide,r _ _ (db λJ m=>?_)⟩;have d:=f (x:=c/4) (n:=3) (by decide) (by decide);generalize 2+c/4%3=t at d ⊢;walk_at "";refine⟨⟨by decide,by decide⟩,by decide,m _ _ (db λv C=>lN λA B g e=>?_)⟩;have b:=f (x:=c/12) (n:=3) (by decide) (by decide);generalize 2+c/12%3=u at b ⊢;clear r m;have o:∀u,2<=u/\u<=1000000->v [some (V.int c),some (V.int t),some (V.int u)] H:=λu b=>by
  refine C _ _ (db λy G=>lN λA B g e=>?_);have a:∀{t u:Int},2<=t/\t<=1000000->2<=u/\u<=1000000->y [some (V.int c),some (V.int t),some (V.int u)] H:=λq j=>by
   refine G _ _ ?_;walk_at "";exact⟨bX (by simp),λp z=>k p _ _ z q.1 q.2 j.1 j.2⟩
  walk_at "";refine⟨by decide,?_⟩;split
  .refine⟨⟨by decide,by decide⟩,by decide,?_⟩;split
   .refine g _ _ ?_;walk_at "";exact⟨⟨by decide,by decide⟩,by decide,⟨by decide,by decide⟩,⟨by decide,by decide⟩,by decide,a (f (by decide) (by decide)) (f (by decide) (by decide))⟩
   .exact e _ _ (a d b)
  .exact e _ _ (a d b)
 walk_at "";refine⟨by decide,?_⟩;split
 .refine g _ _ ?_;walk_at "";exact o t d
 .exact e _ _ (o u b)
def sS(b a:Addr):List (Str×V):=bp "past" (.ref a) (bp "web" (.ref b) [])
def yB(a b:Addr):(sS a b).lookup ("web":Str)=some (.ref a):=by
 unfold sS;rw[bR,ah (by decide +kernel),bR,aj rfl]
def qv(b a:Addr):(sS b a).lookup ("past":Str)=some (.ref a):=by
 unfold sS;rw[bR,aj rfl]
def HN{a d:Addr}{m:Str}(c:¬m="past")(b:¬m="web"):(sS a d).lookup m=none:=by
 unfold sS;rw[bR,ah c,bR,ah b]
 rfl
def UN(H:Hp)(q:Addr)(s:List Int×List Int):Prop:=∃a b,H q=some (.tup [.ref a,.ref b])/\H a=some (.tup (s.1.map V.int))/\H b=some (.tup (s.2.map V.int))
structure π(C O:Addr)(H:Hp)(o wb pl:Addr)(m:Int)(t:Addr)(ps:hH)(rs:ix)(ς:List (List Int×List Int)):Prop where
 ob:∃dx,H o=some (.ins O dx (sS wb pl))
 web:θ C H wb m t ps rs
 pa:∃qs:List Addr,H pl=some (.lst (qs.map V.ref))/\Paired (UN H) qs ς
def π.same{C O:Addr}{H i:Hp}{o j d:Addr}{m:Int}{t:Addr}{g:hH}{c:ix}{f:List (List Int×List Int)}(e:δ H i)(h:π C O H o j d m t g c f):π C O i o j d m t g c f:=⟨let ⟨dx,q⟩:=h.ob;⟨dx,e _ _ q⟩,h.web.same e,let ⟨qs,h1,h2⟩:=h.pa;⟨qs,e _ _ h1,Paired.imp' (λq s ⟨a,b,x,y,z⟩=>⟨a,b,e _ _ x,e _ _ y,e _ _ z⟩) h2⟩⟩
def UN.UW{H d:Hp}{l q:Addr}{s:List Int×List Int}{f:List V}(e:Ϙ l H d)(c:H l=some (.lst f))(h:UN H q s):UN d q s:=by
 obtain⟨a,b,x,y,z⟩:=h;exact⟨a,b,e _ _ x (cZ x c (by nofun)),e _ _ y (cZ y c (by nofun)),e _ _ z (cZ z c (by nofun))⟩
def θ.WC{C:Addr}{H d:Hp}{l p:Addr}{m:Int}{t:Addr}{b:hH}{c:ix}{f:List V}(e:Ϙ l H d)(a:H l=some (.lst f))(h:θ C H p m t b c):θ C d p m t b c:=⟨let ⟨dx,q⟩:=h.ob;⟨dx,e _ _ q (cZ q a (by nofun))⟩,e _ _ h.tu (cZ h.tu a (by nofun)),Paired.imp' (λq x z=>e _ _ z (cZ z a (by nofun))) h.ro,h.go⟩
def θ.Zh{C O:Addr}{H f:Hp}{o p:Addr}{m:Int}{t a:Addr}{d:hH}{c:ix}{g:List (Str×V)}(e:Ϙ o H f)(b:H o=some (.ins O a g))(h:θ C H p m t d c)(n:p≠o:=by assumption):θ C f p m t d c:=⟨let ⟨a,q⟩:=h.ob;⟨a,e _ _ q n⟩,e _ _ h.tu (cZ h.tu b (by nofun)),Paired.imp' (λq x z=>e _ _ z (cZ z b (by nofun))) h.ro,h.go⟩
def π.UW{C O:Addr}{H g:Hp}{o i b l:Addr}{m:Int}{t:Addr}{f:hH}{c:ix}{d:List (List Int×List Int)}{j:List V}(e:Ϙ l H g)(a:H l=some (.lst j))(n:b≠l)(h:π C O H o i b m t f c d):π C O g o i b m t f c d:=⟨let ⟨dx,q⟩:=h.ob;⟨dx,e _ _ q (cZ q a (by nofun))⟩,h.web.WC e a,let ⟨qs,h1,h2⟩:=h.pa;⟨qs,e _ _ h1 n,Paired.imp' (λq s x=>x.UW e a) h2⟩⟩
def π.last{C O:Addr}{H:Hp}{o p e:Addr}{m:Int}{t:Addr}{k:hH}{i:ix}{f:List (List Int×List Int)}{s:List Int×List Int}(h:π C O H o p e m t k i (f++[s])):E4 λ(c:hH)(q a b:Addr)=>H e=some (.lst ((c++[q]).map V.ref))/\Paired (UN H) c f/\ϳ ((c++[q]).map V.ref) (-1)=some (.ref q)/\H q=some (.tup [.ref a,.ref b])/\H a=some (.tup (s.1.map V.int))/\H b=some (.tup (s.2.map V.int)):=by
 obtain⟨c,r,g⟩:=h.pa;obtain⟨d,q,rfl,l,a,b,n,u,j⟩:=sW g;refine⟨d,q,a,b,r,l,?_,n,u,j⟩;rw[aq];exact El _ _
def π.Τ{C O:Addr}{H:Hp}{o g d:Addr}{m:Int}{t:Addr}{f:hH}{c:ix}{e:List (List Int×List Int)}(h:π C O H o g d m t f c e){mt:Str}{R:Prop}(q:R)(i:¬mt="past":=by decide +kernel)(b:¬mt="web":=by decide +kernel):∃x a,H o=some (.ins O x a)/\a.lookup mt=none/\R:=let ⟨dx,ob⟩:=h.ob;⟨dx,_,ob,HN i b,q⟩
def π.V3{C O:Addr}{H:Hp}{o c e:Addr}{m:Int}{t:Addr}{i:hH}{d:ix}{f:List (List Int×List Int)}(T:UR K O)(g:Ι K O "web")(h:π C O H o c e m t i d f){R:V->Prop}(q:R (.ref c)):∃x j a,H o=some (.ins x j a)/\UR K x/\Ι K x "web"/\∃b,a.lookup ("web":Str)=some b/\R b:=let ⟨dx,ob⟩:=h.ob;⟨O,dx,_,ob,T,g,_,yB _ _,q⟩
def p5(T:Txt K L):Sp:=λg H Q _=>E7 λ(o h w t:Addr)(m:Int)(c:hH)(d:ix)=>g=[.ref o,.ref w]/\H o=some (.ins T.Desk h [])/\θ T.Web H w m t c d/\∀f e i a,H e=none->π T.Web T.Desk a o f e m i c d [(aC m,aC m)]->(∀b x,H b=some x->b≠o->a b=some x)->Q .ο a
abbrev ow:Stmt:=kL (top 107) 0
def BQ:ε ["self","web","noughts"] ["self","web"] (aA ow):=.of
def qz:Ψ (aA ow) "Web":=.of
def AO(T:Txt K L)(hq:bI (τ P w))(gX:vU P w base T):Vq P w K L base "__init__" "Desk.__init__" ow ["self","web"] 5 (p5 T):=λ_ _ F=>by
 refine F.Ο BQ λξ A Z s H vs Q E hr h=>?_;obtain⟨o,f,w,t,m,ps,rs,rfl,X,W,k⟩:=h;have g:=W.go;have Ζ:=g.Ζ;have m1:=g.m1;obtain⟨dw,wb⟩:=W.ob;refine⟨_,(aw (lR (γ 0) (wE gX.M gX.G (hr.mono (by decide)) qz.g T.Yi gX.b .nil (d7 hq) (aa (cq (γ 1) rfl) (aa (cq (γ 1) rfl) ap)) (hdb:=qz.d)) rfl) (aw (Κ 2 (iO gi T.tuple (aa (aX oU (eL (aa aD ap)) (cq (γ 1) rfl)) ap))) (ay (lR (γ 0) (eL (aa (hJ (aa (γ 2) (aa (γ 2) ap))) ap)) rfl)))),?_⟩;walk_at "t";refine⟨T.Web,dw,_,wb,T.Ε,T.Λ,_,eP _ _,T.Web,dw,_,wb,T.Ε,T.Tq,_,vy _ _,?_⟩;refine MF T (c:=false) (Α.of W.tu) W.ro g λx tw j hx bS D W1=>?_;have n:=D _ _ X;have bx:x≠o:=λz=>by rw[z,X]at hx;cases hx
 have bV:w≠o:=cZ wb X (by
  intro z;injection z with _ _ z
  have:=eP m t;rw[z]at this;cases this)
 refine⟨T.Desk,f,[],n,T.η,T.χ,by decide,by decide,λl1 n1=>?_⟩;have k1:Ϙ o H (upd j o (.ins T.Desk f (bp "web" (.ref x) []))):=(Ϙ.refl.then D).put _;have S:upd j o (.ins T.Desk f (bp "web" (.ref x) [])) o=some (.ins T.Desk f (bp "web" (.ref x) [])):=au;have J:Ϙ o j (upd j o (.ins T.Desk f (bp "web" (.ref x) []))):=Ϙ.refl.put _;have kn:∀{p:Addr},upd j o (.ins T.Desk f (bp "web" (.ref x) [])) p=none->j p=none:=λ{p} h=>by
  cases e:j p with
  | none=>rfl
  | some y=>
    by_cases z:p=o
    .rw[z,S]at h;cases h
    .rw[J p y e z]at h;cases h
 have W2:θ T.Web (upd j o (.ins T.Desk f (bp "web" (.ref x) []))) x m tw ps rs:=W1.Zh J n;have C:θ T.Web (upd j o (.ins T.Desk f (bp "web" (.ref x) []))) w m t ps rs:=(W.same D).Zh J n;generalize upd j o (.ins T.Desk f (bp "web" (.ref x) []))=H2 at k1 S J kn W2 C n1 ⊢;obtain⟨R,af⟩:=C.ob;have v1:=δ.new (.lst [V.int 0]) n1;refine⟨T.Web,R,_,v1 _ _ af,T.Ε,T.Λ,_,eP _ _,?_⟩;refine⟨l1,m,[V.int 0],rfl,rfl,au,by lia,by lia,bX (by simp;lia),λI n2=>?_⟩;rw[rp,<-Ed];have v2:=v1.trans (δ.new (.lst ((aC m).map V.int)) n2);have e2:upd (upd H2 l1 (.lst [V.int 0])) I (.lst ((aC m).map V.int)) I=some (.lst ((aC m).map V.int)):=au;generalize upd (upd H2 l1 (.lst [V.int 0])) I (.lst ((aC m).map V.int))=H3 at v2 e2 ⊢;refine⟨I,rfl,_,.inl ⟨ι.of e2,λa n3=>?_⟩⟩;have v3:=v2.trans (δ.new (.tup ((aC m).map V.int)) n3);have e3:upd H3 a (.tup ((aC m).map V.int)) a=some (.tup ((aC m).map V.int)):=au;generalize upd H3 a (.tup ((aC m).map V.int))=H4 at v3 e3 ⊢;refine⟨bX (by simp),λl n4=>⟨bX (by simp),λq n5=>?_⟩⟩;have v4:=v3.trans (δ.new (.tup [V.ref a,V.ref a]) n4);have e4:upd H4 l (.tup [V.ref a,V.ref a]) l=some (.tup [V.ref a,V.ref a]):=au;have B:=δ.new (.tup [V.ref a,V.ref a]) n4 _ _ e3;generalize upd H4 l (.tup [V.ref a,V.ref a])=H5 at v4 e4 B n5 ⊢;have r:=δ.new (.lst [V.ref l]) n5;have N:=v4.trans r;have O:upd H5 q (.lst [V.ref l]) q=some (.lst [V.ref l]):=au;have U:=r _ _ e4;have i:=r _ _ B;have Y:=v4.free n5;generalize upd H5 q (.lst [V.ref l])=H6 at N O U i ⊢;have v:=N _ _ S;refine⟨T.Desk,f,_,v,T.η,T.S4,by show 1<1000;decide,?_⟩;have u:Ϙ o H6 (upd H6 o (.ins T.Desk f (sS x q))):=Ϙ.refl.put _;have ai:H q=none:=D.free (kn Y);show Q .ο (upd H6 o (.ins T.Desk f (sS x q)));refine k x q tw _ ai ⟨⟨f,au⟩,(W2.same N).Zh u v,[l],u _ _ O (cZ O v (by nofun)),.cons ⟨a,a,u _ _ U (cZ U v (by nofun)),u _ _ i (cZ i v (by nofun)),u _ _ i (cZ i v (by nofun))⟩ .nil⟩ ?_;exact λb x hb nb=>u _ _ (N _ _ (k1 b x hb nb)) nb
def Qj(T:Txt K L){H:Hp}{x p:Addr}{m:Int}{i:hH}{h:ix}{Q:Addr->Hp->Prop}{E:XK}(W:θ T.Web H x m p i h)(k:∀o n d t c,H o=none->H d=none->δ H c->π T.Web T.Desk c o n d m t i h [(aC m,aC m)]->Q o c):∀y a,H y=none->H a=none->a≠y->p5 T [.ref y,.ref x] (upd (upd H a (.own y)) y (.ins T.Desk a [])) (λv r=>v=.ο/\Q y r) E:=by
 intro y a f j ne;have l:upd H a (.own y) y=none:=by rw[aM ne.symm];exact f
 have g:δ H (upd (upd H a (.own y)) y (.ins T.Desk a [])):=(δ.new _ j).trans (δ.new _ l);exact⟨y,a,x,p,m,i,h,rfl,au,W.same g,λn d t c q D s=>⟨rfl,k y n d t c f (g.free q) (λb o e=>s b o (g b o e) (cC e f)) D⟩⟩
def wA(T:Txt K L):Sp:=λc H Q E=>E6 λ(p t:Addr)(m:Int)(a:hH)(b:ix)(n:Int)=>c=[.ref p,.int n]/\θ T.Web H p m t a b/\(0<=n->n<m->Q .ο H)/\(¬(0<=n/\n<m)->E (.ref T.NoPlace) none H)
abbrev p3:Stmt:=top 18
def DL:ε ["web","number"] ["web","number"] (aA p3):=.of
def pU:Ψ (aA p3) "NoPlace":=.of
def En(T:Txt K L)(j:bI (τ P w))(b:xD P w base T):Ok P w K L base "check_place" p3 ["web","number"] 2 (wA T):=λ_ _ D=>by
 refine D.F.Ϻ DL λr A a s H q Q E f h=>?_;obtain⟨p,t,m,o,l,n,rfl,W,k,e⟩:=h;obtain⟨i,ob⟩:=W.ob;refine⟨_,(ay (bU (nG (lW (Ξ b f bT (aa (cq (γ 0) rfl) (aa (γ 1) ap))))) (ay (rH T.VI rfl tK pU.g T.TV (aa bH ap) (hdb:=pU.d))) bE)),?_⟩;walk_at "t";refine⟨T.Web,i,_,ob,T.Ε,T.Λ,_,eP m t,m,n,rfl,_,rfl,?_⟩;by_cases c:0<=n/\n<m
 .rw[ah (by simp[c.1,c.2])];exact k c.1 c.2
 .rw[aj (by simpa[bG]using c)];exact⟨by decide,e c⟩
abbrev lJ(P w base)(T:Txt K L):=Cb P w K L base "check_place" p3 ["web","number"] 2 (wA T)
def xM(T:Txt K L):Sp:=λe H Q E=>E6 λ(p t:Addr)(m:Int)(d:hH)(c:ix)(a:Int)=>e=[.ref p,.int a]/\θ T.Web H p m t d c/\(∀l b,0<=a->a<m->H l=none->δ H b->b l=some (.lst ((jM m c a).map V.int))->Q (.ref l) b)/\(¬(0<=a/\a<m)->E (.ref T.NoPlace) none H)
abbrev uf:Stmt:=top 17
def Fz:ε ["web","a"] ["web","a"] (aA uf):=.of
def FW(T:Txt K L)(C:bI (τ P w))(o:lJ P w base T)(u:yV P w base T):Ok P w K L base "neighbours" uf ["web","a"] 3 (xM T):=λ_ _ D=>by
 refine D.F.Ϻ Fz λM A c s H J Q E n h=>?_;obtain⟨p,t,m,g,b,a,rfl,W,k,e⟩:=h;obtain⟨z,ob⟩:=W.ob;refine⟨_,(aw (cH (Ξ o n bT (aa (γ 0) (aa (γ 1) ap)))) (ay (aY (TB IQ T.sorted (aa (Ξ u n bT (aa (cq (γ 0) rfl) (aa (γ 1) ap))) ap))))),?_⟩;walk_at "t";refine⟨p,t,m,g,b,a,rfl,W,λi f=>?_,e⟩;have d:(b.length:Int)=m-1:=W.go.len;have Ζ:=W.go.Ζ;refine⟨T.Web,z,_,ob,T.Ε,T.Tq,_,vy m t,t,g,b,a,rfl,Α.of W.tu,W.ro,by lia,λy B I l v=>?_⟩;refine⟨y,rfl,gP b a,ι.of v,by have:=GC b a;lia,λr G j q x=>?_⟩;rw[Qr W.go i f q x];exact k r _ i f (l.free j) (l.trans (δ.new _ j)) au
abbrev xX(P w base)(T:Txt K L):=Cb P w K L base "neighbours" uf ["web","a"] 3 (xM T)
def Jp(T:Txt K L):Sp:=λf H Q _=>E7 λ(p t:Addr)(m:Int)(e:hH)(d:ix)(a:Int)(b:V)=>f=[.ref p,.int a,b]/\θ T.Web H p m t e d/\0<=a/\a<m/\(b=.ο\/∃i,b=.int i)/\∀l c,H l=none->δ H c->c l=some (.lst ((cF m d b a).map V.int))->Q (.ref l) c
abbrev Hy:Stmt:=top 34
def QU:ε ["web","place","front"] ["web","place","front"] (aA Hy):=.of
def Qv(T:Txt K L)(G:bI (τ P w))(U:xX P w base T):Ok P w K L base "kids" Hy ["web","place","front"] 4 (Jp T):=λ_ _ D=>by
 refine D.F.Ο QU λξ A r s H vs Q E Y h=>?_;obtain⟨p,t,m,R,d,a,f,rfl,W,S,O,J,k⟩:=h;have Ζ:=W.go.Ζ;refine⟨_,(ay (aY (gG rfl (UT ["near","front"] 1 [2]) (iA (Θ U Y G (aa (γ 0) (aa (γ 1) ap)))) (λ_ _ _ _=>(d6 (i:=0) (show(["near","front"]:hU).Nodup from by decide +kernel) rfl (Or.inl rfl))) (λ_ _ _ _=>(D2 (Ν ph (pv 0) (pv 1)))) (λ_ _ _ _=>(pv 0))))),?_⟩;walk_at "t";have nl:(jM m d a).length<=24:=by
  have:=bP (λq=>decide (q∈gP d a)) (b7 m.toNat);rw[b6]at this;unfold jM
  lia
 refine⟨p,t,m,R,d,a,rfl,W,λB C _ _ n1 y x=>⟨B,rfl,⟨_,ι.of x⟩,λn o=>?_⟩,λz=>absurd ⟨S,O⟩ z⟩;have Z:H n=none:=y.free o;refine me (c:=true) (K:=K) (a:=B) (xs:=(jM m d a).map V.int) (λj g l e=>δ C e/\e n=some (.lst g)/\g=(((jM m d a).take j).filter λv=>decide (V.int v≠f)).map V.int/\∃v,l=[v,some f]) ⟨δ.new _ o,au,rfl,_,rfl⟩ (λj g l e _ z=>ι.of (z.1 _ _ x)) ?_ ?_
 .rintro j xj g l e N hN hj ⟨s2,h2,rfl,v,rfl⟩;rw[aN]at hj;obtain⟨b,I,rfl⟩:=ck.mp hj;have u:(jM m d a).take (j+1)=(jM m d a).take j++[b]:=by rw[bg,I];rfl
  have ll:(((jM m d a).take j).filter λv=>decide (V.int v≠f)).length<=24:=by
   have X:=bP (λv=>decide (V.int v≠f)) ((jM m d a).take j);rw[bq]at X
   lia
  walk_at "";have M:uo (V.int b) f=true:=by
   rcases J with rfl|⟨i,rfl⟩<;>rfl
  refine⟨M,?_⟩;by_cases c:V.int b=f
  .rw[ah (λz=>z c)];refine hN _ _ _ ⟨s2,h2,?_,_,rfl⟩;rw[u,cw];simp[c]
  .rw[aj c];refine⟨h2,d8 (by rw[ag];lia),hN _ _ _ ⟨s2.put o _,au,?_,_,rfl⟩⟩;rw[u,cw];simp[c]
 .rintro g l e ⟨s2,h2,rfl,v,rfl⟩;rw[ag,bC]at h2;exact k n e Z (y.trans s2) h2
abbrev BZ(P w base)(T:Txt K L):=Cb P w K L base "kids" Hy ["web","place","front"] 4 (Jp T)
def G8(T:Txt K L):Sp:=λf H Q E=>E6 λ(p t:Addr)(m:Int)(e:hH)(d:ix)(r:Int)=>f=[.ref p,.int r]/\θ T.Web H p m t e d/\(0<=r->r<m->∃a b,ζ m d r a b/\∀l c,H l=none->δ H c->c l=some (.lst (oj m r a))->Q (.ref l) c)/\(¬(0<=r/\r<m)->E (.ref T.NoPlace) none H)
abbrev DA:Stmt:=top 32
def OD:ε ["web","r","nearer","waiting","place","front","kid"] ["web","r"] (aA DA):=.of
def NR(T:Txt K L)(hq:bI (τ P w))(dG:lJ P w base T)(jm:BZ P w base T):Ok P w K L base "ahead" DA ["web","r"] 5 (G8 T):=λ_ _ D=>by
 refine D.F.Ϻ OD λξ A an s H vs Q E hr h=>?_;obtain⟨p,t,m,ps,Y,r,rfl,W,k,e⟩:=h;obtain⟨dx,ob⟩:=W.ob;have g:=W.go;have Ζ:=g.Ζ;refine⟨_,(aw (cH (Ξ dG hr bT (aa (γ 0) (aa (γ 1) ap)))) (aw (Κ 2 (aX oU (eL (aa qy ap)) (cq (γ 0) rfl))) (aw (Κ 3 (eL (aa (γ 1) ap))) (aw (uv PassesOwn.leaving (wQ (γ 3) (λ_=>rfl)) (aw (Κ 4 (yO dv PySem.F.slot_list_pop PySem.F.type_list_pop zc (γ 3))) (aw (Κ 5 (ψ bu (γ 2) (γ 4))) (ay (gf PassesOwn.leaving rfl (iA (Ξ jm hr bT (aa (γ 0) (aa (γ 4) (aa (γ 5) ap))))) (ϊ 6) (aw (jq (γ 4) (nL (γ 2) (γ 6) gJ)) (ay (cH (TU (γ 3) (γ 6)))))))))) (ay (aY (γ 2))))))),?_⟩;walk_at "t";refine⟨p,t,m,ps,Y,r,rfl,W,λr0 r1=>?_,e⟩;obtain⟨par,cc,R,k⟩:=k r0 r1;refine⟨by decide,λl1 n1=>?_⟩;have s1:=δ.new (.lst [V.ο]) n1;refine⟨T.Web,dx,_,s1 _ _ ob,T.Ε,T.Λ,_,rfl,?_⟩;refine⟨l1,m,[V.ο],rfl,rfl,au,by lia,by lia,bX (by simp;lia),λb n2=>?_⟩;have WD:H b=none:=s1.free n2;rw[rp,<-RY (par:=par)];have s2:=s1.trans (δ.new (.lst (nl m par [])) n2);refine⟨bX (by simp),λa n3=>?_⟩;have Zi:H a=none:=s2.free n3;have l:a≠b:=λz=>by rw[z,au]at n3;cases n3
 have s3:=s2.trans (δ.new (.lst [V.int r]) n3);have e2:upd (upd (upd H l1 (.lst [V.ο])) b (.lst (nl m par []))) a (.lst [V.int r]) b=some (.lst (nl m par [])):=by rw[aM l.symm,au]
 have X:upd (upd (upd H l1 (.lst [V.ο])) b (.lst (nl m par []))) a (.lst [V.int r]) a=some (.lst [V.int r]):=au;generalize upd (upd (upd H l1 (.lst [V.ο])) b (.lst (nl m par []))) a (.lst [V.int r])=H3 at s3 e2 X ⊢;refine Em (λn y j=>E5 λ(C N:fc)(v4 v5 I:Option V)=>n=2*(m.toNat-C.length)+N.length/\y=[some (.ref p),some (.int r),some (.ref b),some (.ref a),v4,v5,I]/\δ H j/\j b=some (.lst (nl m par C))/\j a=some (.lst (N.map V.int))/\Ϥ m Y r par C N) (2*m.toNat+1) ⟨[],[r],_,_,_,rfl,rfl,s3,e2,X,Ϥ.start⟩ ?_;rintro n y j NW BB M hN Vk ⟨C,N,v4,v5,I,rfl,rfl,s4,h2,S,J⟩;refine M _ _ _ ?_;have kl:=iL (by lia) J.nd J.ϓ;walk_at "";refine⟨_,.inl ⟨_,ι.of S,rfl⟩,?_⟩;rcases fF N with rfl|⟨ws',q,rfl⟩
 .rw[ah (by simp)];rw[J.done R]at h2;exact k b j WD s4 h2
 .rw[fL]at J S hN Vk ⊢;rw[aj (by simp)];have hq:q∈ws'++[q]:=bw _ (aG.mpr rfl);have B:=J.at_ r0 r1 hq;have G:=J.step g R r0 r1 (p:=q) (ws':=ws') (kI q ws');refine⟨NW,λca H' z=>?_,?_⟩
  .obtain⟨m',lt,VC,WG,a4,a5,a6,e1,e2,X⟩:=Vk _ _ z
   first|exact⟨m',lt,VC,WG,a4,a5,a6,e1,e2,X⟩|exact⟨m',lt,VC,WG,e1,a4,a5,a6,e2,X⟩
  rw[aq,aF,cG]at S;refine⟨S9 S,NP S ?_⟩;have s5:δ H (upd j a (.lst (ws'.map V.int))):=s4.put Zi _;have f:upd j a (.lst (ws'.map V.int)) b=some (.lst (nl m par C)):=by rw[aM l.symm];exact h2
  have u:upd j a (.lst (ws'.map V.int)) a=some (.lst (ws'.map V.int)):=au;generalize upd j a (.lst (ws'.map V.int))=H5 at s5 f u ⊢;refine Γ f (fR B.1 (Ma B.1 B.2)) ?_;rw[J.front hq];have a2:Pb.front r par q=.ο\/∃i,Pb.front r par q=.int i:=by
   unfold Pb.front;by_cases c:q=r
   .rw[aj c];exact .inl rfl
   .rw[ah c];exact .inr ⟨_,rfl⟩
  have mk:∀v,v∈cF m Y (Pb.front r par q) q->(0<=v/\v<m)/\v≠r/\par v=q:=λv=>(dg g R B.1 B.2).mp;refine⟨p,t,m,ps,Y,q,_,rfl,W.same s5,B.1,B.2,a2,λO H6 U s6 e6=>⟨O,rfl,⟨_,ι.of e6⟩,?_⟩⟩;generalize cF m Y (Pb.front r par q) q=d at mk e6 G ⊢;have co:H O=none:=s5.free U;have aT:O≠b:=λz=>by rw[z,f]at U;cases U
  have a0:O≠a:=λz=>by rw[z,u]at U;cases U
  have ar:=iL (by lia) G.nd G.ϓ;rw[aH]at ar;have a7:=iL (by lia) G.ZI λw hw=>G.at_ r0 r1 hw;rw[aH]at a7;refine jL (K:=K) (xs:=d.map V.int) (λi y o=>∃I,y=[some (.ref p),some (.int r),some (.ref b),some (.ref a),some (.int q),some (Pb.front r par q),I]/\δ H o/\o O=some (.lst (d.map V.int))/\o b=some (.lst (nl m par (C++d.take i)))/\o a=some (.lst ((ws'++d.take i).map V.int))) ⟨_,rfl,s5.trans s6,e6,by rw[dU,cj];exact s6 _ _ f,by rw[dU,cj];exact s6 _ _ u⟩ (λi y o _ z=>by obtain⟨_,_,_,z,_⟩:=z;exact ι.of z) ?_ ?_
  .rintro i x y o NI BB M hI hi ⟨I,rfl,s7,e7,h27,Yl⟩;refine M _ _ ?_;rw[aN]at hi;obtain⟨v,hv,rfl⟩:=ck.mp hi;obtain⟨vr,_,vp⟩:=mk v (aP hv);have et:d.take (i+1)=d.take i++[v]:=(by rw[bg,hv];rfl);walk_at "";refine⟨b,_,v,v.toNat,rfl,rfl,h27,by unfold Vx;rw[aj vr.1,aj (by rw[uS];lia)],?_⟩;rw[<-vp,RB vr.1 vr.2,vp,ci,<-et];have Z:upd o b (.lst (nl m par (C++d.take (i+1)))) a=some (.lst ((ws'++d.take i).map V.int)):=(by rw[aM l];exact Yl);have TK:(ws'++d.take i).length<=100:=by
    rw[aH,bq]
    lia
   refine⟨S9 Z,oS Z (d8 (by rw[ag];lia)) (hI _ _ ⟨_,rfl,(s7.put WD _).put Zi _,?_,?_,?_⟩)⟩
   .rw[aM a0,aM aT];exact e7
   .rw[aM l.symm,au]
   .rw[au,et,<-ci,aq (l₁:=ws'++d.take i)];rfl
  .rintro BB y o M ⟨I,rfl,s7,e7,h27,Yl⟩;refine M _ _ ?_;rw[ag,bC]at h27 Yl;refine hN _ _ _ ?_ ⟨_,_,_,_,_,rfl,rfl,s7,h27,Yl,G⟩;rw[aH,aH,aH];simp only[aO,dB]
   lia
abbrev zr(P w base)(T:Txt K L):=Cb P w K L base "ahead" DA ["web","r"] 5 (G8 T)
def JX(T:Txt K L):Sp:=λf H Q E=>E6 λ(p t:Addr)(m:Int)(e:hH)(c:ix)(r:Int)=>f=[.ref p,.int r]/\θ T.Web H p m t e c/\(0<=r->r<m->∃a b,ζ m c r a b/\∀l d,H l=none->δ H d->d l=some (.lst ((eX m c r a b r).map V.int))->(eX m c r a b r).Nodup->(∀v,v∈eX m c r a b r↔0<=v/\v<m)->Q (.ref l) d)/\(¬(0<=r/\r<m)->E (.ref T.NoPlace) none H)
abbrev CZ:Stmt:=top 33
def Rj:ε ["web","r","nearer","places","waiting","place","kid"] ["web","r"] (aA CZ):=.of
def AX:Ψ (aA CZ) "reversed":=.of
def Rg(T:Txt K L)(hq:bI (τ P w))(lI:zr P w base T)(jm:BZ P w base T):Ok P w K L base "down" CZ ["web","r"] 6 (JX T):=λ_ _ D=>by
 refine D.F.Ϻ Rj λξ A be s H vs Q E hr h=>?_;obtain⟨p,t,m,ps,rs,r,rfl,W,k,e⟩:=h;have g:=W.go;have Ζ:=g.Ζ;refine⟨_,(aw (Κ 2 (Ξ lI hr bT (aa (γ 0) (aa (γ 1) ap)))) (aw (Κ 3 (eL ap)) (aw (Κ 4 (eL (aa (γ 1) ap))) (aw (uv PassesOwn.leaving (wQ (γ 4) (λ_=>rfl)) (aw (Κ 5 (yO dv PySem.F.slot_list_pop PySem.F.type_list_pop zc (γ 4))) (aw (cH (TU (γ 3) (γ 5))) (ay (gf PassesOwn.leaving rfl (tT AX.g T.reversed (Ξ jm hr bT (aa (γ 0) (aa (γ 5) (aa (ψ bu (γ 2) (γ 5)) ap))))) (ϊ 6) (ay (cH (TU (γ 4) (γ 6))))))))) (ay (aY (γ 3))))))),?_⟩;walk_at "t";refine⟨p,t,m,ps,rs,r,rfl,W,λr0 r1=>?_,e⟩;obtain⟨a,I,R,k⟩:=k r0 r1;refine⟨a,I,R,λy H1 n1 s1 e1=>⟨by decide,λb n3=>⟨bX (by simp),λd S=>?_⟩⟩⟩;have Zi:H b=none:=s1.free n3;have s3:=s1.trans (δ.new (.lst []) n3);have a0:H d=none:=s3.free S;have a9:y≠b:=λz=>by rw[<-z,e1]at n3;cases n3
 have u:b≠d:=λz=>by rw[<-z,au]at S;cases S
 have W7:=δ.new (.lst []) n3 _ _ e1;have ar:y≠d:=λz=>by rw[<-z,W7]at S;cases S
 have s4:=s3.trans (δ.new (.lst [V.int r]) S);have aT:=δ.new (.lst [V.int r]) S _ _ W7;have al:upd (upd H1 b (.lst [])) d (.lst [V.int r]) b=some (.lst []):=by rw[aM u,au]
 have af:upd (upd H1 b (.lst [])) d (.lst [V.int r]) d=some (.lst [V.int r]):=au;generalize upd (upd H1 b (.lst [])) d (.lst [V.int r])=H4 at s4 aT al af ⊢;refine Em (λn G l=>E5 λ(Y C f:fc)(v5 v6:Option V)=>n=2*(m.toNat-Y.length)+C.length/\G=[some (.ref p),some (.int r),some (.ref y),some (.ref b),some (.ref d),v5,v6]/\δ H l/\l y=some (.lst (oj m r a))/\l b=some (.lst (f.map V.int))/\l d=some (.lst (C.map V.int))/\Ϥ m rs r a Y C/\(f++C).Perm (r::Y)/\f++C.reverse.flatMap (eX m rs r a I)=eX m rs r a I r) (2*m.toNat+1) ⟨[],[r],[],_,_,rfl,rfl,s4,aT,al,af,Ϥ.start,List.Perm.refl _,by simp⟩ ?_;rintro n G l NW BB ϒ hN Vk ⟨Y,C,f,v5,v6,rfl,rfl,s5,h1,h3,h4,J,X,ep⟩;refine ϒ _ _ _ ?_;have rk:∀w∈r::Y,0<=w/\w<m:=λw hw=>by
  rcases aE.mp hw with rfl|z
  .exact⟨r0,r1⟩
  .exact J.ϓ w z
 have nk:(r::Y).Nodup:=bD.mpr ⟨J.nr,J.nd⟩;have kl:=iL (m:=m) (by lia) nk rk;have dn:=iL (m:=m) (by lia) J.nd J.ϓ;have O:=X.length_eq;rw[aH]at O;rw[aO]at kl O;walk_at "";refine⟨_,.inl ⟨_,ι.of h4,rfl⟩,?_⟩;rcases fF C with rfl|⟨ws',q,rfl⟩
 .rw[ah (by simp)];rw[List.reverse_nil,List.flatMap_nil,cj]at ep;rw[cj]at X;subst ep;refine k b l Zi s5 h3 (X.nodup_iff.mpr nk) λv=>⟨λz=>rk v (X.mem_iff.mp z),λz=>X.mem_iff.mpr ?_⟩;by_cases c:v=r
  .rw[c];exact aL
  .exact aI _ (J.all R v z.1 z.2 c)
 .rw[fL]at J h4 hN Vk X ep O ⊢;rw[aj (by simp)];have hq:q∈ws'++[q]:=bw _ (aG.mpr rfl);have M:=J.at_ r0 r1 hq;have Z:=J.step g R r0 r1 (p:=q) (ws':=ws') (kI q ws');refine⟨NW,λcy H' z=>?_,?_⟩
  .obtain⟨m',lt,VC,WG,pl',a5,a6,z1,z2⟩:=Vk _ _ z
   first|exact⟨m',lt,VC,WG,pl',a5,a6,z1,z2⟩|exact⟨m',lt,VC,WG,z1,pl',a5,a6,z2⟩
  rw[aq,aF,cG]at h4;refine⟨S9 h4,NP h4 ?_⟩;have s6:δ H (upd l d (.lst (ws'.map V.int))):=s5.put a0 _;have N:upd l d (.lst (ws'.map V.int)) b=some (.lst (f.map V.int)):=by rw[aM u];exact h3
  have an:upd l d (.lst (ws'.map V.int)) y=some (.lst (oj m r a)):=by rw[aM ar];exact h1
  have a2:upd l d (.lst (ws'.map V.int)) d=some (.lst (ws'.map V.int)):=au;generalize upd l d (.lst (ws'.map V.int))=H6 at s6 N an a2 ⊢;refine⟨S9 N,oS N (d8 (by rw[ag];lia)) ?_⟩;have s7:δ H (upd H6 b (.lst (f.map V.int++[V.int q]))):=s6.put Zi _;have Yl:upd H6 b (.lst (f.map V.int++[V.int q])) b=some (.lst ((f++[q]).map V.int)):=by rw[au,aq];rfl
  have o:upd H6 b (.lst (f.map V.int++[V.int q])) y=some (.lst (oj m r a)):=by rw[aM a9];exact an
  have U:upd H6 b (.lst (f.map V.int++[V.int q])) d=some (.lst (ws'.map V.int)):=by rw[aM u.symm];exact a2
  generalize upd H6 b (.lst (f.map V.int++[V.int q]))=H7 at s7 Yl o U ⊢;refine Γ o (fR M.1 (wW M.1 M.2)) ?_;have bm:Pb.front r a q=.ο\/∃i,Pb.front r a q=.int i:=by
   unfold Pb.front;by_cases c:q=r
   .rw[aj c];exact .inl rfl
   .rw[ah c];exact .inr ⟨_,rfl⟩
  have pq:=lY g R M.1 M.2;refine⟨p,t,m,ps,rs,q,_,rfl,W.same s7,M.1,M.2,bm,λl8 H8 n8 s8 e8=>⟨l8,rfl,_,ι.of e8,?_⟩⟩;generalize cF m rs (Pb.front r a q) q=j at e8 Z pq ⊢;have cv:y≠l8:=λz=>by rw[<-z,o]at n8;cases n8
  have di:b≠l8:=λz=>by rw[<-z,Yl]at n8;cases n8
  have bl:d≠l8:=λz=>by rw[<-z,U]at n8;cases n8
  have bk:=iL (m:=m) (by lia) Z.nd Z.ϓ;rw[aH]at bk;have bs:=iL (m:=m) (by lia) Z.ZI λw hw=>Z.at_ r0 r1 hw;rw[aH]at bs;refine rq (K:=K) (xs:=j.map V.int) (λi G B=>∃v6,G=[some (.ref p),some (.int r),some (.ref y),some (.ref b),some (.ref d),some (.int q),v6]/\δ H B/\B l8=some (.lst (j.map V.int))/\B y=some (.lst (oj m r a))/\B b=some (.lst ((f++[q]).map V.int))/\B d=some (.lst ((ws'++j.reverse.take i).map V.int))) ⟨_,rfl,s7.trans s8,e8,s8 _ _ o,s8 _ _ Yl,by rw[dU,cj];exact s8 _ _ U⟩ (λi G B _ z=>by obtain⟨_,_,_,z,_⟩:=z;exact ι.of z) ?_ ?_
  .rintro i x G B NI hI hi ⟨v6,rfl,s9,e9,h19,h39,h49⟩;rw[<-eB,aN]at hi;obtain⟨v,hv,rfl⟩:=ck.mp hi;have et:j.reverse.take (i+1)=j.reverse.take i++[v]:=(by rw[bg,hv];rfl);have TK:(ws'++j.reverse.take i).length<=100:=by
    rw[aH,bq,aQ]
    lia
   walk_at "";refine⟨S9 h49,oS h49 (d8 (by rw[ag];lia)) (hI _ _ ⟨_,rfl,s9.put a0 _,?_,?_,?_,?_⟩)⟩
   .rw[aM bl.symm];exact e9
   .rw[aM ar];exact h19
   .rw[aM u];exact h39
   .rw[au,et,<-ci,aq (l₁:=ws'++j.reverse.take i)];rfl
  .rintro G B ⟨v6,rfl,s9,e9,h19,h39,h49⟩;rw[ag,show j.length=j.reverse.length by rw[aQ],bC]at h49;refine hN _ _ _ ?_ ⟨Y++j,ws'++j.reverse,f++[q],_,_,rfl,rfl,s9,h19,h39,h49,Z.perm (ng _ j.reverse_perm.symm),?_,?_⟩
   .rw[aH,aH,aH,aQ];simp only[aO,dB]
    lia
   .have p1:(f++[q]++(ws'++j.reverse)).Perm (f++(ws'++[q])++j):=by
     rw[ci,ci];refine ng _ ?_;rw[<-ci];exact List.Perm.append (List.perm_append_comm) j.reverse_perm
    exact p1.trans (List.Perm.append_right _ X)
   .rw[<-ep,nD,nD,mR,List.reverse_singleton,List.singleton_append,dQ,pq,oz];simp
abbrev MP(P w base)(T:Txt K L):=Cb P w K L base "down" CZ ["web","r"] 6 (JX T)
def K2(a:fz)(v:Int):List V:=[.int v,.int (a v)]
abbrev ω(H:Hp)(a:fz):List Addr->List Int->Prop:=Paired λq v=>H q=some (.tup (K2 a v))
def ω.same{H c:Hp}{a:fz}{b:hH}{d:fc}(e:δ H c)(h:ω H a b d):ω c a b d:=Paired.imp' (λq v x=>e q _ x) h
theorem ω.get{H:Hp}{c:fz}:∀{d:hH}{f:fc}{i:Nat}{x:V},ω H c d f->(d.map V.ref)[i]?=some x->∃p r,x=.ref p/\d[i]?=some p/\f[i]?=some r/\H p=some (.tup (K2 c r))
 | _,_,i,x,.nil,e=>by simp at e
 | _,_,0,x,.cons (a:=p) (b:=r) h hs,e=>⟨p,r,by simpa using e.symm,by simp,by simp,h⟩
 | a::l1,_,i+1,x,.cons h hs,e=>by
   have g:(List.map V.ref l1)[i]?=some x:=by simpa using e
   obtain⟨p,r,l,j,k,m⟩:=ω.get hs g;exact⟨p,r,l,by simpa using j,by simpa using k,m⟩
theorem ω.snoc{H:Hp}{a:fz}{q:Addr}{v:Int}(e:H q=some (.tup (K2 a v))):∀{b:hH}{c:fc},ω H a b c->ω H a (b++[q]) (c++[v])
 | _,_,.nil=>.cons e .nil
 | _,_,.cons x xs=>.cons x (ω.snoc e xs)
def y7(T:Txt K L):Sp:=λh H Q E=>E6 λ(p t:Addr)(m:Int)(g:hH)(d:ix)(r:Int)=>h=[.ref p,.int r]/\θ T.Web H p m t g d/\(0<=r->r<m->∃a b,ζ m d r a b/\∀l f e c,eX m d r a b r=r::e->H l=none->δ H c->c l=some (.lst (f.map V.ref))->ω c a f e.reverse->Order m r a e->Q (.ref l) c)/\(¬(0<=r/\r<m)->E (.ref T.NoPlace) none H)
abbrev tY:Stmt:=top 35
def EV:ε ["web","r","nearer"] ["web","r"] (aA tY):=.of
def BO:VX (aA tY) "nearer":=.of (by kernel_rfl)
def ya:Ψ (aA tY) "reversed":=.of
def LY(T:Txt K L)(hq:bI (τ P w))(lI:zr P w base T)(wt:MP P w base T):Ok P w K L base "inward" tY ["web","r"] 7 (y7 T):=λ_ _ D=>by
 refine D.F.Ϻ EV λξ A ab s H vs Q E hr h=>?_;obtain⟨p,t,m,ps,rs,r,rfl,W,k,e⟩:=h;have g:=W.go;have Ζ:=g.Ζ;refine⟨_,(aw (sv (i:=2) EV.nd rfl (Or.inr BO.l) (Ξ lI hr bT (aa (γ 0) (aa (Ϩ 1) ap)))) (ay (aY (gG rfl (UT ["place","nearer","r"] 1 [2,1]) (tT ya.g T.reversed (Ξ wt hr bT (aa (γ 0) (aa (Ϩ 1) ap)))) (λ_ _ _ _=>(d6 (i:=0) (show(["place","nearer","r"]:hU).Nodup from by decide +kernel) rfl (Or.inl rfl))) (λ_ _ _ _=>(D2 (Ν ph (pv 0) (pv 2)))) (λ_ _ _ _=>(hJ (aa (pv 0) (aa (ψ (oM K rfl) (pv 1) (pv 0)) ap)))))))),?_⟩;walk_at "t";refine⟨p,t,m,ps,rs,r,?_⟩;refine Vl rfl W (λJ G=>?_) e;obtain⟨d,B,R,k⟩:=k J G;refine⟨d,B,R,λl1 H1 n1 s1 e1=>?_⟩;refine⟨p,t,m,ps,rs,r,?_⟩;refine Vl rfl (W.same s1) (λ_ _=>⟨d,B,R,λl2 H2 n2 s2 Y nd al=>?_⟩) (λz=>absurd ⟨J,G⟩ z);obtain⟨n,et,O⟩:=BU g R J G nd al;have ll:=p7 g R J G;rw[et]at Y ll;rw[aO]at ll;refine⟨l2,rfl,_,ι.of Y,λpc U=>?_⟩;have Ut:=s2 _ _ e1;have ϙ:=s1.trans s2;have S:=ϙ.free U;refine OY (K:=K) (xs:=(r::n).map V.int) (λi u C j=>δ H2 j/\j pc=some (.lst u)/\(∃f:List Addr,u=f.map V.ref/\ω j d f (n.reverse.take i))/\∃v,C=[v,some (V.ref l1),some (V.int r)]) ⟨δ.new _ U,au,⟨[],rfl,.nil⟩,_,rfl⟩ (λi u C j _ z=>ι.of (z.1 _ _ Y)) ?_ ?_
 .rintro i x u C j N hN hx ⟨s3,e3,⟨f,rfl,pa⟩,v,rfl⟩;rw[<-eB,fC,aN]at hx;obtain⟨y,o,rfl⟩:=ck.mp hx;have il:=(ax.mp o).1;rw[aH,aQ]at il;have ql:f.length=(n.reverse.take i).length:=Paired.length pa;rw[bq,aQ]at ql;walk_at "";by_cases c:i<n.length
  .rw[eJ (by rw[aQ];exact c)]at o;have Z:y∈n:=dP.mp (aP o);have X:=O.ϓ y Z;rw[aj (O.ne Z)];have gp:ϳ (oj m r d) y=some (V.int (d y)):=by
    have ef:Pb.front r d y=V.int (d y):=(by unfold Pb.front;rw[ah (O.ne Z)]);rw[<-ef];exact fR X.1 (wW X.1 X.2)
   refine Γ (s3 _ _ Ut) gp ⟨bX (by simp),λq I=>?_⟩;have s4:=δ.new (.tup [V.int y,V.int (d y)]) I;have M:q≠pc:=λz=>by rw[z,e3]at I;cases I
   refine⟨s4 _ _ e3,d8 (by rw[ag];lia),hN _ _ _ ⟨(s3.trans s4).put U _,au,⟨f++[q],by rw[aq];rfl,?_⟩,_,rfl⟩⟩;rw[bg,o];refine ω.snoc (by rw[aM M,au];rfl) ?_;exact Paired.imp' (λa b h=>by
    rw[aM (cZ h e3 (by nofun)),aM (cC h I)];exact h) pa
  .have ei:i=n.reverse.length:=(by rw[aQ];simp at il;lia);rw[ei,dc (aJ _),dW]at o;cases o;rw[ah (λz=>z rfl)];refine hN _ _ _ ⟨s3,e3,⟨f,rfl,?_⟩,_,rfl⟩;rw[bZ (by lia)]at pa ⊢;exact pa
 .rintro u C j ⟨s3,e3,⟨f,rfl,pa⟩,v,rfl⟩;rw[bZ (by rw[ag,aQ,aO];lia)]at pa;exact k pc f n j et S (ϙ.trans s3) e3 pa O
abbrev lf(P w base)(T:Txt K L):=Cb P w K L base "inward" tY ["web","r"] 7 (y7 T)
def Jo(T:Txt K L):Sp:=λe H Q E=>E7 λ(p t:Addr)(m:Int)(d:hH)(c:ix)(a b:Int)=>e=[.ref p,.int a,.int b]/\θ T.Web H p m t d c/\(∀k,0<=a->a<m->0<=b->b<m->cJ c a b=some k->Q (.int k) H)/\(¬((0<=a/\a<m)/\(0<=b/\b<m))->E (.ref T.NoPlace) none H)/\(0<=a->a<m->0<=b->b<m->cJ c a b=none->E (.ref T.NoRoad) none H)
abbrev CW:Stmt:=top 16
def Rl:ε ["web","a","b","one","other","there","back"] ["web","a","b"] (aA CW):=.of
def wx:Ψ (aA CW) "NoRoad":=.of
def QI(T:Txt K L)(hq:bI (τ P w))(Y:lJ P w base T):Ok P w K L base "toll" CW ["web","a","b"] 3 (Jo T):=λ_ _ D=>by
 refine D.F.Ϻ Rl λξ A U s H vs Q E hr h=>?_;obtain⟨p,t,m,G,f,a,b,rfl,W,k,Z,e2⟩:=h;obtain⟨dx,ob⟩:=W.ob;refine⟨_,(aw (cH (Ξ Y hr bT (aa (γ 0) (aa (γ 1) ap)))) (aw (cH (Ξ Y hr bT (aa (γ 0) (aa (γ 2) ap)))) (aw (gf PassesOwn.leaving rfl (y4 (cq (γ 0) rfl)) (iC (n:=4) rfl (bQ (ϊ 3) (bQ (ϊ 4) (bQ (ϊ 5) (bQ (ϊ 6) fJ))))) (aw (bU (PW.pt (t7 (Ν cM (γ 3) (γ 1)) (rN (Ν cM (γ 4) (γ 2))))) (ay (aY (γ 5))) bE) (ay (bU (PW.pt (t7 (Ν cM (γ 3) (γ 2)) (rN (Ν cM (γ 4) (γ 1))))) (ay (aY (γ 6))) bE)))) (ay (rH T.Wz rfl tK wx.g T.Wx (aa bH ap) (hdb:=wx.d)))))),?_⟩;walk_at "t";refine⟨p,t,m,G,f,a,rfl,W,λI C=>?_,λz=>Z λw=>z w.1⟩;refine⟨p,t,m,G,f,b,rfl,W,λJ M=>?_,λz=>Z λw=>z w.2⟩;refine⟨T.Web,dx,_,ob,T.Ε,T.Tq,_,vy m t,t,rfl,⟨_,Α.of W.tu⟩,?_⟩;have o:G.length=f.length:=Paired.length W.ro;refine F7 (K:=K) (xs:=G.map V.ref) (λi y l=>l=H/\cJ (f.take i) a b=none/\∃R O X S,y=[some (V.ref p),some (V.int a),some (V.int b),R,O,X,S]) ⟨rfl,rfl,_,_,_,_,rfl⟩ (λi y l _ z=>by rw[z.1];exact Α.of W.tu) ?_ ?_
 .rintro i x y l N hN hx ⟨rfl,Ur,R,O,X,S,rfl⟩;obtain⟨q,r,rfl,h1,B,h3⟩:=W.ro.get hx;have et:f.take (i+1)=f.take i++[r]:=by rw[bg,B];rfl
  have split:cJ f a b=(cJ (f.take i) a b).or ((ja a b r).or (cJ (f.drop (i+1)) a b)):=by
   have:f=f.take i++r::f.drop (i+1):=by
    have Tt:i<f.length:=(ax.mp B).1;have e:f[i]=r:=(by rw[az Tt]at B;exact bF B);rw[<-e,jg,de]
   conv=>lhs;rw[this]
   unfold cJ;rw[gC,hZ];cases ja a b r<;>rfl
  rw[Ur,Option.none_or]at split;walk_at "";refine⟨_,Α.of h3,rfl,_,_,rfl,_,_,rfl,_,_,rfl,_,_,rfl,rfl,?_⟩;walk_at "";have c:ja a b r=none->N [some (V.ref p),some (V.int a),some (V.int b),some (V.int r.a),some (V.int r.b),some (V.int r.t),some (V.int r.u)] l:=λz=>hN _ _ ⟨rfl,by
   rw[et];unfold cJ at Ur ⊢;rw[gC,Ur,hZ,z]
   rfl,_,_,_,_,rfl⟩
  have j:∀v,ja a b r=some v->cJ f a b=some v:=λv z=>by rw[split,z];rfl
  unfold ja at c j;split
  .rename_i c1
   split
   .rename_i c2
    exact k _ I C J M (j _ (by rw[aj ⟨c1,c2⟩]))
   .rename_i c2
    split
    .rename_i c3
     split
     .rename_i c4
      exact k _ I C J M (j _ (by rw[ah (λz=>c2 z.2),aj ⟨c3,c4⟩]))
     .rename_i c4
      exact c (by rw[ah (λz=>c2 z.2),ah (λz=>c4 z.2)])
    .rename_i c3
     exact c (by rw[ah (λz=>c2 z.2),ah (λz=>c3 z.1)])
  .rename_i c1
   split
   .rename_i c3
    split
    .rename_i c4
     exact k _ I C J M (j _ (by rw[ah (λz=>c1 z.1),aj ⟨c3,c4⟩]))
    .rename_i c4
     exact c (by rw[ah (λz=>c1 z.1),ah (λz=>c4 z.2)])
   .rename_i c3
    exact c (by rw[ah (λz=>c1 z.1),ah (λz=>c3 z.1)])
 .rintro y l ⟨rfl,Ur,R,O,X,S,rfl⟩;rw[ag,o,bC]at Ur;walk_at "";exact⟨by decide,e2 I C J M Ur⟩
abbrev mP(P w base)(T:Txt K L):=Cb P w K L base "toll" CW ["web","a","b"] 3 (Jo T)
def GV(T:Txt K L):Sp:=λf H Q _=>WZ λ(p b t:Addr)(c:Bool)(m:Int)(e:hH)(d:ix)(a:fc)(v u k:Int)=>f=[.ref p,.ref b,.int v,.int u]/\θ T.Web H p m t e d/\Ω K c H b (a.map V.int)/\(0<=v/\v<m/\v<a.length)/\(0<=u/\u<m)/\cJ d v u=some k/\k<=1000000/\2<=k/\Q (.int (a.getD v.toNat 0*k)) H
abbrev Eo:Stmt:=top 70
def Pu:ε ["web","weights","place","front"] ["web","weights","place","front"] (aA Eo):=.of
def Of(T:Txt K L)(o:bI (τ P w))(f:mP P w base T):Ok P w K L base "borne" Eo ["web","weights","place","front"] 4 (GV T):=λ_ _ D=>by
 refine D.F.Ϻ Pu λG A d s H B Q E n h=>?_;obtain⟨p,b,t,c,m,j,i,r,v,u,q,rfl,W,g,a,l,e,x,y,k⟩:=h;refine⟨_,(ay (aY (aX ke (ψ (CF c) (γ 1) (γ 2)) (Ξ f n bT (aa (γ 0) (aa (γ 2) (aa (γ 3) ap))))))),?_⟩;walk_at "t";refine ixX g (Ϲ a.1 a.2.2) ?_;refine⟨p,t,m,j,i,v,u,rfl,W,λC _ _ _ _ h=>?_,λz=>absurd ⟨⟨a.1,a.2.1⟩,l⟩ z,λ_ _ _ _ z=>by rw[e]at z;cases z⟩;rw[e]at h;cases h;exact⟨_,rfl,_,rfl,.inr ⟨by lia,by lia⟩,k⟩
abbrev J4(P w base)(T:Txt K L):=Cb P w K L base "borne" Eo ["web","weights","place","front"] 4 (GV T)
def AI(T:Txt K L):Sp:=λe H Q _=>E10 λ(p b t:Addr)(m:Int)(d:hH)(c:ix)(a:fc)(v u k:Int)=>e=[.ref p,.ref b,.int v,.int u]/\θ T.Web H p m t d c/\ι K H b (a.map V.int)/\(a.length:Int)=m/\(0<=v/\v<m)/\(0<=u/\u<m)/\cJ c v u=some k/\k<=1000000/\2<=k/\Q (.bl (decide (a.getD v.toNat 0*k=a.getD u.toNat 0))) H
abbrev wJ:Stmt:=top 77
def IX:ε ["web","weights","place","front"] ["web","weights","place","front"] (aA wJ):=.of
def IP(T:Txt K L)(y:bI (τ P w))(j:J4 P w base T):Ok P w K L base "is_heavy" wJ ["web","weights","place","front"] 5 (AI T):=λ_ _ D=>by
 refine D.F.Ϻ IX λC A d s H B Q E x h=>?_;obtain⟨p,b,t,m,r,n,a,v,u,c,rfl,W,f,z,i,g,l,o,q,k⟩:=h;refine⟨_,(ay (aY (jV cM (Ξ j x bT (aa (γ 0) (aa (γ 1) (aa (γ 2) (aa (γ 3) ap))))) (ψ bu (γ 1) (γ 3)) (kP _)))),?_⟩;walk_at "t";refine⟨p,b,t,true,m,r,n,a,v,u,c,rfl,W,f,⟨i.1,i.2,by lia⟩,g,l,o,q,?_⟩;refine ixS f (Ϲ g.1 (by lia)) ?_;have e:decide (V.int (a.getD v.toNat 0*c)=V.int (a.getD u.toNat 0))=decide (a.getD v.toNat 0*c=a.getD u.toNat 0):=by simp
 rw[e];exact⟨rfl,k⟩
abbrev CG(P w base)(T:Txt K L):=Cb P w K L base "is_heavy" wJ ["web","weights","place","front"] 5 (AI T)
def uC(T:Txt K L):Sp:=λf H Q E=>E6 λ(p t:Addr)(m:Int)(e:hH)(d:ix)(r:Int)=>f=[.ref p,.int r]/\θ T.Web H p m t e d/\(0<=r->r<m->∃b c,ζ m d r b c/\∀l a,H l=none->δ H a->a l=some (.lst ((ic m d r b c).map V.int))->Q (.ref l) a)/\(¬(0<=r/\r<m)->∀a,δ H a->E (.ref T.NoPlace) none a)
abbrev qS:Stmt:=top 73
def A1:ε ["web","r","weights","place","front"] ["web","r"] (aA qS):=.of
def Bx(T:Txt K L)(hq:bI (τ P w))(tP:J4 P w base T)(dj:lf P w base T):Ok P w K L base "least_weights" qS ["web","r"] 8 (uC T):=λ_ _ D=>by
 refine D.F.Ϻ A1 λξ A S s H vs Q E hr h=>?_;obtain⟨p,t,m,ps,j,r,rfl,W,k,e⟩:=h;have g:=W.go;have m1:=g.m1;have Ζ:=g.Ζ;obtain⟨dx,ob⟩:=W.ob;refine⟨_,(aw (Κ 2 (aX oU (eL (aa aD ap)) (cq (γ 0) rfl))) (aw (gf PassesOwn.leaving rfl (iA (Ξ dj hr bT (aa (γ 0) (aa (γ 1) ap)))) (iC (n:=2) rfl (bQ (ϊ 3) (bQ (ϊ 4) fJ))) (ay (jq (TB (Mo rfl) T.max (aa (ψ bu (γ 2) (γ 4)) (aa (Ξ tP hr bT (aa (γ 0) (aa (γ 2) (aa (γ 3) (aa (γ 4) ap))))) ap))) (nL (γ 2) (γ 4) gJ)))) (ay (aY (γ 2))))),?_⟩;walk_at "t";refine⟨bX (by simp),λJ n0=>?_⟩;have X:=δ.new (.lst [V.int 1]) n0;refine⟨T.Web,dx,_,X _ _ ob,T.Ε,T.Λ,_,eP m t,?_⟩;refine⟨J,m,_,rfl,rfl,au,by lia,by lia,bX (by simp;lia),λl n1=>?_⟩;rw[F2];have C:=X.trans (δ.new (.lst (List.replicate m.toNat (V.int 1))) n1);have nl:=X.free n1;have M:upd (upd H J (.lst [V.int 1])) l (.lst (List.replicate m.toNat (V.int 1))) l=some (.lst ((List.replicate m.toNat (1:Int)).map V.int)):=by rw[au,hV]
 generalize upd (upd H J (.lst [V.int 1])) l (.lst (List.replicate m.toNat (V.int 1)))=H1 at C M ⊢;refine⟨p,t,m,ps,j,r,?_⟩;refine Vl rfl (W.same C) (λr0 r1=>?_) (λz=>e z H1 C);obtain⟨c,f,R,k⟩:=k r0 r1;refine⟨c,f,R,λU I B H2 _ n2 s2 e2 pa O=>?_⟩;have VP:U≠l:=λz=>by rw[z,M]at n2;cases n2
 refine⟨U,rfl,⟨_,ι.of e2⟩,?_⟩;have ql:I.length=B.reverse.length:=Paired.length pa;have st:Rw mx m j r c f (λ_=>1) (bor j c) [] (List.replicate m.toNat (1:Int)):=Rw.nil (by rw[b8];lia) λv v0 v1=>by
  rw[List.getD,jO (by lia)];rfl
 refine jL (K:=K) (xs:=I.map V.ref) (λi G d=>δ H d/\d U=some (.lst (I.map V.ref))/\ω d c I B.reverse/\E3 λ(y:fc)(Z Y:Option V)=>d l=some (.lst (y.map V.int))/\Rw mx m j r c f (λ_=>1) (bor j c) (B.drop (B.length-i)) y/\G=[some (V.ref p),some (V.int r),some (V.ref l),Z,Y]) ⟨C.trans s2,e2,pa,_,_,_,s2 _ _ M,by rw[gh,fh];exact st,rfl⟩ (λi G d _ z=>ι.of z.2.1) ?_ ?_
 .rintro i x G d N BB ϒ hN hx ⟨s3,e3,UX,y,Z,Y,c3,so,rfl⟩;refine ϒ _ _ ?_;obtain⟨q,v,rfl,hq,hv,eq⟩:=UX.get hx;obtain⟨⟨o,vn⟩,ev,Zj⟩:=O.aaD Ke g R so hv;have u:=R.up v o.1 o.2 vn;obtain⟨kk,hk,k0,k1⟩:=jw g R o.1 o.2 vn;have cl:=so.len;walk_at "";refine⟨_,Α.of eq,rfl,_,_,rfl,_,_,rfl,rfl,?_⟩;refine Γ c3 (Ϲ u.1.1 (by lia)) ?_;refine⟨p,l,t,true,m,ps,j,y,v,c v,kk,rfl,W.same s3,ι.of c3,⟨o.1,o.2,by lia⟩,u.1,hk,k1,k0,?_⟩;refine⟨_,_,⟨rfl,rfl⟩,om c3 u.1.1 (by rw[ag];lia) (hN _ _ ⟨s3.put nl _,?_,?_,zC mx c (bor j c) y v,_,_,?_,Zj,rfl⟩)⟩
  .rw[aM VP];exact e3
  .exact Paired.imp' (λa b h=>by rw[aM (cZ h c3 (by nofun))];exact h) UX
  .rw[au,<-cT];unfold zC bor mx;rw[hk]
   rfl
 .rintro BB G d ϒ ⟨s3,e3,UX,y,Z,Y,c3,so,rfl⟩;refine ϒ _ _ ?_;rw[ag,ql,aQ,dW,ir]at so;rw[O.doneF Ke g R so]at c3;walk_at "";exact k l d nl s3 c3
abbrev qw(P w base)(T:Txt K L):=Cb P w K L base "least_weights" qS ["web","r"] 8 (uC T)
def Dc(T:Txt K L):Sp:=λg H Q E=>E6 λ(p t:Addr)(m:Int)(f:hH)(d:ix)(r:Int)=>g=[.ref p,.int r]/\θ T.Web H p m t f d/\(0<=r->r<m->∃a b,ζ m d r a b/\∀e l c,eX m d r a b r=r::e->Order m r a e->H l=none->δ H c->c l=some (.lst (Vm m (S7 m d r a b e)))->Q (.ref l) c)/\(¬(0<=r/\r<m)->∀c,δ H c->E (.ref T.NoPlace) none c)
abbrev uX:Stmt:=top 76
def K5:ε ["web","r","weights","chosen","place","front"] ["web","r"] (aA uX):=.of
def xT:Ψ (aA uX) "reversed":=.of
def K1(T:Txt K L)(hq:bI (τ P w))(dj:lf P w base T)(pj:CG P w base T)(hG:qw P w base T):Ok P w K L base "bearers" uX ["web","r"] 9 (Dc T):=λ_ _ D=>by
 refine D.F.Ϻ K5 λξ A ac s H vs Q E U h=>?_;obtain⟨p,t,m,Z,f,r,rfl,W,k,e⟩:=h;have g:=W.go;have m1:=g.m1;have Ζ:=g.Ζ;obtain⟨dx,ob⟩:=W.ob;refine⟨_,(aw (Κ 2 (Ξ hG U bT (aa (γ 0) (aa (γ 1) ap)))) (aw (Κ 3 (aX oU (eL (aa qy ap)) (cq (γ 0) rfl))) (aw (gf PassesOwn.leaving rfl (tT xT.g T.reversed (Ξ dj U bT (aa (γ 0) (aa (γ 1) ap)))) (iC (n:=2) rfl (bQ (ϊ 4) (bQ (ϊ 5) fJ))) (ay (bU (lW (Ξ pj U bT (aa (γ 0) (aa (γ 2) (aa (γ 4) (aa (γ 5) ap)))))) (ay (jq (γ 4) (nL (γ 3) (γ 5) gJ))) bE))) (ay (aY (γ 3)))))),?_⟩;walk_at "t";refine⟨p,t,m,Z,f,r,?_⟩;refine Vl rfl W (λr0 r1=>?_) e;obtain⟨c,d,R,k⟩:=k r0 r1;refine⟨c,d,R,λlw H0 nw s0 ew=>⟨bX (by simp),λX n0=>?_⟩⟩;have I:=δ.new (.lst [V.ο]) n0;refine⟨T.Web,dx,_,I _ _ (s0 _ _ ob),T.Ε,T.Λ,_,eP m t,?_⟩;refine⟨X,m,_,rfl,rfl,au,by lia,by lia,bX (by simp;lia),λl G=>?_⟩;rw[F2];have s2:=I.trans (δ.new (.lst (List.replicate m.toNat V.ο)) G);have nl:=(s0.trans I).free G;have ak:lw≠l:=λz=>by rw[<-z,I _ _ ew]at G;cases G
 have el:Vm m (λ_=>none)=List.replicate m.toNat V.ο:=by
  unfold Vm;rw[List.map_const',b6]
  rfl
 have Y:upd (upd H0 X (.lst [V.ο])) l (.lst (List.replicate m.toNat V.ο)) l=some (.lst (Vm m (S7 m f r c d []))):=by rw[au,<-el];rfl
 generalize upd (upd H0 X (.lst [V.ο])) l (.lst (List.replicate m.toNat V.ο))=H1 at s2 Y ⊢;have Um:=s0.trans s2;have av:=s2 _ _ ew;refine⟨p,t,m,Z,f,r,?_⟩;refine Vl rfl (W.same Um) (λ_ _=>⟨c,d,R,λl2 B o H2 al n2 S e2 pa O=>?_⟩) (λz=>absurd ⟨r0,r1⟩ z);have VP:l2≠l:=λz=>by rw[z,Y]at n2;cases n2
 refine⟨l2,rfl,_,ι.of e2,?_⟩;have ql:B.length=o.reverse.length:=Paired.length pa;have ll:((ic m f r c d).length:Int)=m:=by rw[tF];lia
 refine rq (K:=K) (xs:=B.map V.ref) (λi J j=>δ H j/\j lw=some (.lst ((ic m f r c d).map V.int))/\j l2=some (.lst (B.map V.ref))/\ω j c B o.reverse/\∃(v4 v5:Option V),j l=some (.lst (Vm m (S7 m f r c d (o.take i))))/\J=[some (V.ref p),some (V.int r),some (V.ref lw),some (V.ref l),v4,v5]) ⟨Um.trans S,S _ _ av,e2,pa,_,_,S _ _ Y,rfl⟩ (λi J j _ z=>ι.of z.2.2.1) ?_ ?_
 .rintro i x J j N hN hx ⟨s4,w3,e3,UX,v4,v5,c3,rfl⟩;have il:=(ax.mp hx).1;rw[aQ,ag]at il;rw[aQ]at ql;rw[cu (by rw[ag];exact il),ag]at hx;obtain⟨q,v,rfl,Ti,hv,eq⟩:=UX.get hx;rw[cu (by lia),show o.length-1-(B.length-1-i)=i by lia]at hv;have vm:=aP hv;have y:=O.ϓ v vm;have vn:=O.ne vm;have u:=R.up v y.1 y.2 vn;obtain⟨kk,hk,k0,k1⟩:=jw g R y.1 y.2 vn;have ek:tup f c v=kk:=by unfold tup;rw[hk];rfl
  walk_at "";refine⟨_,Α.of eq,rfl,_,_,rfl,_,_,rfl,rfl,?_⟩;refine⟨p,lw,t,m,Z,f,ic m f r c d,v,c v,kk,rfl,W.same s4,ι.of w3,ll,y,u.1,hk,k1,k0,_,rfl,?_⟩;rw[kK y.1 y.2,kK u.1.1 u.1.2];have C:o.take (i+1)=o.take i++[v]:=by rw[bg,hv];rfl
  by_cases M:ώ m f r c d v*kk=ώ m f r c d (c v)
  .rw[aj (bo M)];refine om c3 u.1.1 (by unfold Vm;rw[ag,b6];lia) ?_;rw[Rb u.1.1 u.1.2];exact hN _ _ ⟨s4.put nl _,by rw[aM ak];exact w3,by rw[aM VP];exact e3,Paired.imp' (λa b h=>by rw[aM (cZ h c3 (by nofun))];exact h) UX,_,_,by rw[au,C,Nq (by rw[ek];exact M)],rfl⟩
  .rw[ah (by rw[bM M];decide)];exact hN _ _ ⟨s4,w3,e3,UX,_,_,by rw[C,Nn (by rw[ek];exact M)];exact c3,rfl⟩
 .rintro J j ⟨s4,w3,e3,UX,v4,v5,c3,rfl⟩;rw[aQ]at ql;rw[ag,ql,bC]at c3;walk_at "";exact k o l j al O nl s4 c3
abbrev Fk(P w base)(T:Txt K L):=Cb P w K L base "bearers" uX ["web","r"] 9 (Dc T)
def vS(T:Txt K L):Sp:=λd H Q _=>∃(a:Addr)(c:fc),d=[.ref a]/\ι K H a (c.map V.int)/\c.length<=1000/\∀l b,H l=none->δ H b->b l=some (.lst ((Vp c).map V.int))->Q (.ref l) b
abbrev nM:Stmt:=top 91
def wa:ε ["values","found","row"] ["values"] (aA nM):=.of
def zd:Ue (aA nM) "row":=.of (by kernel_rfl)
def yj:Ψ (aA nM) "zip":=.of
def DM(T:Txt K L)(hq:bI (τ P w)):Ok P w K L base "differences" nM ["values"] 1 (vS T):=λ_ _ D=>by
 refine D.F.Ο wa λξ A ac s H vs Q E hr h=>?_;obtain⟨a,xs,rfl,ha,xl,k⟩:=h;refine⟨_,(aw (Κ 1 (eL ap)) (aw (Κ 2 (iO jP T.list (aa (γ 0) ap))) (aw (uv PassesOwn.never (wQ (γ 2) (λ_=>rfl)) (aw (cH (TU (γ 1) (ψ bu (γ 2) aD))) (ay (tE (i:=2) wa.nd rfl zd.l rfl (md (Nc:=["earlier","later"]) 2 (by decide +kernel) (by decide +kernel) rfl (by decide +kernel) rfl) (Gd true true yj.g T.zip (aa (γ 2) (aa (Bs Ea (γ 2) (Es aD) DY) ap))) (λ_ _ _ _=>(wo K rfl (n:=2) rfl (bQ (d6 (i:=0) (show(["earlier","later"]:hU).Nodup from by decide +kernel) rfl (Or.inl rfl)) (bQ (d6 (i:=1) (show(["earlier","later"]:hU).Nodup from by decide +kernel) rfl (Or.inl rfl)) fJ)))) (λ_ _ _ _=>gu) (λ_ _ _ _=>(aX jt (pv 1) (pv 0))))))) (ay (aY (γ 1)))))),?_⟩;walk_at "s";unfold tSl FY Tj;refine db λN0 h0=>?_;walk_at "";refine⟨bX (by simp),λl nl=>h0 _ _ (db λN1 h1=>?_)⟩;have W:=δ.new (HO.lst []) nl;have Y:upd H l (HO.lst []) l=some (.lst (([]:fc).map V.int)):=au;generalize upd H l (HO.lst [])=H1 at W Y ⊢;walk_at "";refine⟨_,.inl (W.seq ha),λq nq=>h1 _ _ (db λN2 h2=>?_)⟩;have s2:=δ.new (HO.lst (xs.map V.int)) nq;have e2:upd H1 q (HO.lst (xs.map V.int)) q=some (.lst (xs.map V.int)):=au;have Ut:=s2 _ _ Y;have ϙ:=W.trans s2;have t:q≠l:=λz=>by rw[z,Y]at nq;cases nq
 generalize upd H1 q (HO.lst (xs.map V.int))=H2 at ϙ e2 Ut ⊢;refine DF (λn u j=>E3 λ(f U:fc)(q:Addr)=>n=f.length/\U++Vp f=Vp xs/\U.length+f.length=xs.length/\q≠l/\j q=some (.lst (f.map V.int))/\j l=some (.lst (U.map V.int))/\δ H j/\u=[some (V.ref a),some (V.ref l),some (V.ref q)]) _ ⟨xs,[],q,rfl,rfl,by simp,t,e2,Ut,ϙ,rfl⟩ ?_;rintro n u j NW hN Vk ⟨f,m,q,rfl,M,hl,t,e3,y,s3,rfl⟩;refine⟨_,rfl,!(f.map V.int).isEmpty,.inl ⟨_,ι.of e3,rfl⟩,?_⟩;cases f with
 | nil=>
   refine RN (h2 _ _ ?_);walk_at "";have M:m=Vp xs:=by
    have:m++[]=Vp xs:=M;rw[cj]at this;exact this
   exact k l j nl s3 (by rw[y,M])
 | cons x r=>
   refine Sc ⟨NW,Vk,?_⟩;rw[aO]at hl;refine db λM1 k1=>?_;walk_at "";refine⟨S9 y,Γ e3 (v:=V.int x) (fR (bO 0) rfl) (oS y (d8 (by rw[ag];lia)) (k1 _ _ ?_))⟩;have e4:upd j l (HO.lst (m.map V.int++[V.int x])) l=some (.lst ((m++[x]).map V.int)):=by rw[au,aq];rfl
   have B:upd j l (HO.lst (m.map V.int++[V.int x])) q=some (.lst ((x::r).map V.int)):=by rw[aM t];exact e3
   have s4:δ H (upd j l (HO.lst (m.map V.int++[V.int x]))):=λb o e=>by rw[aM (cC e nl)];exact s3 _ _ e
   generalize upd j l (HO.lst (m.map V.int++[V.int x]))=H4 at e4 B s4 ⊢;walk_at "";refine slI (ι.of B) λp np=>?_;have O:=δ.new (HO.lst ((xn (x::r) (some 1) none).map V.int)) np;have R:upd H4 p (HO.lst ((xn (x::r) (some 1) none).map V.int)) p=some (.lst (((x::r).drop 1).map V.int)):=by
    rw[au,<-Gn,Nb _ (by decide),nB]
    rfl
   generalize upd H4 p (HO.lst ((xn (x::r) (some 1) none).map V.int))=H5 at O R ⊢;have I:=O _ _ B;have ZL:=O _ _ e4;have ai:=s4.trans O;refine⟨q,p,⟨rfl,rfl⟩,⟨_,ι.of I⟩,⟨_,ι.of R⟩,λpc X=>?_⟩;refine BD (K:=K) (c:=true) (d:=true) (a:=q) (b:=p) (xs:=(x::r).map V.int) (zs:=((x::r).drop 1).map V.int) (λi C u G=>δ H5 G/\G pc=some (.lst C)/\C=((((x::r).zip ((x::r).drop 1)).take i).map λq=>q.2-q.1).map V.int/\∃v w,u=[v,w]) ⟨δ.new _ X,au,rfl,_,_,rfl⟩ (λi C u G z=>⟨ι.of (z.1 _ _ I),ι.of (z.1 _ _ R)⟩) ?_ ?_
   .rintro i y1 y2 C u G qt N hN6 h1 h2 ⟨s6,e6,rfl,v,w,rfl⟩ nqt;obtain⟨S,J,rfl⟩:=List.μ h1;obtain⟨a2,Z,rfl⟩:=List.μ h2;have ez:((x::r).zip ((x::r).drop 1))[i]?=some (S,a2):=by
     rw[iW];exact⟨J,Z⟩
    have il:=(ax.mp J).1;have et:((x::r).zip ((x::r).drop 1)).take (i+1)=((x::r).zip ((x::r).drop 1)).take i++[(S,a2)]:=(by rw[bg,ez];rfl);rw[aO]at il;walk_at "";have s7:=δ.new (HO.tup [V.int S,V.int a2]) nqt;refine⟨_,Α.of au,rfl,_,_,rfl,_,_,rfl,rfl,?_⟩;walk_at "";refine⟨s7 _ _ e6,d8 (by rw[ag,ag,bq];lia),hN6 _ _ _ ⟨?_,au,?_,_,_,rfl⟩⟩
    .exact λb o e=>by rw[aM (cC e X)];exact s7 _ _ (s6 _ _ e)
    .rw[et,aq,aq]
     rfl
   .rintro C u G ⟨s6,e6,rfl,v,w,rfl⟩;have en:((((x::r).zip ((x::r).drop 1)).take (min ((x::r).map V.int).length (((x::r).drop 1).map V.int).length)).map λq=>q.2-q.1)=Yd (x::r):=by
     unfold Yd;rw[bZ];rw[iU,ag,ag];exact aJ _
    rw[en]at e6;have ad:H5 l≠none:=(by rw[ZL];intro z;cases z);exact hN _ _ _ (by rw[DU];simp) ⟨Yd (x::r),m++[x],pc,rfl,by rw[ci,<-M,Ol];rfl,by rw[aH,DU];simp;lia,λz=>ad (by rw[<-z];exact X),e6,s6 _ _ ZL,ai.trans s6,rfl⟩
def Az(T:Txt K L):Sp:=λe H Q _=>E3 λ(a:Addr)(b:fc)(n:Int)=>e=[.ref a,.int n]/\ι K H a (b.map V.int)/\b.length<=100/\-100<=n/\n.natAbs<Td/\(∀c∈b,c.natAbs<Td)/\(∀k,k<b.length->(Zc n k).natAbs<Td)/\∀d,δ H d->Q (.int (Zd b n 0)) d
abbrev qQ:Stmt:=top 92
def AH:ε ["found","at","value","choices","k","difference"] ["found","at"] (aA qQ):=.of
def z9:Ue (aA qQ) "value":=.of (by kernel_rfl)
def wc:Ψ (aA qQ) "enumerate":=.of
def IU(T:Txt K L)(I:bI (τ P w)):Ok P w K L base "value_at" qQ ["found","at"] 1 (Az T):=λ_ _ D=>by
 refine D.F.Ο AH λO A p s H J Q E M h=>?_;obtain⟨a,f,n,rfl,r,R,C,nb,cb,v,k⟩:=h;refine⟨_,(aw (Κ 2 aD) (aw (Κ 3 aD) (aw (gf PassesOwn.never rfl (zA true wc.g T.enumerate (γ 0)) (iC (n:=2) rfl (bQ (ϊ 4) (bQ (ϊ 5) fJ))) (aw (Me (i:=2) AH.nd rfl (Or.inl z9.l) (aX tL (γ 5) (γ 3)) sB) (ay (Κ 3 (aX eY (aX tL (γ 3) (aX jt (γ 1) (γ 4))) (aX gc (γ 4) aD)))))) (ay (aY (γ 2)))))),?_⟩;walk_at "t";refine⟨⟨_,r⟩,?_⟩;refine HL (K:=K) (c:=true) (xs:=f.map V.int) (λi e d=>δ H d/\∃o m,e=[some (V.ref a),some (V.int n),some (V.int (Zd (f.take i) n 0)),some (V.int (Zc n i)),o,m]) ⟨δ.refl _,_,_,by rw[NU,dU,Ec]⟩ (λi e d z=>z.1.seq r) ?_ ?_
 .rintro i x e d q N hN hx ⟨s2,o,m,rfl⟩ nq;obtain⟨c,j,rfl⟩:=List.μ hx;have t:=(ax.mp j).1;have u:f.take (i+1)=f.take i++[c]:=by rw[bg,j];rfl
  have B:=δ.new (HO.tup [V.int (i:Int),V.int c]) nq;have y:=cb c (aP j);have b:=v i t;have G:(n-(i:Int)).natAbs<Td:=by
   have:(200:Nat)<Td:=sy (k:=8) (by decide) (by decide)
   lia
  walk_at "";refine⟨_,Α.of au,rfl,_,_,rfl,_,_,rfl,rfl,c,rfl,wf y b,(i:Int),rfl,wf b G,(i:Int),rfl,⟨by lia,by lia⟩,hN _ _ ⟨s2.trans B,some (V.int (i:Int)),some (V.int c),?_⟩⟩;rw[<-NV,Int.mul_ediv_cancel _ (show(i:Int)+1≠0 by lia),u,PL,bq,Nat.min_eq_left (by lia),Nat.zero_add]
 .rintro e d ⟨s2,o,m,rfl⟩;rw[ag,bC];walk_at "";exact k d s2
abbrev CJ(P w base)(T:Txt K L):=Cb P w K L base "value_at" qQ ["found","at"] 1 (Az T)
def uL(T:Txt K L):Sp:=λe H Q _=>E3 λ(a:Addr)(b:fc)(n:Nat)=>e=[.ref a,.int n]/\ι K H a (b.map V.int)/\b.length<=100/\n<=100/\(∀c∈b,c.natAbs<Td)/\∀l d,H l=none->δ H d->d l=some (.lst (((List.range n).map λi=>Tc b i 0).map V.int))->Q (.ref l) d
abbrev pD:Stmt:=top 93
def Cs:ε ["found","many"] ["found","many"] (aA pD):=.of
def vY:Ψ (aA pD) "range":=.of
def C4(T:Txt K L)(u:bI (τ P w))(f:CJ P w base T):Ok P w K L base "first_values" pD ["found","many"] 2 (uL T):=λ_ _ D=>by
 refine D.F.Ο Cs λI A q s H C Q E y h=>?_;obtain⟨a,t,n,rfl,x,z,nb,cb,k⟩:=h;refine⟨_,(ay (aY (gG rfl (UT ["at","found"] 1 [0]) (kG vY.g T.range (aa (γ 1) ap)) (λ_ _ _ _=>(d6 (i:=0) (show(["at","found"]:hU).Nodup from by decide +kernel) rfl (Or.inl rfl))) (λ_ _ _ _=>gu) (λ_ _ _ _=>(gD f.G (y.mono (by decide)) (by rfl) f.D.m f.D.F.kp f.D.b .nil (d7 u) (aa (pv 1) (aa (pv 0) ap))))))),?_⟩;walk_at "t";refine⟨by lia,by lia,λp l=>?_⟩;rw[dJ];refine kg (lo:=0) (n:=n) (λi d j c=>δ H c/\c p=some (.lst d)/\d=((List.range i).map λi=>Tc t i 0).map V.int/\∃v,j=[v,some (V.ref a)]) ⟨δ.new _ l,au,rfl,_,rfl⟩ ?_ ?_
 .rintro i d j c N hN hi ⟨s2,e2,rfl,v,rfl⟩;walk_at "";refine⟨a,t,(i:Nat),by rw[d9],s2.seq x,z,by lia,?_,cb,λk _=>(show ch i k<Td from RX (by lia)),λB r=>⟨r _ _ e2,d8 (by rw[ag,ag,cN];lia),hN _ _ _ ⟨?_,au,?_,_,rfl⟩⟩⟩
  .exact(show i<Td from sy (k:=7) (by lia) (by decide))
  .exact λb o e=>by rw[aM (cC e l)];exact r _ _ (s2 _ _ e)
  .rw[dZ,aq,aq]
   rfl
 .rintro d j c ⟨s2,e2,rfl,v,rfl⟩;exact k p c l s2 e2
def Ck(T:Txt K L):Sp:=λj H Q _=>E16 λ(t l w i lw g:Addr)(a:List (Str×V))(m:Int)(h:hH)(d:ix)(b:fc)(f:List V)(p k c:Int)(e:Option Int)=>j=[.ref t,.int p,.int k]/\H t=some (.ins T.Tally l a)/\a.lookup ("web":Str)=some (.ref w)/\a.lookup ("weights":Str)=some (.ref lw)/\a.lookup ("bearers":Str)=some (.ref g)/\θ T.Web H w m i h d/\H lw=some (.lst (b.map V.int))/\(b.length:Int)=m/\H g=some (.lst f)/\(0<=p/\p<m)/\(0<=k/\k<m)/\f[p.toNat]?=some (Va e)/\cJ d k p=some c/\2<=c/\c<=1000000/\Q (.bl (decide (b.getD k.toNat 0*c=b.getD p.toNat 0)&&decide (e≠some k))) H
abbrev xV:Stmt:=top 100
def Kv:ε ["tally","place","kid"] ["tally","place","kid"] (aA xV):=.of
def LD(T:Txt K L)(r:bI (τ P w))(y:CG P w base T):Ok P w K L base "is_free" xV ["tally","place","kid"] 6 (Ck T):=λ_ _ D=>by
 refine D.F.Ο Kv λZ A i s H X Q E S h=>?_;obtain⟨t,l,w,M,lw,lb,g,m,I,x,a,Y,p,k,c,b,rfl,f,O,U,u,W,N,B,o,n,v,C,J,R,G,q⟩:=h;refine⟨_,(ay (aY (wr (Θ y S r (aa (cq (γ 0) rfl) (aa (cq (γ 0) rfl) (aa (γ 2) (aa (γ 1) ap))))) (wD (jV ph (γ 2) (ψ bu (cq (γ 0) rfl) (γ 1)) (kP _)))))),?_⟩;walk_at "t";refine⟨T.Tally,l,g,f,T.Η,T.ϡ,_,O,T.Tally,l,g,f,T.Η,T.TZ,_,U,w,lw,M,m,I,x,a,k,p,c,rfl,W,ι.of N,B,v,n,J,G,R,⟨_,rfl,?_⟩⟩;by_cases d:a.getD k.toNat 0*c=a.getD p.toNat 0
 .rw[aj (bo d)];refine⟨T.Tally,l,g,f,T.Η,T.yz,_,u,Γ o (fR n.1 C) ⟨?_,?_⟩⟩
  .cases b<;>rfl
  .have e:(!decide (V.int k=Va b))=(decide (a.getD k.toNat 0*c=a.getD p.toNat 0)&&decide (b≠some k)):=by
    rw[bo d,iQ];cases b with
    | none=>simp[Va]
    | some j=>
      by_cases z:j=k
      .subst z;simp[Va]
      .simp[Va,z,Ne.symm z]
   rw[e];exact q
 .rw[ah (by rw[b4];exact d)];rw[bM d,gg]at q;exact q
def yb(T:Txt K L):Sp:=λg H Q _=>E5 λ(a b:Addr)(e d:fc)(n:Nat)=>g=[.ref a,.ref b,.int n]/\ι K H a (e.map V.int)/\ι K H b (d.map V.int)/\n<e.length/\n<d.length/\n<=100/\(∀c∈e,c.natAbs<Td)/\(∀c∈d,c.natAbs<Td)/\∀f,δ H f->Q (.int (Ug (λi=>e.getD i 0) (λi=>d.getD i 0) n)) f
abbrev r6:Stmt:=top 95
def Gj:ε ["one","other","at"] ["one","other","at"] (aA r6):=.of
def yJ:Ψ (aA r6) "range":=.of
def Gg(T:Txt K L)(G:bI (τ P w)):Ok P w K L base "parted_at" r6 ["one","other","at"] 1 (yb T):=λ_ _ D=>by
 refine D.F.Ο Gj λS A r s H O Q E R h=>?_;obtain⟨a,b,d,c,n,rfl,B,y,J,I,M,z,C,k⟩:=h;refine⟨_,(ay (aY (TB (BK rfl) T.sum (aa (gG rfl (UT ["k","one","other","at"] 1 [0,1,2]) (kG yJ.g T.range (aa (aX gc (Ϩ 2) aD) ap)) (λ_ _ _ _=>(d6 (i:=0) (show(["k","one","other","at"]:hU).Nodup from by decide +kernel) rfl (Or.inl rfl))) (λ_ _ _ _=>gu) (λ_ _ _ _=>(aX tL (ψ (oM K rfl) (pv 1) (pv 0)) (ψ (oM K rfl) (pv 2) (aX jt (pv 3) (pv 0)))))) ap)))),?_⟩;walk_at "t";refine⟨by lia,by lia,λp t=>?_⟩;rw[show((n:Int)+1).toNat=n+1 by lia];refine kg (lo:=0) (n:=n+1) (λi j m f=>δ H f/\f p=some (.lst j)/\j=((List.range i).map λk=>d.getD k 0*c.getD (n-k) 0).map V.int/\∃v,m=[v,some (V.ref a),some (V.ref b),some (V.int n)]) ⟨δ.new _ t,au,rfl,_,rfl⟩ ?_ ?_
 .rintro i j m f N hN hi ⟨s2,e2,rfl,v,rfl⟩;walk_at "";have q:i<d.length:=by lia
  have l:n-i<c.length:=by lia
  have x:d.getD i 0=d[i]:=by rw[bn,az q];rfl
  have u:c.getD (n-i) 0=c[n-i]:=by rw[bn,az l];rfl
  refine⟨a,_,_,_,rfl,rfl,s2.seq B,fR (v:=V.int (d.getD i 0)) (by lia) (by rw[show((0:Int)+(i:Int)).toNat=i by lia,aN,az q,x];rfl),b,_,_,_,rfl,rfl,s2.seq y,fR (v:=V.int (c.getD (n-i) 0)) (by lia) (by rw[show((n:Int)-(0+(i:Int))).toNat=n-i by lia,aN,az l,u];rfl),d.getD i 0,rfl,c.getD (n-i) 0,rfl,wf (by rw[x];exact z _ (dh q)) (by rw[u];exact C _ (dh l)),e2,d8 (by rw[ag,ag,cN];lia),hN _ _ _ ⟨?_,au,?_,_,rfl⟩⟩
  .exact λb o e=>by rw[aM (cC e t)];exact s2 _ _ e
  .rw[dZ,aq,aq]
   rfl
 .rintro j m f ⟨s2,e2,rfl,v,rfl⟩;refine⟨p,rfl,_,.inl (ι.of e2),?_⟩;rw[JZ];exact k f s2
def Fi(T:Txt K L):Sp:=λg H Q _=>E4 λ(a b:Addr)(d e:fc)=>g=[.ref a,.ref b]/\ι K H a (d.map V.int)/\ι K H b (e.map V.int)/\d.length<=e.length/\d.length<=100/\(∀c∈d,c.natAbs<Td)/\(∀c∈e,c.natAbs<Td)/\∀l f,H l=none->δ H f->f l=some (.lst (((List.range d.length).map λn=>Ug (λi=>d.getD i 0) (λi=>e.getD i 0) n).map V.int))->Q (.ref l) f
abbrev xB:Stmt:=top 94
def MA:ε ["one","other"] ["one","other"] (aA xB):=.of
def Dm:Ψ (aA xB) "range":=.of
def Mi(T:Txt K L)(y:bI (τ P w))(f:Cb P w K L base "parted_at" r6 ["one","other","at"] 1 (yb T)):Ok P w K L base "parted" xB ["one","other"] 2 (Fi T):=λ_ _ D=>by
 refine D.F.Ο MA λS A r s H R Q E I h=>?_;obtain⟨a,b,l,t,rfl,u,z,M,J,B,C,k⟩:=h;refine⟨_,(ay (aY (gG rfl (UT ["at","one","other"] 1 [0,1]) (kG Dm.g T.range (aa (TB gN T.len (aa (Ϩ 0) ap)) ap)) (λ_ _ _ _=>(d6 (i:=0) (show(["at","one","other"]:hU).Nodup from by decide +kernel) rfl (Or.inl rfl))) (λ_ _ _ _=>gu) (λ_ _ _ _=>(gD f.G (I.mono (by decide)) (by rfl) f.D.m f.D.F.kp f.D.b .nil (d7 y) (aa (pv 1) (aa (pv 2) (aa (pv 0) ap)))))))),?_⟩;walk_at "t";refine⟨_,.inl u,?_⟩;rw[ag];refine⟨by lia,by lia,λp q=>?_⟩;rw[dJ];refine kg (lo:=0) (n:=l.length) (λi d j c=>δ H c/\c p=some (.lst d)/\d=((List.range i).map λn=>Ug (λi=>l.getD i 0) (λi=>t.getD i 0) n).map V.int/\∃v,j=[v,some (V.ref a),some (V.ref b)]) ⟨δ.new _ q,au,rfl,_,rfl⟩ ?_ ?_
 .rintro i d j c N hN hi ⟨s2,e2,rfl,v,rfl⟩;walk_at "";refine⟨a,b,l,t,i,by rw[d9],s2.seq u,s2.seq z,hi,by lia,by lia,B,C,λO x=>⟨x _ _ e2,d8 (by rw[ag,ag,cN];lia),hN _ _ _ ⟨?_,au,?_,_,rfl⟩⟩⟩
  .exact λb o e=>by rw[aM (cC e q)];exact x _ _ (s2 _ _ e)
  .rw[dZ,aq,aq]
   rfl
 .rintro d j c ⟨s2,e2,rfl,v,rfl⟩;exact k p c q s2 e2
def AJ(T:Txt K L):Sp:=λf H Q _=>XC λ(t g w e:Addr)(b:List (Str×V))(m:Int)(d:hH)(a:ix)(p k c:Int)(n:Nat)=>f=[.ref t,.int p,.int k,.int n]/\H t=some (.ins T.Tally g b)/\b.lookup ("web":Str)=some (.ref w)/\θ T.Web H w m e d a/\(0<=p/\p<m)/\(0<=k/\k<m)/\cJ a k p=some c/\2<=c/\c<=1000000/\Q (.int (((n:Int)+1)*c-1)) H
abbrev xt:Stmt:=top 103
def IY:ε ["tally","place","kid","given"] ["tally","place","kid","given"] (aA xt):=.of
def Iz(T:Txt K L)(f:bI (τ P w))(g:mP P w base T):Ok P w K L base "held_for" xt ["tally","place","kid","given"] 4 (AJ T):=λ_ _ D=>by
 refine D.F.Ο IY λJ A b s H G Q E z h=>?_;obtain⟨t,B,w,x,j,m,r,o,p,k,c,n,rfl,i,y,W,v,l,e,I,C,q⟩:=h;refine⟨_,(ay (aY (aX jt (aX ke (aX gc (γ 3) aD) (Θ g z f (aa (cq (γ 0) rfl) (aa (γ 2) (aa (γ 1) ap))))) aD))),?_⟩;walk_at "t";refine⟨T.Tally,B,j,i,T.Η,T.ϡ,_,y,w,x,m,r,o,k,p,rfl,W,λd _ _ _ _ a=>?_,λu=>absurd ⟨l,v⟩ u,λ_ _ _ _ a=>absurd (e.symm.trans a) (by nofun)⟩;have:d=c:=bF (a.symm.trans e);subst this;exact⟨d,rfl,.inr ⟨by lia,by lia⟩,q⟩
def CL(T:Txt K L):Sp:=λh H Q _=>WZ λ(t i b e ld:Addr)(f:List (Str×V))(g pv:List V)(p:Int)(a:fc)(n:Nat)=>h=[.ref t,.int p,.int n]/\H t=some (.ins T.Tally i f)/\f.lookup ("rests":Str)=some (.ref b)/\H b=some (.lst g)/\0<=p/\g[p.toNat]?=some (.ref e)/\H e=some (.lst (.ref ld::pv))/\H ld=some (.lst (a.map V.int))/\a.length<=100/\n<Td/\(∀c∈a,c.natAbs<Td)/\(∀k,k<a.length->ch n k<Td)/\∀d,δ H d->Q (.int (Tc a n 0)) d
abbrev xU:Stmt:=top 101
def LB:ε ["tally","place","held"] ["tally","place","held"] (aA xU):=.of
def Ko(T:Txt K L)(b:bI (τ P w))(f:CJ P w base T):Ok P w K L base "ways_of" xU ["tally","place","held"] 2 (CL T):=λ_ _ D=>by
 refine D.F.Ο LB λC A a s H B Q E r h=>?_;obtain⟨t,u,z,x,ld,e,y,pv,p,o,n,rfl,d,g,j,q,m,i,l,v,nb,cb,c,k⟩:=h;refine⟨_,(ay (aY (Θ f r b (aa (ψ bu (jT bu (cq (γ 0) rfl) (γ 1) (λ_ _=>rfl)) aD) (aa (γ 2) ap))))),?_⟩;walk_at "t";refine⟨T.Tally,u,e,d,T.Η,T.Ul,_,g,Γ j (fR q m) (Γ i (fR (bO 0) rfl) ?_)⟩;exact⟨ld,o,n,rfl,ι.of l,v,by lia,nb,cb,c,k⟩
abbrev Fe(P w base)(T:Txt K L):=Cb P w K L base "ways_of" xU ["tally","place","held"] 2 (CL T)
def xL(T:Txt K L):Sp:=λl H Q _=>E18 λ(t o w j h d ld:Addr)(b:List (Str×V))(m:Int)(i:hH)(f:ix)(e pv:List V)(p k:Int)(c n:Nat)(a:fc)=>l=[.ref t,.int p,.int k,.int n]/\H t=some (.ins T.Tally o b)/\b.lookup ("web":Str)=some (.ref w)/\b.lookup ("rests":Str)=some (.ref h)/\θ T.Web H w m j i f/\(0<=p/\p<m)/\(0<=k/\k<m)/\cJ f k p=some (c:Int)/\2<=c/\c<=1000000/\H h=some (.lst e)/\e[k.toNat]?=some (.ref d)/\H d=some (.lst (.ref ld::pv))/\H ld=some (.lst (a.map V.int))/\a.length<=24/\n<=24/\(∀c∈a,c.natAbs<Td)/\∀g,δ H g->Q (.int (Tc a (Φ c n) 0)) g
abbrev uw:Stmt:=top 102
def FI:ε ["tally","place","kid","given"] ["tally","place","kid","given"] (aA uw):=.of
def FO(T:Txt K L)(d:bI (τ P w))(V:Cb P w K L base "held_for" xt ["tally","place","kid","given"] 4 (AJ T))(r:Fe P w base T):Ok P w K L base "ways_given" uw ["tally","place","kid","given"] 5 (xL T):=λ_ _ D=>by
 refine D.F.Ο FI λξ A a s H vs Q E l h=>?_;obtain⟨t,o,w,S,O,u,ld,g,m,M,y,x,pv,p,k,c,n,R,rfl,f,U,B,W,N,i,X,c2,C,I,b,G,J,cl,z,cb,q⟩:=h;refine⟨_,(ay (aY (Θ r l d (aa (γ 0) (aa (γ 2) (aa (Θ V l d (aa (γ 0) (aa (γ 1) (aa (γ 2) (aa (γ 3) ap))))) ap)))))),?_⟩;walk_at "t";have e:((n:Int)+1)*(c:Int)-1=((Φ c n:Nat):Int):=by
  unfold Φ;have:1<=(n+1)*c:=eA (show 1<=n+1 by lia) (show 1<=c by lia);rw[Int.natCast_sub this,jS]
  rfl
 have v:Φ c n+1<=2^25:=by
  unfold Φ;have h1:(n+1)*c<=25*1000000:=eA (by lia) C;have Y:(2:Nat)^25=33554432:=rfl
  lia
 refine⟨t,o,w,S,g,m,M,y,p,k,c,n,rfl,f,U,W,N,i,X,by lia,by lia,?_⟩;rw[e];exact⟨t,o,O,u,ld,g,x,pv,k,R,Φ c n,rfl,f,B,I,i.1,b,G,J,by lia,sy (k:=25) (by lia) (by decide),cb,λj Z=>Jt v (by lia),q⟩
def uR(H:Hp)(b:List Int->Nat)(f:List Int->Nat->Int)(e:hH)(a:List (List Int)):Prop:=Paired (λld c=>∃d:List Int,H ld=some (.lst (d.map V.int))/\Ϭ (b c) d (f c)) e a
structure Zk(H:Hp)(rs:ix)(m p:Int)(rv:List V)(W:Int->Nat->Int)(c d:gn)(k:Int):Prop where
 k0:0<=k
 k1:k<m
 tl:cJ rs k p=some (c k:Int)
 c2:2<=c k
 c1:c k<=1000000
 wk:vk (d k) (W k)
 at_:E4 λ(lp ld:Addr)(pv:List V)(cs:fc)=>rv[k.toNat]?=some (.ref lp)/\H lp=some (.lst (.ref ld::pv))/\H ld=some (.lst (cs.map V.int))/\Ϭ 15000 cs (W k)
def XI(a:fc)(b:Option Int)(c:gn)(p k:Int):Bool:=decide (a.getD k.toNat 0*(c k:Int)=a.getD p.toNat 0)&&decide (b≠some k)
def W8(a:Option Int)(k:Int):Bool:=decide (a=some k)
def Ao(T:Txt K L):Sp:=λz H Q _=>E23 λ(t A w y lw v s r q:Addr)(a:List (Str×V))(m:Int)(x:hH)(n:ix)(f:fc)(u o j:List V)(p:Int)(e:fc)(h:Option Int)(W:Int->Nat->Int)(c d:gn)=>z=[.ref t,.int p]/\H t=some (.ins T.Tally A a)/\a.lookup ("web":Str)=some (.ref w)/\a.lookup ("weights":Str)=some (.ref lw)/\a.lookup ("bearers":Str)=some (.ref v)/\a.lookup ("kids":Str)=some (.ref s)/\a.lookup ("rests":Str)=some (.ref r)/\θ T.Web H w m y x n/\H lw=some (.lst (f.map V.int))/\(f.length:Int)=m/\H v=some (.lst u)/\H s=some (.lst o)/\H r=some (.lst j)/\(0<=p/\p<m)/\u[p.toNat]?=some (Va h)/\o[p.toNat]?=some (.ref q)/\H q=some (.lst (e.map V.int))/\(∀k∈e,Zk H n m p j W c d k)/\((e.map λk=>d k+1).sum:Int)<m/\∀l i b,H l=none->δ H b->b l=some (.lst (i.map V.ref))->uR b (Us d) (ϟ (XI f h c p) (W8 h) (λk g=>W k (Φ (c k) g))) i (VZ e)->Q (.ref l) b
abbrev kF:Stmt:=top 99
def si:ε ["tally","place","many","rests","kid","ways"] ["tally","place"] (aA kF):=.of
def zZ:VX (aA kF) "rests":=.of (by kernel_rfl)
def Cv:VX (aA kF) "kid":=.of (by kernel_rfl)
def AU:VX (aA kF) "ways":=.of (by kernel_rfl)
def qM:Ψ (aA kF) "reversed":=.of
def zU:Ψ (aA kF) "range":=.of
def A8:Ψ (aA kF) "list":=.of
def Je(T:Txt K L)(hq:bI (τ P w))(pZ:Cb P w K L base "differences" nM ["values"] 1 (vS T))(rJ:Cb P w K L base "first_values" pD ["found","many"] 2 (uL T))(yh:Cb P w K L base "is_free" xV ["tally","place","kid"] 6 (Ck T))(Be:Cb P w K L base "parted" xB ["one","other"] 2 (Fi T))(mH:Cb P w K L base "ways_given" uw ["tally","place","kid","given"] 5 (xL T)):Ok P w K L base "rests_of" kF ["tally","place"] 7 (Ao T):=λ_ _ D=>by
 refine D.F.Ο si λξ A dT s H vs Q E hr h=>?_;obtain⟨t,dx,w,tw,lw,lb,lk,lr,ZM,fs,m,ps,rs,xs,cv,kv,rv,p,ks,ob,W,c,d,rfl,ht,fw,fg,fb,fk,fr,WA,eg,xl,eb,ek,dd,hp,ca,ef,ba,Ze,dm,q⟩:=h;refine⟨_,(aw (Κ 2 (cq (cq (Ϩ 0) rfl) rfl)) (aw (sv (i:=3) si.nd rfl (Or.inr zZ.l) (eL (aa (eL (aa aD ap)) ap))) (aw (gf PassesOwn.never rfl (tT qM.g T.reversed (ψ bu (cq (Ϩ 0) rfl) (Ϩ 1))) (d6 (i:=4) si.nd rfl (Or.inr Cv.l)) (aw (sv (i:=5) si.nd rfl (Or.inr AU.l) (gG rfl (UT ["given","tally","place","kid"] 1 [0,1,4]) (kG zU.g T.range (aa (γ 2) ap)) (λ_ _ _ _=>(d6 (i:=0) (show(["given","tally","place","kid"]:hU).Nodup from by decide +kernel) rfl (Or.inl rfl))) (λ_ _ _ _=>gu) (λ_ _ _ _=>(gD mH.G (hr.mono (by decide)) (by rfl) mH.D.m mH.D.F.kp mH.D.b .nil (d7 hq) (aa (pv 1) (aa (pv 2) (aa (pv 3) (aa (pv 0) ap)))))))) (ay (bU (lW (Θ yh hr hq (aa (Ϩ 0) (aa (Ϩ 1) (aa (Ϩ 4) ap))))) (ay (cH (TU (Ϩ 3) (Θ pZ hr hq (aa (Θ Be hr hq (aa (Ϩ 5) (aa (Θ rJ hr hq (aa (ψ bu (Ϩ 3) (lx ju aD)) (aa (γ 2) ap))) ap))) ap))))) (ay (bU (Ν cM (Ϩ 4) (ψ bu (cq (Ϩ 0) rfl) (Ϩ 1))) (ay (cH (TU (Ϩ 3) (Θ pZ hr hq (aa (gG rfl (UT ["count","rests"] 1 [3]) (iA (Ϩ 5)) (λ_ _ _ _=>(d6 (i:=0) (show(["count","rests"]:hU).Nodup from by decide +kernel) rfl (Or.inl rfl))) (λ_ _ _ _=>gu) (λ_ _ _ _=>(aX tL (pv 0) (ψ (oM K rfl) (jT (oM K rfl) (pv 1) (lx ju aD) (λ_ _=>rfl)) aD)))) ap))))) (ay (cH (TU (Ϩ 3) (gG rfl (UT ["difference","ways"] 1 [5]) (iA (ψ bu (Ϩ 3) (lx ju aD))) (λ_ _ _ _=>(d6 (i:=0) (show(["difference","ways"]:hU).Nodup from by decide +kernel) rfl (Or.inl rfl))) (λ_ _ _ _=>gu) (λ_ _ _ _=>(aX tL (ψ (oM K rfl) (pv 1) aD) (pv 0))))))))))))) (ay (aY (Re rfl qM.g T.reversed A8.g T.list (Ϩ 3))))))),?_⟩;walk_at "s";obtain⟨dw,wb⟩:=WA.ob;refine db λN0 h0=>?_;walk_at "";refine⟨T.Tally,dx,fs,ht,T.Η,T.ϡ,_,fw,w,rfl,T.Web,dw,_,wb,T.Ε,T.Λ,_,eP _ _,h0 _ _ (db λN1 h1=>?_)⟩;walk_at "";refine⟨bX (by simp),λq1 bs=>⟨bX (by simp),λl nl=>h1 _ _ (db λN2 h2=>?_)⟩⟩;have s1:=δ.new (HO.lst [V.int 1]) bs;have s2:=δ.new (HO.lst [V.ref q1]) nl;have ZN:H l=none:=s1.free nl;have e1:=s2 _ _ (au (H:=H) (a:=q1) (o:=HO.lst [V.int 1]));have el:upd (upd H q1 (HO.lst [V.int 1])) l (HO.lst [V.ref q1]) l=some (.lst ([q1].map V.ref)):=au;have ϙ:=s1.trans s2;generalize upd (upd H q1 (HO.lst [V.int 1])) l (HO.lst [V.ref q1])=H2 at e1 el ϙ ⊢;clear s1 s2 nl bs h0 h1;walk_at "";have g:=WA.go;have m1:=g.m1;have Ζ:=g.Ζ;refine⟨T.Tally,dx,fs,ϙ _ _ ht,T.Η,T.As,_,fk,Γ (ϙ _ _ ek) (fR hp.1 ef) ⟨ZM,rfl,_,ι.of (ϙ _ _ ba),?_⟩⟩;generalize hF:ϟ (XI xs ob c p) (W8 ob) (λk g=>W k (Φ (c k) g))=F at q;have dt:∀k∈ks,vk (d k) (W k):=λk hk=>(Ze k hk).wk;have dz:∀k∈ks,1<=c k/\c k<=1000000:=λk hk=>⟨aW (by decide) (Ze k hk).c2,(Ze k hk).c1⟩;refine rq (K:=K) (xs:=ks.map V.int) (λi B Z=>δ H Z/\(∃(R:hH)(ld:Addr),Z l=some (.lst ((R++[ld]).map V.ref))/\uR Z (Us d) F (R++[ld]) ((List.range (i+1)).map λj=>ks.drop (ks.length-j)))/\∃v4 v5,B=[some (V.ref t),some (V.int p),some (V.int m),some (V.ref l),v4,v5]) ?_ (λi B Z _ z=>ι.of (z.1 _ _ ba)) ?_ ?_
 .refine⟨ϙ,⟨[],q1,el,.cons ⟨[1],e1,?_⟩ .nil⟩,_,_,rfl⟩;have e:ks.drop (ks.length-0)=[]:=by rw[gh,fh]
  show Ϭ (Us d (ks.drop (ks.length-0))) [1] (F (ks.drop (ks.length-0)));rw[e,<-hF];exact Ϭ.one
 .rintro i x B Z N hN r ⟨s3,⟨R,ld,e3,ra⟩,v4,v5,rfl⟩;rw[<-eB]at r;obtain⟨k,hk,rfl⟩:=List.μ r;have il:i<ks.length:=by
   have:=(ax.mp hk).1;rw[aQ]at this;exact this
  have WY:ks[ks.length-1-i]?=some k:=by
   rw[cu il]at hk;exact hk
  have eS:ks.drop (ks.length-(i+1))=k::ks.drop (ks.length-i):=by
   rw[show ks.length-(i+1)=ks.length-1-i by lia,i6 (by lia),(ax.mp WY).2,show ks.length-1-i+1=ks.length-i by lia]
  have km:=aP WY;have C:=Ze k km;obtain⟨kp,kd,pv,cs,dj,k2,k3,kc⟩:=C.at_;have a4:∀x∈k::ks.drop (ks.length-i),x∈ks:=λx r=>by
   rw[<-eS]at r;exact gA r
  have dS:((k::ks.drop (ks.length-i)).map λk=>d k+1).sum<m.toNat:=by
   rw[<-eS];have:=Ha (λk=>d k+1) ks (ks.length-(i+1))
   lia
  have er:(List.range (i+1+1)).map (λj=>ks.drop (ks.length-j))=((List.range (i+1)).map λj=>ks.drop (ks.length-j))++[k::ks.drop (ks.length-i)]:=by rw[dZ,aq,<-eS];rfl
  obtain⟨cS,dn,W9⟩:∃cS:List Int,Z ld=some (.lst (cS.map V.int))/\Ϭ (Us d (ks.drop (ks.length-i))) cS (F (ks.drop (ks.length-i))):=by
   have:=ra;unfold uR at this;rw[dZ,aq]at this;obtain⟨l0,a0,h2,_,h4⟩:=sW this;have h5:=(eV (List.append_inj' h2 rfl).2).1;rw[h5];exact h4
  generalize ks.drop (ks.length-i)=S at a4 dS er W9 eS;have ea:∀{y:Addr}{zs:fc},zs≠[]->Z y=some (.lst (zs.map V.int))->y≠l:=λ{y zs} zn hy z=>by
   rw[z,e3]at hy;injection hy with hy
   injection hy with hy
   cases zs with
   | nil=>exact zn rfl
   | cons z0 zs=>
     cases R with
     | nil=>cases(eV hy).1
     | cons _ _=>cases(eV hy).1
  have Y:∀(y:Addr)(X:fc)(f:Hp),δ Z f->f y=some (.lst (X.map V.int))->Ϭ (Us d (k::S)) X (F (k::S))->(R++[ld]).length<sizeLine->∀v5,VW K "list" (V.ref l) f/\rW (V.ref l) [V.ref y] f λ_ H6=>N [some (V.ref t),some (V.int p),some (V.int m),some (V.ref l),some (V.int k),v5] H6:=by
   intro y X f u ey be sz v5;have J:=u _ _ e3;refine⟨S9 J,oS J (by rw[ag];exact sz) (hN _ _ ⟨λb o e=>?_,⟨R++[ld],y,by rw[au,aq (l₂:=[y])];rfl,?_⟩,_,_,rfl⟩)⟩
   .rw[aM (cC e ZN)];exact u _ _ (s3 _ _ e)
   .rw[er];have yl:y≠l:=λz=>by
     rw[z,J]at ey;injection ey with ey
     injection ey with ey
     cases X with
     | nil=>exact be.ne rfl
     | cons z0 zs=>
       cases R with
       | nil=>cases(eV ey).1
       | cons _ _=>cases(eV ey).1
    refine p6 ⟨X,by rw[aM yl];exact ey,be⟩ (Paired.imp' (λb kk ⟨cb,h1,h2⟩=>⟨cb,?_,h2⟩) ra);rw[aM (ea h2.ne h1)];exact u _ _ h1
  have av:(R++[ld]).length<sizeLine:=by
   have:=Paired.length ra;rw[ag,cN]at this;exact d8 (by have:=Ha (λk=>d k+1) ks 0;have:ks.length<=(ks.map λk=>d k+1).sum:=LN ks;lia)
  refine db λM1 k1=>?_;walk_at "";refine⟨by lia,by lia,λpw b0=>?_⟩;have M:∀{b:Nat}{z:Int},b<=15000->z.natAbs<=2^b->z.natAbs<Td:=λ{b z} hb hz=>sy hz (by lia);refine kg (lo:=0) (n:=m.toNat) (λj I B H4=>δ Z H4/\H4 pw=some (.lst I)/\I=((List.range j).map λg=>W k (Φ (c k) g)).map V.int/\∃v,B=[v,some (V.ref t),some (V.int p),some (V.int k)]) ⟨δ.new _ b0,au,rfl,_,rfl⟩ ?_ ?_
  .rintro j I B H4 N4 hN4 hj ⟨O,e4,rfl,v,rfl⟩;walk_at "";have U:=s3.trans O;refine⟨t,dx,w,tw,lr,kp,kd,fs,m,ps,rs,rv,pv,p,k,c k,j,cs,by rw[d9],U _ _ ht,fw,fr,WA.same U,hp,⟨C.k0,C.k1⟩,C.tl,C.c2,C.c1,U _ _ dd,dj,U _ _ k2,U _ _ k3,kc.len,by lia,λx r=>M (aJ _) (kc.bt x r),λf u=>⟨u _ _ e4,d8 (by rw[ag,ag,cN];lia),hN4 _ _ _ ⟨?_,au,?_,_,rfl⟩⟩⟩
   .exact λb o e=>by rw[aM (cC e b0)];exact u _ _ (O _ _ e)
   .rw[dZ,aq,aq,kc.val]
    rfl
  .rintro I B H4 ⟨O,e4,rfl,v,rfl⟩;refine k1 _ _ ?_;have U:=s3.trans O;have b2:∀j,j<m.toNat->(W k (Φ (c k) j)).natAbs<=2^(d k*(25+20*d k)):=λj hj=>uZ (Ir C.wk (aW (by decide) C.c2) C.c1 (by lia));have bm:d k*(25+20*d k)<=15000:=by
    have:=Dr (d:=d) (ks:=k::S) (by lia);rw[wU]at this
    lia
   have bl:∀x∈(List.range m.toNat).map λg=>W k (Φ (c k) g),x.natAbs<Td:=λx r=>by
    obtain⟨j,hj,rfl⟩:=aZ.mp r;exact M bm (b2 j (cW.mp hj))
   have bS:Us d S<=15000:=Dr (by rw[aF,bf]at dS;lia);have WH:∀{f:Hp},δ H4 f->ϳ ((R++[ld]).map V.ref) (-1)=some (V.ref ld):=λ_=>by rw[aq];exact El _ _
   have an:∀x∈k::S,vk (d x) (W x):=λx r=>dt x (a4 x r);have Zm:∀x∈k::S,1<=c x/\c x<=1000000:=λx r=>dz x (a4 x r);walk_at "";refine⟨t,dx,w,tw,lw,lb,fs,m,ps,rs,xs,cv,p,k,c k,ob,rfl,U _ _ ht,fw,fg,fb,WA.same U,U _ _ eg,xl,U _ _ eb,hp,⟨C.k0,C.k1⟩,ca,C.tl,by have:=C.c2;lia,by have:=C.c1;lia,⟨_,rfl,?_⟩⟩;subst hF;change if XI xs ob c p k=true then _ else _;have eN:((m.toNat:Nat):Int)=m:=cA (by lia);have a2:m.toNat<=24:=(by lia);have UO:=O _ _ e3;have XJ:=O _ _ dn;have TK:((List.range m.toNat).map λg=>W k (Φ (c k) g)).length=m.toNat:=(by rw[ag,cN]);by_cases hf:XI xs ob c p k=true
   .rw[aj hf];refine⟨S9 UO,Γ UO (WH (δ.refl _)) ⟨ld,cS,m.toNat,by rw[eN],ι.of XJ,by have:=W9.len;lia,by lia,λx r=>M bS (W9.bt x r),λl5 f n5 u J=>?_⟩⟩;refine⟨pw,l5,_,_,rfl,ι.of (u _ _ e4),ι.of J,by rw[TK,ag,cN];exact aJ _,by rw[TK];lia,bl,λx r=>?_,λl6 H6 n6 s6 e6=>?_⟩
    .obtain⟨j,hj,rfl⟩:=aZ.mp r;rw[W9.val];exact M (aW (DB d S) bS) (uZ (EG a2 (λx r=>an x (.tail _ r)) (λx r=>Zm x (.tail _ r)) j (cW.mp hj)))
    .refine⟨l6,_,rfl,ι.of e6,by rw[ag,cN,TK];lia,λl7 H7 n7 s7 e7=>(Y l7 _ H7 (O.trans (u.trans (s6.trans s7))) e7 ?_ av _).2⟩;refine Mn a2 an Zm dS ?_;rw[TK];refine cB λn hn=>?_;have hn:=cW.mp hn;rw[Bf hf];exact Na (λi hi=>GP (by lia)) λi hi=>by rw[GP (by lia),W9.val]
   .rw[ah hf];refine⟨T.Tally,dx,fs,U _ _ ht,T.Η,T.yz,_,fb,Γ (U _ _ eb) (fR hp.1 ca) ⟨by cases ob<;>rfl,?_⟩⟩;obtain⟨rS,eh⟩:=W9.head;by_cases hb:ob=some k
    .rw[aj (by rw[hb];rfl)];have a3:W8 ob k=true:=bo hb;refine⟨S9 UO,⟨_,ι.of e4⟩,λpc T3=>?_⟩;refine me (K:=K) (c:=true) (a:=pw) (xs:=((List.range m.toNat).map λg=>W k (Φ (c k) g)).map V.int) (λj I B f=>δ H4 f/\f pc=some (.lst I)/\I=((((List.range m.toNat).map λg=>W k (Φ (c k) g)).take j).map λx=>x*ϟ (XI xs ob c p) (W8 ob) (λk g=>W k (Φ (c k) g)) S 0).map V.int/\∃v,B=[v,some (V.ref l)]) ⟨δ.new _ T3,au,rfl,_,rfl⟩ (λj I B f _ ⟨z,_⟩=>ι.of (z _ _ e4)) ?_ ?_
     .rintro j x I B f N5 hN5 hj ⟨u,J,rfl,v,rfl⟩;obtain⟨z,hz,rfl⟩:=List.μ hj;have et:((List.range m.toNat).map λg=>W k (Φ (c k) g)).take (j+1)=((List.range m.toNat).map λg=>W k (Φ (c k) g)).take j++[z]:=(by rw[bg,hz];rfl);walk_at "";refine Γ (u _ _ UO) (WH (δ.refl _)) (Γ (v:=V.int (ϟ (XI xs ob c p) (W8 ob) (λk g=>W k (Φ (c k) g)) S 0)) (u _ _ XJ) (fR (bO 0) (by rw[eh];rfl)) ⟨_,rfl,wf (bl z (aP hz)) (M bS (W9.bt _ (by rw[eh];exact .head _))),J,d8 (by rw[ag,ag,bq,TK];lia),hN5 _ _ _ ⟨?_,au,?_,_,rfl⟩⟩)
      .exact λb o e=>by rw[aM (cC e T3)];exact u _ _ e
      .rw[et,aq,aq]
       rfl
     .rintro I B f ⟨u,J,rfl,v,rfl⟩;rw[ag,TK,bZ (by rw[TK];exact aJ _)]at J;refine⟨pc,_,rfl,ι.of J,by rw[ag,TK];lia,λl7 H7 n7 s7 e7=>(Y l7 _ H7 (O.trans (u.trans s7)) e7 ?_ av _).2⟩;refine Mn a2 an Zm dS ?_;rw[jo];refine cB λn hn=>?_;rw[AW hf a3]
      rfl
    .rw[ah (λz=>hb (by cases ob with
      | none=>cases z
      | some j=>injection z with z;rw[z]))]
     have a3:¬W8 ob k=true:=(by unfold W8;rw[b4];exact hb);have fv:m.toNat=(m.toNat-1)+1:=(by lia);have w0:∀{f:Hp},δ H4 f->f pw=some (.lst (((List.range m.toNat).map λg=>W k (Φ (c k) g)).map V.int)):=λs=>s _ _ e4;have a0:ϳ (((List.range m.toNat).map λg=>W k (Φ (c k) g)).map V.int) 0=some (V.int (W k (Φ (c k) 0))):=fR (bO 0) (by
      show(((List.range m.toNat).map λg=>W k (Φ (c k) g)).map V.int)[0]?=_;rw[aN,aN,gO (by lia)]
      rfl)
     refine⟨S9 UO,Γ UO (WH (δ.refl _)) ⟨ld,rfl,⟨_,ι.of XJ⟩,λpc T3=>?_⟩⟩;refine me (K:=K) (c:=true) (a:=ld) (xs:=cS.map V.int) (λj I B f=>δ H4 f/\f pc=some (.lst I)/\I=((cS.take j).map λx=>W k (Φ (c k) 0)*x).map V.int/\∃v,B=[v,some (V.ref pw)]) ⟨δ.new _ T3,au,rfl,_,rfl⟩ (λj I B f _ ⟨z,_⟩=>ι.of (z _ _ XJ)) ?_ ?_
     .rintro j x I B f N5 hN5 hj ⟨u,J,rfl,v,rfl⟩;obtain⟨z,hz,rfl⟩:=List.μ hj;have et:cS.take (j+1)=cS.take j++[z]:=(by rw[bg,hz];rfl);have cl:=W9.len;walk_at "";refine Γ (w0 u) a0 ⟨_,rfl,wf (M bm (b2 0 (by lia))) (M bS (W9.bt z (aP hz))),J,d8 (by rw[ag,ag,bq];lia),hN5 _ _ _ ⟨?_,au,?_,_,rfl⟩⟩
      .exact λb o e=>by rw[aM (cC e T3)];exact u _ _ e
      .rw[et,aq,aq]
       rfl
     .rintro I B f ⟨u,J,rfl,v,rfl⟩;rw[ag,bC]at J;exact(Y pc _ f (O.trans u) J (QD C.wk (aW (by decide) C.c2) C.c1 hf a3 W9) av _).2
 .rintro B Z ⟨s3,⟨R,ld,e3,ra⟩,v4,v5,rfl⟩;refine h2 _ _ ?_;unfold Qg;walk_at "";rw[ag]at ra;refine⟨_,ι.of e3,λl2 bK=>?_⟩;have O:=δ.new (HO.lst ((R++[ld]).map V.ref).reverse) bK;refine q l2 (R++[ld]).reverse _ (s3.free bK) (s3.trans O) (by rw[au,eB]) ?_;have e:VZ ks=((List.range (ks.length+1)).map λj=>ks.drop (ks.length-j)).reverse:=by rw[<-JS,mR]
  rw[e];exact JM (Paired.imp' (λb kk ⟨cb,h1,h2⟩=>⟨cb,O _ _ h1,h2⟩) ra)
def lz(p ld lw c a b:Addr):List (Str×V):=bp "rests" (.ref b) (bp "kids" (.ref a) (bp "bearers" (.ref c) (bp "weights" (.ref lw) (bp "down" (.ref ld) (bp "web" (.ref p) [])))))
def vC(p ld lw c b a:Addr):(lz p ld lw c b a).lookup ("rests":Str)=some (.ref a):=by
 unfold lz;rw[bR,aj rfl]
def Kt(p ld lw c a b:Addr):(lz p ld lw c a b).lookup ("kids":Str)=some (.ref a):=by
 unfold lz;rw[bR,ah (by decide +kernel),bR,aj rfl]
def FF(p ld lw a b c:Addr):(lz p ld lw a b c).lookup ("bearers":Str)=some (.ref a):=by
 unfold lz;rw[bR,ah (by decide +kernel),bR,ah (by decide +kernel),bR,aj rfl]
def FD(p ld lw c a b:Addr):(lz p ld lw c a b).lookup ("weights":Str)=some (.ref lw):=by
 unfold lz;rw[bR,ah (by decide +kernel),bR,ah (by decide +kernel),bR,ah (by decide +kernel),bR,aj rfl]
def Ld(p ld lw c a b:Addr):(lz p ld lw c a b).lookup ("down":Str)=some (.ref ld):=by
 unfold lz;rw[bR,ah (by decide +kernel),bR,ah (by decide +kernel),bR,ah (by decide +kernel),bR,ah (by decide +kernel),bR,aj rfl]
def LJ(p ld lw c a b:Addr):(lz p ld lw c a b).lookup ("web":Str)=some (.ref p):=by
 unfold lz;rw[bR,ah (by decide +kernel),bR,ah (by decide +kernel),bR,ah (by decide +kernel),bR,ah (by decide +kernel),bR,ah (by decide +kernel),bR,aj rfl]
structure Bv(C O:Addr)(H:Hp)(o p t:Addr)(m:Int)(ps:hH)(rs:ix)(r:Int)(par:fz)(dep:gn)(tl:fc)(ld lw lb lk lr:Addr)(kl:hH)(rv:List V)(S:Int->Prop):Prop where
 ob:∃dx,H o=some (.ins O dx (lz p ld lw lb lk lr))
 web:θ C H p m t ps rs
 rt:ζ m rs r par dep
 et:eX m rs r par dep r=r::tl
 or:Order m r par tl
 hd:H ld=some (.lst ((eX m rs r par dep r).map V.int))
 hw:H lw=some (.lst ((ic m rs r par dep).map V.int))
 hb:H lb=some (.lst (Vm m (S7 m rs r par dep tl)))
 hk:H lk=some (.lst (kl.map V.ref))
 kp:Paired (λa v=>H a=some (.lst ((kd m rs r par v).map V.int))) kl (b7 m.toNat)
 hr:H lr=some (.lst rv)
 rl:rv.length=m.toNat
 rn:∀x∈rv,x=.ο\/∃a,x=.ref a
 ϵ:∀v,S v->0<=v/\∃(lp:Addr)(aT:hH),rv[v.toNat]?=some (.ref lp)/\lp≠lr/\H lp=some (.lst (aT.map V.ref))/\uR H (Us (Tz m rs r par dep)) (ϟ (Wv m rs r par dep tl) (Ww m rs r par dep tl) (λk g=>V2 m rs r par dep tl k (Φ (cK rs par k) g))) aT (VZ (kd m rs r par v))
def Bv.same{C O:Addr}{H i:Hp}{o p t:Addr}{m:Int}{g:hH}{f:ix}{r:Int}{par:fz}{c:gn}{tl:fc}{ld lw n l k:Addr}{j:hH}{d:List V}{S:Int->Prop}(e:δ H i)(h:Bv C O H o p t m g f r par c tl ld lw n l k j d S):Bv C O i o p t m g f r par c tl ld lw n l k j d S where
 ob:=let ⟨dx,q⟩:=h.ob;⟨dx,e _ _ q⟩
 web:=h.web.same e
 rt:=h.rt
 et:=h.et
 or:=h.or
 hd:=e _ _ h.hd
 hw:=e _ _ h.hw
 hb:=e _ _ h.hb
 hk:=e _ _ h.hk
 kp:=Paired.imp' (λ_ _ z=>e _ _ z) h.kp
 hr:=e _ _ h.hr
 rl:=h.rl
 rn:=h.rn
 ϵ:=λv hv=>let ⟨v0,lp,aT,h1,h2,h3,h4⟩:=h.ϵ v hv;⟨v0,lp,aT,h1,h2,e _ _ h3,Paired.imp' (λ_ _ ⟨s,a,b⟩=>⟨s,e _ _ a,b⟩) h4⟩
def θ.VQ{C O:Addr}{H d:Hp}{o p:Addr}{m:Int}{t b:Addr}{c:hH}{f:ix}(e:Ϙ o H d)(a:H o=some (.ins O b []))(h:θ C H p m t c f):θ C d p m t c f:=⟨let ⟨b,q⟩:=h.ob;⟨b,e _ _ q (cZ q a (by nofun))⟩,e _ _ h.tu (cZ h.tu a (by nofun)),Paired.imp' (λq x z=>e _ _ z (cZ z a (by nofun))) h.ro,h.go⟩
def Bv.put{C O:Addr}{H:Hp}{o p t:Addr}{m:Int}{X:hH}{j:ix}{r:Int}{a:fz}{d:gn}{F:fc}{ld lw U T i:Addr}{Q:hH}{B:List V}{S:Int->Prop}(h:Bv C O H o p t m X j r a d F ld lw U T i Q B S)(Φ:ld≠i)(R:lw≠i)(XM:U≠i)(N:T≠i)(Zn:∀q∈Q,q≠i){v:Int}(v0:0<=v)(v1:v<m)(hS:∀c,S c->c≠v){l:Addr}{A:hH}(nl:l≠i)(hl:H l=some (.lst (A.map V.ref)))(ra:uR H (Us (Tz m j r a d)) (ϟ (Wv m j r a d F) (Ww m j r a d F) (λk g=>V2 m j r a d F k (Pb.Φ (cK j a k) g))) A (VZ (kd m j r a v))):Bv C O (upd H i (.lst (B.set v.toNat (.ref l)))) o p t m X j r a d F ld lw U T i Q (B.set v.toNat (.ref l)) (λc=>c=v\/S c):=by
 have vm:v.toNat<B.length:=by rw[h.rl];lia
 have ne:∀{y:Addr}{s:fc},s≠[]->H y=some (.lst (s.map V.int))->y≠i:=λ{y s} cn hy z=>by
  rw[z,h.hr]at hy;injection hy with hy
  injection hy with hy
  cases s with
  | nil=>exact cn rfl
  | cons c0 s=>
    rcases h.rn (.int c0) (by rw[hy];exact .head _)with e|⟨_,e⟩<;>cases e
 have up:∀{b:Addr}{x:HO},H b=some x->b≠i->upd H i (.lst (B.set v.toNat (.ref l))) b=some x:=λe n=>by rw[aM n];exact e
 have E:∀{A:hH}{G:List (List Int)}{b:List Int->Nat}{f:List Int->Nat->Int},uR H b f A G->uR (upd H i (.lst (B.set v.toNat (.ref l)))) b f A G:=λM=>Paired.imp' (λy kk ⟨s,I,D⟩=>⟨s,up I (ne D.ne I),D⟩) M;obtain⟨dx,ob⟩:=h.ob;have W:=h.web;obtain⟨dw,Y⟩:=W.ob;refine⟨⟨dx,up ob (cZ ob h.hr (by nofun))⟩,⟨⟨dw,up Y (cZ Y h.hr (by nofun))⟩,up W.tu (cZ W.tu h.hr (by nofun)),Paired.imp' (λq x e=>up e (cZ e h.hr (by nofun))) W.ro,W.go⟩,h.rt,h.et,h.or,up h.hd Φ,up h.hw R,up h.hb XM,up h.hk N,vV (λq x Z e=>up e (Zn q Z)) h.kp,au,by rw[bN];exact h.rl,λx J=>?_,λu hu=>?_⟩
 .rcases fE J with J|rfl
  .exact h.rn x J
  .exact .inr ⟨l,rfl⟩
 .rcases hu with rfl|hu
  .exact⟨v0,l,A,cY vm,nl,up hl nl,E ra⟩
  .obtain⟨u0,lp,agt,I,D,h3,h4⟩:=h.ϵ u hu;refine⟨u0,lp,agt,?_,D,up h3 D,E h4⟩;rw[cz (by have:=hS u hu;lia)];exact I
def sQ(T:Txt K L):Sp:=λl H Q _=>E8 λ(o n p t:Addr)(m:Int)(f:hH)(d:ix)(r:Int)=>l=[.ref o,.ref p,.int r]/\H o=some (.ins T.Tally n [])/\θ T.Web H p m t f d/\(0<=r/\r<m)/\∃a c,ζ m d r a c/\∀i ld lw q k j h g e,Bv T.Web T.Tally e o p t m f d r a c i ld lw q k j h g (λv=>0<=v/\v<m)->(∀b x,H b=some x->b≠o->e b=some x)->Q .ο e
abbrev kX:Stmt:=kL (top 98) 0
def zV:ε ["self","web","r","place"] ["self","web","r"] (aA kX):=.of
def sx:Ψ (aA kX) "enumerate":=.of
def sO:Ψ (aA kX) "reversed":=.of
def zT(T:Txt K L)(hq:bI (τ P w))(lI:zr P w base T)(qh:Fk P w base T)(wt:MP P w base T)(jm:BZ P w base T)(hG:qw P w base T)(wS:Cb P w K L base "rests_of" kF ["tally","place"] 7 (Ao T)):Vq P w K L base "__init__" "Tally.__init__" kX ["self","web","r"] 10 (sQ T):=λ_ _ F=>by
 refine F.Ο zV λξ A dw s H vs Q E hr h=>?_;obtain⟨o,B,p,t,m,ps,f,r,rfl,ho,W,rr,par,d,R,k⟩:=h;have g:=W.go;have Ζ:=g.Ζ;refine⟨_,(aw (lR (γ 0) (Ϩ 1) rfl) (aw (lR (γ 0) (Θ wt hr hq (aa (Ϩ 1) (aa (γ 2) ap))) rfl) (aw (lR (γ 0) (Θ hG hr hq (aa (Ϩ 1) (aa (γ 2) ap))) rfl) (aw (lR (γ 0) (Θ qh hr hq (aa (Ϩ 1) (aa (γ 2) ap))) rfl) (aw (lR (γ 0) (gG rfl (UT ["place","front","web"] 2 [1]) (zA true sx.g T.enumerate (Θ lI hr hq (aa (Ϩ 1) (aa (γ 2) ap)))) (λ_ _ _ _=>(wo K rfl (n:=2) rfl (bQ (d6 (i:=0) (show(["place","front","web"]:hU).Nodup from by decide +kernel) rfl (Or.inl rfl)) (bQ (d6 (i:=1) (show(["place","front","web"]:hU).Nodup from by decide +kernel) rfl (Or.inl rfl)) fJ)))) (λ_ _ _ _=>gu) (λ_ _ _ _=>(gD jm.G (hr.mono (by decide)) (by rfl) jm.D.m jm.D.F.kp jm.D.b .nil (d7 hq) (aa (pv 2) (aa (pv 0) (aa (pv 1) ap)))))) rfl) (aw (lR (γ 0) (aX oU (eL (aa qy ap)) (cq (Ϩ 1) rfl)) rfl) (ay (gf PassesOwn.never rfl (tT sO.g T.reversed (cq (γ 0) rfl)) (ϊ 3) (ay (jq (Θ wS hr hq (aa (γ 0) (aa (γ 3) ap))) (nL (cq (γ 0) rfl) (γ 3) gJ))))))))))),?_⟩;walk_at "t";refine⟨T.Tally,B,[],ho,T.Η,T.ϡ,by decide,?_⟩;have k1:Ϙ o H (upd H o (.ins T.Tally B (bp "web" (.ref p) []))):=Ϙ.refl.put _;have o1:upd H o (.ins T.Tally B (bp "web" (.ref p) [])) o=some (.ins T.Tally B (bp "web" (.ref p) [])):=au;generalize upd H o (.ins T.Tally B (bp "web" (.ref p) []))=H1 at k1 o1 ⊢;refine⟨p,t,m,ps,f,r,rfl,W.VQ k1 ho,λ_ _=>⟨par,d,R,λld H2 n2 s2 e2 Y4 b3=>?_⟩,λz=>absurd rr z⟩;dsimp only;have ba:∀{a:Addr}{G:Hp}{x:HO},G o=some x->G a=none->a≠o:=λh1 h2 z=>by rw[z,h1]at h2;cases h2
 refine⟨T.Tally,B,_,s2 _ _ o1,T.Η,T.Nr,by show 1<1000;decide,?_⟩;have ad:ld≠o:=ba o1 n2;have k3:=(k1.then s2).put (.ins T.Tally B (bp "down" (.ref ld) (bp "web" (.ref p) [])));have o3:upd H2 o (.ins T.Tally B (bp "down" (.ref ld) (bp "web" (.ref p) []))) o=some (.ins T.Tally B (bp "down" (.ref ld) (bp "web" (.ref p) []))):=au;have e3:upd H2 o (.ins T.Tally B (bp "down" (.ref ld) (bp "web" (.ref p) []))) ld=_:=(aM ad).trans e2;generalize upd H2 o (.ins T.Tally B (bp "down" (.ref ld) (bp "web" (.ref p) [])))=H3 at k3 o3 e3 ⊢;refine⟨p,t,m,ps,f,r,rfl,W.VQ k3 ho,λ_ _=>⟨par,d,R,λlw H4 n4 s4 e4=>?_⟩,λz=>absurd rr z⟩;refine⟨T.Tally,B,_,s4 _ _ o3,T.Η,T.TZ,by show 2<1000;decide,?_⟩;have a1:lw≠o:=ba o3 n4;have k5:=(k3.then s4).put (.ins T.Tally B (bp "weights" (.ref lw) (bp "down" (.ref ld) (bp "web" (.ref p) []))));have o5:upd H4 o (.ins T.Tally B (bp "weights" (.ref lw) (bp "down" (.ref ld) (bp "web" (.ref p) [])))) o=some (.ins T.Tally B (bp "weights" (.ref lw) (bp "down" (.ref ld) (bp "web" (.ref p) [])))):=au;have bl:upd H4 o (.ins T.Tally B (bp "weights" (.ref lw) (bp "down" (.ref ld) (bp "web" (.ref p) [])))) ld=_:=(aM ad).trans (s4 _ _ e3);have bm:upd H4 o (.ins T.Tally B (bp "weights" (.ref lw) (bp "down" (.ref ld) (bp "web" (.ref p) [])))) lw=_:=(aM a1).trans e4;generalize upd H4 o (.ins T.Tally B (bp "weights" (.ref lw) (bp "down" (.ref ld) (bp "web" (.ref p) []))))=X at k5 o5 bl bm ⊢;refine⟨p,t,m,ps,f,r,rfl,W.VQ k5 ho,λ_ _=>⟨par,d,R,λJ C H6 et Or n6 s6 e6=>?_⟩,λz=>absurd rr z⟩;refine⟨T.Tally,B,_,s6 _ _ o5,T.Η,T.yz,by show 3<1000;decide,?_⟩;have bk:C≠o:=ba o5 n6;have k7:=(k5.then s6).put (.ins T.Tally B (bp "bearers" (.ref C) (bp "weights" (.ref lw) (bp "down" (.ref ld) (bp "web" (.ref p) [])))));have o7:upd H6 o (.ins T.Tally B (bp "bearers" (.ref C) (bp "weights" (.ref lw) (bp "down" (.ref ld) (bp "web" (.ref p) []))))) o=some (.ins T.Tally B (bp "bearers" (.ref C) (bp "weights" (.ref lw) (bp "down" (.ref ld) (bp "web" (.ref p) []))))):=au;have b2:upd H6 o (.ins T.Tally B (bp "bearers" (.ref C) (bp "weights" (.ref lw) (bp "down" (.ref ld) (bp "web" (.ref p) []))))) ld=_:=(aM ad).trans (s6 _ _ bl);have cl:upd H6 o (.ins T.Tally B (bp "bearers" (.ref C) (bp "weights" (.ref lw) (bp "down" (.ref ld) (bp "web" (.ref p) []))))) lw=_:=(aM a1).trans (s6 _ _ bm);have ca:upd H6 o (.ins T.Tally B (bp "bearers" (.ref C) (bp "weights" (.ref lw) (bp "down" (.ref ld) (bp "web" (.ref p) []))))) C=_:=(aM bk).trans e6;generalize upd H6 o (.ins T.Tally B (bp "bearers" (.ref C) (bp "weights" (.ref lw) (bp "down" (.ref ld) (bp "web" (.ref p) [])))))=H7 at k7 o7 b2 cl ca ⊢;have W3:=W.VQ k7 ho;clear k1 k3 k5 o1 o3 o5 e2 e3 e4 bl bm e6 s2 s4 s6 n2 n4 n6;refine⟨p,t,m,ps,f,r,rfl,W3,λ_ _=>⟨par,d,R,λla H4 n4 s4 e4=>⟨la,rfl,⟨_,ι.of e4⟩,λI Zo=>?_⟩⟩,λz=>absurd rr z⟩;have fu:=s4.free Zo;refine Fc (K:=K) (c:=true) (xs:=oj m r par) (λi ys σ X=>δ H4 X/\X I=some (.lst ys)/\(∃kl:List Addr,ys=kl.map V.ref/\Paired (λa v=>X a=some (.lst ((kd m f r par v).map V.int))) kl ((b7 m.toNat).take i)/\∀q∈kl,q≠I)/\∃v w,σ=[v,w,some (V.ref p)]) ⟨δ.new _ Zo,au,⟨[],rfl,.nil,by simp⟩,_,_,rfl⟩ (λi ys σ X z=>ι.of (z.1 _ _ e4)) ?_ ?_
 .rintro i x ys σ X q N hN hx ⟨s5,e5,⟨kl,rfl,pk,Zq⟩,v,w,rfl⟩ nq;have il:i<m.toNat:=by
   have:=(ax.mp hx).1;unfold oj at this
   rwa [ag,b6]at this
  have ex:x=Pb.front r par (i:Int):=by
   have:=wW (m:=m) (r:=r) (par:=par) (v:=(i:Int)) (by lia) (by lia);rw[show((i:Int)).toNat=i from rfl,hx]at this;exact bF this
  have qe:=s5 _ _ e4;have s6:=δ.new (.tup [V.int i,x]) nq;have dT:=s5.trans s6;have et:(b7 m.toNat).take (i+1)=(b7 m.toNat).take i++[(i:Int)]:=by rw[bg,gY il];rfl
  have fy:kl.length<=24:=by
   have:=Paired.length pk;rw[bq]at this
   lia
  walk_at "";refine⟨_,Α.of au,rfl,_,_,rfl,_,_,rfl,rfl,?_⟩;refine⟨p,t,m,ps,f,i,x,rfl,W3.same (s4.trans dT),by lia,by lia,?_,λl6 H6 n6 s7 e7=>?_⟩
  .rw[ex];unfold Pb.front;split
   .exact .inl rfl
   .exact .inr ⟨_,rfl⟩
  have Zr:=s6.trans s7;refine⟨Zr _ _ e5,d8 (by rw[ag];lia),hN _ _ _ ⟨(s5.trans Zr).put Zo _,au,⟨kl++[l6],by rw[aq];rfl,?_,λq hq=>?_⟩,_,_,rfl⟩⟩;have nk:l6≠I:=λz=>by rw[z,s6 _ _ e5]at n6;cases n6
  rotate_left
  .rcases bi.mp hq with h|h
   .exact Zq q h
   .rw[aG.mp h];exact λz=>by rw[z,s6 _ _ e5]at n6;cases n6
  rw[et];refine p6 (by rw[aM nk,e7,ex]) (vV (λq v hq h=>?_) pk);have e:q≠I:=λz=>Zq q hq z;rw[aM e];exact Zr _ _ h
 .rintro ys σ X ⟨s5,e5,⟨kl,rfl,pk,Zq⟩,v,w,rfl⟩;rw[show(oj m r par).length=m.toNat by unfold oj;rw[ag,b6],bZ (by rw[b6];exact aJ _)]at pk;have o5:=s5 _ _ (s4 _ _ o7);have k5:=(k7.then s4).then s5;have bd:=s4.trans s5;refine⟨T.Tally,B,_,o5,T.Η,T.As,by show 4<1000;decide,by decide,λl1 n1=>?_⟩;have b0:I≠o:=λz=>by rw[z,o5]at e5;cases e5
  have k6:=k5.put (.ins T.Tally B (bp "kids" (.ref I) (bp "bearers" (.ref C) (bp "weights" (.ref lw) (bp "down" (.ref ld) (bp "web" (.ref p) []))))));have o6:upd X o (.ins T.Tally B (bp "kids" (.ref I) (bp "bearers" (.ref C) (bp "weights" (.ref lw) (bp "down" (.ref ld) (bp "web" (.ref p) [])))))) o=some (.ins T.Tally B (bp "kids" (.ref I) (bp "bearers" (.ref C) (bp "weights" (.ref lw) (bp "down" (.ref ld) (bp "web" (.ref p) [])))))):=au;have e6:upd X o (.ins T.Tally B (bp "kids" (.ref I) (bp "bearers" (.ref C) (bp "weights" (.ref lw) (bp "down" (.ref ld) (bp "web" (.ref p) [])))))) I=_:=(aM b0).trans e5;have al:upd X o (.ins T.Tally B (bp "kids" (.ref I) (bp "bearers" (.ref C) (bp "weights" (.ref lw) (bp "down" (.ref ld) (bp "web" (.ref p) [])))))) ld=_:=(aM ad).trans (bd _ _ b2);have ak:upd X o (.ins T.Tally B (bp "kids" (.ref I) (bp "bearers" (.ref C) (bp "weights" (.ref lw) (bp "down" (.ref ld) (bp "web" (.ref p) [])))))) lw=_:=(aM a1).trans (bd _ _ cl);have av:upd X o (.ins T.Tally B (bp "kids" (.ref I) (bp "bearers" (.ref C) (bp "weights" (.ref lw) (bp "down" (.ref ld) (bp "web" (.ref p) [])))))) C=_:=(aM bk).trans (bd _ _ ca);have Ym:Paired (λa v=>upd X o (.ins T.Tally B (bp "kids" (.ref I) (bp "bearers" (.ref C) (bp "weights" (.ref lw) (bp "down" (.ref ld) (bp "web" (.ref p) [])))))) a=some (.lst ((kd m f r par v).map V.int))) kl (b7 m.toNat):=Paired.imp' (λq v h=>by rw[aM (cZ h o5 (by nofun))];exact h) pk;generalize upd X o (.ins T.Tally B (bp "kids" (.ref I) (bp "bearers" (.ref C) (bp "weights" (.ref lw) (bp "down" (.ref ld) (bp "web" (.ref p) []))))))=H6 at k6 o6 e6 al ak av Ym n1 ⊢;have s7:=δ.new (.lst [V.ο]) n1;obtain⟨dK,cc⟩:=(W.VQ k6 ho).ob;refine⟨T.Web,dK,_,s7 _ _ cc,T.Ε,T.Λ,_,eP _ _,?_⟩;refine⟨l1,m,[V.ο],rfl,rfl,au,by lia,by lia,bX (by simp;lia),λM ZO=>?_⟩;rw[rp];have s8:=s7.trans (δ.new (.lst (List.replicate m.toNat V.ο)) ZO);have i8:upd (upd H6 l1 (.lst [V.ο])) M (.lst (List.replicate m.toNat V.ο)) M=some (.lst (List.replicate m.toNat V.ο)):=au;have Z:=s7.free ZO;generalize upd (upd H6 l1 (.lst [V.ο])) M (.lst (List.replicate m.toNat V.ο))=H8 at s8 i8 ⊢;have o8:=s8 _ _ o6;refine⟨T.Tally,B,_,o8,T.Η,T.Ul,by show 5<1000;decide,?_⟩;have k8:=(k6.then s8).put (.ins T.Tally B (lz p ld lw C I M));have bK:M≠o:=λz=>by rw[z,o6]at Z;cases Z
  have S:Bv T.Web T.Tally (upd H8 o (.ins T.Tally B (lz p ld lw C I M))) o p t m ps f r par d J ld lw C I M kl (List.replicate m.toNat V.ο) (λ_=>False):=⟨⟨B,au⟩,W.VQ k8 ho,R,et,Or,(aM ad).trans (s8 _ _ al),(aM a1).trans (s8 _ _ ak),(aM bk).trans (s8 _ _ av),(aM b0).trans (s8 _ _ e6),Paired.imp' (λq v h=>by rw[aM (cZ h o6 (by nofun))];exact s8 _ _ h) Ym,(aM bK).trans i8,by rw[b8],λx hx=>.inl (List.eq_of_mem_replicate hx),λv z=>z.elim⟩
  have Φ:ld≠M:=λz=>by rw[<-z,al]at Z;cases Z
  have ep:lw≠M:=λz=>by rw[<-z,ak]at Z;cases Z
  have XM:C≠M:=λz=>by rw[<-z,av]at Z;cases Z
  have ed:I≠M:=λz=>by rw[<-z,e6]at Z;cases Z
  have Zn:∀q∈kl,q≠M:=λq hq z=>by
   obtain⟨v,Y⟩:=Ew Ym hq;rw[z,Z]at Y;cases Y
  have ds:H M=none:=by
   cases e:H M with
   | none=>rfl
   | some x=>rw[k6 _ _ e bK]at Z;cases Z
  have k9:=k8;change ∃x ZK dY,upd H8 o (.ins T.Tally B (lz p ld lw C I M)) o=some (HO.ins x ZK dY)/\_;obtain⟨H9,a5⟩:∃H9,H9=upd H8 o (.ins T.Tally B (lz p ld lw C I M)):=⟨_,rfl⟩;refine⟨T.Tally,B,_,au,T.Η,T.Nr,_,Ld p ld lw C I M,ld,rfl,_,ι.of S.hd,?_⟩;rw[<-a5]at S k9;change sU _ _ _ _ _ (upd H8 o (.ins T.Tally B (lz p ld lw C I M)));rw[<-a5];clear a5 k8 i8 s8 s7 n1 Ym e6 al ak av o6 k6 k5 o5 o8 cc;refine rq (K:=K) (xs:=(eX m f r par d r).map V.int) (λi σ Ve=>Ϙ o H Ve/\∃(rv:List V)(v3:Option V),Bv T.Web T.Tally Ve o p t m ps f r par d J ld lw C I M kl rv (λv=>v∈(eX m f r par d r).reverse.take i)/\σ=[some (V.ref o),some (V.ref p),some (V.int r),v3]) ⟨k9,List.replicate m.toNat V.ο,none,?_,rfl⟩ (λi σ Ve _ ⟨_,rv,v3,z,_⟩=>ι.of z.hd) ?_ ?_
  .exact⟨S.ob,S.web,S.rt,S.et,S.or,S.hd,S.hw,S.hb,S.hk,S.kp,S.hr,S.rl,S.rn,λv Y=>by cases Y⟩
  .rintro i x σ Ve N hN hx ⟨k10,rv,v3,Tf,rfl⟩;rw[<-eB]at hx;obtain⟨v,Y,rfl⟩:=List.μ hx;have O:=(b3 v).mp (dP.mp (aP Y));have dj:∀k∈kd m f r par v,k∈(eX m f r par d r).reverse.take i:=by
    rw[et]at Y ⊢;exact Sg g R Or Y O.1 O.2
   have el:(b7 m.toNat)[v.toNat]?=some v:=by
    rw[gY (by lia),cA O.1]
   obtain⟨ZM,dt,em⟩:=HC Tf.kp el;obtain⟨dm,ZP⟩:=Tf.ob;have bS:∀k∈kd m f r par v,XI (ic m f r par d) (S7 m f r par d J v) (cK f par) v k=Wv m f r par d J k/\W8 (S7 m f r par d J v) k=Ww m f r par d J k:=λk hk=>by
    have w:=(dg g R O.1 O.2).mp hk;have ec:((cK f par k:Nat):Int)=tup f par k:=cA (by have:=(nN g R w.1.1 w.1.2 w.2.1).1;lia);unfold XI Wv W8 Ww;rw[ec,w.2.2,show(ic m f r par d).getD k.toNat 0=ώ m f r par d k from kK w.1.1 w.1.2,show(ic m f r par d).getD v.toNat 0=ώ m f r par d v from kK O.1 O.2];exact⟨rfl,rfl⟩
   walk_at "";refine⟨o,dm,p,t,lw,C,I,M,ZM,_,m,ps,f,ic m f r par d,_,_,rv,v,kd m f r par v,S7 m f r par d J v,V2 m f r par d J,cK f par,Tz m f r par d,rfl,ZP,LJ _ _ _ _ _ _,FD _ _ _ _ _ _,FF _ _ _ _ _ _,Kt _ _ _ _ _ _,vC _ _ _ _ _ _,Tf.web,Tf.hw,?_,Tf.hb,Tf.hk,Tf.hr,O,?_,?_,em,?_,?_,?_⟩
   .have:(ic m f r par d).length=m.toNat:=tF
    lia
   .exact(x9 O.1).symm.trans (D7 O.1 O.2)
   .rw[aN,dt]
    rfl
   .intro k hk;have w:=(dg g R O.1 O.2).mp hk;obtain⟨k',tk,t2,t6⟩:=jw g R w.1.1 w.1.2 w.2.1;have ϭ:tup f par k=k':=by
     unfold tup;rw[tk]
     rfl
    have ek:((cK f par k:Nat):Int)=k':=by
     unfold cK;rw[ϭ];exact cA (by lia)
    obtain⟨_,lp,aT,h1,h2,h3,h4⟩:=Tf.ϵ k (dj k hk);have V1:=wC (fr:=Wv m f r par d J) (be:=Ww m f r par d J) (c:=cK f par) g R w.1.1 w.1.2;refine⟨w.1.1,w.1.2,by rw[ek,<-w.2.2];exact tk,by lia,by lia,Qa g R (λu u0 u1 ur=>?_) (m.toNat-d k) w.1.1 w.1.2 (aJ _),?_⟩
    .have:=nN g R u0 u1 ur;unfold cK
     lia
    .obtain⟨sr,es⟩:=HX (kd m f r par k);rw[es]at h4;cases h4 with
     | cons e he=>
       obtain⟨cs,c1,c2⟩:=e;refine⟨lp,_,_,cs,h1,h3,c1,?_⟩;have:=c2.le (b':=15000) (Dr (by have:=rF g R w.1.1 w.1.2;have:=C2 g R w.1.1 w.1.2;lia));refine⟨this.ne,this.len,this.bt,λn=>(this.val n).trans ?_⟩;show _=wy m f r par d (Wv m f r par d J) (Ww m f r par d J) (cK f par) k n;rw[V1]
       rfl
   .rw[rF g R O.1 O.2];exact C2 g R O.1 O.2
   .intro l aT Uo nl Yn e11 ra;have ar:=Tf.same Yn;obtain⟨ej,U7⟩:=ar.ob;have VP:l≠M:=λz=>by rw[z,Tf.hr]at nl;cases nl
    have dk:uR Uo (Us (Tz m f r par d)) (ϟ (Wv m f r par d J) (Ww m f r par d J) (λk g=>V2 m f r par d J k (Pb.Φ (cK f par k) g))) aT (VZ (kd m f r par v)):=G2 (λa VC WY ⟨cs,c1,c2⟩=>⟨cs,c1,by
     have e:=ze (fr:=XI (ic m f r par d) (S7 m f r par d J v) (cK f par) v) (be:=W8 (S7 m f r par d J v)) (ws:=λk g=>V2 m f r par d J k (Pb.Φ (cK f par k) g)) (fr':=Wv m f r par d J) (be':=Ww m f r par d J) (ws':=λk g=>V2 m f r par d J k (Pb.Φ (cK f par k) g)) (ks:=VC) λk hk=>⟨(bS k (D4 WY k hk)).1,(bS k (D4 WY k hk)).2,rfl⟩;rw[<-e];exact c2⟩) ra
    refine⟨T.Tally,ej,_,U7,T.Η,T.Ul,_,vC _ _ _ _ _ _,om ar.hr O.1 (by rw[ar.rl];lia) (hN _ _ ⟨?_,rv.set v.toNat (.ref l),some (V.int v),?_,rfl⟩)⟩
    .exact λb y hb nb=>by rw[aM (cC hb ds)];exact Yn _ _ (k10 b y hb nb)
    .have nv:∀u,u∈(eX m f r par d r).reverse.take i->u≠v:=λu hu z=>by
      have nd:(eX m f r par d r).reverse.Nodup:=((List.reverse_perm _).nodup_iff).mpr Y4;have il:=(ax.mp Y).1;rw[z]at hu;obtain⟨j,hj⟩:=cD hu;have jl:=(ax.mp hj).1;rw[bq]at jl;rw[gS (by lia)]at hj;have:=(List.getElem?_inj (by lia) nd).mp (hj.trans Y.symm)
      lia
     have U:=ar.put Φ ep XM ed Zn O.1 O.2 nv VP e11 dk;refine⟨U.ob,U.web,U.rt,U.et,U.or,U.hd,U.hw,U.hb,U.hk,U.kp,U.hr,U.rl,U.rn,λu hu=>U.ϵ u ?_⟩;rw[bg,Y]at hu;rcases bi.mp hu with hu|hu
     .exact .inr hu
     .exact .inl (by simpa using hu)
  .rintro σ Ve ⟨k10,rv,v3,Tf,rfl⟩;refine k J ld lw C I M kl rv Ve ⟨Tf.ob,Tf.web,Tf.rt,Tf.et,Tf.or,Tf.hd,Tf.hw,Tf.hb,Tf.hk,Tf.kp,Tf.hr,Tf.rl,Tf.rn,λv Y=>Tf.ϵ v ?_⟩ k10;rw[ag,<-aQ,bC,dP];exact(b3 v).mpr Y
def xI(T:Txt K L):Sp:=λe H Q _=>E8 λ(o b f t:Addr)(m:Int)(c:hH)(d:ix)(a:List (List Int×List Int))=>e=[.ref o]/\π T.Web T.Desk H o b f m t c d a/\Q (.int ((a.length:Int)-1)) H
abbrev uB:Stmt:=kL (top 107) 8
def Fx:ε ["self"] ["self"] (aA uB):=.of
def Fw(T:Txt K L)(f:bI (τ P w)):Vq P w K L base "deeds" "Desk.deeds" uB ["self"] 1 (xI T):=λ_ _ F=>by
 refine F.Ο Fx λr A a s H p Q E q h=>?_;obtain⟨o,n,c,t,m,j,g,i,rfl,O,k⟩:=h;obtain⟨e,ob⟩:=O.ob;obtain⟨l,d,b⟩:=O.pa;refine⟨_,(ay (aY (aX jt (TB gN T.len (aa (cq (γ 0) rfl) ap)) aD))),?_⟩;walk_at "t";refine⟨T.Desk,e,_,ob,T.η,T.S4,_,qv _ _,c,rfl,_,.inl (ι.of d),?_⟩;rw[ag,Paired.length b];exact k
def xY(T:Txt K L):Sp:=λg H Q _=>E9 λ(o d b t:Addr)(m:Int)(e:hH)(f:ix)(c:List (List Int×List Int))(s:List Int×List Int)=>g=[.ref o]/\π T.Web T.Desk H o d b m t e f (c++[s])/\c≠[]/\∀a,π T.Web T.Desk a o d b m t e f c->Ϙ b H a->Q .ο a
abbrev vw:Stmt:=kL (top 107) 5
def Ip:ε ["self"] ["self"] (aA vw):=.of
def HE(T:Txt K L)(n:bI (τ P w))(g:Cm P w K L base (Meth K T.Desk "deeds") "deeds" "Desk.deeds" uB ["self"] 1 (xI T)):Vq P w K L base "back" "Desk.back" vw ["self"] 3 (xY T):=λ_ _ F=>by
 refine F.Ο Ip λS A j s H N Q E B h=>?_;obtain⟨o,y,c,t,m,v,r,u,s,rfl,O,ne,k⟩:=h;obtain⟨l,ob⟩:=O.ob;obtain⟨d,q,a,b,e,p,I,J,R,C⟩:=O.last;refine⟨_,(aw (bU (Ν cM (gq (γ 0) T.η g.M g.G (B.mono (by decide)) g.b .nil (d7 n)) aD) (ay kW) bE) (ay (cH (yO dv PySem.F.slot_list_pop PySem.F.type_list_pop zc (cq (γ 0) rfl))))),?_⟩;walk_at "t";refine⟨l,_,ob,HN (by decide +kernel) (by decide +kernel),o,y,c,t,m,v,r,_,rfl,O,rfl,?_⟩;have D:0<u.length:=j6.mpr ne;rw[ah (λz=>by
  injection z with z
  rw[aH,aO,dB]at z
  lia)]
 refine⟨T.Desk,l,_,ob,T.η,T.S4,_,qv _ _,.inl ⟨rfl,_,ι.of e⟩,?_⟩;have f:Ϙ c H (upd H c (.lst (d.map V.ref))):=Ϙ.refl.put _;have i:Q .ο (upd H c (.lst (d.map V.ref))):=by
  refine k _ ⟨⟨l,f _ _ ob (cZ ob e (by nofun))⟩,O.web.WC f e,d,au,Paired.imp' (λq s x=>UN.UW f e x) p⟩ f
 refine⟨c,_,V.ref q,rfl,rfl,e,?_,?_⟩
 .rw[aq,aH,aF,cG,aO,dB,show(d.map V.ref).length+(0+1)-1=(d.map V.ref).length by lia,dc (aJ _),dW]
  rfl
 .rw[aq,aF,cG,j5];exact i
def yG(T:Txt K L):Sp:=λi H Q _=>WZ λ(o f d t a b:Addr)(m:Int)(g:hH)(h:ix)(e:List (List Int×List Int))(s:List Int×List Int)=>i=[.ref o,.ref a,.ref b]/\π T.Web T.Desk H o f d m t g h e/\H a=some (.tup (s.1.map V.int))/\H b=some (.tup (s.2.map V.int))/\e.length<=1000/\∀c,π T.Web T.Desk c o f d m t g h (e++[s])->Ϙ d H c->Q .ο c
abbrev vJ:Stmt:=kL (top 107) 4
def HY:ε ["self","laying","wish"] ["self","laying","wish"] (aA vJ):=.of
def Gv(T:Txt K L)(C:bI (τ P w)):Vq P w K L base "keep" "Desk.keep" vJ ["self","laying","wish"] 1 (yG T):=λ_ _ F=>by
 refine F.Ο HY λU A l s H R Q E S h=>?_;obtain⟨o,N,f,t,a,b,m,I,D,G,s,rfl,O,z,u,J,k⟩:=h;obtain⟨B,ob⟩:=O.ob;obtain⟨j,e,p⟩:=O.pa;refine⟨_,(ay (cH (TU (cq (γ 0) rfl) (hJ (aa (γ 1) (aa (γ 2) ap)))))),?_⟩;walk_at "t";refine⟨T.Desk,B,_,ob,T.η,T.S4,_,qv _ _,.inl ⟨rfl,_,ι.of e⟩,bX (by simp),λq v=>?_⟩;have d:=δ.new (.tup [V.ref a,V.ref b]) v;have M:=Paired.length p;refine⟨f,_,_,rfl,rfl,d _ _ e,d8 (by rw[ag];lia),?_⟩;have i:Ϙ f (upd H q (.tup [V.ref a,V.ref b])) (upd (upd H q (.tup [V.ref a,V.ref b])) f (.lst (j.map V.ref++[V.ref q]))):=Ϙ.refl.put _;have g:Ϙ f H (upd (upd H q (.tup [V.ref a,V.ref b])) f (.lst (j.map V.ref++[V.ref q]))):=λc y h n=>i c y (d _ _ h) n;have r:=O.same d;refine k _ ⟨?_,r.web.WC i (d _ _ e),j++[q],by rw[au,aq];rfl,?_⟩ g
 .obtain⟨dx',ZP⟩:=r.ob;exact⟨dx',i _ _ ZP (cZ ZP (d _ _ e) (by nofun))⟩
 .refine p6 ?_ (Paired.imp' (λq s x=>UN.UW g e x) p);exact UN.UW i (d _ _ e) ⟨a,b,au,d _ _ z,d _ _ u⟩
abbrev vI(P w base)(T:Txt K L):=Cm P w K L base (Meth K T.Desk "keep") "keep" "Desk.keep" vJ ["self","laying","wish"] 1 (yG T)
def rj(T:Txt K L):Sp:=λe H Q _=>E9 λ(o b f t:Addr)(m:Int)(c:hH)(d:ix)(g:List (List Int×List Int))(s:List Int×List Int)=>e=[.ref o]/\π T.Web T.Desk H o b f m t c d (g++[s])/\∀a,H a=some (.tup (s.1.map V.int))->Q (.ref a) H
abbrev sN:Stmt:=kL (top 107) 6
def Dz:ε ["self"] ["self"] (aA sN):=.of
def DT(T:Txt K L)(j:bI (τ P w)):Vq P w K L base "laying" "Desk.laying" sN ["self"] 1 (rj T):=λ_ _ F=>by
 refine F.Ο Dz λB A c s H y Q E z h=>?_;obtain⟨o,x,n,t,m,u,l,p,s,rfl,O,k⟩:=h;obtain⟨i,ob⟩:=O.ob;obtain⟨v,q,a,b,f,_,d,e,g,r⟩:=O.last;refine⟨_,(ay (aY (ψ eM (jT bu (cq (γ 0) rfl) (lx ju aD) (λ_ _=>rfl)) aD))),?_⟩;walk_at "t";refine⟨T.Desk,i,_,ob,T.η,T.S4,_,qv _ _,Γ f d ?_⟩;exact⟨q,_,0,_,rfl,rfl,Α.of e,rfl,k a g⟩
abbrev nJ(P w base)(T:Txt K L):=Cm P w K L base (Meth K T.Desk "laying") "laying" "Desk.laying" sN ["self"] 1 (rj T)
def ud(T:Txt K L):Sp:=λe H Q _=>E9 λ(o b f t:Addr)(m:Int)(c:hH)(d:ix)(g:List (List Int×List Int))(s:List Int×List Int)=>e=[.ref o]/\π T.Web T.Desk H o b f m t c d (g++[s])/\∀a,H a=some (.tup (s.2.map V.int))->Q (.ref a) H
abbrev vf:Stmt:=kL (top 107) 7
def GS:ε ["self"] ["self"] (aA vf):=.of
def Gf(T:Txt K L)(j:bI (τ P w)):Vq P w K L base "wish" "Desk.wish" vf ["self"] 1 (ud T):=λ_ _ F=>by
 refine F.Ο GS λB A c s H x Q E y h=>?_;obtain⟨o,v,n,t,m,r,l,p,s,rfl,O,k⟩:=h;obtain⟨i,ob⟩:=O.ob;obtain⟨u,q,a,b,g,_,e,f,z,d⟩:=O.last;refine⟨_,(ay (aY (ψ eM (jT bu (cq (γ 0) rfl) (lx ju aD) (λ_ _=>rfl)) aD))),?_⟩;walk_at "t";refine⟨T.Desk,i,_,ob,T.η,T.S4,_,qv _ _,Γ g e ?_⟩;exact⟨q,_,1,_,rfl,rfl,Α.of f,rfl,k b d⟩
abbrev pL(P w base)(T:Txt K L):=Cm P w K L base (Meth K T.Desk "wish") "wish" "Desk.wish" vf ["self"] 1 (ud T)
def bA(m:Int)(a:fc):Bool:=decide ((a.length:Int)=m)&&a.all λx=>decide (0<=x)
def oO{m:Int}{a:fc}(h:(a.length:Int)=m)(b:∀x∈a,0<=x):bA m a=true:=by
 unfold bA;rw[bo h,iQ,eG];exact λx c=>bo (b x c)
def iw{m:Int}{a:fc}(h:bA m a=true):(a.length:Int)=m:=by
 unfold bA at h;rw[bG]at h;exact bB h.1
def Fm{m:Int}{a:fc}(h:bA m a=true):∀x∈a,0<=x:=by
 unfold bA at h;rw[bG,eG]at h;exact λx b=>bB (h.2 x b)
def yE(T:Txt K L):Sp:=λg H Q _=>E8 λ(p a t:Addr)(c:Bool)(m:Int)(e:hH)(f:ix)(b:fc)=>g=[.ref p,.ref a]/\θ T.Web H p m t e f/\Ω K c H a (b.map V.int)/\b.length<=1000/\∀d,δ H d->Q (.bl (bA m b)) d
abbrev vL:Stmt:=top 27
def GR:ε ["web","numbers"] ["web","numbers"] (aA vL):=.of
def HH(T:Txt K L)(u:bI (τ P w)):Ok P w K L base "is_filled" vL ["web","numbers"] 1 (yE T):=λ_ _ D=>by
 refine D.F.Ο GR λM A n s H I Q E J h=>?_;obtain⟨p,a,t,c,m,G,B,xs,rfl,W,g,C,k⟩:=h;refine⟨_,(ay (aY (wr (jV cM (TB gN T.len (aa (γ 1) ap)) (cq (γ 0) rfl) (kP _)) (wD (TB (G5 rfl) T.all (aa (gG rfl (md (Nc:=["number"]) 1 (by decide +kernel) (by decide +kernel) rfl (by decide +kernel) rfl) (vT c (γ 1)) (λ_ _ _ _=>(d6 (i:=0) (show(["number"]:hU).Nodup from by decide +kernel) rfl (Or.inl rfl))) (λ_ _ _ _=>gu) (λ_ _ _ _=>(jV zO (pv 0) aD (kP _)))) ap)))))),?_⟩;walk_at "t";obtain⟨r,ob⟩:=W.ob;have o:ι K H a (xs.map V.int)\/Α K H a (xs.map V.int):=by
  cases c
  .exact .inr g
  .exact .inl g
 refine⟨_,o,T.Web,r,_,ob,T.Ε,T.Λ,_,eP m t,rfl,?_⟩;rw[ag];by_cases j:(xs.length:Int)=m
 .rw[aj (by rw[j])];refine⟨⟨_,g⟩,λl nl=>?_⟩;refine me (K:=K) (c:=c) (xs:=xs.map V.int) (λi d f b=>δ H b/\b l=some (.lst d)/\d=((xs.take i).map λx=>decide (0<=x)).map V.bl/\∃v,f=[v]) ⟨δ.new _ nl,au,rfl,_,rfl⟩ (λi d f b _ z=>δ.ϫ z.1 g) ?_ ?_
  .rintro i x d f b N hN hx ⟨s2,e2,rfl,v,rfl⟩;rw[aN]at hx;obtain⟨y,q,rfl⟩:=ck.mp hx;walk_at "";refine⟨e2,d8 (by rw[ag,ag,bq];lia),hN _ _ _ ⟨s2.put nl _,au,?_,_,rfl⟩⟩;rw[bg,q,aq,aq]
   rfl
  .rintro d f b ⟨s2,e2,rfl,v,rfl⟩;refine⟨l,rfl,_,ι.of e2,?_⟩;have e:(((xs.take (xs.map V.int).length).map λx=>decide (0<=x)).all id)=bA m xs:=by
    rw[ag,bC,List.all_map];unfold bA;rw[bo j,iQ]
    rfl
   rw[e];exact k _ s2
 .rw[ah (λz=>j (by injection z))];have e:bA m xs=false:=by
   unfold bA;rw[bM j,gg]
  rw[e]at k;exact k H (δ.refl _)
abbrev Ay(P w base)(T:Txt K L):=Cb P w K L base "is_filled" vL ["web","numbers"] 1 (yE T)
def y0(T:Txt K L):Sp:=λg H Q E=>E8 λ(p a t:Addr)(c:Bool)(m:Int)(e:hH)(f:ix)(d:fc)=>g=[.ref p,.ref a]/\θ T.Web H p m t e f/\Ω K c H a (d.map V.int)/\d.length<=1000/\(bA m d=true->∀l b,δ H b->(b l=some (.tup (d.map V.int))\/(c=false/\l=a))->Α K b l (d.map V.int)->Q (.ref l) b)/\(bA m d=false->∀b,δ H b->E (.ref T.BadLaying) none b)
abbrev rT:Stmt:=top 26
def He:ε ["web","numbers"] ["web","numbers"] (aA rT):=.of
def pV:Ψ (aA rT) "BadLaying":=.of
def G3(T:Txt K L)(y:bI (τ P w))(v:Ay P w base T):Ok P w K L base "laying_of" rT ["web","numbers"] 2 (y0 T):=λ_ _ D=>by
 refine D.F.Ϻ He λC A j s H B Q E x h=>?_;obtain⟨p,a,t,c,m,u,q,i,rfl,W,f,r,k,e⟩:=h;refine⟨_,(aw (bU (nG (lW (Ξ v x bT (aa (γ 0) (aa (γ 1) ap))))) (ay (rH T.UL rfl tK pV.g T.S8 (aa bH ap) (hdb:=pV.d))) bE) (ay (aY (iO gi T.tuple (aa (γ 1) ap))))),?_⟩;walk_at "t";refine⟨p,a,t,c,m,u,q,i,rfl,W,f,r,λn b=>⟨_,rfl,?_⟩⟩;by_cases z:bA m i=false
 .rw[aj z];exact⟨by decide,e z n b⟩
 .rw[ah z];have o:bA m i=true:=by simpa using z
  cases c
  .exact⟨_,.inr ⟨δ.ϫ (c:=false) b f,k o a n b (.inr ⟨rfl,rfl⟩) (δ.ϫ (c:=false) b f)⟩⟩
  .exact⟨_,.inl ⟨δ.ϫ (c:=true) b f,λl nl=>k o l _ (b.trans (δ.new _ nl)) (.inl au) (Α.of au)⟩⟩
abbrev sg(P w base)(T:Txt K L):=Cb P w K L base "laying_of" rT ["web","numbers"] 2 (y0 T)
def MN(T:Txt K L):Sp:=λg H Q E=>E10 λ(p a t:Addr)(c:Bool)(m:Int)(e:hH)(f:ix)(d:fc)(v n:Int)=>g=[.ref p,.ref a,.int v,.int n]/\θ T.Web H p m t e f/\Ω K c H a (d.map V.int)/\d.length<=1000/\(bA m d=true->0<=v->v<m->0<=d.getD v.toNat 0+n->∀l b,δ H b->b l=some (.tup ((d.set v.toNat (d.getD v.toNat 0+n)).map V.int))->Q (.ref l) b)/\(bA m d=false->∀b,δ H b->E (.ref T.BadLaying) none b)/\(bA m d=true->¬(0<=v/\v<m)->∀b,δ H b->E (.ref T.NoPlace) none b)/\(bA m d=true->0<=v->v<m->d.getD v.toNat 0+n<0->∀b,δ H b->E (.ref T.BadLaying) none b)
abbrev Kj:Stmt:=top 30
def RL:ε ["web","laying","place","many","counts"] ["web","laying","place","many"] (aA Kj):=.of
def Ro(T:Txt K L)(hq:bI (τ P w))(Y:lJ P w base T)(O:sg P w base T):Ok P w K L base "put" Kj ["web","laying","place","many"] 3 (MN T):=λ_ _ D=>by
 refine D.F.Ϻ RL λξ A I s H vs Q E J h=>?_;obtain⟨p,a,t,c,m,G,y,b,v,n,rfl,W,ha,hz,k,e1,e2,X⟩:=h;have g:=W.go;have Ζ:=g.Ζ;refine⟨_,(aw (Κ 4 (iO jP T.list (aa (Ξ O J bT (aa (γ 0) (aa (γ 1) ap))) ap))) (aw (cH (Ξ Y J bT (aa (γ 0) (aa (γ 2) ap)))) (aw (q8 (γ 4) (γ 2) qb (γ 3) sB gJ) (ay (aY (Ξ O J bT (aa (γ 0) (aa (γ 4) ap)))))))),?_⟩;walk_at "t";refine⟨p,a,t,c,m,G,y,b,rfl,W,ha,hz,λd Z M N _ e0=>?_,e1⟩;have xl:(b.length:Int)=m:=by
  unfold bA at d;rw[bG]at d;exact bB d.1
 refine⟨Z,rfl,_,.inr e0,λl U=>?_⟩;have j:=N.trans (δ.new (.lst (b.map V.int)) U);have nl:=N.free U;have C:upd M l (.lst (b.map V.int)) l=some (.lst (b.map V.int)):=au;generalize upd M l (.lst (b.map V.int))=u at j C ⊢;refine⟨p,t,m,G,y,v,rfl,W.same j,λq R=>?_,λz=>e2 d z u j⟩;refine Γ C (Ϲ q (by lia)) ⟨_,rfl,om C q (by rw[ag];lia) ?_⟩;rw[<-cT];have r:=j.put nl (.lst ((b.set v.toNat (b.getD v.toNat 0+n)).map V.int));have f:upd u l (.lst ((b.set v.toNat (b.getD v.toNat 0+n)).map V.int)) l=some (.lst ((b.set v.toNat (b.getD v.toNat 0+n)).map V.int)):=au;generalize upd u l (.lst ((b.set v.toNat (b.getD v.toNat 0+n)).map V.int))=H2 at r f ⊢;have yl:((b.set v.toNat (b.getD v.toNat 0+n)).length:Int)=m:=by rw[bN];exact xl
 refine⟨p,l,t,true,m,G,y,_,rfl,W.same r,ι.of f,by lia,λe S o B hl _=>?_,λe o B=>?_⟩
 .have hl3:o S=some (.tup ((b.set v.toNat (b.getD v.toNat 0+n)).map V.int)):=by
   rcases hl with z|z
   .exact z
   .cases z.1
  refine k d q R ?_ S o (r.trans B) hl3;unfold bA at e;rw[bG,eG]at e;exact bB (e.2 _ (aP (i:=v.toNat) (by rw[cY (by lia)])))
 .refine X d q R ?_ o (r.trans B);apply Classical.byContradiction;intro z;have:bA m (b.set v.toNat (b.getD v.toNat 0+n))=true:=by
   unfold bA at d;rw[bG,eG]at d;exact oO yl (Ry (λx hx=>bB (d.2 x hx)) (by lia))
  rw[this]at e;cases e
def JL(T:Txt K L):Sp:=λd H Q E=>E7 λ(p t:Addr)(m:Int)(b:hH)(c:ix)(v n:Int)=>d=[.ref p,.int v,.int n]/\θ T.Web H p m t b c/\(0<=v->v<m->0<=n->∀l a,δ H a->a l=some (.tup (((List.replicate m.toNat (0:Int)).set v.toNat n).map V.int))->Q (.ref l) a)/\(¬(0<=v/\v<m)->∀a,δ H a->E (.ref T.NoPlace) none a)/\(0<=v->v<m->n<0->∀a,δ H a->E (.ref T.BadLaying) none a)
abbrev HA:Stmt:=top 29
def QM:ε ["web","place","many"] ["web","place","many"] (aA HA):=.of
def Qh(T:Txt K L)(hq:bI (τ P w))(U:Cb P w K L base "put" Kj ["web","laying","place","many"] 3 (MN T)):Ok P w K L base "pile" HA ["web","place","many"] 4 (JL T):=λ_ _ D=>by
 refine D.F.Ϻ QM λξ A o s H vs Q E X h=>?_;obtain⟨p,t,m,M,C,v,n,rfl,W,k,O,y⟩:=h;have g:=W.go;have m1:=g.m1;have Ζ:=g.Ζ;obtain⟨Y,ob⟩:=W.ob;refine⟨_,(ay (aY (Ξ U X bT (aa (γ 0) (aa (aX oU (eL (aa aD ap)) (cq (γ 0) rfl)) (aa (γ 1) (aa (γ 2) ap))))))),?_⟩;walk_at "t";refine⟨bX (by simp),λj B=>?_⟩;have q:=δ.new (.lst [V.int 0]) B;refine⟨T.Web,Y,_,q _ _ ob,T.Ε,T.Λ,_,eP m t,?_⟩;refine⟨j,m,_,rfl,rfl,au,by lia,by lia,bX (by simp;lia),λl R=>?_⟩;rw[F2];have i:=q.trans (δ.new (.lst (List.replicate m.toNat (V.int 0))) R);have u:upd (upd H j (.lst [V.int 0])) l (.lst (List.replicate m.toNat (V.int 0))) l=some (.lst ((List.replicate m.toNat (0:Int)).map V.int)):=by rw[au,hV]
 generalize upd (upd H j (.lst [V.int 0])) l (.lst (List.replicate m.toNat (V.int 0)))=Z at i u ⊢;have J:((List.replicate m.toNat (0:Int)).length:Int)=m:=by rw[b8];lia
 have I:∀x∈List.replicate m.toNat (0:Int),0<=x:=λx G=>by rw[(i4.mp G).2];decide
 have S:=oO J I;have r:0<=v->v<m->(List.replicate m.toNat (0:Int)).getD v.toNat 0=0:=λa b=>by
  rw[List.getD,jO (by lia)];rfl
 refine⟨p,l,t,true,m,M,C,_,v,n,rfl,W.same i,ι.of u,by lia,λ_ a b f N c d e=>?_,λz=>(by rw[S]at z;cases z),λ_ z c d=>O z c (i.trans d),λ_ a b f c d=>?_⟩
 .rw[r a b,d9]at f e;exact k a b f N c (i.trans d) e
 .rw[r a b,d9]at f;exact y a b f c (i.trans d)
def Ar(T:Txt K L):Sp:=λg H Q _=>WZ λ(o d b t:Addr)(m:Int)(e:hH)(f:ix)(c:List (List Int×List Int))(s:List Int×List Int)(v n:Int)=>g=[.ref o,.int v,.int n]/\π T.Web T.Desk H o d b m t e f (c++[s])/\c.length<=500/\(s.1.length:Int)=m/\(0<=v/\v<m)/\0<=n/\∀a,π T.Web T.Desk a o d b m t e f (c++[s]++[(s.1.set v.toNat (s.1.getD v.toNat 0+n),s.2)])->Ϙ b H a->Q .ο a
abbrev sV:Stmt:=kL (top 107) 1
def Ix:ε ["self","place","many","heap"] ["self","place","many"] (aA sV):=.of
def CO:Ψ (aA sV) "zip":=.of
def IA(T:Txt K L)(f:bI (τ P w))(fX:vI P w base T)(U:nJ P w base T)(X:pL P w base T)(GX:Cb P w K L base "pile" HA ["web","place","many"] 4 (JL T)):Vq P w K L base "put" "Desk.put" sV ["self","place","many"] 5 (Ar T):=λ_ _ F=>by
 refine F.Ο Ix λξ A Y s H vs Q E J h=>?_;obtain⟨o,I,W,t,m,D,C,ς,s,v,n,rfl,O,sl,xl,Z,n0,k⟩:=h;obtain⟨dx,ob⟩:=O.ob;have Ζ:=O.web.go.Ζ;refine⟨_,(aw (Κ 3 (Θ GX J f (aa (cq (γ 0) rfl) (aa (γ 1) (aa (γ 2) ap))))) (ay (cH (nU (γ 0) T.η fX.M fX.G (J.mono (by decide)) fX.b .nil (d7 f) (aa (iO gi T.tuple (aa (gG rfl (md (Nc:=["has","more"]) 2 (by decide +kernel) (by decide +kernel) rfl (by decide +kernel) rfl) (Gd false false CO.g T.zip (aa (gq (γ 0) T.η U.M U.G (J.mono (by decide)) U.b .nil (d7 f)) (aa (γ 3) ap))) (λ_ _ _ _=>(wo K rfl (n:=2) rfl (bQ (d6 (i:=0) (show(["has","more"]:hU).Nodup from by decide +kernel) rfl (Or.inl rfl)) (bQ (d6 (i:=1) (show(["has","more"]:hU).Nodup from by decide +kernel) rfl (Or.inl rfl)) fJ)))) (λ_ _ _ _=>gu) (λ_ _ _ _=>(aX gc (pv 0) (pv 1)))) ap)) (aa (gq (γ 0) T.η X.M X.G (J.mono (by decide)) X.b .nil (d7 f)) ap)))))),?_⟩;walk_at "t";refine⟨T.Desk,dx,_,ob,T.η,T.χ,_,yB _ _,?_⟩;refine⟨I,t,m,D,C,v,n,rfl,O.web,λ_ _ _ l1 H1 s1 e1=>?_,λz=>absurd Z z,λ_ _ z=>by lia⟩;have l:=O.same s1;obtain⟨ar,U6⟩:=l.ob;refine l.Τ ?_;refine l.Τ ⟨o,I,W,t,m,D,C,ς,s,rfl,l,λla ZQ=>?_⟩;have aT:((List.replicate m.toNat (0:Int)).set v.toNat n).length=m.toNat:=by rw[bN,b8]
 refine⟨la,l1,⟨rfl,rfl⟩,⟨_,Α.of ZQ⟩,⟨_,Α.of e1⟩,λp hp=>?_⟩;refine BD (K:=K) (c:=false) (d:=false) (xs:=s.1.map V.int) (zs:=((List.replicate m.toNat (0:Int)).set v.toNat n).map V.int) (λi r u a=>δ H1 a/\a p=some (.lst r)/\r=(((s.1.zip ((List.replicate m.toNat (0:Int)).set v.toNat n)).take i).map λq=>q.1+q.2).map V.int/\∃v w,u=[v,w]) ⟨δ.new _ hp,au,rfl,_,_,rfl⟩ (λi r u a z=>⟨Α.of (z.1 _ _ ZQ),Α.of (z.1 _ _ e1)⟩) ?_ ?_
 .rintro i x z r u a q N hN hx Yo ⟨s2,e2,rfl,v',w,rfl⟩ f;rw[aN]at hx Yo;obtain⟨x,gx,rfl⟩:=ck.mp hx;obtain⟨z,gz,rfl⟩:=ck.mp Yo;have j:=δ.new (.tup [V.int x,V.int z]) f;have a1:=(ax.mp gx).1;walk_at "";refine⟨_,Α.of au,rfl,_,_,rfl,_,_,rfl,rfl,?_⟩;walk_at "";refine⟨j _ _ e2,d8 (by simp;lia),hN _ _ _ ⟨(s2.trans j).put hp _,au,?_,_,_,rfl⟩⟩;have R:(s.1.zip ((List.replicate m.toNat (0:Int)).set v.toNat n))[i]?=some (x,z):=by rw[iW];exact⟨gx,gz⟩
  rw[bg,R,aq,aq]
  rfl
 .rintro r u a ⟨s2,e2,rfl,v',w,rfl⟩;have e:(((s.1.zip ((List.replicate m.toNat (0:Int)).set v.toNat n)).take (min (s.1.map V.int).length (((List.replicate m.toNat (0:Int)).set v.toNat n).map V.int).length)).map λq=>q.1+q.2)=s.1.set v.toNat (s.1.getD v.toNat 0+n):=by
   rw[bZ (by rw[iU,ag,ag];exact aJ _),<-PQ xl Z.1 Z.2];unfold nA;rw[List.zip,List.map_zipWith]
  rw[e]at e2;refine⟨p,rfl,_,.inl ⟨ι.of e2,λB n3=>?_⟩⟩;have j:=s2.trans (δ.new (.tup ((s.1.set v.toNat (s.1.getD v.toNat 0+n)).map V.int)) n3);have e3:upd a B (.tup ((s.1.set v.toNat (s.1.getD v.toNat 0+n)).map V.int)) B=some (.tup ((s.1.set v.toNat (s.1.getD v.toNat 0+n)).map V.int)):=au;generalize upd a B (.tup ((s.1.set v.toNat (s.1.getD v.toNat 0+n)).map V.int))=H3 at j e3 ⊢;have S:=l.same j;refine S.Τ ⟨o,I,W,t,m,D,C,ς,s,rfl,S,λlb XM=>?_⟩;refine⟨o,I,W,t,B,lb,m,D,C,_,(_,_),rfl,S,e3,XM,by rw[aH];simp;lia,λH4 O4 k4=>k H4 O4 ?_⟩;exact λc y h n=>k4 c y (j _ _ (s1 _ _ h)) n
def F3(T:Txt K L):Sp:=λc H Q _=>E7 λ(p q t:Addr)(m:Int)(b:hH)(a:ix)(s:ϻ)=>c=[.ref p,.ref q]/\θ T.Web H p m t b a/\H q=some (.tup (Xx s))/\qJ m a s=true/\Q (.int (s.2.2*jI a s.1 s.2.1)) H
abbrev Ef:Stmt:=top 41
def OW:ε ["web","step"] ["web","step"] (aA Ef):=.of
def Ot(T:Txt K L)(d:bI (τ P w))(e:mP P w base T):Ok P w K L base "taken" Ef ["web","step"] 4 (F3 T):=λ_ _ D=>by
 refine D.F.Ο OW λy A b s H v Q E o h=>?_;obtain⟨p,q,t,m,i,f,s,rfl,W,a,is,k⟩:=h;have g:=W.go;obtain⟨u,c,n,r,l⟩:=EZ g is;have j:=(wF is).1;refine⟨_,(ay (aY (aX ke (ψ eM (γ 1) aD) (Θ e o d (aa (γ 0) (aa (ψ eM (γ 1) aD) (aa (ψ eM (γ 1) aD) ap))))))),?_⟩;walk_at "t";refine Tv a rfl (Tv a rfl (Tv a rfl ?_));refine⟨p,t,m,i,f,s.1,s.2.1,?_⟩;refine an5 rfl W (λx _ _ _ _ h=>?_) (λz=>absurd ⟨j,l⟩ z) (λ_ _ _ _ z=>by rw[c]at z;cases z);rw[c]at h;cases h;rw[n]at k;exact⟨_,rfl,_,rfl,.inr ⟨by lia,by lia⟩,k⟩
abbrev Jl(P w base)(T:Txt K L):=Cb P w K L base "taken" Ef ["web","step"] 4 (F3 T)
def Fd(T:Txt K L):Sp:=λf H Q _=>E9 λ(p a q t:Addr)(m:Int)(e:hH)(b:ix)(d:fc)(s:ϻ)=>f=[.ref p,.ref a,.ref q]/\θ T.Web H p m t e b/\Α K H a (d.map V.int)/\(d.length:Int)=m/\H q=some (.tup (Xx s))/\qJ m b s=true/\∀l c,H l=none->δ H c->c l=some (.tup ((pp b d s).map V.int))->Q (.ref l) c
abbrev Bl:Stmt:=top 42
def Ng:ε ["web","laying","step","counts"] ["web","laying","step"] (aA Bl):=.of
def Md(T:Txt K L)(C:bI (τ P w))(J:Jl P w base T):Ok P w K L base "behind" Bl ["web","laying","step"] 5 (Fd T):=λ_ _ D=>by
 refine D.F.Ο Ng λξ A o s H vs Q E R h=>?_;obtain⟨p,a,q,t,m,N,d,b,s,rfl,W,I,xl,O,is,k⟩:=h;have g:=W.go;have Ζ:=g.Ζ;obtain⟨X,Y,Z,U,x⟩:=EZ g is;have v:=(wF is).1;refine⟨_,(aw (Κ 3 (iO jP T.list (aa (γ 1) ap))) (aw (q8 (γ 3) (ψ eM (γ 2) aD) qb (Θ J R C (aa (γ 0) (aa (γ 2) ap))) RK gJ) (aw (q8 (γ 3) (ψ eM (γ 2) aD) qb (ψ eM (γ 2) aD) sB gJ) (ay (aY (iO gi T.tuple (aa (γ 3) ap))))))),?_⟩;walk_at "t";refine⟨_,.inr I,λl nl=>?_⟩;have f:=δ.new (.lst (b.map V.int)) nl;have c:=f _ _ O;have i:upd H l (.lst (b.map V.int)) l=some (.lst (b.map V.int)):=au;generalize upd H l (.lst (b.map V.int))=B at f c i ⊢;refine Tv c rfl (Γ i (Ϲ v.1 (by lia)) ?_);refine⟨p,q,t,m,N,d,s,?_⟩;refine an5 rfl (W.same f) c is ?_;refine⟨_,rfl,_,rfl,om i v.1 (by rw[ag];lia) ?_⟩;rw[<-cT];have n:q≠l:=cZ c i (by nofun);have M:(b.set s.1.toNat (b.getD s.1.toNat 0-s.2.2*jI d s.1 s.2.1)).length=b.length:=by rw[bN]
 have u:pp d b s=(b.set s.1.toNat (b.getD s.1.toNat 0-s.2.2*jI d s.1 s.2.1)).set s.2.1.toNat ((b.set s.1.toNat (b.getD s.1.toNat 0-s.2.2*jI d s.1 s.2.1)).getD s.2.1.toNat 0+s.2.2):=rfl;generalize b.set s.1.toNat (b.getD s.1.toNat 0-s.2.2*jI d s.1 s.2.1)=G at M u ⊢;have y:upd B l (.lst (G.map V.int)) q=some (.tup (Xx s)):=by rw[aM n];exact c
 refine Tv y rfl (Γ au (Ϲ x.1 (by lia)) (Tv y rfl ⟨_,rfl,_,rfl,om au x.1 (by rw[ag];lia) ?_⟩));rw[mB,<-cT,<-u];refine⟨_,.inl ⟨ι.of au,λj e=>?_⟩⟩;have S:H j=none:=by
  have r:j≠l:=λz=>by rw[z,au]at e;cases e
  rw[aM r]at e;exact f.free e
 exact k j _ S ((f.put nl _).trans (δ.new _ e)) au
def Dw(T:Txt K L):Sp:=λd H Q _=>E7 λ(p q t:Addr)(m:Int)(c:hH)(a:ix)(s:ϻ)=>d=[.ref p,.ref q]/\θ T.Web H p m t c a/\H q=some (.tup (Xx s))/\∀b,δ H b->Q (.bl (qJ m a s)) b
abbrev yH:Stmt:=top 40
def KL:ε ["web","step"] ["web","step"] (aA yH):=.of
def KB(T:Txt K L)(j:bI (τ P w))(r:xD P w base T)(y:xX P w base T):Ok P w K L base "is_step" yH ["web","step"] 4 (Dw T):=λ_ _ D=>by
 refine D.F.Ο KL λG A f s H C Q E o h=>?_;obtain⟨p,q,t,m,v,e,s,rfl,W,b,k⟩:=h;obtain⟨B,ob⟩:=W.ob;refine⟨_,(ay (aY (wr (Θ r o j (aa (cq (γ 0) rfl) (aa (ψ eM (γ 1) aD) ap))) (wr (jV y8 (ψ eM (γ 1) aD) (Θ y o j (aa (γ 0) (aa (ψ eM (γ 1) aD) ap))) (by with_unfolding_all rfl)) (wD (jV zO (ψ eM (γ 1) aD) aD (kP _))))))),?_⟩;walk_at "t";refine⟨T.Web,B,_,ob,T.Ε,T.Λ,_,eP m t,Tv b rfl ⟨m,s.1,rfl,?_⟩⟩;refine⟨_,rfl,?_⟩;have a:∀n,δ H n->Q (.bl (decide (0<=s.1)&&decide (s.1<m)&&decide (s.2.1∈jM m e s.1)&&decide (1<=s.2.2))) n:=k;by_cases c:(decide (0<=s.1)&&decide (s.1<m))=true
 .rw[aj c];rw[c,iQ]at a;have x:0<=s.1/\s.1<m:=by
   rw[bG]at c;exact⟨bB c.1,bB c.2⟩
  refine Tv b rfl (Tv b rfl ?_);refine⟨p,t,m,v,e,s.1,?_⟩;refine Vl rfl W (λl i _ _ nl g u=>?_) (λz=>absurd x z);refine inL u ⟨_,rfl,?_⟩;by_cases d:s.2.1∈jM m e s.1
  .rw[bo d,iQ]at a;rw[aj (by rw[bo d];rfl)];exact Tv (g _ _ b) rfl ⟨_,rfl,a i g⟩
  .rw[bM d,gg]at a;rw[ah (by rw[bM d];decide)];exact a i g
 .rw[ah c];rw[show(decide (0<=s.1)&&decide (s.1<m))=false by simpa using c,gg,gg]at a;exact a H (δ.refl _)
def wm(T:Txt K L):Sp:=λf H Q _=>E9 λ(p a q t:Addr)(m:Int)(e:hH)(c:ix)(b:fc)(s:ϻ)=>f=[.ref p,.ref a,.ref q]/\θ T.Web H p m t e c/\Α K H a (b.map V.int)/\(b.length:Int)=m/\H q=some (.tup (Xx s))/\∀d,δ H d->Q (.bl (tp m c b s)) d
abbrev sK:Stmt:=top 39
def Ex:ε ["web","laying","step"] ["web","laying","step"] (aA sK):=.of
def Ev(T:Txt K L)(i:bI (τ P w))(n:Cb P w K L base "is_step" yH ["web","step"] 4 (Dw T))(r:Jl P w base T):Ok P w K L base "can_be_done" sK ["web","laying","step"] 5 (wm T):=λ_ _ D=>by
 refine D.F.Ο Ex λz A f s H y Q E l h=>?_;obtain⟨p,a,q,t,m,j,d,v,s,rfl,W,o,x,e,k⟩:=h;refine⟨_,(ay (aY (wr (Θ n l i (aa (γ 0) (aa (γ 2) ap))) (wD (jV zO (ψ eM (γ 1) (jT eM (γ 2) aD (λ_ _=>rfl))) (Θ r l i (aa (γ 0) (aa (γ 2) ap))) (kP _)))))),?_⟩;walk_at "t";refine⟨p,q,t,m,j,d,s,?_⟩;refine Vl rfl W e (λg b=>⟨_,rfl,?_⟩);by_cases c:qJ m d s=true
 .rw[aj c];have u:=(wF c).1;refine Tv (b _ _ e) rfl (Dx (δ.tup b o) (Ϲ u.1 (by lia)) ?_);refine⟨p,q,t,m,j,d,s,?_⟩;refine an5 rfl (W.same b) (b _ _ e) c ?_;have:=k g b;unfold tp at this;rw[c,iQ]at this;exact⟨_,rfl,_,rfl,this⟩
 .rw[ah c];have:=k g b;unfold tp at this;rw[show qJ m d s=false by simpa using c,gg]at this;exact this
def B8(T:Txt K L):Sp:=λn H Q _=>XC λ(p a b t:Addr)(c d:Bool)(m:Int)(k j:hH)(h:ix)(e:fc)(g:List ϻ)=>n=[.ref p,.ref a,.ref b]/\θ T.Web H p m t k h/\VY c H a (e.map V.int)/\bA m e=true/\VY d H b (j.map V.ref)/\Δ H j g/\g.length<=1000/\Gs m h e g/\∀l i f,H l=none->δ H f->f l=some (.lst (i.map V.ref))->MH f i (uK h e g)->Q (.ref l) f
abbrev u6:Stmt:=top 38
def LF:ε ["web","laying","steps","passed","at","step"] ["web","laying","steps"] (aA u6):=.of
def xA:Ψ (aA u6) "enumerate":=.of
def KO(T:Txt K L)(U:bI (τ P w))(AV:Cb P w K L base "behind" Bl ["web","laying","step"] 5 (Fd T))(sE:Cb P w K L base "can_be_done" sK ["web","laying","step"] 5 (wm T))(gU:sg P w base T):Ok P w K L base "layings" u6 ["web","laying","steps"] 6 (B8 T):=λ_ _ D=>by
 refine D.F.Ο LF λξ A ak s H vs Q E hr h=>?_;obtain⟨p,a,b,t,c,d,m,ps,O,rs,xs,ss,rfl,W,ha,M,hb,hs,sl,ca,k⟩:=h;have g:=W.go;have Ζ:=g.Ζ;have xl:(xs.length:Int)=m:=by
  unfold bA at M;rw[bG]at M;exact bB M.1
 refine⟨_,(aw (Κ 3 (eL (aa (Θ gU hr U (aa (γ 0) (aa (γ 1) ap))) ap))) (aw (gf PassesOwn.never rfl (zA d xA.g T.enumerate (γ 2)) (iC (n:=2) rfl (bQ (ϊ 4) (bQ (ϊ 5) fJ))) (aw (bU (nG (lW (Θ sE hr U (aa (γ 0) (aa (ψ bu (γ 3) (lx ju aD)) (aa (γ 5) ap)))))) (ay kW) bE) (ay (cH (TU (γ 3) (Θ AV hr U (aa (γ 0) (aa (ψ bu (γ 3) (lx ju aD)) (aa (γ 5) ap))))))))) (ay (aY (γ 3))))),?_⟩;walk_at "t";refine⟨p,a,t,c,m,ps,rs,xs,?_⟩;refine an6 rfl W ha.sq (by lia) (λ_ u S Z e1 _=>?_) (λz=>by rw[M]at z;cases z);have an:S u=some (.tup (xs.map V.int)):=by
  rcases e1 with e|⟨hc,rfl⟩
  .exact e
  .subst hc;exact Z _ _ ha
 refine⟨bX (by simp),λl nl=>?_⟩;have s2:=δ.new (.lst [V.ref u]) nl;have ZN:=Z.free nl;have ϙ:=Z.trans s2;have e2:=s2 _ _ an;have el:upd S l (.lst [V.ref u]) l=some (.lst [V.ref u]):=au;generalize upd S l (.lst [V.ref u])=H2 at s2 ϙ e2 el ⊢;have ql:O.length=ss.length:=Paired.length hs;have C:∀{f:Hp},δ H f->Ω K d f b (O.map V.ref):=λ{f} s3=>VY.sq (K:=K) (show VY d f b (O.map V.ref)from s3 _ _ hb);refine⟨⟨_,C ϙ⟩,?_⟩;refine HL (K:=K) (c:=d) (xs:=O.map V.ref) (λi J f=>δ H f/\i<=ss.length/\E3 λ(j:hH)(v4 v5:Option V)=>f l=some (.lst (j.map V.ref))/\MH f j ((uK rs xs ss).take (i+1))/\J=[some (V.ref p),some (V.ref a),some (V.ref b),some (V.ref l),v4,v5]) ⟨ϙ,cf _,[u],_,_,el,?_,rfl⟩ (λi J f z=>C z.1) ?_ ?_
 .have h0:=uV (rs:=rs) (xs:=xs) (ss:=ss) (i:=0) (cf _);rw[Mc]at h0;rw[bg,h0,dU];exact .cons e2 .nil
 .rintro i x J f q N hN hx ⟨s3,il,j,v4,v5,e3,ta,rfl⟩ nq;obtain⟨qx,s,rfl,h1,h2,h3⟩:=(Δ.same s3 hs).get hx;have Y:i<ss.length:=(ax.mp h2).1;have cd:=ca i s h2;have is:qJ m rs s=true:=by
   unfold tp at cd;rw[bG]at cd;exact cd.1
  have y:=δ.new (.tup [V.int (i:Int),V.ref qx]) nq;have tl:j.length=((uK rs xs ss).take (i+1)).length:=Paired.length ta;rw[bq,yt]at tl;have bs:=O7 rs xs ss i;obtain⟨r,v⟩:∃r,j[i]?=some r:=⟨_,az (by lia)⟩;obtain⟨bt,I,G⟩:=G1 ta v;rw[gS (by lia),uV il]at I;cases I;have WK:∃t',j=t'++[r]:=by
   refine⟨j.take i,?_⟩;have:=bg (l:=j) (i:=i);rw[v,bZ (by lia)]at this;exact this
  obtain⟨t',ϭ⟩:=WK;have R:f l=some (.lst (t'.map V.ref++[V.ref r])):=by rw[e3,ϭ,aq];rfl
  walk_at "";refine⟨_,Α.of au,rfl,_,_,rfl,_,_,rfl,rfl,?_⟩;refine Γ (y _ _ R) (A9 _ _) ?_;refine⟨p,r,qx,t,m,ps,rs,qI rs xs ss i,s,rfl,W.same (s3.trans y),Α.of (y _ _ G),by lia,y _ _ h3,λH5 s5=>⟨_,rfl,?_⟩⟩;rw[cd,ah (by decide)];have o:=y.trans s5;refine⟨S9 (o _ _ R),Γ (o _ _ R) (A9 _ _) ?_⟩;refine⟨p,r,qx,t,m,ps,rs,qI rs xs ss i,s,rfl,W.same (s3.trans o),Α.of (o _ _ G),by lia,o _ _ h3,is,λtn H6 nn s6 en=>?_⟩;have B:=o.trans s6;have X:tn≠l:=λz=>by rw[z,o _ _ R]at nn;cases nn
  refine oS (B _ _ e3) (d8 (by rw[ag];lia)) (hN _ _ ⟨(s3.trans B).put ZN _,Y,j++[tn],_,_,by rw[au,aq];rfl,?_,rfl⟩);rw[bg,uV (by lia),LL h2];exact zK (by rw[aM X];exact en) (Paired.imp' (λa b h=>by rw[aM (cZ (B _ _ h) (B _ _ e3) (by nofun))];exact B _ _ h) ta)
 .rintro J f ⟨s3,il,j,v4,v5,e3,ta,rfl⟩;rw[ag,ql,bZ (by rw[yt];exact aJ _)]at ta;walk_at "";exact k l j f ZN s3 e3 ta
def EU(T:Txt K L):Sp:=λk H Q _=>XC λ(p a b t:Addr)(c d:Bool)(m:Int)(j i:hH)(g:ix)(f:fc)(e:List ϻ)=>k=[.ref p,.ref a,.ref b]/\θ T.Web H p m t j g/\VY c H a (f.map V.int)/\bA m f=true/\VY d H b (i.map V.ref)/\Δ H i e/\e.length<=1000/\Gs m g f e/\∀l h,δ H h->h l=some (.tup ((qI g f e e.length).map V.int))->Q (.ref l) h
abbrev BM:Stmt:=top 37
def Nt:ε ["web","laying","steps"] ["web","laying","steps"] (aA BM):=.of
def Mv(T:Txt K L)(B:bI (τ P w))(y:Cb P w K L base "layings" u6 ["web","laying","steps"] 6 (B8 T)):Ok P w K L base "walked" BM ["web","laying","steps"] 7 (EU T):=λ_ _ D=>by
 refine D.F.Ο Nt λξ A o s H Z Q E Y h=>?_;obtain⟨p,a,b,t,c,d,m,J,U,u,x,g,rfl,W,G,X,C,M,N,I,k⟩:=h;refine⟨_,(ay (aY (jT bu (Θ y Y B (aa (γ 0) (aa (γ 1) (aa (γ 2) ap)))) (lx ju aD) (λ_ _=>rfl)))),?_⟩;walk_at "t";refine⟨p,a,b,t,c,d,m,J,U,u,x,g,?_⟩;refine an9 rfl W G X C M N I (λl f z nl V v r=>?_);have R:f.length=(uK u x g).length:=Paired.length r;rw[yt]at R;obtain⟨n,e⟩:∃n,f[g.length]?=some n:=⟨_,az (by lia)⟩;obtain⟨O,j,q⟩:=G1 r e;rw[uV (aJ _)]at j;cases j;have S:f=f.take g.length++[n]:=by
  have:=bg (l:=f) (i:=g.length);rw[e,bZ (by lia)]at this;exact this
 rw[S,aq]at v;exact Γ v (A9 _ _) (k n z V q)
def yf(T:Txt K L):Sp:=λi H Q _=>XC λ(o g e t:Addr)(m:Int)(h:hH)(c:ix)(f:List (List Int×List Int))(s:List Int×List Int)(a b n:Int)=>i=[.ref o,.int a,.int b,.int n]/\π T.Web T.Desk H o g e m t h c (f++[s])/\f.length<=500/\bA m s.1=true/\Gs m c s.1 [(a,b,n)]/\∀d,π T.Web T.Desk d o g e m t h c (f++[s]++[(qI c s.1 [(a,b,n)] 1,s.2)])->Ϙ e H d->Q .ο d
abbrev vQ:Stmt:=kL (top 107) 3
def GA:ε ["self","a","b","times"] ["self","a","b","times"] (aA vQ):=.of
def Iu(T:Txt K L)(e:bI (τ P w))(z:vI P w base T)(r:nJ P w base T)(v:pL P w base T)(Br:Cb P w K L base "walked" BM ["web","laying","steps"] 7 (EU T)):Vq P w K L base "step" "Desk.step" vQ ["self","a","b","times"] 8 (yf T):=λ_ _ F=>by
 refine F.Ο GA λξ A x s H vs Q E p h=>?_;obtain⟨o,l,u,t,m,i,f,C,s,a,b,n,rfl,O,sl,fi,W,k⟩:=h;obtain⟨dx,ob⟩:=O.ob;have Ζ:=O.web.go.Ζ;refine⟨_,(ay (cH (nU (γ 0) T.η z.M z.G (p.mono (by decide)) z.b .nil (d7 e) (aa (Θ Br p e (aa (cq (γ 0) rfl) (aa (gq (γ 0) T.η r.M r.G (p.mono (by decide)) r.b .nil (d7 e)) (aa (eL (aa (hJ (aa (γ 1) (aa (γ 2) (aa (γ 3) ap)))) ap)) ap)))) (aa (gq (γ 0) T.η v.M v.G (p.mono (by decide)) v.b .nil (d7 e)) ap))))),?_⟩;walk_at "t";refine O.Τ ?_;refine O.V3 T.η T.χ ?_;refine O.Τ ⟨o,l,u,t,m,i,f,C,s,rfl,O,λla S=>⟨bX (by simp),λd n1=>⟨bX (by simp),λj Z=>?_⟩⟩⟩;have s1:=δ.new (.tup [V.int a,V.int b,V.int n]) n1;have J:=δ.new (.lst [V.ref d]) Z;have D:=J _ _ (au (H:=H) (a:=d) (o:=.tup [V.int a,V.int b,V.int n]));have N:upd (upd H d (.tup [V.int a,V.int b,V.int n])) j (.lst [V.ref d]) j=some (.lst [V.ref d]):=au;have g:=s1.trans J;generalize upd (upd H d (.tup [V.int a,V.int b,V.int n])) j (.lst [V.ref d])=H2 at D N g ⊢;have I:=O.same g;refine⟨l,la,j,t,false,true,m,i,[d],f,s.1,[(a,b,n)],rfl,I.web,g _ _ S,fi,N,.cons D .nil,by simp,W,λU H3 B R=>?_⟩;have q:=I.same B;refine q.Τ ⟨o,l,u,t,m,i,f,C,s,rfl,q,λlb X=>?_⟩;refine⟨o,l,u,t,U,lb,m,i,f,_,(_,_),rfl,q,R,X,by rw[aH];simp;lia,λH4 O4 Y=>k H4 O4 ?_⟩;exact λc y h n=>Y c y (B _ _ (g _ _ h)) n
def De(T:Txt K L):Sp:=λg H Q E=>E8 λ(p a t:Addr)(c:Bool)(m:Int)(e:hH)(f:ix)(d:fc)=>g=[.ref p,.ref a]/\θ T.Web H p m t e f/\Ω K c H a (d.map V.int)/\d.length<=1000/\(bA m d=true->∀l b,δ H b->(b l=some (.tup (d.map V.int))\/(c=false/\l=a))->Α K b l (d.map V.int)->Q (.ref l) b)/\(bA m d=false->∀b,δ H b->E (.ref T.BadWish) none b)
abbrev uT:Stmt:=top 44
def Lg:ε ["web","numbers"] ["web","numbers"] (aA uT):=.of
def sA:Ψ (aA uT) "BadWish":=.of
def Lx(T:Txt K L)(y:bI (τ P w))(v:Ay P w base T):Ok P w K L base "wish_of" uT ["web","numbers"] 2 (De T):=λ_ _ D=>by
 refine D.F.Ϻ Lg λC A j s H B Q E x h=>?_;obtain⟨p,a,t,c,m,u,q,i,rfl,W,f,r,k,e⟩:=h;refine⟨_,(aw (bU (nG (lW (Ξ v x bT (aa (γ 0) (aa (γ 1) ap))))) (ay (rH T.TY rfl tK sA.g T.RW (aa bH ap) (hdb:=sA.d))) bE) (ay (aY (iO gi T.tuple (aa (γ 1) ap))))),?_⟩;walk_at "t";refine⟨p,a,t,c,m,u,q,i,rfl,W,f,r,λn b=>⟨_,rfl,?_⟩⟩;by_cases z:bA m i=false
 .rw[aj z];exact⟨by decide,e z n b⟩
 .rw[ah z];have o:bA m i=true:=by simpa using z
  cases c
  .exact⟨_,.inr ⟨δ.ϫ (c:=false) b f,k o a n b (.inr ⟨rfl,rfl⟩) (δ.ϫ (c:=false) b f)⟩⟩
  .exact⟨_,.inl ⟨δ.ϫ (c:=true) b f,λl nl=>k o l _ (b.trans (δ.new _ nl)) (.inl au) (Α.of au)⟩⟩
abbrev uU(P w base)(T:Txt K L):=Cb P w K L base "wish_of" uT ["web","numbers"] 2 (De T)
def yD(T:Txt K L):Sp:=λg H Q _=>WZ λ(o d b t:Addr)(m:Int)(e:hH)(f:ix)(c:List (List Int×List Int))(s:List Int×List Int)(v n:Int)=>g=[.ref o,.int v,.int n]/\π T.Web T.Desk H o d b m t e f (c++[s])/\c.length<=500/\(s.2.length:Int)=m/\(∀y∈s.2,0<=y)/\(0<=v/\v<m)/\0<=n/\∀a,π T.Web T.Desk a o d b m t e f (c++[s]++[(s.1,s.2.set v.toNat n)])->Ϙ b H a->Q .ο a
abbrev vM:Stmt:=kL (top 107) 2
def G9:ε ["self","place","many","wanted"] ["self","place","many"] (aA vM):=.of
def Gm(T:Txt K L)(d:bI (τ P w))(D:vI P w base T)(j:nJ P w base T)(u:pL P w base T)(R:lJ P w base T)(jd:uU P w base T):Vq P w K L base "want" "Desk.want" vM ["self","place","many"] 3 (yD T):=λ_ _ F=>by
 refine F.Ο G9 λξ A B s H vs Q E i h=>?_;obtain⟨o,g,p,t,m,f,e,I,s,v,n,rfl,O,sl,xl,Z,N,n0,k⟩:=h;obtain⟨dx,ob⟩:=O.ob;have Ζ:=O.web.go.Ζ;refine⟨_,(aw (cH (Θ R i d (aa (cq (γ 0) rfl) (aa (γ 1) ap)))) (aw (Κ 3 (iO jP T.list (aa (gq (γ 0) T.η u.M u.G (i.mono (by decide)) u.b .nil (d7 d)) ap))) (aw (jq (γ 2) (nL (γ 3) (γ 1) gJ)) (ay (cH (nU (γ 0) T.η D.M D.G (i.mono (by decide)) D.b .nil (d7 d) (aa (gq (γ 0) T.η j.M j.G (i.mono (by decide)) j.b .nil (d7 d)) (aa (Θ jd i d (aa (cq (γ 0) rfl) (aa (γ 3) ap))) ap)))))))),?_⟩;walk_at "t";refine⟨T.Desk,dx,_,ob,T.η,T.χ,_,yB _ _,?_⟩;refine⟨g,t,m,f,e,v,rfl,O.web,λ_ _=>?_,λz=>absurd N z⟩;refine O.Τ ⟨o,g,p,t,m,f,e,I,s,rfl,O,λlb X=>⟨lb,rfl,_,.inr (Α.of X),λl nl=>?_⟩⟩;refine om au N.1 (by rw[ag];lia) ?_;rw[<-cT,mB];have C:=δ.new (.lst ((s.2.set v.toNat n).map V.int)) nl;have J:upd H l (.lst ((s.2.set v.toNat n).map V.int)) l=some (.lst ((s.2.set v.toNat n).map V.int)):=au;generalize upd H l (.lst ((s.2.set v.toNat n).map V.int))=H1 at C J ⊢;have a:=O.same C;have fi:bA m (s.2.set v.toNat n)=true:=oO (by rw[bN];exact xl) λy U=>by
  rcases fE U with q|q
  .exact Z y q
  .lia
 refine a.Τ ?_;refine a.Τ ⟨o,g,p,t,m,f,e,I,s,rfl,a,λla S=>?_⟩;refine a.V3 T.η T.χ ?_;refine⟨g,l,t,true,m,f,e,_,rfl,a.web,ι.of J,by rw[bN];lia,λ_ W H2 r x _=>?_,λz=>by rw[fi]at z;cases z⟩;have x:=x.resolve_right λz=>by cases z.1
 have Y:=a.same r;refine⟨o,g,p,t,la,W,m,f,e,_,(s.1,s.2.set v.toNat n),rfl,Y,r _ _ S,x,by rw[aH];simp;lia,λH4 O4 k4=>k H4 O4 ?_⟩;exact λc y h n=>k4 c y (r _ _ (C _ _ h)) n
def CY(T:Txt K L):Sp:=λi H Q _=>E13 λ(o e d t h:Addr)(m:Int)(f:hH)(a:ix)(c:List (List Int×List Int))(s:List Int×List Int)(w:Str)(g:List Nat)(S:List (List Int×List Int))=>i=[.ref o,.str w,.ref h]/\π T.Web T.Desk H o e d m t f a (c++[s])/\c.length<=500/\bA m s.1=true/\bA m s.2=true/\H h=some (.lst (Yb g))/\W0 m a c s w g (.inl "done") S/\∀b,π T.Web T.Desk b o e d m t f a S->Ϙ d H b->Q .ο b
abbrev y3:Stmt:=top 109
def KH:ε ["desk","word","numbers"] ["desk","word","numbers"] (aA y3):=.of
def KD(T:Txt K L)(d:bI (τ P w))(x:Cm P w K L base (Meth K T.Desk "back") "back" "Desk.back" vw ["self"] 3 (xY T))(B:Cm P w K L base (Meth K T.Desk "put") "put" "Desk.put" sV ["self","place","many"] 5 (Ar T))(u:Cm P w K L base (Meth K T.Desk "step") "step" "Desk.step" vQ ["self","a","b","times"] 8 (yf T))(I:Cm P w K L base (Meth K T.Desk "want") "want" "Desk.want" vM ["self","place","many"] 3 (yD T)):Ok P w K L base "do_deed" y3 ["desk","word","numbers"] 10 (CY T):=λ_ _ D=>by
 refine D.F.Ο KH λV A C s H U Q E q h=>?_;obtain⟨o,p,g,t,R,m,l,f,j,s,w,W,S,rfl,O,y,N,J,c,r,k⟩:=h;refine⟨_,(ay (bU (Ν cM (γ 1) bH) (ay (cH (nU (γ 0) T.η B.M B.G (q.mono (by decide)) B.b .nil (d7 d) (aa (ψ bu (γ 2) aD) (aa (ψ bu (γ 2) aD) ap))))) (ay (bU (Ν cM (γ 1) bH) (ay (cH (nU (γ 0) T.η I.M I.G (q.mono (by decide)) I.b .nil (d7 d) (aa (ψ bu (γ 2) aD) (aa (ψ bu (γ 2) aD) ap))))) (ay (bU (Ν cM (γ 1) bH) (ay (cH (nU (γ 0) T.η u.M u.G (q.mono (by decide)) u.b .nil (d7 d) (aa (ψ bu (γ 2) aD) (aa (ψ bu (γ 2) aD) (aa (ψ bu (γ 2) aD) ap)))))) (ay (cH (gq (γ 0) T.η x.M x.G (q.mono (by decide)) x.b .nil (d7 d)))))))))),?_⟩;walk_at "t";cases r with
 | @put v n h=>
   rw[aj rfl];exact O.Τ (Γ c rfl (Γ c rfl ⟨o,p,g,t,m,l,f,j,s,v,n,rfl,O,y,iw N,⟨by lia,h⟩,by lia,k⟩))
 | @want v n h=>
   rw[ah (Ϣ (by decide)),aj rfl];exact O.Τ (Γ c rfl (Γ c rfl ⟨o,p,g,t,m,l,f,j,s,v,n,rfl,O,y,iw J,Fm J,⟨by lia,h⟩,by lia,k⟩))
 | @step a b n h=>
   rw[ah (Ϣ (by decide)),ah (Ϣ (by decide)),aj rfl];exact O.Τ (Γ c rfl (Γ c rfl (Γ c rfl ⟨o,p,g,t,m,l,f,j,s,a,b,n,rfl,O,y,N,(λi z e=>by rcases i with _|i<;>cases e;exact h),k⟩)))
 | back h=>
   rw[ah (Ϣ (by decide)),ah (Ϣ (by decide)),ah (Ϣ (by decide))];exact O.Τ ⟨o,p,g,t,m,l,f,j,s,rfl,O,h,k⟩
def yM(T:Txt K L):Sp:=λb H Q _=>∃n:Nat,b=[.str (FS n)]/\n<10^60/\∀a,δ H a->Q (.bl true) a
abbrev se:Stmt:=top 89
def G7:ε ["word"] ["word"] (aA se):=.of
def ou:Ψ (aA se) "MOST_FIGURES":=.of
def Hk(T:Txt K L)(C:bI (τ P w)):Ok P w K L base "is_number" se ["word"] 1 (yM T):=λ_ _ D=>by
 refine D.F.Ο G7 λR A m s H J Q E O h=>?_;obtain⟨n,rfl,nb,k⟩:=h;refine⟨_,(aw (bU (PW.pt (zI (nG (A7 wV wV aD (TB Hw T.len (aa (γ 0) ap)) (oJ ou.g T.TC (hd:=ou.d)))) (CB (nG (lW (TB (G5 rfl) T.all (aa (gG rfl (md (Nc:=["sign"]) 1 (by decide +kernel) (by decide +kernel) rfl (by decide +kernel) rfl) (RA (γ 0)) (λ_ _ _ _=>(d6 (i:=0) (show(["sign"]:hU).Nodup from by decide +kernel) rfl (Or.inl rfl))) (λ_ _ _ _=>gu) (λ_ _ _ _=>(jV Mp (pv 0) (Pa (by rfl) T.VO) (by with_unfolding_all rfl)))) ap))))))) (ay (aY zN)) bE) (ay (aY (So (jV cM (γ 0) bH (kP _)) (wD (jV ph (ψ RQ (γ 0) aD) bH (kP _))))))),?_⟩;walk_at "s";refine db λG B=>?_;walk_at "";have a:(gl n).length<=60:=oP 59 n nb;have M:1<=(gl n).length:=by
  have:=zw n;cases hh:gl n with
  | nil=>exact absurd hh this
  | cons _ _=>simp
 have t:(FS n).length=(gl n).length:=by rw[iI];rfl
 refine⟨FS n,rfl,by rw[t];exact aW a (by decide),?_⟩;rw[t,aj (by lia),ah (by lia)];refine⟨FS n,rfl,KQ n,λp u=>?_⟩;refine NF (λi f l j=>δ H j/\j p=some (.lst f)/\f=List.replicate i (V.bl true)/\∃v,l=[v]) ⟨δ.new _ u,au,rfl,_,rfl⟩ ?_ ?_
 .rintro i c f l j N hN hi ⟨s2,h2,rfl,v,rfl⟩;have hd:=rK n c (aP hi);have I:i<(gl n).length:=(ax.mp hi).1;walk_at "";refine⟨_,rfl,_,rfl,h2,d8 (by rw[b8];lia),?_⟩;rw[Sj hd];refine hN _ _ _ ⟨?_,au,?_,_,rfl⟩
  .exact λb o e=>by rw[aM (cC e u)];exact s2 _ _ e
  .rw[mS]
 .rintro f l j ⟨s2,h2,rfl,v,rfl⟩;refine⟨p,rfl,List.replicate _ true,by rw[hV];exact ι.of h2,?_⟩;rw[ah (by simp)];refine B _ _ ?_;walk_at "";by_cases q:V.str (FS n)=V.str (Str.ofString "0")
  .rw[aj q];exact k _ s2
  .rw[ah q];obtain⟨c,r,y,x⟩:=EY n (Nm q);refine ixS (i:=0) a (by rw[rP,y];rfl) ⟨rfl,?_⟩;rw[show decide (V.str ⟨#[c]⟩=V.str (Str.ofString "0"))=false from bM λz=>x (by injection z with z;exact(eV (show[c]=[48]from congrArg (λs:Str=>s.cps.toList) z)).1)];exact k _ s2
def ww(T:Txt K L):Sp:=λb H Q _=>∃(n:Nat)(i:Int),b=[.str (FS n),.int i]/\n<10^60/\∀a,δ H a->Q (.int n) a
abbrev sF:Stmt:=top 88
def Ep:ε ["word","at"] ["word","at"] (aA sF):=.of
def Er(T:Txt K L)(b:bI (τ P w))(c:Cb P w K L base "is_number" se ["word"] 1 (yM T)):Ok P w K L base "read_number" sF ["word","at"] 2 (ww T):=λ_ _ D=>by
 refine D.F.Ο Ep λm A a s H l Q E f h=>?_;obtain⟨n,i,rfl,nb,k⟩:=h;refine⟨_,(aw (bU (nG (lW (Θ c f b (aa (γ 0) ap)))) (ay kW) bE) (ay (aY (iO LZ T.int (aa (γ 0) ap))))),?_⟩;walk_at "t";have d:(gl n).length<=60:=oP 59 n nb;have g:(FS n).length=(gl n).length:=by rw[iI];rfl
 refine⟨n,rfl,nb,λj e=>⟨true,rfl,?_⟩⟩;rw[ah (by simp)];exact⟨FS n,rfl,n,PY n nb,by lia,k _ e⟩
def xJ(T:Txt K L):Sp:=λc H Q _=>E3 λ(l:Addr)(a:List Nat)(i:Int)=>c=[.ref l,.int a.length,.int i]/\H l=some (.lst ((a.map FS).map V.str))/\a.length<=100/\(∀n∈a,n<10^60)/\∀p b,H p=none->δ H b->b p=some (.lst (Yb a))->Q (.ref p) b
abbrev ue:Stmt:=top 87
def FL:ε ["words","many","at"] ["words","many","at"] (aA ue):=.of
def FR(T:Txt K L)(J:bI (τ P w))(r:Cb P w K L base "read_number" sF ["word","at"] 2 (ww T)):Ok P w K L base "read_words" ue ["words","many","at"] 3 (xJ T):=λ_ _ D=>by
 refine D.F.Ο FL λY A B s H X Q E R h=>?_;obtain⟨l,d,j,rfl,t,W,nb,k⟩:=h;refine⟨_,(aw (bU (Ν ph (TB gN T.len (aa (γ 0) ap)) (γ 1)) (ay kW) bE) (ay (aY (gG rfl (UT ["word","at"] 1 [2]) (iA (γ 0)) (λ_ _ _ _=>(d6 (i:=0) (show(["word","at"]:hU).Nodup from by decide +kernel) rfl (Or.inl rfl))) (λ_ _ _ _=>gu) (λ_ _ _ _=>(gD r.G (R.mono (by decide)) (by rfl) r.D.m r.D.F.kp r.D.b .nil (d7 J) (aa (pv 0) (aa (pv 1) ap)))))))),?_⟩;walk_at "t";have C:((d.map FS).map V.str).length=d.length:=by rw[ag,ag]
 refine⟨_,.inl (ι.of t),?_⟩;rw[ah (by rw[C];exact λz=>z rfl)];refine⟨⟨_,ι.of t⟩,λp y=>?_⟩;refine me (K:=K) (c:=true) (a:=l) (xs:=(d.map FS).map V.str) (λi f q g=>δ H g/\g p=some (.lst f)/\f=Yb (d.take i)/\∃v,q=[v,some (V.int j)]) ⟨δ.new _ y,au,by simp[Yb],_,rfl⟩ (λi f q g _ ⟨z,_⟩=>ι.of (z _ _ t)) ?_ ?_
 .rintro i x f q g N hN hi ⟨s5,h2,rfl,v,rfl⟩;obtain⟨z,O,rfl⟩:=List.μ hi;obtain⟨n,u,rfl⟩:=List.μ O;have M:d.take (i+1)=d.take i++[n]:=by rw[bg,u];rfl
  have U:i<d.length:=(ax.mp u).1;walk_at "";refine⟨n,j,rfl,nb n (aP u),λS I=>⟨I _ _ h2,d8 (by unfold Yb;rw[ag,bq];lia),hN _ _ _ ⟨?_,au,?_,_,rfl⟩⟩⟩
  .exact λb o e=>by rw[aM (cC e y)];exact I _ _ (s5 _ _ e)
  .rw[M];unfold Yb;rw[aq];rfl
 .rintro f q g ⟨s5,h2,rfl,v,rfl⟩;rw[C,bC]at h2;exact k p _ y s5 h2
def Hx(T:Txt K L):Sp:=λf H Q _=>E4 λ(a b:Addr)(d e:fc)=>f=[.ref a,.ref b]/\H a=some (.lst (d.map V.int))/\H b=some (.lst (e.map V.int))/\d.length<=1000/\∀l c,H l=none->δ H c->c l=some (.lst ((nA d e).map V.int))->Q (.ref l) c
abbrev zj:Stmt:=top 62
def OS:ε ["one","other"] ["one","other"] (aA zj):=.of
def HG:Ψ (aA zj) "zip":=.of
def Pj(T:Txt K L)(u:bI (τ P w)):Ok P w K L base "added" zj ["one","other"] 1 (Hx T):=λ_ _ D=>by
 refine D.F.Ο OS λS A t s H O Q E R h=>?_;obtain⟨a,b,xs,f,rfl,B,y,M,k⟩:=h;refine⟨_,(ay (aY (gG rfl (md (Nc:=["left","right"]) 2 (by decide +kernel) (by decide +kernel) rfl (by decide +kernel) rfl) (Gd true true HG.g T.zip (aa (γ 0) (aa (γ 1) ap))) (λ_ _ _ _=>(wo K rfl (n:=2) rfl (bQ (d6 (i:=0) (show(["left","right"]:hU).Nodup from by decide +kernel) rfl (Or.inl rfl)) (bQ (d6 (i:=1) (show(["left","right"]:hU).Nodup from by decide +kernel) rfl (Or.inl rfl)) fJ)))) (λ_ _ _ _=>gu) (λ_ _ _ _=>(aX gc (pv 0) (pv 1)))))),?_⟩;walk_at "t";refine⟨a,b,⟨rfl,rfl⟩,⟨_,ι.of B⟩,⟨_,ι.of y⟩,λp r=>?_⟩;refine BD (K:=K) (c:=true) (d:=true) (xs:=xs.map V.int) (zs:=f.map V.int) (λi l m j=>δ H j/\j p=some (.lst l)/\l=(((xs.zip f).take i).map λq=>q.1+q.2).map V.int/\∃v w,m=[v,w]) ⟨δ.new _ r,au,rfl,_,_,rfl⟩ (λi l m j z=>⟨ι.of (z.1 _ _ B),ι.of (z.1 _ _ y)⟩) ?_ ?_
 .rintro i x z l m j q N hN hx Yo ⟨s2,e2,rfl,v,w,rfl⟩ u;rw[aN]at hx Yo;obtain⟨x,G,rfl⟩:=ck.mp hx;obtain⟨z,I,rfl⟩:=ck.mp Yo;have C:=δ.new (.tup [V.int x,V.int z]) u;have J:=(ax.mp G).1;walk_at "";refine⟨_,Α.of au,rfl,_,_,rfl,_,_,rfl,rfl,?_⟩;walk_at "";refine⟨C _ _ e2,d8 (by simp;lia),hN _ _ _ ⟨(s2.trans C).put r _,au,?_,_,_,rfl⟩⟩;have o:(xs.zip f)[i]?=some (x,z):=by rw[iW];exact⟨G,I⟩
  rw[bg,o,aq,aq]
  rfl
 .rintro l m j ⟨s2,e2,rfl,v,w,rfl⟩;have e:(((xs.zip f).take (min (xs.map V.int).length (f.map V.int).length)).map λq=>q.1+q.2)=nA xs f:=by
   rw[bZ (by rw[iU,ag,ag];exact aJ _)];unfold nA;rw[List.zip,List.map_zipWith]
  rw[e]at e2;exact k p j r s2 e2
abbrev zu(P w base)(T:Txt K L):=Cb P w K L base "added" zj ["one","other"] 1 (Hx T)
def pC(p c b a:Addr):List (Str×V):=bp "idle" (.ref a) (bp "kids" (.ref b) (bp "needs" (.ref c) (bp "web" (.ref p) [])))
def vc(p c b a:Addr):(pC p c b a).lookup ("web":Str)=some (.ref p):=by
 unfold pC;rw[bR,ah (by decide +kernel),bR,ah (by decide +kernel),bR,ah (by decide +kernel),bR,aj rfl]
def vz(p a c b:Addr):(pC p a c b).lookup ("needs":Str)=some (.ref a):=by
 unfold pC;rw[bR,ah (by decide +kernel),bR,ah (by decide +kernel),bR,aj rfl]
def Cc(p c a b:Addr):(pC p c a b).lookup ("kids":Str)=some (.ref a):=by
 unfold pC;rw[bR,ah (by decide +kernel),bR,aj rfl]
def Cn(p c b a:Addr):(pC p c b a).lookup ("idle":Str)=some (.ref a):=by
 unfold pC;rw[bR,aj rfl]
structure Ϗ(C O:Addr)(H:Hp)(o p t:Addr)(m:Int)(ps:hH)(rs:ix)(r:Int)(par:fz)(dep:gn)(nd:fz)(na ka ia:Addr)(kl:hH)(bs:List V)(S:Int->Prop):Prop where
 ob:∃dx,H o=some (.ins O dx (pC p na ka ia))
 web:θ C H p m t ps rs
 rt:ζ m rs r par dep
 hn:H na=some (.lst (((b7 m.toNat).map nd).map V.int))
 hk:H ka=some (.lst (kl.map V.ref))
 kp:Paired (λa v=>H a=some (.lst ((kd m rs r par v).map V.int))) kl (b7 m.toNat)
 hi:H ia=some (.lst bs)
 done:∀c,S c->∃a,ϳ bs c=some (.ref a)/\H a=some (.lst ((BV m rs r par dep nd c).map V.int))
 cl:∀u,0<=u->u<m->S u->∀c∈kd m rs r par u,S c
def Ϗ.same{C O:Addr}{H j:Hp}{o p t:Addr}{m:Int}{i:hH}{d:ix}{r:Int}{par:fz}{b:gn}{nd:fz}{l f g:Addr}{k:hH}{bs:List V}{S:Int->Prop}(e:δ H j)(h:Ϗ C O H o p t m i d r par b nd l f g k bs S):Ϗ C O j o p t m i d r par b nd l f g k bs S where
 ob:=let ⟨dx,q⟩:=h.ob;⟨dx,e _ _ q⟩
 web:=h.web.same e
 rt:=h.rt
 hn:=e _ _ h.hn
 hk:=e _ _ h.hk
 kp:=Paired.imp' (λq v x=>e q _ x) h.kp
 hi:=e _ _ h.hi
 done:=λc n=>let ⟨a,h1,h2⟩:=h.done c n;⟨a,h1,e _ _ h2⟩
 cl:=h.cl
def Ϗ.kids{C O:Addr}{H:Hp}{o p t:Addr}{m:Int}{l:hH}{d:ix}{r:Int}{b:fz}{c:gn}{q:fz}{u i j:Addr}{f:hH}{s:List V}{S:Int->Prop}(h:Ϗ C O H o p t m l d r b c q u i j f s S){v:Int}(e:0<=v)(k:v<m):∃a,ϳ (f.map V.ref) v=some (.ref a)/\H a=some (.lst ((kd m d r b v).map V.int)):=by
 obtain⟨a,g,n⟩:=HC h.kp (Fq e k);exact⟨a,fR e (by rw[aN,g];rfl),n⟩
def S3{m:Int}{b:ix}(g:Good m b){r:Int}{a:fz}{v:Int}:(kd m b r a v).length<=24:=by
 have d:=bP (λu=>decide (V.int u≠front r a v)) (jM m b v);have c:=bP (λq=>decide (q∈gP b v)) (b7 m.toNat);rw[b6]at c;have:=g.Ζ;show((jM m b v).filter λu=>decide (V.int u≠front r a v)).length<=24;unfold jM at d ⊢
 lia
def ye(T:Txt K L):Sp:=λq H Q _=>E18 λ(o p t:Addr)(m:Int)(j:hH)(d:ix)(r:Int)(a:fz)(b:gn)(f:fz)(s g h:Addr)(k:hH)(n:List V)(S:Int->Prop)(v:Int)(x:V)=>q=[.ref o,.int v,x]/\Ϗ T.Web T.Outlook H o p t m j d r a b f s g h k n S/\(0<=v/\v<m)/\(x=.ο\/∃i,x=.int i)/\(∀c∈kd m d r a v,S c)/\∀l e,H l=none->δ H e->e l=some (.lst ((By m d r a (BV m d r a b f) v x).map V.int))->Q (.ref l) e
abbrev vG:Stmt:=top 61
def G0:ε ["outlook","place","left_out","load","kid"] ["outlook","place","left_out"] (aA vG):=.of
def Gh(T:Txt K L)(hq:bI (τ P w))(kM:zu P w base T):Ok P w K L base "idle_kids" vG ["outlook","place","left_out"] 2 (ye T):=λ_ _ D=>by
 refine D.F.Ο G0 λξ A U s H vs Q E hr h=>?_;obtain⟨o,p,t,m,ps,b,r,a,e,Z,na,ka,ia,kl,bs,S,v,x,rfl,O,C,hx,hS,k⟩:=h;have g:=O.web.go;have R:=O.rt;have Ζ:=g.Ζ;obtain⟨M,ob⟩:=O.ob;obtain⟨dw,wb⟩:=O.web.ob;refine⟨_,(aw (Κ 3 (aX oU (eL (aa aD ap)) (cq (cq (γ 0) rfl) rfl))) (aw (gf PassesOwn.never rfl (iA (ψ bu (cq (γ 0) rfl) (γ 1))) (ϊ 4) (ay (bU (Ν ph (γ 4) (γ 2)) (ay (Κ 3 (Θ kM hr hq (aa (γ 3) (aa (ψ bu (cq (γ 0) rfl) (γ 4)) ap))))) bE))) (ay (aY (γ 3))))),?_⟩;walk_at "t";refine⟨by decide,λW n1=>?_⟩;have u:=δ.new (.lst [V.int 0]) n1;refine⟨T.Outlook,M,_,u _ _ ob,T.υ,T.Υ,_,vc _ _ _ _,p,rfl,?_⟩;refine⟨T.Web,dw,_,u _ _ wb,T.Ε,T.Λ,_,eP _ _,?_⟩;refine⟨W,m,[V.int 0],rfl,rfl,au,by lia,by lia,bX (by simp;lia),λj Y=>?_⟩;rw[rp,<-Ed];have f:=u.trans (δ.new (.lst ((aC m).map V.int)) Y);have WD:H j=none:=u.free Y;have e2:upd (upd H W (.lst [V.int 0])) j (.lst ((aC m).map V.int)) j=some (.lst ((aC m).map V.int)):=au;generalize upd (upd H W (.lst [V.int 0])) j (.lst ((aC m).map V.int))=H2 at f e2 ⊢;obtain⟨ak,J,n⟩:=O.kids C.1 C.2;refine⟨T.Outlook,M,_,f _ _ ob,T.υ,T.ϝ,_,Cc _ _ _ _,Γ (f _ _ O.hk) J ⟨ak,rfl,⟨_,ι.of (f _ _ n)⟩,?_⟩⟩;have kr:∀c∈kd m b r a v,0<=c/\c<m:=λc I=>((dg g R C.1 C.2).mp I).1;refine jL (K:=K) (xs:=(kd m b r a v).map V.int) (λi B d=>δ H d/\∃(l:Addr)(X:Option V),H l=none/\d l=some (.lst ((wT m ((((kd m b r a v).take i).filter λk=>decide (V.int k≠x)).map (BV m b r a e Z))).map V.int))/\B=[some (V.ref o),some (V.int v),some x,some (V.ref l),X]) ⟨f,j,_,WD,e2,rfl⟩ (λi B d _ z=>ι.of (z.1 _ _ n)) ?_ ?_
 .rintro i y B d N BB ϒ hN G ⟨s3,l,X,nl,el,rfl⟩;refine ϒ _ _ ?_;rw[aN]at G;obtain⟨c,I,rfl⟩:=ck.mp G;have cm:c∈kd m b r a v:=aP I;have et:(kd m b r a v).take (i+1)=(kd m b r a v).take i++[c]:=by rw[bg,I];rfl
  walk_at "";have sc:uo (V.int c) x=true:=by
   rcases hx with rfl|⟨i,rfl⟩<;>rfl
  refine⟨sc,?_⟩;by_cases q:V.int c=x
  .rw[ah (λz=>z q)];refine hN _ _ ⟨s3,l,_,nl,?_,rfl⟩;rw[et,cw]
   simpa[q]using el
  .rw[aj q];obtain⟨ai,h1,h2⟩:=O.done c (hS c cm);refine⟨T.Outlook,M,_,s3 _ _ ob,T.υ,T.Vd,_,Cn _ _ _ _,Γ (s3 _ _ O.hi) h1 ?_⟩;have ll:(wT m ((((kd m b r a v).take i).filter λk=>decide (V.int k≠x)).map (BV m b r a e Z))).length=m.toNat:=yw _ _ (zo m) λy G=>by
    obtain⟨k,hk,rfl⟩:=aZ.mp G;have:=kr k (mW (b9.mp hk).1);exact Jm g R this.1 this.2
   refine⟨l,ai,_,_,rfl,el,s3 _ _ h2,by lia,λl4 H4 n4 s4 e4=>hN _ _ ⟨s3.trans s4,l4,_,s3.free n4,?_,rfl⟩⟩;rw[et,cw,dD (by simpa using q),fI,aq,aF,cG,Lp];exact e4
 .rintro BB B d ϒ ⟨s3,l,X,nl,el,rfl⟩;refine ϒ _ _ ?_;rw[ag,bC]at el;walk_at "";exact k l d nl s3 el
abbrev rY(P w base)(T:Txt K L):=Cb P w K L base "idle_kids" vG ["outlook","place","left_out"] 2 (ye T)
def Ie(T:Txt K L):Sp:=λb H Q _=>∃(p:Addr)(a:fc),b=[.ref p]/\(ι K H p (a.map V.int)\/Α K H p (a.map V.int))/\Q (.int a.sum) H
abbrev D6:Stmt:=top 28
def OX:ε ["numbers"] ["numbers"] (aA D6):=.of
def Pr(T:Txt K L)(d:bI (τ P w)):Ok P w K L base "total" D6 ["numbers"] 1 (Ie T):=λ_ _ D=>by
 refine D.F.Ο OX λg A a s H e Q E f h=>?_;obtain⟨p,b,rfl,c,k⟩:=h;refine⟨_,(ay (aY (TB (BK rfl) T.sum (aa (γ 0) ap)))),?_⟩;walk_at "t";exact⟨b,c,k⟩
abbrev zm(P w base)(T:Txt K L):=Cb P w K L base "total" D6 ["numbers"] 1 (Ie T)
def pJ(T:Txt K L):Nat->Sp
 | 0=>λ_ _ _ _=>False
 | n+1=>λq H Q _=>E18 λ(o p t:Addr)(m:Int)(i:hH)(d:ix)(r:Int)(a:fz)(b:gn)(f:fz)(s g h:Addr)(j:hH)(k:List V)(S:Int->Prop)(v y:Int)=>q=[.ref o,.int v,.int y]/\Ϗ T.Web T.Outlook H o p t m i d r a b f s g h j k S/\(0<=v/\v<m)/\m.toNat<=b v+1+n/\(∀c∈kd m d r a v,S c)/\∀l e,H l=none->δ H e->e l=some (.lst ((Tp m d r a b f v y).map V.int))->Q (.ref l) e
def qc(T:Txt K L):Sp:=pJ T 25
def IL(T:Txt K L):Nat->Sp
 | 0=>λ_ _ _ _=>False
 | n+1=>λq H Q _=>E19 λ(o p t:Addr)(m:Int)(i:hH)(d:ix)(r:Int)(a:fz)(b:gn)(e:fz)(s g h:Addr)(j:hH)(k:List V)(S:Int->Prop)(v c y:Int)=>q=[.ref o,.int v,.int c,.int y]/\Ϗ T.Web T.Outlook H o p t m i d r a b e s g h j k S/\(0<=v/\v<m)/\c∈kd m d r a v/\m.toNat<=b c+1+n/\(∀c∈kd m d r a v,S c)/\∀l f,H l=none->δ H f->f l=some (.lst ((Xz m d r a e (BV m d r a b e) (Tp m d r a b e) v y c).map V.int))->Q (.ref l) f
abbrev dy:Stmt:=top 63
def ua:ε ["outlook","place","over","room","best","kid","load"] ["outlook","place","over"] (aA dy):=.of
def F6:Ue (aA dy) "outlook":=.of (by kernel_rfl)
def Iw:Ue (aA dy) "place":=.of (by kernel_rfl)
def Jx:Ue (aA dy) "over":=.of (by kernel_rfl)
def Jv:Ue (aA dy) "room":=.of (by kernel_rfl)
def JY:Ue (aA dy) "best":=.of (by kernel_rfl)
def LI:Ue (aA dy) "kid":=.of (by kernel_rfl)
def Jy:Ue (aA dy) "load":=.of (by kernel_rfl)
def nI:Ψ (aA dy) "idle_kids":=.of
def o0:Ψ (aA dy) "load_by":=.of
def jD:Ψ (aA dy) "total":=.of
abbrev lS:Stmt:=top 64
def KP:ε ["outlook","place","kid","room","given","over"] ["outlook","place","kid","room"] (aA lS):=.of
def oC:Ψ (aA lS) "toll":=.of
def ug:Ψ (aA lS) "added":=.of
def oV:Ψ (aA lS) "greatest_load":=.of
def qP:Ψ (aA lS) "idle_kids":=.of
def Jb(T:Txt K L)(u:bI (τ P w)){f:Addr}{fd:FuncData}(D:Df K L "load_by" lS ["outlook","place","kid","room"] f fd)(M:zu P w base T)(J:rY P w base T)(j:mP P w base T){iK:Addr}{ie:FuncData}(eT:Df K L "greatest_load" dy ["outlook","place","over"] iK ie){n N:Nat}(hN:3<=N)(gw:ϋ P w K L base (τ P w) N iK ie ["outlook","place","over"] (pJ T n)):ϋ P w K L base (τ P w) (N+1) f fd ["outlook","place","kid","room"] (IL T n):=by
 refine D.F.Ο KP (λξ A ad s H vs Q E x h=>?_) (λvs H Q E h=>?_)
 rotate_left
 .cases n with
  | zero=>exact h.elim
  | succ n=>
  obtain⟨o,p,t,m,B,q,r,e,l,I,na,Z,ia,kl,V,S,v,c,y,rfl,_⟩:=h
  rfl
 .cases n with
  | zero=>exact h.elim
  | succ n=>
  obtain⟨o,p,t,m,B,q,r,e,l,I,na,Z,ia,kl,V,S,v,c,y,rfl,O,C,cm,fu,hS,k⟩:=h;have g:=O.web.go;have R:=O.rt;have Ζ:=g.Ζ;obtain⟨Y,ob⟩:=O.ob;obtain⟨⟨a,cn,cp⟩,_,_⟩:=mL g R C.1 C.2 cm;obtain⟨k1,i,a0,a1⟩:=tJ g R a.1 a.2 cn;obtain⟨k2,U,b0,b1⟩:=jw g R a.1 a.2 cn;have e1:Wr q e c=k1:=by unfold Wr;rw[i];rfl
  have e2:Vo q e c=k2:=by unfold Vo;rw[U];rfl
  rw[cp]at i U;refine⟨_,(aw (Κ 4 (aX jt (γ 3) (aX ke (ψ bu (cq (γ 0) rfl) (γ 2)) (gD j.G (x.mono (by lia)) oC.g j.D.m j.D.F.kp j.D.b .nil (d7 u) (aa (cq (γ 0) rfl) (aa (γ 1) (aa (γ 2) ap))) (hdb:=oC.d))))) (aw (Κ 5 (aX jt (aX ke (gD j.G (x.mono (by lia)) oC.g j.D.m j.D.F.kp j.D.b .nil (d7 u) (aa (cq (γ 0) rfl) (aa (γ 2) (aa (γ 1) ap))) (hdb:=oC.d)) (aX gc (γ 4) aD)) aD)) (ay (aY (gD M.G (x.mono (by lia)) ug.g M.D.m M.D.F.kp M.D.b .nil (d7 u) (aa (gD gw (x.mono (by lia)) oV.g eT.m eT.F.kp eT.b .nil (d7 u) (aa (γ 0) (aa (γ 2) (aa (γ 5) ap))) (hdb:=oV.d)) (aa (gD J.G (x.mono (by lia)) qP.g J.D.m J.D.F.kp J.D.b .nil (d7 u) (aa (γ 0) (aa (γ 1) (aa (γ 2) ap))) (hdb:=qP.d)) ap)) (hdb:=ug.d)))))),?_⟩;walk_at "t";refine⟨T.Outlook,Y,_,ob,T.υ,T.zQ,_,vz _ _ _ _,Γ O.hn (DQ I a.1 a.2) ?_⟩;have W:=O.web;refine⟨T.Outlook,Y,_,ob,T.υ,T.Υ,_,vc _ _ _ _,?_⟩;refine⟨p,t,m,B,q,v,c,rfl,W,λk' _ _ _ _ h=>?_,λz=>absurd ⟨C,a⟩ z,λ_ _ _ _ z=>by rw[i]at z;cases z⟩;rw[i]at h;cases h;refine⟨_,rfl,_,rfl,.inr ⟨by lia,by lia⟩,?_⟩;refine⟨T.Outlook,Y,_,ob,T.υ,T.Υ,_,vc _ _ _ _,?_⟩;refine⟨p,t,m,B,q,c,v,rfl,W,λk' _ _ _ _ h=>?_,λz=>absurd ⟨a,C⟩ z,λ_ _ _ _ z=>by rw[U]at z;cases z⟩;rw[U]at h;cases h;refine⟨_,rfl,.inl ⟨by lia,by lia⟩,?_⟩;refine⟨o,p,t,m,B,q,r,e,l,I,na,Z,ia,kl,V,S,c,_,rfl,O,a,fu,λd hd=>O.cl c a.1 a.2 (hS c cm) d hd,λl1 H1 n1 X h1=>?_⟩;refine⟨o,p,t,m,B,q,r,e,l,I,na,Z,ia,kl,V,S,v,_,rfl,O.same X,C,.inr ⟨_,rfl⟩,hS,λl2 H2 n2 s2 h2=>?_⟩;refine⟨l1,l2,_,_,rfl,s2 _ _ h1,h2,by rw[JN g R a.1 a.2];lia,λl3 H3 n3 s3 h3=>?_⟩;refine k l3 H3 (X.free (s2.free n3)) (X.trans (s2.trans s3)) ?_;unfold Xz;rw[e1,e2];exact h3
def zW(T:Txt K L)(J:bI (τ P w)){f:Addr}{fd:FuncData}(D:Df K L "greatest_load" dy ["outlook","place","over"] f fd){yL:Addr}{xh:FuncData}(mX:Df K L "load_by" lS ["outlook","place","kid","room"] yL xh)(kM:zu P w base T)(W:rY P w base T)(di:mP P w base T)(B:zm P w base T):∀n:Nat,ϋ P w K L base (τ P w) (2*n+4) f fd ["outlook","place","over"] (pJ T n):=by
 intro n;have eT:=D
 induction n with
 | zero=>exact D.F.Ο ua (λξ A C s H vs Q E M h=>h.elim) (λvs H Q E h=>h.elim)
 | succ n gw=>
 have MQ:=Jb T J mX kM W di eT (by lia) gw;refine D.F.Ο ua λξ A C s H vs Q E M h=>?_;obtain⟨o,p,t,m,ps,j,r,a,e,u,na,ka,ia,kl,bs,S,v,y,rfl,O,x,fu,hS,k⟩:=h;have g:=O.web.go;have R:=O.rt;have Ζ:=g.Ζ;obtain⟨dx,ob⟩:=O.ob;refine⟨_,(aw (Κ 3 (aX gc (ψ bu (cq (γ 0) rfl) (γ 1)) (γ 2))) (aw (Κ 4 (gD W.G (M.mono (by lia)) nI.g W.D.m W.D.F.kp W.D.b .nil (d7 J) (aa (γ 0) (aa (γ 1) (aa qy ap))) (hdb:=nI.d))) (aw (q8 (γ 4) (γ 1) qb (γ 3) sB gJ) (aw (gf PassesOwn.never rfl (iA (ψ bu (cq (γ 0) rfl) (γ 1))) (ϊ 5) (aw (Κ 6 (gD MQ (M.mono (by lia)) o0.g mX.m mX.F.kp mX.b .nil (d7 J) (aa (γ 0) (aa (γ 1) (aa (γ 5) (aa (γ 3) ap)))) (hdb:=o0.d))) (ay (bU (Ν wP (gD B.G (M.mono (by lia)) jD.g B.D.m B.D.F.kp B.D.b .nil (d7 J) (aa (γ 6) ap) (hdb:=jD.d)) (gD B.G (M.mono (by lia)) jD.g B.D.m B.D.F.kp B.D.b .nil (d7 J) (aa (γ 4) ap) (hdb:=jD.d))) (ay (Κ 4 (γ 6))) bE)))) (ay (aY (γ 4))))))),?_⟩;walk_at "t";refine⟨T.Outlook,dx,_,ob,T.υ,T.zQ,_,vz _ _ _ _,Γ O.hn (DQ u x.1 x.2) ⟨_,rfl,?_⟩⟩;refine⟨o,p,t,m,ps,j,r,a,e,u,na,ka,ia,kl,bs,S,v,_,rfl,O,x,.inl rfl,hS,λl1 H1 n1 s1 h1=>?_⟩;have bV:(By m j r a (BV m j r a e u) v V.ο).length=m.toNat:=zh λk hk=>by
  have w:=mL g R x.1 x.2 hk;exact Jm g R w.1.1.1 w.1.1.2
 refine Γ h1 (Ϲ x.1 (by lia)) ⟨_,rfl,om h1 x.1 (by rw[ag];lia) ?_⟩;have U:=s1.put n1 (.lst (((By m j r a (BV m j r a e u) v V.ο).map V.int).set v.toNat (V.int ((By m j r a (BV m j r a e u) v V.ο).getD v.toNat 0+(u v+y)))));have h2:upd H1 l1 (.lst (((By m j r a (BV m j r a e u) v V.ο).map V.int).set v.toNat (V.int ((By m j r a (BV m j r a e u) v V.ο).getD v.toNat 0+(u v+y))))) l1=some (.lst ((vA (By m j r a (BV m j r a e u) v V.ο) v (u v+y)).map V.int)):=by
  rw[au];unfold vA;rw[cT]
 generalize upd H1 l1 (.lst (((By m j r a (BV m j r a e u) v V.ο).map V.int).set v.toNat (V.int ((By m j r a (BV m j r a e u) v V.ο).getD v.toNat 0+(u v+y)))))=H2 at U h2 ⊢;obtain⟨ak,ad,X⟩:=O.kids x.1 x.2;refine⟨T.Outlook,dx,_,U _ _ ob,T.υ,T.ϝ,_,Cc _ _ _ _,Γ (U _ _ O.hk) ad ⟨ak,rfl,⟨_,ι.of (U _ _ X)⟩,?_⟩⟩;refine jL (K:=K) (xs:=(kd m j r a v).map V.int) (λi Z I=>δ H I/\E3 λ(l:Addr)(v5 v6:Option V)=>H l=none/\I l=some (.lst (((((kd m j r a v).take i).map (Xz m j r a u (BV m j r a e u) (Tp m j r a e u) v (u v+y))).foldl rg (vA (By m j r a (BV m j r a e u) v .ο) v (u v+y))).map V.int))/\Z=[some (V.ref o),some (V.int v),some (V.int y),some (V.int (u v+y)),some (V.ref l),v5,v6]) ⟨U,l1,_,_,n1,h2,rfl⟩ (λi Z I _ z=>ι.of (z.1 _ _ X)) ?_ ?_
 .rintro i y' Z I N BB ϒ hN hy ⟨s3,l,v5,v6,nl,el,rfl⟩;refine ϒ _ _ ?_;rw[aN]at hy;obtain⟨c,hc,rfl⟩:=ck.mp hy;have cm:c∈kd m j r a v:=aP hc;have et:(kd m j r a v).take (i+1)=(kd m j r a v).take i++[c]:=by rw[bg,hc];rfl
  have w:=mL g R x.1 x.2 cm;obtain⟨n',rfl⟩:∃n',n=n'+1:=⟨n-1,by lia⟩;walk_at "";refine⟨o,p,t,m,ps,j,r,a,e,u,na,ka,ia,kl,bs,S,v,c,_,rfl,O.same s3,x,cm,by lia,hS,λl4 H4 n4 Y h4=>?_⟩;refine⟨l4,_,rfl,.inl (ι.of h4),l,_,rfl,.inl (ι.of (Y _ _ el)),?_⟩;refine⟨_,rfl,_,rfl,?_⟩;have ef:(((kd m j r a v).take (i+1)).map (Xz m j r a u (BV m j r a e u) (Tp m j r a e u) v (u v+y))).foldl rg (vA (By m j r a (BV m j r a e u) v .ο) v (u v+y))=rg ((((kd m j r a v).take i).map (Xz m j r a u (BV m j r a e u) (Tp m j r a e u) v (u v+y))).foldl rg (vA (By m j r a (BV m j r a e u) v .ο) v (u v+y))) (Xz m j r a u (BV m j r a e u) (Tp m j r a e u) v (u v+y) c):=by
   rw[et,aq,lD]
   rfl
  split
  .rename_i q
   refine hN _ _ ⟨s3.trans Y,l4,_,_,s3.free n4,?_,rfl⟩;rw[ef,Nw q];exact h4
  .rename_i q
   refine hN _ _ ⟨s3.trans Y,l,_,_,nl,?_,rfl⟩;rw[ef,ML q];exact Y _ _ el
 .rintro BB Z I ϒ ⟨s3,l,v5,v6,nl,el,rfl⟩;refine ϒ _ _ ?_;rw[ag,bC]at el;walk_at "";refine k l I nl s3 ?_;rw[BG g R x.1 x.2];exact el
def Bg(T:Txt K L)(c:bI (τ P w)){f:Addr}{a:FuncData}(D:Df K L "greatest_load" dy ["outlook","place","over"] f a){i:Addr}{d:FuncData}(e:Df K L "load_by" lS ["outlook","place","kid","room"] i d)(g:zu P w base T)(j:rY P w base T)(h:mP P w base T)(b:zm P w base T):ϋ P w K L base (τ P w) 54 f a ["outlook","place","over"] (qc T):=zW T c D e g j h b 25
def yK(T:Txt K L):Sp:=λn H Q _=>E17 λ(o p t:Addr)(m:Int)(i:hH)(d:ix)(r:Int)(a:fz)(b:gn)(f:fz)(q g h:Addr)(j:hH)(k:List V)(S:Int->Prop)(v:Int)=>n=[.ref o,.int v,.int (a v)]/\Ϗ T.Web T.Outlook H o p t m i d r a b f q g h j k S/\(0<=v/\v<m)/\v≠r/\(∀c∈kd m d r a v,S c)/\∀l e,H l=none->δ H e->e l=some (.lst ((BV m d r a b f v).map V.int))->Q (.ref l) e
abbrev vO:Stmt:=top 60
def Gw:ε ["outlook","place","front"] ["outlook","place","front"] (aA vO):=.of
def G4(T:Txt K L)(i:bI (τ P w)){J:Addr}{y:FuncData}(eT:Df K L "greatest_load" dy ["outlook","place","over"] J y)(Y:ϋ P w K L base (τ P w) 54 J y ["outlook","place","over"] (qc T))(X:rY P w base T)(V:mP P w base T):Ok P w K L base "idle_load" vO ["outlook","place","front"] 55 (yK T):=λ_ _ D=>by
 refine D.F.Ο Gw λξ A n s H vs Q E q h=>?_;obtain⟨o,p,t,m,j,e,r,b,d,f,U,B,C,I,M,S,v,rfl,O,a,G,x,k⟩:=h;have g:=O.web.go;have R:=O.rt;have Ζ:=g.Ζ;have W:=O.web;obtain⟨N,ob⟩:=O.ob;obtain⟨Z,l,b0,b1⟩:=jw g R a.1 a.2 G;have e2:Vo e b v=Z:=by unfold Vo;rw[l];rfl
 have u:=R.up v a.1 a.2 G;rw[Ht g R a.1 a.2]at k;refine⟨_,(aw (bU (Ν wP (ψ bu (cq (γ 0) rfl) (γ 1)) aD) (ay (aY (Θ X q i (aa (γ 0) (aa (γ 1) (aa qy ap)))))) bE) (ay (aY (pcq eT Y q i (aa (γ 0) (aa (γ 1) (aa (aX jt (Θ V q i (aa (cq (γ 0) rfl) (aa (γ 1) (aa (γ 2) ap)))) aD) ap))))))),?_⟩;walk_at "t";refine⟨T.Outlook,N,_,ob,T.υ,T.zQ,_,vz _ _ _ _,Γ O.hn (DQ f a.1 a.2) ⟨_,rfl,?_⟩⟩;by_cases c:0<f v
 .rw[aj c]at k ⊢;exact⟨o,p,t,m,j,e,r,b,d,f,U,B,C,I,M,S,v,_,rfl,O,a,.inl rfl,x,k⟩
 .rw[ah c]at k ⊢;refine⟨T.Outlook,N,_,ob,T.υ,T.Υ,_,vc _ _ _ _,?_⟩;refine⟨p,t,m,j,e,v,b v,rfl,W,λk' _ _ _ _ h=>?_,λz=>absurd ⟨a,u.1⟩ z,λ_ _ _ _ z=>by rw[l]at z;cases z⟩;rw[l]at h;cases h;refine⟨_,rfl,?_⟩;refine⟨o,p,t,m,j,e,r,b,d,f,U,B,C,I,M,S,v,_,rfl,O,a,by show m.toNat<=d v+1+24;lia,x,?_⟩;rw[<-e2];exact k
def GB(T:Txt K L):Sp:=λi H Q E=>E9 λ(p a t:Addr)(c:Bool)(m:Int)(h:hH)(g:ix)(e:fc)(r:Int)=>i=[.ref p,.ref a,.int r]/\θ T.Web H p m t h g/\Ω K c H a (e.map V.int)/\e.length<=1000/\(bA m e=true->0<=r->r<m->∃d f,ζ m g r d f/\∀l b,H l=none->δ H b->b l=some (.lst ((oX m g r d f (λv=>e.getD v.toNat 0) (X8 g d)).map V.int))->Q (.ref l) b)/\(bA m e=false->∀b,δ H b->E (.ref T.BadWish) none b)/\(bA m e=true->¬(0<=r/\r<m)->∀b,δ H b->E (.ref T.NoPlace) none b)
abbrev DH:Stmt:=top 54
def ND:ε ["web","wish","r","found","place","front"] ["web","wish","r"] (aA DH):=.of
def Ps(T:Txt K L)(hq:bI (τ P w))(dj:lf P w base T)(di:mP P w base T)(jd:uU P w base T):Ok P w K L base "needs" DH ["web","wish","r"] 8 (GB T):=λ_ _ D=>by
 refine D.F.Ϻ ND λξ A Z s H vs Q E U h=>?_;obtain⟨p,a,t,c,m,Y,o,xs,r,rfl,W,ha,hz,k,e,e'⟩:=h;have g:=W.go;have Ζ:=g.Ζ;refine⟨_,(aw (Κ 3 (iO jP T.list (aa (Ξ jd U bT (aa (γ 0) (aa (γ 1) ap))) ap))) (aw (gf PassesOwn.leaving rfl (iA (Ξ dj U bT (aa (γ 0) (aa (γ 2) ap)))) (iC (n:=2) rfl (bQ (ϊ 4) (bQ (ϊ 5) fJ))) (ay (q8 (γ 3) (γ 5) qb (aX ke (ψ bu (γ 3) (γ 4)) (Ξ di U bT (aa (γ 0) (aa (γ 5) (aa (γ 4) ap))))) sB gJ))) (ay (aY (γ 3))))),?_⟩;walk_at "t";refine⟨p,a,t,c,m,Y,o,xs,?_⟩;refine an6 rfl W ha hz (λB l0 H0 s0 _ e0=>?_) e;have xl:(xs.length:Int)=m:=by
  unfold bA at B;rw[bG]at B;exact bB B.1
 refine⟨l0,rfl,_,.inr e0,λl n1=>?_⟩;have s1:=δ.new (.lst (xs.map V.int)) n1;have J:=s0.trans s1;have nl:=s0.free n1;have X:upd H0 l (.lst (xs.map V.int)) l=some (.lst (xs.map V.int)):=au;generalize upd H0 l (.lst (xs.map V.int))=H1 at s1 J X ⊢;refine⟨p,t,m,Y,o,r,?_⟩;refine Vl rfl (W.same J) (λr0 r1=>?_) (λz=>e' B z H1 J);obtain⟨d,y,R,k⟩:=k B r0 r1;refine⟨d,y,R,λl2 M G H2 _ n2 s2 e2 pa O=>?_⟩;have VP:l2≠l:=λz=>by rw[z,X]at n2;cases n2
 refine⟨l2,rfl,⟨_,ι.of e2⟩,?_⟩;have ql:M.length=G.reverse.length:=Paired.length pa;refine jL (K:=K) (xs:=M.map V.ref) (λi I f=>δ H f/\f l2=some (.lst (M.map V.ref))/\ω f d M G.reverse/\E3 λ(C:fc)(v4 v5:Option V)=>f l=some (.lst (C.map V.int))/\ϖ m o r d y (λv=>xs.getD v.toNat 0) (X8 o d) (G.drop (G.length-i)) C/\I=[some (V.ref p),some (V.ref a),some (V.int r),some (V.ref l),v4,v5]) ⟨J.trans s2,e2,pa,xs,_,_,s2 _ _ X,by rw[gh,fh];exact ϖ.nil xl,rfl⟩ (λi I f _ z=>ι.of z.2.1) ?_ ?_
 .rintro i x I f N BB ϒ hN hx ⟨s3,e3,UX,C,v4,v5,c3,so,rfl⟩;refine ϒ _ _ ?_;obtain⟨q,v,rfl,hq,hv,eq⟩:=UX.get hx;obtain⟨⟨j,vn⟩,ev,Zj⟩:=O.turn g R so hv;have u:=R.up v j.1 j.2 vn;obtain⟨kk,S,k0,k1⟩:=tJ g R j.1 j.2 vn;have cl:=so.len;walk_at "";refine⟨_,Α.of eq,rfl,_,_,rfl,_,_,rfl,rfl,?_⟩;refine Γ c3 (Ϲ u.1.1 (by lia)) (Γ c3 (Ϲ j.1 (by lia)) ?_);refine⟨p,t,m,Y,o,d v,v,rfl,W.same s3,λk' _ _ _ _ h=>?_,λz=>absurd ⟨u.1,j⟩ z,λ_ _ _ _ z=>by rw[S]at z;cases z⟩;rw[S]at h;cases h;refine⟨_,rfl,_,rfl,.inr ⟨by lia,by lia⟩,_,rfl,om c3 u.1.1 (by rw[ag];lia) (hN _ _ ⟨s3.put nl _,?_,?_,rZ d (X8 o d) C v,_,_,?_,Zj,rfl⟩)⟩
  .rw[aM VP];exact e3
  .exact Paired.imp' (λa b h=>by rw[aM (cZ h c3 (by nofun))];exact h) UX
  .rw[au,<-cT];unfold rZ X8;rw[S]
   rfl
 .rintro BB I f ϒ ⟨s3,e3,UX,C,v4,v5,c3,so,rfl⟩;refine ϒ _ _ ?_;rw[ag,ql,aQ,dW,ir]at so;rw[O.done g R so]at c3;walk_at "";exact k l f nl s3 c3
def Ϗ.put{C O:Addr}{H:Hp}{o p t:Addr}{m:Int}{z:hH}{g:ix}{r:Int}{par:fz}{d:gn}{nd:fz}{y i b:Addr}{j:hH}{bs:List V}{S:Int->Prop}(h:Ϗ C O H o p t m z g r par d nd y i b j bs S)(k:y≠b)(n:i≠b)(I:∀q∈j,q≠b)(hd:∀c,S c->0<=c/\∀a,ϳ bs c=some (.ref a)->a≠b)(bl:bs.length=m.toNat){v:Int}(v0:0<=v)(v1:v<m)(F:∀c∈kd m g r par v,S c){l:Addr}(hl:H l=some (.lst ((BV m g r par d nd v).map V.int)))(nl:l≠b):Ϗ C O (upd H b (.lst (bs.set v.toNat (.ref l)))) o p t m z g r par d nd y i b j (bs.set v.toNat (.ref l)) (λc=>c=v\/S c) where
 ob:=by
  obtain⟨s,q⟩:=h.ob;exact⟨s,by rw[aM (cZ q h.hi (by nofun))];exact q⟩
 web:=by
  have W:=h.web;refine⟨?_,?_,?_,W.go⟩
  .obtain⟨s,q⟩:=W.ob;exact⟨s,by rw[aM (cZ q h.hi (by nofun))];exact q⟩
  .rw[aM (cZ W.tu h.hi (by nofun))];exact W.tu
  .exact Paired.imp' (λq x e=>by rw[aM (cZ e h.hi (by nofun))];exact e) W.ro
 rt:=h.rt
 hn:=by rw[aM k];exact h.hn
 hk:=by rw[aM n];exact h.hk
 kp:=vV (λq x D e=>by rw[aM (I q D)];exact e) h.kp
 hi:=au
 done:=λc f=>by
  by_cases e:c=v
  .subst e;refine⟨l,fR v0 ?_,by rw[aM nl];exact hl⟩;rw[cY (by lia)]
  .have f:=f.resolve_left e;obtain⟨a,B,E⟩:=h.done c f;obtain⟨A,G⟩:=hd c f;refine⟨a,fR A ?_,by rw[aM (G a B)];exact E⟩;rw[cz (by lia)];exact(x9 A).symm.trans B
 cl:=λu u0 u1 hu c f=>by
  rcases hu with rfl|hu
  .exact .inr (F c f)
  .exact .inr (h.cl u u0 u1 hu c f)
def Ϗ.sub{C O:Addr}{H:Hp}{o p t:Addr}{m:Int}{j:hH}{e:ix}{r:Int}{a:fz}{b:gn}{l:fz}{q g i:Addr}{k:hH}{n:List V}{S:Int->Prop}{d:Int->Prop}(h:Ϗ C O H o p t m j e r a b l q g i k n S)(f:∀c,d c->S c)(v:∀u,0<=u->u<m->d u->∀c∈kd m e r a u,d c):Ϗ C O H o p t m j e r a b l q g i k n d:=⟨h.ob,h.web,h.rt,h.hn,h.hk,h.kp,h.hi,λc s=>h.done c (f c s),v⟩
def θ.UW{C O:Addr}{H d:Hp}{o p:Addr}{m:Int}{t b:Addr}{c:hH}{f:ix}(e:Ϙ o H d)(a:H o=some (.ins O b []))(h:θ C H p m t c f):θ C d p m t c f:=⟨let ⟨b,q⟩:=h.ob;⟨b,e _ _ q (cZ q a (by nofun))⟩,e _ _ h.tu (cZ h.tu a (by nofun)),Paired.imp' (λq x z=>e _ _ z (cZ z a (by nofun))) h.ro,h.go⟩
def qW(T:Txt K L):Sp:=λq H Q _=>WZ λ(o s p a t:Addr)(c:Bool)(m:Int)(i:hH)(f:ix)(g:fc)(r:Int)=>q=[.ref o,.ref p,.ref a,.int r]/\H o=some (.ins T.Outlook s [])/\θ T.Web H p m t i f/\Ω K c H a (g.map V.int)/\bA m g=true/\(0<=r/\r<m)/\∃d e,ζ m f r d e/\∀u j k l n h,Ϗ T.Web T.Outlook h o p t m i f r d e (Ϟ m f r d e (λv=>g.getD v.toNat 0) (X8 f d)) u j k l n (λv=>(0<=v/\v<m)/\v≠r)->(∀b x,H b=some x->b≠o->h b=some x)->Q .ο h
abbrev lQ:Stmt:=kL (top 59) 0
def xS:ε ["self","web","wish","r","place","front"] ["self","web","wish","r"] (aA lQ):=.of
def qU:Ψ (aA lQ) "enumerate":=.of
def xR(T:Txt K L)(O:bI (τ P w))(lI:zr P w base T)(vo:Cb P w K L base "idle_load" vO ["outlook","place","front"] 55 (yK T))(dj:lf P w base T)(jm:BZ P w base T)(Eb:Cb P w K L base "needs" DH ["web","wish","r"] 8 (GB T)):Vq P w K L base "__init__" "Outlook.__init__" lQ ["self","web","wish","r"] 56 (qW T):=λ_ _ F=>by
 refine F.Ο xS λξ A co s H vs Q E hr h=>?_;obtain⟨o,f,p,a,t,c,m,ps,J,xs,r,rfl,ho,W,ha,fi,rr,par,I,R,k⟩:=h;have g:=W.go;have Ζ:=g.Ζ;obtain⟨dw,wb⟩:=W.ob;refine⟨_,(aw (lR (γ 0) (Ϩ 1) rfl) (aw (lR (γ 0) (Θ Eb hr O (aa (Ϩ 1) (aa (γ 2) (aa (γ 3) ap)))) rfl) (aw (lR (γ 0) (gG rfl (UT ["place","front","web"] 2 [1]) (zA true qU.g T.enumerate (Θ lI hr O (aa (Ϩ 1) (aa (γ 3) ap)))) (λ_ _ _ _=>(wo K rfl (n:=2) rfl (bQ (d6 (i:=0) (show(["place","front","web"]:hU).Nodup from by decide +kernel) rfl (Or.inl rfl)) (bQ (d6 (i:=1) (show(["place","front","web"]:hU).Nodup from by decide +kernel) rfl (Or.inl rfl)) fJ)))) (λ_ _ _ _=>gu) (λ_ _ _ _=>(gD jm.G (hr.mono (by decide)) (by rfl) jm.D.m jm.D.F.kp jm.D.b .nil (d7 O) (aa (pv 2) (aa (pv 0) (aa (pv 1) ap)))))) rfl) (aw (lR (γ 0) (aX oU (eL (aa qy ap)) (cq (Ϩ 1) rfl)) rfl) (ay (gf PassesOwn.never rfl (iA (Θ dj hr O (aa (Ϩ 1) (aa (γ 3) ap)))) (iC (n:=2) rfl (bQ (ϊ 4) (bQ (ϊ 5) fJ))) (ay (jq (Θ vo hr O (aa (γ 0) (aa (γ 4) (aa (γ 5) ap)))) (nL (cq (γ 0) rfl) (γ 4) gJ))))))))),?_⟩;walk_at "t";have xl:(xs.length:Int)=m:=by
  have fi:=fi;unfold bA at fi;rw[bG]at fi;exact bB fi.1
 refine⟨T.Outlook,f,[],ho,T.υ,T.Υ,by decide,?_⟩;have k1:Ϙ o H (upd H o (.ins T.Outlook f (bp "web" (.ref p) []))):=Ϙ.refl.put _;have o1:upd H o (.ins T.Outlook f (bp "web" (.ref p) [])) o=some (.ins T.Outlook f (bp "web" (.ref p) [])):=au;generalize upd H o (.ins T.Outlook f (bp "web" (.ref p) []))=H1 at k1 o1 ⊢;refine⟨p,a,t,c,m,ps,J,xs,r,rfl,W.UW k1 ho,k1.ϫ ho ha,by lia,λ_ _ _=>⟨par,I,R,λj H2 n2 s2 e2=>?_⟩,λz=>(by rw[fi]at z;cases z),λ_ z=>absurd rr z⟩;have k2:=k1.then s2;refine⟨T.Outlook,f,_,s2 _ _ o1,T.υ,T.zQ,by show 1<1000;decide,?_⟩;have ad:j≠o:=λz=>by rw[z,o1]at n2;cases n2
 have k3:=k2.put (.ins T.Outlook f (bp "needs" (.ref j) (bp "web" (.ref p) [])));have o3:upd H2 o (.ins T.Outlook f (bp "needs" (.ref j) (bp "web" (.ref p) []))) o=some (.ins T.Outlook f (bp "needs" (.ref j) (bp "web" (.ref p) []))):=au;have e3:upd H2 o (.ins T.Outlook f (bp "needs" (.ref j) (bp "web" (.ref p) []))) j=_:=(aM ad).trans e2;generalize upd H2 o (.ins T.Outlook f (bp "needs" (.ref j) (bp "web" (.ref p) [])))=H3 at k3 o3 e3 ⊢;have W3:=W.UW k3 ho;refine⟨p,t,m,ps,J,r,rfl,W3,λ_ _=>⟨par,I,R,λla H4 n4 s4 e4=>⟨la,rfl,⟨_,ι.of e4⟩,λB Zo=>?_⟩⟩,λz=>absurd rr z⟩;have ev:=s4.free Zo;refine Fc (K:=K) (c:=true) (xs:=oj m r par) (λi ys U S=>δ H4 S/\S B=some (.lst ys)/\(∃M:List Addr,ys=M.map V.ref/\Paired (λa v=>S a=some (.lst ((kd m J r par v).map V.int))) M ((b7 m.toNat).take i)/\∀q∈M,q≠B)/\∃v w,U=[v,w,some (V.ref p)]) ⟨δ.new _ Zo,au,⟨[],rfl,.nil,by simp⟩,_,_,rfl⟩ (λi ys U S z=>ι.of (z.1 _ _ e4)) ?_ ?_
 .rintro i x ys U S q N hN hx ⟨s5,e5,⟨M,rfl,pk,Zq⟩,v,w,rfl⟩ nq;have il:i<m.toNat:=by
   have:=(ax.mp hx).1;unfold oj at this
   rwa [ag,b6]at this
  have ex:x=Pb.front r par (i:Int):=by
   have:=wW (m:=m) (r:=r) (par:=par) (v:=(i:Int)) (by lia) (by lia);rw[show((i:Int)).toNat=i from rfl,hx]at this;exact bF this
  have qe:=s5 _ _ e4;have s6:=δ.new (.tup [V.int i,x]) nq;have cs:=s5.trans s6;have et:(b7 m.toNat).take (i+1)=(b7 m.toNat).take i++[(i:Int)]:=by rw[bg,gY il];rfl
  have ew:M.length<=24:=by
   have:=Paired.length pk;rw[bq]at this
   lia
  walk_at "";refine⟨_,Α.of au,rfl,_,_,rfl,_,_,rfl,rfl,?_⟩;refine⟨p,t,m,ps,J,i,x,rfl,W3.same (s4.trans cs),by lia,by lia,?_,λl6 H6 n6 s7 e7=>?_⟩
  .rw[ex];unfold Pb.front;split
   .exact .inl rfl
   .exact .inr ⟨_,rfl⟩
  have Zr:=s6.trans s7;refine⟨Zr _ _ e5,d8 (by rw[ag];lia),hN _ _ _ ⟨(s5.trans Zr).put Zo _,au,⟨M++[l6],by rw[aq];rfl,?_,λq O=>?_⟩,_,_,rfl⟩⟩;have nk:l6≠B:=λz=>by rw[z,s6 _ _ e5]at n6;cases n6
  rotate_left
  .rcases bi.mp O with h|h
   .exact Zq q h
   .rw[aG.mp h];exact λz=>by rw[z,s6 _ _ e5]at n6;cases n6
  rw[et];refine p6 (by rw[aM nk,e7,ex]) (vV (λq v O h=>?_) pk);have e:q≠B:=λz=>Zq q O z;rw[aM e];exact Zr _ _ h
 .rintro ys U S ⟨s5,e5,⟨M,rfl,pk,Zq⟩,v,w,rfl⟩;rw[show(oj m r par).length=m.toNat by unfold oj;rw[ag,b6],bZ (by rw[b6];exact aJ _)]at pk;have o5:=s5 _ _ (s4 _ _ o3);have k5:=(k3.then s4).then s5;have bK:=s5 _ _ (s4 _ _ e3);refine⟨T.Outlook,f,_,o5,T.υ,T.ϝ,by show 2<1000;decide,by decide,λl1 n1=>?_⟩;have a3:B≠o:=λz=>by rw[z,o5]at e5;cases e5
  have k6:=k5.put (.ins T.Outlook f (bp "kids" (.ref B) (bp "needs" (.ref j) (bp "web" (.ref p) []))));have o6:upd S o (.ins T.Outlook f (bp "kids" (.ref B) (bp "needs" (.ref j) (bp "web" (.ref p) [])))) o=some (.ins T.Outlook f (bp "kids" (.ref B) (bp "needs" (.ref j) (bp "web" (.ref p) [])))):=au;have e6:upd S o (.ins T.Outlook f (bp "kids" (.ref B) (bp "needs" (.ref j) (bp "web" (.ref p) [])))) B=_:=(aM a3).trans e5;have ai:upd S o (.ins T.Outlook f (bp "kids" (.ref B) (bp "needs" (.ref j) (bp "web" (.ref p) [])))) j=_:=(aM ad).trans bK;have Ym:Paired (λa v=>upd S o (.ins T.Outlook f (bp "kids" (.ref B) (bp "needs" (.ref j) (bp "web" (.ref p) [])))) a=some (.lst ((kd m J r par v).map V.int))) M (b7 m.toNat):=Paired.imp' (λq v h=>by rw[aM (cZ h o5 (by nofun))];exact h) pk;generalize upd S o (.ins T.Outlook f (bp "kids" (.ref B) (bp "needs" (.ref j) (bp "web" (.ref p) []))))=H6 at k6 o6 e6 ai Ym n1 ⊢;have s7:=δ.new (.lst [V.ο]) n1;obtain⟨cp,cv⟩:=(W.UW k6 ho).ob;refine⟨T.Web,cp,_,s7 _ _ cv,T.Ε,T.Λ,_,eP _ _,?_⟩;refine⟨l1,m,[V.ο],rfl,rfl,au,by lia,by lia,bX (by simp;lia),λC ar=>?_⟩;rw[rp];have s8:=s7.trans (δ.new (.lst (List.replicate m.toNat V.ο)) ar);have i8:upd (upd H6 l1 (.lst [V.ο])) C (.lst (List.replicate m.toNat V.ο)) C=some (.lst (List.replicate m.toNat V.ο)):=au;have Y:=s7.free ar;generalize upd (upd H6 l1 (.lst [V.ο])) C (.lst (List.replicate m.toNat V.ο))=H8 at s8 i8 ⊢;have o8:=s8 _ _ o6;refine⟨T.Outlook,f,_,o8,T.υ,T.Vd,by show 3<1000;decide,?_⟩;have k8:=(k6.then s8).put (.ins T.Outlook f (pC p j B C));have a7:C≠o:=λz=>by rw[z,o6]at Y;cases Y
  have O9:Ϗ T.Web T.Outlook (upd H8 o (.ins T.Outlook f (pC p j B C))) o p t m ps J r par I (Ϟ m J r par I (λv=>xs.getD v.toNat 0) (X8 J par)) j B C M (List.replicate m.toNat V.ο) (λ_=>False):=⟨⟨f,au⟩,W.UW k8 ho,R,(aM ad).trans (s8 _ _ ai),(aM a3).trans (s8 _ _ e6),Paired.imp' (λq v h=>by rw[aM (cZ h o6 (by nofun))];exact s8 _ _ h) Ym,(aM a7).trans i8,λc z=>z.elim,λu _ _ z=>z.elim⟩
  have k9:=k8;show y7 T [V.ref p,V.int r] (upd H8 o (.ins T.Outlook f (pC p j B C))) _ _;generalize upd H8 o (.ins T.Outlook f (pC p j B C))=H9 at O9 k9 ⊢;have dt:H C=none:=by
   cases e:H C with
   | none=>rfl
   | some x=>rw[k6 _ _ e a7]at Y;cases Y
  have b2:j≠C:=λz=>by rw[<-z,ai]at Y;cases Y
  have du:B≠C:=λz=>by rw[<-z,e6]at Y;cases Y
  have Zn:∀q∈M,q≠C:=λq O z=>by
   obtain⟨v,hv⟩:=Ew Ym O;rw[z,Y]at hv;cases hv
  refine⟨p,t,m,ps,J,r,rfl,O9.web,λ_ _=>⟨par,I,R,λlq qs Z Ve et an a6 aT pa Or=>⟨lq,rfl,⟨_,ι.of aT⟩,?_⟩⟩,λz=>absurd rr z⟩;have b1:lq≠C:=λz=>by rw[z,O9.hi]at an;cases an
  refine jL (K:=K) (xs:=qs.map V.ref) (λi U Uo=>Ϙ o H Uo/\Uo lq=some (.lst (qs.map V.ref))/\ω Uo par qs Z.reverse/\E3 λ(bs:List V)(v4 v5:Option V)=>Ϗ T.Web T.Outlook Uo o p t m ps J r par I (Ϟ m J r par I (λv=>xs.getD v.toNat 0) (X8 J par)) j B C M bs (λc=>c∈Z.drop (Z.length-i))/\bs.length=m.toNat/\(∀c,c∈Z.drop (Z.length-i)->∀a,ϳ bs c=some (.ref a)->a≠C)/\U=[some (V.ref o),some (V.ref p),some (V.ref a),some (V.int r),v4,v5]) ⟨k9.then a6,aT,pa,List.replicate m.toNat V.ο,_,_,(O9.same a6).sub (λc d=>?_) (λu _ _ hu=>?_),b8,λc d=>?_,rfl⟩ (λi U Uo _ z=>ι.of z.2.1) ?_ ?_
  .rw[gh,fh]at d;cases d
  .rw[gh,fh]at hu;cases hu
  .rw[gh,fh]at d;cases d
  .rintro i x U Uo N BB ϒ hN hx ⟨k11,e11,XN,bs,v4,v5,Zu,bl,hda,rfl⟩;refine ϒ _ _ ?_;obtain⟨q,v,rfl,O,hv,eq⟩:=XN.get hx;obtain⟨⟨vr,vn⟩,ed,_,a8,ds⟩:=Or.cut R hv;have hS:∀c∈kd m J r par v,c∈Z.drop (Z.length-i):=λc d=>by
    have w:=(dg g R vr.1 vr.2).mp d;exact ds c w.1.1 w.1.2 w.2.1 w.2.2
   walk_at "";refine⟨_,Α.of eq,rfl,_,_,rfl,_,_,rfl,rfl,?_⟩;refine⟨o,p,t,m,ps,J,r,par,I,_,j,B,C,M,bs,_,v,rfl,Zu,vr,vn,hS,λl ej a0 ϙ Ut=>?_⟩;have X:=Zu.same ϙ;obtain⟨ca,ZP⟩:=X.ob;have nl:l≠C:=λz=>by rw[z,Zu.hi]at a0;cases a0
   refine⟨T.Outlook,ca,_,ZP,T.υ,T.Vd,_,Cn _ _ _ _,om X.hi vr.1 (by lia) (hN _ _ ⟨?_,?_,?_,_,_,_,(X.put b2 du Zn (λc d=>⟨(a8 c d).1.1,hda c d⟩) bl vr.1 vr.2 hS Ut nl).sub (λc d=>?_) (λu u0 u1 hu c d=>?_),?_,?_,rfl⟩)⟩
   .exact λb y hb nb=>by rw[aM (cC hb dt)];exact ϙ _ _ (k11 b y hb nb)
   .rw[aM b1];exact ϙ _ _ e11
   .exact Paired.imp' (λa b h=>by rw[aM (cZ (ϙ _ _ h) X.hi (by nofun))];exact ϙ _ _ h) XN
   .rw[ed]at d;exact aE.mp d
   .rw[ed];rw[ed]at hu;rcases aE.mp hu with rfl|hu
    .exact aI _ (hS c d)
    .exact aI _ (Zu.cl u u0 u1 hu c d)
   .rw[bN];exact bl
   .intro c d a' V5;rw[ed]at d;by_cases e:c=v
    .subst e;rw[x9 vr.1,cY (by lia)]at V5;cases V5;exact nl
    .have d:=(aE.mp d).resolve_left e;have c0:=(a8 c d).1.1;rw[x9 c0,cz (by lia),<-x9 c0]at V5;exact hda c d a' V5
  .rintro BB U Uo ϒ ⟨k11,e11,XN,bs,v4,v5,Zu,bl,hda,rfl⟩;refine ϒ _ _ ?_;have ql:qs.length=Z.reverse.length:=Paired.length XN;rw[ag,ql,aQ,dW,ir]at Zu;walk_at "";refine k j B C M bs Uo (Zu.sub (λc d=>?_) (λu u0 u1 hu c d=>?_)) k11
   .exact(Or.all c d.1.1 d.1.2).resolve_left d.2
   .have w:=(dg g R u0 u1).mp d;exact⟨w.1,w.2.1⟩
def Cy(T:Txt K L):Sp:=λi H Q _=>E9 λ(p a t:Addr)(c:Bool)(m:Int)(h:hH)(e:ix)(g:fc)(r:Int)=>i=[.ref p,.ref a,.int r]/\θ T.Web H p m t h e/\Ω K c H a (g.map V.int)/\bA m g=true/\(0<=r/\r<m)/\∃b d,ζ m e r b d/\∀l f,H l=none->δ H f->f l=some (.tup ((Tp m e r b d (pY m e r b d g) r (-1)).map V.int))->Q (.ref l) f
abbrev u8:Stmt:=top 58
def KR:ε ["web","wish","r"] ["web","wish","r"] (aA u8):=.of
def sD:Ψ (aA u8) "Outlook":=.of
def Kw(T:Txt K L)(y:bI (τ P w))(n:Cm P w K L base (Mk K T.Outlook) "__init__" "Outlook.__init__" lQ ["self","web","wish","r"] 56 (qW T)){U:Addr}{C:FuncData}(eT:Df K L "greatest_load" dy ["outlook","place","over"] U C)(gw:ϋ P w K L base (τ P w) 54 U C ["outlook","place","over"] (qc T)):Ok P w K L base "failing" u8 ["web","wish","r"] 58 (Cy T):=λ_ _ D=>by
 refine D.F.Ο KR λξ A v s H vs Q E X h=>?_;obtain⟨p,a,t,c,m,J,I,xs,r,rfl,W,ha,fi,i,f,e,R,k⟩:=h;have Ζ:=W.go.Ζ;refine⟨_,(ay (aY (iO gi T.tuple (aa (pcq eT gw X y (aa (wE n.M n.G (X.mono (by decide)) sD.g T.VG n.b .nil (d7 y) (aa (γ 0) (aa (γ 1) (aa (γ 2) ap))) (hdb:=sD.d)) (aa (γ 2) (aa (lx ju aD) ap)))) ap)))),?_⟩;walk_at "t";intro o j S Vr ne;have u:upd H j (.own o) o=none:=by rw[aM ne.symm];exact S
 have q:δ H (upd (upd H j (.own o)) o (.ins T.Outlook j [])):=(δ.new _ Vr).trans (δ.new _ u);refine⟨o,j,p,a,t,c,m,J,I,xs,r,rfl,au,W.same q,δ.ϫ q ha,fi,i,f,e,R,λna ka ia kl bs Y O kp=>?_⟩;have V:δ H Y:=λb x B=>kp b x (q b x B) (cC B S);refine⟨rfl,?_⟩;refine⟨o,p,t,m,J,I,r,f,e,_,na,ka,ia,kl,bs,_,r,_,rfl,O,i,by show m.toNat<=e r+1+24;lia,λc hc=>?_,λl H2 n2 N Z=>?_⟩
 .have w:=(dg W.go R i.1 i.2).mp hc;exact⟨w.1,w.2.1⟩
 .refine⟨l,rfl,_,.inl ⟨ι.of Z,λl3 z=>k l3 _ (V.free (N.free z)) ((V.trans N).trans (δ.new _ z)) au⟩⟩
def Cq(T:Txt K L):Sp:=λg H Q E=>E8 λ(p a t:Addr)(c:Bool)(m:Int)(e:hH)(f:ix)(d:fc)=>g=[.ref p,.ref a]/\θ T.Web H p m t e f/\Ω K c H a (d.map V.int)/\d.length<=1000/\(bA m d=true->∀b,δ H b->Q (.bl (decide (d.sum=0))) b)/\(bA m d=false->∀b,δ H b->E (.ref T.BadWish) none b)
abbrev yU:Stmt:=top 57
def Lo:ε ["web","wish"] ["web","wish"] (aA yU):=.of
def Km(T:Txt K L)(y:bI (τ P w))(o:zm P w base T)(r:uU P w base T):Ok P w K L base "is_idle" yU ["web","wish"] 3 (Cq T):=λ_ _ D=>by
 refine D.F.Ϻ Lo λC A d s H B Q E f h=>?_;obtain⟨p,a,t,c,m,q,j,b,rfl,W,i,n,k,e⟩:=h;refine⟨_,(ay (aY (jV cM (Ξ o f bT (aa (Ξ r f bT (aa (γ 0) (aa (γ 1) ap))) ap)) aD (kP _)))),?_⟩;walk_at "t";refine⟨p,a,t,c,m,q,j,b,rfl,W,i,n,λv l g u _ x=>?_,e⟩;refine⟨l,_,rfl,.inr x,?_⟩;refine⟨rfl,?_⟩;rw[show decide (V.int b.sum=V.int 0)=decide (b.sum=0) by by_cases z:b.sum=0<;>simp[z]];exact k v g u
abbrev ER(P w base)(T:Txt K L):=Cb P w K L base "is_idle" yU ["web","wish"] 3 (Cq T)
def HB(T:Txt K L):Sp:=λi H Q E=>E8 λ(p a t:Addr)(c:Bool)(m:Int)(h:hH)(g:ix)(b:fc)=>i=[.ref p,.ref a]/\θ T.Web H p m t h g/\Ω K c H a (b.map V.int)/\b.length<=1000/\(bA m b=true->b.sum≠0->∃e f,ζ m g (fS m b) e f/\∀l d,H l=none->δ H d->d l=some (.tup ((Tp m g (fS m b) e f (pY m g (fS m b) e f b) (fS m b) (-1)).map V.int))->Q (.ref l) d)/\(bA m b=false->∀d,δ H d->E (.ref T.BadWish) none d)/\(bA m b=true->b.sum=0->∀d,δ H d->E (.ref T.NoWorst) none d)
abbrev tR:Stmt:=top 56
def Ij:ε ["web","wish","wanted_at"] ["web","wish"] (aA tR):=.of
def yI:Ue (aA tR) "wanted_at":=.of (by kernel_rfl)
def uA:Ψ (aA tR) "NoWorst":=.of
def Dy:Ψ (aA tR) "range":=.of
def Oz(T:Txt K L)(hq:bI (τ P w))(yF:Cb P w K L base "failing" u8 ["web","wish","r"] 58 (Cy T))(X:ER P w base T):Ok P w K L base "fails" tR ["web","wish"] 59 (HB T):=λ_ _ D=>by
 refine D.F.Ϻ Ij λξ A G s H vs Q E S h=>?_;obtain⟨p,a,t,c,m,O,M,b,rfl,W,x,hz,k,e,e'⟩:=h;have g:=W.go;have Ζ:=g.Ζ;obtain⟨dw,wb⟩:=W.ob;refine⟨_,(aw (bU (lW (Ξ X S bT (aa (γ 0) (aa (Ϩ 1) ap)))) (ay (rH T.VL rfl tK uA.g T.TX (aa bH ap) (hdb:=uA.d))) bE) (aw (tE (i:=2) Ij.nd rfl yI.l rfl (UT ["place","wish"] 1 [1]) (kG Dy.g T.range (aa (cq (γ 0) rfl) ap)) (λ_ _ _ _=>(d6 (i:=0) (show(["place","wish"]:hU).Nodup from by decide +kernel) rfl (Or.inl rfl))) (λ_ _ _ _=>(D2 (Ν wP (ψ (QB c K rfl) (pv 1) (pv 0)) aD))) (λ_ _ _ _=>(pv 0))) (ay (aY (Ξ yF S bT (aa (γ 0) (aa (Ϩ 1) (aa (ψ bu (γ 2) aD) ap)))))))),?_⟩;walk_at "t";refine⟨p,a,t,c,m,O,M,b,rfl,W,x,hz,λj J f=>?_,e⟩;refine⟨_,rfl,?_⟩;by_cases z:b.sum=0
 .rw[aj (by simpa using z)];exact⟨by decide,e' j z J f⟩
 .rw[ah (by simpa using z)];obtain⟨y,B,R,k⟩:=k j z;have xl:=iw j;have U:=Fm j;obtain⟨tl,I,rr,x0⟩:=Jk xl U z;refine⟨T.Web,dw,_,f _ _ wb,T.Ε,T.Λ,_,eP _ _,m,rfl,by lia,by lia,λpc C=>?_⟩;have Z:=f.free C;refine kg (λi o u r=>δ J r/\r pc=some (.lst o)/\o=((b7 i).filter λv=>decide (0<b.getD v.toNat 0)).map V.int/\∃v,u=[v,some (V.ref a)]) ⟨δ.new _ C,au,rfl,_,rfl⟩ ?_ ?_
  .rintro i o u r N hN hi ⟨s3,e3,rfl,v,rfl⟩;have ll:((b7 i).filter λv=>decide (0<b.getD v.toNat 0)).length<=24:=by
    have h1:=bP (λv=>decide (0<b.getD v.toNat 0)) (b7 i);rw[b6]at h1
    lia
   walk_at "";rw[d9];refine ixX (δ.ϫ (f.trans s3) x) (Ϲ (by lia) (by lia)) ⟨_,rfl,?_⟩;rw[show((i:Int)).toNat=i from rfl];by_cases q:0<b.getD i 0
   .rw[aj q];refine⟨e3,d8 (by rw[ag];lia),hN _ _ _ ⟨s3.put C _,au,?_,_,rfl⟩⟩;rw[qG,cw,dD (by simpa using q),fI,aq]
    rfl
   .rw[ah q];refine hN _ _ _ ⟨s3,e3,?_,_,rfl⟩;rw[qG,cw,dE (by simpa using q),fI,cj]
  .rintro o u r ⟨s3,e3,rfl,v,rfl⟩;rw[I]at e3;have n:=f.trans s3;refine Γ (v:=V.int (fS m b)) e3 (fR (by decide) rfl) ?_;exact⟨p,a,t,c,m,O,M,b,_,rfl,W.same n,δ.ϫ n x,j,rr,y,B,R,λl H4 Y s4 h4=>k l H4 (n.free Y) (n.trans s4) h4⟩
abbrev DE(P w base)(T:Txt K L):=Cb P w K L base "fails" tR ["web","wish"] 59 (HB T)
def EI(T:Txt K L):Sp:=λi H Q E=>E8 λ(p a t:Addr)(c:Bool)(m:Int)(h:hH)(g:ix)(b:fc)=>i=[.ref p,.ref a]/\θ T.Web H p m t h g/\Ω K c H a (b.map V.int)/\b.length<=1000/\(bA m b=true->b.sum≠0->∃e f,ζ m g (fS m b) e f/\∀d,δ H d->Q (.int ((Tp m g (fS m b) e f (pY m g (fS m b) e f b) (fS m b) (-1)).sum+1)) d)/\(bA m b=true->b.sum=0->∀d,δ H d->Q (.int 0) d)/\(bA m b=false->∀d,δ H d->E (.ref T.BadWish) none d)
abbrev BI:Stmt:=top 55
def Mb:ε ["web","wish"] ["web","wish"] (aA BI):=.of
def MI(T:Txt K L)(N:bI (τ P w))(M:DE P w base T)(x:ER P w base T)(I:zm P w base T):Ok P w K L base "always" BI ["web","wish"] 60 (EI T):=λ_ _ D=>by
 refine D.F.Ϻ Mb λU A i s H S Q E n h=>?_;obtain⟨p,a,t,c,m,u,q,g,rfl,W,o,r,k,e,B⟩:=h;refine⟨_,(aw (bU (lW (Ξ x n bT (aa (γ 0) (aa (γ 1) ap)))) (ay (aY aD)) bE) (ay (aY (aX gc (Ξ I n bT (aa (Ξ M n bT (aa (γ 0) (aa (γ 1) ap))) ap)) aD)))),?_⟩;walk_at "t";refine⟨p,a,t,c,m,u,q,g,rfl,W,o,r,λj v b=>?_,B⟩;refine⟨_,rfl,?_⟩;by_cases z:g.sum=0
 .rw[aj (by simpa using z)];exact e j z v b
 .rw[ah (by simpa using z)];obtain⟨d,f,R,k⟩:=k j z;refine⟨p,a,t,c,m,u,q,g,rfl,W.same b,δ.ϫ b o,r,λ_ _=>⟨d,f,R,λl C O J y=>?_⟩,λz=>(by rw[j]at z;cases z),λ_ G=>absurd G z⟩;refine⟨l,_,rfl,.inr (Α.of y),_,rfl,k C (b.trans J)⟩
abbrev Iq(P w base)(T:Txt K L):=Cb P w K L base "always" BI ["web","wish"] 60 (EI T)
def Av(T:Txt K L):Sp:=λi H Q E=>E9 λ(p a t:Addr)(c:Bool)(m:Int)(h:hH)(g:ix)(e:fc)(r:Int)=>i=[.ref p,.ref a,.int r]/\θ T.Web H p m t h g/\Ω K c H a (e.map V.int)/\e.length<=1000/\(bA m e=true->0<=r->r<m->∃d f,ζ m g r d f/\∀l b,H l=none->δ H b->b l=some (.lst ((oX m g r d f (λv=>e.getD v.toNat 0) (ϯ g d)).map V.int))->Q (.ref l) b)/\(bA m e=false->∀b,δ H b->E (.ref T.BadLaying) none b)/\(bA m e=true->¬(0<=r/\r<m)->∀b,δ H b->E (.ref T.NoPlace) none b)
abbrev wZ:Stmt:=top 66
def Iy:ε ["web","laying","r","counts","place","front"] ["web","laying","r"] (aA wZ):=.of
def IT(T:Txt K L)(hq:bI (τ P w))(dj:lf P w base T)(gU:sg P w base T)(di:mP P w base T):Ok P w K L base "gathered" wZ ["web","laying","r"] 8 (Av T):=λ_ _ D=>by
 refine D.F.Ϻ Iy λξ A Z s H vs Q E U h=>?_;obtain⟨p,a,t,c,m,Y,o,xs,r,rfl,W,ha,hz,k,e,e'⟩:=h;have g:=W.go;have Ζ:=g.Ζ;refine⟨_,(aw (Κ 3 (iO jP T.list (aa (Ξ gU U bT (aa (γ 0) (aa (γ 1) ap))) ap))) (aw (gf PassesOwn.leaving rfl (iA (Ξ dj U bT (aa (γ 0) (aa (γ 2) ap)))) (iC (n:=2) rfl (bQ (ϊ 4) (bQ (ϊ 5) fJ))) (ay (q8 (γ 3) (γ 5) qb (aX eY (ψ bu (γ 3) (γ 4)) (Ξ di U bT (aa (γ 0) (aa (γ 4) (aa (γ 5) ap))))) sB gJ))) (ay (aY (γ 3))))),?_⟩;walk_at "t";refine⟨p,a,t,c,m,Y,o,xs,?_⟩;refine an6 rfl W ha hz (λB l0 H0 s0 _ e0=>?_) e;have xl:(xs.length:Int)=m:=by
  unfold bA at B;rw[bG]at B;exact bB B.1
 refine⟨l0,rfl,_,.inr e0,λl n1=>?_⟩;have s1:=δ.new (.lst (xs.map V.int)) n1;have J:=s0.trans s1;have nl:=s0.free n1;have X:upd H0 l (.lst (xs.map V.int)) l=some (.lst (xs.map V.int)):=au;generalize upd H0 l (.lst (xs.map V.int))=H1 at s1 J X ⊢;refine⟨p,t,m,Y,o,r,?_⟩;refine Vl rfl (W.same J) (λr0 r1=>?_) (λz=>e' B z H1 J);obtain⟨d,y,R,k⟩:=k B r0 r1;refine⟨d,y,R,λl2 M G H2 _ n2 s2 e2 pa O=>?_⟩;have VP:l2≠l:=λz=>by rw[z,X]at n2;cases n2
 refine⟨l2,rfl,⟨_,ι.of e2⟩,?_⟩;have ql:M.length=G.reverse.length:=Paired.length pa;refine jL (K:=K) (xs:=M.map V.ref) (λi I f=>δ H f/\f l2=some (.lst (M.map V.ref))/\ω f d M G.reverse/\E3 λ(C:fc)(v4 v5:Option V)=>f l=some (.lst (C.map V.int))/\ϖ m o r d y (λv=>xs.getD v.toNat 0) (ϯ o d) (G.drop (G.length-i)) C/\I=[some (V.ref p),some (V.ref a),some (V.int r),some (V.ref l),v4,v5]) ⟨J.trans s2,e2,pa,xs,_,_,s2 _ _ X,by rw[gh,fh];exact ϖ.nil xl,rfl⟩ (λi I f _ z=>ι.of z.2.1) ?_ ?_
 .rintro i x I f N BB ϒ hN hx ⟨s3,e3,UX,C,v4,v5,c3,so,rfl⟩;refine ϒ _ _ ?_;obtain⟨q,v,rfl,hq,hv,eq⟩:=UX.get hx;obtain⟨⟨j,vn⟩,ev,Zj⟩:=O.turn g R so hv;have u:=R.up v j.1 j.2 vn;obtain⟨kk,S,k0,k1⟩:=jw g R j.1 j.2 vn;have cl:=so.len;walk_at "";refine⟨_,Α.of eq,rfl,_,_,rfl,_,_,rfl,rfl,?_⟩;refine Γ c3 (Ϲ u.1.1 (by lia)) (Γ c3 (Ϲ j.1 (by lia)) ?_);refine⟨p,t,m,Y,o,v,d v,rfl,W.same s3,λk' _ _ _ _ h=>?_,λz=>absurd ⟨j,u.1⟩ z,λ_ _ _ _ z=>by rw[S]at z;cases z⟩;rw[S]at h;cases h;refine⟨_,rfl,_,rfl,⟨by lia,by lia⟩,_,rfl,om c3 u.1.1 (by rw[ag];lia) (hN _ _ ⟨s3.put nl _,?_,?_,rZ d (ϯ o d) C v,_,_,?_,Zj,rfl⟩)⟩
  .rw[aM VP];exact e3
  .exact Paired.imp' (λa b h=>by rw[aM (cZ h c3 (by nofun))];exact h) UX
  .rw[au,<-cT];unfold rZ ϯ;rw[S]
   rfl
 .rintro BB I f ϒ ⟨s3,e3,UX,C,v4,v5,c3,so,rfl⟩;refine ϒ _ _ ?_;rw[ag,ql,aQ,dW,ir]at so;rw[O.done g R so]at c3;walk_at "";exact k l f nl s3 c3
abbrev CC(P w base)(T:Txt K L):=Cb P w K L base "gathered" wZ ["web","laying","r"] 8 (Av T)
def HM(T:Txt K L):Sp:=λk H Q E=>E9 λ(p a t:Addr)(c:Bool)(m:Int)(j:hH)(g:ix)(f:fc)(r:Int)=>k=[.ref p,.ref a,.int r]/\θ T.Web H p m t j g/\Ω K c H a (f.map V.int)/\f.length<=1000/\(bA m f=true->0<=r->r<m->∃b e,ζ m g r b e/\∀l i h d,eX m g r b e r=r::h->H l=none->δ H d->d l=some (.lst (i.map V.ref))->Ϡ d m g r b e (λv=>f.getD v.toNat 0) i (l9 m g r b e (λv=>f.getD v.toNat 0) h.reverse)->Order m r b h->Q (.ref l) d)/\(bA m f=false->∀d,δ H d->E (.ref T.BadLaying) none d)/\(bA m f=true->¬(0<=r/\r<m)->∀d,δ H d->E (.ref T.NoPlace) none d)
abbrev DW:Stmt:=top 68
def OE:ε ["web","laying","r","counts","steps","place","front","times"] ["web","laying","r"] (aA DW):=.of
def Pg(T:Txt K L)(hq:bI (τ P w))(pi:CC P w base T)(dj:lf P w base T)(di:mP P w base T):Ok P w K L base "bring" DW ["web","laying","r"] 9 (HM T):=λ_ _ D=>by
 refine D.F.Ϻ OE λξ A ai s H vs Q E hr h=>?_;obtain⟨p,a,t,c,m,ps,j,xs,r,rfl,W,ha,hz,k,e,e'⟩:=h;have g:=W.go;have Ζ:=g.Ζ;refine⟨_,(aw (Κ 3 (Ξ pi hr bT (aa (γ 0) (aa (γ 1) (aa (γ 2) ap))))) (aw (Κ 4 (eL ap)) (aw (gf PassesOwn.leaving rfl (iA (Ξ dj hr bT (aa (γ 0) (aa (γ 2) ap)))) (iC (n:=2) rfl (bQ (ϊ 5) (bQ (ϊ 6) fJ))) (aw (Κ 7 (aX eY (ψ bu (γ 3) (γ 5)) (Ξ di hr bT (aa (γ 0) (aa (γ 5) (aa (γ 6) ap)))))) (ay (bU (Ν wP (γ 7) aD) (ay (cH (TU (γ 4) (hJ (aa (γ 5) (aa (γ 6) (aa (γ 7) ap))))))) bE)))) (ay (aY (γ 4)))))),?_⟩;walk_at "t";refine⟨p,a,t,c,m,ps,j,xs,r,?_⟩;refine an7 rfl W ha hz (λfi r0 r1=>?_) e e';obtain⟨d,f,R,k⟩:=k fi r0 r1;refine⟨d,f,R,λS H1 nc s1 ec=>⟨bX (by simp),λC M=>?_⟩⟩;have s2:=δ.new (.lst []) M;have Yq:=s1.free M;have ϙ:=s1.trans s2;have Z:upd H1 C (.lst []) C=some (.lst []):=au;have Yr:=s2 _ _ ec;generalize upd H1 C (.lst [])=H2 at s2 ϙ Z Yr ⊢;refine⟨p,t,m,ps,j,r,?_⟩;refine Vl rfl (W.same ϙ) (λ_ _=>⟨d,f,R,λl2 J l H3 et n2 X e3 pa O=>?_⟩) (λz=>absurd ⟨r0,r1⟩ z);refine⟨l2,rfl,⟨_,ι.of e3⟩,?_⟩;have ql:J.length=l.reverse.length:=Paired.length pa;have ll:=p7 g R r0 r1;rw[et,aO]at ll;have Y:l2≠C:=λz=>by rw[z,Z]at n2;cases n2
 have am:S≠C:=λz=>by rw[<-z,ec]at M;cases M
 have T4:=ϙ.trans X;refine jL (K:=K) (xs:=J.map V.ref) (λi I y=>δ H y/\y l2=some (.lst (J.map V.ref))/\y S=some (.lst ((oX m j r d f (λv=>xs.getD v.toNat 0) (ϯ j d)).map V.int))/\ω y d J l.reverse/\E4 λ(B:hH)(v5 v6 v7:Option V)=>y C=some (.lst (B.map V.ref))/\Ϡ y m j r d f (λv=>xs.getD v.toNat 0) B (l9 m j r d f (λv=>xs.getD v.toNat 0) (l.reverse.take i))/\I=[some (V.ref p),some (V.ref a),some (V.int r),some (V.ref S),some (V.ref C),v5,v6,v7]) ⟨T4,e3,X _ _ Yr,pa,[],_,_,_,X _ _ Z,.nil,rfl⟩ (λi I y _ z=>ι.of z.2.1) ?_ ?_
 .rintro i x I y N BB ϒ hN hx ⟨s4,e4,c4,Vu,B,v5,v6,v7,u4,ba,rfl⟩;refine ϒ _ _ ?_;obtain⟨q,v,rfl,hq,hv,eq⟩:=Vu.get hx;have vm:v∈l:=dP.mp (aP hv);obtain⟨G,vn⟩:=O.places v vm;have u:=R.up v G.1 G.2 vn;obtain⟨kk,U,k0,k1⟩:=jw g R G.1 G.2 vn;have ϭ:l.reverse.take (i+1)=l.reverse.take i++[v]:=by rw[bg,hv];rfl
  have ul:B.length=(l9 m j r d f (λv=>xs.getD v.toNat 0) (l.reverse.take i)).length:=Paired.length ba;have bt:B.length<=24:=by
   rw[ul];refine aW (bP _ _) ?_;rw[bq,aQ]
   lia
  walk_at "";refine⟨_,Α.of eq,rfl,_,_,rfl,_,_,rfl,rfl,?_⟩;refine Γ c4 (Ϲ G.1 (by unfold oX;rw[ag,b6];lia)) ?_;rw[uh G.1 G.2];refine⟨p,t,m,ps,j,v,d v,rfl,W.same s4,λk' _ _ _ _ h=>?_,λz=>absurd ⟨G,u.1⟩ z,λ_ _ _ _ z=>by rw[U]at z;cases z⟩;rw[U]at h;cases h;refine⟨_,rfl,_,rfl,⟨by lia,by lia⟩,?_⟩;have av:Ϟ m j r d f (λv=>xs.getD v.toNat 0) (ϯ j d) v/kk=VA m j r d f (λv=>xs.getD v.toNat 0) v:=by
   unfold VA ϯ;rw[U]
   rfl
  rw[av];by_cases c:0<VA m j r d f (λv=>xs.getD v.toNat 0) v
  .rw[aj c];refine⟨S9 u4,bX (by simp),λq5 n5=>?_⟩;have o:=δ.new (.tup (Kx m j r d f (λv=>xs.getD v.toNat 0) v)) n5;refine oS (o _ _ u4) (d8 (by rw[ag];lia)) (hN _ _ ⟨(s4.trans o).put Yq _,?_,?_,?_,B++[q5],_,_,_,?_,?_,rfl⟩)
   .rw[aM Y];exact o _ _ e4
   .rw[aM am];exact o _ _ c4
   .exact Paired.imp' (λa b h=>by rw[aM (cZ (o _ _ h) (o _ _ u4) (by nofun))];exact o _ _ h) Vu
   .rw[au,aq];rfl
   .have n5s:q5≠C:=λz=>by rw[z,u4]at n5;cases n5
    have eb:l9 m j r d f (λv=>xs.getD v.toNat 0) (l.reverse.take (i+1))=l9 m j r d f (λv=>xs.getD v.toNat 0) (l.reverse.take i)++[v]:=by
     rw[ϭ,Lh c]
    rw[eb];refine Ϡ.snoc (by rw[aM n5s,au];rfl) ?_;exact Paired.imp' (λa b h=>by rw[aM (cZ (o _ _ h) (o _ _ u4) (by nofun))];exact o _ _ h) ba
  .rw[ah c];have eb:l9 m j r d f (λv=>xs.getD v.toNat 0) (l.reverse.take (i+1))=l9 m j r d f (λv=>xs.getD v.toNat 0) (l.reverse.take i):=by
    rw[ϭ,K0 c]
   exact hN _ _ ⟨s4,e4,c4,Vu,B,_,_,_,u4,by rw[eb];exact ba,rfl⟩
 .rintro BB I y ϒ ⟨s4,e4,c4,Vu,B,v5,v6,v7,u4,ba,rfl⟩;refine ϒ _ _ ?_;rw[ag,ql,bC]at ba;walk_at "";exact k C B l y et Yq s4 u4 ba O
abbrev Ji(P w base)(T:Txt K L):=Cb P w K L base "bring" DW ["web","laying","r"] 9 (HM T)
def xZ(T:Txt K L):Sp:=λe H Q _=>E10 λ(p t:Addr)(m:Int)(d:hH)(c:ix)(x v u b a:Int)=>e=[.ref p,.int x,.int v,.int u]/\θ T.Web H p m t d c/\(0<=v/\v<m)/\(0<=u/\u<m)/\cJ c v u=some b/\cJ c u v=some a/\(2<=b/\b<=1000000)/\(2<=a/\a<=1000000)/\Q (.int (if 0<=x then x/b else x*a)) H
abbrev vD:Stmt:=top 46
def F4:ε ["web","over","place","front"] ["web","over","place","front"] (aA vD):=.of
def Hl(T:Txt K L)(r:bI (τ P w))(b:mP P w base T):Ok P w K L base "handed_on" vD ["web","over","place","front"] 4 (xZ T):=λ_ _ D=>by
 refine D.F.Ϻ F4 λG A a s H C Q E j h=>?_;obtain⟨p,t,m,f,e,x,v,u,B,y,rfl,W,i,g,l,d,o,n,k⟩:=h;refine⟨_,(aw (bU (Ν zO (γ 1) aD) (ay (aY (aX eY (γ 1) (Ξ b j bT (aa (γ 0) (aa (γ 2) (aa (γ 3) ap))))))) bE) (ay (aY (aX ke (γ 1) (Ξ b j bT (aa (γ 0) (aa (γ 3) (aa (γ 2) ap)))))))),?_⟩;walk_at "t";by_cases c:0<=x
 .rw[aj c]at k ⊢;refine⟨p,t,m,f,e,v,u,rfl,W,λq _ _ _ _ h=>?_,λz=>absurd ⟨i,g⟩ z,λ_ _ _ _ z=>by rw[l]at z;cases z⟩;rw[l]at h;cases h;exact⟨_,rfl,⟨by lia,by lia⟩,k⟩
 .rw[ah c]at k ⊢;refine⟨p,t,m,f,e,u,v,rfl,W,λq _ _ _ _ h=>?_,λz=>absurd ⟨g,i⟩ z,λ_ _ _ _ z=>by rw[d]at z;cases z⟩;rw[d]at h;cases h;exact⟨_,rfl,.inr ⟨by lia,by lia⟩,k⟩
abbrev AF(P w base)(T:Txt K L):=Cb P w K L base "handed_on" vD ["web","over","place","front"] 4 (xZ T)
def yQ(T:Txt K L):Sp:=λn H Q E=>XC λ(p a b t:Addr)(c d:Bool)(m:Int)(k:hH)(j:ix)(g h:fc)(r:Int)=>n=[.ref p,.ref a,.ref b,.int r]/\θ T.Web H p m t k j/\Ω K c H a (g.map V.int)/\g.length<=1000/\Ω K d H b (h.map V.int)/\h.length<=1000/\(bA m g=true->bA m h=true->0<=r->r<m->∃f i,ζ m j r f i/\∀l e,H l=none->δ H e->e l=some (.lst ((oX m j r f i (λv=>(lU m g h).getD v.toNat 0) (Tx j f)).map V.int))->Q (.ref l) e)/\(bA m g=false->∀e,δ H e->E (.ref T.BadLaying) none e)/\(bA m g=true->bA m h=false->∀e,δ H e->E (.ref T.BadWish) none e)/\(bA m g=true->bA m h=true->¬(0<=r/\r<m)->∀e,δ H e->E (.ref T.NoPlace) none e)
abbrev mh:Stmt:=top 45
def qH:ε ["web","laying","wish","r","has","wanted","over","place","front"] ["web","laying","wish","r"] (aA mh):=.of
def A2:VX (aA mh) "has":=.of (by kernel_rfl)
def xQ:VX (aA mh) "wanted":=.of (by kernel_rfl)
def Ad:Ue (aA mh) "over":=.of (by kernel_rfl)
def x8:Ψ (aA mh) "range":=.of
def HS(T:Txt K L)(hq:bI (τ P w))(nP:AF P w base T)(dj:lf P w base T)(gU:sg P w base T)(jd:uU P w base T):Ok P w K L base "standings" mh ["web","laying","wish","r"] 8 (yQ T):=λ_ _ D=>by
 refine D.F.Ϻ qH λξ A an s H vs Q E hr h=>?_;obtain⟨p,a,b,t,c,d,m,ps,G,xs,C,r,rfl,W,ha,hz,hb,hy,k,e1,e2,e3⟩:=h;have g:=W.go;have m1:=g.m1;have Ζ:=g.Ζ;refine⟨_,(aw (sv (i:=4) qH.nd rfl (Or.inr A2.l) (Ξ gU hr bT (aa (γ 0) (aa (γ 1) ap)))) (aw (sv (i:=5) qH.nd rfl (Or.inr xQ.l) (Ξ jd hr bT (aa (γ 0) (aa (γ 2) ap)))) (aw (tE (i:=6) qH.nd rfl Ad.l rfl (UT ["place","has","wanted"] 1 [4,5]) (kG x8.g T.range (aa (cq (γ 0) rfl) ap)) (λ_ _ _ _=>(d6 (i:=0) (show(["place","has","wanted"]:hU).Nodup from by decide +kernel) rfl (Or.inl rfl))) (λ_ _ _ _=>gu) (λ_ _ _ _=>(aX jt (ψ (Ka K rfl) (pv 1) (pv 0)) (ψ (Ka K rfl) (pv 2) (pv 0))))) (aw (gf PassesOwn.leaving rfl (iA (Ξ dj hr bT (aa (γ 0) (aa (γ 3) ap)))) (iC (n:=2) rfl (bQ (ϊ 7) (bQ (ϊ 8) fJ))) (ay (q8 (γ 6) (γ 8) qb (Ξ nP hr bT (aa (γ 0) (aa (ψ bu (γ 6) (γ 7)) (aa (γ 7) (aa (γ 8) ap))))) sB gJ))) (ay (aY (γ 6))))))),?_⟩;walk_at "t";refine⟨p,a,t,c,m,ps,G,xs,rfl,W,ha,hz,λfi la H1 Z _ ea=>?_,e1⟩;refine⟨p,b,t,d,m,ps,G,C,rfl,W.same Z,δ.ϫ Z hb,hy,λM lb H2 s2 _ eb=>?_,λM H2 s2=>e2 fi M H2 (Z.trans s2)⟩;have X:∀{j:fc},bA m j=true->(j.length:Int)=m:=λ{j} f=>by
  unfold bA at f;rw[bG]at f;exact bB f.1
 have xl:=X fi;have yl:=X M;have ϙ:=Z.trans s2;have W2:=W.same ϙ;obtain⟨dx,ob⟩:=W2.ob;refine⟨T.Web,dx,_,ob,T.Ε,T.Λ,_,eP m t,m,rfl,by lia,by lia,λlo no=>?_⟩;have ai:=δ.tup s2 ea;refine kg (λi j o I=>δ H2 I/\I lo=some (.lst j)/\j=((List.range i).map λi=>xs.getD i 0-C.getD i 0).map V.int/\∃v,o=[v,some (V.ref la),some (V.ref lb)]) ⟨δ.new _ no,au,rfl,_,rfl⟩ ?_ ?_
 .rintro i j o I N hN hi ⟨s3,UO,rfl,v,rfl⟩;rw[d9];have i0:(0:Int)<=(i:Int):=by lia
  have ga:=Ϲ (xs:=xs) i0 (by lia);have gb:=Ϲ (xs:=C) i0 (by lia);rw[dJ]at ga gb;walk_at "";refine Dx (δ.tup s3 ai) ga (Dx (δ.tup s3 eb) gb ⟨_,rfl,_,rfl,UO,d8 (by simp;lia),hN _ _ _ ⟨s3.put no _,au,?_,_,rfl⟩⟩);rw[dZ,aq,aq]
  rfl
 .rintro j o I ⟨s3,UO,rfl,v,rfl⟩;have U:=ϙ.free no;have T4:=ϙ.trans s3;have ol:=Mz (m:=m) (by lia) xs C;change I lo=some (.lst ((lU m xs C).map V.int))at UO;refine⟨p,t,m,ps,G,r,rfl,W.same T4,λr0 r1=>?_,λz=>e3 fi M z I T4⟩;obtain⟨e,J,R,k⟩:=k fi M r0 r1;refine⟨e,J,R,λl2 qs Y H4 _ n2 s4 e4 pa O=>?_⟩;have VP:l2≠lo:=λz=>by rw[z,UO]at n2;cases n2
  refine⟨l2,rfl,⟨_,ι.of e4⟩,?_⟩;have ql:qs.length=Y.reverse.length:=Paired.length pa;refine uM (K:=K) (xs:=qs.map V.ref) (λi o B=>δ H B/\B l2=some (.lst (qs.map V.ref))/\ω B e qs Y.reverse/\E3 λ(S:fc)(v4 v5:Option V)=>B lo=some (.lst (S.map V.int))/\ϖ m G r e J (λv=>(lU m xs C).getD v.toNat 0) (Tx G e) (Y.drop (Y.length-i)) S/\o=[some (V.ref p),some (V.ref a),some (V.ref b),some (V.int r),some (V.ref la),some (V.ref lb),some (V.ref lo),v4,v5]) ⟨T4.trans s4,e4,pa,lU m xs C,_,_,s4 _ _ UO,by rw[gh,fh];exact ϖ.nil ol,rfl⟩ (λi o B _ z=>ι.of z.2.1) ?_ ?_
  .rintro i x o B N hN hx ⟨s5,e5,Zv,S,v4,v5,c5,so,rfl⟩;obtain⟨q,v,rfl,hq,hv,eq⟩:=Zv.get hx;obtain⟨⟨y,vn⟩,ev,Zj⟩:=O.turn g R so hv;have u:=R.up v y.1 y.2 vn;obtain⟨kk,hk,k0,k1⟩:=jw g R y.1 y.2 vn;obtain⟨kd,hd,d0,d1⟩:=tJ g R y.1 y.2 vn;have cl:=so.len;walk_at "";refine⟨_,Α.of eq,rfl,_,_,rfl,_,_,rfl,rfl,?_⟩;refine Γ c5 (Ϲ u.1.1 (by lia)) (Γ c5 (Ϲ y.1 (by lia)) ?_);refine⟨p,t,m,ps,G,_,v,e v,kk,kd,rfl,W.same s5,y,u.1,hk,hd,⟨k0,k1⟩,⟨d0,d1⟩,?_⟩;refine⟨_,rfl,_,rfl,om c5 u.1.1 (by rw[ag];lia) (hN _ _ ⟨s5.put U _,?_,?_,rZ e (Tx G e) S v,_,_,?_,Zj,rfl⟩)⟩
   .rw[aM VP];exact e5
   .exact Paired.imp' (λa b h=>by rw[aM (cZ h c5 (by nofun))];exact h) Zv
   .rw[au,<-cT];unfold rZ Tx;rw[hk,hd]
    rfl
  .rintro o B ⟨s5,e5,Zv,S,v4,v5,c5,so,rfl⟩;rw[ag,ql,aQ,dW,ir]at so;rw[O.done g R so]at c5;walk_at "";exact k lo B U s5 c5
abbrev vN(P w base)(T:Txt K L):=Cb P w K L base "standings" mh ["web","laying","wish","r"] 8 (yQ T)
def AL(T:Txt K L):Sp:=λl H Q E=>XC λ(p a b t:Addr)(c d:Bool)(m:Int)(k:hH)(j:ix)(g h:fc)(r:Int)=>l=[.ref p,.ref a,.ref b,.int r]/\θ T.Web H p m t k j/\Ω K c H a (g.map V.int)/\g.length<=1000/\Ω K d H b (h.map V.int)/\h.length<=1000/\(bA m g=true->bA m h=true->0<=r->r<m->∃f i,ζ m j r f i/\∀e,δ H e->Q (.int (Ϟ m j r f i (λv=>(lU m g h).getD v.toNat 0) (Tx j f) r)) e)/\(bA m g=false->∀e,δ H e->E (.ref T.BadLaying) none e)/\(bA m g=true->bA m h=false->∀e,δ H e->E (.ref T.BadWish) none e)/\(bA m g=true->bA m h=true->¬(0<=r/\r<m)->∀e,δ H e->E (.ref T.NoPlace) none e)
abbrev wY:Stmt:=top 47
def I0:ε ["web","laying","wish","r"] ["web","laying","wish","r"] (aA wY):=.of
def IG(T:Txt K L)(U:bI (τ P w))(M:vN P w base T):Ok P w K L base "standing" wY ["web","laying","wish","r"] 9 (AL T):=λ_ _ D=>by
 refine D.F.Ϻ I0 λY A j s H X Q E S h=>?_;obtain⟨p,a,b,t,c,d,m,I,z,G,u,r,rfl,W,y,C,v,x,k,i,J,q⟩:=h;refine⟨_,(ay (aY (jT bu (Ξ M S bT (aa (γ 0) (aa (γ 1) (aa (γ 2) (aa (γ 3) ap))))) (γ 3) (λ_ _=>rfl)))),?_⟩;walk_at "t";refine⟨p,a,b,t,c,d,m,I,z,G,u,r,rfl,W,y,C,v,x,λO B g n=>?_,i,J,q⟩;obtain⟨e,f,R,k⟩:=k O B g n;refine⟨e,f,R,λl o V N i=>?_⟩;refine Γ i (Ϲ g ?_) ?_
 .unfold oX;rw[ag,b6];lia
 .rw[uh g n];exact k o N
abbrev sY(P w base)(T:Txt K L):=Cb P w K L base "standing" wY ["web","laying","wish","r"] 9 (AL T)
def EL(T:Txt K L):Sp:=λl H Q E=>WZ λ(p a b t:Addr)(c d:Bool)(m:Int)(k:hH)(j:ix)(g h:fc)=>l=[.ref p,.ref a,.ref b]/\θ T.Web H p m t k j/\Ω K c H a (g.map V.int)/\g.length<=1000/\Ω K d H b (h.map V.int)/\h.length<=1000/\(bA m g=true->bA m h=true->∃f i,ζ m j 0 f i/\∀e,δ H e->Q (.bl (decide (0<=Ϟ m j 0 f i (λv=>(lU m g h).getD v.toNat 0) (Tx j f) 0))) e)/\(bA m g=false->∀e,δ H e->E (.ref T.BadLaying) none e)/\(bA m g=true->bA m h=false->∀e,δ H e->E (.ref T.BadWish) none e)
abbrev BN:Stmt:=top 48
def MC:ε ["web","laying","wish"] ["web","laying","wish"] (aA BN):=.of
def My(T:Txt K L)(M:bI (τ P w))(G:sY P w base T):Ok P w K L base "is_met" BN ["web","laying","wish"] 10 (EL T):=λ_ _ D=>by
 refine D.F.Ϻ MC λO A g s H N Q E J h=>?_;obtain⟨p,a,b,t,c,d,m,y,q,v,i,rfl,W,o,u,j,n,k,x,C⟩:=h;have m1:=W.go.m1;refine⟨_,(ay (aY (jV zO (Ξ G J bT (aa (γ 0) (aa (γ 1) (aa (γ 2) (aa aD ap))))) aD (kP _)))),?_⟩;walk_at "t";refine⟨p,a,b,t,c,d,m,y,q,v,i,0,rfl,W,o,u,j,n,λI r _ _=>?_,x,C,λ_ _ z=>absurd ⟨bO _,by lia⟩ z⟩;obtain⟨e,f,R,k⟩:=k I r;exact⟨e,f,R,λB l=>⟨_,rfl,k B l⟩⟩
def L7{m:Int}{a:ix}{b:hY}{c:Int->Int->Nat}{e d:fc}{i:Nat}:xq m a b c e d (i+1)=xq m a b c e d i++[Ϟ m a i (b i) (c i) (λv=>(lU m e d).getD v.toNat 0) (Tx a (b i)) i]:=by
 unfold xq;rw[qG,aq]
 rfl
def Ax(T:Txt K L):Sp:=λn H Q _=>E13 λ(p a b t:Addr)(c d:Bool)(m:Int)(k:hH)(f:ix)(g e:fc)(j:hY)(i:Int->Int->Nat)=>n=[.ref p,.ref a,.ref b]/\θ T.Web H p m t k f/\Ω K c H a (g.map V.int)/\bA m g=true/\Ω K d H b (e.map V.int)/\bA m e=true/\(∀r,0<=r->r<m->ζ m f r (j r) (i r))/\∀l h,H l=none->δ H h->h l=some (.tup (((xq m f j i g e m.toNat).map λx=>-x).map V.int))->Q (.ref l) h
abbrev tD:Stmt:=top 52
def IJ:ε ["web","laying","wish"] ["web","laying","wish"] (aA tD):=.of
def Aa:Ψ (aA tD) "range":=.of
def Jf(T:Txt K L)(X:bI (τ P w))(j:sY P w base T):Ok P w K L base "lacks_of" tD ["web","laying","wish"] 10 (Ax T):=λ_ _ D=>by
 refine D.F.Ο IJ λξ A o s H vs Q E hr h=>?_;obtain⟨p,a,b,t,c,d,m,ps,y,C,r,R,q,rfl,W,Z,J,Y,u,U,k⟩:=h;have g:=W.go;have Ζ:=g.Ζ;have m1:=g.m1;have xl:=iw J;have yl:=iw u;obtain⟨dx,ob⟩:=W.ob;refine⟨_,(ay (aY (iO gi T.tuple (aa (gG rfl (UT ["r","web","laying","wish"] 1 [0,1,2]) (kG Aa.g T.range (aa (cq (Ϩ 0) rfl) ap)) (λ_ _ _ _=>(d6 (i:=0) (show(["r","web","laying","wish"]:hU).Nodup from by decide +kernel) rfl (Or.inl rfl))) (λ_ _ _ _=>gu) (λ_ _ _ _=>(lx ju (gD j.G (hr.mono (by decide)) (by rfl) j.D.m j.D.F.kp j.D.b .nil (d7 X) (aa (pv 1) (aa (pv 2) (aa (pv 3) (aa (pv 0) ap)))))))) ap)))),?_⟩;walk_at "t";refine⟨T.Web,dx,_,ob,T.Ε,T.Λ,_,eP m t,m,rfl,by lia,by lia,λS O=>?_⟩;refine kg (λi e n f=>δ H f/\f S=some (.lst e)/\e=((xq m y R q C r i).map λx=>-x).map V.int/\∃v,n=[v,some (V.ref p),some (V.ref a),some (V.ref b)]) ⟨δ.new _ O,au,rfl,_,rfl⟩ ?_ ?_
 .rintro i e n f N hN hi ⟨s3,e3,rfl,v,rfl⟩;rw[d9];have M:(0:Int)<=(i:Int):=by lia
  have I:(i:Int)<m:=by lia
  walk_at "";refine⟨p,a,b,t,c,d,m,ps,y,C,r,(i:Int),rfl,W.same s3,δ.ϫ s3 Z,by lia,δ.ϫ s3 Y,by lia,λ_ _ _ _=>⟨R i,q i,U i M I,λH4 B=>?_⟩,(λz=>by rw[J]at z;cases z),(λ_ z=>by rw[u]at z;cases z),λ_ _ z=>absurd ⟨M,I⟩ z⟩;refine⟨_,rfl,B _ _ e3,d8 (by rw[ag,ag,Ib];lia),hN _ _ _ ⟨(s3.trans B).put O _,au,?_,_,rfl⟩⟩;rw[L7,aq,aq]
  rfl
 .rintro e n f ⟨s3,e3,rfl,v,rfl⟩;refine⟨S,rfl,_,.inl ⟨ι.of e3,λl nl=>?_⟩⟩;exact k l _ (s3.free nl) (s3.trans (δ.new _ nl)) au
def Aq(T:Txt K L):Sp:=λq H Q _=>E14 λ(p a b t:Addr)(c d:Bool)(m:Int)(o:hH)(g:ix)(j i:fc)(r:Int)(e:fz)(f:gn)=>q=[.ref p,.ref a,.ref b,.int r]/\θ T.Web H p m t o g/\Ω K c H a (j.map V.int)/\bA m j=true/\Ω K d H b (i.map V.int)/\bA m i=true/\(0<=r/\r<m)/\ζ m g r e f/\∀l n k h,eX m g r e f r=r::k->H l=none->δ H h->h l=some (.lst (n.map V.ref))->Δ h n (qE g e (iN m g r e f i j) k.reverse)->Order m r e k->Q (.ref l) h
abbrev wG:Stmt:=top 50
def IV:ε ["web","laying","wish","r","over","steps","place","front","times"] ["web","laying","wish","r"] (aA wG):=.of
def IK(T:Txt K L)(J:bI (τ P w))(nP:AF P w base T)(dj:lf P w base T)(jG:vN P w base T):Ok P w K L base "steps_in" wG ["web","laying","wish","r"] 9 (Aq T):=λ_ _ D=>by
 refine D.F.Ο IV λξ A al s H vs Q E hr h=>?_;obtain⟨p,a,b,t,c,d,m,ps,j,xs,o,r,e,f,rfl,W,ha,fx,hb,fy,rr,R,k⟩:=h;obtain⟨r0,r1⟩:=rr;have g:=W.go;have Ζ:=g.Ζ;have xl:=iw fx;have yl:=iw fy;refine⟨_,(aw (Κ 4 (Θ jG hr J (aa (γ 0) (aa (γ 1) (aa (γ 2) (aa (γ 3) ap)))))) (aw (Κ 5 (eL ap)) (aw (gf PassesOwn.never rfl (iA (Θ dj hr J (aa (γ 0) (aa (γ 3) ap)))) (iC (n:=2) rfl (bQ (ϊ 6) (bQ (ϊ 7) fJ))) (aw (Κ 8 (Θ nP hr J (aa (γ 0) (aa (ψ bu (γ 4) (γ 6)) (aa (γ 6) (aa (γ 7) ap)))))) (ay (bU (Ν wP (γ 8) aD) (ay (cH (TU (γ 5) (hJ (aa (γ 6) (aa (γ 7) (aa (γ 8) ap))))))) bE)))) (ay (aY (γ 5)))))),?_⟩;walk_at "t";refine⟨p,a,b,t,c,d,m,ps,j,xs,o,r,rfl,W,ha,by lia,hb,by lia,λ_ _ _ _=>⟨e,f,R,λY H1 nc s1 ec=>⟨bX (by simp),λG X=>?_⟩⟩,(λz=>by rw[fx]at z;cases z),(λ_ z=>by rw[fy]at z;cases z),λ_ _ z=>absurd ⟨r0,r1⟩ z⟩;have s2:=δ.new (.lst []) X;have Yq:=s1.free X;have ϙ:=s1.trans s2;have es:upd H1 G (.lst []) G=some (.lst []):=au;have Yr:=s2 _ _ ec;generalize upd H1 G (.lst [])=H2 at s2 ϙ es Yr ⊢;refine⟨p,t,m,ps,j,r,?_⟩;refine Vl rfl (W.same ϙ) (λ_ _=>⟨e,f,R,λl2 U I H3 et n2 Z e3 pa O=>?_⟩) (λz=>absurd ⟨r0,r1⟩ z);refine⟨l2,rfl,⟨_,ι.of e3⟩,?_⟩;have ql:U.length=I.reverse.length:=Paired.length pa;have ll:=p7 g R r0 r1;rw[et,aO]at ll;have ab:l2≠G:=λz=>by rw[z,es]at n2;cases n2
 have ar:Y≠G:=λz=>by rw[<-z,ec]at X;cases X
 have T4:=ϙ.trans Z;refine jL (K:=K) (xs:=U.map V.ref) (λi M B=>δ H B/\B l2=some (.lst (U.map V.ref))/\B Y=some (.lst ((oX m j r e f (λv=>(lU m xs o).getD v.toNat 0) (Tx j e)).map V.int))/\ω B e U I.reverse/\E4 λ(C:hH)(v5 v6 v7:Option V)=>B G=some (.lst (C.map V.ref))/\Δ B C (qE j e (iN m j r e f o xs) (I.reverse.take i))/\M=[some (V.ref p),some (V.ref a),some (V.ref b),some (V.int r),some (V.ref Y),some (V.ref G),v5,v6,v7]) ⟨T4,e3,Z _ _ Yr,pa,[],_,_,_,Z _ _ es,.nil,rfl⟩ (λi M B _ z=>ι.of z.2.1) ?_ ?_
 .rintro i x M B N BB ϒ hN hx ⟨s4,e4,c4,Vu,C,v5,v6,v7,u4,ba,rfl⟩;refine ϒ _ _ ?_;obtain⟨q,v,rfl,J,hv,eq⟩:=Vu.get hx;have vm:v∈I:=dP.mp (aP hv);obtain⟨l,S⟩:=O.places v vm;have u:=R.up v l.1 l.2 S;obtain⟨kk,hk,k0,k1⟩:=jw g R l.1 l.2 S;obtain⟨kd,hd,d0,d1⟩:=tJ g R l.1 l.2 S;have ϭ:I.reverse.take (i+1)=I.reverse.take i++[v]:=by rw[bg,hv];rfl
  have ul:C.length=(qE j e (iN m j r e f o xs) (I.reverse.take i)).length:=Paired.length ba;have b2:C.length<=24:=by
   rw[ul];unfold qE;rw[ag];refine aW (bP _ _) ?_;rw[bq,aQ]
   lia
  walk_at "";refine⟨_,Α.of eq,rfl,_,_,rfl,_,_,rfl,rfl,?_⟩;refine Γ c4 (Ϲ l.1 (by unfold oX;rw[ag,b6];lia)) ?_;rw[uh l.1 l.2];refine⟨p,t,m,ps,j,_,v,e v,kk,kd,rfl,W.same s4,l,u.1,hk,hd,⟨k0,k1⟩,⟨d0,d1⟩,?_⟩;have eh:(if 0<=iN m j r e f o xs v then iN m j r e f o xs v/kk else iN m j r e f o xs v*kd)=Tx j e v (iN m j r e f o xs v):=by
   unfold Tx;rw[hk,hd]
   rfl
  rw[eh];refine⟨_,rfl,?_⟩;obtain⟨i1,i2⟩:=Qw g R (iN m j r e f o xs) l.1 l.2 S;by_cases z:0<Tx j e v (iN m j r e f o xs v)
  .rw[aj z,i1 z];rw[i1 z]at z;refine⟨S9 u4,bX (by simp),λq5 n5=>?_⟩;have y:=δ.new (.tup (Xx (OF j e (iN m j r e f o xs) v))) n5;refine oS (y _ _ u4) (d8 (by rw[ag];lia)) (hN _ _ ⟨(s4.trans y).put Yq _,?_,?_,?_,C++[q5],_,_,_,?_,?_,rfl⟩)
   .rw[aM ab];exact y _ _ e4
   .rw[aM ar];exact y _ _ c4
   .exact Paired.imp' (λa b h=>by rw[aM (cZ (y _ _ h) (y _ _ u4) (by nofun))];exact y _ _ h) Vu
   .rw[au,aq];rfl
   .have n5s:q5≠G:=λz=>by rw[z,u4]at n5;cases n5
    rw[ϭ,Oy (bo z)];refine zK (by rw[aM n5s,au];rfl) ?_;exact Paired.imp' (λa b h=>by rw[aM (cZ (y _ _ h) (y _ _ u4) (by nofun))];exact y _ _ h) ba
  .rw[ah z];exact hN _ _ ⟨s4,e4,c4,Vu,C,_,_,_,u4,by rw[ϭ,PB (by unfold HF;rw[b4];exact i2 z)];exact ba,rfl⟩
 .rintro BB M B ϒ ⟨s4,e4,c4,Vu,C,v5,v6,v7,u4,ba,rfl⟩;refine ϒ _ _ ?_;rw[ag,ql,bC]at ba;walk_at "";exact k G C I B et Yq s4 u4 ba O
def yi(T:Txt K L):Sp:=λq H Q _=>E14 λ(p a b t:Addr)(c d:Bool)(m:Int)(o:hH)(g:ix)(j i:fc)(r:Int)(e:fz)(f:gn)=>q=[.ref p,.ref a,.ref b,.int r]/\θ T.Web H p m t o g/\Ω K c H a (j.map V.int)/\bA m j=true/\Ω K d H b (i.map V.int)/\bA m i=true/\(0<=r/\r<m)/\ζ m g r e f/\∀l n k h,eX m g r e f r=r::k->H l=none->δ H h->h l=some (.lst (n.map V.ref))->Δ h n (qF e (iN m g r e f i j) k)->Order m r e k->Q (.ref l) h
abbrev sj:Stmt:=top 51
def GJ:ε ["web","laying","wish","r","over","steps","place","front"] ["web","laying","wish","r"] (aA sj):=.of
def wu:Ψ (aA sj) "reversed":=.of
def GU(T:Txt K L)(hq:bI (τ P w))(dj:lf P w base T)(jG:vN P w base T):Ok P w K L base "steps_out" sj ["web","laying","wish","r"] 9 (yi T):=λ_ _ D=>by
 refine D.F.Ο GJ λξ A ac s H vs Q E hr h=>?_;obtain⟨p,a,b,t,c,d,m,ps,j,xs,C,r,e,f,rfl,W,ha,fx,hb,fy,rr,R,k⟩:=h;obtain⟨r0,r1⟩:=rr;have g:=W.go;have Ζ:=g.Ζ;have xl:=iw fx;have yl:=iw fy;refine⟨_,(aw (Κ 4 (Θ jG hr hq (aa (γ 0) (aa (γ 1) (aa (γ 2) (aa (γ 3) ap)))))) (aw (Κ 5 (eL ap)) (aw (gf PassesOwn.never rfl (tT wu.g T.reversed (Θ dj hr hq (aa (γ 0) (aa (γ 3) ap)))) (iC (n:=2) rfl (bQ (ϊ 6) (bQ (ϊ 7) fJ))) (ay (bU (Ν uY (ψ bu (γ 4) (γ 6)) aD) (ay (cH (TU (γ 5) (hJ (aa (γ 7) (aa (γ 6) (aa (lx ju (ψ bu (γ 4) (γ 6))) ap))))))) bE))) (ay (aY (γ 5)))))),?_⟩;walk_at "t";refine⟨p,a,b,t,c,d,m,ps,j,xs,C,r,rfl,W,ha,by lia,hb,by lia,λ_ _ _ _=>⟨e,f,R,λM H1 nc s1 ec=>⟨bX (by simp),λy J=>?_⟩⟩,(λz=>by rw[fx]at z;cases z),(λ_ z=>by rw[fy]at z;cases z),λ_ _ z=>absurd ⟨r0,r1⟩ z⟩;have Z:=δ.new (.lst []) J;have Yq:=s1.free J;have Y:=s1.trans Z;have X:upd H1 y (.lst []) y=some (.lst []):=au;have Yr:=Z _ _ ec;generalize upd H1 y (.lst [])=H2 at Z Y X Yr ⊢;refine⟨p,t,m,ps,j,r,?_⟩;refine Vl rfl (W.same Y) (λ_ _=>⟨e,f,R,λl2 G B H3 et n2 S e3 pa O=>?_⟩) (λz=>absurd ⟨r0,r1⟩ z);have ql:G.length=B.reverse.length:=Paired.length pa;rw[aQ]at ql;have ll:=p7 g R r0 r1;rw[et,aO]at ll;have U:l2≠y:=λz=>by rw[z,X]at n2;cases n2
 have ak:M≠y:=λz=>by rw[<-z,ec]at J;cases J
 have T4:=Y.trans S;refine⟨l2,rfl,_,ι.of e3,?_⟩;refine rq (K:=K) (xs:=G.map V.ref) (λi I o=>δ H o/\o l2=some (.lst (G.map V.ref))/\o M=some (.lst ((oX m j r e f (λv=>(lU m xs C).getD v.toNat 0) (Tx j e)).map V.int))/\ω o e G B.reverse/\E3 λ(u:hH)(v5 v6:Option V)=>o y=some (.lst (u.map V.ref))/\Δ o u (qF e (iN m j r e f C xs) (B.take i))/\I=[some (V.ref p),some (V.ref a),some (V.ref b),some (V.int r),some (V.ref M),some (V.ref y),v5,v6]) ⟨T4,e3,S _ _ Yr,pa,[],_,_,S _ _ X,.nil,rfl⟩ (λi I o _ z=>ι.of z.2.1) ?_ ?_
 .rintro i x I o N hN hx ⟨s4,e4,c4,Vu,u,v5,v6,u4,ba,rfl⟩;have il:=(ax.mp hx).1;rw[aQ,ag]at il;rw[cu (by rw[ag];exact il),ag]at hx;obtain⟨q,v,rfl,Ti,hv,eq⟩:=Vu.get hx;rw[cu (by lia),show B.length-1-(G.length-1-i)=i by lia]at hv;have vm:=aP hv;have vr:=O.ϓ v vm;have ϭ:B.take (i+1)=B.take i++[v]:=by rw[bg,hv];rfl
  have ul:u.length=(qF e (iN m j r e f C xs) (B.take i)).length:=Paired.length ba;have bv:u.length<=24:=by
   rw[ul];unfold qF;rw[ag];refine aW (bP _ _) ?_;rw[bq]
   lia
  have gv:ϳ ((oX m j r e f (λv=>(lU m xs C).getD v.toNat 0) (Tx j e)).map V.int) v=some (V.int (iN m j r e f C xs v)):=by
   rw[Ϲ vr.1 (by unfold oX;rw[ag,b6];lia),uh vr.1 vr.2]
  walk_at "";refine⟨_,Α.of eq,rfl,_,_,rfl,_,_,rfl,rfl,?_⟩;refine Γ c4 gv ⟨_,rfl,?_⟩;by_cases z:iN m j r e f C xs v<0
  .rw[aj z];refine⟨S9 u4,Γ c4 gv ⟨_,rfl,bX (by simp),λq5 n5=>?_⟩⟩;have l:=δ.new (.tup (Xx (NS e (iN m j r e f C xs) v))) n5;refine oS (l _ _ u4) (d8 (by rw[ag];lia)) (hN _ _ ⟨(s4.trans l).put Yq _,?_,?_,?_,u++[q5],_,_,?_,?_,rfl⟩)
   .rw[aM U];exact l _ _ e4
   .rw[aM ak];exact l _ _ c4
   .exact Paired.imp' (λa b h=>by rw[aM (cZ (l _ _ h) (l _ _ u4) (by nofun))];exact l _ _ h) Vu
   .rw[au,aq];rfl
   .have n5s:q5≠y:=λz=>by rw[z,u4]at n5;cases n5
    rw[ϭ,Pm (bo z)];refine zK (by rw[aM n5s,au];rfl) ?_;exact Paired.imp' (λa b h=>by rw[aM (cZ (l _ _ h) (l _ _ u4) (by nofun))];exact l _ _ h) ba
  .rw[ah z];exact hN _ _ ⟨s4,e4,c4,Vu,u,_,_,u4,by rw[ϭ,NY (by unfold Gb;rw[b4];exact z)];exact ba,rfl⟩
 .rintro I o ⟨s4,e4,c4,Vu,u,v5,v6,u4,ba,rfl⟩;rw[ag,ql,bC]at ba;walk_at "";exact k y u B o et Yq s4 u4 ba O
def BW(T:Txt K L):Sp:=λs H Q E=>WZ λ(p a b t:Addr)(c d:Bool)(m:Int)(q:hH)(i:ix)(f h:fc)=>s=[.ref p,.ref a,.ref b]/\θ T.Web H p m t q i/\Ω K c H a (f.map V.int)/\f.length<=1000/\Ω K d H b (h.map V.int)/\h.length<=1000/\(bA m f=true->bA m h=true->∃g j,(∀r,0<=r->r<m->ζ m i r (g r) (j r))/\(0<=iN m i 0 (g 0) (j 0) h f 0->∀l n o k e,eX m i 0 (g 0) (j 0) 0=0::k->Order m 0 (g 0) k->H n=none->H l=none->δ H e->e l=some (.tup [.str "steps",.ref n])->e n=some (.lst (o.map V.ref))->Δ e o (qE i (g 0) (iN m i 0 (g 0) (j 0) h f) k.reverse++qF (g 0) (iN m i 0 (g 0) (j 0) h f) k)->Q (.ref l) e)/\(¬0<=iN m i 0 (g 0) (j 0) h f 0->∀l lt e,H lt=none->H l=none->δ H e->e l=some (.tup [.str "lack",.ref lt])->e lt=some (.tup (((xq m i g j f h m.toNat).map λx=>-x).map V.int))->Q (.ref l) e))/\(bA m f=false->∀e,δ H e->E (.ref T.BadLaying) none e)/\(bA m f=true->bA m h=false->∀e,δ H e->E (.ref T.BadWish) none e)
abbrev yx:Stmt:=top 49
def LA:ε ["web","laying","wish"] ["web","laying","wish"] (aA yx):=.of
def Lf(T:Txt K L)(hq:bI (τ P w))(BJ:Cb P w K L base "is_met" BN ["web","laying","wish"] 10 (EL T))(wO:Cb P w K L base "lacks_of" tD ["web","laying","wish"] 10 (Ax T))(wX:Cb P w K L base "steps_in" wG ["web","laying","wish","r"] 9 (Aq T))(vF:Cb P w K L base "steps_out" sj ["web","laying","wish","r"] 9 (yi T)):Ok P w K L base "meeting" yx ["web","laying","wish"] 11 (BW T):=λ_ _ D=>by
 refine D.F.Ϻ LA λξ A S s H vs Q E v h=>?_;obtain⟨p,a,b,t,c,d,m,B,q,i,l,rfl,W,x,hz,r,hy,k,e1,e2⟩:=h;have m1:=W.go.m1;have Ζ:=W.go.Ζ;have g:=W.go;refine⟨_,(aw (bU (lW (Ξ BJ v bT (aa (γ 0) (aa (γ 1) (aa (γ 2) ap))))) (ay (aY (hJ (aa bH (aa (aX Il (Ξ wX v bT (aa (γ 0) (aa (γ 1) (aa (γ 2) (aa aD ap))))) (Ξ vF v bT (aa (γ 0) (aa (γ 1) (aa (γ 2) (aa aD ap)))))) ap))))) bE) (ay (aY (hJ (aa bH (aa (Ξ wO v bT (aa (γ 0) (aa (γ 1) (aa (γ 2) ap)))) ap)))))),?_⟩;walk_at "t";refine⟨p,a,b,t,c,d,m,B,q,i,l,rfl,W,x,hz,r,hy,λI u=>?_,e1,e2⟩;obtain⟨o,j,RR,k1,k2⟩:=k I u;have G:=RR 0 (bO _) (by lia);refine⟨o 0,j 0,G,λH1 e=>⟨_,rfl,?_⟩⟩;by_cases z:0<=iN m q 0 (o 0) (j 0) l i 0
 .rw[aj (bo z)];refine⟨p,a,b,t,c,d,m,B,q,i,l,0,o 0,j 0,rfl,W.same e,δ.ϫ e x,I,δ.ϫ e r,u,⟨bO _,by lia⟩,G,λl1 Y tl H2 et n1 C h2 Zx O=>?_⟩;have y:=e.trans C;refine⟨p,a,b,t,c,d,m,B,q,i,l,0,o 0,j 0,rfl,W.same y,δ.ϫ y x,I,δ.ϫ y r,u,⟨bO _,by lia⟩,G,λX N Xb H3 ϭ n2 J h3 UP _=>?_⟩;have Z:Xb=tl:=by rw[et]at ϭ;cases ϭ;rfl
  subst Z;have ll:=p7 g G (bO _) (by lia);rw[et,aO]at ll;have b1:Y.length<=24:=by
   rw[Paired.length Zx];unfold qE;rw[ag];refine aW (bP _ _) ?_;rw[aQ]
   lia
  have b2:N.length<=24:=by
   rw[Paired.length UP];unfold qF;rw[ag];refine aW (bP _ _) ?_
   lia
  have U:=y.trans J;refine O5 (J _ _ h2) h3 (bX (by rw[ag,ag];lia)) λl3 n3=>⟨bX (by simp),λR n=>?_⟩;have M:=δ.new (.lst (Y.map V.ref++N.map V.ref)) n3;have f:=δ.new (.tup [V.str (Str.ofString "steps"),V.ref l3]) n;have Zi:=U.free n3;have ad:=(U.trans M).free n;refine k1 z R l3 (Y++N) Xb _ et O Zi ad (U.trans (M.trans f)) au (by rw[f _ _ au,aq]) (Δ.same (M.trans f) ?_);exact Mw UP (Δ.same J Zx)
 .rw[ah (by rw[b4];exact z)];refine⟨p,a,b,t,c,d,m,B,q,i,l,o,j,rfl,W.same e,δ.ϫ e x,I,δ.ϫ e r,u,RR,λX H2 n2 C h2=>⟨bX (by simp),λR n=>?_⟩⟩;have f:=δ.new (.tup [V.str (Str.ofString "lack"),V.ref X]) n;exact k2 z R X _ (e.free n2) ((e.trans C).free n) (e.trans (C.trans f)) au (f _ _ h2)
abbrev EX(P w base)(T:Txt K L):=Cb P w K L base "meeting" yx ["web","laying","wish"] 11 (BW T)
def wq(T:Txt K L):Sp:=λb H Q _=>∃z:Int,b=[.int z]/\Bt z/\∀a,δ H a->Q (.str (tI z)) a
abbrev lK:Stmt:=top 84
def Ei:ε ["number","pieces"] ["number"] (aA lK):=.of
def iq:Ψ (aA lK) "PIECE":=.of
def mF:Ψ (aA lK) "PIECE_FIGURES":=.of
def uD:Ψ (aA lK) "reversed":=.of
def Ee(T:Txt K L)(v:bI (τ P w)):Ok P w K L base "number_text" lK ["number"] 1 (wq T):=λ_ _ D=>by
 refine D.F.Ο Ei λG A i s H B Q E C h=>?_;obtain⟨z,rfl,nb,k⟩:=h;refine⟨_,(aw (Κ 1 (eL ap)) (aw (uv PassesOwn.never (Ν zO (γ 0) (oJ iq.g T.Uk (hd:=iq.d))) (aw (cH (TU (γ 1) (sZ PySem.F.plainAttrs_str PySem.F.slot_str_zfill PySem.F.type_str_zfill Px (iO gM T.str (aa (aX eE (γ 0) (oJ iq.g T.Uk (hd:=iq.d))) ap)) (aa (oJ mF.g T.Te (hd:=mF.d)) ap)))) (ay (Κ 0 (aX F8 (γ 0) (oJ iq.g T.Uk (hd:=iq.d))))))) (aw (cH (TU (γ 1) (iO gM T.str (aa (γ 0) ap)))) (ay (aY (OM rfl uD.g T.reversed (γ 1))))))),?_⟩;walk_at "s";refine db λy t=>?_;walk_at "";refine⟨bX (by simp),λl nl=>t _ _ (db λx m=>?_)⟩;refine Em (λk j r=>∃q:Int,k=q.toNat/\∃b,r=upd H l (.lst (b.map V.str))/\Np z q b/\j=[some (V.int q),some (V.ref l)]) z.toNat ⟨z,rfl,[],rfl,.start nb,rfl⟩ ?_;rintro _ j _ N I o n p ⟨q,rfl,b,rfl,a,rfl⟩;have f:=a.cnt;have f:(b.map V.str).length<sizeLine:=d8 (by rw[ag];lia);refine o _ _ _ ?_;walk_at "";by_cases c:(1000000000000000000:Int)<=q
 .rw[aj c];obtain⟨u,e⟩:=a.step c;refine⟨N,p,S9 au,by decide,u,by simp[VW],_,rfl,by decide,oS au f ⟨⟨by decide,by decide⟩,n _ _ _ (by lia) ⟨_,rfl,_,?_,e,rfl⟩⟩⟩;rw[aq];exact mB
 .rw[ah c];refine m _ _ ?_;walk_at "";refine⟨S9 au,a.big.log,oS au f ⟨b++[tI q],?_,a.sum,?_⟩⟩
  .rw[mB,aq];exact ι.of au
  .rw[show Str.ofString ""=("":Str)from rfl,a.done];refine k _ ?_;rw[mB];exact δ.new _ nl
abbrev p4(P w base)(T:Txt K L):=Cb P w K L base "number_text" lK ["number"] 1 (wq T)
def uI(T:Txt K L):Sp:=λe H Q _=>E3 λ(a:Addr)(c:Bool)(b:fc)=>e=[.ref a]/\VY c H a (b.map V.int)/\b.length<=100/\(∀z∈b,Bt z)/\∀d,δ H d->Q (.str (VD b)) d
abbrev rB:Stmt:=top 85
def Dn:ε ["numbers"] ["numbers"] (aA rB):=.of
def CH(T:Txt K L)(u:bI (τ P w))(g:p4 P w base T):Ok P w K L base "numbers_text" rB ["numbers"] 2 (uI T):=λ_ _ D=>by
 refine D.F.Ο Dn λM A o s H J Q E B h=>?_;obtain⟨a,c,j,rfl,q,y,nb,k⟩:=h;refine⟨_,(ay (aY (sZ PySem.F.plainAttrs_str PySem.F.slot_str_join PySem.F.type_str_join zP bH (aa (gG rfl (md (Nc:=["number"]) 1 (by decide +kernel) (by decide +kernel) rfl (by decide +kernel) rfl) (vT c (γ 0)) (λ_ _ _ _=>(d6 (i:=0) (show(["number"]:hU).Nodup from by decide +kernel) rfl (Or.inl rfl))) (λ_ _ _ _=>gu) (λ_ _ _ _=>(gD g.G (B.mono (by decide)) (by rfl) g.D.m g.D.F.kp g.D.b .nil (d7 u) (aa (pv 0) ap)))) ap)))),?_⟩;walk_at "t";refine⟨by simp[VW],⟨_,q.sq⟩,λp t=>?_⟩;refine me (K:=K) (xs:=j.map V.int) (λi d f e=>δ H e/\e p=some (.lst d)/\d=((j.take i).map tI).map V.str/\∃v,f=[v]) ⟨δ.new _ t,au,rfl,_,rfl⟩ (λi d f e _ ⟨z,_⟩=>δ.ϫ z q.sq) ?_ ?_
 .rintro i x d f e N hN hi ⟨s2,h2,rfl,v,rfl⟩;obtain⟨n,l,rfl⟩:=List.μ hi;have I:i<j.length:=(ax.mp l).1;walk_at "";refine⟨n,rfl,nb n (aP l),λC r=>⟨r _ _ h2,d8 (by rw[ag,ag,bq];lia),hN _ _ _ ⟨(s2.trans r).put t _,au,?_,_,rfl⟩⟩⟩;rw[bg,l,aq,aq]
  rfl
 .rintro d f e ⟨s2,h2,rfl,v,rfl⟩;rw[ag,bC]at h2;exact⟨_,p,_,rfl,rfl,ι.of h2,LV nb y,k _ s2⟩
abbrev pG(P w base)(T:Txt K L):=Cb P w K L base "numbers_text" rB ["numbers"] 2 (uI T)
def xF(T:Txt K L):Sp:=λe H Q _=>E4 λ(a:Addr)(c:Bool)(as:hH)(b:List ϻ)=>e=[.ref a]/\VY c H a (as.map V.ref)/\Δ H as b/\b.length<=200/\(∀s∈b,Ye s)/\∀d,δ H d->Q (.str (XD b)) d
abbrev uc:Stmt:=top 86
def FP:ε ["steps"] ["steps"] (aA uc):=.of
def FX(T:Txt K L)(C:bI (τ P w))(l:pG P w base T):Ok P w K L base "steps_text" uc ["steps"] 3 (xF T):=λ_ _ D=>by
 refine D.F.Ο FP λW A r s H U Q E M h=>?_;obtain⟨a,c,as,n,rfl,j,f,I,nb,k⟩:=h;refine⟨_,(aw (bU (Ν cM (TB gN T.len (aa (γ 0) ap)) aD) (ay (aY bH)) bE) (ay (aY (sZ PySem.F.plainAttrs_str PySem.F.slot_str_join PySem.F.type_str_join zP bH (aa (gG rfl (md (Nc:=["step"]) 1 (by decide +kernel) (by decide +kernel) rfl (by decide +kernel) rfl) (vT c (γ 0)) (λ_ _ _ _=>(d6 (i:=0) (show(["step"]:hU).Nodup from by decide +kernel) rfl (Or.inl rfl))) (λ_ _ _ _=>gu) (λ_ _ _ _=>(gD l.G (M.mono (by decide)) (by rfl) l.D.m l.D.F.kp l.D.b .nil (d7 C) (aa (pv 0) ap)))) ap))))),?_⟩;walk_at "t";have y:as.length=n.length:=Paired.length f;refine⟨as.map V.ref,by cases c;exact .inr (Α.of j);exact .inl (ι.of j),?_⟩;rw[ag];unfold XD at k;by_cases t:((as.length:Nat):Int)=0
 .rw[aj (lL.mp (by lia))]at k;rw[aj t];exact k H (δ.refl _)
 .rw[ah λz=>t (by rw[y,z];rfl)]at k;rw[ah t];refine⟨by simp[VW],⟨_,j.sq⟩,λp B=>?_⟩;refine me (K:=K) (xs:=as.map V.ref) (λi d g e=>δ H e/\e p=some (.lst d)/\d=((n.take i).map V1).map V.str/\∃v,g=[v]) ⟨δ.new _ B,au,rfl,_,rfl⟩ (λi d g e _ ⟨z,_⟩=>δ.ϫ z j.sq) ?_ ?_
  .rintro i x d g e N hN hi ⟨s2,h2,rfl,v,rfl⟩;obtain⟨q,s,rfl,R,o,J⟩:=D3 f hi;have S:i<n.length:=(ax.mp o).1;walk_at "";refine⟨q,false,[s.1,s.2.1,s.2.2],rfl,s2 _ _ J,jA rfl,nb s (aP o),λO u=>⟨u _ _ h2,d8 (by rw[ag,ag,bq];lia),hN _ _ _ ⟨(s2.trans u).put B _,au,?_,_,rfl⟩⟩⟩;rw[bg,o,aq,aq]
   rfl
  .rintro d g e ⟨s2,h2,rfl,v,rfl⟩;rw[ag,y,bC]at h2;exact⟨_,p,_,rfl,rfl,ι.of h2,Mg nb I,k _ s2⟩
abbrev yA(P w base)(T:Txt K L):=Cb P w K L base "steps_text" uc ["steps"] 3 (xF T)
def uN(T:Txt K L):Sp:=λf H Q _=>E3 λ(p a:Addr)(w:Str)=>f=[.ref p]/\H p=some (.tup [.str w,.ref a])/\((∃(e:hH)(d:List ϻ),w="steps"/\H a=some (.lst (e.map V.ref))/\Δ H e d/\d.length<=48/\(∀s∈d,Ye s)/\∀b,δ H b->Q (.str (Str.ofString "steps " ++ XD d)) b)\/∃c:List Int,w="lack"/\H a=some (.tup (c.map V.int))/\c.length<=24/\(∀z∈c,Bt z)/\∀b,δ H b->Q (.str (Str.ofString "lack " ++ VD c)) b)
abbrev rz:Stmt:=top 113
def Ce:ε ["found"] ["found"] (aA rz):=.of
def Ch(T:Txt K L)(g:bI (τ P w))(m:pG P w base T)(j:yA P w base T):Ok P w K L base "meeting_text" rz ["found"] 4 (uN T):=λ_ _ D=>by
 refine D.F.Ο Ce λo A e s H n Q E i h=>?_;obtain⟨p,a,w,rfl,d,h⟩:=h;refine⟨_,(aw (bU (Ν cM (ψ eM (γ 0) aD) bH) (ay (aY (aX gI bH (Θ j i g (aa (ψ eM (γ 0) aD) ap))))) bE) (ay (aY (aX gI bH (Θ m i g (aa (ψ eM (γ 0) aD) ap)))))),?_⟩;walk_at "t";refine Dx (Α.of d) rfl ?_;rcases h with⟨qs,ss,rfl,ha,st,l,b,k⟩|⟨zs,rfl,ha,l,b,k⟩
 .rw[aj rfl];have:=Jz b l;exact⟨rfl,Dx (Α.of d) rfl ⟨a,true,qs,ss,rfl,ha,st,by lia,b,λc f=>⟨_,rfl,_,rfl,bX (by rw[show(Str.ofString "steps ").length=6 from rfl];lia),k c f⟩⟩⟩
 .rw[ah (Ϣ (by decide))];have:=zq b;exact⟨rfl,Dx (Α.of d) rfl ⟨a,false,zs,rfl,ha,by lia,b,λc f=>⟨_,rfl,_,rfl,bX (by rw[show(Str.ofString "lack ").length=5 from rfl];lia),k c f⟩⟩⟩
def Jj(T:Txt K L):Sp:=λi H Q E=>E9 λ(p a t:Addr)(c:Bool)(m:Int)(h:hH)(g:ix)(e:fc)(r:Int)=>i=[.ref p,.ref a,.int r]/\θ T.Web H p m t h g/\Ω K c H a (e.map V.int)/\e.length<=1000/\(bA m e=true->0<=r->r<m->∃d f,ζ m g r d f/\∀b,δ H b->Q (.int (Ϟ m g r d f (λv=>e.getD v.toNat 0) (ϯ g d) r)) b)/\(bA m e=false->∀b,δ H b->E (.ref T.BadLaying) none b)/\(bA m e=true->¬(0<=r/\r<m)->∀b,δ H b->E (.ref T.NoPlace) none b)
abbrev GD:Stmt:=top 67
def Qk:ε ["web","laying","r"] ["web","laying","r"] (aA GD):=.of
def Rk(T:Txt K L)(I:bI (τ P w))(n:CC P w base T):Ok P w K L base "most" GD ["web","laying","r"] 9 (Jj T):=λ_ _ D=>by
 refine D.F.Ϻ Qk λN A g s H M Q E G h=>?_;obtain⟨p,a,t,c,m,z,q,x,r,rfl,W,o,v,k,e,u⟩:=h;refine⟨_,(ay (aY (jT bu (Ξ n G bT (aa (γ 0) (aa (γ 1) (aa (γ 2) ap)))) (γ 2) (λ_ _=>rfl)))),?_⟩;walk_at "t";refine⟨p,a,t,c,m,z,q,x,r,?_⟩;refine an7 rfl W o v (λC f i=>?_) e u;obtain⟨b,d,R,k⟩:=k C f i;refine⟨b,d,R,λl j J B y=>?_⟩;refine Γ y (Ϲ f ?_) ?_
 .unfold oX;rw[ag,b6];lia
 .rw[uh f i];exact k j B
abbrev LO(P w base)(T:Txt K L):=Cb P w K L base "most" GD ["web","laying","r"] 9 (Jj T)
def uz(T:Txt K L):Sp:=λb H Q _=>∃z:Int,b=[.int z]/\Bt z/\∀a,δ H a->Q (.str (tI z)) a
abbrev qD:Stmt:=top 112
def Bh:ε ["number"] ["number"] (aA qD):=.of
def AY(T:Txt K L)(d:bI (τ P w))(e:p4 P w base T):Ok P w K L base "standing_text" qD ["number"] 2 (uz T):=λ_ _ D=>by
 refine D.F.Ο Bh λl A b s H j Q E f h=>?_;obtain⟨z,rfl,nb,k⟩:=h;refine⟨_,(aw (bU (Ν uY (γ 0) aD) (ay (aY (aX gI bH (Θ e f d (aa (lx ju (γ 0)) ap))))) bE) (ay (aY (Θ e f d (aa (γ 0) ap))))),?_⟩;walk_at "t";by_cases c:z<0
 .rw[aj c];have a:Bt (-z):=by show(-z).natAbs<_;rw[Int.natAbs_neg];exact nb
  refine⟨-z,rfl,a,λg i=>⟨_,rfl,_,rfl,?_,?_⟩⟩
  .have:=CQ a;exact bX (by rw[show(Str.ofString "-").length=1 from rfl];lia)
  .rw[LP c];exact k g i
 .rw[ah c];exact⟨z,rfl,nb,k⟩
def u7(T:Txt K L):Sp:=λc H Q E=>E7 λ(p t:Addr)(m:Int)(a:hH)(b:ix)(r x:Int)=>c=[.ref p,.int r,.int x]/\θ T.Web H p m t a b/\(0<=r->r<m->1<=x->Q .ο H)/\(¬(0<=r/\r<m)->E (.ref T.NoPlace) none H)/\(0<=r->r<m->x<1->E (.ref T.BadWish) none H)
abbrev o9:Stmt:=top 72
def Cz:ε ["web","r","wanted"] ["web","r","wanted"] (aA o9):=.of
def pH:Ψ (aA o9) "BadWish":=.of
def Da(T:Txt K L)(o:bI (τ P w))(f:lJ P w base T):Ok P w K L base "check_wanted" o9 ["web","r","wanted"] 3 (u7 T):=λ_ _ D=>by
 refine D.F.Ϻ Cz λu A a s H q Q E n h=>?_;obtain⟨p,t,m,l,i,r,x,rfl,W,k,e,j⟩:=h;refine⟨_,(aw (cH (Ξ f n bT (aa (γ 0) (aa (γ 1) ap)))) (ay (bU (Ν uY (γ 2) aD) (ay (rH T.TY rfl tK pH.g T.RW (aa bH ap) (hdb:=pH.d))) bE))),?_⟩;walk_at "t";refine⟨p,t,m,l,i,r,rfl,W,λc b=>?_,e⟩;show if x<1 then _ else _;by_cases z:x<1
 .rw[aj z];exact⟨by decide,j c b z⟩
 .rw[ah z];exact k c b (by lia)
abbrev rR(P w base)(T:Txt K L):=Cb P w K L base "check_wanted" o9 ["web","r","wanted"] 3 (u7 T)
def Au(T:Txt K L):Sp:=λi H Q E=>E10 λ(p b t:Addr)(c:Bool)(m:Int)(h:hH)(f:ix)(d:fc)(r w:Int)=>i=[.ref p,.int r,.int w,.ref b]/\θ T.Web H p m t h f/\Ω K c H b (d.map V.int)/\(d.length:Int)=m/\(∀x∈d,x.natAbs<2^4000)/\(w-1).natAbs<2^4000/\(0<=r->r<m->1<=w->∃a e,ζ m f r a e/\∀g,δ H g->Q (.int (UI m f r a d w)) g)/\(¬(0<=r/\r<m)->E (.ref T.NoPlace) none H)/\(0<=r->r<m->w<1->E (.ref T.BadWish) none H)
abbrev tm:Stmt:=top 71
def AE:ε ["web","r","wanted","weights","bound","place","front"] ["web","r","wanted","weights"] (aA tm):=.of
def Af:Ue (aA tm) "bound":=.of (by kernel_rfl)
def IR(T:Txt K L)(hq:bI (τ P w))(iu:rR P w base T)(dj:lf P w base T)(di:mP P w base T):Ok P w K L base "bound_by" tm ["web","r","wanted","weights"] 8 (Au T):=λ_ _ D=>by
 refine D.F.Ϻ AE λξ A U s H vs Q E X h=>?_;obtain⟨p,b,t,c,m,J,j,xs,r,w,rfl,W,Z,xl,xb,wb,k,e,e'⟩:=h;have g:=W.go;refine⟨_,(aw (cH (Ξ iu X bT (aa (γ 0) (aa (γ 1) (aa (γ 2) ap))))) (aw (Κ 4 (aX tL (ψ (CF c) (γ 3) (γ 1)) (aX jt (γ 2) aD))) (aw (gf PassesOwn.leaving rfl (iA (Ξ dj X bT (aa (γ 0) (aa (γ 1) ap)))) (iC (n:=2) rfl (bQ (ϊ 5) (bQ (ϊ 6) fJ))) (ay (Me (i:=4) AE.nd rfl (Or.inl Af.l) (aX ke (ψ (CF c) (γ 3) (γ 5)) (aX jt (Ξ di X bT (aa (γ 0) (aa (γ 5) (aa (γ 6) ap)))) aD)) sB))) (ay (aY (γ 4)))))),?_⟩;walk_at "t";refine⟨p,t,m,J,j,r,w,rfl,W,λG Y w1=>?_,e,e'⟩;obtain⟨a,y,R,k⟩:=k G Y w1;have gr:=Ϲ (xs:=xs) G (by lia);have hm:=QH (cs:=xs) (i:=r.toNat) (by lia);refine ixX Z gr ⟨_,rfl,RE (xb _ hm) wb,?_⟩;refine⟨p,t,m,J,j,r,?_⟩;refine Vl rfl W (λ_ _=>⟨a,y,R,λl2 qs tl H2 _ n2 M e2 pa O=>?_⟩) (λz=>absurd ⟨G,Y⟩ z);refine⟨l2,rfl,⟨_,ι.of e2⟩,?_⟩;have ql:qs.length=tl.reverse.length:=Paired.length pa;refine jL (K:=K) (xs:=qs.map V.ref) (λi f o=>o=H2/\∃(C S:Option V),f=[some (V.ref p),some (V.int r),some (V.int w),some (V.ref b),some (V.int (xs.getD r.toNat 0*(w-1)+((tl.reverse.take i).map (X9 j a xs)).sum)),C,S]) ⟨rfl,_,_,by rw[dU,cG,List.sum_nil,Int.add_zero]⟩ (λi f o _ z=>by rw[z.1];exact ι.of e2) ?_ ?_
 .rintro i x f o N BB ϒ hN hx ⟨rfl,C,S,rfl⟩;refine ϒ _ _ ?_;obtain⟨q,v,rfl,hq,hv,eq⟩:=pa.get hx;have I:=dP.mp (aP hv);have d:=O.ϓ v I;have u:=R.up v d.1 d.2 (O.ne I);obtain⟨kk,B,k0,k1⟩:=jw g R d.1 d.2 (O.ne I);walk_at "";refine⟨_,Α.of eq,rfl,_,_,rfl,_,_,rfl,rfl,?_⟩;refine ixX (δ.ϫ M Z) (Ϲ d.1 (by lia)) ?_;refine⟨p,t,m,J,j,v,a v,rfl,W.same M,λk' _ _ _ _ h=>?_,λz=>absurd ⟨d,u.1⟩ z,λ_ _ _ _ z=>by rw[B]at z;cases z⟩;rw[B]at h;cases h;refine⟨_,rfl,_,rfl,.inr ⟨by lia,by lia⟩,hN _ _ ⟨rfl,some (V.int v),some (V.int (a v)),?_⟩⟩;rw[Om hv];unfold X9;rw[B,Int.add_assoc]
  rfl
 .rintro BB f o ϒ ⟨rfl,C,S,rfl⟩;refine ϒ _ _ ?_;rw[ag,ql,bC,eB,List.sum_reverse,O.sums];walk_at "";exact k _ M
def EJ(T:Txt K L):Sp:=λf H Q E=>E7 λ(p t:Addr)(m:Int)(e:hH)(d:ix)(r w:Int)=>f=[.ref p,.int r,.int w]/\θ T.Web H p m t e d/\w<=10^60/\-(10^60)<=w/\(0<=r->r<m->1<=w->∃b c,ζ m d r b c/\∀a,δ H a->Q (.int (UI m d r b (ic m d r b c) w+1)) a)/\(¬(0<=r/\r<m)->∀a,δ H a->E (.ref T.NoPlace) none a)/\(0<=r->r<m->w<1->∀a,δ H a->E (.ref T.BadWish) none a)
abbrev BE:Stmt:=top 74
def L8:ε ["web","r","wanted"] ["web","r","wanted"] (aA BE):=.of
def M8(T:Txt K L)(M:bI (τ P w))(x:Cb P w K L base "bound_by" tm ["web","r","wanted","weights"] 8 (Au T))(J:qw P w base T):Ok P w K L base "enough" BE ["web","r","wanted"] 9 (EJ T):=λ_ _ D=>by
 refine D.F.Ϻ L8 λO A n s H N Q E v h=>?_;obtain⟨p,t,m,j,a,r,w,rfl,W,G,y,k,e,B⟩:=h;have g:=W.go;have m1:=g.m1;refine⟨_,(ay (aY (aX gc (Ξ x v bT (aa (γ 0) (aa (γ 1) (aa (γ 2) (aa (Ξ J v bT (aa (γ 0) (aa (γ 1) ap))) ap))))) aD))),?_⟩;walk_at "t";refine⟨p,t,m,j,a,r,rfl,W,λc b=>?_,e⟩;have u:(w-1).natAbs<2^4000:=Ll y G;by_cases f:1<=w
 .obtain⟨par,dep,R,k⟩:=k c b f;refine⟨par,dep,R,λl q nl d i=>?_⟩;have o:((ic m a r par dep).length:Int)=m:=by rw[tF];lia
  exact⟨p,l,t,true,m,j,a,ic m a r par dep,r,w,rfl,W.same d,ι.of i,o,EB g R,u,λ_ _ _=>⟨par,dep,R,λC I=>⟨_,rfl,k C (d.trans I)⟩⟩,λz=>absurd ⟨c,b⟩ z,λ_ _ z=>absurd f (by lia)⟩
 .obtain⟨par,dep,R⟩:=sC g c b;refine⟨par,dep,R,λl q nl d i=>?_⟩;have o:((ic m a r par dep).length:Int)=m:=by rw[tF];lia
  exact⟨p,l,t,true,m,j,a,ic m a r par dep,r,w,rfl,W.same d,ι.of i,o,EB g R,u,λ_ _ z=>absurd z f,λz=>absurd ⟨c,b⟩ z,λ_ _ z=>B c b z q d⟩
abbrev Bp(P w base)(T:Txt K L):=Cb P w K L base "enough" BE ["web","r","wanted"] 9 (EJ T)
def B6(T:Txt K L):Sp:=λg H Q E=>E7 λ(p t:Addr)(m:Int)(e:hH)(c:ix)(w:Int)(f:fz)=>g=[.ref p,.int w]/\θ T.Web H p m t e c/\w<=10^60/\1<=w/\(∀r,0<=r->r<m->∃a b,ζ m c r a b/\UI m c r a (ic m c r a b) w+1=f r)/\∀l y j d,H l=none->δ H d->d l=some (.tup [.int y,.int j])->VB ((b7 m.toNat).map f) y j->Q (.ref l) d
abbrev su:Stmt:=top 78
def Cg:ε ["web","wanted","numbers","greatest"] ["web","wanted"] (aA su):=.of
def yn:Ue (aA su) "numbers":=.of (by kernel_rfl)
def BC:Ψ (aA su) "range":=.of
def Lq(T:Txt K L)(J:bI (τ P w))(c:Bp P w base T):Ok P w K L base "hardest" su ["web","wanted"] 10 (B6 T):=λ_ _ D=>by
 refine D.F.Ϻ Cg λξ A r s H vs Q E hr h=>?_;obtain⟨p,t,m,Y,U,w,f,rfl,W,X,w1,M,k⟩:=h;have g:=W.go;have m1:=g.m1;have Ζ:=g.Ζ;obtain⟨dx,ob⟩:=W.ob;refine⟨_,(aw (tE (i:=2) Cg.nd rfl yn.l rfl (UT ["r","web","wanted"] 1 [0,1]) (kG BC.g T.range (aa (cq (Ϩ 0) rfl) ap)) (λ_ _ _ _=>(d6 (i:=0) (show(["r","web","wanted"]:hU).Nodup from by decide +kernel) rfl (Or.inl rfl))) (λ_ _ _ _=>gu) (λ_ _ _ _=>(gD c.G (hr.mono (by decide)) (by rfl) c.D.m c.D.F.kp c.D.b .nil (d7 J) (aa (pv 1) (aa (pv 0) (aa (pv 2) ap)))))) (aw (Κ 3 (TB (MJ rfl) T.max (aa (γ 2) ap))) (ay (aY (hJ (aa (γ 3) (aa (sZ dv PySem.F.slot_list_index PySem.F.type_list_index Oe (γ 2) (aa (γ 3) ap)) ap))))))),?_⟩;walk_at "t";refine⟨T.Web,dx,_,ob,T.Ε,T.Λ,_,eP m t,m,rfl,by lia,by lia,λlo I=>?_⟩;refine kg (λi a e d=>δ H d/\d lo=some (.lst a)/\a=((b7 i).map f).map V.int/\∃v,e=[v,some (V.ref p),some (V.int w)]) ⟨δ.new _ I,au,rfl,_,rfl⟩ ?_ ?_
 .rintro i a e d N hN hi ⟨s3,e3,rfl,v,rfl⟩;rw[d9];obtain⟨n,o,R,Z⟩:=M (i:Int) (by lia) (by lia);walk_at "";refine⟨p,t,m,Y,U,(i:Int),w,rfl,W.same s3,X,by lia,λ_ _ _=>⟨n,o,R,λH4 C=>⟨C _ _ e3,d8 (by rw[ag,ag,b6];lia),hN _ _ _ ⟨(s3.trans C).put I _,au,?_,_,rfl⟩⟩⟩,λz=>absurd ⟨by lia,by lia⟩ z,λ_ _ z=>absurd z (by lia)⟩;rw[qG,aq,aq,Z]
  rfl
 .rintro a e d ⟨s3,e3,rfl,v,rfl⟩;walk_at "";have B:((b7 m.toNat).map f).length=m.toNat:=by rw[ag,b6]
  have ne:(b7 m.toNat).map f≠[]:=λz=>by rw[z]at B;simp at B;lia
  exact⟨(b7 m.toNat).map f,ι.of e3,ne,λy u O=>⟨S9 e3,lo,(b7 m.toNat).map f,y,rfl,rfl,e3,u,by lia,λj S Ur=>⟨bX (by simp),λq x=>k q y j _ (s3.free x) (s3.trans (δ.new _ x)) au ⟨u,O,j,rfl,S,Ur⟩⟩⟩⟩
abbrev Fu(P w base)(T:Txt K L):=Cb P w K L base "hardest" su ["web","wanted"] 10 (B6 T)
def Hi(T:Txt K L):Sp:=λh H Q E=>E7 λ(p t:Addr)(m:Int)(g:hH)(c:ix)(r w:Int)=>h=[.ref p,.int r,.int w]/\θ T.Web H p m t g c/\(0<=r->r<m->1<=w->∃a b,ζ m c r a b/\∀f d l e,eX m c r a b r=r::d->Order m r a d->To m c r a (S7 m c r a b d) w f->H l=none->δ H e->e l=some (.tup (((b7 m.toNat).map (lies (S7 m c r a b d) f)).map V.int))->Q (.ref l) e)/\(¬(0<=r/\r<m)->E (.ref T.NoPlace) none H)/\(0<=r->r<m->w<1->E (.ref T.BadWish) none H)
abbrev rh:Stmt:=top 75
def Ba:ε ["web","r","wanted","chosen","counts","place","front","given"] ["web","r","wanted"] (aA rh):=.of
def Dp:VX (aA rh) "chosen":=.of (by kernel_rfl)
def BS:VX (aA rh) "counts":=.of (by kernel_rfl)
def zY:Ψ (aA rh) "reversed":=.of
def DV:Ψ (aA rh) "range":=.of
def OL(T:Txt K L)(hq:bI (τ P w))(qh:Fk P w base T)(iu:rR P w base T)(dj:lf P w base T)(di:mP P w base T):Ok P w K L base "worst" rh ["web","r","wanted"] 10 (Hi T):=λ_ _ D=>by
 refine D.F.Ϻ Ba λξ A a6 s H vs Q E hr h=>?_;obtain⟨p,t,m,ps,B,r,w,rfl,W,k,e,e'⟩:=h;have g:=W.go;have m1:=g.m1;have Ζ:=g.Ζ;obtain⟨dx,ob⟩:=W.ob;refine⟨_,(aw (cH (Ξ iu hr bT (aa (γ 0) (aa (γ 1) (aa (γ 2) ap))))) (aw (sv (i:=3) Ba.nd rfl (Or.inr Dp.l) (Ξ qh hr bT (aa (γ 0) (aa (γ 1) ap)))) (aw (sv (i:=4) Ba.nd rfl (Or.inr BS.l) (aX oU (eL (aa aD ap)) (cq (γ 0) rfl))) (aw (jq (aX jt (γ 2) aD) (nL (Ϩ 4) (γ 1) gJ)) (aw (gf PassesOwn.leaving rfl (tT zY.g T.reversed (Ξ dj hr bT (aa (γ 0) (aa (γ 1) ap)))) (iC (n:=2) rfl (bQ (ϊ 5) (bQ (ϊ 6) fJ))) (aw (Κ 7 (Gr (Ν cM (ψ bu (Ϩ 3) (γ 6)) (γ 5)) (ψ bu (Ϩ 4) (γ 6)) aD)) (ay (jq (aX jt (aX ke (aX gc (γ 7) aD) (Ξ di hr bT (aa (γ 0) (aa (γ 5) (aa (γ 6) ap))))) aD) (nL (Ϩ 4) (γ 5) gJ))))) (ay (aY (iO gi T.tuple (aa (gG rfl (UT ["place","counts","chosen"] 1 [4,3]) (kG DV.g T.range (aa (cq (γ 0) rfl) ap)) (λ_ _ _ _=>(d6 (i:=0) (show(["place","counts","chosen"]:hU).Nodup from by decide +kernel) rfl (Or.inl rfl))) (λ_ _ _ _=>gu) (λ_ _ _ _=>(Gr (CI (Nx (ψ (oM K rfl) (pv 2) (pv 0)))) (ψ (oM K rfl) (pv 1) (pv 0)) aD))) ap))))))))),?_⟩;walk_at "t";refine⟨p,t,m,ps,B,r,w,rfl,W,λr0 r1 w1=>?_,e,e'⟩;obtain⟨c,I,R,k⟩:=k r0 r1 w1;refine⟨p,t,m,ps,B,r,rfl,W,λ_ _=>⟨c,I,R,λM G H0 et O nc s0 ec=>?_⟩,λz=>absurd ⟨r0,r1⟩ z⟩;generalize Vv:S7 m B r c I M=ch at ec k;refine⟨bX (by simp),λl0 n0=>?_⟩;have s1:=δ.new (.lst [V.int 0]) n0;refine⟨T.Web,dx,_,s1 _ _ (s0 _ _ ob),T.Ε,T.Λ,_,eP m t,?_⟩;refine⟨l0,m,_,rfl,rfl,au,by lia,by lia,bX (by simp;lia),λl n1=>?_⟩;rw[F2];have s2:=s1.trans (δ.new (.lst (List.replicate m.toNat (V.int 0))) n1);have nl:=(s0.trans s1).free n1;have ac:G≠l:=λz=>by rw[<-z,s1 _ _ ec]at n1;cases n1
 have e1:upd (upd H0 l0 (.lst [V.int 0])) l (.lst (List.replicate m.toNat (V.int 0))) l=some (.lst ((List.replicate m.toNat (0:Int)).map V.int)):=by rw[au,hV]
 generalize upd (upd H0 l0 (.lst [V.int 0])) l (.lst (List.replicate m.toNat (V.int 0)))=H1 at s2 e1 ⊢;refine om e1 r0 (by rw[ag,b8];lia) ?_;rw[<-cT];have st:Y7 m B r c ch w [] ((List.replicate m.toNat (0:Int)).set r.toNat (w-1)):=⟨by rw[bN,b8];lia,by rw[Bo _ _ _ _ (by rw[b8];lia),aj rfl],λv hv=>by cases hv⟩;have Um:=(s0.trans s2).put nl (.lst (((List.replicate m.toNat (0:Int)).set r.toNat (w-1)).map V.int));have e3:upd H1 l (.lst (((List.replicate m.toNat (0:Int)).set r.toNat (w-1)).map V.int)) l=some (.lst (((List.replicate m.toNat (0:Int)).set r.toNat (w-1)).map V.int)):=au;have Z:upd H1 l (.lst (((List.replicate m.toNat (0:Int)).set r.toNat (w-1)).map V.int)) G=some (.lst (Vm m ch)):=by rw[aM ac];exact s2 _ _ ec
 generalize upd H1 l (.lst (((List.replicate m.toNat (0:Int)).set r.toNat (w-1)).map V.int))=H3 at Um e3 Z ⊢;generalize (List.replicate m.toNat (0:Int)).set r.toNat (w-1)=ba at st e3;refine⟨p,t,m,ps,B,r,?_⟩;refine Vl rfl (W.same Um) (λ_ _=>⟨c,I,R,λl2 qs cl H4 o n2 s4 e4 pa _=>?_⟩) (λz=>absurd ⟨r0,r1⟩ z);rw[et]at o;injection o with _ o
 subst o;have VP:l2≠l:=λz=>by rw[z,e3]at n2;cases n2
 have ql:qs.length=M.reverse.length:=Paired.length pa;rw[aQ]at ql;refine⟨l2,rfl,_,ι.of e4,?_⟩;refine rq (K:=K) (xs:=qs.map V.ref) (λi C j=>δ H j/\j G=some (.lst (Vm m ch))/\j l2=some (.lst (qs.map V.ref))/\ω j c qs M.reverse/\E4 λ(f:fc)(v5 v6 X:Option V)=>j l=some (.lst (f.map V.int))/\Y7 m B r c ch w (M.take i) f/\C=[some (V.ref p),some (V.int r),some (V.int w),some (V.ref G),some (V.ref l),v5,v6,X]) ⟨Um.trans s4,s4 _ _ Z,e4,pa,ba,_,_,_,s4 _ _ e3,by rw[dU];exact st,rfl⟩ (λi C j _ z=>ι.of z.2.2.1) ?_ ?_
 .rintro i x C j N hN hx ⟨s5,ec5,e5,Zv,f,v5,v6,X,c5,S,rfl⟩;have il:=(ax.mp hx).1;rw[aQ,ag]at il;rw[cu (by rw[ag];exact il),ag]at hx;obtain⟨q,v,rfl,Ti,hv,eq⟩:=Zv.get hx;rw[cu (by lia),show M.length-1-(qs.length-1-i)=i by lia]at hv;have vm:=aP hv;have J:=O.ϓ v vm;have vn:=O.ne vm;have u:=R.up v J.1 J.2 vn;obtain⟨kk,Y,k0,k1⟩:=jw g R J.1 J.2 vn;have ek:tup B c v=kk:=by unfold tup;rw[Y];rfl
  have sl:=S.len;walk_at "";refine⟨_,Α.of eq,rfl,_,_,rfl,_,_,rfl,rfl,?_⟩;have sc:uo (Va (ch (c v))) (V.int v)=true:=by cases ch (c v)<;>rfl
  have d:∀(gv:Int)(X:Option V),gv=(if ch (c v)=some v then f.getD (c v).toNat 0 else 0)->Wf (V.ref l) (V.int v) (V.int ((gv+1)*kk-1)) j λH3=>N [some (V.ref p),some (V.int r),some (V.int w),some (V.ref G),some (V.ref l),some (V.int v),some (V.int (c v)),X] H3:=λgv X hg=>by
   refine om c5 J.1 (by rw[ag];lia) (hN _ _ ⟨s5.put nl _,by rw[aM ac];exact ec5,by rw[aM VP];exact e5,Paired.imp' (λa b h=>by rw[aM (cZ h c5 (by nofun))];exact h) Zv,_,_,_,_,by rw[au,<-cT],S.step R O r0 hv (by rw[ek,hg]),rfl⟩)
  refine Γ ec5 (D7 u.1.1 u.1.2) ⟨sc,?_⟩;by_cases z:ch (c v)=some v
  .rw[z]at d ⊢;rw[aj (show Va (some v)=V.int v from rfl)];refine Γ c5 (Ϲ u.1.1 (by lia)) ⟨_,rfl,p,t,m,ps,B,v,c v,rfl,W.same s5,λk' _ _ _ _ h=>?_,λz=>absurd ⟨J,u.1⟩ z,λ_ _ _ _ z=>by rw[Y]at z;cases z⟩;rw[Y]at h;cases h;exact⟨_,rfl,.inr ⟨by lia,by lia⟩,d _ _ (by rw[aj rfl])⟩
  .rw[ah (λy=>z (by cases e:ch (c v)with|none=>rw[e]at y;cases y|some b=>rw[e]at y;cases y;rfl))];refine⟨p,t,m,ps,B,v,c v,rfl,W.same s5,λk' _ _ _ _ h=>?_,λz=>absurd ⟨J,u.1⟩ z,λ_ _ _ _ z=>by rw[Y]at z;cases z⟩;rw[Y]at h;cases h;exact⟨_,rfl,.inr ⟨by lia,by lia⟩,d 0 _ (by rw[ah z])⟩
 .rintro C j ⟨s5,ec5,e5,Zv,f,v5,v6,X,c5,S,rfl⟩;rw[ag,ql,bC]at S;have N:=S.done O;have sl:=S.len;have W5:=W.same s5;obtain⟨a3,bd⟩:=W5.ob;walk_at "";refine⟨T.Web,a3,_,bd,T.Ε,T.Λ,_,eP m t,m,rfl,by lia,by lia,λpc T3=>?_⟩;refine kg (λi zs C U=>δ j U/\U pc=some (.lst zs)/\zs=((b7 i).map (lies ch λv=>f.getD v.toNat 0)).map V.int/\∃v,C=[v,some (V.ref l),some (V.ref G)]) ⟨δ.new _ T3,au,rfl,_,rfl⟩ ?_ ?_
  .rintro i zs C U N2 hN hi ⟨s6,e6,rfl,v,rfl⟩;rw[d9];have i0:(0:Int)<=(i:Int):=(by lia);have i1:(i:Int)<m:=(by lia);walk_at "";refine Γ (s6 _ _ ec5) (D7 i0 i1) ?_;have d:∀y:Int,y=lies ch (λv=>f.getD v.toNat 0) (i:Int)->U pc=some (.lst (((b7 i).map (lies ch λv=>f.getD v.toNat 0)).map V.int))/\(((b7 i).map (lies ch λv=>f.getD v.toNat 0)).map V.int).length<sizeLine/\N2 (((b7 i).map (lies ch λv=>f.getD v.toNat 0)).map V.int++[V.int y]) [some (V.int (i:Int)),some (V.ref l),some (V.ref G)] (upd U pc (.lst (((b7 i).map (lies ch λv=>f.getD v.toNat 0)).map V.int++[V.int y]))):=λy hy=>by
    refine⟨e6,d8 (by rw[ag,ag,b6];lia),hN _ _ _ ⟨s6.put T3 _,au,?_,_,rfl⟩⟩;rw[qG,aq,aq,hy]
    rfl
   cases e:ch (i:Int)with
   | none=>
     rw[aj (show Va none=V.ο from rfl)];exact Γ (s6 _ _ c5) (Ϲ i0 (by lia)) (d _ (by unfold lies;rw[aj e]))
   | some b=>
     rw[ah (show ¬Va (some b)=V.ο from by intro z;cases z)];exact d 0 (by unfold lies;rw[ah (by rw[e];intro z;cases z)])
  .rintro zs C U ⟨s6,e6,rfl,v,rfl⟩;refine⟨pc,rfl,_,.inl ⟨ι.of e6,λlr nr=>?_⟩⟩;have ad:=s5.trans s6;exact k _ M lr _ et O (by rw[Vv];exact N) (ad.free nr) (ad.trans (δ.new _ nr)) (by rw[au,Vv])
abbrev J6(P w base)(T:Txt K L):=Cb P w K L base "worst" rh ["web","r","wanted"] 10 (Hi T)
def xK(T:Txt K L):Sp:=λg H Q _=>E7 λ(p t:Addr)(m:Int)(f:hH)(c:ix)(r:Int)(n:Nat)=>g=[.ref p,.int r,.int (n+1:Nat)]/\θ T.Web H p m t f c/\(0<=r/\r<m)/\n+1<=2^4000/\∃a b,ζ m c r a b/\∀d e,Order m r a d->eX m c r a b r=r::d->δ H e->Q (.int (V2 m c r a b d r n)) e
abbrev qC:Stmt:=top 97
def FK:ε ["web","r","wanted"] ["web","r","wanted"] (aA qC):=.of
def qV:Ψ (aA qC) "Tally":=.of
def FG(T:Txt K L)(u:bI (τ P w))(I:Cm P w K L base (Mk K T.Tally) "__init__" "Tally.__init__" kX ["self","web","r"] 10 (sQ T))(iu:rR P w base T)(qm:Fe P w base T):Ok P w K L base "worst_many" qC ["web","r","wanted"] 12 (xK T):=λ_ _ D=>by
 refine D.F.Ο FK λξ A y s H vs Q E hr h=>?_;obtain⟨p,t,m,S,l,r,n,rfl,W,f,nb,a,i,R,k⟩:=h;have g:=W.go;refine⟨_,(aw (cH (Θ iu hr u (aa (γ 0) (aa (γ 1) (aa (γ 2) ap))))) (ay (aY (Θ qm hr u (aa (wE I.M I.G (hr.mono (by decide)) qV.g T.XE I.b .nil (d7 u) (aa (γ 0) (aa (γ 1) ap)) (hdb:=qV.d)) (aa (γ 1) (aa (aX jt (γ 2) aD) ap))))))),?_⟩;walk_at "t";refine⟨p,t,m,S,l,r,((n+1:Nat):Int),rfl,W,λ_ _ _=>?_,λz=>absurd f z,λ_ _ z=>absurd z (by lia)⟩;dsimp only;intro x q O N ne;have C:upd H q (.own x) x=none:=by rw[aM ne.symm];exact O
 have U:δ H (upd (upd H q (.own x)) x (.ins T.Tally q [])):=(δ.new _ N).trans (δ.new _ C);refine⟨x,q,p,t,m,S,l,r,rfl,au,W.same U,f,a,i,R,λv ld lw lb lk lr kl rv H2 TA Y=>⟨rfl,?_⟩⟩;have s2:δ H H2:=λb o e=>Y b o (U b o e) (cC e O);obtain⟨_,lp,aT,h1,h2,Z,V⟩:=TA.ϵ r f;obtain⟨sr,es⟩:=HX (kd m l r a r);rw[es]at V;obtain⟨J,ob⟩:=TA.ob;have V1:=wC (fr:=Wv m l r a i v) (be:=Ww m l r a i v) (c:=cK l a) g R f.1 f.2;have e1:((n+1:Nat):Int)-1=(n:Int):=by lia
 have e4:(2:Nat)^4000<=2^4000:=aJ _;cases V with
 | cons e he=>
   obtain⟨cs,c1,c2⟩:=e;have B:=c2.le (b':=15000) (Dr (by have:=rF g R f.1 f.2;have:=C2 g R f.1 f.2;have:=g.Ζ;lia));have cl:=B.len;rw[e1];refine⟨x,J,lr,lp,_,_,rv,_,r,cs,n,rfl,ob,vC _ _ _ _ _ _,TA.hr,f.1,h1,Z,c1,by lia,sy (k:=4000) (by lia) (by decide),λc hc=>sy (B.bt c hc) (by decide),λj hj=>Jt (x:=4000) nb (by lia),λH3 X=>?_⟩;rw[B.val];have:=k v H3 TA.or TA.et (s2.trans X);unfold V2 at this;rw[V1]at this;exact this
abbrev y9(P w base)(T:Txt K L):=Cb P w K L base "worst_many" qC ["web","r","wanted"] 12 (xK T)
def vR(T:Txt K L):Sp:=λg H Q _=>E9 λ(p t e:Addr)(m:Int)(f:hH)(b:ix)(w:Str)(d:List Nat)(a:Str)=>g=[.ref p,.str w,.ref e]/\θ T.Web H p m t f b/\H e=some (.lst (Yb d))/\iS m b w d a/\∀c,δ H c->Q (.str a) c
abbrev sJ:Stmt:=top 111
def DJ:ε ["web","word","numbers"] ["web","word","numbers"] (aA sJ):=.of
def Eu(T:Txt K L)(c:bI (τ P w))(V:Bp P w base T)(Y:Fu P w base T)(M:p4 P w base T)(O:pG P w base T)(X:J6 P w base T)(Z:y9 P w base T):Ok P w K L base "told_of_web" sJ ["web","word","numbers"] 13 (vR T):=λ_ _ D=>by
 refine D.F.Ο DJ λξ A J s H vs Q E d h=>?_;obtain⟨p,t,ln,m,G,C,w,ns,a,rfl,W,g,r,k⟩:=h;refine⟨_,(aw (bU (Ν cM (γ 1) bH) (ay (aY (Θ M d c (aa (Θ V d c (aa (γ 0) (aa (ψ bu (γ 2) aD) (aa (ψ bu (γ 2) aD) ap)))) ap)))) bE) (aw (bU (Ν cM (γ 1) bH) (ay (aY (Θ O d c (aa (Θ Y d c (aa (γ 0) (aa (ψ bu (γ 2) aD) ap))) ap)))) bE) (aw (bU (Ν cM (γ 1) bH) (ay (aY (Θ O d c (aa (Θ X d c (aa (γ 0) (aa (ψ bu (γ 2) aD) (aa (ψ bu (γ 2) aD) ap)))) ap)))) bE) (ay (aY (Θ M d c (aa (Θ Z d c (aa (γ 0) (aa (ψ bu (γ 2) aD) (aa (ψ bu (γ 2) aD) ap)))) ap))))))),?_⟩;walk_at "t"
 induction r with
 | @enough v w par dep h w1 w2 R b=>
   rw[aj rfl];exact Γ g rfl (Γ g rfl ⟨p,t,m,G,C,v,w,rfl,W,by lia,by lia,λ_ _ _=>⟨par,dep,R,λI u=>⟨_,rfl,b,λi o=>k i (u.trans o)⟩⟩,λz=>absurd ⟨by lia,h⟩ z,λ_ _ z=>absurd z (by lia)⟩)
 | @hardest w f zs w1 w2 hf hz l b=>
   rw[ah (Ϣ (by decide)),aj rfl];exact Γ g rfl ⟨p,t,m,G,C,w,f,rfl,W,by lia,by lia,hf,λq y j I _ u e B=>by
    have:=hz y j B;subst this;exact⟨q,false,[y,j],rfl,e,by lia,b,λi o=>k i (u.trans o)⟩⟩
 | @worst v w par dep tl zs h w1 w2 R et hz l b=>
   rw[ah (Ϣ (by decide)),ah (Ϣ (by decide)),aj rfl];exact Γ g rfl (Γ g rfl ⟨p,t,m,G,C,v,w,rfl,W,λ_ _ _=>⟨par,dep,R,λU S q I x _ N _ u e=>by
    rw[et]at x;cases x;have:=hz U N;subst this;exact⟨q,false,_,rfl,e,by lia,b,λi o=>k i (u.trans o)⟩⟩,λz=>absurd ⟨by lia,h⟩ z,λ_ _ z=>absurd z (by lia)⟩)
 | @many v w par dep tl h w1 w2 R et b=>
   rw[ah (Ϣ (by decide)),ah (Ϣ (by decide)),ah (Ϣ (by decide))];obtain⟨n,rfl⟩:∃n,w=n+1:=⟨w-1,by lia⟩;exact Γ g rfl (Γ g rfl ⟨p,t,m,G,C,v,n,rfl,W,⟨by lia,h⟩,Qe w2,par,dep,R,λS I _ x u=>by
    rw[et]at x;cases x;exact⟨_,rfl,b,λi o=>k i (u.trans o)⟩⟩)
def va(T:Txt K L):Sp:=λj H Q E=>E13 λ(o i f t c:Addr)(m:Int)(h:hH)(d:ix)(g:List (List Int×List Int))(s:List Int×List Int)(w:Str)(e:List Nat)(r:Sum Str Nat)=>j=[.ref o,.str w,.ref c]/\π T.Web T.Desk H o i f m t h d (g++[s])/\bA m s.1=true/\bA m s.2=true/\H c=some (.lst (Yb e))/\Li m d s.1 s.2 w e r/\(∀a,r=.inl a->∀b,δ H b->Q (.str a) b)/\(r=.inr 4->∀x b,δ H b->E (.ref T.NoWorst) x b)
abbrev rL:Stmt:=top 110
def Cd:ε ["desk","word","numbers"] ["desk","word","numbers"] (aA rL):=.of
def Dv(T:Txt K L)(hq:bI (τ P w))(i:nJ P w base T)(n:pL P w base T)(q9:Iq P w base T)(tN:Ji P w base T)(pb:DE P w base T)(qp:EX P w base T)(qZ:Cb P w K L base "meeting_text" rz ["found"] 4 (uN T))(wg:LO P w base T)(dY:p4 P w base T)(dz:pG P w base T)(gL:sY P w base T)(qL:Cb P w K L base "standing_text" qD ["number"] 2 (uz T))(mG:yA P w base T)(sI:Cb P w K L base "told_of_web" sJ ["web","word","numbers"] 13 (vR T)):Ok P w K L base "told_of_desk" rL ["desk","word","numbers"] 61 (va T):=λ_ _ D=>by
 refine D.F.Ϻ Cd λξ A ad s H vs Q E c h=>?_;obtain⟨o,B,pl,t,ln,m,x,u,ς,s,w,ns,r,rfl,O,U,I,Z,r,k,e4⟩:=h;have g:=O.web.go;refine⟨_,(aw (bU (Ν cM (γ 1) bH) (ay (aY (Ξ dz c bT (aa (gq (γ 0) T.η i.M i.G (c.mono (by decide)) i.b .nil bT) ap)))) bE) (aw (bU (Ν cM (γ 1) bH) (ay (aY (Ξ dz c bT (aa (gq (γ 0) T.η n.M n.G (c.mono (by decide)) n.b .nil bT) ap)))) bE) (aw (bU (Ν cM (γ 1) bH) (ay (aY (Ξ dY c bT (aa (Ξ wg c bT (aa (cq (γ 0) rfl) (aa (gq (γ 0) T.η i.M i.G (c.mono (by decide)) i.b .nil bT) (aa (ψ bu (γ 2) aD) ap)))) ap)))) bE) (aw (bU (Ν cM (γ 1) bH) (ay (aY (Ξ mG c bT (aa (Ξ tN c bT (aa (cq (γ 0) rfl) (aa (gq (γ 0) T.η i.M i.G (c.mono (by decide)) i.b .nil bT) (aa (ψ bu (γ 2) aD) ap)))) ap)))) bE) (aw (bU (Ν cM (γ 1) bH) (ay (aY (Ξ qL c bT (aa (Ξ gL c bT (aa (cq (γ 0) rfl) (aa (gq (γ 0) T.η i.M i.G (c.mono (by decide)) i.b .nil bT) (aa (gq (γ 0) T.η n.M n.G (c.mono (by decide)) n.b .nil bT) (aa (ψ bu (γ 2) aD) ap))))) ap)))) bE) (aw (bU (Ν cM (γ 1) bH) (ay (aY (Ξ qZ c bT (aa (Ξ qp c bT (aa (cq (γ 0) rfl) (aa (gq (γ 0) T.η i.M i.G (c.mono (by decide)) i.b .nil bT) (aa (gq (γ 0) T.η n.M n.G (c.mono (by decide)) n.b .nil bT) ap)))) ap)))) bE) (aw (bU (Ν cM (γ 1) bH) (ay (aY (Ξ dY c bT (aa (Ξ q9 c bT (aa (cq (γ 0) rfl) (aa (gq (γ 0) T.η n.M n.G (c.mono (by decide)) n.b .nil bT) ap))) ap)))) bE) (aw (bU (Ν cM (γ 1) bH) (ay (aY (Ξ dz c bT (aa (Ξ pb c bT (aa (cq (γ 0) rfl) (aa (gq (γ 0) T.η n.M n.G (c.mono (by decide)) n.b .nil bT) ap))) ap)))) bE) (ay (aY (Ξ sI c bT (aa (cq (γ 0) rfl) (aa (γ 1) (aa (γ 2) ap)))))))))))))),?_⟩;walk_at "s";have Ζ:=g.Ζ;have xl:=iw U;have yl:=iw I;have y:∀{P:Prop}{z:fc},bA m z=true->bA m z=false->P:=λa b=>by rw[a]at b;cases b
 walk_at "";have S:∀{R:V->Hp->Prop},(∀a,H a=some (.tup (s.1.map V.int))->R (.ref a) H)->rj T [.ref o] H R E:=λh=>⟨o,B,pl,t,m,x,u,ς,s,rfl,O,h⟩;have J:∀{R:V->Hp->Prop},(∀a,H a=some (.tup (s.2.map V.int))->R (.ref a) H)->ud T [.ref o] H R E:=λh=>⟨o,B,pl,t,m,x,u,ς,s,rfl,O,h⟩;rcases r with⟨r,n0⟩|⟨a,rfl,r⟩
 .induction r with
  | laying l b=>
    rw[aj rfl];exact O.Τ (S λa d=>⟨a,false,_,rfl,d,by lia,b,k _ rfl⟩)
  | wish l b=>
    rw[ah (Ϣ (by decide)),aj rfl];exact O.Τ (J λa d=>⟨a,false,_,rfl,d,by lia,b,k _ rfl⟩)
  | @most v par dep h R b=>
    repeat rw[ah (Ϣ (by decide))]
    rw[aj rfl];exact O.V3 T.η T.χ (O.Τ (S λa d=>Γ Z rfl ⟨B,a,t,false,m,x,u,s.1,v,rfl,O.web,Α.of d,by lia,λ_ _ _=>⟨par,dep,R,λC e=>⟨_,rfl,b,λf j=>k _ rfl f (e.trans j)⟩⟩,y U,λ_ z=>absurd ⟨by lia,h⟩ z⟩))
  | Ws h=>exact absurd rfl n0
  | @bring v par dep tl ss h R et es l b=>
    repeat rw[ah (Ϣ (by decide))]
    rw[aj rfl];refine O.V3 T.η T.χ (O.Τ (S λa d=>Γ Z rfl ⟨B,a,t,false,m,x,u,s.1,v,rfl,O.web,Α.of d,by lia,λ_ _ _=>⟨par,dep,R,λp qs Xb C Y n1 e N ba _=>?_⟩,y U,λ_ z=>absurd ⟨by lia,h⟩ z⟩));rw[et]at Y;cases Y;subst es;exact⟨p,true,qs,_,rfl,N,Ig ba,by lia,b,λf j=>k _ rfl f (e.trans j)⟩
  | Vb h=>exact absurd rfl n0
  | @stands v par dep h R b=>
    repeat rw[ah (Ϣ (by decide))]
    rw[aj rfl];exact O.V3 T.η T.χ (O.Τ (S λa d=>O.Τ (J λX W=>Γ Z rfl ⟨B,a,X,t,false,false,m,x,u,s.1,s.2,v,rfl,O.web,Α.of d,by lia,Α.of W,by lia,λ_ _ _ _=>⟨par,dep,R,λC e=>⟨_,rfl,b,λf j=>k _ rfl f (e.trans j)⟩⟩,y U,λ_=>y I,λ_ _ z=>absurd ⟨by lia,h⟩ z⟩)))
  | Uh h=>exact absurd rfl n0
  | @Wt ύ Ϛ tl ss RR et h es l b=>
    repeat rw[ah (Ϣ (by decide))]
    rw[aj rfl];refine O.V3 T.η T.χ (O.Τ (S λa d=>O.Τ (J λX W=>⟨B,a,X,t,false,false,m,x,u,s.1,s.2,rfl,O.web,Α.of d,by lia,Α.of W,by lia,λ_ _=>⟨ύ,Ϛ,RR,λ_ p q qs Xb C Y _ _ _ e N e2 st=>?_,λz=>absurd h z⟩,y U,λ_=>y I⟩)));rw[et]at Y;cases Y;subst es;exact⟨p,q,_,rfl,N,.inl ⟨qs,_,rfl,e2,st,l,b,λf j=>k _ rfl f (e.trans j)⟩⟩
  | @Wu ύ Ϛ zs RR h es l b=>
    repeat rw[ah (Ϣ (by decide))]
    rw[aj rfl];subst es;exact O.V3 T.η T.χ (O.Τ (S λa d=>O.Τ (J λX W=>⟨B,a,X,t,false,false,m,x,u,s.1,s.2,rfl,O.web,Α.of d,by lia,Α.of W,by lia,λ_ _=>⟨ύ,Ϛ,RR,λz=>absurd z h,λ_ p q C _ _ e N e2=>⟨p,q,_,rfl,N,.inr ⟨_,rfl,e2,l,b,λf j=>k _ rfl f (e.trans j)⟩⟩⟩,y U,λ_=>y I⟩)))
  | Ui h=>
    repeat rw[ah (Ϣ (by decide))]
    rw[aj rfl];exact O.V3 T.η T.χ (O.Τ (J λa d=>⟨B,a,t,false,m,x,u,s.2,rfl,O.web,Α.of d,by lia,λ_ z=>absurd h z,λ_ _ C e=>⟨0,rfl,by decide,λf j=>k _ rfl f (e.trans j)⟩,y I⟩))
  | @always par dep h R b=>
    repeat rw[ah (Ϣ (by decide))]
    rw[aj rfl];exact O.V3 T.η T.χ (O.Τ (J λa d=>⟨B,a,t,false,m,x,u,s.2,rfl,O.web,Α.of d,by lia,λ_ _=>⟨par,dep,R,λC e=>⟨_,rfl,b,λf j=>k _ rfl f (e.trans j)⟩⟩,λ_ z=>absurd z h,y I⟩))
  | Vc h=>
    repeat rw[ah (Ϣ (by decide))]
    rw[aj rfl];exact O.V3 T.η T.χ (O.Τ (J λa d=>⟨B,a,t,false,m,x,u,s.2,rfl,O.web,Α.of d,by lia,λ_ z=>absurd h z,y I,λ_ _=>e4 rfl none⟩))
  | @fails par dep zs h R es l b=>
    repeat rw[ah (Ϣ (by decide))]
    rw[aj rfl];subst es;exact O.V3 T.η T.χ (O.Τ (J λa d=>⟨B,a,t,false,m,x,u,s.2,rfl,O.web,Α.of d,by lia,λ_ _=>⟨par,dep,R,λp C _ e N=>⟨p,false,_,rfl,N,by lia,b,λf j=>k _ rfl f (e.trans j)⟩⟩,y I,λ_ z=>absurd z h⟩))
 .repeat rw[ah (Ϣ (QJ r (by decide)))]
  exact O.V3 T.η T.χ ⟨B,t,ln,m,x,u,w,ns,a,rfl,O.web,Z,r,λC e=>k _ rfl C e⟩
def yk(T:Txt K L):Sp:=λh H Q E=>XC λ(o g d t:Addr)(m:Int)(f:hH)(c:ix)(e:List (List Int×List Int))(s:List Int×List Int)(z:Str)(r:Sum Str Nat)(S:List (List Int×List Int))=>h=[.ref o,.str z]/\π T.Web T.Desk H o g d m t f c (e++[s])/\e.length<=500/\bA m s.1=true/\bA m s.2=true/\TF m c e s z r S/\(∀a,r=.inl a->∀b,π T.Web T.Desk b o g d m t f c S->Ϙ d H b->Q (.str a) b)/\(r=.inr 4->∀x b,δ H b->E (.ref T.NoWorst) x b)
abbrev ve:Stmt:=top 108
def GM:ε ["desk","row","words","numbers"] ["desk","row"] (aA ve):=.of
def Gq(T:Txt K L)(hq:bI (τ P w))(yp:Cb P w K L base "do_deed" y3 ["desk","word","numbers"] 10 (CY T))(uq:Cb P w K L base "read_words" ue ["words","many","at"] 3 (xJ T))(rC:Cb P w K L base "told_of_desk" rL ["desk","word","numbers"] 61 (va T))(X:DK w K T.NUMBERS_BEHIND nbK):Ok P w K L base "answer_of" ve ["desk","row"] 62 (yk T):=λ_ _ D=>by
 refine D.F.Ϻ GM λξ A I s H vs Q E C h=>?_;obtain⟨o,wb,W,t,m,ps,rs,Z,s,z,r,S,rfl,O,sl,fi,fj,⟨zl,b,d,ez,G,M,ra⟩,k,e4⟩:=h;refine⟨_,(aw (Κ 2 (sZ PySem.F.plainAttrs_str PySem.F.slot_str_split PySem.F.type_str_split Pi (γ 1) (aa bH ap))) (aw (bU (tG (Q9 w K rfl rfl X) (ψ bu (γ 2) aD) (pgl T.ϥ) (by with_unfolding_all rfl)) (ay kW) bE) (aw (Κ 3 (Ξ uq C bT (aa (Bs Ea (γ 2) (Es aD) DY) (aa (P3 w K rfl rfl X (pgl T.ϥ) (ψ bu (γ 2) aD) (λ_ _=>rfl)) (aa aD ap))))) (aw (bU (tG y8 (ψ bu (γ 2) aD) (pgl T.XF) (by with_unfolding_all rfl)) (aw (cH (Ξ yp C bT (aa (γ 0) (aa (ψ bu (γ 2) aD) (aa (γ 3) ap))))) (ay (aY bH))) bE) (ay (aY (Ξ rC C bT (aa (γ 0) (aa (ψ bu (γ 2) aD) (aa (γ 3) ap)))))))))),?_⟩;walk_at "s";unfold tSl FY Tj;refine db λN1 h1=>?_;walk_at "";refine⟨by simp[VW],z,rfl,_,rfl,rfl,zl,λl nl=>h1 _ _ (db λN2 h2=>?_)⟩;have Y:=δ.new (HO.lst ((Txt.split z (Str.ofString " ")).map V.str)) nl;have e:upd H l (HO.lst ((Txt.split z (Str.ofString " ")).map V.str)) l=some (.lst ((b::d.map FS).map V.str)):=by rw[au,<-ez];rfl
 generalize upd H l (HO.lst ((Txt.split z (Str.ofString " ")).map V.str))=R at Y e ⊢;have f:ϳ ((b::d.map FS).map V.str) 0=some (.str b):=fR (by decide) rfl;walk_at "";refine Γ e f ⟨b,rfl,rfl,_,rfl,?_⟩;rw[MO,M,ah (by exact bj)];refine h2 _ _ (db λN3 h3=>?_);walk_at "";refine⟨l,_,rfl,ι.of e,λu n2=>?_⟩;rw[Nb _ (by decide)];have s2:=Y.trans (δ.new (HO.lst (((b::d.map FS).map V.str).drop (1:Int).toNat)) n2);have J:=δ.new (HO.lst (((b::d.map FS).map V.str).drop (1:Int).toNat)) n2 _ _ e;have g:upd R u (HO.lst (((b::d.map FS).map V.str).drop (1:Int).toNat)) u=some (.lst ((d.map FS).map V.str)):=au;generalize upd R u (HO.lst (((b::d.map FS).map V.str).drop (1:Int).toNat))=H2 at s2 J g ⊢;refine Γ J f ⟨b,.int d.length,rfl,rfl,by rw[MO,M];rfl,?_⟩;refine⟨u,d,1,rfl,g,aW (KZ M) (by decide),G,λp H3 np U j=>?_⟩;refine h3 _ _ ?_;have v:=s2.trans U;have B:=O.same v;have N:=U _ _ J;walk_at "";refine Γ N f ⟨T.DEEDS,_,rfl,.inr T.XG.sq,rfl,rfl,_,rfl,?_⟩;rcases ra with⟨er,h⟩|⟨eS,h⟩
 .refine Yg (R8 h) ?_;exact Γ N f ⟨o,wb,W,t,p,m,ps,rs,Z,s,b,d,S,rfl,B,sl,fi,fj,j,h,λi O4 k4=>k _ er i O4 λc y h n=>k4 c y (v _ _ h) n⟩
 .refine UU (Qs h) ?_;exact Γ N f ⟨o,wb,W,t,p,m,ps,rs,Z,s,b,d,r,rfl,B,fi,fj,j,h,λa ea i q=>k a ea i (eS▸B.same q) λc y h n=>q _ _ (v _ _ h),λz x i q=>e4 z x i (v.trans q)⟩
def TR{K:hB}{C b:Addr}(d:Ta K b C){a:Addr}{c R2:Prop}(ne:a≠b)(n:a≠C)(h:R2):∃D,Value.ref C=Value.ref D/\∃x,PySem.W.mroIn K D (Value.ref a)=some x/\if x=true then c else R2:=⟨C,rfl,false,by rw[d.mr,bM ne,nX,bM n],h⟩
def hit{K:hB}{C b:Addr}(c:Ta K b C){a R2:Prop}(h:a):∃D,Value.ref C=Value.ref D/\∃x,PySem.W.mroIn K D (Value.ref C)=some x/\if x=true then a else R2:=⟨C,rfl,true,by rw[c.mr];simp,h⟩
def qY(T:Txt K L):Sp:=λg H Q _=>XC λ(o e c t:Addr)(m:Int)(f:hH)(a:ix)(d:List (List Int×List Int))(s:List Int×List Int)(z:Str)(r:Sum Str Nat)(S:List (List Int×List Int))=>g=[.ref o,.str z]/\π T.Web T.Desk H o e c m t f a (d++[s])/\d.length<=500/\bA m s.1=true/\bA m s.2=true/\TF m a d s z r S/\∀b,π T.Web T.Desk b o e c m t f a S->Ϙ c H b->Q (.str (AZ r)) b
abbrev ip:Stmt:=kL (top 107) 9
def Et:ε ["self","row"] ["self","row"] (aA ip):=.of
def pR:Ψ (aA ip) "BadText":=.of
def pT:Ψ (aA ip) "NoPlace":=.of
def oQ:Ψ (aA ip) "BadLaying":=.of
def pQ:Ψ (aA ip) "BadWish":=.of
def pS:Ψ (aA ip) "BadStep":=.of
def qo:Ψ (aA ip) "NoDeed":=.of
def pX:Ψ (aA ip) "NoWorst":=.of
def D9(T:Txt K L)(N:bI (τ P w))(I:Cb P w K L base "answer_of" ve ["desk","row"] 62 (yk T)):Vq P w K L base "answer" "Desk.answer" ip ["self","row"] 63 (qY T):=λ_ _ F=>by
 refine F.Ο Et λU A j s H R Q E M h=>?_;obtain⟨o,G,v,t,m,B,n,y,s,z,r,S,rfl,O,C,J,p,l,k⟩:=h;refine⟨_,(ay (RM rfl rfl rfl (Ov (QG (pyb I M (aa (γ 0) (aa (γ 1) ap))))) (xp T.VN.x pR.g T.VF (λ_=>(ay (aY bH))) (xp T.VH.x pT.g T.TV (λ_=>(ay (aY bH))) (xp T.UK.x oQ.g T.S8 (λ_=>(ay (aY bH))) (xp T.VJ.x pQ.g T.RW (λ_=>(ay (aY bH))) (xp T.VM.x pS.g T.VE (λ_=>(ay (aY bH))) (xp T.WB.x qo.g T.Wy (λ_=>(ay (aY bH))) (xp T.Χ.x pX.g T.TX (λ_=>(ay (aY bH))) R4 (hdb:=pX.d)) (hdb:=qo.d)) (hdb:=pS.d)) (hdb:=pQ.d)) (hdb:=oQ.d)) (hdb:=pT.d)) (hdb:=pR.d)))),?_⟩;walk_at "s";unfold P2 Dg;walk_at "";have q:∀{c:Nat},r=.inr c->∀f,δ H f->Q (.str (Rn c)) f:=λe f i=>by
  have:=k f;rw[e]at this;exact this (by rw[l.same e];exact O.same i) λb x h _=>i b x h
 exact⟨o,G,v,t,m,B,n,y,s,z,r,S,rfl,O,C,J,p,l,(λa e f D u=>by have:=k f D u;rw[e]at this;exact this),(λe x f i=>TR T.Χ (V0 T.Vr 9 0) (V0 T.Vr 9 6) (TR T.Χ (V0 T.Vr 2 0) (V0 T.Vr 2 6) (TR T.Χ (V0 T.Vr 4 0) (V0 T.Vr 4 6) (TR T.Χ (V0 T.Vr 5 0) (V0 T.Vr 5 6) (TR T.Χ (V0 T.Vr 8 0) (V0 T.Vr 8 6) (TR T.Χ (V0 T.Vr 7 0) (V0 T.Vr 7 6) (hit T.Χ (q e _ i))))))))⟩
def zg(T:Txt K L):Sp:=λe H Q _=>E5 λ(l:Addr)(d:hH)(c:ix)(a b:Int)=>e=[.ref l,.int a,.int b]/\H l=some (.lst (d.map V.ref))/\ν H d c/\(∀k,cJ c a b=some k->Q (.int k) H)/\(cJ c a b=none->Q .ο H)
abbrev vq:Stmt:=top 119
def HU:ε ["roads","a","b","one","other","there","back"] ["roads","a","b"] (aA vq):=.of
def HQ(T:Txt K L)(W:bI (τ P w)):Ok P w K L base "_law_price" vq ["roads","a","b"] 1 (zg T):=λ_ _ D=>by
 refine D.F.Ο HU λξ A C s H X Q E Z h=>?_;obtain⟨l,M,d,a,b,rfl,I,J,k,R⟩:=h;refine⟨_,(aw (gf PassesOwn.never rfl (iA (γ 0)) (iC (n:=4) rfl (bQ (ϊ 3) (bQ (ϊ 4) (bQ (ϊ 5) (bQ (ϊ 6) fJ))))) (aw (bU (PW.pt (t7 (Ν cM (γ 3) (γ 1)) (rN (Ν cM (γ 4) (γ 2))))) (ay (aY (γ 5))) bE) (ay (bU (PW.pt (t7 (Ν cM (γ 3) (γ 2)) (rN (Ν cM (γ 4) (γ 1))))) (ay (aY (γ 6))) bE)))) (ay (aY qy))),?_⟩;walk_at "t";have j:M.length=d.length:=Paired.length J;refine⟨⟨_,ι.of I⟩,?_⟩;refine uM (K:=K) (xs:=M.map V.ref) (λi m g=>g=H/\cJ (d.take i) a b=none/\∃y p G B,m=[some (V.ref l),some (V.int a),some (V.int b),y,p,G,B]) ⟨rfl,rfl,_,_,_,_,rfl⟩ (λi m g _ z=>by rw[z.1];exact ι.of I) ?_ ?_
 .rintro i x m g N hN hx ⟨rfl,Ur,y,p,G,B,rfl⟩;obtain⟨q,r,rfl,Y,o,S⟩:=J.get hx;have O:d.take (i+1)=d.take i++[r]:=by rw[bg,o];rfl
  have split:cJ d a b=(cJ (d.take i) a b).or ((ja a b r).or (cJ (d.drop (i+1)) a b)):=by
   have:d=d.take i++r::d.drop (i+1):=by
    have U:i<d.length:=(ax.mp o).1;have e:d[i]=r:=(by rw[az U]at o;exact bF o);rw[<-e,jg,de]
   conv=>lhs;rw[this]
   unfold cJ;rw[gC,hZ];cases ja a b r<;>rfl
  rw[Ur,Option.none_or]at split;walk_at "";refine⟨_,Α.of S,rfl,_,_,rfl,_,_,rfl,_,_,rfl,_,_,rfl,rfl,?_⟩;walk_at "";have c:ja a b r=none->N [some (V.ref l),some (V.int a),some (V.int b),some (V.int r.a),some (V.int r.b),some (V.int r.t),some (V.int r.u)] g:=λz=>hN _ _ ⟨rfl,by
   rw[O];unfold cJ at Ur ⊢;rw[gC,Ur,hZ,z]
   rfl,_,_,_,_,rfl⟩
  have f:∀v,ja a b r=some v->cJ d a b=some v:=λv z=>by rw[split,z];rfl
  unfold ja at c f;split
  .rename_i c1
   split
   .rename_i c2
    exact k _ (f _ (by rw[aj ⟨c1,c2⟩]))
   .rename_i c2
    split
    .rename_i c3
     split
     .rename_i c4
      exact k _ (f _ (by rw[ah (λz=>c2 z.2),aj ⟨c3,c4⟩]))
     .rename_i c4
      exact c (by rw[ah (λz=>c2 z.2),ah (λz=>c4 z.2)])
    .rename_i c3
     exact c (by rw[ah (λz=>c2 z.2),ah (λz=>c3 z.1)])
  .rename_i c1
   split
   .rename_i c3
    split
    .rename_i c4
     exact k _ (f _ (by rw[ah (λz=>c1 z.1),aj ⟨c3,c4⟩]))
    .rename_i c4
     exact c (by rw[ah (λz=>c1 z.1),ah (λz=>c4 z.2)])
   .rename_i c3
    exact c (by rw[ah (λz=>c1 z.1),ah (λz=>c3 z.1)])
 .rintro m g ⟨rfl,Ur,y,p,G,B,rfl⟩;rw[ag,j,bC]at Ur;walk_at "";exact R Ur
def xG(T:Txt K L):Sp:=λj H Q _=>E9 λ(l h i f:Addr)(g:hH)(d:ix)(m:Int)(s:List Int×List Int)(D:Dd)=>j=[.ref l,.ref h,.ref i,.str D.wd,.ref f]/\H l=some (.lst (g.map V.ref))/\ν H g d/\Good m d/\H h=some (.lst (s.1.map V.int))/\H i=some (.lst (s.2.map V.int))/\H f=some (.lst (D.ns.map V.int))/\(s.1.length:Int)=m/\(s.2.length:Int)=m/\D.Ok m d/\(∀v n,D≠.back v n)/\(Zb d s D=none->∀c,δ H c->Q .ο c)/\(∀e,Zb d s D=some e->∀q a b c,δ H c->H a=none->H b=none->c q=some (.tup [.ref a,.ref b])->c a=some (.lst (e.1.map V.int))->c b=some (.lst (e.2.map V.int))->Q (.ref q) c)
abbrev tV:Stmt:=top 121
def FA:ε ["roads","held","wish","deed","numbers","now","wants","each"] ["roads","held","wish","deed","numbers"] (aA tV):=.of
def FV(T:Txt K L)(hq:bI (τ P w))(vH:Cb P w K L base "_law_price" vq ["roads","a","b"] 1 (zg T)):Ok P w K L base "_law_behind" tV ["roads","held","wish","deed","numbers"] 2 (xG T):=λ_ _ D=>by
 refine D.F.Ο FA λξ A ai s H vs Q E hr h=>?_;obtain⟨l,la,lb,ln,ps,r,m,s,D',rfl,hl,ro,g,ha,hb,hn,xl,yl,ok,nb,kn,ks⟩:=h;have Ζ:=g.Ζ;refine⟨_,(aw (Κ 5 (iO jP T.list (aa (γ 1) ap))) (aw (Κ 6 (iO jP T.list (aa (γ 2) ap))) (aw (bU (Ν cM (γ 3) bH) (ay (jq (aX gc (ψ bu (γ 5) (jT bu (γ 4) aD (λ_ _=>rfl))) (ψ bu (γ 4) aD)) (nL (γ 5) (ψ bu (γ 4) aD) gJ))) bE) (aw (bU (Ν cM (γ 3) bH) (ay (jq (ψ bu (γ 4) aD) (nL (γ 6) (ψ bu (γ 4) aD) gJ))) bE) (aw (bU (Ν cM (γ 3) bH) (aw (Κ 7 (Θ vH hr hq (aa (γ 0) (aa (ψ bu (γ 4) aD) (aa (ψ bu (γ 4) aD) ap))))) (aw (bU (PW.pt (zI (CI (Nx (γ 7))) (zI (Ν uY (ψ bu (γ 4) aD) aD) (CB (Ν uY (ψ bu (γ 5) (jT bu (γ 4) aD (λ_ _=>rfl))) (aX ke (γ 7) (ψ bu (γ 4) aD))))))) (ay (aY qy)) bE) (aw (jq (aX jt (ψ bu (γ 5) (jT bu (γ 4) aD (λ_ _=>rfl))) (aX ke (γ 7) (ψ bu (γ 4) aD))) (nL (γ 5) (ψ bu (γ 4) aD) gJ)) (ay (jq (aX gc (ψ bu (γ 5) (jT bu (γ 4) aD (λ_ _=>rfl))) (ψ bu (γ 4) aD)) (nL (γ 5) (ψ bu (γ 4) aD) gJ)))))) bE) (ay (aY (hJ (aa (γ 5) (aa (γ 6) ap)))))))))),?_⟩;walk_at "s";refine db λN1 h1=>?_;walk_at "";refine⟨_,.inl (ι.of ha),λf N=>h1 _ _ (db λN2 G=>?_)⟩;have R:=δ.new (.lst (s.1.map V.int)) N;have e1:upd H f (.lst (s.1.map V.int)) f=some (.lst (s.1.map V.int)):=au;generalize upd H f (.lst (s.1.map V.int))=H1 at R e1 ⊢;walk_at "";refine⟨_,.inl (ι.of (R _ _ hb)),λj S=>?_⟩;have s2:=δ.new (.lst (s.2.map V.int)) S;have Z:upd H1 j (.lst (s.2.map V.int)) j=some (.lst (s.2.map V.int)):=au;have x:=s2 _ _ e1;have o:=R.trans s2;have WD:=R.free S;have W:f≠j:=λz=>by rw[<-z,e1]at S;cases S
 generalize upd H1 j (.lst (s.2.map V.int))=X at Z x o ⊢;have e:=o _ _ hn;have i:∀(y:Hp)(J:List Int×List Int),δ H y->Zb r s D'=some J->y f=some (.lst (J.1.map V.int))->y j=some (.lst (J.2.map V.int))->[V.ref f,V.ref j].length<=sizeLine/\∀(p:Addr),y p=none->Q (V.ref p) (upd y p (HO.tup [V.ref f,V.ref j])):=λy J M es f1 f2=>⟨bX (by simp),λp np=>by
  have s4:=δ.new (.tup [V.ref f,V.ref j]) np;exact ks J es p f j _ (M.trans s4) N WD au (s4 _ _ f1) (s4 _ _ f2)⟩
 clear h1;cases D' with
 | put v n=>
   obtain⟨U,n0⟩:=ok;refine G _ _ (db λN3 k=>lN λA B d c=>?_);simp only[Dd.wd];walk_at "";refine d _ _ ?_;walk_at "";refine Γ e rfl (Γ x (Ϲ U.1 (by lia)) (Γ e rfl ⟨_,rfl,_,rfl,Γ e rfl (om x U.1 (by rw[ag];lia) (k _ _ (db λN4 t=>lN λA B d c=>?_)))⟩));clear G k;walk_at "";refine UU (XA (by decide +kernel)) (c _ _ (t _ _ (db λN5 I=>lN λA B d c=>?_)));clear t;walk_at "";refine UU (XA (by decide +kernel)) (c _ _ (I _ _ ?_));walk_at "";exact i _ _ (o.put N _) rfl (by rw[au,<-cT]) (by rw[aM W.symm];exact Z)
 | want v n=>
   obtain⟨U,n0⟩:=ok;refine G _ _ (db λN3 k=>lN λA B d c=>?_);simp only[Dd.wd];walk_at "";refine UU (XA (by decide +kernel)) (c _ _ (k _ _ (db λN4 t=>lN λA B d c=>?_)));clear G k;walk_at "";refine d _ _ ?_;walk_at "";refine Γ e rfl (Γ e rfl (om Z U.1 (by rw[ag];lia) (t _ _ (db λN5 I=>lN λA B d c=>?_))));clear t;walk_at "";refine UU (XA (by decide +kernel)) (c _ _ (I _ _ ?_));walk_at "";exact i _ _ (o.put WD _) rfl (by rw[aM W];exact x) (by rw[au,<-cT])
 | back v n=>exact absurd rfl (nb v n)
 | step a b n=>
   obtain⟨ad,nr⟩:=ok;obtain⟨Y,ek,kr⟩:=Bb g ad;obtain⟨ar,br,bm⟩:=g.WW ad;have td:jI r a b=Y:=by unfold jI;rw[ek];rfl
   refine G _ _ (db λN3 k=>lN λA B d c=>?_);simp only[Dd.wd];walk_at "";refine UU (XA (by decide +kernel)) (c _ _ (k _ _ (db λN4 t=>lN λA B d c=>?_)));clear G k;walk_at "";refine UU (XA (by decide +kernel)) (c _ _ (t _ _ (db λN5 I=>lN λA B d c=>?_)));clear t;walk_at "";refine d _ _ (db λM1 k1=>?_);clear d c;walk_at "";refine Γ e rfl (Γ e rfl ⟨l,ps,r,a,b,rfl,o _ _ hl,ν.same o ro,λk' WY=>k1 _ _ (db λM2 k2=>lN λA B d c=>?_),λz=>by rw[ek]at z;cases z⟩);rw[ek]at WY;cases WY;clear k1;walk_at "";refine UU (by nofun) (Γ e rfl ⟨_,rfl,UU (by lia) ?_⟩);refine Γ e rfl (Γ x (Ϲ ar.1 (by lia)) (Γ e rfl ⟨_,rfl,.inl ⟨by lia,by lia⟩,_,rfl,?_⟩));by_cases z:s.1.getD a.toNat 0<Y*n
   .refine Yg z (d _ _ ?_);walk_at "";refine kn ?_ X o;show(if n*jI r a b<=s.1.getD a.toNat 0 then _ else none)=none;rw[td,ah (by rw[fV];lia)]
   .refine UU z (c _ _ (k2 _ _ (db λM3 k3=>?_)));clear d c k2;have z':n*jI r a b<=s.1.getD a.toNat 0:=(by rw[td,fV];lia);have es:Zb r s (.step a b n)=some (pp r s.1 (a,b,n),s.2):=aj z';walk_at "";refine Γ e rfl (Γ x (Ϲ ar.1 (by lia)) (Γ e rfl ⟨_,rfl,.inl ⟨by lia,by lia⟩,_,rfl,Γ e rfl (om x ar.1 (by rw[ag];lia) (k3 _ _ ?_))⟩));rw[<-cT];obtain⟨q,C⟩:∃q,q=s.1.set a.toNat (s.1.getD a.toNat 0-Y*n):=⟨_,rfl⟩;rw[<-C];have b1:(q.length:Int)=m:=(by rw[C,bN];exact xl);have M:=o.put N (.lst (q.map V.int));have W7:upd X f (.lst (q.map V.int)) f=some (.lst (q.map V.int)):=au;have O:upd X f (.lst (q.map V.int)) j=some (.lst (s.2.map V.int)):=(by rw[aM W.symm];exact Z);generalize upd X f (.lst (q.map V.int))=y at M W7 O ⊢;have u:=M _ _ hn;clear k3;walk_at "";refine Γ u rfl (Γ W7 (Ϲ br.1 (by lia)) (Γ u rfl ⟨_,rfl,_,rfl,Γ u rfl (om W7 br.1 (by rw[ag];lia) (I _ _ ?_))⟩));clear I;walk_at "";refine i _ _ (M.put N _) es ?_ (by rw[aM W.symm];exact O);rw[au,<-cT];show _=some (HO.lst ((pp r s.1 (a,b,n)).map V.int));unfold pp;rw[td,C,fV Y n]
def AK(T:Txt K L):Sp:=λf H Q _=>E5 λ(l:Addr)(c m:Int)(e:hH)(d:ix)=>f=[.int c,.int m,.ref l]/\H l=some (.lst (e.map V.ref))/\ν H e d/\Good m d/\∀q b a (D:Dd),D.Ok m d->(∀y∈D.ns,0<=y/\y<10^60)->H b=none->δ H a->a q=some (.tup [.str D.wd,.ref b])->a b=some (.lst (D.ns.map V.int))->Q (.ref q) a
abbrev qK:Stmt:=top 120
def Am:ε ["cell","many","roads","place","amount","one","other","there","back"] ["cell","many","roads"] (aA qK):=.of
def Dj:Ue (aA qK) "one":=.of (by kernel_rfl)
def zS:Ue (aA qK) "other":=.of (by kernel_rfl)
def IC(T:Txt K L)(hq:bI (τ P w)):Ok P w K L base "_law_deed" qK ["cell","many","roads"] 1 (AK T):=λ_ _ D=>by
 refine D.F.Ο Am λξ A S s H vs Q E hr h=>?_;obtain⟨l,c,m,I,rs,rfl,O,ro,g,k⟩:=h;have m1:=g.m1;have Ζ:=g.Ζ;have U:0<m:=by lia
 have f:∀(x n:Int),0<n->0<=x%n/\x%n<n:=λx n h=>⟨cL x (lP h),cP x h⟩;refine⟨_,(aw (Κ 3 (aX eE (aX eY (γ 0) aD) (γ 1))) (aw (Κ 4 (aX eE (aX eY (γ 0) aD) aD)) (aw (bU (Ν cM (aX eE (aX eY (γ 0) aD) aD) aD) (ay (Κ 4 (aX eE (aX eY (γ 0) aD) (aX Du aD aD)))) bE) (aw (bU (Ν cM (aX eE (aX eY (γ 0) aD) aD) aD) (ay (Κ 4 (aX jt (aX jt (aX Du aD aD) aD) (aX eE (aX eY (γ 0) aD) aD)))) bE) (aw (bU (PW.pt (t7 (Ν cM (aX eE (γ 0) aD) aD) (rN (Ν wP (TB gN T.len (aa (γ 2) ap)) aD)))) (aw (jq (ψ bu (γ 2) (aX eE (aX eY (γ 0) aD) (TB gN T.len (aa (γ 2) ap)))) (iC (n:=4) rfl (bQ (ϊ 5) (bQ (ϊ 6) (bQ (ϊ 7) (bQ (ϊ 8) fJ)))))) (aw (bU (Ν cM (aX eE (aX eY (γ 0) aD) aD) aD) (ay (QQ (i:=5) (j:=6) rfl Am.nd rfl rfl (by decide) Dj.l zS.l (aa (γ 6) (aa (γ 5) ap)) (by kernel_rfl))) bE) (ay (aY (hJ (aa bH (aa (eL (aa (γ 5) (aa (γ 6) (aa (aX gc aD (aX eE (aX eY (γ 0) aD) aD)) ap)))) ap))))))) bE) (ay (aY (hJ (aa (jT bu (eL (aa bH (aa bH (aa bH (aa bH (aa bH ap)))))) (aX eE (γ 0) aD) (λ_ _=>rfl)) (aa (eL (aa (γ 3) (aa (γ 4) ap))) ap)))))))))),?_⟩;walk_at "s";refine db λN1 h1=>?_;walk_at "";refine⟨⟨by decide,by decide⟩,U,h1 _ _ (db λN2 h2=>?_)⟩;have t:=f (c/5) m U;generalize c/5%m=v at t ⊢;walk_at "";refine⟨⟨by decide,by decide⟩,by decide,h2 _ _ (db λN3 X=>?_)⟩;have d:=f (c/120) 13 (by decide);replace d:0<=c/120%13/\c/120%13<10^60:=by lia
 generalize c/120%13=n at d ⊢;have k3:∀n,0<=n/\n<10^60->N3 [some (V.int c),some (V.int m),some (V.ref l),some (V.int v),some (V.int n),none,none,none,none] H:=λn d=>by
  refine X _ _ (db λN4 h4=>?_);have k4:∀n,0<=n/\n<10^60->N4 [some (V.int c),some (V.int m),some (V.ref l),some (V.int v),some (V.int n),none,none,none,none] H:=λn d=>by
   refine h4 _ _ (db λN5 h5=>?_);have e:N5 [some (V.int c),some (V.int m),some (V.ref l),some (V.int v),some (V.int n),none,none,none,none] H:=by
    refine h5 _ _ ?_;walk_at "";refine⟨bX (by simp),λq1 n1=>⟨by decide,?_⟩⟩;have C:=δ.new (.lst [V.str "put",V.str "put",V.str "want",V.str "put",V.str "back"]) n1;have bd:∀y∈[v,n],0<=y/\y<10^60:=λy u=>by
     simp only[aE,fN,or_false]at u;rcases u with rfl|rfl<;>lia
    obtain⟨D,hD,ok,en⟩:∃D:Dd,ϳ [V.str "put",V.str "put",V.str "want",V.str "put",V.str "back"] (c%5)=some (.str D.wd)/\D.Ok m rs/\D.ns=[v,n]:=by
     have h5:=f c 5 (by decide);rcases(show c%5=0\/c%5=1\/c%5=2\/c%5=3\/c%5=4 by lia)with z|z|z|z|z<;>rw[z]
     .exact⟨.put v n,rfl,⟨t,d.1⟩,rfl⟩
     .exact⟨.put v n,rfl,⟨t,d.1⟩,rfl⟩
     .exact⟨.want v n,rfl,⟨t,d.1⟩,rfl⟩
     .exact⟨.put v n,rfl,⟨t,d.1⟩,rfl⟩
     .exact⟨.back v n,rfl,trivial,rfl⟩
    refine Γ au hD ⟨bX (by simp),λY n2=>⟨bX (by simp),λq3 Z=>?_⟩⟩;have J:=C.trans (δ.new (.lst [V.int v,V.int n]) n2);have W:=δ.new (.tup [V.str D.wd,V.ref Y]) Z;refine k q3 Y _ D ok (by rw[en];exact bd) (C.free n2) (J.trans W) au ?_;rw[en];exact W _ _ au
   refine lN λA B M r=>?_;walk_at "";refine⟨by decide,?_⟩;by_cases z3:c%5=3
   .refine Yg z3 ⟨_,.inl (ι.of O),?_⟩;rw[ag];by_cases G:(0:Int)<I.length
    .refine Yg G (M _ _ (db λM1 j1=>?_));clear M r;walk_at "";refine⟨⟨by decide,by decide⟩,_,.inl (ι.of O),?_⟩;rw[ag];have jr:=f (c/5) (I.length:Int) G;refine⟨G,?_⟩;generalize c/5%(I.length:Int)=j at jr ⊢;obtain⟨p,hp⟩:∃p,I[j.toNat]?=some p:=⟨_,az (by lia)⟩;obtain⟨p',x,R,be,hx,ex⟩:=ro.get (i:=j.toNat) (x:=V.ref p) (by rw[aN,hp];rfl);injection R with R
     subst R;have xm:=aP hx;refine Γ (v:=V.ref p) O (fR jr.1 (by rw[aN,hp];rfl)) ⟨p,rfl,_,Α.of ex,rfl,_,_,rfl,_,_,rfl,_,_,rfl,_,_,rfl,rfl,j1 _ _ (db λM2 j2=>lN λA B M r=>?_)⟩;clear j1;have Z:=f (c/240) 3 (by decide);have q:∀a b,U8 rs a b->∀p,H p=none->[V.str "step",V.ref p].length<=sizeLine/\∀o,upd H p (.lst [V.int a,V.int b,V.int (1+c/240%3)]) o=none->Q (V.ref o) (upd (upd H p (.lst [V.int a,V.int b,V.int (1+c/240%3)])) o (.tup [V.str "step",V.ref p])):=λa b ad p np=>⟨bX (by simp),λp1 N=>by
      have C:=δ.new (.lst [V.int a,V.int b,V.int (1+c/240%3)]) np;have J:=δ.new (.tup [V.str "step",V.ref p]) N;exact k p1 p _ (.step a b (1+c/240%3)) ⟨ad,by lia,by lia⟩ (λy u=>by
       obtain⟨ar,br,_⟩:=g.WW ad;simp only[Dd.ns,aE,fN,or_false]at u;rcases u with rfl|rfl|rfl<;>lia) np (C.trans J) au (J _ _ au)⟩
     walk_at "";refine⟨⟨by decide,by decide⟩,by decide,?_⟩;by_cases z2:c/120%2=1
     .refine Yg z2 (M _ _ ?_);walk_at "";refine⟨_,_,⟨rfl,rfl⟩,j2 _ _ ?_⟩;walk_at "";exact⟨⟨by decide,by decide⟩,by decide,bX (by simp),q _ _ ⟨x,xm,.inr ⟨rfl,rfl⟩⟩⟩
     .refine UU z2 (r _ _ (j2 _ _ ?_));walk_at "";exact⟨⟨by decide,by decide⟩,by decide,bX (by simp),q _ _ ⟨x,xm,.inl ⟨rfl,rfl⟩⟩⟩
    .exact UU G (r _ _ e)
   .exact UU z3 (r _ _ e)
  walk_at "";refine⟨⟨by decide,by decide⟩,by decide,?_⟩;split
  .have X:=f (c/10920) 3 (by decide);have:(2:Int)<=10^Int.toNat 60-1:=(by decide);exact⟨⟨by decide,by decide,by decide⟩,⟨by decide,by decide⟩,by decide,k4 _ (by rw[show(10:Int)^Int.toNat 60=10^60 from rfl];lia)⟩
  .exact k4 n d
 walk_at "";refine⟨⟨by decide,by decide⟩,by decide,?_⟩;split
 .exact⟨⟨by decide,by decide⟩,⟨by decide,by decide,by decide⟩,p60,k3 _ (f _ _ p60)⟩
 .exact k3 n d
def yS(T:Txt K L):Sp:=λe H Q _=>E3 λ(a:Addr)(c:Bool)(b:fc)=>e=[.ref a]/\VY c H a (b.map V.int)/\b.length<=100/\(∀z∈b,Bt z)/\∀d,δ H d->Q (.str (VD b)) d
abbrev vE:Stmt:=top 122
def GK:ε ["numbers"] ["numbers"] (aA vE):=.of
def G6(T:Txt K L)(q:bI (τ P w)):Ok P w K L base "_law_words" vE ["numbers"] 1 (yS T):=λ_ _ D=>by
 refine D.F.Ο GK λy A j s H t Q E u h=>?_;obtain⟨a,c,f,rfl,l,o,nb,k⟩:=h;refine⟨_,(ay (aY (sZ PySem.F.plainAttrs_str PySem.F.slot_str_join PySem.F.type_str_join zP bH (aa (gG rfl (md (Nc:=["number"]) 1 (by decide +kernel) (by decide +kernel) rfl (by decide +kernel) rfl) (vT c (γ 0)) (λ_ _ _ _=>(d6 (i:=0) (show(["number"]:hU).Nodup from by decide +kernel) rfl (Or.inl rfl))) (λ_ _ _ _=>gu) (λ_ _ _ _=>(yo gM (by rfl) T.str LR (aa (pv 0) ap)))) ap)))),?_⟩;walk_at "t";refine⟨by simp[VW],⟨_,l.sq⟩,λp m=>?_⟩;refine me (K:=K) (xs:=f.map V.int) (λi b e d=>δ H d/\d p=some (.lst b)/\b=((f.take i).map tI).map V.str/\∃v,e=[v]) ⟨δ.new _ m,au,rfl,_,rfl⟩ (λi b e d _ ⟨z,_⟩=>δ.ϫ z l.sq) ?_ ?_
 .rintro i x b e d N hN hi ⟨s2,h2,rfl,v,rfl⟩;obtain⟨n,g,rfl⟩:=List.μ hi;have r:i<f.length:=(ax.mp g).1;walk_at "";refine⟨(nb n (aP g)).log,h2,d8 (by rw[ag,ag,bq];lia),hN _ _ _ ⟨s2.put m _,au,?_,_,rfl⟩⟩;rw[bg,g,aq,aq]
  rfl
 .rintro b e d ⟨s2,h2,rfl,v,rfl⟩;rw[ag,bC]at h2;exact⟨_,p,_,rfl,rfl,ι.of h2,LV nb o,k _ s2⟩
abbrev rX(P w base)(T:Txt K L):=Cb P w K L base "_law_words" vE ["numbers"] 1 (yS T)
def xN(T:Txt K L):Sp:=λe H Q _=>E9 λ(p t:Addr)(m:Int)(d:hH)(b:ix)(w:Str)(v n:Nat)(a:Str)=>e=[.ref p,.str w,.int v,.int n]/\θ T.Web H p m t d b/\(iS m b w [v,n] a\/iS m b w [n] a)/\∀c,δ H c->Q (.str a) c
abbrev uk:Stmt:=top 125
def FC:ε ["web","word","place","wanted"] ["web","word","place","wanted"] (aA uk):=.of
def FU(T:Txt K L)(d:bI (τ P w))(I:rX P w base T)(O:Bp P w base T)(V:Fu P w base T)(U:J6 P w base T)(X:y9 P w base T):Ok P w K L base "_law_of_one" uk ["web","word","place","wanted"] 13 (xN T):=λ_ _ D=>by
 refine D.F.Ο FC λZ A G s H Y Q E f h=>?_;obtain⟨p,t,m,u,o,w,v,n,a,rfl,W,r,k⟩:=h;refine⟨_,(aw (bU (Ν cM (γ 1) bH) (ay (aY (iO gM T.str (aa (Θ O f d (aa (γ 0) (aa (γ 2) (aa (γ 3) ap)))) ap)))) bE) (aw (bU (Ν cM (γ 1) bH) (ay (aY (Θ I f d (aa (Θ V f d (aa (γ 0) (aa (γ 3) ap))) ap)))) bE) (aw (bU (Ν cM (γ 1) bH) (ay (aY (Θ I f d (aa (Θ U f d (aa (γ 0) (aa (γ 2) (aa (γ 3) ap)))) ap)))) bE) (ay (aY (iO gM T.str (aa (Θ X f d (aa (γ 0) (aa (γ 2) (aa (γ 3) ap)))) ap))))))),?_⟩;walk_at "t";rcases r with r|r
 .cases r with
  | enough h w1 w2 R b=>
    rw[aj rfl];exact⟨p,t,m,u,o,_,_,rfl,W,by lia,by lia,λ_ _ _=>⟨_,_,R,λg c=>⟨_,rfl,b.log,k g c⟩⟩,λz=>absurd ⟨by lia,h⟩ z,λ_ _ z=>absurd z (by lia)⟩
  | worst h w1 w2 R et hz l b=>
    rw[ah (Ϣ (by decide)),ah (Ϣ (by decide)),aj rfl];exact⟨p,t,m,u,o,_,_,rfl,W,λ_ _ _=>⟨_,_,R,λM J q g i _ N _ c e=>by
     rw[et]at i;cases i;have:=hz M N;subst this;exact⟨q,false,_,rfl,e,by lia,b,λx C=>k x (c.trans C)⟩⟩,λz=>absurd ⟨by lia,h⟩ z,λ_ _ z=>absurd z (by lia)⟩
  | many h w1 w2 R et b=>
    rw[ah (Ϣ (by decide)),ah (Ϣ (by decide)),ah (Ϣ (by decide))];obtain⟨n,rfl⟩:∃S,n=S+1:=⟨n-1,by lia⟩;exact⟨p,t,m,u,o,_,n,rfl,W,⟨by lia,h⟩,Qe w2,_,_,R,λJ g _ i c=>by
     rw[et]at i;cases i;exact⟨_,rfl,b.log,k g c⟩⟩
 .cases r with
  | hardest w1 w2 hf hz l b=>
    rw[ah (Ϣ (by decide)),aj rfl];exact⟨p,t,m,u,o,_,_,rfl,W,by lia,by lia,hf,λq y j g _ c e B=>by
     have:=hz y j B;subst this;exact⟨q,false,[y,j],rfl,e,by lia,b,λx C=>k x (c.trans C)⟩⟩
def sP(T:Txt K L):Sp:=λe H Q _=>E4 λ(a:Addr)(c:Bool)(as:hH)(b:List ϻ)=>e=[.ref a]/\VY c H a (as.map V.ref)/\Δ H as b/\b.length<=200/\(∀s∈b,Ye s)/\∀d,δ H d->Q (.str (XD b)) d
abbrev qa:Stmt:=top 123
def zX:ε ["steps"] ["steps"] (aA qa):=.of
def Ae(T:Txt K L)(C:bI (τ P w))(l:rX P w base T):Ok P w K L base "_law_steps_text" qa ["steps"] 2 (sP T):=λ_ _ D=>by
 refine D.F.Ο zX λW A r s H U Q E J h=>?_;obtain⟨a,c,as,n,rfl,j,f,I,nb,k⟩:=h;refine⟨_,(aw (bU (Ν cM (TB gN T.len (aa (γ 0) ap)) aD) (ay (aY bH)) bE) (ay (aY (sZ PySem.F.plainAttrs_str PySem.F.slot_str_join PySem.F.type_str_join zP bH (aa (gG rfl (md (Nc:=["step"]) 1 (by decide +kernel) (by decide +kernel) rfl (by decide +kernel) rfl) (vT c (γ 0)) (λ_ _ _ _=>(d6 (i:=0) (show(["step"]:hU).Nodup from by decide +kernel) rfl (Or.inl rfl))) (λ_ _ _ _=>gu) (λ_ _ _ _=>(gD l.G (J.mono (by decide)) (by rfl) l.D.m l.D.F.kp l.D.b .nil (d7 C) (aa (pv 0) ap)))) ap))))),?_⟩;walk_at "t";have y:as.length=n.length:=Paired.length f;refine⟨as.map V.ref,by cases c;exact .inr (Α.of j);exact .inl (ι.of j),?_⟩;rw[ag];unfold XD at k;by_cases t:((as.length:Nat):Int)=0
 .rw[aj (lL.mp (by lia))]at k;rw[aj t];exact k H (δ.refl _)
 .rw[ah λz=>t (by rw[y,z];rfl)]at k;rw[ah t];refine⟨by simp[VW],⟨_,j.sq⟩,λp B=>?_⟩;refine me (K:=K) (xs:=as.map V.ref) (λi d g e=>δ H e/\e p=some (.lst d)/\d=((n.take i).map V1).map V.str/\∃v,g=[v]) ⟨δ.new _ B,au,rfl,_,rfl⟩ (λi d g e _ ⟨z,_⟩=>δ.ϫ z j.sq) ?_ ?_
  .rintro i x d g e N hN hi ⟨s2,h2,rfl,v,rfl⟩;obtain⟨q,s,rfl,R,o,M⟩:=D3 f hi;have S:i<n.length:=(ax.mp o).1;walk_at "";refine⟨q,false,[s.1,s.2.1,s.2.2],rfl,s2 _ _ M,jA rfl,nb s (aP o),λO u=>⟨u _ _ h2,d8 (by rw[ag,ag,bq];lia),hN _ _ _ ⟨(s2.trans u).put B _,au,?_,_,rfl⟩⟩⟩;rw[bg,o,aq,aq]
   rfl
  .rintro d g e ⟨s2,h2,rfl,v,rfl⟩;rw[ag,y,bC]at h2;exact⟨_,p,_,rfl,rfl,ι.of h2,Mg nb I,k _ s2⟩
def qr(T:Txt K L):Sp:=λg H Q _=>E13 λ(p d e t:Addr)(m:Int)(f:hH)(b:ix)(x y:fc)(w:Str)(v:Nat)(a:List Nat)(o:Sum Str Nat)=>g=[.ref p,.ref d,.ref e,.str w,.int v]/\θ T.Web H p m t f b/\H d=some (.lst (x.map V.int))/\H e=some (.lst (y.map V.int))/\bA m x=true/\bA m y=true/\(v:Int)<m/\(a=[]\/a=[v])/\Ac m b x y w a o/\∀c,δ H c->Q (.str (AZ o)) c
abbrev rQ:Stmt:=top 124
def Ci:ε ["web","held","wish","word","place","told","found"] ["web","held","wish","word","place"] (aA rQ):=.of
def B7(T:Txt K L)(e:bI (τ P w))(nh:Cb P w K L base "_law_steps_text" qa ["steps"] 2 (sP T))(Z:rX P w base T)(q9:Iq P w base T)(tN:Ji P w base T)(pb:DE P w base T)(qp:EX P w base T)(wg:LO P w base T)(gL:sY P w base T):Ok P w K L base "_law_of_state" rQ ["web","held","wish","word","place"] 61 (qr T):=λ_ _ D=>by
 refine D.F.Ο Ci λξ A ad s H vs Q E f h=>?_;obtain⟨p,V,O,t,m,G,C,x,y,w,v,ns,o,rfl,W,U,B,X,I,vm,S,r,k⟩:=h;refine⟨_,(aw (bU (Ν cM (γ 3) bH) (ay (aY (Θ Z f e (aa (γ 1) ap)))) bE) (aw (bU (Ν cM (γ 3) bH) (ay (aY (Θ Z f e (aa (γ 2) ap)))) bE) (aw (bU (Ν cM (γ 3) bH) (ay (aY (iO gM T.str (aa (Θ wg f e (aa (γ 0) (aa (γ 1) (aa (γ 4) ap)))) ap)))) bE) (aw (bU (Ν cM (γ 3) bH) (ay (aY (Θ nh f e (aa (Θ tN f e (aa (γ 0) (aa (γ 1) (aa (γ 4) ap)))) ap)))) bE) (aw (bU (Ν cM (γ 3) bH) (ay (aY (iO gM T.str (aa (Θ gL f e (aa (γ 0) (aa (γ 1) (aa (γ 2) (aa (γ 4) ap))))) ap)))) bE) (aw (bU (Ν cM (γ 3) bH) (ay (aY (iO gM T.str (aa (Θ q9 f e (aa (γ 0) (aa (γ 2) ap))) ap)))) bE) (aw (bU (Ν cM (γ 3) bH) (aw (bU (Ν cM (TB (BK rfl) T.sum (aa (γ 2) ap)) aD) (ay (aY bH)) bE) (ay (aY (Θ Z f e (aa (Θ pb f e (aa (γ 0) (aa (γ 2) ap))) ap))))) bE) (aw (jq (Θ qp f e (aa (γ 0) (aa (γ 1) (aa (γ 2) ap)))) (iC (n:=2) rfl (bQ (ϊ 5) (bQ (ϊ 6) fJ)))) (aw (bU (Ν cM (γ 5) bH) (ay (aY (aX gI bH (Θ nh f e (aa (γ 6) ap))))) bE) (ay (aY (aX gI bH (Θ Z f e (aa (γ 6) ap)))))))))))))),?_⟩;walk_at "s";have g:=W.go;have Ζ:=g.Ζ;have xl:=iw X;have yl:=iw I;have j:∀{P:Prop}{z:fc},bA m z=true->bA m z=false->P:=λa b=>by rw[a]at b;cases b
 have d:∀{u:Nat},([u]=([]:List Nat)\/[u]=[v])->u=v:=λh=>by rcases h with h|h<;>cases h;rfl
 walk_at ""
 induction r with
 | laying l b=>
   rw[aj rfl];exact⟨V,true,x,rfl,U,by lia,b,k⟩
 | wish l b=>
   rw[ah (Ϣ (by decide)),aj rfl];exact⟨O,true,y,rfl,B,by lia,b,k⟩
 | @most u par dep h R b=>
   obtain rfl:=d S
   repeat rw[ah (Ϣ (by decide))]
   rw[aj rfl];exact⟨p,V,t,true,m,G,C,x,u,rfl,W,ι.of U,by lia,λ_ _ _=>⟨par,dep,R,λi c=>⟨_,rfl,b.log,k i c⟩⟩,j X,λ_ z=>absurd ⟨by lia,h⟩ z⟩
 | @Ws u h=>exact absurd (d S) (by lia)
 | @bring u par dep tl ss h R et es l b=>
   obtain rfl:=d S
   repeat rw[ah (Ϣ (by decide))]
   rw[aj rfl];refine⟨p,V,t,true,m,G,C,x,u,rfl,W,ι.of U,by lia,λ_ _ _=>⟨par,dep,R,λq qs Xb i Y n1 c M ba _=>?_⟩,j X,λ_ z=>absurd ⟨by lia,h⟩ z⟩;rw[et]at Y;cases Y;subst es;exact⟨q,true,qs,_,rfl,M,Ig ba,by lia,b,λJ N=>k J (c.trans N)⟩
 | @Vb u h=>exact absurd (d S) (by lia)
 | @stands u par dep h R b=>
   obtain rfl:=d S
   repeat rw[ah (Ϣ (by decide))]
   rw[aj rfl];exact⟨p,V,O,t,true,true,m,G,C,x,y,u,rfl,W,ι.of U,by lia,ι.of B,by lia,λ_ _ _ _=>⟨par,dep,R,λi c=>⟨_,rfl,b.log,k i c⟩⟩,j X,λ_=>j I,λ_ _ z=>absurd ⟨by lia,h⟩ z⟩
 | @Uh u h=>exact absurd (d S) (by lia)
 | Ui h=>
   repeat rw[ah (Ϣ (by decide))]
   rw[aj rfl];exact⟨p,O,t,true,m,G,C,y,rfl,W,ι.of B,by lia,λ_ z=>absurd h z,λ_ _ i c=>⟨_,rfl,(show Bt 0 by decide).log,k i c⟩,j I⟩
 | @always par dep h R b=>
   repeat rw[ah (Ϣ (by decide))]
   rw[aj rfl];exact⟨p,O,t,true,m,G,C,y,rfl,W,ι.of B,by lia,λ_ _=>⟨par,dep,R,λi c=>⟨_,rfl,b.log,k i c⟩⟩,λ_ z=>absurd z h,j I⟩
 | Vc h=>
   repeat rw[ah (Ϣ (by decide))]
   rw[aj rfl];refine⟨y,.inl (ι.of B),?_⟩;rw[aj h];exact k H (δ.refl _)
 | @fails par dep zs h R es l b=>
   repeat rw[ah (Ϣ (by decide))]
   rw[aj rfl];subst es;refine⟨y,.inl (ι.of B),?_⟩;rw[ah h];exact⟨p,O,t,true,m,G,C,y,rfl,W,ι.of B,by lia,λ_ _=>⟨par,dep,R,λu i _ c M=>⟨u,false,_,rfl,M,by lia,b,λJ N=>k J (c.trans N)⟩⟩,j I,λ_ z=>absurd z h⟩
 | @Wt ύ Ϛ tl ss RR et h es l b=>
   repeat rw[ah (Ϣ (by decide))]
   refine⟨p,V,O,t,true,true,m,G,C,x,y,rfl,W,ι.of U,by lia,ι.of B,by lia,λ_ _=>⟨ύ,Ϛ,RR,λ_ u q qs Xb i Y _ _ _ c M e2 st=>?_,λz=>absurd h z⟩,j X,λ_=>j I⟩;rw[et]at Y;cases Y;subst es;refine⟨u,rfl,_,Α.of M,rfl,_,_,rfl,_,_,rfl,rfl,rfl,?_⟩;rw[aj rfl];have:=Jz b l;exact⟨q,true,qs,_,rfl,e2,st,by lia,b,λJ N=>⟨_,rfl,_,rfl,bX (by show 6+_<=_;lia),k J (c.trans N)⟩⟩
 | @Wu ύ Ϛ zs RR h es l b=>
   repeat rw[ah (Ϣ (by decide))]
   subst es;refine⟨p,V,O,t,true,true,m,G,C,x,y,rfl,W,ι.of U,by lia,ι.of B,by lia,λ_ _=>⟨ύ,Ϛ,RR,λz=>absurd z h,λ_ u q i _ _ c M e2=>?_⟩,j X,λ_=>j I⟩;refine⟨u,rfl,_,Α.of M,rfl,_,_,rfl,_,_,rfl,rfl,rfl,?_⟩;rw[ah (Ϣ (by decide))];have:=zq b;exact⟨q,false,_,rfl,e2,by lia,b,λJ N=>⟨_,rfl,_,rfl,bX (by show 5+_<=_;lia),k J (c.trans N)⟩⟩
def u9(T:Txt K L):Sp:=λh H Q _=>WZ λ(p e f t:Addr)(m:Int)(g:hH)(b:ix)(x y:fc)(c:Int)(n:Nat)=>h=[.ref p,.ref e,.ref f,.int c]/\θ T.Web H p m t g b/\m<=5/\H e=some (.lst (x.map V.int))/\H f=some (.lst (y.map V.int))/\Sz m n (x,y)/\n<=1000/\∀q z o a,δ H a->a q=some (.tup [.str z,.str (AZ o)])->(∀d,TF m b d (x,y) z o (d++[(x,y)]))->Q (.ref q) a
abbrev re:Stmt:=top 126
def Cr:ε ["web","held","wish","cell","place","wanted","words","word","due"] ["web","held","wish","cell"] (aA re):=.of
def Dq(T:Txt K L)(hq:bI (τ P w))(uj:Cb P w K L base "_law_of_one" uk ["web","word","place","wanted"] 13 (xN T))(pf:Cb P w K L base "_law_of_state" rQ ["web","held","wish","word","place"] 61 (qr T)):Ok P w K L base "_law_question" re ["web","held","wish","cell"] 62 (u9 T):=λ_ _ D=>by
 refine D.F.Ο Cr λξ A al s H vs Q E hr h=>?_;obtain⟨p,la,lb,t,m,ps,N,x,y,c,n,rfl,W,m5,ha,hb,S,hn,k⟩:=h;refine⟨_,(aw (Κ 4 (aX eE (aX eY (γ 3) aD) (cq (γ 0) rfl))) (aw (Κ 5 (aX gc aD (aX eE (aX eY (γ 3) aD) aD))) (aw (bU (Ν cM (aX eE (aX eY (γ 3) aD) aD) aD) (ay (Κ 5 (aX gc aD (aX eE (aX eY (γ 3) aD) (aX Du aD aD))))) bE) (aw (Κ 6 (eL (aa bH (aa bH (aa bH (aa bH (aa bH (aa bH (aa bH (aa bH (aa bH (aa bH (aa bH ap))))))))))))) (aw (Κ 7 (ψ bu (aX Il (γ 6) (eL (aa bH ap))) (aX eE (γ 3) aD))) (aw (bU (tG y8 (γ 7) (hJ (aa bH (aa bH (aa bH ap)))) (by with_unfolding_all rfl)) (ay (aY (hJ (aa (aX gI (aX gI (γ 7) bH) (iO gM T.str (aa (γ 4) ap))) (aa (Θ pf hr hq (aa (γ 0) (aa (γ 1) (aa (γ 2) (aa (γ 7) (aa (γ 4) ap)))))) ap))))) bE) (aw (bU (Ν uY (aX eE (γ 3) aD) aD) (ay (aY (hJ (aa (γ 7) (aa (Θ pf hr hq (aa (γ 0) (aa (γ 1) (aa (γ 2) (aa (γ 7) (aa (γ 4) ap)))))) ap))))) bE) (aw (Κ 8 (Θ uj hr hq (aa (γ 0) (aa (γ 7) (aa (γ 4) (aa (γ 5) ap)))))) (aw (bU (Ν cM (γ 7) bH) (ay (aY (hJ (aa (aX gI (aX gI (γ 7) bH) (iO gM T.str (aa (γ 5) ap))) (aa (γ 8) ap))))) bE) (ay (aY (hJ (aa (aX gI (aX gI (aX gI (aX gI (γ 7) bH) (iO gM T.str (aa (γ 4) ap))) bH) (iO gM T.str (aa (γ 5) ap))) (aa (γ 8) ap)))))))))))))),?_⟩;walk_at "s";have g:=W.go;have m1:=g.m1;have Ζ:=g.Ζ;have l1:=S.l1;have ff:=S.fil;obtain⟨dx,ob⟩:=W.ob;refine db λN1 h1=>?_;walk_at "";have v0:=cL (c/12) (show m≠0 by lia);have v1:=cP (c/12) (show 0<m by lia);obtain⟨v,ev⟩:=cI v0;rw[ev]at v1;refine⟨⟨by decide,by decide⟩,T.Web,dx,_,ob,T.Ε,T.Λ,_,eP m t,m,rfl,by lia,?_⟩;rw[ev];refine h1 _ _ (db λN2 h2=>?_);walk_at "";refine⟨⟨by decide,by decide⟩,by decide,h2 _ _ (db λN3 h3=>?_)⟩;have nx:∀k:Nat,1<=k->k<=10^20->N3 [some (V.ref p),some (V.ref la),some (V.ref lb),some (V.int c),some (V.int v),some (V.int k),none,none,none] H:=λkw k1 k2=>by
  refine h3 _ _ (db λN4 h4=>?_);walk_at "";refine⟨bX (by simp),λa na=>h4 _ _ (db λN5 h5=>?_)⟩;walk_at "";refine⟨bX (by simp),λb nb=>SF (A:=KJ.take 11) (B:=["many"]) (δ.new _ nb _ _ au) au (by decide) λd H3 s3 e3=>⟨by decide,?_⟩⟩;have s3:=(δ.new _ na).trans ((δ.new _ nb).trans s3);have i0:=cL c (show(12:Int)≠0 by decide);have i1:=cP c (show(0:Int)<12 by decide);obtain⟨z,hz⟩:∃z,KJ[(c%12).toNat]?=some z:=⟨_,az (show(c%12).toNat<12 by lia)⟩;obtain⟨X,as⟩:=Sx g S hn m5 v1 k1 k2 hz;have Yo:=congrArg (Option.map V.str) hz;rw[<-aN]at Yo;refine Γ (v:=V.str z) e3 (fR i0 Yo) (h5 _ _ (db λN6 h6=>?_));clear e3 h5 h4 nb na;have zl:=(Lb X).1.1;have J:∀{j:Nat},j<10^60->∀i∈[j],i<10^60:=λh i hi=>by rw[aG.mp hi];exact h
  have ae:∀i∈[v,kw],i<10^60:=λi hi=>by
   rcases aE.mp hi with rfl|hi
   .lia
   .rw[aG.mp hi];lia
  have Y:v<10^60:=by lia
  have O:kw<10^60:=by lia
  have fv:=fsL Y;have fk:=fsL O;have U:∀{j:Nat},j<10^60->((j:Nat):Int).natAbs.log2<1920:=λh=>(py (z:=_) (n:=200) (by lia) (by decide)).log;have l1:(Str.ofString " ").length<=1:=aJ _;have f:∀{zz:Str}{o:Sum Str Nat}{l:Hp},δ H l->(∀ς,TF m N ς (x,y) zz o (ς++[(x,y)]))->[V.str zz,V.str (AZ o)].length<=sizeLine/\∀p,l p=none->Q (.ref p) (upd l p (.tup [.str zz,.str (AZ o)])):=λI h=>⟨bX (by simp),λp np=>k p _ _ _ (I.trans (δ.new _ np)) au h⟩;have st:∀{l:Hp}{M:List Nat}{o:Sum Str Nat}{Q':VK},δ H l->(M=[]\/M=[v])->Ac m N x y z M o->(∀Z,δ H Z->Q' (.str (AZ o)) Z)->qr T [.ref p,.ref la,.ref lb,.str z,.int v] l Q' E0:=λ{l M o Q'} I hs r q=>⟨p,la,lb,t,m,ps,N,x,y,z,v,M,o,rfl,W.same I,I _ _ ha,I _ _ hb,oO S.l1 ff.1,oO S.l2 ff.2,v1,hs,r,λZ s2=>q Z (I.trans s2)⟩;walk_at "";refine⟨bX (by simp),λe ne=>⟨e,_,rfl,.inr (Α.of au),rfl,rfl,_,rfl,?_⟩⟩;have C:=s3.trans (δ.new (HO.tup [V.str (Str.ofString "most"),V.str (Str.ofString "bring"),V.str (Str.ofString "stands")]) ne);generalize upd H3 e (HO.tup [V.str (Str.ofString "most"),V.str (Str.ofString "bring"),V.str (Str.ofString "stands")])=H4 at C ⊢;rcases as with⟨iz,nz,o,r,r0⟩|⟨iz,as⟩
  .rw[iz,aj (by rfl)];refine⟨_,rfl,_,rfl,lnA zl l1,U Y,_,rfl,_,rfl,bX (by rw[nS,qO];lia),st C (.inr rfl) r λH5 G=>?_⟩;rw[qO,Rq rfl];exact f G (K8 rfl (J Y) (.inl ⟨r,r0⟩) · X nz)
  .rw[iz,ah (by exact bj)];refine h6 _ _ (db λN7 h7=>?_);walk_at "";refine⟨by decide,?_⟩;rcases as with⟨j8,nz,o,r,r0⟩|⟨j8,as⟩
   .rw[aj (by lia)];refine st C (.inl rfl) r λH5 G=>f G ?_;rw[<-Jw z];exact(K8 rfl (λk hk=>by cases hk) (.inl ⟨r,r0⟩) · X nz)
   .rw[ah (by lia)];refine h7 _ _ (db λN8 h8=>?_);walk_at "";rcases as with⟨rfl,a,r⟩|⟨zn,nz,a,r⟩
    .refine⟨p,t,m,ps,N,_,v,kw,a,rfl,W.same C,.inr r,λH5 G=>h8 _ _ (db λN9 h9=>?_)⟩;walk_at "";refine⟨_,rfl,_,rfl,lnA zl l1,U O,_,rfl,_,rfl,bX (by rw[nS,qO];lia),?_⟩;rw[qO,Rq rfl];exact f (o:=.inl a) (C.trans G) (K8 (k:=1) rfl (J O) (.inr ⟨a,rfl,r⟩))
    .refine⟨p,t,m,ps,N,z,v,kw,a,rfl,W.same C,.inl r,λH5 G=>h8 _ _ (db λN9 h9=>?_)⟩;walk_at "";rw[ah (Ϣ zn)];refine h9 _ _ ?_;walk_at "";refine⟨_,rfl,_,rfl,lnA zl l1,U Y,_,rfl,_,rfl,bX (by rw[nS,qO];lia),_,rfl,_,rfl,bX (by rw[nS,nS,qO];lia),U O,_,rfl,_,rfl,bX (by rw[nS,nS,nS,qO,qO];lia),?_⟩;rw[qO,qO,S0];exact f (o:=.inl a) (C.trans G) (K8 rfl ae (.inr ⟨a,rfl,r⟩) · X nz)
 clear h1 h2;walk_at "";refine⟨⟨by decide,by decide⟩,by decide,?_⟩;split
 .have p20:(0:Int)<10^Int.toNat 20:=by decide
  have u0:=cL (c/3240) (lP p20);have R:=cP (c/3240) p20;obtain⟨u,eu⟩:=cI u0;refine⟨⟨by decide,by decide⟩,⟨by decide,by decide,by decide⟩,p20,?_⟩;rw[eu]at R ⊢;rw[show(1:Int)+(u:Nat)=((1+u:Nat):Int) by lia];rw[show(10:Int)^Int.toNat 20=10^20 from rfl]at R;exact nx _ (by lia) (by lia)
 .have u0:=cL (c/60) (show(6:Int)≠0 by decide);have R:=cP (c/60) (show(0:Int)<6 by decide);obtain⟨u,eu⟩:=cI u0;rw[eu]at R ⊢;rw[show(1:Int)+(u:Nat)=((1+u:Nat):Int) by lia];exact nx _ (by lia) (by lia)
def Aw(T:Txt K L):Sp:=λb H Q _=>E3 λ(a:Addr)(c:fc)(k:Int)=>b=[.ref a,.int k]/\ι K H a (c.map V.int)/\0<=k/\∀v,Q (.int v) H
abbrev wN:Stmt:=top 115
def IM:ε ["script","k"] ["script","k"] (aA wN):=.of
def IZ(T:Txt K L)(j:bI (τ P w)):Ok P w K L base "_law_cell" wN ["script","k"] 1 (Aw T):=λ_ _ D=>by
 refine D.F.Ο IM λn A b s H l Q E m h=>?_;obtain⟨a,d,i,rfl,e,g,k⟩:=h;refine⟨_,(aw (bU (Ν uY (γ 1) (TB gN T.len (aa (γ 0) ap))) (ay (aY (ψ bu (γ 0) (γ 1)))) bE) (ay (aY aD))),?_⟩;walk_at "t";refine⟨_,.inl e,?_⟩;rw[ag];by_cases c:i<(d.length:Int)
 .rw[aj c];have f:i.toNat<d.length:=by lia
  exact ixS e (fR g (v:=.int d[i.toNat]) (by rw[aN,az f];rfl)) (k _)
 .rw[ah c];exact k 0
def CN(T:Txt K L):Sp:=λe H Q _=>E4 λ(c o m b:Int)=>e=[.int c,.int o,.int m,.int b]/\0<=m/\m<=1000/\0<b/\b<1000000000000000000/\∀(l:Addr)(d:fc)(a:Hp),H l=none->δ H a->a l=some (.lst (d.map V.int))->(d.length:Int)=m->(∀x∈d,0<=x)->Q (.ref l) a
abbrev uE:Stmt:=top 116
def KA:ε ["cell","mode","many","base","found","rest","k","m"] ["cell","mode","many","base"] (aA uE):=.of
def AR:Ψ (aA uE) "range":=.of
def Ku(T:Txt K L)(W:bI (τ P w)):Ok P w K L base "_law_row" uE ["cell","mode","many","base"] 1 (CN T):=λ_ _ D=>by
 refine D.F.Ο KA λξ A u s H vs Q E hr h=>?_;obtain⟨c,o,m,b,rfl,Z,X,G,Y,k⟩:=h;refine⟨_,(aw (Κ 4 (eL ap)) (aw (Κ 5 (γ 0)) (aw (gf PassesOwn.never rfl (kG AR.g T.range (aa (γ 2) ap)) (ϊ 6) (ay (bU (Ν cM (γ 1) aD) (aw (cH (TU (γ 4) (aX eE (γ 5) (γ 3)))) (ay (Κ 5 (aX F8 (γ 5) (γ 3))))) (aw (Κ 7 (aX eE (aX ke (aX gc (aX gc (aX eE (γ 0) aD) (aX ke aD (γ 6))) aD) aD) aD)) (aw (Κ 7 (aX eE (aX ke (aX eE (aX ke (γ 7) (γ 7)) aD) aD) aD)) (ay (cH (TU (γ 4) (aX eY (γ 7) aD))))))))) (ay (aY (γ 4)))))),?_⟩;walk_at "t";refine⟨by decide,λl j=>?_⟩;refine⟨by lia,by lia,?_⟩;refine Dt (λi n f=>δ H f/\E4 λ(a:fc)(r:Int)(t v:Option V)=>f l=some (.lst (a.map V.int))/\a.length=i/\(∀x∈a,0<=x)/\n=[some (V.int c),some (V.int o),some (V.int m),some (V.int b),some (V.ref l),some (V.int r),t,v]) ⟨δ.new _ j,[],c,_,_,au,rfl,(λx p=>absurd p fN),rfl⟩ ?_ ?_
 .rintro i n f N hN hi ⟨s2,a,r,t,v,e2,xl,x0,rfl⟩;have M:(0:Int)+(i:Int)=(i:Int):=by lia
  rw[M];walk_at "";have B:(a.map V.int).length<sizeLine:=d8 (by rw[ag];lia);have d:∀y:Int,0<=y->∀x∈a++[y],0<=x:=λy J x p=>by
   rcases bi.mp p with h|h
   .exact x0 x h
   .rw[aG.mp h];exact J
  by_cases z:o=0
  .rw[aj z];refine⟨S9 e2,G,oS e2 B ⟨⟨G,by lia⟩,hN _ _ ⟨s2.put j _,a++[r%b],_,_,_,?_,by rw[aH,xl];rfl,d _ (cL _ (by lia)),rfl⟩⟩⟩;rw[au,aq]
   rfl
  .rw[ah z];have U:=cL c (show(998244353:Int)≠0 by decide);have I:=cP c (show(0:Int)<998244353 by decide);generalize c%998244353=q at U I ⊢;have O:=cL ((q+7919*(i:Int)+11)*48271) (show(2147483647:Int)≠0 by decide);have R:=cP ((q+7919*(i:Int)+11)*48271) (show(0:Int)<2147483647 by decide);refine⟨by decide,.inl ⟨by decide,by decide⟩,.inr ⟨by decide,by decide⟩,by decide,?_⟩;generalize (q+7919*(i:Int)+11)*48271%2147483647=e at O R ⊢;have h5:=cL (e*e) (show(2147483629:Int)≠0 by decide);refine⟨.inl ⟨by lia,by lia⟩,by decide,.inr ⟨by decide,by decide⟩,by decide,?_⟩;have C:=cL (e*e%2147483629*40692) (show(2147483399:Int)≠0 by decide);generalize e*e%2147483629*40692%2147483399=S at C ⊢;refine⟨S9 e2,⟨by decide,by decide⟩,oS e2 B (hN _ _ ⟨s2.put j _,a++[S/7],_,_,_,?_,by rw[aH,xl];rfl,d _ (mK C (by decide)),rfl⟩)⟩;rw[au,aq]
   rfl
 .rintro n f ⟨s2,a,r,t,v,e2,xl,x0,rfl⟩;exact⟨_,rfl,k l a f j s2 e2 (by lia) x0⟩
theorem Ah{c d:Type}{R:c->d->Prop}:∀(n:Nat){b:List c}{a:List d},Paired R b a->Paired R (b.take n) (a.take n)
 | 0,_,_,_=>by rw[dU,dU];exact .nil
 | _+1,_,_,.nil=>.nil
 | n+1,_,_,.cons x xs=>.cons x (Ah n xs)
theorem Ag{c d:Type}{R:c->d->Prop}:∀(n:Nat){b:List c}{a:List d},Paired R b a->Paired R (b.drop n) (a.drop n)
 | 0,_,_,h=>h
 | _+1,_,_,.nil=>.nil
 | n+1,_,_,.cons x xs=>Ag n xs
theorem C0{e f:Type}{R:e->f->Prop}{a:List e}{c:List f}(h:Paired R a c):∀{d:List e}{b:List f},Paired R d b->Paired R (d++a) (b++c)
 | _,_,.nil=>h
 | _,_,.cons x xs=>.cons x (C0 h xs)
def ν.ins{H:Hp}{b:hH}{a:ix}{q:Addr}{r:Road}(n:Nat)(h:ν H b a)(e:H q=some (.tup (tf r))):ν H (b.take n++q::b.drop n) (a.take n++r::a.drop n):=C0 (R:=λp r=>H p=some (.tup (tf r))) (.cons e (Ag n h)) (Ah n h)
def Ho{H:Hp}{p:Addr}(o:HO):∀b u,H b=some u->b≠p->upd H p o b=some u:=λb u h n=>by rw[aM n];exact h
def oE(m s:Int):List Int:=(b7 m.toNat).map λv=>(v+s)%m
def Fl{m s v:Int}(a:0<=v)(b:v<m):(oE m s).getD v.toNat 0=(v+s)%m:=by
 unfold oE;rw[List.getD,aN,gY (by lia),cA a]
 rfl
def NK{m s a b:Int}(f:0<=a)(i:a<m)(g:0<=b)(h:b<m)(e:(a+s)%m=(b+s)%m):a=b:=by
 have j:=Int.emod_emod_of_dvd (a+s) (Int.dvd_refl m);have d:(a-b)%m=0:=by
  have:=Int.emod_eq_emod_iff_emod_sub_eq_zero.mp e
  rwa [show a+s-(b+s)=a-b by lia]at this
 obtain⟨k,c⟩:=Int.dvd_of_emod_eq_zero d;have l:0<m:=by lia
 have:k=0:=by
  rcases Int.lt_trichotomy k 0 with z|z|z
  .have:m*k<=m*(-1):=bL (by lia) (by lia)
   lia
  .exact z
  .have:m*1<=m*k:=bL (by lia) (by lia)
   lia
 rw[this]at c
 lia
def Pc{m s:Int}(g:1<=m):Ts m.toNat (oE m s) where
 len:=by unfold oE;rw[ag,b6]
 nd:=by
  unfold oE;refine List.pairwise_map.mpr ((jK m.toNat).imp_of_mem λ{a b} ha hb h e=>h ?_);obtain⟨a0,a1⟩:=fK.mp ha;obtain⟨b0,b1⟩:=fK.mp hb;exact NK a0 (by lia) b0 (by lia) e
 all:=λv c d=>by
  unfold oE;refine aZ.mpr ⟨(v-s)%m,fK.mpr ⟨cL _ (by lia),?_⟩,?_⟩
  .have:=cP (v-s) (show 0<m by lia)
   lia
  .rw[Int.emod_add_emod,show v-s+s=v by lia,Int.emod_eq_of_lt c (by lia)]
 ϓ:=λv hv=>by
  unfold oE at hv;obtain⟨u,_,rfl⟩:=aZ.mp hv;have d:=cL (u+s) (show m≠0 by lia);have f:=cP (u+s) (show 0<m by lia)
  lia
def zb(T:Txt K L):Sp:=λe H Q _=>∃(a:Addr)(f:fc),e=[.ref a]/\ι K H a (f.map V.int)/\∀(t l:Addr)(m:Int)(c:hH)(d:ix)(b:Hp),H t=none->H l=none->δ H b->b t=some (.tup [.int m,.ref l])->b l=some (.lst (c.map V.ref))->ν b c d->Good m d->m<=5->Q (.ref t) b
abbrev sk:Stmt:=top 118
def Gu:ε ["script","mode","shape","tolls","many","roads","k","one","other","there","back","road"] ["script"] (aA sk):=.of
def y6:Ψ (aA sk) "range":=.of
def Hb(T:Txt K L)(J:bI (τ P w))(qB:Cb P w K L base "_law_cell" wN ["script","k"] 1 (Aw T))(uJ:Cb P w K L base "_law_row" uE ["cell","mode","many","base"] 1 (CN T))(vg:Cb P w K L base "_law_tolls" vx ["t"] 1 (yW T)):Ok P w K L base "_law_roads" sk ["script"] 2 (zb T):=λ_ _ D=>by
 refine D.F.Ο Gu λξ A be s H vs Q E W h=>?_;obtain⟨a,ns,rfl,ha,k⟩:=h;refine⟨_,(aw (Κ 1 (aX eE (Θ qB W J (aa (γ 0) (aa aD ap))) aD)) (aw (Κ 2 (Θ uJ W J (aa (aX eY (Θ qB W J (aa (γ 0) (aa aD ap))) aD) (aa (γ 1) (aa aD (aa aD ap)))))) (aw (Κ 3 (Θ uJ W J (aa (Θ qB W J (aa (γ 0) (aa aD ap))) (aa (γ 1) (aa aD (aa (aX ke aD (aX Du aD aD)) ap)))))) (aw (Κ 4 (aX gc aD (aX eE (ψ bu (γ 2) aD) aD))) (aw (Κ 5 (eL ap)) (aw (gf PassesOwn.never rfl (LK y6.g T.range (aa aD (aa (γ 4) ap))) (ϊ 6) (aw (Κ 7 (aX eE (aX gc (aX eE (ψ bu (γ 2) (aX gc (γ 6) aD)) (γ 6)) (ψ bu (γ 2) aD)) (γ 4))) (aw (Κ 8 (aX eE (aX gc (γ 6) (ψ bu (γ 2) aD)) (γ 4))) (aw (jq (Θ vg W J (aa (ψ bu (γ 3) (γ 6)) ap)) (iC (n:=2) rfl (bQ (ϊ 9) (bQ (ϊ 10) fJ)))) (aw (Κ 11 (hJ (aa (γ 7) (aa (γ 8) (aa (γ 9) (aa (γ 10) ap)))))) (aw (bU (tG cM (aX eE (aX eY (ψ bu (γ 2) (aX gc (γ 6) aD)) aD) aD) aD (kP _)) (ay (Κ 11 (hJ (aa (γ 8) (aa (γ 7) (aa (γ 10) (aa (γ 9) ap))))))) bE) (ay (cH (sZ dv lC PySem.F.type_list_insert MZ (γ 5) (aa (aX eE (aX eY (ψ bu (γ 2) (aX gc (γ 6) aD)) aD) (aX gc (TB gN T.len (aa (γ 5) ap)) aD)) (aa (γ 11) ap))))))))))) (ay (aY (hJ (aa (γ 4) (aa (γ 5) ap))))))))))),?_⟩;walk_at "s";have em:∀(x n:Int),0<n->0<=x%n/\x%n<n:=λx n h=>⟨cL x (lP h),cP x h⟩;have cd:∀x n:Int,0<n->n<1073741824->Po x n:=λx n h1 h2=>⟨h1,h2⟩;refine db λN1 h1=>?_;walk_at "";refine⟨a,ns,0,rfl,ha,by decide,λc0=>⟨c0,rfl,by decide,h1 _ _ (db λN2 h2=>?_)⟩⟩;walk_at "";refine⟨a,ns,0,rfl,ha,by decide,λc1=>⟨c1,rfl,cd _ _ (by decide) (by decide),?_⟩⟩;refine⟨_,_,8,9600,rfl,by decide,by decide,by decide,by decide,λls S H1 n1 s1 e1 eb ab=>h2 _ _ (db λN3 h3=>?_)⟩;walk_at "";refine⟨a,ns,1,rfl,δ.seq s1 ha,by decide,λc2=>⟨⟨by decide,by decide,by decide⟩,.inl ⟨by decide,by decide⟩,?_⟩⟩;refine⟨_,_,8,_,rfl,by decide,by decide,by decide,by decide,λlt ts H2 n2 s2 e2 tl t0=>h3 _ _ (db λN4 h4=>?_)⟩;walk_at "";have ak:=s2 _ _ e1;have Um:=s1.trans s2;have g0:=Ϲ (xs:=S) (i:=0) (by decide) (by lia);have g1:=Ϲ (xs:=S) (i:=1) (by decide) (by lia);have p1:0<=S.getD (1:Int).toNat 0:=Kc ab _;generalize S.getD (0:Int).toNat 0=w0 at g0 ⊢;generalize S.getD (1:Int).toNat 0=e at g1 p1 ⊢;refine Γ ak g0 ⟨w0,rfl,by decide,?_⟩;have mm:=em w0 5 (by decide);obtain⟨m,ac⟩:∃m,m=1+w0%5:=⟨_,rfl⟩;rw[<-ac];have m1:1<=m:=by lia
 have Ζ:m<=5:=by lia
 clear ac mm;refine h4 _ _ (db λN6 h6=>?_);walk_at "";refine⟨by decide,λlo U=>h6 _ _ (db λN7 h7=>?_)⟩;walk_at "";refine⟨1,m,⟨rfl,rfl⟩,⟨by decide,by decide,by lia,by lia⟩,?_⟩;have ZN:H lo=none:=Um.free U;refine K7 (λi σ M=>E9 λ(o:hH)(O:ix)(b:List Row)(v6 Z Y X l v:Option V)=>σ=[some (V.ref a),some (V.int (c0%2)),some (V.ref ls),some (V.ref lt),some (V.int m),some (V.ref lo),v6,Z,Y,X,l,v]/\δ H2 M/\M lo=some (.lst (o.map V.ref))/\ν M o O/\Rows i b/\X6 (oE m e) b O) ⟨[],[],[],_,_,_,_,_,_,rfl,δ.new _ U,au,.nil,⟨rfl,λi r h=>by cases h⟩,X6.nil _⟩ ?_ ?_
 .rintro i σ M N BB ϒ hN hi ⟨o,O,b,v6,Z,Y,X,l,v,rfl,s3,hl3,ro3,R,P⟩;refine ϒ _ _ ?_;have k0:(1:Int)<=1+(i:Int):=by lia
  have k1:1+(i:Int)<m:=by lia
  generalize hk:(1:Int)+(i:Int)=d at k0 k1 ⊢;have dT:o.length=O.length:=Paired.length ro3;have rl:=R.len;have pl:=P.len;have gk:=Ϲ (xs:=S) (i:=d+1) (by lia) (by lia);have pk:0<=S.getD (d+1).toNat 0:=Kc ab _;generalize S.getD (d+1).toNat 0=G at gk pk;have gt:=Ϲ (xs:=ts) (i:=d) (by lia) (by lia);generalize ts.getD d.toNat 0=tk at gt;have I:=s3 _ _ ak;have ba:=s3 _ _ e2;have hg:=em G d (by lia);obtain⟨u,bS⟩:∃u,u=G%d:=⟨_,rfl⟩;have u0:0<=u:=by lia
  have u1:u<d:=by lia
  refine db λM2 a8=>?_;walk_at "";refine Γ I gk ⟨G,rfl,by lia,Γ I g1 ⟨e,rfl,by lia,a8 _ _ (db λM3 a5=>?_)⟩⟩;rw[<-bS];walk_at "";refine Γ I g1 ⟨e,rfl,by lia,a5 _ _ (db λM4 ce=>?_)⟩;walk_at "";refine Γ ba gt ?_;refine⟨tk,rfl,λq2 C B cl ai t1 b0 b1=>?_⟩;have s5:=δ.new (.tup [.int C,.int B]) cl;refine⟨q2,rfl,_,Α.of au,rfl,_,_,rfl,_,_,rfl,rfl,ce _ _ (db λM5 bs=>?_)⟩;walk_at "";refine⟨bX (by simp),λq3 bt=>bs _ _ (db λM6 af=>?_)⟩;walk_at "";have s6:=δ.new (.tup [.int ((u+e)%m),.int ((d+e)%m),.int C,.int B]) bt;have Xa:=s5.trans s6;have al:upd (upd M q2 (.tup [.int C,.int B])) q3 (.tup [.int ((u+e)%m),.int ((d+e)%m),.int C,.int B]) q3=some (.tup [.int ((u+e)%m),.int ((d+e)%m),.int C,.int B]):=au;generalize upd (upd M q2 (.tup [.int C,.int B])) q3 (.tup [.int ((u+e)%m),.int ((d+e)%m),.int C,.int B])=H6 at Xa al ⊢;have a9:=Xa _ _ I;have lu:=Fl (s:=e) u0 (show u<m by lia);have lk:=Fl (s:=e) (show 0<=d by lia) k1;have put:∀(H7:Hp)(q:Addr)(f:Row)(Z Y X l v:Option V),δ M H7->f.k=d->X5 f->H7 q=some (.tup (tf (qA (oE m e) f)))->VW K "list" (V.ref lo) H7/\DI K (V.ref ls) (V.int (d+1)) H7 λx H1=>∃i,x=V.int i/\Po i 48/\∃y,(ι K H1 lo y\/Α K H1 lo y)/\0<(y.length:Int)+1/\T8 (V.ref lo) [V.int (i/48%((y.length:Int)+1)),V.ref q] H1 λ_ H2=>N [some (V.ref a),some (V.int (c0%2)),some (V.ref ls),some (V.ref lt),some (V.int m),some (V.ref lo),some (V.int d),Z,Y,X,l,v] H2:=by
   intro H7 q f Z Y X l v s7 rk a0 J;have z:=s7 _ _ hl3;have sp:=em (G/48) ((o.length:Int)+1) (by lia);refine⟨S9 z,Γ (s7 _ _ I) gk ⟨G,rfl,cd _ _ (by decide) (by decide),_,.inl (ι.of z),by lia,?_⟩⟩;rw[ag];refine SN z sp.1 (by rw[ag];lia) (d8 (by rw[ag];lia)) (hN _ _ ⟨o.take (G/48%((o.length:Int)+1)).toNat++q::o.drop (G/48%((o.length:Int)+1)).toNat,O.take (G/48%((o.length:Int)+1)).toNat++qA (oE m e) f::O.drop (G/48%((o.length:Int)+1)).toNat,b++[f],_,_,_,_,_,_,rfl,?_,?_,?_,?_,P.step f _⟩)
   .exact(s3.trans s7).put U _
   .rw[au,aq,aF,List.map_take,nB]
   .exact ν.ins _ (Paired.imp' (λp r h=>Ho _ _ _ h (cZ h z (by nofun))) (ν.same s7 ro3)) (Ho _ _ _ J (cZ J z (by nofun)))
   .refine⟨by rw[aH,rl];rfl,λj r hj=>?_⟩;by_cases WX:j<b.length
    .rw[eJ WX]at hj;exact R.ok j r hj
    .have hj2:j=b.length:=by
      have:=(ax.mp hj).1;rw[aH]at this;simp at this
      lia
     rw[hj2,dc (aJ _),dW]at hj;cases hj;exact⟨by lia,a0⟩
  refine Γ a9 gk ⟨G,rfl,cd _ _ (by decide) (by decide),by decide,?_⟩;by_cases c:G/24%2=1
  .rw[aj c];refine⟨bX (by simp),λq4 cc=>af _ _ ?_⟩;walk_at "";refine put _ q4 ⟨d,u,B,C,0,0⟩ _ _ _ _ _ (Xa.trans (δ.new _ cc)) rfl ⟨u0,u1,b0,b1,ai,t1,bO _,by show(0:Int)<d;lia⟩ ?_;rw[au];unfold qA;rw[ah (show ¬(0:Int)=1 by decide)];show _=some (HO.tup [V.int ((oE m e).getD d.toNat 0),V.int ((oE m e).getD u.toNat 0),V.int B,V.int C]);rw[lu,lk]
  .rw[ah c];refine af _ _ ?_;walk_at "";refine put _ q3 ⟨d,u,C,B,1,0⟩ _ _ _ _ _ Xa rfl ⟨u0,u1,ai,t1,b0,b1,bO _,by show(0:Int)<d;lia⟩ ?_;rw[al];unfold qA;rw[aj rfl];show _=some (HO.tup [V.int ((oE m e).getD u.toNat 0),V.int ((oE m e).getD d.toNat 0),V.int C,V.int B]);rw[lu,lk]
 .rintro BB σ M ϒ ⟨o,O,b,v6,Z,Y,X,l,v,rfl,s3,hl3,ro3,R,P⟩;refine ϒ _ _ ?_;have g:=Qo (n:=m.toNat) (by lia) (by lia) (Pc m1) (by rw[show m.toNat-1=(m-1).toNat by lia];exact R) P;rw[cA (by lia)]at g;walk_at "";refine h7 _ _ ?_;walk_at "";refine⟨bX (by simp),λt nt=>?_⟩;have s4:=δ.new (.tup [.int m,.ref lo]) nt;exact k t lo m o O _ ((Um.trans s3).free nt) ZN (Um.trans (s3.trans s4)) au (s4 _ _ hl3) (ν.same s4 ro3) g Ζ
def KF(K:hB):Sp:=λd H Q _=>∃(a:Addr)(b:fc),d=[.ref a]/\ι K H a (b.map V.int)/\b.length<=63/\∀c,Q (.bl true) c
def Ru(T:Txt K L):Sp:=KF K
def V6(c d:Addr)(H:Hp)(q:Addr)(s:List Int×List Int):Prop:=∃a b,H q=some (.tup [.ref a,.ref b])/\H a=some (.lst (s.1.map V.int))/\H b=some (.lst (s.2.map V.int))/\(a≠c/\a≠d)/\b≠c/\b≠d
def V6.UW{d c l:Addr}{H i:Hp}{q:Addr}{s:List Int×List Int}{k:List V}(g:l=d\/l=c)(e:Ϙ l H i)(j:H l=some (.lst k))(h:V6 d c H q s):V6 d c i q s:=by
 obtain⟨a,b,x,y,z,f,nb⟩:=h;refine⟨a,b,e _ _ x (cZ x j (by nofun)),e _ _ y ?_,e _ _ z ?_,f,nb⟩
 .rcases g with rfl|rfl
  .exact f.1
  .exact f.2
 .rcases g with rfl|rfl
  .exact nb.1
  .exact nb.2
structure Iv(C O:Addr)(H:Hp)(l lr o wb pl t1 x tw sl:Addr)(m:Int)(ps:hH)(rs:ix)(cs:fc)(D S:List (List Int×List Int)):Prop where
 hl:H l=some (.lst (ps.map V.ref))
 hr:H lr=some (.lst (cs.map V.int))
 ro:ν H ps rs
 we:θ C H x m tw ps rs
 dk:π C O H o wb pl m t1 ps rs D
 st:∃qs:List Addr,H sl=some (.lst (qs.map V.ref))/\Paired (V6 sl pl H) qs S
 ne:sl≠pl/\(l≠sl/\l≠pl)/\lr≠sl/\lr≠pl
section
variable{C O:Addr}{H g:Hp}{l r o p f k x u c:Addr}{m:Int}{j:hH}{i:ix}{t:fc}{D v S w:List (List Int×List Int)}{s:List Int×List Int}
def Iv.same(e:δ H g)(h:Iv C O H l r o p f k x u c m j i t D S):Iv C O g l r o p f k x u c m j i t D S:=⟨e _ _ h.hl,e _ _ h.hr,ν.same e h.ro,h.we.same e,h.dk.same e,let ⟨qs,h1,h2⟩:=h.st;⟨qs,e _ _ h1,Paired.imp' (λq s ⟨a,b,x,y,z,n⟩=>⟨a,b,e _ _ x,e _ _ y,e _ _ z,n⟩) h2⟩,h.ne⟩
def Iv.kS{qs:hH}(h:Iv C O H l r o p f k x u c m j i t D S)(e:Ϙ c H g)(d:g c=some (.lst (qs.map V.ref)))(b:Paired (V6 c f g) qs w):Iv C O g l r o p f k x u c m j i t D w:=by
 obtain⟨n,a,y⟩:=h.st;exact⟨e _ _ h.hl h.ne.2.1.1,e _ _ h.hr h.ne.2.2.1,Paired.imp' (λq x z=>e _ _ z (cZ z a (by nofun))) h.ro,h.we.WC e a,h.dk.UW e a (Ne.symm h.ne.1),⟨qs,d,b⟩,h.ne⟩
def Iv.kD(h:Iv C O H l r o p f k x u c m j i t D S)(e:Ϙ f H g)(d:π C O g o p f m k j i v):Iv C O g l r o p f k x u c m j i t v S:=by
 obtain⟨A,a,B⟩:=h.dk.pa;obtain⟨b,y,n⟩:=h.st;exact⟨e _ _ h.hl h.ne.2.1.2,e _ _ h.hr h.ne.2.2.2,Paired.imp' (λq x z=>e _ _ z (cZ z a (by nofun))) h.ro,h.we.WC e a,d,⟨b,e _ _ y h.ne.1,Paired.imp' (λq s x=>V6.UW (.inr rfl) e a x) n⟩,h.ne⟩
def Iv.last(h:Iv C O H l r o p f k x u c m j i t D (S++[s])):E4 λ(d:hH)(q a b:Addr)=>H c=some (.lst ((d++[q]).map V.ref))/\Paired (V6 c f H) d S/\ϳ ((d++[q]).map V.ref) (-1)=some (.ref q)/\H q=some (.tup [.ref a,.ref b])/\H a=some (.lst (s.1.map V.int))/\H b=some (.lst (s.2.map V.int))/\d.length=S.length:=by
 obtain⟨d,A,z⟩:=h.st;obtain⟨e,q,rfl,n,a,b,E,B,y,_⟩:=sW z;refine⟨e,q,a,b,A,n,?_,E,B,y,Paired.length n⟩;rw[aq];exact El _ _
end
abbrev zE:Stmt:=top 127
def RC:ε ["script","many","roads","web","desk","states","cell","deed","numbers","behind_v","row","due","found"] ["script"] (aA zE):=.of
def CK:Ψ (aA zE) "Web":=.of
def AA:Ψ (aA zE) "Desk":=.of
def xC:Ψ (aA zE) "str":=.of
def Rs(T:Txt K L)(hq:bI (τ P w)){f:Addr}{fd:FuncData}(D:Df K L "law" zE ["script"] f fd)(lX:Cm P w K L base (Mk K T.Desk) "__init__" "Desk.__init__" ow ["self","web"] 5 (p5 T))(fq:Cm P w K L base (Meth K T.Desk "answer") "answer" "Desk.answer" ip ["self","row"] 63 (qY T))(bK:nJ P w base T)(ce:pL P w base T)(gX:vU P w base T)(tX:Cb P w K L base "_law_behind" tV ["roads","held","wish","deed","numbers"] 2 (xG T))(wL:Cb P w K L base "_law_deed" qK ["cell","many","roads"] 1 (AK T))(rE:Cb P w K L base "_law_question" re ["web","held","wish","cell"] 62 (u9 T))(vK:Cb P w K L base "_law_roads" sk ["script"] 2 (zb T))(eI:rX P w base T):ϋ P w K L base (τ P w) 65 f fd ["script"] (Ru T):=by
 refine D.F.Ο RC λξ A fu s H vs Q E hr h=>?_;obtain⟨a,ns,rfl,ha,hn,k⟩:=h;have hv:=hr.units;refine⟨_,(aw (jq (Θ vK hr hq (aa (γ 0) ap)) (iC (n:=2) rfl (bQ (ϊ 1) (bQ (ϊ 2) fJ)))) (aw (Κ 3 (wE gX.M gX.G (hr.mono (by decide)) CK.g T.Yi gX.b .nil (d7 hq) (aa (γ 1) (aa (γ 2) ap)) (hdb:=CK.d))) (aw (Κ 4 (wE lX.M lX.G (hr.mono (by decide)) AA.g T.Zf lX.b .nil (d7 hq) (aa (γ 3) ap) (hdb:=AA.d))) (aw (Κ 5 (eL (aa (hJ (aa (aX oU (eL (aa aD ap)) (γ 1)) (aa (aX oU (eL (aa aD ap)) (γ 1)) ap))) ap))) (aw (gf PassesOwn.never rfl (iA (aX Il (Bs Ea (γ 0) DY (Es aD)) (eL (aa aD (aa aD ap))))) (ϊ 6) (aw (jq (Θ wL hr hq (aa (γ 6) (aa (γ 1) (aa (γ 2) ap)))) (iC (n:=2) rfl (bQ (ϊ 7) (bQ (ϊ 8) fJ)))) (aw (Κ 9 qy) (aw (bU (Ν ph (γ 7) bH) (ay (Κ 9 (Θ tX hr hq (aa (γ 2) (aa (ψ eM (jT bu (γ 5) (lx ju aD) (λ_ _=>rfl)) aD) (aa (ψ eM (jT bu (γ 5) (lx ju aD) (λ_ _=>rfl)) aD) (aa (γ 7) (aa (γ 8) ap)))))))) bE) (aw (bU (CI (Rf (γ 9))) (aw (cH (TU (γ 5) (γ 9))) (ay (bU (tG ph (nU (γ 4) T.η fq.M fq.G (hr.mono (by decide)) fq.b .nil (d7 hq) (aa (aX gI (aX gI (γ 7) bH) (Θ eI hr hq (aa (γ 8) ap))) ap)) bH (kP _)) (ay (aY zN)) bE))) (ay (bU (PW.pt (t7 (Ν cM (γ 7) bH) (rN (Ν wP (TB gN T.len (aa (γ 5) ap)) aD)))) (aw (cH (yO dv PySem.F.slot_list_pop PySem.F.type_list_pop zc (γ 5))) (ay (bU (Ν ph (nU (γ 4) T.η fq.M fq.G (hr.mono (by decide)) fq.b .nil (d7 hq) (aa bH ap)) bH) (ay (aY zN)) bE))) bE))) (aw (jq (Θ rE hr hq (aa (γ 3) (aa (ψ eM (jT bu (γ 5) (lx ju aD) (λ_ _=>rfl)) aD) (aa (ψ eM (jT bu (γ 5) (lx ju aD) (λ_ _=>rfl)) aD) (aa (aX eY (γ 6) aD) ap))))) (iC (n:=2) rfl (bQ (ϊ 10) (bQ (ϊ 11) fJ)))) (aw (Κ 12 (nU (γ 4) T.η fq.M fq.G (hr.mono (by decide)) fq.b .nil (d7 hq) (aa (γ 10) ap))) (ay (bU (PW.pt (zI (nG (lW (TB IH T.isinstance (aa (γ 12) (aa (Qu (v:=.ty "str") xC.g T.str LR rfl (hn:=xC.n) (hd:=xC.d)) ap))))) (zI (Ν ph (γ 12) (γ 11)) (CB (Ν ph (nU (γ 4) T.η fq.M fq.G (hr.mono (by decide)) fq.b .nil (d7 hq) (aa (γ 10) ap)) (γ 11)))))) (ay (aY zN)) bE))))))))) (ay (aY (wr (jV (Nl hv) (gq (γ 4) T.η bK.M bK.G (hr.mono (by decide)) bK.b .nil (d7 hq)) (iO gi T.tuple (aa (ψ eM (jT bu (γ 5) (lx ju aD) (λ_ _=>rfl)) aD) ap)) (kP _)) (wD (jV (Nl hv) (gq (γ 4) T.η ce.M ce.G (hr.mono (by decide)) ce.b .nil (d7 hq)) (iO gi T.tuple (aa (ψ eM (jT bu (γ 5) (lx ju aD) (λ_ _=>rfl)) aD) ap)) (kP _))))))))))),?_⟩;walk_at "s";unfold tSl FY Tj;refine db λN1 h1=>?_;walk_at "";refine⟨a,ns,rfl,ha,λt l m Y rs H1 nt nl s1 et el ro g m5=>?_⟩;have m1:=g.m1;have Ζ:=g.Ζ;have mp:0<m:=by lia
 refine⟨t,rfl,_,Α.of et,rfl,_,_,rfl,_,_,rfl,rfl,h1 _ _ (db λN2 h2=>?_)⟩;walk_at "";refine MF T (c:=true) (ι.of el) ro g λx tw H2 hx iz s2 W=>h2 _ _ (db λN3 h3=>?_);walk_at "";refine Qj T W λo wb O t1 H4 no dY s3 D1=>h3 _ _ (db λN5 h5=>?_);have dS:l≠O:=λz=>by rw[<-z,s2 _ _ el]at dY;cases dY
 have dt:=s1.trans (s2.trans s3);have co:=(s2.trans s3) _ _ el;have ei:=ν.same (s2.trans s3) ro;have W4:=W.same s3;clear W s2 s3 el ro et;have ca:∀{C:Hp}{Q':VK},(∀p Z,C p=none->δ C Z->Z p=some (.lst ((aC m).map V.int))->Q' (.ref p) Z)->[V.int 0].length<=sizeLine/\∀(p:Addr),C p=none->aai (V.ref p) (V.int m) (upd C p (.lst [V.int 0])) Q':=λ{C Q'} q=>⟨by decide,λp np=>by
  have v1:=δ.new (.lst [V.int 0]) np;refine⟨p,m,[V.int 0],rfl,rfl,au,by lia,by lia,bX (by simp;lia),λp2 dz=>?_⟩;rw[rp,<-Ed];exact q p2 _ (v1.free dz) (v1.trans (δ.new _ dz)) au⟩
 walk_at "";refine ca λz1 H5 bx s5 e5=>ca λz2 H6 bv s6 e6=>⟨bX (by simp),λB ey=>⟨bX (by simp),λj ct=>?_⟩⟩;have s7:=δ.new (.tup [V.ref z1,V.ref z2]) ey;have s8:=δ.new (.lst [V.ref B]) ct;have bS:=s8 _ _ (au (H:=H6) (a:=B) (o:=.tup [V.ref z1,V.ref z2]));have ba:upd (upd H6 B (.tup [V.ref z1,V.ref z2])) j (.lst [V.ref B]) j=some (.lst [V.ref B]):=au;have ar:=s7.trans s8;have Yt:=s5.trans (s6.trans ar);have VR:=s7.free ct;have eh:=(s5.trans s6).free VR;generalize upd (upd H6 B (.tup [V.ref z1,V.ref z2])) j (.lst [V.ref B])=H7 at bS ba ar Yt ⊢;obtain⟨qd,gd,_⟩:=D1.pa;have cx:∀{p:Addr}{y:HO},H4 p=some y->p≠j:=λh z=>by rw[z,eh]at h;cases h
 have dG:=Yt _ _ gd;refine h5 _ _ (db λN6 h6=>?_);walk_at "";refine slI (δ.seq (dt.trans Yt) ha) λp np=>⟨bX (by simp),λq nq=>?_⟩;have cl:=PJ ns none (some 24);generalize xn ns none (some 24)=J at cl np nq ⊢;have s8:=δ.new (HO.lst (J.map V.int)) np;have s9:=δ.new (HO.lst [V.int 4,V.int 6]) nq;refine O5 (s9 _ _ au) au (bX (by rw[ag];simp;lia)) λlr ZO=>?_;have Xd:=(s8.trans s9).trans (δ.new (HO.lst (J.map V.int++[V.int 4,V.int 6])) ZO);have b1:upd (upd (upd H7 p (.lst (J.map V.int))) q (.lst [V.int 4,V.int 6])) lr (.lst (J.map V.int++[V.int 4,V.int 6])) lr=some (.lst ((J++[4,6]).map V.int)):=by rw[au,aq];rfl
 have WL:=(s8.trans s9).free ZO;generalize upd (upd (upd H7 p (.lst (J.map V.int))) q (.lst [V.int 4,V.int 6])) lr (.lst (J.map V.int++[V.int 4,V.int 6]))=H8 at Xd b1 ⊢;have I8:Iv T.Web T.Desk H8 l lr o wb O t1 x tw j m Y rs (J++[4,6]) [(aC m,aC m)] [(aC m,aC m)]:=by
  refine Iv.same (H:=H8) (δ.refl _) ⟨Xd _ _ (Yt _ _ co),b1,ν.same (Yt.trans Xd) ei,W4.same (Yt.trans Xd),D1.same (Yt.trans Xd),⟨[B],Xd _ _ ba,.cons ⟨z1,z2,Xd _ _ bS,Xd _ _ (ar _ _ (s6 _ _ e5)),Xd _ _ (ar _ _ e6),⟨?_,?_⟩,?_,?_⟩ .nil⟩,(cx gd).symm,⟨cx co,dS⟩,?_,?_⟩
  .exact λz=>by rw[<-z,s6 _ _ e5]at VR;cases VR
  .exact λz=>by rw[z,gd]at bx;cases bx
  .exact λz=>by rw[<-z,e6]at VR;cases VR
  .exact λz=>by rw[z,s5 _ _ gd]at bv;cases bv
  .exact λz=>by rw[z,ba]at WL;cases WL
  .exact λz=>by rw[z,dG]at WL;cases WL
 clear Xd b1 WL ZO s8 s9 np nq dG gd cx eh VR Yt ar ba bS s7 ct ey e5 e6 s5 s6 bx bv D1 W4 ei co dt dS ca h1 h2 h3 h5;refine⟨lr,rfl,⟨_,ι.of I8.hr⟩,?_⟩;have ln:(J++[4,6]).length<=65:=by rw[aH];show _+2<=_;lia
 generalize J++[4,6]=J at I8 ln ⊢;have fb:∀{C:Hp}{D S:List (List Int×List Int)}{s:List Int×List Int}{R:VK},Iv T.Web T.Desk C l lr o wb O t1 x tw j m Y rs J D (S++[s])->(∀y Z,Iv T.Web T.Desk Z l lr o wb O t1 x tw j m Y rs J D S->R y Z)->YN (V.ref j) [] C R:=λ{C D S s R} I q=>by
  obtain⟨qs,B,a',b',g1,g2,g3,g4,g5,g6,g7⟩:=I.last;have kp:Ϙ j C (upd C j (.lst (qs.map V.ref))):=Ϙ.refl.put _;refine⟨j,_,V.ref B,rfl,rfl,g1,?_,?_⟩
  .rw[aq,aH,aF,cG,aO,dB,show(qs.map V.ref).length+(0+1)-1=(qs.map V.ref).length by lia,dc (aJ _),dW]
   rfl
  .rw[aq,aF,cG,j5];exact q _ _ (I.kS kp au (Paired.imp' (λq s x=>V6.UW (.inl rfl) kp g1 x) g2))
 have gr:∀{C:Hp}{D S:List (List Int×List Int)}{s:List Int×List Int}{B:Addr}{R:VK},Iv T.Web T.Desk C l lr o wb O t1 x tw j m Y rs J D S->V6 j O C B s->S.length<=1000->(∀y Z,Iv T.Web T.Desk Z l lr o wb O t1 x tw j m Y rs J D (S++[s])->Ϙ j C Z->R y Z)->rW (V.ref j) [V.ref B] C R:=λ{C D S s B R} I st sl' q=>by
  obtain⟨qs,g1,g2⟩:=I.st;have kp:Ϙ j C (upd C j (.lst (qs.map V.ref++[V.ref B]))):=Ϙ.refl.put _;refine⟨j,_,_,rfl,rfl,g1,d8 (by rw[ag,Paired.length g2];lia),?_⟩;exact q _ _ (I.kS (qs:=qs++[B]) kp (by rw[au,aq];rfl) (p6 (V6.UW (.inl rfl) kp g1 st) (Paired.imp' (λq s x=>V6.UW (.inl rfl) kp g1 x) g2))) kp
 have a8:∀{C:Hp}{D:List (List Int×List Int)}{S S':List (List Int×List Int)}{s:List Int×List Int}{z:Str}{r:Sum Str Nat}{n:Nat}{Q':VK},Iv T.Web T.Desk C l lr o wb O t1 x tw j m Y rs J (S++[s]) D->S.length<=500->Sz m n s->TF m rs S s z r S'->(∀Z,Iv T.Web T.Desk Z l lr o wb O t1 x tw j m Y rs J S' D->Ϙ O C Z->Q' (.str (AZ r)) Z)->qY T [.ref o,.str z] C Q' E0:=λ{C D S S' s z r n Q'} I j sz ra q=>by
  have ff:=sz.fil;exact⟨o,wb,O,t1,m,Y,rs,S,s,z,r,S',rfl,I.dk,j,oO sz.l1 ff.1,oO sz.l2 ff.2,ra,λZ fx kp=>q Z (I.kD kp fx) kp⟩
 refine jL (K:=K) (xs:=J.map V.int) (λi σ H8=>E8 λ(U:List (List Int×List Int))(v6 v7 v8 v9 am a0 aT:Option V)=>Iv T.Web T.Desk H8 l lr o wb O t1 x tw j m Y rs J U U/\(∀s∈U,Sz m i s)/\U≠[]/\U.length<=i+1/\σ=[some (V.ref a),some (V.int m),some (V.ref l),some (V.ref x),some (V.ref o),some (V.ref j),v6,v7,v8,v9,am,a0,aT]) ⟨_,_,_,_,_,_,_,_,I8,QF (by lia),by simp,by simp,rfl⟩ (λi σ H8 _ ⟨_,_,_,_,_,_,_,_,z,_⟩=>ι.of z.hr) ?_ ?_
 .rintro i y σ H8 N BB ϒ hN hy ⟨U,v6,v7,v8,v9,am,a0,aT,I8,ok8,ne8,XQ,rfl⟩;have il:=(ax.mp hy).1;rw[ag]at il;obtain⟨c,_,rfl⟩:=List.μ hy;refine ϒ _ _ (db λM1 k1=>?_);walk_at "";refine⟨l,c,m,Y,rs,rfl,I8.hl,I8.ro,g,λq b H9 X ed bd nb s9 eq eb=>⟨q,rfl,_,Α.of eq,rfl,_,_,rfl,_,_,rfl,rfl,k1 _ _ (db λM2 k2=>?_)⟩⟩;have I9:=I8.same s9;obtain⟨h7,g8,_⟩:=I8.st;obtain⟨hR,fw,_⟩:=I8.dk.pa;have go:b≠j:=λz=>by rw[z,g8]at nb;cases nb
  walk_at "";refine k2 _ _ (db λM3 k3=>lN λA3 B3 ew ep=>?_);obtain⟨S,s,e⟩:=(fF U).resolve_left ne8;rw[fL]at e;subst e;have sz:=ok8 s (by simp);have hT:S.length<=i:=by rw[aH]at XQ;simp at XQ;lia
  have ef:S.length<=500:=by lia
  have mono:∀z∈S++[s],Sz m (i+1) z:=λz hz=>(ok8 z hz).mono (by lia);have Zy:∀(Ve:Hp)(v9:V),Iv T.Web T.Desk Ve l lr o wb O t1 x tw j m Y rs J (S++[s]) (S++[s])->Ve b=some (.lst (X.ns.map V.int))->(v9=.ο\/∃q s',v9=.ref q/\Zb rs s X=some s'/\V6 j O Ve q s'/\∀v n,X≠.back v n)->M3 [some (V.ref a),some (V.int m),some (V.ref l),some (V.ref x),some (V.ref o),some (V.ref j),some (V.int c),some (V.str X.wd),some (V.ref b),some v9,am,a0,aT] Ve:=λVe v9 ZR fX hc=>by
   refine k3 _ _ (db λM4 k4=>lN λA4 B4 cr cc=>?_);have nx:∀(Uo:Hp)(U:List (List Int×List Int)),Iv T.Web T.Desk Uo l lr o wb O t1 x tw j m Y rs J U U->(∀s∈U,Sz m (i+1) s)->U≠[]->U.length<=i+2->M4 [some (V.ref a),some (V.int m),some (V.ref l),some (V.ref x),some (V.ref o),some (V.ref j),some (V.int c),some (V.str X.wd),some (V.ref b),some v9,am,a0,aT] Uo:=λUo U ZS dV es WM=>by
    obtain⟨S,s,e⟩:=(fF U).resolve_left es;rw[fL]at e;subst e;have sz:=dV s (by simp);have eu:S.length<=500:=(by rw[aH]at WM;simp at WM;lia);refine k4 _ _ (db λM5 k5=>?_);obtain⟨qs,B,a',b',g1,g2,g3,g4,g5,g6,g7⟩:=ZS.last;walk_at "";refine Γ g1 g3 ⟨B,_,0,_,rfl,rfl,Α.of g4,rfl,Γ g1 g3 ⟨B,_,1,_,rfl,rfl,Α.of g4,rfl,⟨by decide,by decide⟩,?_⟩⟩;refine⟨x,a',b',tw,m,Y,rs,s.1,s.2,_,i+1,rfl,ZS.we,m5,g5,g6,sz,by lia,λq z r br ϙ eq ra=>⟨q,rfl,_,Α.of eq,rfl,_,_,rfl,_,_,rfl,rfl,k5 _ _ (db λM6 k6=>?_)⟩⟩;have Zw:=ZS.same ϙ;walk_at "";refine Zw.dk.Τ (a8 Zw eu sz (ra S) λfk eo _=>k6 _ _ ?_);walk_at "";refine⟨_,_,_,true,rfl,.str _,λcv r=>by cases(show cv=.type "str" from r);rfl,true,rfl,?_⟩;rw[ah (by decide),ah (λz=>z trivial)];refine eo.dk.Τ (a8 eo eu sz (ra S) λdK b0 _=>⟨rfl,?_⟩);rw[ah λz=>z rfl];exact hN _ _ ⟨_,_,_,_,_,_,_,_,b0,dV,es,WM,rfl⟩
   rcases hc with rfl|⟨q,s',rfl,gw,Uy,a5⟩
   .walk_at "";refine cc _ _ (lN λA5 B5 fj ej=>?_);clear cr cc k3;walk_at "";by_cases an:∃v n,X=.back v n
    .obtain⟨v,n,eD⟩:=an;obtain⟨hS,g9,p9⟩:=ZR.st;refine Yg (by rw[eD];rfl) ⟨_,.inl (ι.of g9),?_⟩;rw[ag,Paired.length p9];by_cases z1:(1:Int)<(S++[s]).length
     .refine Yg z1 (fj _ _ ?_);walk_at "";have em:S≠[]:=λz=>by rw[z]at z1;simp at z1
      have ex:=Ls (m:=m) (rs:=rs) (k:=0) rfl (λk hk=>by cases hk) (.back (s:=s) em);rw[Jw]at ex;refine⟨.inl ⟨rfl,_,ι.of g9⟩,fb ZR λ_ Uo ZS=>ZS.dk.Τ (a8 ZS ef sz ex λbr Zw _=>⟨rfl,?_⟩)⟩;rw[ah λz=>z rfl];exact nx br S Zw (λz hz=>mono z (bJ _ hz)) em (by lia)
     .exact UU z1 (ej _ _ (nx Ve _ ZR mono (by simp) (by lia)))
    .exact UU (JW λv n z=>an ⟨v,n,z⟩) (ej _ _ (nx Ve _ ZR mono (by simp) (by lia)))
   .obtain⟨qs2,h2',_⟩:=ZR.st;have dx:=SB g ed bd gw sz S;walk_at "";refine cr _ _ ?_;clear cr cc k3;walk_at "";refine⟨.inl ⟨rfl,_,ι.of h2'⟩,gr ZR Uy (by lia) λ_ br Zw gx=>?_⟩;have fa:=gx _ _ fX go;have l3:X.ns.length<=3/\X.ns≠[]:=Sh X;have bt:∀y∈X.ns,Bt y:=λy hy=>py (n:=200) (by have:=bd y hy;lia) (by decide);have wl:=zq bt;have dl:X.wd.length<=20:=Sl X;have l1:(Str.ofString " ").length=1:=rfl;refine Zw.dk.Τ ⟨_,rfl,_,rfl,bX (by lia),b,true,X.ns,rfl,fa,by lia,bt,λfk T4=>⟨_,rfl,_,rfl,bX (by rw[nS];lia),?_⟩⟩;rw[Mu l3.2 λy hy=>(bd y hy).1];refine a8 (Zw.same T4) ef sz dx.1 λdK b0 _=>⟨rfl,?_⟩;rw[ah λz=>z rfl];exact nx dK _ b0 (ON ok8 dx.2) (by simp) (by rw[aH];simp at XQ ⊢;lia)
  by_cases an:∃v n,X=.back v n
  .obtain⟨v,n,eD⟩:=an;walk_at "";exact UU (λz=>z (by rw[eD];rfl)) (ep _ _ (Zy H9 .ο I9 eb (.inl rfl)))
  .have a5:∀v n,X≠.back v n:=λv n z=>an ⟨v,n,z⟩;walk_at "";refine Yg (JW a5) (ew _ _ ?_);clear ew ep k2;walk_at "";obtain⟨qs,B,a',b',g1,g2,g3,g4,g5,g6,g7⟩:=I9.last;have fr:∀{p:Addr},H9 p=none->p≠j/\p≠O:=λhp=>⟨λz=>(by rw[z,s9 _ _ g8]at hp;cases hp),λz=>(by rw[z,s9 _ _ fw]at hp;cases hp)⟩;refine Γ g1 g3 ⟨B,_,0,_,rfl,rfl,Α.of g4,rfl,Γ g1 g3 ⟨B,_,1,_,rfl,rfl,Α.of g4,rfl,?_⟩⟩;exact⟨l,a',b',b,Y,rs,m,s,X,rfl,I9.hl,I9.ro,g,g5,g6,eb,sz.l1,sz.l2,ed,a5,λ_ Uo Yn=>Zy Uo .ο (I9.same Yn) (Yn _ _ eb) (.inl rfl),λs' Z3 q a2 b2 Uo Yn e9 e8 e1 e2 e3=>Zy Uo (.ref q) (I9.same Yn) (Yn _ _ eb) (.inr ⟨q,s',rfl,Z3,⟨a2,b2,e1,e2,e3,fr e9,fr e8⟩,a5⟩)⟩
 .rintro BB σ H8 ϒ ⟨U,v6,v7,v8,v9,am,a0,aT,I8,ok8,ne8,XQ,rfl⟩;refine ϒ _ _ (h6 _ _ ?_);walk_at "";obtain⟨S,s,e⟩:=(fF U).resolve_left ne8;rw[fL]at e;subst e;obtain⟨qs,B,a',b',g1,g2,g3,g4,g5,g6,g7⟩:=I8.last;refine I8.dk.Τ ⟨o,wb,O,t1,m,Y,rs,S,s,rfl,I8.dk,λd1 e1=>Γ g1 g3 ⟨B,_,0,_,rfl,rfl,Α.of g4,rfl,a',rfl,_,.inl ⟨ι.of g5,λu nu=>?_⟩⟩⟩;have u1:=δ.new (HO.tup (s.1.map V.int)) nu;refine Hh (u1 _ _ e1) au ⟨_,rfl,?_⟩;rw[aj (bo rfl)];have I9:=I8.same u1;refine I9.dk.Τ ⟨o,wb,O,t1,m,Y,rs,S,s,rfl,I9.dk,λd2 e2=>Γ (u1 _ _ g1) g3 ⟨B,_,1,_,rfl,rfl,Α.of (u1 _ _ g4),rfl,b',rfl,_,.inl ⟨ι.of (u1 _ _ g6),λu2 fv=>Hh (δ.new _ fv _ _ e2) au ?_⟩⟩⟩;rw[bo rfl];exact k _
end
def walk{l:PySem.W.OpenLaw}{q:Program}{c:hU}{XP:(Str->Option Value)->Heap->Prop}{i:World->Heap->Prop}{d:DefRec}{K:Params->PySem.W.Frag}(t:l.most=some 63)(g:d.params.defaults=[])(r:∀(w:World) (h:Heap),i w h->(K w.params).In h)(F:∀(w:World) (e:hP) (j:Addr) (h:Heap),(K w.params).In h->h.Ns mainGlobals e->e d.name=some (.ref j)->∃m:FuncData,(∀(s:Shared) (u:Value),BindsTo s m ⟨[u],[]⟩ [("script",u)])/\∀b:Heap,(K w.params).In b->b.Ns mainGlobals e->ϋ l.prog w (K w.params) e b (τ l.prog w) 65 j m ["script"] (KF (K w.params))):PySem.W.WalkO q c XP i l.row.toRowW d [] (λf v=>PySem.call f v):=L2.Xp (n:=63) (k:=65) (x:="script") (CX:=λw=>τ l.prog w) (sp:=λw=>KF (K w.params)) t (by decide) g ⟨rfl,by decide,by decide⟩ r F (λ_ _ a y o _ p=>⟨a,y,rfl,p,o,λ_=>rfl⟩) λ_ _ _ _ _ z=>bz _ _ _ _ _ z
end Pk
open L2
open PySem PySem.W PyProof.Rows
set_option maxRecDepth 100000 in
set_option maxHeartbeats 0 in
theorem PySem.Challenge.cw_pebbletoll_k63_questions_answered_holds : PySem.Challenge.rw_pebbletoll_k63_questions_answered.Holds := by
 w_on;refine PySem.W.holds_law Hd.ws λamB=>?_
 refine PySem.W.holds_open (q:=Hd.qq) (loose:=["NUMBERS_BEHIND"]) (Xt:=(λs=>PySem.W.xlAt Hd.qq [] s&&PySem.W.recOk (PySem.W.RowW.records (PySem.W.OpenRow.toRowW (PySem.Challenge.rw_pebbletoll_k63_questions_answered).row)) s)) (XP:=PySem.W.XL Hd.qq []) (Yf:=PySem.W.Hook.obs (PySem.W.kHook Hd.KK Hd.VU Hd.ϛ)) (Ya:=PySem.W.Hook.val (PySem.W.kHook Hd.KK Hd.VU Hd.ϛ)) (YP:=PySem.W.Hook.says (PySem.W.kHook Hd.KK Hd.VU Hd.ϛ)) (N:=13356) Hd.left (PySem.W.Hook.of (PySem.W.kHook Hd.KK Hd.VU Hd.ϛ)) (PySem.W.Hook.keeps (PySem.W.kHook Hd.KK Hd.VU Hd.ϛ)) (λs e=>PySem.W.xl_of s (oB.mp e).1) PySem.W.XL.keeps (by rfl) (by rfl) (by rfl) (λs e=>PySem.W.recFacts_of (oB.mp e).2) (by rfl) (by assumption) (by decide +kernel) ⟨rfl,rfl,rfl,rfl,rfl,by decide +kernel⟩ ?hw ?hc
 (case hw=>w_witness2)
 k_fill
 refine Pk.walk (l:=PySem.Challenge.rw_pebbletoll_k63_questions_answered) rfl rfl (λw h Y=>PySem.W.kIn_of Y) λw mg fa h X G hmg=>?_
 let T:Pk.Txt (Hd.KK w.params) mg:=by
  constructor
  all_goals first|exact kh X G (by k_is)|exact PySem.W.mg_none_of X G (by k_is)|exact⟨_,kh X G (by k_is)⟩|k_is|exact Pb.afO (by k_is)|exact⟨by k_is,by k_is,by k_is,by k_is⟩|exact⟨by k_is,by k_is,by k_is⟩|decide|exact Qy (by k_is) (by k_is) (by k_is) (by k_is) (by k_is) (by k_is) (by k_is) (by k_is) (by rfl)|exact Q0 (by k_is) (by k_is) (by k_is) (by k_is) (by k_is) (by k_is) (by k_is) (by k_is) (by rfl)|exact Ra _ _ _ _ _ _ _ _ _ _ _ _ _ _ _ _ (by k_is) (by rfl) (by kernel_rfl) (by k_is) (by kernel_rfl)|exact acR (by k_is) (by rfl) (by k_is) (by k_is) (by k_is)|exact⟨_,_,_,by k_is,rfl,rfl,by show 4<=sizeLine;decide,.cons ⟨_,rfl⟩ (.cons ⟨_,rfl⟩ (.cons ⟨_,rfl⟩ (.cons ⟨_,rfl⟩ (.nil))))⟩
 refine Pb.lw (st:=Pk.zE) X G hmg λbase _ _ D=>?_;have C:=@Pb.cd PySem.Challenge.rw_pebbletoll_k63_questions_answered.prog w _ _ _ base X G;have M:=@Pb.cm PySem.Challenge.rw_pebbletoll_k63_questions_answered.prog w (Hd.KK w.params) mg base;have S6:=Pb.dkN (w:=w) (K:=(Hd.KK w.params)) "NUMBERS_BEHIND" Hd.ϣ (by decide +kernel);have mX:=Pb.df (x:="load_by") (st:=Pk.lS) (ps:=["outlook","place","kid","room"]) X G;have eT:=Pb.df (x:="greatest_load") (st:=Pk.dy) (ps:=["outlook","place","over"]) X G;have qX:=C (Pk.Ca T bz);have jF:=C (Pk.Jc T bz);have ut:=C (Pk.FJ T bz jF);have mD:=C (Pk.FE T bz);have rd:=C (Pk.C5 T bz mD);have sG:=C (Pk.DN T bz);have gX:=M "Web" (R:=Mk) (Pk.C3 T bz qX ut rd sG);have vg:=C (Pk.HR T bz);have lX:=M "Desk" (R:=Mk) (Pk.AO T bz gX);have dG:=C (Pk.En T bz jF);have mI:=C (Pk.FW T bz dG mD);have jm:=C (Pk.Qv T bz mI);have lI:=C (Pk.NR T bz dG jm);have wt:=C (Pk.Rg T bz lI jm);have dj:=C (Pk.LY T bz lI wt);have di:=C (Pk.QI T bz dG);have tP:=C (Pk.Of T bz di);have pj:=C (Pk.IP T bz tP);have hG:=C (Pk.Bx T bz tP dj);have qh:=C (Pk.K1 T bz dj pj hG);have pZ:=C (Pk.DM T bz);have kz:=C (Pk.IU T bz);have rJ:=C (Pk.C4 T bz kz);have yh:=C (Pk.LD T bz pj);have nW:=C (Pk.Gg T bz);have Be:=C (Pk.Mi T bz nW);have wK:=C (Pk.Iz T bz di);have qm:=C (Pk.Ko T bz kz);have mH:=C (Pk.FO T bz wK qm);have wS:=C (Pk.Je T bz pZ rJ yh Be mH);have kU:=M "Tally" (R:=Mk) (Pk.zT T bz lI qh wt jm hG wS);have oN:=M "Desk" (R:=(Meth · · "deeds")) (Pk.Fw T bz);have pP:=M "Desk" (R:=(Meth · · "back")) (Pk.HE T bz oN);have fX:=M "Desk" (R:=(Meth · · "keep")) (Pk.Gv T bz);have bK:=M "Desk" (R:=(Meth · · "laying")) (Pk.DT T bz);have ce:=M "Desk" (R:=(Meth · · "wish")) (Pk.Gf T bz);have nV:=C (Pk.HH T bz);have gU:=C (Pk.G3 T bz nV);have Kq:=C (Pk.Ro T bz dG gU);have GX:=C (Pk.Qh T bz Kq);have qT:=M "Desk" (R:=(Meth · · "put")) (Pk.IA T bz fX bK ce GX);have tQ:=C (Pk.Ot T bz di);have AV:=C (Pk.Md T bz tQ);have yg:=C (Pk.KB T bz jF mI);have sE:=C (Pk.Ev T bz yg tQ);have yR:=C (Pk.KO T bz AV sE gU);have Br:=C (Pk.Mv T bz yR);have pN:=M "Desk" (R:=(Meth · · "step")) (Pk.Iu T bz fX bK ce Br);have jd:=C (Pk.Lx T bz nV);have pK:=M "Desk" (R:=(Meth · · "want")) (Pk.Gm T bz fX bK ce dG jd);have yp:=C (Pk.KD T bz pP qT pN pK);have vh:=C (Pk.Hk T bz);have lH:=C (Pk.Er T bz vh);have uq:=C (Pk.FR T bz lH);have kM:=C (Pk.Pj T bz);have fe:=C (Pk.Gh T bz kM);have iR:=C (Pk.Pr T bz);have gw:=Pk.Bg (P:=PySem.Challenge.rw_pebbletoll_k63_questions_answered.prog) (w:=w) (base:=base) T bz eT mX kM fe di iR;have vo:=C (Pk.G4 T bz eT gw fe di);have Eb:=C (Pk.Ps T bz dj di jd);have jR:=M "Outlook" (R:=Mk) (Pk.xR T bz lI vo dj jm Eb);have yF:=C (Pk.Kw T bz jR eT gw);have qk:=C (Pk.Km T bz iR jd);have pb:=C (Pk.Oz T bz yF qk);have q9:=C (Pk.MI T bz pb qk iR);have pi:=C (Pk.IT T bz dj gU di);have tN:=C (Pk.Pg T bz pi dj di);have nP:=C (Pk.Hl T bz di);have jG:=C (Pk.HS T bz nP dj gU jd);have gL:=C (Pk.IG T bz jG);have BJ:=C (Pk.My T bz gL);have wO:=C (Pk.Jf T bz gL);have wX:=C (Pk.IK T bz nP dj jG);have vF:=C (Pk.GU T bz dj jG);have qp:=C (Pk.Lf T bz BJ wO wX vF);have dY:=C (Pk.Ee T bz);have dz:=C (Pk.CH T bz dY);have mG:=C (Pk.FX T bz dz);have qZ:=C (Pk.Ch T bz dz mG);have wg:=C (Pk.Rk T bz pi);have qL:=C (Pk.AY T bz dY);have iu:=C (Pk.Da T bz dG);have xg:=C (Pk.IR T bz iu dj di);have j3:=C (Pk.M8 T bz xg hG);have qf:=C (Pk.Lq T bz j3);have tM:=C (Pk.OL T bz qh iu dj di);have mC:=C (Pk.FG T bz kU iu qm);have sI:=C (Pk.Eu T bz j3 qf dY dz tM mC);have rC:=C (Pk.Dv T bz bK ce q9 tN pb qp qZ wg dY dz gL qL mG sI);have vP:=C (Pk.Gq T bz yp uq rC S6);have fq:=M "Desk" (R:=(Meth · · "answer")) (Pk.D9 T bz vP);have vH:=C (Pk.HQ T bz);have tX:=C (Pk.FV T bz vH);have wL:=C (Pk.IC T bz);have eI:=C (Pk.G6 T bz);have uj:=C (Pk.FU T bz eI j3 qf tM mC);have nh:=C (Pk.Ae T bz eI);have pf:=C (Pk.B7 T bz nh eI q9 tN pb qp wg gL);have rE:=C (Pk.Dq T bz uj pf);have qB:=C (Pk.IZ T bz);have uJ:=C (Pk.Ku T bz);have vK:=C (Pk.Hb T bz qB uJ vg);exact Pk.Rs T bz D lX fq bK ce gX tX wL rE vK eI
#print axioms PySem.Challenge.cw_pebbletoll_k63_questions_answered_holds