import PyProof.Rows.All
import Wide.All
import OpenK.AllK
import Wide.FinOn
import Lean
import PyProof.EqAt
import PyProof.EqKinds
import PyProof.TupleCall
import PyProof.P3Eq
import PyProof.NeData
import PyProof.FitsBits
import PyProof.ZipIter
import PyProof.TupleIter
import KE.KRevIter
import PyProof.TupleOfGen
import PyProof.ListRange
import KE.KIsAll
import PyProof.ExcArgsOwn
import OpenK.KDescr
import PyProof.StationsW
import PyProof.ExcBaseAll.ValueError
import OpenK.KOwn
import PyProof.RulesAs
import PyProof.RulesDel
import PyProof.Rows.SortWalk
import PyProof.CompUse
import KE.KDictSum
import PyProof.WalkInts
import KE.KSortTup
import PyProof.Rows.TupDisplay
import KE.KIntText
import PyProof.JoinWalk
import PyProof.ExcInit
import PyProof.ExcClass2
import KE.KRevSl
import KE.KSetAt
import PyProof.DictUpdate
import KE.KTryMore
import PySem.Challenge.RW_pebbletoll_k63_questions_answered
set_option Elab.async false
set_option linter.all false
set_option maxRecDepth 100000
def gS:=@Array.getElem?_eq_some_iff
def j3:=@Array.getElem?_toList
def oY:=@Array.length_toList
def ou:=@Array.mem_toList_iff
def ng:=@Array.size_push
def bG:=@Bool.and_eq_true
def oE:=@Bool.and_eq_true_iff
def jb:=@Bool.eq_iff_iff
def gh:=@Bool.false_and
def dL:=@Bool.false_eq_true
def bj:=@Bool.false_ne_true
def og:=@Bool.false_or
def iI:=@Bool.not_eq_true'
def oj:=@Bool.or_false
def lY:=@Bool.or_true
def iU:=@Bool.true_and
def kP:=@PySem.Calls.Name_function_global
def jA:=@PySem.Calls.callWith_builtin
def j4:=@PySem.Calls.evalArgs_plain
def ii:=@PySem.Calls.spliced_cons
def iE:=@PySem.Calls.spliced_nil
def kX:=@PySem.F.args_str_split_2
def j9:=@PySem.F.args_tuple_iterator_next_1
def lB:=@PySem.F.entry_str_split
def kH:=@PySem.F.entry_tuple_iterator_next
def mJ:=@PySem.F.slot_str_join
def md:=@PySem.F.slot_str_split
def gJ:=@PySem.F.slot_tuple_iterator_next
def jT:=@PySem.F.slot_zip_next
def aB:=@PySem.Heap.get?_push_of_some
def bc:=@PySem.Heap.get?_push_size
def dR:=@PySem.Heap.get?_update_other
def fF:=@PySem.Heap.get?_update_self
def aK:=@PySem.Heap.lt_size
def d5:=@PySem.Heap.size_push
def eW:=@Int.add_mul
def my:=@Int.ediv_nonneg
def cQ:=@Int.emod_lt_of_pos
def cM:=@Int.emod_nonneg
def cJ:=@Int.eq_ofNat_of_zero_le
def lf:=@Int.fdiv_eq_ediv_of_nonneg
def fm:=@Int.le_of_lt
def bO:=@Int.le_refl
def ci:=@Int.le_trans
def fM:=@Int.mul_add
def eV:=@Int.mul_assoc
def fS:=@Int.mul_comm
def dF:=@Int.mul_le_mul
def bL:=@Int.mul_le_mul_of_nonneg_left
def b5:=@Int.mul_le_mul_of_nonneg_right
def ja:=@Int.mul_nonneg
def pH:=@Int.mul_one
def mj:=@Int.mul_sub
def eR:=@Int.natCast_add
def jS:=@Int.natCast_mul
def lV:=@Int.ne_of_gt
def j7:=@Int.neg_mul
def mn:=@Int.one_mul
def gY:=@Int.pow_add
def dI:=@Int.pow_pos
def dJ:=@Int.toNat_natCast
def cB:=@Int.toNat_of_nonneg
def ee:=@Int.zero_add
def mR:=@List.Perm.append_left
def nY:=@List.all_cons
def eI:=@List.all_eq_true
def iQ:=@List.any_cons
def cj:=@List.append_assoc
def ck:=@List.append_nil
def fK:=@List.concat_eq_append
def eU:=@List.cons.inj
def ft:=@List.contains_cons
def jV:=@List.dropLast_concat
def i7:=@List.drop_eq_getElem_cons
def fh:=@List.drop_length
def mM:=@List.drop_of_length_le
def oC:=@List.drop_succ_cons
def iC:=@List.drop_zero
def ie:=@List.eq_nil_iff_forall_not_mem
def fG:=@List.eq_nil_or_concat
def gF:=@List.ext_getElem?
def i6:=@List.filterMap_cons
def cz:=@List.filter_append
def dD:=@List.filter_cons_of_neg
def dE:=@List.filter_cons_of_pos
def fJ:=@List.filter_nil
def fL:=@List.find?_cons
def gB:=@List.findSome?_append
def hZ:=@List.findSome?_cons
def ow:=@List.flatMap_append
def dP:=@List.flatMap_cons
def gH:=@List.flatten_cons
def lC:=@List.foldl_append
def iY:=@List.foldl_cons
def mE:=@List.forIn_cons
def kh:=@List.getD_cons_succ
def bn:=@List.getD_eq_getElem?_getD
def eJ:=@List.getElem?_append_left
def dc:=@List.getElem?_append_right
def jf:=@List.getElem?_cons_succ
def az:=@List.getElem?_eq_getElem
def bW:=@List.getElem?_eq_none
def ax:=@List.getElem?_eq_some_iff
def aN:=@List.getElem?_map
def cF:=@List.getElem?_of_mem
def gM:=@List.getElem?_range
def jc:=@List.getElem?_replicate
def jQ:=@List.getElem?_replicate_of_lt
def cw:=@List.getElem?_reverse
def cA:=@List.getElem?_set_ne
def da:=@List.getElem?_set_self
def gQ:=@List.getElem?_take_of_lt
def iX:=@List.getElem?_zip_eq_some
def jg:=@List.getElem_cons_drop
def ji:=@List.getElem_map
def dh:=@List.getElem_mem
def jZ:=@List.getElem_of_mem
def aH:=@List.length_append
def aO:=@List.length_cons
def fN:=@List.length_drop
def lM:=@List.length_eq_zero_iff
def bP:=@List.length_filter_le
def ag:=@List.length_map
def dA:=@List.length_nil
def jX:=@List.length_pos_iff
def cP:=@List.length_range
def b8:=@List.length_replicate
def aQ:=@List.length_reverse
def bN:=@List.length_set
def gl:=@List.length_singleton
def bq:=@List.length_take
def iV:=@List.length_zip
def cW:=@List.lookup_cons
def aq:=@List.map_append
def cC:=@List.map_congr_left
def aE:=@List.map_cons
def nj:=@List.map_drop
def jY:=@List.map_eq_nil_iff
def jw:=@List.map_map
def cH:=@List.map_nil
def hG:=@List.map_replicate
def eB:=@List.map_reverse
def cU:=@List.map_set
def bi:=@List.mem_append
def bJ:=@List.mem_append_left
def bw:=@List.mem_append_right
def aF:=@List.mem_cons
def aI:=@List.mem_cons_of_mem
def aL:=@List.mem_cons_self
def mP:=@List.mem_erase_of_ne
def cf:=@List.mem_filter
def iG:=@List.mem_flatMap
def aZ:=@List.mem_map
def dQ:=@List.mem_nil_iff
def aP:=@List.mem_of_getElem?
def gC:=@List.mem_of_mem_drop
def mZ:=@List.mem_of_mem_take
def fC:=@List.mem_or_eq_of_mem_set
def cY:=@List.mem_range
def i4:=@List.mem_replicate
def dN:=@List.mem_reverse
def aG:=@List.mem_singleton
def jJ:=@List.nil_append
def eL:=@List.nodup_append
def bD:=@List.nodup_cons
def fP:=@List.not_mem_nil
def mh:=@List.of_mem_zip
def fD:=@List.pairwise_iff_getElem
def kG:=@List.perm_append_singleton
def dZ:=@List.range_succ
def dG:=@List.replicate_succ
def mW:=@List.replicate_succ'
def nL:=@List.reverse_append
def fE:=@List.reverse_cons
def mS:=@List.reverse_reverse
def aR:=@List.size_toArray
def iW:=@List.sum_append
def bf:=@List.sum_cons
def dg:=@List.take_append_drop
def bC:=@List.take_length
def bZ:=@List.take_of_length_le
def kU:=@List.take_sublist
def bg:=@List.take_succ
def dU:=@List.take_zero
def jK:=@Nat.add_mul
def jk:=@Nat.le_add_right
def ir:=@Nat.le_of_ble_eq_true
def ly:=@Nat.le_of_eq
def iP:=@Nat.le_of_lt
def aJ:=@Nat.le_refl
def gA:=@Nat.le_succ
def aW:=@Nat.le_trans
def lW:=@Nat.log2_lt
def cV:=@Nat.lt_irrefl
def fZ:=@Nat.lt_of_le_of_lt
def aU:=@Nat.lt_of_lt_of_le
def gq:=@Nat.lt_succ_of_lt
def fQ:=@Nat.lt_succ_self
def kR:=@Nat.lt_trichotomy
def ms:=@Nat.mod_lt
def oM:=@Nat.mul_add
def kf:=@Nat.mul_assoc
def jt:=@Nat.mul_comm
def eA:=@Nat.mul_le_mul
def mX:=@Nat.mul_le_mul_right
def nX:=@Nat.mul_succ
def eC:=@Nat.ne_of_gt
def aV:=@Nat.ne_of_lt
def nF:=@Nat.pow_le_pow_left
def dq:=@Nat.pow_le_pow_right
def mQ:=@Nat.pow_lt_pow_right
def dW:=@Nat.pow_succ
def dY:=@Nat.sub_self
def gg:=@Nat.sub_zero
def cg:=@Nat.zero_le
def eZ:=@PySem.Obj.data_mapFields
def iq:=@PySem.Obj.isFreed_of_fields
def gR:=@Option.isSome_iff_exists
def cq:=@Option.map_eq_some_iff
def bF:=@Option.some.inj
def cR:=@PyProof.Rows.callWith_type1
def dv:=@PySem.F.plainAttrs_list
def lA:=@PySem.F.slot_list_insert
def i5:=@PySem.W.callWith_K
def mi:=@PySem.W.cellsFrom_some
def dC:=@PySem.W.kia_one
def nG:=@PySem.W.looks_mroIn
def mD:=@PySem.W.methodCall_KW
def kF:=@PySem.W.mg_of
def j0:=@PySem.W.plainGet_of
def d9:=@PySem.mem_of_lookup
def jh:=@PySem.Str.ofString_eq_toList
def ke:=@beq_iff_eq
def jq:=@PySem.codeAny_mono
def bM:=@decide_eq_false
def bo:=@decide_eq_true
def b4:=@decide_eq_true_eq
def ah:=@if_neg
def aj:=@if_pos
def bB:=@of_decide_eq_true
def hJ:=@PySem.wpAny_Call_Name_kw
def ao:=@PySem.wpAny_bind
def mB:=@PySem.wpAny_bindName
def mq:=@PySem.wpAny_call
def jm:=@PySem.wpAny_call_entry
def lD:=@PySem.wpAny_execs_cons
def gV:=@PySem.wpAny_execs_nil
def cT:=@PySem.wpAny_field
def ko:=@PySem.wpAny_holding
def gX:=@PySem.wpAny_ite_split
def lN:=@PySem.wpAny_letGo
def db:=@PySem.wpAny_mono
def fA:=@PySem.wpAny_newObj_type
def kC:=@PySem.wpAny_onRaise
def fX:=@PySem.wpAny_passesOwn
def bh:=@PySem.wpAny_pure
def ik:=@PySem.wpAny_pyIter_list
def iK:=@PySem.wpAny_pyIter_revIter
def kq:=@PySem.wpAny_pyIter_tuple
def mw:=@PySem.wpAny_rule
def eO:=@PySem.wpAny_seqItems
def iZ:=@PySem.wpAny_setField
def fY:=@PySem.wpAny_setField_rec
def lZ:=@PySem.wpAny_specialOf
def jd:=@PySem.wpAny_standAt
def dB:=@PySem.wpAny_truthy_bool
def jL:=@PySem.wpAny_updateSeq_pair
set_option compiler.extract_closed false
namespace Hd
open PySem
def top(i:Nat):Stmt:=PySem.Challenge.pw_pebbletoll_k63_questions_answered.main.body.getD i (.Pass ⟨0,0,0,0⟩)
def inC(s:Stmt)(j:Nat):Stmt:=match s with
 | .ClassDef _ _ _ b _ _ _ _ _ _ _=>b.getD j (.Pass ⟨0,0,0,0⟩)
 | _=>.Pass ⟨0,0,0,0⟩
def kA(s:Stmt):Arguments:=match s with
 | .FunctionDef _ a _ _ _ _ _ _ _ _=>a
 | _=>{ posonlyargs:=[],args:=[],vararg:=none,kwonlyargs:=[],kw_defaults:=[],kwarg:=none,defaults:=[] }
def kB(s:Stmt):List Stmt:=match s with
 | .FunctionDef _ _ b _ _ _ _ _ _ _=>b
 | _=>[]
def kS(s:Stmt):Scope:=match s with
 | .FunctionDef _ _ _ _ _ _ sc _ _ _=>sc
 | _=>{ kind:=.function,names:=[],isGenerator:=false,isCoroutine:=false }
theorem wsA:(PySem.Challenge.rw_pebbletoll_k63_questions_answered).row.wellSaid=true:=by kernel_rfl
theorem ws:(PySem.Challenge.rw_pebbletoll_k63_questions_answered).wellSaid=true:=by unfold PySem.W.OpenLaw.wellSaid;rw[wsA];kernel_rfl
open PySem.W PySem.Calls PyProof.Rows
def en(P:Params)(s:Str)(t:Tok)(v:Value):DictEntry:=.mk (PyData.keyHash P s) (.str s t) v
def tO(a:List Value):Obj:=.mk (.type "tuple") none (.seq ⟨a⟩ 0) #[]
def pO(a:List Value):Obj:=.mk .none none (.fields ⟨a⟩) #[]
def fO(s:String)(a:List Value):Obj:=.mk (.type s) none (.fields ⟨a⟩) #[]
def dO(a:List DictEntry)(n:Nat):Obj:=.mk (.type "dict") none (.dict ⟨a⟩ n) #[]
def cO(n q:Str)(t l c g a:Nat)(b:Bool)(f d e:Value)(z:Nat):Obj:=fO "code" [.str n t,.str q (t+1),.str "/claim/cut.py" (t+2),.int (.ofNat l) 0,.int (.ofNat c) 0,.int 0 0,.int 0 0,.int (.ofNat g) 0,.ref a,.bool b,.int 181 0,.ref (a+1),.none,f,d,e,.int (.ofNat z) 0,.int (.ofNat l) 0,.str "/claim/cut.py" (z+1)]
def rO(c l:Nat)(m:Value):Obj:=.mk (.type "frame") none .plain #[some (.ref c),some (.ref 3),some (.ref l),none,some m,none,some (.ref 0)]
def sT(t:Nat):List Str->List Value
 | []=>[]
 | s::l=>.str s t::sT (t+1) l
structure It where
 o:List Obj
 e:DictEntry
 r:List Value
structure FT where
 m:Value
 n:Str
 q:Str
 s:Stmt
 a:Nat
 t:Nat
 k:Nat
 b:Bool
def FT.c(f:FT):Nat:=f.a+cond f.b 5 3
def FT.C(f:FT):Obj:=cO f.n f.q f.t f.s.pos.line (kA f.s).args.length 3 f.a true (cond f.b (.ref (f.a+2)) .none) (cond f.b (.ref (f.a+3)) .none) (.ref (f.a+cond f.b 4 2)) (f.t+3+f.k)
def FT.D(f:FT):Obj:=.mk (.type "function") none (.func (PySem.W.fnOf f.n f.q (kA f.s) (kB f.s) (kS f.s) .none .none .none f.m none (.ref f.c) .none)) #[]
def FT.R(f:FT):Obj:=.mk .none none (.func (.mk f.n f.q (kA f.s) (.stmts (kB f.s)) (kS f.s) 0 [] .none .none .none .none none .none .none 0)) #[]
def FT.o(f:FT):List Obj:=tO []::pO []::cond f.b [tO (sT (f.t+3) (((kS f.s).names.filter (·.2==.local)).map (·.1))),tO [],f.R,f.C,f.D] [f.R,f.C,f.D]
def FT.e(P:Params)(f:FT):DictEntry:=en P f.n (f.t+5+f.k) (.ref (f.c+1))
def FT.r(j:Nat)(f:FT):List Value:=[.int (.ofNat f.s.pos.line) 0,.int (.ofNat j) 0,.ref f.c]
def FT.i(P:Params)(f:FT):It:=⟨f.o,f.e P,f.r 0⟩
def fT(m:Value)(n:Str)(i a t k:Nat):FT:=⟨m,n,n,top i,a,t,k,true⟩
def fU(m:Value)(n:Str)(i a t:Nat):FT:=⟨m,n,n,top i,a,t,0,false⟩
def mT(m:Value)(n q:Str)(i j a t k:Nat):FT:=⟨m,n,q,inC (top i) j,a,t,k,true⟩
def mU(m:Value)(n q:Str)(i j a t:Nat):FT:=⟨m,n,q,inC (top i) j,a,t,0,false⟩
structure CT where
 m:Value
 n:Str
 a:Nat
 t:Nat
 l:Nat
 x:Nat
 y:Nat
 b:List Value
 u:List Value
 w:String
 f:List FT
 v:List Str
 d:Nat
 z:List Value
def CT.g(c:CT)(j:Nat):Obj:=cond (j==1) (fO "getset_descriptor" [.str "__weakref__" (c.y+c.v.length+2*c.d-1),.ref (c.x+2),.builtin "ExceptionGroup.__weakref__",.none]) (fO "getset_descriptor" [.str "__dict__" (c.y+c.v.length+1),.ref (c.x+2),.builtin "function.__dict__",.builtin "function.__dict__#set"])
def CT.k(P:Params)(c:CT):List DictEntry:=en P "__firstlineno__" (c.t+11) (.int (.ofNat c.l) (c.t+10))::c.f.map (·.e P)++[en P "__static_attributes__" (c.y+c.v.length) (.ref c.x)]
def CT.D(P:Params)(c:CT):Obj:=dO (en P "__module__" (c.t+7) c.m::c.k P++cond (c.d==2) [en P "__dict__" (c.y+c.v.length+2) (.ref (c.x+3))] []++cond (c.d==0) [] [en P "__weakref__" (c.y+c.v.length+2*c.d) (.ref (c.x+2+c.d))]++[en P "__doc__" (c.y+c.v.length+2*c.d+1) .none]) (2+c.d)
def CT.T(c:CT):Obj:=.mk (.type "type") none (.cls (.mk c.n (cond (c.d==2) [.type "object"] c.b) (.ref (c.x+2)::c.u) (c.x+1) c.n true [] c.z false none false)) #[cond (c.d==2) none (some (.ref (c.a-1))),none,some (.str c.n c.t),some (.str c.n (c.t+8)),some (.builtin c.w),some (.bool true)]
def CT.o(P:Params)(c:CT):List Obj:=tO c.b::fO "builtin_function_or_method" [.builtin "type.__prepare__",.type "type"]::dO (en P "__module__" (c.t+7) c.m::en P "__qualname__" (c.t+9) (.str c.n (c.t+8))::c.k P) (4+c.f.length)::tO []::pO (c.f.flatMap (·.r 4))::cO c.n c.n (c.t+2) c.l 0 0 (c.a+2) false .none .none .none (c.t+5)::rO (c.a+4) (c.a+1) c.m::c.f.flatMap (·.o)++tO (sT c.y c.v)::c.D P::c.T::cond (c.d==2) [c.g 0] []++cond (c.d==0) [] [c.g 1]++[fO "super" [.ref (c.x+2),.ref (c.x+2),.ref (c.x+2)],fO "builtin_function_or_method" [.builtin "object.__init_subclass__",.ref (c.x+2)]]
def CT.i(P:Params)(c:CT):It:=⟨c.o P,en P c.n (c.y+c.v.length+2*c.d+3) (.ref (c.x+2)),[.int (.ofNat c.l) 0,.int 0 0,.ref (c.a+4)]⟩
def kT(P:Params)(n:Str)(t:Tok)(v:Value)(o:List Obj:=[]):It:=⟨o,en P n t v,[]⟩
def dM(P:Params)(m:Value)(l:List It):Obj:=dO (en P "__name__" 165 m::en P "__doc__" 166 .none::en P "__package__" 167 .none::en P "__loader__" 168 (.builtin "__main__.__loader__#opaque")::en P "__spec__" 169 .none::en P "__annotations__" 170 (.ref 6)::en P "__builtins__" 171 (.ref 4)::en P "__file__" 173 (.str "/claim/cut.py" 172)::en P "__cached__" 174 .none::l.map (·.e)) (9+l.length)
def m0:Value:=.str "pebbletoll.errors" 187
def m1:Value:=.str "pebbletoll.webs" 369
def m2:Value:=.str "pebbletoll.layings" 488
def m3:Value:=.str "pebbletoll.ways" 531
def m4:Value:=.str "pebbletoll.steps" 571
def m5:Value:=.str "pebbletoll.wishes" 629
def m6:Value:=.str "pebbletoll.always" 718
def m7:Value:=.str "pebbletoll.bringing" 844
def m8:Value:=.str "pebbletoll.enough" 881
def m9:Value:=.str "pebbletoll.texts" 969
def ZS:Value:=.str "pebbletoll.polynomials" 1019
def XR:Value:=.str "pebbletoll.worsts" 1057
def T6:Value:=.str "pebbletoll.desk" 1144
def Vf:Value:=.str "law_pebbletoll_k63_questions_answered" 1353
def f0:FT:=mT m0 "__init__" "BadStep.__init__" 9 0 119 331 2
def f1:FT:=mT m0 "__init__" "BadText.__init__" 10 0 138 356 2
def f2:FT:=mU m1 "__init__" "Web.__init__" 15 0 157 389
def f3:FT:=fT m1 "toll" 16 169 405 7
def f4:FT:=fT m1 "neighbours" 17 176 418 2
def f5:FT:=fT m1 "check_place" 18 183 426 2
def f6:FT:=fT m1 "is_place" 19 190 434 2
def f7:FT:=fT m1 "check_counts" 20 197 442 2
def f8:FT:=fT m1 "check_ends" 21 204 450 2
def f9:FT:=fT m1 "check_tolls" 22 211 458 2
def f10:FT:=fT m1 "check_joined" 23 218 466 6
def f11:FT:=fT m1 "other_ends" 24 225 478 4
def f12:FT:=fT m2 "laying_of" 26 232 490 2
def f13:FT:=fU m2 "is_filled" 27 239 498
def f14:FT:=fT m2 "total" 28 244 504 1
def f15:FT:=fT m2 "pile" 29 251 511 3
def f16:FT:=fT m2 "put" 30 258 520 5
def f17:FT:=fT m3 "ahead" 32 265 533 7
def f18:FT:=fT m3 "down" 33 272 546 7
def f19:FT:=fU m3 "kids" 34 279 559
def f20:FT:=fU m3 "inward" 35 284 565
def f21:FT:=fT m4 "walked" 37 289 573 3
def f22:FT:=fT m4 "layings" 38 296 582 6
def f23:FT:=fT m4 "can_be_done" 39 303 594 3
def f24:FT:=fT m4 "is_step" 40 310 603 2
def f25:FT:=fT m4 "taken" 41 317 611 2
def f26:FT:=fT m4 "behind" 42 324 619 4
def f27:FT:=fT m5 "wish_of" 44 331 631 2
def f28:FT:=fU m5 "standings" 45 338 639
def f29:FT:=fT m5 "handed_on" 46 343 645 4
def f30:FT:=fT m5 "standing" 47 350 655 4
def f31:FT:=fT m5 "is_met" 48 357 665 3
def f32:FT:=fT m5 "meeting" 49 364 674 3
def f33:FT:=fT m5 "steps_in" 50 371 683 9
def f34:FT:=fT m5 "steps_out" 51 378 698 8
def f35:FT:=fU m5 "lacks_of" 52 385 712
def f36:FT:=fT m6 "needs" 54 390 720 6
def f37:FT:=fT m6 "always" 55 397 732 2
def f38:FT:=fU m6 "fails" 56 404 740
def f39:FT:=fT m6 "is_idle" 57 409 746 2
def f40:FT:=fT m6 "failing" 58 416 754 3
def f41:FT:=mU m6 "__init__" "Outlook.__init__" 59 0 430 775
def f42:FT:=fT m6 "idle_load" 60 442 793 3
def f43:FT:=fT m6 "idle_kids" 61 449 802 5
def f44:FT:=fU m6 "added" 62 456 813
def f45:FT:=fT m6 "greatest_load" 63 461 819 7
def f46:FT:=fT m6 "load_by" 64 468 832 6
def f47:FT:=fT m7 "gathered" 66 475 846 6
def f48:FT:=fT m7 "most" 67 482 858 3
def f49:FT:=fT m7 "bring" 68 489 867 8
def f50:FT:=fT m8 "borne" 70 496 883 4
def f51:FT:=fT m8 "bound_by" 71 503 893 7
def f52:FT:=fT m8 "check_wanted" 72 510 906 3
def f53:FT:=fT m8 "least_weights" 73 517 915 5
def f54:FT:=fT m8 "enough" 74 524 926 3
def f55:FT:=fU m8 "worst" 75 531 935
def f56:FT:=fT m8 "bearers" 76 536 941 6
def f57:FT:=fT m8 "is_heavy" 77 543 953 4
def f58:FT:=fU m8 "hardest" 78 550 963
def f59:FT:=fT m9 "number_text" 84 555 979 2
def f60:FT:=fU m9 "numbers_text" 85 562 987
def f61:FT:=fU m9 "steps_text" 86 567 993
def f62:FT:=fU m9 "read_words" 87 572 999
def f63:FT:=fT m9 "read_number" 88 577 1005 2
def f64:FT:=fU m9 "is_number" 89 584 1013
def f65:FT:=fU ZS "differences" 91 589 1021
def f66:FT:=fT ZS "value_at" 92 594 1027 6
def f67:FT:=fU ZS "first_values" 93 601 1039
def f68:FT:=fU ZS "parted" 94 606 1045
def f69:FT:=fU ZS "parted_at" 95 611 1051
def f70:FT:=fT XR "worst_many" 97 616 1059 3
def f71:FT:=mU XR "__init__" "Tally.__init__" 98 0 630 1080
def f72:FT:=fU XR "rests_of" 99 642 1100
def f73:FT:=fT XR "is_free" 100 647 1106 3
def f74:FT:=fT XR "ways_of" 101 654 1115 3
def f75:FT:=fT XR "ways_given" 102 661 1124 4
def f76:FT:=fT XR "held_for" 103 668 1134 4
def f77:FT:=mT T6 "__init__" "Desk.__init__" 107 0 684 1212 3
def f78:FT:=mU T6 "put" "Desk.put" 107 1 691 1221
def f79:FT:=mT T6 "want" "Desk.want" 107 2 696 1227 4
def f80:FT:=mT T6 "step" "Desk.step" 107 3 703 1237 4
def f81:FT:=mT T6 "keep" "Desk.keep" 107 4 710 1247 3
def f82:FT:=mT T6 "back" "Desk.back" 107 5 717 1256 1
def f83:FT:=mT T6 "laying" "Desk.laying" 107 6 724 1263 1
def f84:FT:=mT T6 "wish" "Desk.wish" 107 7 731 1270 1
def f85:FT:=mT T6 "deeds" "Desk.deeds" 107 8 738 1277 1
def f86:FT:=mT T6 "answer" "Desk.answer" 107 9 745 1284 2
def f87:FT:=fT T6 "answer_of" 108 759 1302 4
def f88:FT:=fT T6 "do_deed" 109 766 1312 3
def f89:FT:=fT T6 "told_of_desk" 110 773 1321 3
def f90:FT:=fT T6 "told_of_web" 111 780 1330 3
def f91:FT:=fT T6 "standing_text" 112 787 1339 1
def f92:FT:=fT T6 "meeting_text" 113 794 1346 1
def f93:FT:=fT Vf "_law_cell" 115 801 1355 2
def f94:FT:=fT Vf "_law_row" 116 808 1363 8
def f95:FT:=fT Vf "_law_tolls" 117 815 1377 3
def f96:FT:=fT Vf "_law_roads" 118 822 1386 12
def f97:FT:=fT Vf "_law_price" 119 829 1404 7
def f98:FT:=fT Vf "_law_deed" 120 836 1417 9
def f99:FT:=fT Vf "_law_behind" 121 843 1432 8
def OI:FT:=fU Vf "_law_words" 122 850 1446
def On:FT:=fU Vf "_law_steps_text" 123 855 1452
def OM:FT:=fT Vf "_law_of_state" 124 860 1458 7
def Og:FT:=fT Vf "_law_of_one" 125 867 1471 4
def PF:FT:=fT Vf "_law_question" 126 874 1481 9
def PX:FT:=fT Vf "law" 127 881 1496 13
def cX(m:Value)(n:Str)(a t l x y:Nat)(f:List FT:=[])(v:List Str:=[]):CT:=⟨m,n,a,t,l,x,y,[(.ref 24)],[(.ref 24),(.type "ValueError"),(.type "Exception"),(.type "BaseException"),(.type "object")],"ValueError.__new__",f,v,0,[]⟩
def c0:CT:=⟨m0,"TollError",16,189,2,22,201,[(.type "ValueError")],[(.type "ValueError"),(.type "Exception"),(.type "BaseException"),(.type "object")],"ValueError.__new__",[],[],1,[(.ref 37),(.ref 49),(.ref 61),(.ref 73),(.ref 85),(.ref 97),(.ref 109),(.ref 128),(.ref 147)]⟩
def c1:CT:=cX m0 "BadWeb" 29 207 4 35 219
def c2:CT:=cX m0 "NoPlace" 41 223 6 47 235
def c3:CT:=cX m0 "NoRoad" 53 239 8 59 251
def c4:CT:=cX m0 "BadLaying" 65 255 10 71 267
def c5:CT:=cX m0 "BadWish" 77 271 12 83 283
def c6:CT:=cX m0 "NoWorst" 89 287 14 95 299
def c7:CT:=cX m0 "NoDeed" 101 303 16 107 315
def c8:CT:=cX m0 "BadStep" 113 319 18 126 339 [f0] ["at"]
def c9:CT:=cX m0 "BadText" 132 344 23 145 364 [f1] ["at"]
def ZT:CT:=⟨m1,"Web",151,377,32,162,395,[],[(.type "object")],"object.__new__",[f2],["many","roads"],2,[]⟩
def ZU:CT:=⟨m6,"Outlook",424,763,217,435,781,[],[(.type "object")],"object.__new__",[f41],["idle","kids","needs","web"],2,[]⟩
def ZV:CT:=⟨XR,"Tally",624,1068,364,635,1086,[],[(.type "object")],"object.__new__",[f71],["bearers","down","kids","rests","web","weights"],2,[]⟩
def ZW:CT:=⟨T6,"Desk",678,1200,398,752,1292,[],[(.type "object")],"object.__new__",[f77,f78,f79,f80,f81,f82,f83,f84,f85,f86],["past","web"],2,[]⟩
def Rm:Obj:=(tO (sT 1146 ["put","want","step","back"]))
def ϣ:List (Str×Tok×Int×Tok):=[("put",1151,2,1152),("want",1154,2,1155),("step",1157,3,1158),("back",1160,0,1161),("laying",1163,0,1164),("wish",1166,0,1167),("most",1169,1,1170),("bring",1172,1,1173),("stands",1175,1,1176),("meet",1178,0,1179),("enough",1181,2,1182),("hardest",1184,1,1185),("worst",1187,2,1188),("many",1190,2,1191),("always",1193,0,1194),("fails",1196,0,1197)]
def Rr(P:Params):Obj:=dO (ϣ.map λp=>en P p.1 p.2.1 (.int p.2.2.1 p.2.2.2)) 16
def s0(P:Params)(a:CT):List It:=[a.i P,c1.i P,c2.i P,c3.i P,c4.i P,c5.i P,c6.i P,c7.i P,c8.i P]
def s1(P:Params):List It:=[c9.i P,kT P "MOST_PLACES" 372 (.int 24 371),kT P "LEAST_TOLL" 374 (.int 2 373),kT P "MOST_TOLL" 376 (.int 1000000 375),ZT.i P,f3.i P,f4.i P,f5.i P,f6.i P,f7.i P,f8.i P,f9.i P,f10.i P,f11.i P,f12.i P,f13.i P,f14.i P,f15.i P,f16.i P,f17.i P,f18.i P,f19.i P,f20.i P,f21.i P,f22.i P,f23.i P,f24.i P,f25.i P,f26.i P,f27.i P,f28.i P,f29.i P,f30.i P,f31.i P,f32.i P,f33.i P,f34.i P,f35.i P,f36.i P,f37.i P,f38.i P,f39.i P,f40.i P,ZU.i P,f42.i P]
def s2(P:Params):List It:=[f43.i P,f44.i P,f45.i P,f46.i P,f47.i P,f48.i P,f49.i P,f50.i P,f51.i P,f52.i P,f53.i P,f54.i P,f55.i P,f56.i P,f57.i P,f58.i P,kT P "FIGURES" 972 (.str "0123456789" 971),kT P "MOST_FIGURES" 974 (.int 60 973),kT P "PIECE" 976 (.int 1000000000000000000 975),kT P "PIECE_FIGURES" 978 (.int 18 977),f59.i P,f60.i P,f61.i P,f62.i P,f63.i P,f64.i P,f65.i P,f66.i P,f67.i P,f68.i P,f69.i P,f70.i P,ZV.i P,f72.i P,f73.i P,f74.i P,f75.i P,f76.i P,kT P "DEEDS" 1150 (.ref 675) [Rm]]
def s3(P:Params):List It:=[kT P "NUMBERS_BEHIND" 1199 (.ref 676) [Rr P]]
def s4(P:Params):List It:=[ZW.i P,f87.i P,f88.i P,f89.i P,f90.i P,f91.i P,f92.i P,f93.i P,f94.i P,f95.i P,f96.i P,f97.i P,f98.i P,f99.i P,OI.i P,On.i P,OM.i P,Og.i P,PF.i P,PX.i P]
noncomputable def hM(P:Params)(d:Obj)(l:List It):Heap:=.mk (.mk (boot_o_0 P::boot_o_1 P::boot_o_2 P::d::boot_o_4 P::boot_o_5 P::boot_o_6 P::boot_o_7 P::boot_o_8 P::boot_o_9 P::boot_o_10 P::tO []::pO (l.flatMap (·.r))::cO "<module>" "<module>" 182 1 0 0 11 false .none .none .none 185::rO 13 3 (.str "__main__" 164)::l.flatMap (·.o))) (.mk [] [] [] 0 [] [] false #[] [] 0 false false false 0 [2000,10,10] false 0 true [] [] 0 false)
def l0(P:Params):List It:=s0 P ({c0 with z:=[(.ref 37),(.ref 49),(.ref 61),(.ref 73),(.ref 85),(.ref 97),(.ref 109),(.ref 128)]})
def d0(P:Params):Obj:=dM P m0 (l0 P)
def l1(P:Params):List It:=s0 P c0++s1 P
def d1(P:Params):Obj:=dM P m6 (l1 P)
def l2(P:Params):List It:=s0 P c0++(s1 P++s2 P)
def d2(P:Params):Obj:=dM P T6 (l2 P)
def l3(P:Params):List It:=s0 P c0++(s1 P++(s2 P++s3 P))
def d3(P:Params):Obj:=dM P T6 (l3 P)
def l4(P:Params):List It:=s0 P c0++(s1 P++(s2 P++(s3 P++s4 P)))
def d4(P:Params):Obj:=dM P Vf (l4 P)
noncomputable abbrev ha(P:Params):Heap:=hM P (boot_o_3 P) []
noncomputable abbrev hb(P:Params):Heap:=ha P
abbrev st0:List Stmt:=(List.range' 0 10).map top
abbrev Zw:List Stmt:=(List.range' 10 51).map top
abbrev UQ:List Stmt:=(List.range' 61 45).map top
abbrev VS:List Stmt:=[top 106]
abbrev Zx:List Stmt:=(List.range' 107 21).map top
abbrev bb:List Stmt:=st0++(Zw++(UQ++(VS++(Zx++([])))))
def env:Env:={ scope:=PySem.Challenge.pw_pebbletoll_k63_questions_answered.main.scope,locals:=mainNs,globals:=mainNs,cells:=[],code:=(.ref 13),frame:=some 14 }
abbrev cE:Code:=.body bb env
theorem SO(w:World)(os:OsState):topGo treeTable PySem.Challenge.pw_pebbletoll_k63_questions_answered w 11 (some (.ref 6)) 12 (Shared.mk (boot_heap w.params) (.mk []) boot_drawn boot_toks os) (topStub PySem.Challenge.pw_pebbletoll_k63_questions_answered)=some ((Shared.mk (ha w.params) (.mk []) (.mk 0 0 0 0) 187 os),Thread.mk (denote treeTable cE) cE (.mk 0 0 0 0) [topFrame (.mk 0 0 0 0)]):=by kernel_rfl
theorem SK(w:World)(os:OsState):segRun treeTable PySem.Challenge.pw_pebbletoll_k63_questions_answered w 11 (some (.ref 6)) 1 1 (Shared.mk (ha w.params) (.mk []) (.mk 0 0 0 0) 187 os) (blockOf bb env cE (.mk 0 0 0 0) [topFrame (.mk 0 0 0 0)])=some (.next,(Shared.mk (hb w.params) (.mk []) (.mk 0 0 0 0) 187 os),cE,(.mk 0 0 0 0)):=by kernel_rfl
noncomputable def h0(P:Params):Heap:=hM P (d0 P) (l0 P)
theorem SI(w:World)(os:OsState):segRun treeTable PySem.Challenge.pw_pebbletoll_k63_questions_answered w 11 (some (.ref 6)) 1 1932 (Shared.mk (hb w.params) (.mk []) (.mk 0 0 0 0) 187 os) (piecesOf st0 env cE (.mk 0 0 0 0) [topFrame (.mk 0 0 0 0)])=some (.next,(Shared.mk (h0 w.params) (.mk []) (.mk 0 0 0 0) 344 os),cE,(.mk 18 0 22 20)):=by kernel_rfl
noncomputable def h1(P:Params):Heap:=hM P (d1 P) (l1 P)
theorem SQ(w:World)(os:OsState):segRun treeTable PySem.Challenge.pw_pebbletoll_k63_questions_answered w 11 (some (.ref 6)) 1 1970 (Shared.mk (h0 w.params) (.mk []) (.mk 0 0 0 0) 344 os) (piecesOf Zw env cE (.mk 18 0 22 20) [topFrame (.mk 0 0 0 0)])=some (.next,(Shared.mk (h1 w.params) (.mk []) (.mk 0 0 0 0) 802 os),cE,(.mk 226 0 229 77)):=by kernel_rfl
noncomputable def h2(P:Params):Heap:=hM P (d2 P) (l2 P)
theorem SJ(w:World)(os:OsState):segRun treeTable PySem.Challenge.pw_pebbletoll_k63_questions_answered w 11 (some (.ref 6)) 1 1322 (Shared.mk (h1 w.params) (.mk []) (.mk 0 0 0 0) 802 os) (piecesOf UQ env cE (.mk 226 0 229 77) [topFrame (.mk 0 0 0 0)])=some (.next,(Shared.mk (h2 w.params) (.mk []) (.mk 0 0 0 0) 1151 os),cE,(.mk 396 0 396 5)):=by kernel_rfl
noncomputable def h3(P:Params):Heap:=hM P (d3 P) (l3 P)
theorem SY(w:World)(os:OsState):segRun treeTable PySem.Challenge.pw_pebbletoll_k63_questions_answered w 11 (some (.ref 6)) 1 252 (Shared.mk (h2 w.params) (.mk []) (.mk 0 0 0 0) 1151 os) (piecesOf VS env cE (.mk 396 0 396 5) [topFrame (.mk 0 0 0 0)])=some (.next,(Shared.mk (h3 w.params) (.mk []) (.mk 0 0 0 0) 1200 os),cE,(.mk 397 0 397 14)):=by
 have a:∀(b:Bool)(v:World),v=w.withFollow "special-get-raises" b->(segRun treeTable PySem.Challenge.pw_pebbletoll_k63_questions_answered v 11 (some (.ref 6)) 1 252 (Shared.mk (h2 v.params) (.mk []) (.mk 0 0 0 0) 1151 os) (piecesOf VS env cE (.mk 396 0 396 5) [topFrame (.mk 0 0 0 0)])=some (.next,(Shared.mk (h3 v.params) (.mk []) (.mk 0 0 0 0) 1200 os),cE,(.mk 397 0 397 14))):=λb v e=>by subst e;cases b<;>kernel_rfl
 exact a (w.params.followText "special-get-raises") w (World.withFollow_self w "special-get-raises").symm
noncomputable def h4(P:Params):Heap:=hM P (d4 P) (l4 P)
theorem SM(w:World)(os:OsState):segRun treeTable PySem.Challenge.pw_pebbletoll_k63_questions_answered w 11 (some (.ref 6)) 1 1144 (Shared.mk (h3 w.params) (.mk []) (.mk 0 0 0 0) 1200 os) (piecesOf Zx env cE (.mk 397 0 397 14) [topFrame (.mk 0 0 0 0)])=some (.next,(Shared.mk (h4 w.params) (.mk []) (.mk 0 0 0 0) 1515 os),cE,(.mk 629 0 651 88)):=by kernel_rfl
noncomputable abbrev hf(P:Params):Heap:=h4 P
theorem SZ(w:World)(os:OsState):topRun treeTable PySem.Challenge.pw_pebbletoll_k63_questions_answered w 11 (some (.ref 6)) 2 (Shared.mk (h4 w.params) (.mk []) (.mk 0 0 0 0) 1515 os) (restOf [] env cE (.mk 629 0 651 88) [topFrame (.mk 0 0 0 0)])=some (Shared.mk (hf w.params) (.mk []) (.mk 0 0 0 0) 1515 os):=by kernel_rfl
theorem run(w:World)(os:OsState):topRun treeTable PySem.Challenge.pw_pebbletoll_k63_questions_answered w 11 (some (.ref 6)) (12+(1+(1932+(1970+(1322+(252+(1144+(2)))))))) (Shared.mk (boot_heap w.params) (.mk []) boot_drawn boot_toks os) (topStub PySem.Challenge.pw_pebbletoll_k63_questions_answered)=some (Shared.mk (hf w.params) (.mk []) (.mk 0 0 0 0) 1515 os):=go_top (SO w os) (piece_block (SK w os) (piece_app (SI w os) (piece_app (SQ w os) (piece_app (SJ w os) (piece_app (SY w os) (piece_app (SM w os) (SZ w os)))))))
theorem opn:∀w:World,(fencedOpening treeTable PySem.Challenge.pw_pebbletoll_k63_questions_answered w 13356).map (λs=>(s.heap,s.gens,s.drawn,s.toks))=some (boot_heap w.params,Array.mk [],boot_drawn,boot_toks):=boot_open (by kernel_rfl) (by decide) λs=>by kernel_rfl
theorem siz(w:World):((boot_heap w.params).isNs mainGlobals&&(Array.mk ([]:List GenState)).size==0,(boot_heap w.params).objs.size,(boot_heap w.params).nsMap mainGlobals "__annotations__")=(true,11,(some (.ref 6))):=by kernel_rfl
noncomputable def KK:Params->Frag:=λP=>
 (nat_lit 2,boot_o_2 P)::(nat_lit 3,d4 P)::(nat_lit 23,c0.D P)::(nat_lit 24,c0.T)::(nat_lit 25,c0.g 1)::(nat_lit 36,c1.D P)::(nat_lit 37,c1.T)::(nat_lit 48,c2.D P)::(nat_lit 49,c2.T)::(nat_lit 60,c3.D P)::(nat_lit 61,c3.T)::(nat_lit 72,c4.D P)::(nat_lit 73,c4.T)::(nat_lit 84,c5.D P)::(nat_lit 85,c5.T)::(nat_lit 96,c6.D P)::(nat_lit 97,c6.T)::(nat_lit 108,c7.D P)::(nat_lit 109,c7.T)::(nat_lit 124,f0.C)::(nat_lit 125,f0.D)::(nat_lit 127,c8.D P)::(nat_lit 128,c8.T)::(nat_lit 143,f1.C)::(nat_lit 144,f1.D)::(nat_lit 146,c9.D P)::(nat_lit 147,c9.T)::(nat_lit 160,f2.C)::(nat_lit 161,f2.D)::(nat_lit 163,ZT.D P)::(nat_lit 164,ZT.T)::(nat_lit 165,ZT.g 0)::(nat_lit 166,ZT.g 1)::(nat_lit 174,f3.C)::(nat_lit 175,f3.D)::(nat_lit 181,f4.C)::(nat_lit 182,f4.D)::(nat_lit 188,f5.C)::(nat_lit 189,f5.D)::(nat_lit 195,f6.C)::(nat_lit 196,f6.D)::(nat_lit 202,f7.C)::(nat_lit 203,f7.D)::(nat_lit 209,f8.C)::(nat_lit 210,f8.D)::(nat_lit 216,f9.C)::(nat_lit 217,f9.D)::(nat_lit 223,f10.C)::(nat_lit 224,f10.D)::(nat_lit 230,f11.C)::(nat_lit 231,f11.D)::(nat_lit 237,f12.C)::(nat_lit 238,f12.D)::(nat_lit 242,f13.C)::(nat_lit 243,f13.D)::(nat_lit 249,f14.C)::(nat_lit 250,f14.D)::(nat_lit 256,f15.C)::(nat_lit 257,f15.D)::(nat_lit 263,f16.C)::(nat_lit 264,f16.D)::(nat_lit 270,f17.C)::(nat_lit 271,f17.D)::(nat_lit 277,f18.C)::(nat_lit 278,f18.D)::(nat_lit 282,f19.C)::(nat_lit 283,f19.D)::(nat_lit 287,f20.C)::(nat_lit 288,f20.D)::(nat_lit 294,f21.C)::(nat_lit 295,f21.D)::(nat_lit 301,f22.C)::(nat_lit 302,f22.D)::(nat_lit 308,f23.C)::(nat_lit 309,f23.D)::(nat_lit 315,f24.C)::(nat_lit 316,f24.D)::(nat_lit 322,f25.C)::(nat_lit 323,f25.D)::(nat_lit 329,f26.C)::(nat_lit 330,f26.D)::(nat_lit 336,f27.C)::(nat_lit 337,f27.D)::(nat_lit 341,f28.C)::(nat_lit 342,f28.D)::(nat_lit 348,f29.C)::(nat_lit 349,f29.D)::(nat_lit 355,f30.C)::(nat_lit 356,f30.D)::(nat_lit 362,f31.C)::(nat_lit 363,f31.D)::(nat_lit 369,f32.C)::(nat_lit 370,f32.D)::(nat_lit 376,f33.C)::(nat_lit 377,f33.D)::(nat_lit 383,f34.C)::(nat_lit 384,f34.D)::(nat_lit 388,f35.C)::(nat_lit 389,f35.D)::(nat_lit 395,f36.C)::(nat_lit 396,f36.D)::(nat_lit 402,f37.C)::(nat_lit 403,f37.D)::(nat_lit 407,f38.C)::(nat_lit 408,f38.D)::(nat_lit 414,f39.C)::(nat_lit 415,f39.D)::(nat_lit 421,f40.C)::(nat_lit 422,f40.D)::(nat_lit 433,f41.C)::(nat_lit 434,f41.D)::(nat_lit 436,ZU.D P)::(nat_lit 437,ZU.T)::(nat_lit 438,ZU.g 0)::(nat_lit 439,ZU.g 1)::(nat_lit 447,f42.C)::(nat_lit 448,f42.D)::(nat_lit 454,f43.C)::(nat_lit 455,f43.D)::(nat_lit 459,f44.C)::(nat_lit 460,f44.D)::(nat_lit 466,f45.C)::(nat_lit 467,f45.D)::(nat_lit 473,f46.C)::(nat_lit 474,f46.D)::(nat_lit 480,f47.C)::(nat_lit 481,f47.D)::(nat_lit 487,f48.C)::(nat_lit 488,f48.D)::(nat_lit 494,f49.C)::(nat_lit 495,f49.D)::(nat_lit 501,f50.C)::(nat_lit 502,f50.D)::(nat_lit 508,f51.C)::(nat_lit 509,f51.D)::(nat_lit 515,f52.C)::(nat_lit 516,f52.D)::(nat_lit 522,f53.C)::(nat_lit 523,f53.D)::(nat_lit 529,f54.C)::(nat_lit 530,f54.D)::(nat_lit 534,f55.C)::(nat_lit 535,f55.D)::(nat_lit 541,f56.C)::(nat_lit 542,f56.D)::(nat_lit 548,f57.C)::(nat_lit 549,f57.D)::(nat_lit 553,f58.C)::(nat_lit 554,f58.D)::(nat_lit 560,f59.C)::(nat_lit 561,f59.D)::(nat_lit 565,f60.C)::(nat_lit 566,f60.D)::(nat_lit 570,f61.C)::(nat_lit 571,f61.D)::(nat_lit 575,f62.C)::(nat_lit 576,f62.D)::(nat_lit 582,f63.C)::(nat_lit 583,f63.D)::(nat_lit 587,f64.C)::(nat_lit 588,f64.D)::(nat_lit 592,f65.C)::(nat_lit 593,f65.D)::(nat_lit 599,f66.C)::(nat_lit 600,f66.D)::(nat_lit 604,f67.C)::(nat_lit 605,f67.D)::(nat_lit 609,f68.C)::(nat_lit 610,f68.D)::(nat_lit 614,f69.C)::(nat_lit 615,f69.D)::(nat_lit 621,f70.C)::(nat_lit 622,f70.D)::(nat_lit 633,f71.C)::(nat_lit 634,f71.D)::(nat_lit 636,ZV.D P)::(nat_lit 637,ZV.T)::(nat_lit 638,ZV.g 0)::(nat_lit 639,ZV.g 1)::(nat_lit 645,f72.C)::(nat_lit 646,f72.D)::(nat_lit 652,f73.C)::(nat_lit 653,f73.D)::(nat_lit 659,f74.C)::(nat_lit 660,f74.D)::(nat_lit 666,f75.C)::(nat_lit 667,f75.D)::(nat_lit 673,f76.C)::(nat_lit 674,f76.D)::(nat_lit 675,Rm)::(nat_lit 676,Rr P)::(nat_lit 689,f77.C)::(nat_lit 690,f77.D)::(nat_lit 694,f78.C)::(nat_lit 695,f78.D)::(nat_lit 701,f79.C)::(nat_lit 702,f79.D)::(nat_lit 708,f80.C)::(nat_lit 709,f80.D)::(nat_lit 715,f81.C)::(nat_lit 716,f81.D)::(nat_lit 722,f82.C)::(nat_lit 723,f82.D)::(nat_lit 729,f83.C)::(nat_lit 730,f83.D)::(nat_lit 736,f84.C)::(nat_lit 737,f84.D)::(nat_lit 743,f85.C)::(nat_lit 744,f85.D)::(nat_lit 750,f86.C)::(nat_lit 751,f86.D)::(nat_lit 753,ZW.D P)::(nat_lit 754,ZW.T)::(nat_lit 755,ZW.g 0)::(nat_lit 756,ZW.g 1)::(nat_lit 764,f87.C)::(nat_lit 765,f87.D)::(nat_lit 771,f88.C)::(nat_lit 772,f88.D)::(nat_lit 778,f89.C)::(nat_lit 779,f89.D)::(nat_lit 785,f90.C)::(nat_lit 786,f90.D)::(nat_lit 792,f91.C)::(nat_lit 793,f91.D)::(nat_lit 799,f92.C)::(nat_lit 800,f92.D)::(nat_lit 806,f93.C)::(nat_lit 807,f93.D)::(nat_lit 813,f94.C)::(nat_lit 814,f94.D)::(nat_lit 820,f95.C)::(nat_lit 821,f95.D)::(nat_lit 827,f96.C)::(nat_lit 828,f96.D)::(nat_lit 834,f97.C)::(nat_lit 835,f97.D)::(nat_lit 841,f98.C)::(nat_lit 842,f98.D)::(nat_lit 848,f99.C)::(nat_lit 849,f99.D)::(nat_lit 853,OI.C)::(nat_lit 854,OI.D)::(nat_lit 858,On.C)::(nat_lit 859,On.D)::(nat_lit 865,OM.C)::(nat_lit 866,OM.D)::(nat_lit 872,Og.C)::(nat_lit 873,Og.D)::(nat_lit 879,PF.C)::(nat_lit 880,PF.D)::(nat_lit 886,PX.C)::(nat_lit 887,PX.D)::[]
abbrev qq:Program:=PySem.W.view PySem.Challenge.pw_pebbletoll_k63_questions_answered [1,2,3,4,5,6,7,8,9,10,12,13,14,15,16,17,18,19,20,21,22,23,24,26,27,28,29,30,32,33,34,35,37,38,39,40,41,42,44,45,46,47,48,49,50,51,52,54,55,56,57,58,59,60,61,62,63,64,66,67,68,70,71,72,73,74,75,76,77,78,80,81,82,83,84,85,86,87,88,89,91,92,93,94,95,97,98,99,100,101,102,103,105,106,107,108,109,110,111,112,113,115,116,117,118,119,120,121,122,123,124,125,126,127]
abbrev VU:List Addr:=[2,3,23,24,25,36,37,48,49,60,61,72,73,84,85,96,97,108,109,124,125,127,128,143,144,146,147,160,161,163,164,165,166,174,175,181,182,188,189,195,196,202,203,209,210,216,217,223,224,230,231,237,238,242,243,249,250,256,257,263,264,270,271,277,278,282,283,287,288,294,295,301,302,308,309,315,316,322,323,329,330,336,337,341,342,348,349,355,356,362,363,369,370,376,377,383,384,388,389,395,396,402,403,407,408,414,415,421,422,433,434,436,437,438,439,447,448,454,455,459,460,466,467,473,474,480,481,487,488,494,495,501,502,508,509,515,516,522,523,529,530,534,535,541,542,548,549,553,554,560,561,565,566,570,571,575,576,582,583,587,588,592,593,599,600,604,605,609,610,614,615,621,622,633,634,636,637,638,639,645,646,652,653,659,660,666,667,673,674,675,676,689,690,694,695,701,702,708,709,715,716,722,723,729,730,736,737,743,744,750,751,753,754,755,756,764,765,771,772,778,779,785,786,792,793,799,800,806,807,813,814,820,821,827,828,834,835,841,842,848,849,853,854,858,859,865,866,872,873,879,880,886,887]
theorem ϛ:∀P,VU=(KK P).map (·.1):=λ_=>by kernel_rfl
theorem lk0(w:World):(λos=>seen ((recsOf qq).map (·.name)) (ownsOf qq) [] { (Shared.mk (Hd.hf w.params) (.mk []) (.mk 0 0 0 0) 1515 os)with gens:=#[] })=λ_=>expectedOf qq:=by kernel_rfl
theorem lk1(w:World):(λos=>((Shared.mk (Hd.hf w.params) (.mk []) (.mk 0 0 0 0) 1515 os)).heap.bltView)=λ_=>bltViewBooted:=by kernel_rfl
theorem lk2(w:World):(λos=>(((Shared.mk (Hd.hf w.params) (.mk []) (.mk 0 0 0 0) 1515 os)).heap.keysOk (looseW qq ["NUMBERS_BEHIND"]) ((recsOf qq).map (·.name)) ((litsOf qq).map (·.1)) ((clssOf qq (looseW qq ["NUMBERS_BEHIND"])).map (·.name))&&((Shared.mk (Hd.hf w.params) (.mk []) (.mk 0 0 0 0) 1515 os)).heap.accountedOkI (importedModules PySem.Challenge.pw_pebbletoll_k63_questions_answered.main.body)&&((Shared.mk (Hd.hf w.params) (.mk []) (.mk 0 0 0 0) 1515 os)).heap.isNs mainGlobals&&((Shared.mk (Hd.hf w.params) (.mk []) (.mk 0 0 0 0) 1515 os)).heap.isNs builtinsNs&&tablesOk qq ((Shared.mk (Hd.hf w.params) (.mk []) (.mk 0 0 0 0) 1515 os)).heap&&(λs=>PySem.W.xlAt Hd.qq [] s&&PySem.W.recOk (PySem.W.RowW.records (PySem.W.OpenRow.toRowW (PySem.Challenge.rw_pebbletoll_k63_questions_answered).row)) s) (Shared.mk (Hd.hf w.params) (.mk []) (.mk 0 0 0 0) 1515 os)&&(if true then((Shared.mk (Hd.hf w.params) (.mk []) (.mk 0 0 0 0) 1515 os)).gens.size==0 else !leftWithCleanup ((Shared.mk (Hd.hf w.params) (.mk []) (.mk 0 0 0 0) 1515 os)).gens)))=λ_=>true:=by kernel_rfl
theorem lk3(w:World):(λos=>tabsOk qq (Shared.mk (Hd.hf w.params) (.mk []) (.mk 0 0 0 0) 1515 os))=λ_=>true:=by kernel_rfl
theorem lk4(w:World):(λos=>pinSeenD qq (drecsOf qq) (Shared.mk (Hd.hf w.params) (.mk []) (.mk 0 0 0 0) 1515 os))=λ_=>pinGoodD (drecsOf qq):=by kernel_rfl
theorem lk5(w:World):(λos=>plainSeenE qq (looseW qq ["NUMBERS_BEHIND"]) (Shared.mk (Hd.hf w.params) (.mk []) (.mk 0 0 0 0) 1515 os))=λ_=>plainGoodE qq (looseW qq ["NUMBERS_BEHIND"]):=by kernel_rfl
theorem lk6(w:World):(λos=>plainSeenD qq ["NUMBERS_BEHIND"] (Shared.mk (Hd.hf w.params) (.mk []) (.mk 0 0 0 0) 1515 os))=λ_=>plainGoodD qq ["NUMBERS_BEHIND"]:=by kernel_rfl
theorem lk7(w:World):(λos=>wideSeen qq (Shared.mk (Hd.hf w.params) (.mk []) (.mk 0 0 0 0) 1515 os))=λ_=>wideGood qq:=by kernel_rfl
theorem lk8(w:World):(λos=>clsSeenW qq ["NUMBERS_BEHIND"] (Shared.mk (Hd.hf w.params) (.mk []) (.mk 0 0 0 0) 1515 os))=λ_=>clsGoodW qq ["NUMBERS_BEHIND"]:=by kernel_rfl
theorem SE(w:World):(λos=>(staticsOk (importedModules PySem.Challenge.pw_pebbletoll_k63_questions_answered.main.body) (boot_heap w.params) (hf w.params)&&namesBound PySem.Challenge.pw_pebbletoll_k63_questions_answered (hf w.params)&&gensDone (Shared.mk (Hd.hf w.params) (.mk []) (.mk 0 0 0 0) 1515 os)&&laidKept (boot_heap w.params) (hf w.params)))=λ_=>true:=by kernel_rfl
theorem Sg(w:World):(λos=>openSeen qq ["NUMBERS_BEHIND"] (importedModules PySem.Challenge.pw_pebbletoll_k63_questions_answered.main.body) (λs=>PySem.W.xlAt Hd.qq [] s&&PySem.W.recOk (PySem.W.RowW.records (PySem.W.OpenRow.toRowW (PySem.Challenge.rw_pebbletoll_k63_questions_answered).row)) s) true (Shared.mk (Hd.hf w.params) (.mk []) (.mk 0 0 0 0) 1515 os))=λ_=>openGood qq ["NUMBERS_BEHIND"]:=funext λos=>congr (congrArg Prod.mk (congrFun (lk0 w) os)) (congr (congrArg Prod.mk (congrFun (lk1 w) os)) (congr (congrArg Prod.mk (congrFun (lk2 w) os)) (congr (congrArg Prod.mk (congrFun (lk3 w) os)) (congr (congrArg Prod.mk (congrFun (lk4 w) os)) (congr (congrArg Prod.mk (congrFun (lk5 w) os)) (congr (congrArg Prod.mk (congrFun (lk6 w) os)) (congr (congrArg Prod.mk (congrFun (lk7 w) os)) (congrFun (lk8 w) os))))))))
theorem So(w:World):(λos=>Hook.obs (PySem.W.kHook Hd.KK Hd.VU Hd.ϛ) (Shared.mk (Hd.hf w.params) (.mk []) (.mk 0 0 0 0) 1515 os))=λ_=>Hook.val (PySem.W.kHook Hd.KK Hd.VU Hd.ϛ) w:=by kernel_rfl
theorem Sk(w:World):(λos=>((staticsOk (importedModules PySem.Challenge.pw_pebbletoll_k63_questions_answered.main.body) (boot_heap w.params) (hf w.params)&&namesBound PySem.Challenge.pw_pebbletoll_k63_questions_answered (hf w.params)&&gensDone (Shared.mk (Hd.hf w.params) (.mk []) (.mk 0 0 0 0) 1515 os)&&laidKept (boot_heap w.params) (hf w.params)),openSeen qq ["NUMBERS_BEHIND"] (importedModules PySem.Challenge.pw_pebbletoll_k63_questions_answered.main.body) (λs=>PySem.W.xlAt Hd.qq [] s&&PySem.W.recOk (PySem.W.RowW.records (PySem.W.OpenRow.toRowW (PySem.Challenge.rw_pebbletoll_k63_questions_answered).row)) s) true (Shared.mk (Hd.hf w.params) (.mk []) (.mk 0 0 0 0) 1515 os),Hook.obs (PySem.W.kHook Hd.KK Hd.VU Hd.ϛ) (Shared.mk (Hd.hf w.params) (.mk []) (.mk 0 0 0 0) 1515 os)))=λ_=>(true,openGood qq ["NUMBERS_BEHIND"],Hook.val (PySem.W.kHook Hd.KK Hd.VU Hd.ϛ) w):=funext λos=>congr (congrArg Prod.mk (congrFun (SE w) os)) (congr (congrArg Prod.mk (congrFun (Sg w) os)) (congrFun (So w) os))
theorem left:PySem.W.LeftO (PySem.Challenge.rw_pebbletoll_k63_questions_answered).row.prog qq ["NUMBERS_BEHIND"] (λs=>PySem.W.xlAt Hd.qq [] s&&PySem.W.recOk (PySem.W.RowW.records (PySem.W.OpenRow.toRowW (PySem.Challenge.rw_pebbletoll_k63_questions_answered).row)) s) (PySem.W.Hook.obs (PySem.W.kHook Hd.KK Hd.VU Hd.ϛ)) (PySem.W.Hook.val (PySem.W.kHook Hd.KK Hd.VU Hd.ϛ)) 13356:=LeftO.of_pieces opn siz run (by decide) Sk
end Hd
abbrev iv:=Int->Int->Int
abbrev hX:=List PySem.Str
abbrev hU:=PySem.Str->Option PySem.Value
abbrev hT:=List PySem.Value
abbrev hR:=List PySem.Addr
abbrev hP:=List (PySem.Addr×PySem.Obj)
abbrev hO:=PySem.W.Frag
abbrev hL:=PySem.Value->PySem.Shared->Prop
abbrev hB:=Int->Nat
abbrev fz:=Int->Int
abbrev fc:=List Int
set_option autoImplicit true
set_option relaxedAutoImplicit true
namespace L2
open PySem PySem.Spec PyProof.Rows
abbrev Key:=Sum Int Str
def zq:Key->Value->Bool
 | .inl k,v=>Value.isInt k v
 | .inr x,v=>Value.isStrOf x v
def Oj(w:World):Key->Int
 | .inl k=>hashInt k
 | .inr x=>hashStr w x
def jD:∀{k:Key}{v:Value},zq k v=true->(∃i t,k=Sum.inl i/\v=Value.int i t)\/(∃x t,k=Sum.inr x/\v=Value.str x t)
 | .inl i,v,h=>by
   obtain⟨t,e⟩:=Value.isInt_shape (k:=i) (v:=v) h;exact .inl ⟨i,t,rfl,e⟩
 | .inr x,v,h=>by
   obtain⟨t,e⟩:=Value.isStrOf_shape (x:=x) (v:=v) h;exact .inr ⟨x,t,rfl,e⟩
def Mv(i:Int)(t:Tok):zq (.inl i) (.int i t)=true:=by simp[zq,Value.isInt]
def M7(x:Str)(t:Tok):zq (.inr x) (.str x t)=true:=by simp[zq,Value.isStrOf]
def RP(a b:Int):decide ((Sum.inl a:Key)=Sum.inl b)=(a==b):=by
 by_cases e:a=b
 .subst e;simp
 .have h:¬(Sum.inl a:Key)=Sum.inl b:=λq=>e (Sum.inl.inj q);rw[bM h];exact(beq_eq_false_iff_ne.mpr e).symm
def RF(a b:Str):decide ((Sum.inr a:Key)=Sum.inr b)=decide (a=b):=by
 by_cases e:a=b
 .subst e;simp
 .have h:¬(Sum.inr a:Key)=Sum.inr b:=λq=>e (Sum.inr.inj q);rw[bM h,bM e]
def RA(a:Int)(b:Str):decide ((Sum.inl a:Key)=Sum.inr b)=false:=bM (λq=>nomatch q)
def Rp(a:Str)(b:Int):decide ((Sum.inr a:Key)=Sum.inl b)=false:=bM (λq=>nomatch q)
def iT(prog:Program)(w:World):PySem.KeyKind prog w Key where
 is:=zq
 hash:=Oj w
 inj:=λv a b d hb=>by
  rcases jD d with⟨i,t,rfl,rfl⟩|⟨x,t,rfl,rfl⟩
  .rcases jD hb with⟨j,u,rfl,e⟩|⟨y,u,rfl,e⟩
   .injection e with e1 _;rw[e1]
   .exact nomatch e
  .rcases jD hb with⟨j,u,rfl,e⟩|⟨y,u,rfl,e⟩
   .exact nomatch e
   .injection e with e1 _;rw[e1]
 byValue:=λk v h=>by
  rcases jD h with⟨i,t,rfl,rfl⟩|⟨x,t,rfl,rfl⟩<;>rfl
 pyHash:=λhv h=>by
  rcases jD hv with⟨i,t,rfl,rfl⟩|⟨x,t,rfl,rfl⟩
  .exact wpAny_pyHash_int h
  .exact wpAny_pyHash_str h
 eqBool:=λc hv h=>by
  rcases jD c with⟨i,t,rfl,rfl⟩|⟨x,t,rfl,rfl⟩
  .rcases jD hv with⟨j,u,rfl,rfl⟩|⟨y,u,rfl,rfl⟩
   .rw[RP]at h;exact wpAny_eqBool_int h
   .rw[RA]at h;exact SeqAt.EqAt.int_str i t y u _ _ _ _ h
  .rcases jD hv with⟨j,u,rfl,rfl⟩|⟨y,u,rfl,rfl⟩
   .rw[Rp]at h;exact SeqAt.EqAt.str_int x t j u _ _ _ _ h
   .rw[RF]at h;exact wpAny_eqBool_str h
 «strs»:=λk x t v h=>by
  rcases jD h with⟨i,u,rfl,e⟩|⟨y,u,rfl,e⟩
  .exact nomatch e
  .injection e with e1 _
   subst e1;cases v<;>rfl
def IK(a:Program)(w:World)(i:Int)(t:Tok):(iT a w).is (.inl i) (.int i t)=true:=Mv i t
def vq(a:Program)(w:World)(x:Str)(t:Tok):(iT a w).is (.inr x) (.str x t)=true:=M7 x t
inductive V where
 | ξ|bl (b:Bool)|int (i:Int)|str (x:Str)|UZ (b:Array UInt8)|XT (b:UInt64)|ref (a:Addr)|ty (n:String)
 deriving DecidableEq
def RelV:V->Value->Prop
 | .ξ,u=>u=Value.none
 | .bl b,u=>u=Value.bool b
 | .int i,u=>∃t,u=Value.int i t
 | .str x,u=>∃t,u=Value.str x t
 | .UZ b,u=>∃t,u=Value.bytes b t
 | .XT b,u=>∃t,u=Value.float b t
 | .ref a,u=>u=Value.ref a
 | .ty n,u=>u=Value.type n
abbrev Vals:List V->List Value->Prop:=Paired RelV
def Vals.length(r:Vals a b):a.length=b.length:=Paired.length r
theorem Vals.get:∀{b:List V}{a:hT}{i:Nat}{x:V},Vals b a->b[i]?=some x->∃u,a[i]?=some u/\RelV x u
 | _,_,_,_,.nil,e=>by simp at e
 | _,_,0,_,.cons r _,e=>by simp at e;subst e;exact⟨_,rfl,r⟩
 | _,_,i+1,x,.cons _ t,e=>by
   obtain⟨u,d,c⟩:=Vals.get (i:=i) (x:=x) t (by simpa using e);exact⟨u,by simpa using d,c⟩
theorem Vals.set(r:RelV a b):∀{d:List V}{c:hT}(i:Nat),Vals d c->Vals (d.set i a) (c.set i b)
 | _,_,_,.nil=>.nil
 | _,_,0,.cons _ t=>.cons r t
 | _,_,i+1,.cons q t=>.cons q (Vals.set r i t)
theorem Vals.append:∀{b c:List V}{a d:hT},Vals b a->Vals c d->Vals (b++c) (a++d)
 | _,_,_,_,.nil,s=>s
 | _,_,_,_,.cons r t,s=>.cons r (Vals.append t s)
theorem Vals.take:∀{b:List V}{a:hT}(n:Nat),Vals b a->Vals (b.take n) (a.take n)
 | _,_,0,_=>.nil
 | _,_,_+1,.nil=>.nil
 | _,_,n+1,.cons r t=>.cons r (Vals.take n t)
theorem Vals.drop:∀{b:List V}{a:hT}(n:Nat),Vals b a->Vals (b.drop n) (a.drop n)
 | _,_,0,r=>r
 | _,_,_+1,.nil=>.nil
 | _,_,n+1,.cons _ t=>Vals.drop n t
def eQ:Option V->Option Value->Prop
 | some v,some u=>RelV v u
 | none,none=>True
 | _,_=>False
def KV :List (a×V)->List (a×Value)->Prop:=Paired λ(p:a×V)(q:a×Value)=>p.1=q.1/\RelV p.2 q.2
def kV:Key->V
 | .inl i=>.int i
 | .inr x=>.str x
inductive HO where
 /-- a list -/
 | lst (xs:List V)
 /-- a tuple (never changes) -/
 | tup (xs:List V)
 /-- a dict XU keys are ints and texts;one XU keys are tuples of ints and texts (Tg empty one is both) -/
 | dK (ρ:List (Key×V))|dT (ρ:List (List Key×V))
 /-- a set of ints: its members,its size -/
 | set (S:Int->Bool) (n:Nat)
 /-- an instance of Tg class at C,its dict at dx,its attributes -/
 | ins (C dx:Addr) (fs:List (Str×V))
 /-- Tg dict of Tg instance at x -/
 | own (x:Addr)
 /-- Tg dict of an exception -/
 | xd (fs:List (Str×V))
 /-- a bound method,f of x -/
 | met (f x:Addr)
 /-- a range object lo,lo+1,.. b7 hi -/
 | ϓ (lo hi:Int)
 /-- a thing Yt is known to Tg object (Tg script;a dict while a loop walks it): read,never written while it is so -/
 | U0 (o:Obj) (u:HO)
 /-- a code ZX table -/
 | XW (ps:Array Value)
 /-- any other thing,by Xe is true of its one object (a def of ahi own: ajN a S n:=HO.ext λh=>..) -/
 | ext (φ:Heap->Prop)
abbrev Hp:=Addr->Option HO
def upd(H:Hp)(a:Addr)(o:HO):Hp:=λb=>if b=a then some o else H b
def au :upd H a o a=some o:=by unfold upd;rw[aj rfl]
def aM(h:a≠b):upd c b d a=c a:=by unfold upd;rw[ah h]
def mN :upd (upd c a e) a d=upd c a d:=by
 funext b;unfold upd;split<;>rfl
def cZ{H:Hp}(h:H a=some c)(g:H b=some f)(d:c≠f):a≠b:=by
 intro e;subst e;rw[h]at g;exact d (bF g)
def cD{H:Hp}(h:H a=some o)(c:H b=none):a≠b:=by
 intro e;subst e;rw[h]at c;cases c
section
variable(P:Program)(w:World)
def Μ(H:Hp)(h:Heap)(a:Addr):HO->Prop
 | .lst c=>c.length<=sizeLine/\∃(b:hT)(n:Nat),Vals c b/\h.get? a=some { cls:=.type "list",data:=.seq b.toArray n }
 | .tup c=>c.length<=sizeLine/\∃b:List Value,Vals c b/\IsTup h a b.toArray
 | .dK ρ=>ρ.length<=sizeLine/\(a==sysModules)=false/\∃i,KV ρ i/\h.DictOf (iT P w) a i
 | .dT ρ=>ρ.length<=sizeLine/\(a==sysModules)=false/\∃c:List (List Key×Addr×Value),Paired (λ(p:List Key×V)(q:List Key×Addr×Value)=>p.1=q.1/\H q.2.1=some (.tup (p.1.map kV))/\RelV p.2 q.2.2) ρ c/\∃o g k,h.get? a=some o/\o.ExactDict/\o.data=.dict g k/\g.toList=c.map (entryOfKey (tupleKind (iT P w)))/\(c.map (·.1)).Nodup
 | .set S n=>h.SetOf (intKind P w) a S n
 | .ins C dx fs=>H dx=some (.own a)/\fs.length<=1000/\dx≠a/\h.get? a=some (PySem.W.instObj C dx)/\∃d,h.Ns1 dx d/\(∀f,eQ (fs.lookup f) (d f))/\PySem.Within d (fs.map (·.1))
 | .own _=>∃o,h.get? a=some o
 | .xd fs=>∃d,h.Ns1 a d/\∀f,eQ (fs.lookup f) (d f)
 | .ϓ lo hi=>∃t u v,h.get? a=some { cls:=.type "range",data:=.fields #[.int lo t,.int hi u,.int 1 v] }
 | .U0 o u=>h.get? a=some o/\Μ H h a u
 | .XW ps=>h.get? a=some { cls:=.none,data:=.fields ps }
 | .met f x=>h.get? a=some (PySem.W.methodObj (.ref f) (.ref x))
 | .ext φ=>φ h/\(∃o,h.get? a=some o)/\∀e j:Heap,φ e->(∀o,e.get? a=some o->j.get? a=some o)->φ j
def ϰ(H:Hp)(h:Heap):Prop:=∀a o,H a=some o->Μ P w H h a o
end
def Μ.lt(x:Μ d h g c b a):b<c.objs.size:=by
 cases a with
 | lst xs=>obtain⟨_,_,_,_,e⟩:=x;exact aK e
 | tup xs=>obtain⟨_,_,_,p⟩:=x;exact p.lt
 | dK ρ=>obtain⟨_,_,_,_,a,_,_,e,_⟩:=x;exact aK e
 | dT ρ=>obtain⟨_,_,_,_,a,_,_,e,_⟩:=x;exact aK e
 | set S n=>obtain⟨a,_,_,_,e,_⟩:=x;exact aK e
 | ins C dx fs=>obtain⟨_,_,_,e,_⟩:=x;exact aK e
 | own y=>obtain⟨_,e⟩:=x;exact aK e
 | xd fs=>obtain⟨_,⟨_,_,_,e,_⟩,_⟩:=x;exact aK e
 | ϓ lo hi=>obtain⟨_,_,_,e⟩:=x;exact aK e
 | U0 ob u=>obtain⟨e,_⟩:=x;exact aK e
 | XW ps=>exact aK (show c.get? b=some _ from x)
 | met f y=>exact aK (show c.get? b=some _ from x)
 | ext φ=>obtain⟨_,⟨_,e⟩,_⟩:=x;exact aK e
theorem Paired.Xf{G:c->d->Prop}:∀{h:List c}{g:List d},Paired e h g->(∀a b,e a b->G a b)->Paired G h g
 | _,_,.nil,_=>.nil
 | _,_,.cons r t,f=>.cons (f _ _ r) (Paired.Xf t f)
def Paired.imp'{g e:Type}{F G:g->e->Prop}(f:∀a b,F a b->G a b){d:List g}{c:List e}(r:Paired F d c):Paired G d c:=Paired.Xf r f
def Μ.lE{F:Hp}{B:Heap}(x:Μ j l i h a g)(k:∀b u,(b=a\/i b=some (.own a))->h.get? b=some u->B.get? b=some u)(H:∀b,i b=some (.own a)->F b=some (.own a))(G:∀b A,i b=some (.tup A)->F b=some (.tup A)):Μ j l F B a g:=by
 induction g with
 | lst A=>obtain⟨z,w,n,r,e⟩:=x;exact⟨z,w,n,r,k _ _ (.inl rfl) e⟩
 | tup A=>obtain⟨z,w,r,m,e,c⟩:=x;exact⟨z,w,r,m,k _ _ (.inl rfl) e,c⟩
 | dK ρ=>obtain⟨z,y,I,r,m,o,s,e,c⟩:=x;exact⟨z,y,I,r,m,o,s,k _ _ (.inl rfl) e,c⟩
 | dT ρ=>
   obtain⟨z,y,A,r,m,o,s,e,c⟩:=x;exact⟨z,y,A,Paired.Xf r λp q z=>⟨z.1,G _ _ z.2.1,z.2.2⟩,m,o,s,k _ _ (.inl rfl) e,c⟩
 | set S n=>obtain⟨m,o,s,t,e,c⟩:=x;exact⟨m,o,s,t,k _ _ (.inl rfl) e,c⟩
 | ins C dx fs=>
   obtain⟨d,z,ne,e,E,⟨D,o,s,J,c⟩,r⟩:=x;exact⟨H _ d,z,ne,k _ _ (.inl rfl) e,E,⟨D,o,s,k _ _ (.inr d) J,c⟩,r⟩
 | own y=>obtain⟨m,e⟩:=x;exact⟨m,k _ _ (.inl rfl) e⟩
 | xd fs=>obtain⟨E,⟨D,o,s,e,c⟩,r⟩:=x;exact⟨E,⟨D,o,s,k _ _ (.inl rfl) e,c⟩,r⟩
 | ϓ lo hi=>obtain⟨t,u,v,e⟩:=x;exact⟨t,u,v,k _ _ (.inl rfl) e⟩
 | U0 m u ih=>obtain⟨e,q⟩:=x;exact⟨k _ _ (.inl rfl) e,ih q⟩
 | XW ps=>
   have e:h.get? a=some { cls:=.none,data:=.fields ps }:=x;show B.get? a=some { cls:=.none,data:=.fields ps };exact k a _ (.inl rfl) e
 | met f y=>
   have e:h.get? a=some (PySem.W.methodObj (.ref f) (.ref y)):=x;show B.get? a=some (PySem.W.methodObj (.ref f) (.ref y));exact k a _ (.inl rfl) e
 | ext φ=>obtain⟨p,⟨g,e⟩,st⟩:=x;exact⟨st _ _ p λg q=>k _ _ (.inl rfl) q,⟨g,k _ _ (.inl rfl) e⟩,st⟩
def ϰ.lt(x:ϰ f g d b)(e:d a=some c):a<b.objs.size:=(x a c e).lt
def ϰ.fresh(x:ϰ d f b c)(e:c.objs.size<=a):b a=none:=by
 cases q:b a with
 | none=>rfl
 | some u=>exact absurd (aU (x.lt q) e) (cV _)
def ϰ.kept{h':Heap}(x:ϰ c g f d)(k:∀b u,d.get? b=some u->h'.get? b=some u):ϰ c g f h':=λa o e=>
 (x a o e).lE (λb u _ q=>k b u q) (λ_ q=>q) λ_ _ q=>q
def ϰ.laid{h':Heap}(x:ϰ d g h f)(k:∀b u,f.get? b=some u->h'.get? b=some u)(m:f.objs.size<=a)(i:Μ d g (upd h a o) h' a o):ϰ d g (upd h a o) h':=λb u e=>by
 have j:=x.fresh m;by_cases l:b=a
 .subst l;rw[au]at e;cases e;exact i
 .rw[aM l]at e;exact(x b u e).lE (λc v _ q=>k c v q) (λc q=>by rw[aM (cD q j)];exact q) λc n q=>by rw[aM (cD q j)];exact q
def Rd(H:Hp)(a:Addr)(u:HO):Prop:=H a=some u\/∃o,H a=some (.U0 o u)
def Rd.ok(r:Rd b a c)(x:ϰ d f b e):Μ d f b e a c:=by
 rcases r with r|⟨o,r⟩
 .exact x a c r
 .obtain⟨_,q⟩:=x a _ r;exact q
def ZY:Option HO->Prop
 | some (.lst _)=>True
 | some (.dK _)=>True
 | some (.dT _)=>True
 | some (.set _ _)=>True
 | some (.ins _ _ _)=>True
 | some (.ext _)=>True
 | _=>False
def ϰ.write{j:Heap}(A:ϰ f g a h)(n:ZY (a x))(t:e=x\/a e=some (.own x))(k:∀b u,b≠e->h.get? b=some u->j.get? b=some u)(B:∃u,j.get? e=some u)(p:Μ f g (upd a x d) j x d):ϰ f g (upd a x d) j:=λb u q=>by
 have s:∀c y,a c=some (.own y)->c≠x:=λc y r z=>by subst z;rw[r]at n;exact n
 have o:∀c m,a c=some (.tup m)->c≠x:=λc m r z=>by subst z;rw[r]at n;exact n
 by_cases i:b=x
 .subst i;rw[au]at q;cases q;exact p
 .rw[aM i]at q;by_cases l:b=e
  .have q':a b=some (.own x):=by
    rcases t with z|z
    .exact absurd (l.trans z) i
    .rw[l];exact z
   rw[q]at q';cases q';obtain⟨v,w⟩:=B;exact⟨v,by rw[l];exact w⟩
  .refine(A b u q).lE (λc v hc r=>k c v ?_ r) (λc r=>by rw[aM (s c b r)];exact r) λc m r=>by rw[aM (o c m r)];exact r
   rcases hc with rfl|hc
   .exact l
   .rintro rfl;rcases t with z|z
    .exact s c b hc z
    .rw[hc]at z;cases z;exact i rfl
structure Un(fs ex:hR)(H H':Hp)(h h':Heap):Prop where
 keep:∀b o,h.get? b=some o->H b=none->b∉fs->b∉ex->h'.get? b=some o
 slot:∀b o,h.get? b=some o->H b=none->b∈fs->b∉ex->∃sl,h'.get? b=some { o with slots:=sl }
 free:∀b o,h.get? b=some o->H b=none->b∉ex->H' b=none
 there:∀b o,h.get? b=some o->b∉ex->∃o',h'.get? b=some o'
 lT:∀b xs,H b=some (.tup xs)->H' b=some (.tup xs)
 gE:∀b o u,H b=some (.U0 o u)->H' b=some (.U0 o u)
 nE:∀b ps,H b=some (.XW ps)->∃more,H' b=some (.XW (ps++more))
def Un.any(u:Un d e g h f c)(q:f.get? b=some a)(n:g b=none)(i:b∉e):∃k,c.get? b=some { a with slots:=k }:=by
 by_cases j:b∈d
 .exact u.slot b a q n j i
 .exact⟨a.slots,u.keep b a q n j i⟩
def Un.kept{h:Heap}{h':Heap}(k:∀b u,h.get? b=some u->h'.get? b=some u):Un c d a a h h':=⟨λb e q _ _ _=>k b e q,λb e q _ _ _=>⟨e.slots,k b e q⟩,λ_ _ _ n _=>n,λb e q _=>⟨e,k b e q⟩,λ_ _ q=>q,λ_ _ _ q=>q,λ_ f q=>⟨#[],by rw[q];simp⟩⟩
def Un.refl:Un d c a a b b:=Un.kept λ_ _ q=>q
def Un.laid{H:Hp}{h:Heap}{h':Heap}(k:∀b u,h.get? b=some u->h'.get? b=some u)(f:h.objs.size<=a)(hn:H a=none):Un c d H (upd H a o) h h' where
 keep:=λb u q _ _ _=>k b u q
 slot:=λb u q _ _ _=>⟨u.slots,k b u q⟩
 free:=λb u q n _=>by rw[aM (aV (aU (aK q) f))];exact n
 there:=λb u q _=>⟨u,k b u q⟩
 lT:=λb e q=>by rw[aM (cD q hn)];exact q
 gE:=λb u e q=>by rw[aM (cD q hn)];exact q
 nE:=λb g q=>⟨#[],by rw[aM (cD q hn),q];simp⟩
def Un.write{H:Hp}{h:Heap}{g:Heap}(f:ZY (H x))(s:e=x\/H e=some (.own x))(k:∀b u,b≠e->h.get? b=some u->g.get? b=some u)(t:∃u,g.get? e=some u):Un a c H (upd H x d) h g:=by
 have j:∀b,H b=none->b≠x:=λb n z=>by subst z;rw[n]at f;exact f
 have l:∀b,H b=none->b≠e:=λb n z=>by
  subst z;rcases s with r|r
  .exact j b n r
  .rw[n]at r;cases r
 have i:∀b u,H b=some u->¬ZY (some u)->b≠x:=λb u q o z=>by subst z;rw[q]at f;exact o f
 refine⟨λb u q n _ _=>k b u (l b n) q,λb u q n _ _=>⟨u.slots,k b u (l b n) q⟩,λb u q n _=>by rw[aM (j b n)];exact n,λb u q _=>?_,λb p q=>by rw[aM (i b _ q λz=>z)];exact q,λb u p q=>by rw[aM (i b _ q λz=>z)];exact q,λb v q=>⟨#[],by rw[aM (i b _ q λz=>z),q];simp⟩⟩
 by_cases m:b=e
 .subst m;exact t
 .exact⟨u,k b u m q⟩
def trk(h:Heap)(H:Hp):List Addr:=(List.range h.objs.size).filter λa=>(H a).isSome
def xq(h:Heap)(H:Hp):Heap:=PySem.W.hideAll h (trk h H)
def LP(h:Heap)(H:Hp):(xq h H).objs.size=h.objs.size:=PySem.W.hideAll_size _ _
def ON{h:Heap}{H:Hp}(e:h.get? a=some b)(n:H a=none):(xq h H).get? a=some b:=PySem.W.hideAll_get _ e λc=>by
 have q:(H a).isSome=true:=(cf.mp c).2;rw[n]at q;simp at q
def QI(e:(xq b c).get? a=some d):b.get? a=some d/\c a=none:=by
 have f:b.get? a=some d:=PySem.W.of_hideAll (trk b c) e;refine⟨f,?_⟩;cases q:c a with
 | none=>rfl
 | some x=>
   have g:a∈trk b c:=cf.mpr ⟨cY.mpr (aK f),by simp[q]⟩;have z:(xq b c).get? a=none:=PySem.W.hideAll_none (trk b c) g;rw[z]at e;cases e
def Qu(g h:Heap)(L:Addr):List (Addr×Obj):=(List.range h.objs.size).filterMap λa=>if a=L\/(g.get? a).isSome=true then none else(h.get? a).map λo=>(a,o)
def rest(g h:Heap)(L d:Addr):List (Addr×Obj):=(Qu g h L).filter λp=>decide (p.1≠d)
structure Mod(K:hO)(mg:hU)(base:Heap):Prop where
 Yv:K.In base
 glob:base.Ns mainGlobals mg
 blt:∃mb,base.Ns builtinsNs mb/\∀x:Str,x≠"__name__"->mb x=bootBuiltins x
 nolimit:base.NoLimit
structure Cx where
 prog:Program
 w:World
 K:PySem.W.Frag
 mg:Str->Option Value
 base:Heap
 A:Around
 N:List Str
 s₀:Shared
 H₀:Hp
 env:Env
 outer:List Env
 stack:List Env
 ex:List Addr
 fn:Str->Bool
 calm:Bool
 pn:List (Addr×Obj)
 xe:Value->Shared->Prop
def ϧ(l:List Env):List Addr:=l.filterMap (·.frame)
abbrev Cx.fs(X:Cx):List Addr:=ϧ X.outer
def Vis(a:Scope)(x:Str):Prop:=a.names.lookup x=some .local\/a.names.lookup x=some .cell\/a.names.lookup x=some .free
def Loc(a:Scope)(x:Str):Prop:=a.names.lookup x=some .local\/a.names.lookup x=some .cell
def SU(a:Env)(h:Heap)(m:hU)(x:Str)(u:Value):Prop:=(a.kindOf x=some .local/\m x=some u)\/((a.kindOf x=some .cell\/a.kindOf x=some .free)/\∃c,a.cells.lookup x=some c/\h.IsCell c (some u))
structure Cx.Ok(X:Cx):Prop where
 mod:Mod X.K X.mg X.base
 kind:X.env.scope.kind=.function
 glob:X.env.globals=mainGlobals
 blt:X.env.builtins=builtinsNs
 above:X.s₀.heap.objs.size<=X.env.locals
 inj:∀x y c,X.env.cells.lookup x=some c->X.env.cells.lookup y=some c->x=y
 has:∀x,(X.env.kindOf x=some .cell\/X.env.kindOf x=some .free)->∃c,X.env.cells.lookup x=some c
 XX:∀x c,X.fn x=true->X.env.cells.lookup x=some c->X.s₀.heap.objs.size<=c
 hd:X.calm=true->X.A.handled=none
 frames:X.A.frames=some X.stack
 Yw:X.stack=X.outer\/(X.stack=X.env::X.outer/\X.env.frame=some X.env.locals)
 Z0:∀b∈X.ex,b≠X.env.locals/\∀x c,X.env.cells.lookup x=some c->c≠b
 bs:∀b o,X.base.get? b=some o->X.s₀.heap.get? b=some o/\X.H₀ b=none
 V7:X.base.objs.size<=X.s₀.heap.objs.size
 Uv:∀b o,X.base.get? b=some o->b∉X.ex
 T7:∀b∈X.ex,b∉X.fs
 gT:X.s₀.heap.FunFrames X.base X.outer
 WN:∀b∈X.fs,X.H₀ b=none
structure Inv(X:Cx)(pins:hP)(σ:List (Option V))(H:Hp)(s:Shared):Prop where
 ok:X.Ok
 os:s.os=X.s₀.os
 bare:AllBare s.gens
 base:Un X.fs X.ex X.H₀ H X.s₀.heap s.heap
 loc:∃m,s.heap.Ns X.env.locals m/\∀(i:Nat)(x:Str)(v:V),X.N[i]?=some x->σ[i]?=some (some v)->Vis X.env.scope x->∃u,RelV v u/\SU X.env s.heap m x u
 cell:∀x c,X.env.cells.lookup x=some c->∃v,s.heap.IsCell c v
 free:H X.env.locals=none
 ϔ:∀x c,X.env.cells.lookup x=some c->H c=none
 pin:∀p∈X.pn++pins,s.heap.get? p.1=some p.2/\H p.1=none/\p.1≠X.env.locals/\p.1∉X.fs/\∀v,p.2.data≠.cell v
 Β:ϰ X.prog X.w H s.heap
 len:σ.length=X.N.length
def Cx.Ok.aeG{X:Cx}(d:X.Ok)(e:X.base.get? a=some b):a∉X.fs:=λc=>by
 have:=(d.gT.mem c).1;rw[e]at this;cases this
def Inv.bs(I:Inv c a g d f):∀b o,c.base.get? b=some o->f.heap.get? b=some o/\d b=none:=λb o e=>
 ⟨I.base.keep b o (I.ok.bs b o e).1 (I.ok.bs b o e).2 (I.ok.aeG e) (I.ok.Uv b o e),I.base.free b o (I.ok.bs b o e).1 (I.ok.bs b o e).2 (I.ok.Uv b o e)⟩
def Inv.bk(I:Inv c a f g d):∀b o,c.base.get? b=some o->d.heap.get? b=some o:=λb o e=>(I.bs b o e).1
def Inv.mod(I:Inv a b c e d):Mod a.K a.mg a.base:=I.ok.mod
def Inv.oK(I:Inv c a d e b):c.K.In b.heap:=I.ok.mod.Yv.keeps I.bk
def Inv.lt(I:Inv c a d e b):c.env.locals<b.heap.objs.size:=let ⟨_,hn,_⟩:=I.loc;hn.lt
def Inv.sz(I:Inv c a d e b):c.s₀.heap.objs.size<=b.heap.objs.size:=aW I.ok.above (iP I.lt)
def Inv.aeH(I:Inv c a e f d)(h:d.heap.objs.size<=b):b∉c.fs:=λg=>by
 obtain⟨_,o,i,_⟩:=I.ok.gT.mem g;exact absurd (aU (aK i) (aW I.sz h)) (cV _)
def Inv.Yx(I:Inv a b d g f):∀x c,a.env.cells.lookup x=some c->c≠a.env.locals:=λx c e z=>by
 obtain⟨v,o,i,j⟩:=I.cell x c e;obtain⟨m,⟨l,n,p,k,h,_⟩,_⟩:=I.loc;rw[z,k]at i;cases i;rw[h]at j;cases j
def Inv.gT(I:Inv a d f g c):c.heap.FunFrames a.base a.outer:=by
 have k:∀(l:List Env),(∀b∈ϧ l,b∈a.fs)->a.s₀.heap.FunFrames a.base l->c.heap.FunFrames a.base l:=by
  intro l
  induction l with
  | nil=>intro _ _;trivial
  | cons env r ih=>
    intro m u;obtain⟨q,⟨L,o,i,t,n,p⟩,s⟩:=u;have j:L∈a.fs:=m L (by unfold ϧ;rw[i6,i];exact aL);obtain⟨v,e⟩:=I.base.slot L o n (I.ok.WN L j) j λz=>I.ok.T7 L z j;exact⟨q,⟨L,_,i,t,e,p⟩,ih (λb h=>m b (by unfold ϧ;rw[i6,i];exact aI _ h)) s⟩
 exact k a.outer (λ_ h=>h) I.ok.gT
def Inv.stack(I:Inv a b c d s):s.heap.FunFrames a.base a.stack:=by
 rcases I.ok.Yw with e|⟨e,g⟩
 .rw[e];exact I.gT
 .rw[e];obtain⟨m,f,_⟩:=I.loc;refine .cons (by rw[I.ok.kind];decide) g f ?_ I.gT;exact Heap.get?_none_of_le (aW I.ok.V7 I.ok.above)
def Inv.T8(I:Inv a c d f g):∀b∈ϧ a.stack,b∈a.env.locals::a.fs:=λb h=>by
 rcases I.ok.Yw with e|⟨e,i⟩
 .rw[e]at h;exact aI _ h
 .rw[e]at h;unfold ϧ at h;rw[i6,i]at h;exact h
def Inv.oR(I:Inv c a f d g):∀b∈ϧ c.stack,d b=none:=λb hb=>by
 rcases aF.mp (I.T8 b hb)with e|hb
 .rw[e];exact I.free
 .obtain⟨_,o,ho,_⟩:=I.ok.gT.mem hb;exact I.base.free b o ho (I.ok.WN b hb) λz=>I.ok.T7 b z hb
def Inv.step{j:hP}{Q:List (Option V)}{E:Hp}{C:Heap}{t':Nat}{ch:hR}(I:Inv a j Q g f)(J:∀b∈ch,(b∈a.ex\/a.s₀.heap.objs.size<=b)/\b≠a.env.locals/\(∀x c,a.env.cells.lookup x=some c->c≠b)/\∀p∈a.pn++j,p.1≠b)(keep:∀b o,b≠a.env.locals->b∉a.fs->b∉ch->f.heap.get? b=some o->g b=none->C.get? b=some o)(slot:∀b o,b≠a.env.locals->b∈a.fs->b∉ch->f.heap.get? b=some o->g b=none->∃P,C.get? b=some { o with slots:=P })(free:∀b o,b∉ch->f.heap.get? b=some o->g b=none->E b=none)(there:∀b o,b∉ch->f.heap.get? b=some o->∃G,C.get? b=some G)(lT:∀b A,g b=some (.tup A)->E b=some (.tup A))(gE:∀b o u,g b=some (.U0 o u)->E b=some (.U0 o u))(nE:∀b M,g b=some (.XW M)->∃L,E b=some (.XW (M++L)))(U:∀m,f.heap.Ns a.env.locals m->C.Ns a.env.locals m)(T:ϰ a.prog a.w E C)(Y:AllBare g'):Inv a j Q E { f with heap:=C,gens:=g',drawn:=d',toks:=t' }:=by
 have F:∀b o,a.s₀.heap.get? b=some o->b≠a.env.locals:=λb o e=>aV (aU (aK e) I.ok.above);have y:∀b o,a.s₀.heap.get? b=some o->b∉a.ex->b∉ch:=λb o e h B=>by
  rcases(J b B).1 with z|z
  .exact h z
  .exact absurd (aU (aK e) z) (cV _)
 have s:∀x c,a.env.cells.lookup x=some c->∀v,f.heap.IsCell c v->C.IsCell c v:=λx c e v ⟨o,D,N⟩=>by
  have H:c∉ch:=λz=>(J c z).2.2.1 x c e rfl;by_cases S:c∈a.fs
  .obtain⟨P,q⟩:=slot c o (I.Yx x c e) S H D (I.ϔ x c e);exact⟨_,q,N⟩
  .exact⟨o,keep c o (I.Yx x c e) S H D (I.ϔ x c e),N⟩
 refine⟨I.ok,I.os,Y,⟨λb o e n B h=>?_,λb o e n B h=>?_,λb o e n h=>?_,λb o e h=>?_,λb A e=>lT b A (I.base.lT b A e),λb o A e=>gE b o A (I.base.gE b o A e),λb M e=>?_⟩,?_,λx c e=>?_,?_,λx c e=>?_,λp R=>?_,T,I.len⟩
 .exact keep b o (F b o e) B (y b o e h) (I.base.keep b o e n B h) (I.base.free b o e n h)
 .obtain⟨P,t⟩:=I.base.slot b o e n B h;obtain⟨O,K⟩:=slot b _ (F b o e) B (y b o e h) t (I.base.free b o e n h);exact⟨O,K⟩
 .obtain⟨G,t⟩:=I.base.there b o e h;exact free b G (y b o e h) t (I.base.free b o e n h)
 .obtain⟨G,t⟩:=I.base.there b o e h;exact there b G (y b o e h) t
 .obtain⟨m1,t⟩:=I.base.nE b M e;obtain⟨W,K⟩:=nE b _ t;exact⟨m1++W,by rw[K,Array.append_assoc]⟩
 .obtain⟨m,hn,hl⟩:=I.loc;refine⟨m,U m hn,λi x v t K X=>?_⟩;obtain⟨u,r,l⟩:=hl i x v t K X;refine⟨u,r,?_⟩;rcases l with l|⟨k,c,e,z⟩
  .exact .inl l
  .exact .inr ⟨k,c,e,s x c e _ z⟩
 .obtain⟨v,z⟩:=I.cell x c e;exact⟨v,s x c e v z⟩
 .obtain⟨m,⟨o,_,_,D,_⟩,_⟩:=I.loc;exact free _ o (λz=>(J _ z).2.1 rfl) D I.free
 .obtain⟨v,o,D,N⟩:=I.cell x c e;exact free c o (λz=>(J c z).2.2.1 x c e rfl) D (I.ϔ x c e)
 .obtain⟨e,n,ne,nf,d⟩:=I.pin p R;have H:p.1∉ch:=λz=>(J p.1 z).2.2.2 p R rfl;exact⟨keep p.1 p.2 ne nf H e n,free p.1 p.2 H e n,ne,nf,d⟩
def Inv.un{g:hP}{j:List (Option V)}{t':Nat}(I:Inv a g j f c)(u:Un a.fs [] f d c.heap h')(p:ϰ a.prog a.w d h'):Inv a g j d { c with heap:=h',toks:=t' }:=by
 obtain⟨m,⟨o,y,C,k,r⟩,_⟩:=id I.loc;obtain⟨B,v⟩:=u.any k I.free (by simp);exact I.step (g':=c.gens) (d':=c.drawn) (ch:=[]) (λ_ z=>nomatch z) (λb o _ h _ e n=>u.keep b o e n h (by simp)) (λb o _ h _ e n=>u.slot b o e n h (by simp)) (λb o _ e n=>u.free b o e n (by simp)) (λb o _ e=>u.there b o e (by simp)) u.lT u.gE u.nE (λA q=>by
  obtain⟨x,t,i,l,s⟩:=q;rw[k]at l;cases l;exact⟨_,t,i,v,s⟩) p I.bare
def Inv.call{h:hP}{l:List (Option V)}{t':Nat}{ch:hR}(I:Inv a h l g f)(u:Un (ϧ a.stack) ch g d f.heap h')(v:ϰ a.prog a.w d h')(D:AllBare g')(s:∀b∈ch,(b∈a.ex\/a.s₀.heap.objs.size<=b)/\b≠a.env.locals/\(∀x c,a.env.cells.lookup x=some c->c≠b)/\∀p∈a.pn++h,p.1≠b):Inv a h l d { f with heap:=h',gens:=g',drawn:=d',toks:=t' }:=by
 obtain⟨m,⟨o,F,J,q,r⟩,_⟩:=id I.loc;obtain⟨H,k⟩:=u.any q I.free λz=>(s _ z).2.1 rfl;exact I.step (ch:=ch) s (λb o k y i e n=>u.keep b o e n (λz=>(aF.mp (I.T8 b z)).elim k y) i) (λb o _ _ i e n=>u.any e n i) (λb o i e n=>u.free b o e n i) (λb o i e=>u.there b o e i) u.lT u.gE u.nE (λG A=>by
  obtain⟨E,C,j,t,B⟩:=A;rw[q]at t;cases t;exact⟨_,C,j,k,B⟩) v D
def Inv.turned{g:hP}{j:List (Option V)}{l:Heap}{t':Nat}(I:Inv a g j f d)(k:∀b o,b≠it->d.heap.get? b=some o->l.get? b=some o)(C:f it=none)(s:it≠a.env.locals)(w:it∈a.ex\/a.s₀.heap.objs.size<=it)(B:∀x c,a.env.cells.lookup x=some c->c≠it)(y:∀p∈a.pn++g,p.1≠it):Inv a g j f { d with heap:=l,toks:=t' }:=by
 have i:∀b u,f b=some u->b≠it:=λb u e z=>by rw[z,C]at e;cases e
 refine I.step (g':=d.gens) (d':=d.drawn) (ch:=[it]) (λb t=>?_) (λb o _ _ h e _=>k b o (λz=>h (by simp[z])) e) (λb o _ _ h e _=>⟨o.slots,k b o (λz=>h (by simp[z])) e⟩) (λ_ _ _ _ n=>n)
  (λb o h e=>⟨o,k b o (λz=>h (by simp[z])) e⟩) (λ_ _ e=>e) (λ_ _ _ e=>e) (λb D e=>⟨#[],by rw[e];simp⟩) (λm A=>?_) (λb u e=>?_) I.bare
 .have e:b=it:=by simpa using t
  subst e;exact⟨w,s,B,y⟩
 .obtain⟨o,es,ep,ho,r⟩:=A;exact⟨o,es,ep,k _ o (Ne.symm s) ho,r⟩
 .refine(I.Β b u e).lE (λc v h q=>k c v ?_ q) (λ_ q=>q) λ_ _ q=>q;rcases h with z|z
  .rw[z];exact i b u e
  .exact i c _ z
def Inv.tok(I:Inv e a c d b)(t:Nat):Inv e a c d { b with toks:=t }:=I.un (h':=b.heap) (t':=t) Un.refl I.Β
def Inv.kept{h':Heap}{t':Nat}(I:Inv e a c f d)(k:∀b u,d.heap.get? b=some u->h'.get? b=some u):Inv e a c f { d with heap:=h',toks:=t' }:=I.un (Un.kept k) (I.Β.kept k)
def Inv.laid{h':Heap}{t':Nat}(I:Inv e c g f d)(k:∀b u,d.heap.get? b=some u->h'.get? b=some u)(i:d.heap.objs.size<=a)(h:Μ e.prog e.w (upd f a o) h' a o):Inv e c g (upd f a o) { d with heap:=h',toks:=t' }:=I.un (Un.laid k i (I.Β.fresh i)) (I.Β.laid k i h)
def Inv.write{i:Heap}{o:Nat}(I:Inv d a h c f)(l:ZY (c x))(n:e=x\/c e=some (.own x))(k:∀b u,b≠e->f.heap.get? b=some u->i.get? b=some u)(m:∃u,i.get? e=some u)(j:Μ d.prog d.w (upd c x g) i x g):Inv d a h (upd c x g) { f with heap:=i,toks:=o }:=I.un (Un.write l n k m) (I.Β.write l n k m j)
def Inv.Vg(I:Inv b f d c e)(h:∀p∈a,e.heap.get? p.1=some p.2/\c p.1=none/\p.1≠b.env.locals/\p.1∉b.fs/\∀v,p.2.data≠.cell v):Inv b a d c e:=⟨I.ok,I.os,I.bare,I.base,I.loc,I.cell,I.free,I.ϔ,λp g=>(bi.mp g).elim (λz=>I.pin p (bJ _ z)) (h p),I.Β,I.len⟩
def Gx{N:hX}(d:N.Nodup){i j:Nat}{x:Str}(a:N[i]?=some x)(b:N[j]?=some x):i=j:=by
 obtain⟨g,c⟩:=ax.mp a;obtain⟨f,e⟩:=ax.mp b;exact(List.getElem_inj d).mp (c.trans e.symm)
def Ew{G:hP}{R:List (Option V)}{E:hL}{i:Nat}{x:Str}{Q:Unit->Shared->Prop}(I:Inv f G R s g)(hN:f.N.Nodup)(K:f.N[i]?=some x)(D:Loc f.env.scope x)(r:RelV v l)(h:∀S,Inv f G (R.set i (some v)) s S->(∃a,Heap.SameBut a g.heap S.heap/\(a=f.env.locals\/f.env.cells.lookup x=some a))->Q () S)(hf:f.fn x=true\/f.env.scope.names.lookup x=some .local:=by first|exact .inl rfl|exact .inr rfl|assumption):wpAny t u (storeName f.env x l) Q E g:=by
 obtain⟨m,U,hl⟩:=id I.loc;have W:(f.env.scope.kind==.class||(f.env.scope.kind==.module&&f.env.locals != f.env.globals))=false:=by rw[I.ok.kind];rfl
 have Z3:i<R.length:=by rw[I.len];exact(ax.mp K).1
 have Yx:=I.Yx;have C:∀{a:Addr}{J:Heap},(∃o,g.heap.get? a=some o/\s a=none)->Heap.SameBut a g.heap J->ϰ f.prog f.w s J:=λ{a J} ha A b ob e=>by
  obtain⟨_,_,Ux⟩:=ha;refine(I.Β b ob e).lE (λc M hc q=>(A.2 c ?_).trans q) (λ_ q=>q) λ_ _ q=>q;rintro rfl;rcases hc with rfl|hc
  .rw[Ux]at e;cases e
  .rw[Ux]at hc;cases hc
 rcases D with hk|hk
 .refine wpAny_storeName_local hk U (λJ Z4 A=>?_) W;obtain⟨oL,_,_,X,_⟩:=id U;refine h _ ⟨I.ok,I.os,I.bare,⟨λb o e n H D=>?_,λb o e n H D=>?_,I.base.free,λb o e D=>?_,I.base.lT,I.base.gE,I.base.nE⟩,⟨_,Z4,λj y v' B F Y=>?_⟩,λy c e=>?_,I.free,I.ϔ,λp Z=>?_,C ⟨oL,X,I.free⟩ A,by simpa using I.len⟩ ⟨_,A,.inl rfl⟩
  .exact(A.2 b (aV (aU (aK e) I.ok.above))).trans (I.base.keep b o e n H D)
  .obtain⟨sl,B⟩:=I.base.slot b o e n H D;exact⟨sl,(A.2 b (aV (aU (aK e) I.ok.above))).trans B⟩
  .obtain⟨o',B⟩:=I.base.there b o e D;exact⟨o',(A.2 b (aV (aU (aK e) I.ok.above))).trans B⟩
  .by_cases hj:j=i
   .subst hj;rw[K]at B;cases B;rw[da Z3]at F;cases F;exact⟨l,r,.inl ⟨hk,by simp⟩⟩
   .rw[cA (Ne.symm hj)]at F;obtain⟨u',T,q⟩:=hl j y v' B F Y;refine⟨u',T,?_⟩;rcases q with⟨k,e⟩|⟨k,c,e,z⟩
    .refine .inl ⟨k,?_⟩;have:y≠x:=λe=>hj (Gx hN B (e▸K));simp[this,e]
    .exact .inr ⟨k,c,e,z.sameBut A (Yx y c e)⟩
  .obtain⟨M,z⟩:=I.cell y c e;exact⟨M,z.sameBut A (Yx y c e)⟩
  .obtain⟨e,n,ne,nf,d⟩:=I.pin p Z;exact⟨(A.2 p.1 ne).trans e,n,ne,nf,d⟩
 .have hfn:f.fn x=true:=by
   rcases hf with z|z
   .exact z
   .rw[z]at hk;cases hk
  obtain⟨c,hc⟩:=I.ok.has x (.inl hk);obtain⟨M,z⟩:=I.cell x c hc;refine wpAny_storeName_cell I.ok.kind hk hc z (λJ Xg A=>?_);obtain⟨oc,L,P⟩:=id z;refine h { g with heap:=J } ⟨I.ok,I.os,I.bare,⟨λb o e n H D=>?_,λb o e n H D=>?_,I.base.free,λb o e D=>?_,I.base.lT,I.base.gE,I.base.nE⟩,⟨m,U.sameBut A (Ne.symm (Yx x c hc)),λj y v' B F Y=>?_⟩,λy O e=>?_,I.free,I.ϔ,λp Z=>?_,C ⟨oc,L,I.ϔ x c hc⟩ A,by simpa using I.len⟩ ⟨c,A,.inr hc⟩
  .exact(A.2 b (aV (aU (aK e) (I.ok.XX x c hfn hc)))).trans (I.base.keep b o e n H D)
  .obtain⟨sl,B⟩:=I.base.slot b o e n H D;exact⟨sl,(A.2 b (aV (aU (aK e) (I.ok.XX x c hfn hc)))).trans B⟩
  .obtain⟨o',B⟩:=I.base.there b o e D;exact⟨o',(A.2 b (aV (aU (aK e) (I.ok.XX x c hfn hc)))).trans B⟩
  .by_cases hj:j=i
   .subst hj;rw[K]at B;cases B;rw[da Z3]at F;cases F;exact⟨l,r,.inr ⟨.inl hk,c,hc,Xg⟩⟩
   .rw[cA (Ne.symm hj)]at F;obtain⟨u',T,q⟩:=hl j y v' B F Y;refine⟨u',T,?_⟩;rcases q with q|⟨k,O,e,z'⟩
    .exact .inl q
    .refine .inr ⟨k,O,e,z'.sameBut A ?_⟩;rintro rfl;exact hj (Gx hN B (I.ok.inj _ _ _ e hc▸K))
  .by_cases hcc:O=c
   .subst hcc;exact⟨_,Xg⟩
   .obtain⟨w2,z2⟩:=I.cell y O e;exact⟨w2,z2.sameBut A hcc⟩
  .obtain⟨e,n,ne,nf,d⟩:=I.pin p Z;refine⟨(A.2 p.1 ?_).trans e,n,ne,nf,d⟩;intro q;rw[q,L]at e;have q':oc=p.2:=bF e;exact d M (by rw[<-q'];exact P)
def tW{Q:Unit->Shared->Prop}(I:Inv a c d i f)(t:a.N.Nodup)(p:a.N[g]?=some b)(o:Loc a.env.scope b)(r:RelV e j)(h:∀n,Inv a c (d.set g (some e)) i n->Q () n)(s:a.fn b=true\/a.env.scope.names.lookup b=some .local:=by first|exact .inl rfl|exact .inr rfl|assumption):wpAny m l (storeName a.env b j) Q k f:=Ew I t p o r (λn q _=>h n q) s
def Inv.V8{s':Shared}(I:Inv a d h i g)(l:s'.os=g.os)(u:Un (ϧ a.stack) ch i f g.heap s'.heap)(j:ϰ a.prog a.w f s'.heap)(n:AllBare s'.gens)(m:∀b∈ch,(b∈a.ex\/a.s₀.heap.objs.size<=b)/\b≠a.env.locals/\(∀x c,a.env.cells.lookup x=some c->c≠b)/\∀p∈a.pn++d,p.1≠b):Inv a d h f s':=by
 obtain⟨o,g',d',t',k⟩:=s';have e:k=g.os:=l;subst e;exact I.call (g':=g') (t':=t') (d':=d') u j n m
abbrev XK:=Value->Option Addr->Hp->Prop
abbrev St:=List (Option V)
abbrev VK:=V->Hp->Prop
abbrev TE:=St->Hp->VK->Prop
abbrev TT:=St->Hp->(Bool->Hp->Prop)->Prop
abbrev TA:=St->Hp->(List V->Hp->Prop)->Prop
structure Ends where
 nx:St->Hp->Prop
 rt:VK
 bk:St->Hp->Prop:=λ_ _=>False
 ct:St->Hp->Prop:=λ_ _=>False
abbrev TS:=Ends->St->Hp->Prop
def EP(X:Cx)(a:hP)(c:St)(Q:VK)(u:Value)(d:Shared):Prop:=∃v b,Inv X a c b d/\RelV v u/\Q v b
def TP(X:Cx)(a:hP)(d:St)(Q:Bool->Hp->Prop)(b:Bool)(e:Shared):Prop:=∃c,Inv X a d c e/\Q b c
def AP(X:Cx)(a:hP)(e:St)(Q:List V->Hp->Prop)(d:hT)(f:Shared):Prop:=∃c b,Inv X a e b f/\Vals c d/\Q c b
def SP(X:Cx)(b:hP)(D:Ends)(f:Flow)(d:Shared):Prop:=match f with
 | .next=>∃a c,Inv X b a c d/\D.nx a c
 | .brk=>∃a c,Inv X b a c d/\D.bk a c
 | .cont=>∃a c,Inv X b a c d/\D.ct a c
 | .ret u=>∃v a c,Inv X b a c d/\RelV v u/\D.rt v c
def PE(X:Cx)(e:Expr)(t:TE):Prop:=∀(a:hP)(s:Shared)(b:St)(H:Hp)(Q:VK),Inv X a b H s->t b H Q->wpAny (model X.prog X.w) X.A (eval e X.env) (EP X a b Q) X.xe s
def PT(X:Cx)(e:Expr)(t:TT):Prop:=∀(a:hP)(s:Shared)(b:St)(H:Hp)(Q:Bool->Hp->Prop),Inv X a b H s->t b H Q->wpAny (model X.prog X.w) X.A (isTrue e X.env (eval e X.env)) (TP X a b Q) X.xe s
def PW(X:Cx)(e:Expr)(t:TT):Prop:=∀(b:Sem Value)(a:hP)(s:Shared)(c:St)(H:Hp)(Q:Bool->Hp->Prop),Inv X a c H s->t c H Q->wpAny (model X.prog X.w) X.A (isTrue e X.env b) (TP X a c Q) X.xe s
def PW.pt(h:PW a b c):PT a b c:=h _
def PA(X:Cx)(d:List Expr)(t:TA):Prop:=∀(b:Pos)(a:hP)(s:Shared)(c:St)(H:Hp)(Q:List V->Hp->Prop),Inv X a c H s->t c H Q->wpAny (model X.prog X.w) X.A (spliced (backTo b (starEach d X.env))) (AP X a c Q) X.xe s
def PS(X:Cx)(st:Stmt)(t:TS):Prop:=∀(a:hP)(s:Shared)(b:St)(H:Hp)(D:Ends),Inv X a b H s->t D b H->wpAny (model X.prog X.w) X.A (exec st X.env) (SP X a D) X.xe s
def UR(X:Cx)(st:List Stmt)(t:TS):Prop:=∀(a:hP)(s:Shared)(b:St)(H:Hp)(D:Ends),Inv X a b H s->t D b H->wpAny (model X.prog X.w) X.A (execs st X.env) (SP X a D) X.xe s
def ϕ{b:Type}{t:Sem b}{Q c:b->Shared->Prop}{M:Model}{A:Around}{E:hL}{s:Shared}(h:wpAny M A t Q E s)(d:∀a s,Q a s->c a s):wpAny M A t c E s:=db h d λ_ _ x=>x
def eF(h:wpAny k i j (EP g b d f) e a)(l:∀u a v H,Inv g b d H a->RelV v u->f v H->c u a):wpAny k i j c e a:=ϕ h λu a ⟨v,H,I,r,q⟩=>l u a v H I r q
def sH(h:wpAny k i j (AP g b d f) e a)(l:∀u a v H,Inv g b d H a->Vals v u->f v H->c u a):wpAny k i j c e a:=ϕ h λu a ⟨v,H,I,r,q⟩=>l u a v H I r q
def Bc(h:wpAny f j k (TP i b d g) e a)(l:∀u a H,Inv i b d H a->g u H->c u a):wpAny f j k c e a:=ϕ h λu a ⟨H,I,q⟩=>l u a H I q
def yx(i:Nat):TE:=λa H Q=>∃v,a[i]?=some (some v)/\Q v H
def tC(v:V):TE:=λ_ H Q=>Q v H
def Ie{X:Cx}(k:X.N[b]?=some a)(o:Vis X.env.scope a)(i:(a==("__debug__":Str))=false:=by decide)(n:(a==("__classdict__":Str))=false:=by decide):PE X (.Name a d) (yx b):=by
 intro g s j H Q I h;obtain⟨v,e,h⟩:=h;obtain⟨m,p,q⟩:=I.loc;obtain⟨u,r,l⟩:=q b a v k e o;have f:EP X g j Q u s:=⟨v,H,I,r,h⟩;rcases l with⟨hk,hm⟩|⟨hk,c,hc,bV⟩
 .exact wpAny_Name (wpAny_loadName_local I.ok.kind hk p hm f) i
 .rcases hk with hk|hk
  .exact wpAny_Name (wpAny_loadName_cell I.ok.kind hk hc bV f) i
  .exact wpAny_Name (wpAny_loadName_free I.ok.kind hk hc bV f n) i
def aD{i j pos}:PE a (.Constant (.int i) j pos) (tC (.int i)):=λ_ _ _ H _ I h=>wpAny_Constant_int ⟨.int i,H,I.tok _,⟨_,rfl⟩,h⟩
def zh{b j pos}:PE a (.Constant (.bool b) j pos) (tC (.bl b)):=λ_ _ _ H _ I h=>Constant_bool ⟨.bl b,H,I,rfl,h⟩
def qC{j pos}:PE a (.Constant .none j pos) (tC .ξ):=λ_ _ _ H _ I h=>Constant_none ⟨.ξ,H,I,rfl,h⟩
def bH{x j pos}:PE a (.Constant (.str x) j pos) (tC (.str x)):=λ_ _ _ H _ I h=>Calls.Constant_str ⟨.str x,H,I.tok _,⟨_,rfl⟩,h⟩
def Gl(X:Cx)(x:Str):Prop:=X.env.kindOf x=some .globalImplicit
def tQ{Q:hL}(I:Inv X c f i b)(k:Gl X a)(j:X.mg a=some e)(h:Q e b)(l:(a==("__debug__":Str))=false:=by decide):wpAny (model X.prog X.w) X.A (eval (.Name a d) X.env) Q g b:=kP I.ok.kind k (Calls.loadGlobal_global (by rw[I.ok.glob];exact I.mod.glob.keeps I.bk) j h) l
def pR{Q:hL}(I:Inv a d g j c)(o:Gl a b)(n:a.mg b=none)(k:bootBuiltins b=some f)(h:Q f c)(q:b≠"__name__":=by decide)(m:(b==("__debug__":Str))=false:=by decide):wpAny (model a.prog a.w) a.A (eval (.Name b e) a.env) Q i c:=by
 obtain⟨r,l,p⟩:=I.mod.blt;exact kP I.ok.kind o (Calls.loadGlobal_builtin (by rw[I.ok.glob];exact I.mod.glob.keeps I.bk) n (by rw[I.ok.blt];exact l.keeps I.bk) ((p b q).trans k) h) m
def Em(g:Gl b a)(f:b.mg a=some e)(r:RelV c e)(i:(a==("__debug__":Str))=false:=by decide):PE b (.Name a d) (tC c):=λ_ _ _ H _ I h=>tQ I g f ⟨c,H,I,r,h⟩ i
def Qi(g:Gl b a)(e:b.mg a=none)(f:bootBuiltins a=some d)(r:RelV v d)(hn:a≠"__name__":=by decide)(hd:(a==("__debug__":Str))=false:=by decide):PE b (.Name a c) (tC v):=λ_ _ _ H _ I h=>pR I g e f ⟨v,H,I,r,h⟩ hn hd
def PC(X:Cx)(g:CmpOp)(a b:Expr)(t:TE):Prop:=∀(c:hP)(s:Shared)(f:St)(H:Hp)(Q:VK),Inv X c f H s->t f H Q->wpAny (model X.prog X.w) X.A (eval a X.env) (λv d=>wpAny (model X.prog X.w) X.A (eval b X.env) (λu e=>wpAny (model X.prog X.w) X.A (compareOp g v u) (EP X c f Q) X.xe e) X.xe d) X.xe s
def PZ(b:Expr)(h:a≠.In)(e:a≠.NotIn):behindInMarks a b=false:=by
 have c:(a==CmpOp.In)=false:=by cases a<;>first|rfl|exact absurd rfl h
 have d:(a==CmpOp.NotIn)=false:=by cases a<;>first|rfl|exact absurd rfl e
 cases b<;>simp[behindInMarks,c,d]
def P4(b:TE):TE:=λc H Q=>b c H λx a=>Q (.bl (decide (x=.ξ))) a
def KD(b:TE):TE:=λc H Q=>b c H λx a=>Q (.bl (!decide (x=.ξ))) a
def RelV.Uy(r:RelV a b):(b==Value.none)=decide (a=.ξ):=by
 cases a with
 | ξ=>cases r;rfl
 | bl _=>cases r;rfl
 | int _=>obtain⟨t,rfl⟩:=r;rfl
 | str _=>obtain⟨t,rfl⟩:=r;rfl
 | UZ _=>obtain⟨t,rfl⟩:=r;rfl
 | XT _=>obtain⟨t,rfl⟩:=r;rfl
 | ref _=>cases r;rfl
 | ty _=>cases r;rfl
def MJ{X:Cx}{a:Expr}{c:TE}{j pos'}(ha:PE X a c):PC X .Is a (.Constant .none j pos') (P4 c):=by
 intro b s f H Q I h;refine eF (ha b s f H _ I h) λv k x d g e i=>?_;exact Constant_none (is_none_gen ⟨.bl _,d,g,by rw[e.Uy];rfl,i⟩)
def QP{X:Cx}{a:Expr}{c:TE}{j pos'}(ha:PE X a c):PC X .IsNot a (.Constant .none j pos') (KD c):=by
 intro b s f H Q I h;refine eF (ha b s f H _ I h) λv k x d g e i=>?_;exact Constant_none (isnot_none_gen ⟨.bl _,d,g,by rw[e.Uy];rfl,i⟩)
def tB(t:TE):TT:=λb H Q=>t b H λx a=>∃c,x=.bl c/\Q c a
def Dn{X:Cx}{a:Expr}{b:Expr}{g:Pos}{i:CmpOp}{t:TE}(h:PC X i a b t)(f:behindInMarks i b=false:=by first|exact PZ _ (by decide) (by decide)|rfl):PT X (.Compare a [i] [b] g) (tB t):=by
 intro e s j H Q I m;refine wpAny_isTrue_Compare1 (ϕ (h e s j H _ I m) λv r f=>ϕ f λu y o=>ϕ o λc w ⟨x,l,k,n,p⟩=>?_) f;obtain⟨d,rfl,q⟩:=p;cases n;exact dB ⟨l,k,q⟩
def lL{X:Cx}{e:Expr}{t:TE}(h:PE X e t)(j:∀a,isTrue e X.env a=(do let v <-a;standAt e.pos;holding [v] (truthy v)):=by intro _;rfl):PT X e (tB t):=by
 intro b s c H Q I i;refine isTrue_plain (eF (h b s c H _ I i) λv m x g f k l=>?_) (j _);obtain⟨d,rfl,q⟩:=l;cases k;exact dB ⟨g,f,q⟩
def PR(t u:TT):TT:=λb H Q=>t b H λc a=>if c=true then u b a Q else Q false a
def tOr(t u:TT):TT:=λb H Q=>t b H λc a=>if c=true then Q true a else u b a Q
def O7(t:TT):TT:=λb H Q=>t b H λc a=>Q (!c) a
def rB{X:Cx}{a:Expr}{d:Pos}{f:TT}(i:PT X a f):PW X (.BoolOp .And [a] d) f:=by
 intro k b s g H Q I h;refine isTrue_and (ϕ (i b s g H Q I h) λc j e=>?_);cases c with
 | true=>exact isTrue_and_nil e
 | false=>exact e
def CQ{X:Cx}{a:Expr}{d:Pos}{f:TT}(i:PT X a f):PW X (.BoolOp .Or [a] d) f:=by
 intro k b s g H Q I h;refine isTrue_or (ϕ (i b s g H Q I h) λc j e=>?_);cases c with
 | false=>exact isTrue_or_nil e
 | true=>exact e
def tU{X:Cx}{a:Expr}{b:Expr}{e:Pos}{j:TT}{k:TT}{rest:List Expr}(p:PT X a j)(m:PW X (.BoolOp .And (b::rest) e) k):PW X (.BoolOp .And (a::b::rest) e) (PR j k):=by
 intro o d s f H Q I h;refine isTrue_and (Bc (p d s f H _ I h) λc n i g l=>?_);cases c with
 | true=>exact m o d n f i Q g l
 | false=>exact⟨i,g,l⟩
def zy{X:Cx}{a:Expr}{b:Expr}{e:Pos}{j:TT}{k:TT}{rest:List Expr}(p:PT X a j)(m:PW X (.BoolOp .Or (b::rest) e) k):PW X (.BoolOp .Or (a::b::rest) e) (tOr j k):=by
 intro o d s f H Q I h;refine isTrue_or (Bc (p d s f H _ I h) λc n i g l=>?_);cases c with
 | true=>exact⟨i,g,l⟩
 | false=>exact m o d n f i Q g l
def nM(j:PT e b a):PT e (.UnaryOp .Not b d) (O7 a):=by
 intro f s i H Q I h;exact isTrue_not (j f s i H (λc g=>Q (!c) g) I h)
def KN(d e:TE):TE:=λb H Q=>d b H λx a=>∃c,x=.bl c/\if c=true then e b a Q else Q (.bl false) a
def Py(d e:TE):TE:=λb H Q=>d b H λx a=>∃c,x=.bl c/\if c=true then Q (.bl true) a else e b a Q
def wB{op}(h:PE c a d):PE c (.BoolOp op [a] b) d:=λe s f H Q I g=>BoolOp_one (h e s f H Q I g)
def vR{X:Cx}{a:Expr}{b:Expr}{j:TE}{l:TE}{e:Pos}{rest:List Expr}(p:PE X a j)(m:PE X (.BoolOp .And (b::rest) e) l):PE X (.BoolOp .And (a::b::rest) e) (KN j l):=by
 intro d s g H Q I h;refine BoolOp_and (eF (p d s g H _ I h) λv n x k i o f=>?_);obtain⟨c,rfl,f⟩:=f;cases o;refine dB ?_;cases c with
 | true=>exact m d n g k Q i f
 | false=>exact⟨.bl false,k,i,rfl,f⟩
def Sy{X:Cx}{a:Expr}{b:Expr}{j:TE}{l:TE}{e:Pos}{rest:List Expr}(p:PE X a j)(m:PE X (.BoolOp .Or (b::rest) e) l):PE X (.BoolOp .Or (a::b::rest) e) (Py j l):=by
 intro d s g H Q I h;refine BoolOp_or (eF (p d s g H _ I h) λv n x k i o f=>?_);obtain⟨c,rfl,f⟩:=f;cases o;refine dB ?_;cases c with
 | false=>exact m d n g k Q i f
 | true=>exact⟨.bl true,k,i,rfl,f⟩
def tIf(t:TT)(d e:TE):TE:=λa H Q=>t a H λc b=>if c=true then d a b Q else e a b Q
def Hu{X:Cx}{a:Expr}{b:Expr}{k:TE}{m:TE}{g:Pos}{n:TT}{c:Expr}(q:PT X c n)(r:PE X a k)(p:PE X b m):PE X (.IfExp c a b g) (tIf n k m):=by
 intro e s f H Q I h;refine wpAny_IfExp (Bc (q e s f H _ I h) λd j l i o=>?_);cases d with
 | true=>exact r e j f l Q i o
 | false=>exact p e j f l Q i o
def ι(K:hO)(H:Hp)(a:Addr)(xs:List V):Prop:=Rd H a (.lst xs)\/∃(o:Obj)(b:Array Value)(n:Nat),K.lookup a=some o/\o.cls=.type "list"/\o.dict=none/\o.data=.seq b n/\b.size<=sizeLine/\Vals xs b.toList
def Α(K:hO)(H:Hp)(a:Addr)(xs:List V):Prop:=Rd H a (.tup xs)\/∃(o:Obj)(b:Array Value)(n:Nat),K.lookup a=some o/\o.cls=.type "tuple"/\o.data=.seq b n/\b.size<=sizeLine/\Vals xs b.toList
def SL:Value->Option V
 | .none=>some .ξ
 | .bool b=>some (.bl b)
 | .int i _=>some (.int i)
 | .str x _=>some (.str x)
 | .bytes b _=>some (.UZ b)
 | .float b _=>some (.XT b)
 | .ref a=>some (.ref a)
 | .type n=>some (.ty n)
 | _=>none
def RelV.abs(r:RelV a b):SL b=some a:=by
 cases a with
 | ξ=>cases r;rfl
 | bl _=>cases r;rfl
 | int _=>obtain⟨t,rfl⟩:=r;rfl
 | str _=>obtain⟨t,rfl⟩:=r;rfl
 | UZ _=>obtain⟨t,rfl⟩:=r;rfl
 | XT _=>obtain⟨t,rfl⟩:=r;rfl
 | ref _=>cases r;rfl
 | ty _=>cases r;rfl
def RelV.inj(r:RelV a c)(q:RelV b c):a=b:=bF (r.abs.symm.trans q.abs)
def Vals.inj(h:Vals b c)(d:Vals a c):b=a:=by
 induction h generalizing a with
 | nil=>cases d;rfl
 | cons r _ ih=>cases d with|cons r2 t2=>rw[r.inj r2,ih t2]
def ι.of{H:Hp}{a:Addr}{xs:List V}{K:hO}(h:H a=some (.lst xs)):ι K H a xs:=.inl (.inl h)
def Α.of{H:Hp}{a:Addr}{xs:List V}{K:hO}(h:H a=some (.tup xs)):Α K H a xs:=.inl (.inl h)
def Inv.list(I:Inv d c i g f)(h:ι d.K g b a):∃its:List Value,Vals a its/\PlainL f.heap b its.toArray/\a.length<=sizeLine:=by
 rcases h with h|⟨o,its,n,l,k,j,m,p,r⟩
 .obtain⟨z,its,n,r,e⟩:=h.ok I.Β;exact⟨its,r,⟨_,n,e,rfl,rfl,rfl⟩,z⟩
 .refine⟨its.toList,r,⟨o,n,I.oK b o l,k,j,by simpa using m⟩,?_⟩;have e:=r.length;simp only[oY]at e
  lia
def Inv.tuple(I:Inv d c i f g)(h:Α d.K f b a):∃j:List Value,Vals a j/\IsTup g.heap b j.toArray/\a.length<=sizeLine:=by
 rcases h with h|⟨o,j,n,l,k,m,q,r⟩
 .obtain⟨z,j,r,p⟩:=h.ok I.Β;exact⟨j,r,p,z⟩
 .refine⟨j.toList,r,⟨o,I.oK b o l,k,n,by simpa using m⟩,?_⟩;have e:=r.length;simp only[oY]at e
  lia
def Inv.ϱ(I:Inv a g j f k)(h:ι a.K f i c)(s:ι a.K f i b):c=b:=by
 obtain⟨m,r,⟨o,n,e,_,_,d⟩,_⟩:=I.list h;obtain⟨l,t,⟨u,v,p,_,_,q⟩,_⟩:=I.list s;rw[e]at p;cases p;rw[d]at q;injection q with d1 _
 have:m=l:=by simpa using congrArg Array.toList d1
 subst this;exact r.inj t
def Inv.TN(I:Inv a g j f k)(h:Α a.K f i c)(s:Α a.K f i b):c=b:=by
 obtain⟨m,r,⟨o,e,_,n,d⟩,_⟩:=I.tuple h;obtain⟨l,t,⟨u,p,_,v,q⟩,_⟩:=I.tuple s;rw[e]at p;cases p;rw[d]at q;injection q with d1 _
 have:m=l:=by simpa using congrArg Array.toList d1
 subst this;exact r.inj t
abbrev Cx.wish(X:Cx)(E:hL):Cx:={ X with xe:=E }
abbrev Cx.Xh(X:Cx):Cx:=X.wish λ_ _=>False
def Cx.Ok.wish{X:Cx}(a:X.Ok)(E:hL):(X.wish E).Ok:=⟨a.mod,a.kind,a.glob,a.blt,a.above,a.inj,a.has,a.XX,a.hd,a.frames,a.Yw,a.Z0,a.bs,a.V7,a.Uv,a.T7,a.gT,a.WN⟩
def Cx.Ok.Ϝ{X:Cx}(b:(X.wish a).Ok):X.Ok:=⟨b.mod,b.kind,b.glob,b.blt,b.above,b.inj,b.has,b.XX,b.hd,b.frames,b.Yw,b.Z0,b.bs,b.V7,b.Uv,b.T7,b.gT,b.WN⟩
def Inv.wish(I:Inv e a b c d)(E:hL):Inv (e.wish E) a b c d:=⟨I.ok.wish E,I.os,I.bare,I.base,I.loc,I.cell,I.free,I.ϔ,I.pin,I.Β,I.len⟩
def Inv.Ϝ{X:Cx}(I:Inv (X.wish e) a b d c):Inv X a b d c:=⟨I.ok.Ϝ,I.os,I.bare,I.base,I.loc,I.cell,I.free,I.ϔ,I.pin,I.Β,I.len⟩
def SP.Ϝ{X:Cx}(h:SP (X.wish e) a d b c):SP X a d b c:=by
 cases b with
 | next=>obtain⟨f,g,I,q⟩:=h;exact⟨f,g,I.Ϝ,q⟩
 | brk=>obtain⟨f,g,I,q⟩:=h;exact⟨f,g,I.Ϝ,q⟩
 | cont=>obtain⟨f,g,I,q⟩:=h;exact⟨f,g,I.Ϝ,q⟩
 | ret u=>obtain⟨v,f,g,I,r,q⟩:=h;exact⟨v,f,g,I.Ϝ,r,q⟩
def UR.Xh{X:Cx}{st:List Stmt}(h:UR X.Xh st a):UR X st a:=λb s c H D I d=>
 db (h b s c H D (I.wish _) d) (λ_ _ q=>q.Ϝ) λ_ _ z=>False.elim z
def V9:TS:=λD a H=>D.nx a H
def Km(t u:TS):TS:=λD a H=>t { D with nx:=u D } a H
def bE:UR a [] V9:=λ_ _ b H _ I h=>gV ⟨b,H,I,h⟩
def aw{X:Cx}{st:Stmt}{rest:List Stmt}{t:TS}{u:TS}(e:PS X st t)(j:UR X rest u):UR X (st::rest) (Km t u):=by
 intro a s c H D I h;refine lD (ϕ (e a s c H { D with nx:=u D } I h) λf d q=>?_);cases f with
 | next=>
   obtain⟨b,i,g,q⟩:=q;exact j a d b i D g q
 | ret v=>exact q
 | brk=>exact q
 | cont=>exact q
def ay{X:Cx}{st:Stmt}{t:TS}(c:PS X st t):UR X [st] t:=by
 intro a s b H D I h;refine lD (ϕ (c a s b H D I h) λf d q=>?_);cases f with
 | next=>exact gV q
 | ret v=>exact q
 | brk=>exact q
 | cont=>exact q
def Inv.quiet(I:Inv b a c e d):interactive b.env=false:=by simp[interactive,I.ok.kind]
def Lx(c:TE):TS:=λD a H=>c a H λ_ b=>D.nx a b
def cI{X:Cx}{e:Expr}{d:TE}{a:Pos}(i:PE X e d)(j:swapsWith e none a.line X.env=pure false:=by rfl):PS X (.Expr e a) (Lx d):=by
 intro b s c H D I h;exact wpAny_Expr_any (eF (i b s c H _ I h) λv l x g f m k=>⟨c,g,f,k⟩) I.quiet j
def NG(a:TE):TS:=λD b H=>a b H D.rt
def aY{X:Cx}{e:Expr}{d:TE}{b:Pos}(i:PE X e d):PS X (.Return (some e) b) (NG d):=by
 intro a s c H D I h;exact wpAny_Return_some (eF (i a s c H _ I h) λv l x g f j k=>⟨x,c,g,f,j,k⟩)
def Ij(c:TT)(t u:TS):TS:=λD a H=>c a H λb d=>if b=true then t D a d else u D a d
def bU{X:Cx}{t:TS}{u:TS}{g:Pos}{c:Expr}{a b:List Stmt}{l:TT}(o:PT X c l)(p:UR X a t)(n:UR X b u):PS X (.If c a b g) (Ij l t u):=by
 intro e s f H D I h;refine wpAny_If (Bc (o e s f H _ I h) λd j k i m=>?_);cases d with
 | true=>exact p e j f k D i m
 | false=>exact n e j f k D i m
def Wa:TS:=λ_ _ _=>False
def kW{X:Cx}{st:Stmt} :PS X st Wa:=λ_ _ _ _ _ _ h=>h.elim
abbrev TG:=V->St->Hp->(St->Hp->Prop)->Prop
abbrev Yy:=List V->St->Hp->(St->Hp->Prop)->Prop
def PG(X:Cx)(a:Expr)(t:TG):Prop:=∀(b:hP)(s:Shared)(e:St)(H:Hp)(v:V)(u:Value)(Q:St->Hp->Prop),Inv X b e H s->RelV v u->t v e H Q->wpAny (model X.prog X.w) X.A (assign a X.env u) (λ_ f=>∃c d,Inv X b c d f/\Q c d) X.xe s
def Zz(X:Cx)(h:List Expr)(t:Yy):Prop:=∀(a:hP)(s:Shared)(e:St)(H:Hp)(f:List V)(c:hT)(Q:St->Hp->Prop),Inv X a e H s->Vals f c->t f e H Q->wpAny (model X.prog X.w) X.A (assignInOrder ((assignEach h X.env).map (·.2)) c) (λ_ g=>∃b d,Inv X a b d g/\Q b d) X.xe s
abbrev Lq:=V->V->V->Hp->(Hp->Prop)->Prop
def NR(X:Cx)(t:Lq):Prop:=∀(a:hP)(s:Shared)(d:St)(H:Hp)(o i v:V)(b e u:Value)(Q:Hp->Prop),Inv X a d H s->RelV o b->RelV i e->RelV v u->t o i v H Q->wpAny (model X.prog X.w) X.A (setItem b e u) (λ_ f=>∃c,Inv X a d c f/\Q c) X.xe s
abbrev TIp:=V->V->Hp->VK->Prop
def PIp(X:Cx)(c:Operator)(t:TIp):Prop:=∀(a:hP)(s:Shared)(b:St)(H:Hp)(x y:V)(v u:Value)(Q:VK),Inv X a b H s->RelV x v->RelV y u->t x y H Q->wpAny (model X.prog X.w) X.A (inplaceOp c v u) (EP X a b Q) X.xe s
def wJ(i:Nat):TG:=λv a H Q=>Q (a.set i (some v)) H
def d6{X:Cx}(j:X.N.Nodup)(e:X.N[i]?=some a)(d:Loc X.env.scope a)(g:X.fn a=true\/X.env.scope.names.lookup a=some .local:=by first|exact .inl rfl|exact .inr rfl|assumption):PG X (.Name a b) (wJ i):=by
 intro c s k H v u Q I r h;exact wpAny_assign_Name (tW I j e d r (λl f=>⟨_,H,f,h⟩) g)
def Yz:Yy:=λa b H Q=>a=[]/\Q b H
def Kl(t:TG)(u:Yy):Yy:=λd c H Q=>∃v r,d=v::r/\t v c H λa b=>u r a b Q
def fI:Zz a [] Yz:=by
 intro b s c H f d Q I r h;obtain⟨e,h⟩:=h;subst e;cases r;exact assignInOrder_nil ⟨c,H,I,h⟩
def bQ{X:Cx}{e:Expr}{b:List Expr}{t:TG}{u:Yy}(i:PG X e t)(m:Zz X b u)(l:(assignEach (e::b) X.env).map (·.2)=assign e X.env::(assignEach b X.env).map (·.2):=by rfl):Zz X (e::b) (Kl t u):=by
 intro a s d H p q Q I r h;obtain⟨v,o,j,h⟩:=h;subst j;cases r with
 | cons r rr=>
   rw[l];refine assignInOrder_cons (ϕ (i a s d H _ _ _ I r h) λ_ g ⟨c,k,f,n⟩=>?_);exact m a g c k _ _ Q f rr n
def Kq(K:hO)(n:Nat)(t:Yy):TG:=λv c H Q=>∃a b,v=.ref a/\Α K H a b/\b.length=n/\t b c H Q
def iH{X:Cx}{n:Nat}(A:X.calm=true)(h:Zz X c f)(hn:(assignEach c X.env).length=n:=by rfl)(x:(assignEach c X.env).findIdx? (·.1)=none:=by rfl):PG X (.Tuple c g d) (Kq X.K n f):=by
 intro i s l H v u Q I r j;obtain⟨a,y,w,z,C,j⟩:=j;subst w;cases r;obtain⟨B,k,p,D⟩:=I.tuple z;refine assign_Tuple_tuple (I.ok.hd A) p (by simp[hn,<-C,k.length]) x λt m=>?_;have q:Inv X i l H { s with heap:=t }:=I.kept (t':=s.toks) λb o e=>m b o (aV (aK e)) e;exact h i _ l H y _ Q q (by simpa using k) j
def NX(f e:TE)(t:Lq):TG:=λv a H Q=>f a H λo c=>e a c λi d=>t o i v d λb=>Q a b
def nD{X:Cx}{b:Pos}{o i:Expr}{f g:TE}{t:Lq}(p:PE X o f)(l:PE X i g)(E:NR X t)(F:∀v,assign (.Subscript o i b) X.env v=(do
 let c <-holding [v] (eval o X.env)
 let d <-holding [v,c] (eval i X.env)
 standAt b
 holding [v,c,d] (setItem c d v)
 release [v,c,d] []):=by intro _;rfl):PG X (.Subscript o i b) (NX f g t):=by
 intro a s e H v u Q I r h;rw[F];refine ao (ko (eF (p a s e H _ I h) λc n x q m D J=>?_));refine ao (ko (eF (l a n e q _ m J) λd z y w G C k=>?_));refine ao (jd (ao (ko (ϕ (E a z e w x y v c d u _ G D C r k) λ_ K ⟨j,B,A⟩=>?_))));exact wpAny_release ⟨e,j,B,A⟩
def DW(c:TE)(g:TG):TS:=λD a H=>c a H λx b=>g x a b D.nx
def jv{g:Pos}(o:PE b c d)(t:PG b a e)(r:swapsWithSole [a] c g.line b.env=pure false:=by rfl)(n:swappedStores [a] c b.env=pure none:=by rfl)(l:(assignEach [a] b.env).map (·.2)=[assign a b.env]:=by rfl):PS b (.Assign [a] c g) (DW d e):=by
 intro f s i H D I h;refine wpAny_Assign_stores (eF (o f s i H _ I h) λv k x m j p u=>?_) r n;rw[l];exact ϕ (t f k i m x v _ j p u) λ_ w q=>q
def sx{X:Cx}{d:Pos}{i:Nat}{x:Str}(m:X.N.Nodup)(j:X.N[i]?=some x)(f:Loc X.env.scope x)(o:PE X c b)(q:swapsWith c (some (.Name x a)) d.line X.env=pure false:=by rfl)(l:X.fn x=true\/X.env.scope.names.lookup x=some .local:=by first|exact .inl rfl|exact .inr rfl|assumption):PS X (.Assign [.Name x a] c d) (DW b (wJ i)):=by
 intro e s g H D I h;refine wpAny_Assign_Name (eF (o e s g H _ I h) λv u y n k p t=>?_) q;exact tW k m j f p (λw r=>⟨_,n,r,t⟩) l
def Pr(i:Nat)(d:TE)(e:TIp):TS:=λD a H=>∃x,a[i]?=some (some x)/\d a H λy b=>e x y b λz c=>D.nx (a.set i (some z)) c
def MO{X:Cx}{i:Nat}{x:Str}(O:X.N.Nodup)(C:X.N[i]?=some x)(p:Loc X.env.scope x)(R:PE X e b)(K:PIp X a d)(L:X.fn x=true\/X.env.scope.names.lookup x=some .local:=by first|exact .inl rfl|exact .inr rfl|assumption):PS X (.AugAssign (.Name x f) a e g) (Pr i b d):=by
 intro j s B H D I h;obtain⟨v,M,h⟩:=h;obtain⟨m,V,F⟩:=I.loc;have q:Vis X.env.scope x:=by rcases p with k|k;exact .inl k;exact .inr (.inl k)
 obtain⟨u,r,l⟩:=F i x v C M q;refine wpAny_AugAssign_Name ?_;have t:wpAny (model X.prog X.w) X.A (eval e X.env) (λw o=>wpAny (model X.prog X.w) X.A (inplaceOp a u w) (λr n=>wpAny (model X.prog X.w) X.A (storeName X.env x r) (λ_=>SP X j D .next) X.xe n) X.xe o) X.xe s:=by
  refine ϕ (R j s B H _ I h) λw J ⟨y,P,G,U,Y⟩=>?_;refine ϕ (K j J B P v y u w _ G r U Y) λz s2 ⟨zv,Q,W,T,E⟩=>?_;exact tW W O C p T (λZ S=>⟨_,Q,S,E⟩) L
 rcases l with⟨hk,hm⟩|⟨hk,c,hc,bV⟩
 .exact wpAny_loadName_local I.ok.kind hk V hm t
 .rcases hk with hk|hk
  .exact wpAny_loadName_cell I.ok.kind hk hc bV t
  .rcases p with k|k
   .have:X.env.scope.names.lookup x=some .free:=hk;rw[k]at this;cases this
   .have:X.env.scope.names.lookup x=some .free:=hk;rw[k]at this;cases this
def Lc(f l n:TE)(e:V->V->Hp->VK->Prop)(c:TIp)(b:Lq):TS:=λD a H=>f a H λo g=>l a g λi h=>e o i h λx d=>n a d λy k=>c x y k λz j=>b o i z j λm=>D.nx a m
def Ro(X:Cx)(t:V->V->Hp->VK->Prop):Prop:=∀(a:hP)(s:Shared)(c:St)(H:Hp)(o i:V)(b d:Value)(Q:VK),Inv X a c H s->RelV o b->RelV i d->t o i H Q->wpAny (model X.prog X.w) X.A (getItem b d) (EP X a c Q) X.xe s
def rf{u:V->V->Hp->VK->Prop}(L:PE a l g)(E:PE a f i)(hg:Ro a u)(he:PE a m e)(hp:PIp a d c)(hs:NR a b)(ha:∀r q o,augStore f r q o=(do holding [o,r,q] (setItem r q o);release [o,r,q] [];pure .next):=by intros;rfl):PS a (.AugAssign (.Subscript l f j) d m k) (Lc g i e u c b):=by
 intro n s p H D I h;refine wpAny_AugAssign_SubscriptAny (eF (L n s p H _ I h) λr K w Q J z q1=>?_) ha;refine eF (E n K p Q _ J q1) λq S x R I2 y B=>?_;refine ϕ (hg n S p R w x r q _ I2 z y B) λt P ⟨G,A,I3,O,T⟩=>?_;refine eF (he n P p A _ I3 T) λv F x4 Z I4 Y U=>?_;refine ϕ (hp n F p Z G x4 t v _ I4 O Y U) λo s5 ⟨x5,W,N,r5,C⟩=>?_;exact ϕ (hs n s5 p W w x x5 r q o _ N z y r5 C) λ_ s6 ⟨H6,X,M⟩=>⟨p,H6,X,M⟩
def ipI(f:iv):TIp:=λx y H Q=>∃i j,x=.int i/\y=.int j/\Q (.int (f i j)) H
def sB:PIp a .Add (ipI λi j=>i+j):=by
 intro b s g H x y v u Q I f e h;obtain⟨i,j,c,d,q⟩:=h;subst c;subst d;obtain⟨t,rfl⟩:=f;obtain⟨k,rfl⟩:=e;exact iadd_int ⟨.int _,H,I.tok _,⟨_,rfl⟩,q⟩
def RE:PIp a .Sub (ipI λi j=>i-j):=by
 intro b s g H x y v u Q I f e h;obtain⟨i,j,c,d,q⟩:=h;subst c;subst d;obtain⟨t,rfl⟩:=f;obtain⟨k,rfl⟩:=e;exact isub_int ⟨.int _,H,I.tok _,⟨_,rfl⟩,q⟩
def GQ(c:TT)(h:TS):TS:=λD a H=>∃W:Nat->St->Hp->Prop,(∃m,W m a H)/\∀m a H,W m a H->c a H λb e=>if b=true then ∃N:St->Hp->Prop,(∀d f,N d f->∃g,g<m/\W g d f)/\h { D with nx:=N,ct:=N,bk:=D.nx } a e else D.nx a e
def t9{X:Cx}{k:List Stmt}(E:PassesOwn (model X.prog X.w) X.A X.env X.xe)(S:PT X e c)(O:UR X k a):PS X (.While e k [] d) (GQ c a):=by
 intro i s J H D I h;obtain⟨W,⟨Q,T⟩,m⟩:=h;refine wpAny_While (codeAny_whileLoop (λn M=>∃o F,Inv X i o F M/\W n o F) ?_ Q ⟨J,H,I,T⟩);rintro n P ⟨j,B,L,K⟩;refine fX E (Bc (S i P j B _ L (m n j B K)) λb R C G p=>?_);cases b with
 | true=>
   obtain⟨N,z,p⟩:=p;rw[aj rfl];refine fX E (ϕ (O i R j C _ G p) λf U q=>?_);cases f with
   | next=>
     obtain⟨g,l,x,r⟩:=q;obtain⟨u,t,y⟩:=z g l r;exact⟨u,t,g,l,x,y⟩
   | cont=>
     obtain⟨g,l,x,r⟩:=q;obtain⟨u,t,y⟩:=z g l r;exact⟨u,t,g,l,x,y⟩
   | brk=>exact q
   | ret v=>exact q
 | false=>
   rw[ah bj];exact gV ⟨j,C,G,p⟩
structure It where
 go:Nat->Hp->Prop
 XZ:Nat->Hp->V->Hp->Prop
 stop:Nat->Hp->Prop
def p6(X:Cx)(a:hP)(H:Hp)(b:Addr):Prop:=H b=none/\b≠X.env.locals/\b∉X.fs/\(b∈X.ex\/X.s₀.heap.objs.size<=b)/\(∀x c,X.env.cells.lookup x=some c->c≠b)/\∀p∈X.pn++a,p.1≠b
def Inv.U1{j:Hp}(I:Inv f a g h d)(i:d.heap.objs.size<=b)(k:j b=none):p6 f a j b:=by
 refine⟨k,eC (aU I.lt i),I.aeH i,.inr (aW I.sz i),λx c e z=>?_,λp l z=>?_⟩
 .obtain⟨v,q⟩:=I.cell x c e;exact absurd (aU q.lt (by rw[z];exact i)) (cV _)
 .exact absurd (aU (aK (I.pin p l).1) (by rw[z];exact i)) (cV _)
structure Turn(P:Program)(w:World)(K:hO)(tg:Expr)(J:It)(fp:hR)(it:Addr)(tn:Nat->Heap->Prop):Prop where
 mem:it∈fp
 obj:∀i h,tn i h->∀b∈fp,∃o,h.get? b=some o/\∀v,o.data≠.cell v
 keep:∀i h h',tn i h->(∀b∈fp,∀o,h.get? b=some o->h'.get? b=some o)->tn i h'
 item:∀(X:Cx),X.prog=P->X.w=w->X.K=K->X.calm=true->∀(i:Nat)(pins:hP)(s:Shared)(σ:St)(H:Hp)(E:hL),Inv X pins σ H s->(∀b∈fp,p6 X pins H b)->tn i s.heap->J.go i H->wpAny (model P w) X.A (pyNext (.ref it)) (λr s1=>∃u,r=some u/\wpAny (model P w) X.A (letOwnedTupleGo tg (.ref it) u) (λ_ s2=>∃x H',Inv X pins σ H' s2/\RelV x u/\J.XZ i H x H'/\tn (i+1) s2.heap/\∀b∈fp,H' b=none) E s1) E s
 done:∀(X:Cx),X.prog=P->X.w=w->X.K=K->X.calm=true->∀(i:Nat)(pins:hP)(s:Shared)(σ:St)(H:Hp)(E:hL),Inv X pins σ H s->(∀b∈fp,p6 X pins H b)->tn i s.heap->J.stop i H->wpAny (model P w) X.A (pyNext (.ref it)) (λr s1=>r=none/\Inv X pins σ H s1) E s
 self:∀(A:Around)(i:Nat)(s:Shared)(Q:hL)(E:hL),tn i s.heap->Q (.ref it) s->wpAny (model P w) A (pyIter (.ref it)) Q E s
abbrev TI:=St->Hp->(It->Hp->Prop)->Prop
def PIE(X:Cx)(a:hP)(j:St)(i:Expr)(R:It->Hp->Prop)(c:Value)(f:Shared):Prop:=∃(g:Addr)(h:hR)(e:Nat->Heap->Prop)(J:It)(d:Hp),c=.ref g/\Inv X a j d f/\Turn X.prog X.w X.K i J h g e/\e 0 f.heap/\(∀b∈h,p6 X a d b)/\R J d
def PI(X:Cx)(d b:Expr)(f:TI):Prop:=∀(a:hP)(s:Shared)(c:St)(H:Hp)(R:It->Hp->Prop),Inv X a c H s->f c H R->wpAny (model X.prog X.w) X.A (eval b X.env) (λv e=>wpAny (model X.prog X.w) X.A (pyIter v) (PIE X a c d R) X.xe e) X.xe s
def Dg{s:Shared}{Q:Unit->Shared->Prop}(m:s.heap.get? d=some c)(k:c.cls=.type n)(o:c.data=.fields a)(l:["enumerate","zip","dict_itemiterator","dict_reverseitemiterator","odict_iterator","itertools.zip_longest","itertools.pairwise"].contains n=false)(j:Q () s):wpAny f g (letOwnedTupleGo b (.ref d) i) Q e s:=by
 unfold letOwnedTupleGo;cases b<;>first
  | exact bh j
  | (cases i<;>first
   | exact bh j
   | (refine ao (wpAny_load m ?_)
      rw[k,o];show wpAny f g (if(["enumerate","zip","dict_itemiterator","dict_reverseitemiterator","odict_iterator","itertools.zip_longest","itertools.pairwise"].contains n&&a[0]?==some (rawInt _))=true then _ else _) Q e s;rw[ah (by intro h;rw[l,gh]at h;cases h)];exact bh j))
def X0(K:hO)(a:Addr):It:=⟨λi H=>∃b x,ι K H a b/\b[i]?=some x,λi H x c=>c=H/\∀b,ι K H a b->b[i]?=some x,λi H=>∃b,ι K H a b/\b.length<=i⟩
def YB(K:hO)(a:Addr):It:=⟨λi H=>∃b x,Α K H a b/\b[i]?=some x,λi H x c=>c=H/\∀b,Α K H a b->b[i]?=some x,λi H=>∃b,Α K H a b/\b.length<=i⟩
def WO(lo:Int)(n:Nat):It:=⟨λi _=>i<n,λi H x a=>a=H/\x=.int (lo+i),λi _=>n<=i⟩
def MH{P:Program}{w:World}{K:hO}{U:Expr}(a g:Addr):Turn P w K U (X0 K a) [g] g (λi h=>h.IsListIter g a i) where
 mem:=by simp
 obj:=λi h st b hb=>by
  have e:b=g:=by simpa using hb
  subst e;obtain⟨o,e,c,d⟩:=st;exact⟨o,e,λv z=>by rw[d]at z;cases z⟩
 keep:=λi h l st k=>st.at λo e=>k g (by simp) o e
 item:=by
  intro X A hw C M i f s L H E I j st D;subst A hw C;obtain⟨Y,x,m,n⟩:=D;obtain⟨G,q,p,V⟩:=I.list m;obtain⟨u,Q,T⟩:=q.get n;obtain⟨r,F,Z,B,t,y⟩:=j g (by simp);refine wpAny_pyNext_list_item st p.isList (x:=u) (by simpa using Q) λl J N=>?_;have R:Inv X f L H { s with heap:=l }:=I.turned (t':=s.toks) (λb o hb e=>(N.2 b hb).trans e) r F B t y;obtain⟨o,e,c,d⟩:=id J;exact⟨u,rfl,Dg (s:={ s with heap:=l }) e c d (by decide) ⟨x,H,R,T,⟨rfl,λys O=>by rw[I.ϱ O m];exact n⟩,J,λb hb=>(j b hb).1⟩⟩
 done:=by
  intro X A hw C M i f s L H E I j st D;subst A hw C;obtain⟨Y,m,n⟩:=D;obtain⟨G,q,p,V⟩:=I.list m;obtain⟨r,F,Z,B,t,y⟩:=j g (by simp);have hl:=q.length;exact wpAny_pyNext_list_end (I.ok.hd M) st p.isList (by simp;lia) λl S=>⟨rfl,I.turned (t':=s.toks) (λb o hb e=>S b o hb e) r F B t y⟩
 self:=λ_ _ _ _ _ st h=>wpAny_pyIter_listiter st h
def KF{P:Program}{w:World}{K:hO}{U:Expr}(a g:Addr):Turn P w K U (YB K a) [g] g (λi h=>h.IsTupleIter g a i) where
 mem:=by simp
 obj:=λi h st b hb=>by
  have e:b=g:=by simpa using hb
  subst e;obtain⟨o,e,c,d⟩:=st;exact⟨o,e,λv z=>by rw[d]at z;cases z⟩
 keep:=λi h m st k=>st.at λo e=>k g (by simp) o e
 item:=by
  intro X B hw D M i f s L H E I l st F;subst B hw D;obtain⟨Y,x,n,q⟩:=F;obtain⟨j,r,p,V⟩:=I.tuple n;obtain⟨u,Q,T⟩:=r.get q;obtain⟨t,G,Z,C,y,A⟩:=l g (by simp);refine wpAny_pyNext_tuple_item st (show s.heap.IsTuple a j.toArray from p) (x:=u) (by simpa using Q) λm J N=>?_;have R:Inv X f L H { s with heap:=m }:=I.turned (t':=s.toks) (λb o hb e=>(N.2 b hb).trans e) t G C y A;obtain⟨o,e,c,d⟩:=id J;exact⟨u,rfl,Dg (s:={ s with heap:=m }) e c d (by decide) ⟨x,H,R,T,⟨rfl,λys O=>by rw[I.TN O n];exact q⟩,J,λb hb=>(l b hb).1⟩⟩
 done:=by
  intro X B hw D M i f s L H E I l st F;subst B hw D;obtain⟨Y,n,q⟩:=F;obtain⟨j,r,p,V⟩:=I.tuple n;obtain⟨t,G,Z,C,y,A⟩:=l g (by simp);have hl:=r.length;exact wpAny_pyNext_tuple_end (I.ok.hd M) st (show s.heap.IsTuple a j.toArray from p) (by simp;lia) λm S=>⟨rfl,I.turned (t':=s.toks) (λb o hb e=>S b o hb e) t G C y A⟩
 self:=λ_ _ _ _ _ st h=>wpAny_pyIter_tupleiter st h
def Ls{P:Program}{w:World}{K:hO}{F:Expr}(a:Addr)(lo:Int)(n:Nat):Turn P w K F (WO lo n) [a] a (λi h=>IsRangeIter h a (lo+(i:Nat)*1) ((n:Int)-(i:Nat)) 1) where
 mem:=by simp
 obj:=λi h st b hb=>by
  have e:b=a:=by simpa using hb
  subst e;exact⟨_,st,λv z=>by
   have G:Data.fields _=Data.cell v:=z;cases G⟩
 keep:=λi h f st k=>k a (by simp) _ st
 item:=by
  intro X m hw r q i c s A H E I d st u;subst m hw r;obtain⟨g,x,J,p,j,l⟩:=d a (by simp);have W:=Walks.range (prog:=X.prog) (w:=X.w) (I.ok.hd q) a lo 1 n;refine W.item i s _ _ u st λv f tk hv y D=>?_;obtain⟨t,rfl⟩:=hv;have B:Inv X c A H { s with heap:=f,toks:=tk }:=I.turned (λb o hb e=>D b o (by simpa using hb) e) g x p j l;refine⟨_,rfl,Dg (s:={ s with heap:=f,toks:=tk }) (n:="range_iterator") y rfl rfl (by decide) ⟨.int (lo+i),H,B,⟨t,?_⟩,⟨rfl,rfl⟩,y,λb hb=>(d b hb).1⟩⟩;rw[pH]
 done:=by
  intro X m hw r q i c s A H E I d st u;subst m hw r;obtain⟨g,x,J,p,j,l⟩:=d a (by simp);exact wpAny_pyNext_range_end (I.ok.hd q) st (by have:n<=i:=u;lia) λf C=>⟨rfl,I.turned (t':=s.toks) (λb o hb e=>C b o hb e) g x p j l⟩
 self:=λ_ _ _ _ _ st h=>wpAny_pyIter_rangeiter st h
def KR(K:hO)(c:TE):TI:=λd H R=>c d H λx b=>∃a,x=.ref a/\(∃e,ι K b a e)/\R (X0 K a) b
def Pf(K:hO)(c:TE):TI:=λd H R=>c d H λx b=>∃a,x=.ref a/\(∃e,Α K b a e)/\R (YB K a) b
def iB{X:Cx}{n:Expr}{l:Expr}{g:TE}(j:PE X l g):PI X n l (KR X.K g):=by
 intro c s i H R I h;refine eF (j c s i H _ I h) λv f x m d t w=>?_;obtain⟨a,e,⟨A,r⟩,q⟩:=w;subst e;cases t;obtain⟨u,y,p,z⟩:=d.list r;refine ik p.isList ?_;refine⟨f.heap.objs.size,[f.heap.objs.size],_,_,m,rfl,d.kept (t':=f.toks) λb o e=>aB _ e,MH a _,⟨_,bc _ rfl,rfl,rfl⟩,λb k=>?_,q⟩;have e:b=f.heap.objs.size:=by simpa using k
 subst e;exact d.U1 (aJ _) (d.Β.fresh (aJ _))
def y0{X:Cx}{r:Expr}{l:Expr}{i:TE}(k:PE X l i):PI X r l (Pf X.K i):=by
 intro d s j H R I h;refine eF (k d s j H _ I h) λv c x n f u w=>?_;obtain⟨a,e,⟨A,t⟩,q⟩:=w;subst e;cases u;obtain⟨g,y,p,z⟩:=f.tuple t;refine kq (show c.heap.IsTuple a g.toArray from p) ?_;refine⟨c.heap.objs.size,[c.heap.objs.size],_,_,n,rfl,f.kept (t':=c.toks) λb o e=>aB _ e,KF a _,⟨_,bc _ rfl,rfl,rfl⟩,λb m=>?_,q⟩;have e:b=c.heap.objs.size:=by simpa using m
 subst e;exact f.U1 (aJ _) (f.Β.fresh (aJ _))
def Hg{R:It->Hp->Prop}{lo m:Int}{n:Nat}(I:Inv d c i j a)(s:-(2^62)<=lo)(v:lo<2^62)(t:-(2^62)<=m)(x:m<2^62)(q:R (WO lo (m-lo).toNat) j):wpAny (model d.prog d.w) d.A (pyIter (.ref a.heap.objs.size)) (PIE d c i k R) l { a with heap:=a.heap.push { cls:=.type "range",data:=.fields #[.int lo g,.int m h,.int 1 f] },toks:=n }:=by
 refine wpAny_pyIter_range (IsRange.new ..) (small_one s v t x) ?_;have p:Inv d c i j { a with heap:=a.heap.push { cls:=.type "range",data:=.fields #[.int lo g,.int m h,.int 1 f] },toks:=n }:=I.kept λb o e=>aB _ e;refine⟨(a.heap.push { cls:=.type "range",data:=.fields #[.int lo g,.int m h,.int 1 f] }).objs.size,[(a.heap.push { cls:=.type "range",data:=.fields #[.int lo g,.int m h,.int 1 f] }).objs.size],_,_,j,rfl,p.kept (t':=n) λb o e=>aB _ e,Ls _ lo (m-lo).toNat,?_,λb r=>?_,q⟩
 .have e1:lo+((0:Nat):Int)*1=lo:=by simp
  have u:(((m-lo).toNat:Nat):Int)-((0:Nat):Int)=Builtin.Range.rangeSize lo m 1:=by rw[rangeSize_one];split<;>lia
  show IsRangeIter _ _ (lo+((0:Nat):Int)*1) ((((m-lo).toNat:Nat):Int)-((0:Nat):Int)) 1;rw[e1,u];exact bc _ rfl
 .have e:b=(a.heap.push { cls:=.type "range",data:=.fields #[.int lo g,.int m h,.int 1 f] }).objs.size:=by simpa using r
  subst e;exact p.U1 (aJ _) (p.Β.fresh (aJ _))
def KW(b:TA):TI:=λc H R=>b c H λd a=>∃j:Int,d=[.int j]/\-(2^62)<=j/\j<2^62/\R (WO 0 j.toNat) a
def Lw(b:TA):TI:=λc H R=>b c H λd a=>∃i j:Int,d=[.int i,.int j]/\(-(2^62)<=i/\i<2^62/\-(2^62)<=j/\j<2^62)/\R (WO i (j-i).toNat) a
def kI(v:Gl a "range")(o:a.mg "range"=none)(w:PA a [c] d)(u:starEach [c] a.env=[(false,eval c a.env)]:=by rfl):PI a f (.Call (.Name "range" g) [c] [] b) (KW d):=by
 intro i s m H R I h;refine Call_ (pR I v o boot_range (cR (sH (w b i s m H _ I h) λz x y A n p k=>?_) u rfl));obtain⟨j,e,k,l,q⟩:=k;subst e;cases p with
 | cons r rr=>
   cases rr;obtain⟨t,rfl⟩:=r;exact call_range_1 (Hg n (by lia) (by lia) k l (by simpa using q))
def Ma(A:Gl a "range")(v:a.mg "range"=none)(B:PA a [d,b] f)(z:starEach [d,b] a.env=[(false,eval d a.env),(false,eval b a.env)]:=by rfl)(n:starEach [b] a.env=[(false,eval b a.env)]:=by rfl):PI a g (.Call (.Name "range" k) [d,b] [] c) (Lw f):=by
 intro l s p H R I h;refine Call_ (pR I A v boot_range (cR (sH (B c l s p H _ I h) λF D E G u y m=>?_) (by rw[z,n]) (by rw[n];rfl)));obtain⟨i,j,e,⟨m,o,w,x⟩,q⟩:=m;subst e;cases y with
 | cons r rr=>
   cases rr with
   | cons r' rr=>
     cases rr;obtain⟨t,rfl⟩:=r;obtain⟨C,rfl⟩:=r';exact call_range_2 (Hg u m o w x q)
def RK(k:TI)(g:TG)(h:TS):TS:=λD a H=>k a H λJ f=>∃W:Nat->Nat->St->Hp->Prop,(∃m,W 0 m a f)/\∀i m a H,W i m a H->(J.stop i H/\D.nx a H)\/(J.go i H/\∃N:St->Hp->Prop,(∀c b,N c b->∃e,e<m/\W (i+1) e c b)/\∀x b,J.XZ i H x b->g x a b λd j=>h { D with nx:=N,ct:=N,bk:=D.nx } d j)
def vY(a:hR)(h:Heap):List (Addr×Obj):=a.filterMap λb=>(h.get? b).map λo=>(b,o)
def py{h:Heap}(d:a∈b)(e:h.get? a=some c):(a,c)∈vY b h:=List.mem_filterMap.mpr ⟨a,d,by rw[e];rfl⟩
def MG(h:a∈vY d c):a.1∈d/\c.get? a.1=some a.2:=by
 obtain⟨b,g,e⟩:=List.mem_filterMap.mp h;cases q:c.get? b with
 | none=>rw[q]at e;cases e
 | some o=>
   rw[q]at e;have f:(b,o)=a:=bF e;subst f;exact⟨g,q⟩
def Inv.pinned(I:Inv g a i h f)(r:∀b∈c,p6 g a h b)(n:∀b∈c,∃o,f.heap.get? b=some o/\∀v,o.data≠.cell v):Inv g (a++vY c f.heap) i h f:=I.Vg λp q=>(bi.mp q).elim (λz=>I.pin p (bw _ z)) λz=>by
 obtain⟨k,e⟩:=MG z;obtain⟨l,s,m,_⟩:=r p.1 k;obtain⟨o,j,d⟩:=n p.1 k;rw[e]at j;cases j;exact⟨e,l,s,m,d⟩
def Inv.ϲ(I:Inv c (a++f) b d e):Inv c a b d e:=I.Vg λp g=>I.pin p (bw _ (bJ _ g))
def gf{X:Cx}{L:List Stmt}(Q:PassesOwn (model X.prog X.w) X.A X.env X.xe)(hc:X.calm=true)(hi:PI X c a j)(hg:PG X c l)(B:UR X L g)(hs:∀x,foldedSetIterable a X.env x=pure x:=by intro _;rfl):PS X (.For c a L [] k) (RK j l g):=by
 intro p s σ H D I h;refine wpAny_For (ϕ (hi p s σ H _ I h) λv s1 h1=>ϕ h1 λa8 s2 h2=>?_) hs;obtain⟨it,M,tn,J,H2,e,I2,T,UQ,f2,W,⟨m0,w0⟩,O⟩:=h2;subst e;have t:∀{G:Hp},(∀b∈M,G b=none)->∀b∈M,p6 X p G b:=λhn b B=>⟨hn b B,(f2 b B).2⟩;refine codeAny_forLoop_any (λn s'=>∃i C G,Inv X p C G s'/\tn i s'.heap/\(∀b∈M,G b=none)/\W i n C G) ?_ m0 ⟨0,σ,H2,I2,UQ,λb B=>(f2 b B).1,w0⟩;rintro n s3 ⟨i,z,R,I3,VS,Z,w3⟩;rcases O i n z R w3 with⟨stop,qn⟩|⟨go,N,hN,step⟩
 .refine fX Q (ϕ (T.done X rfl rfl rfl hc i p s3 z R X.xe I3 (t Z) VS stop) λr s4 ⟨U,I4⟩=>?_);subst U;exact gV ⟨z,R,I4,qn⟩
 .refine fX Q (ϕ (T.item X rfl rfl rfl hc i p s3 z R X.xe I3 (t Z) VS go) λr s4 ⟨u,U,h4⟩=>?_);subst U;refine fX Q (ϕ h4 λ_ s5 ⟨x,H5,I5,r5,y5,S,Z6⟩=>?_);have Z7:=I5.pinned (t Z6) (T.obj _ _ S);refine fX Q (ϕ (hg _ s5 z H5 x u _ Z7 r5 (step x H5 y5)) λ_ s6 ⟨Y,H6,I6,q6⟩=>?_);refine fX Q (ϕ (B _ s6 Y H6 _ I6 q6) λf V K=>?_);have y:∀{q:St}{F:Hp},Inv X (p++vY M s5.heap) q F V->N q F->∃m,m<n/\∃i C G,Inv X p C G V/\tn i V.heap/\(∀b∈M,G b=none)/\W i m C G:=λ{q F} E P=>by
   obtain⟨m',hm,w7⟩:=hN q F P;refine⟨m',hm,i+1,q,F,E.ϲ,T.keep _ _ _ S λb B o e=>(E.pin (b,o) (bw _ (bw _ (py B e)))).1,λb B=>?_,w7⟩;obtain⟨o,e,d⟩:=T.obj _ _ S b B;exact(E.pin (b,o) (bw _ (bw _ (py B e)))).2.1
  cases f with
  | next=>obtain⟨q,F,E,P⟩:=K;exact y E P
  | cont=>obtain⟨q,F,E,P⟩:=K;exact y E P
  | brk=>obtain⟨q,F,E,K⟩:=K;exact⟨q,F,E.ϲ,K⟩
  | ret v=>obtain⟨x7,q,F,E,r7,K⟩:=K;exact⟨x7,q,F,E.ϲ,r7,K⟩
def OE{K:hO}{a:Addr}{c:List V}{g:TG}{n:TS}{D:Ends}{b:St}{H:Hp}(d:Nat->St->Hp->Prop)(t:d 0 b H)(w:∀i b H,i<=c.length->d i b H->ι K H a c)(v:∀i x b H,c[i]?=some x->d i b H->g x b H λf k=>n { D with nx:=d (i+1),ct:=d (i+1),bk:=D.nx } f k)(s:∀b H,d c.length b H->D.nx b H):∃W:Nat->Nat->St->Hp->Prop,(∃m,W 0 m b H)/\∀i m b H,W i m b H->((X0 K a).stop i H/\D.nx b H)\/((X0 K a).go i H/\∃N:St->Hp->Prop,(∀j h,N j h->∃l,l<m/\W (i+1) l j h)/\∀x h,(X0 K a).XZ i H x h->g x b h λf k=>n { D with nx:=N,ct:=N,bk:=D.nx } f k):=by
 refine⟨λi m b H=>m=c.length-i/\i<=c.length/\d i b H,⟨c.length,by simp,cg _,t⟩,?_⟩;rintro i m b H ⟨rfl,r,p⟩;have q:=w i b H r p;by_cases o:i<c.length
 .refine .inr ⟨⟨c,c[i],q,by simp[o]⟩,d (i+1),λj h u=>⟨c.length-(i+1),by lia,rfl,o,u⟩,λx h y=>?_⟩;obtain⟨e,y⟩:=y;subst e;exact v i x b _ (y c q) p
 .have e:i=c.length:=by lia
  subst e;exact .inl ⟨⟨c,q,aJ _⟩,s b H p⟩
def En{K:hO}{a:Addr}{xs:List V}{g:TG}{l:TS}{D:Ends}{b:St}{H:Hp}(c:Nat->St->Hp->Prop)(s:c 0 b H)(v:∀i b H,i<=xs.length->c i b H->Α K H a xs)(u:∀i x b H,xs[i]?=some x->c i b H->g x b H λd j=>l { D with nx:=c (i+1),ct:=c (i+1),bk:=D.nx } d j)(r:∀b H,c xs.length b H->D.nx b H):∃W:Nat->Nat->St->Hp->Prop,(∃m,W 0 m b H)/\∀i m b H,W i m b H->((YB K a).stop i H/\D.nx b H)\/((YB K a).go i H/\∃N:St->Hp->Prop,(∀h f,N h f->∃k,k<m/\W (i+1) k h f)/\∀x f,(YB K a).XZ i H x f->g x b f λd j=>l { D with nx:=N,ct:=N,bk:=D.nx } d j):=by
 refine⟨λi m b H=>m=xs.length-i/\i<=xs.length/\c i b H,⟨xs.length,by simp,cg _,s⟩,?_⟩;rintro i m b H ⟨rfl,o,p⟩;have q:=v i b H o p;by_cases n:i<xs.length
 .refine .inr ⟨⟨xs,xs[i],q,by simp[n]⟩,c (i+1),λh f t=>⟨xs.length-(i+1),by lia,rfl,n,t⟩,λx f y=>?_⟩;obtain⟨e,y⟩:=y;subst e;exact u i x b _ (y xs q) p
 .have e:i=xs.length:=by lia
  subst e;exact .inl ⟨⟨xs,q,aJ _⟩,r b H p⟩
def MR{lo:Int}{n:Nat}{g:TG}{l:TS}{D:Ends}{a:St}{H:Hp}(c:Nat->St->Hp->Prop)(q:c 0 a H)(s:∀i a H,i<n->c i a H->g (.int (lo+i)) a H λb h=>l { D with nx:=c (i+1),ct:=c (i+1),bk:=D.nx } b h)(o:∀a H,c n a H->D.nx a H):∃W:Nat->Nat->St->Hp->Prop,(∃m,W 0 m a H)/\∀i m a H,W i m a H->((WO lo n).stop i H/\D.nx a H)\/((WO lo n).go i H/\∃N:St->Hp->Prop,(∀f d,N f d->∃k,k<m/\W (i+1) k f d)/\∀x d,(WO lo n).XZ i H x d->g x a d λb h=>l { D with nx:=N,ct:=N,bk:=D.nx } b h):=by
 refine⟨λi m a H=>m=n-i/\i<=n/\c i a H,⟨n,by simp,cg _,q⟩,?_⟩;rintro i m a H ⟨rfl,t,p⟩;by_cases j:i<n
 .refine .inr ⟨j,c (i+1),λf d r=>⟨n-(i+1),by lia,rfl,j,r⟩,λx d y=>?_⟩;obtain⟨e,y⟩:=y;subst e y;exact s i a _ j p
 .have e:i=n:=by lia
  subst e;exact .inl ⟨aJ _,o a H p⟩
abbrev R2:=V->V->Hp->VK->Prop
def bY(X:Cx)(f:Value->Value->Sem Value)(r:R2):Prop:=∀(a:hP)(s:Shared)(b:St)(H:Hp)(x y:V)(v u:Value)(Q:VK),Inv X a b H s->RelV x v->RelV y u->r x y H Q->wpAny (model X.prog X.w) X.A (f v u) (EP X a b Q) X.xe s
def UnR(X:Cx)(f:Value->Sem Value)(r:V->Hp->VK->Prop):Prop:=∀(a:hP)(s:Shared)(b:St)(H:Hp)(x:V)(v:Value)(Q:VK),Inv X a b H s->RelV x v->r x H Q->wpAny (model X.prog X.w) X.A (f v) (EP X a b Q) X.xe s
def lx(X:Cx)(f:Value)(r:List V->Hp->VK->Prop):Prop:=∀(a:hP)(s:Shared)(c:St)(H:Hp)(d:List V)(b:hT)(Q:VK),Inv X a c H s->Vals d b->r d H Q->wpAny (model X.prog X.w) X.A (call f b) (EP X a c Q) X.xe s
def SR(X:Cx)(r:V->Hp->(Bool->Hp->Prop)->Prop):Prop:=∀(a:hP)(s:Shared)(b:St)(H:Hp)(x:V)(v:Value)(Q:Bool->Hp->Prop),Inv X a b H s->RelV x v->r x H Q->wpAny (model X.prog X.w) X.A (truthy v) (TP X a b Q) X.xe s
def Xj(r:R2)(c d:TE):TE:=λa H Q=>c a H λx b=>d a b λy e=>r x y e Q
def tUn(r:V->Hp->VK->Prop)(b:TE):TE:=λc H Q=>b c H λx a=>r x a Q
def rI(C:Int->Int->Prop)(g:Int->Int->V):R2:=λx y H Q=>∃i j,x=.int i/\y=.int j/\C i j/\Q (g i j) H
def WQ(g:Int->Int->V):R2:=λx y H Q=>∃i j,x=.int i/\y=.int j/\Q (g i j) H
def rU(g:Int->V):V->Hp->VK->Prop:=λx H Q=>∃i,x=.int i/\Q (g i) H
def OU(E:PE a l g)(t:PE a j e){R:V->V->Hp->Prop}(I:Inv a b c i d)(h:g c i λx q=>e c q λy m=>R x y m){f:Value->Value->Sem Value}(B:∀v u p x y m,Inv a b c m p->RelV x v->RelV y u->R x y m->wpAny (model a.prog a.w) a.A (f v u) k a.xe p):wpAny (model a.prog a.w) a.A (eval l a.env) (λv o=>wpAny (model a.prog a.w) a.A (eval j a.env) (λu n=>wpAny (model a.prog a.w) a.A (f v u) k a.xe n) a.xe o) a.xe d:=by
 refine eF (E b d c i _ I h) λv z x q s D G=>?_;refine eF (t b z c q _ s G) λu p y m F C r=>?_;exact B v u p x y m F D C r
def aX(m:bY a (binaryOp c) g)(t:PE a i d)(l:PE a f b):PE a (.BinOp i c f e) (Xj g d b):=by
 intro j s k H Q I h;exact wpAny_BinOp (OU t l I h λv u r x y p w n o q=>m j r k p x y v u Q w n o q)
def lz(m:UnR a (unaryOp b) f)(o:PE a e c):PE a (.UnaryOp b e d) (tUn f c):=by
 intro g s i H Q I h;exact UnaryOp_ (eF (o g s i H _ I h) λv l x j k n p=>m g l i j x v Q k n p)
def ZA{X:Cx}{f:Value->Value->Sem Value}{C:Int->Int->Prop}{g:iv}(a:∀(i j:Int) (t u:Tok) (s:Shared) (Q:hL) (E:hL),C i j->Q (.int (g i j) s.toks) { s with toks:=s.toks+1 }->wpAny (model X.prog X.w) X.A (f (.int i t) (.int j u)) Q E s):bY X f (rI C λi j=>.int (g i j)):=by
 intro b s l H x y v u Q I d e h;obtain⟨i,j,rfl,rfl,k,q⟩:=h;obtain⟨t,rfl⟩:=d;obtain⟨c,rfl⟩:=e;exact a i j t c s _ _ k ⟨.int (g i j),H,I.tok _,⟨_,rfl⟩,q⟩
def RV{X:Cx}{f:Value->Value->Sem Value}{g:iv}(a:∀(i j:Int) (t u:Tok) (s:Shared) (Q:hL) (E:hL),Q (.int (g i j) s.toks) { s with toks:=s.toks+1 }->wpAny (model X.prog X.w) X.A (f (.int i t) (.int j u)) Q E s):bY X f (WQ λi j=>.int (g i j)):=by
 intro b s k H x y v u Q I d e h;obtain⟨i,j,rfl,rfl,q⟩:=h;obtain⟨t,rfl⟩:=d;obtain⟨c,rfl⟩:=e;exact a i j t c s _ _ ⟨.int (g i j),H,I.tok _,⟨_,rfl⟩,q⟩
def KZ{X:Cx}{f:Value->Value->Sem Value}{g:Int->Int->Bool}(a:∀(i j:Int) (t u:Tok) (s:Shared) (Q:hL) (E:hL),Q (.bool (g i j)) s->wpAny (model X.prog X.w) X.A (f (.int i t) (.int j u)) Q E s):bY X f (WQ λi j=>.bl (g i j)):=by
 intro b s k H x y v u Q I d e h;obtain⟨i,j,rfl,rfl,q⟩:=h;obtain⟨t,rfl⟩:=d;obtain⟨c,rfl⟩:=e;exact a i j t c s _ _ ⟨.bl (g i j),H,I,rfl,q⟩
def Ob(i j:Int):Prop:=0<j/\j<1073741824
def SN(i j:Int):Prop:=0<=j/\j<=1000000/\i.natAbs<2^64
def YC(i j:Int):Prop:=(-(2^64)<i/\i<2^64)\/(-(2^64)<j/\j<2^64)
def YC.ok(h:YC b a):IntMulOk b a:=by
 rcases h with⟨h1,h2⟩|⟨h1,h2⟩
 .exact .of_left (intBits_le_64 h1 h2)
 .exact .of_right (intBits_le_64 h1 h2)
def gc:bY a (binaryOp .Add) (WQ λi j=>.int (i+j)):=RV λ_ _ _ _ _ _ _ q=>add_int q
def jp:bY a (binaryOp .Sub) (WQ λi j=>.int (i-j)):=RV λ_ _ _ _ _ _ _ q=>sub_int q
def j6:bY a (binaryOp .Mult) (rI YC λi j=>.int (i*j)):=ZA λ_ _ _ _ _ _ _ b q=>mul_int q b.ok
def eY:bY a (binaryOp .FloorDiv) (rI Ob λi j=>.int (i/j)):=ZA λi j _ _ _ _ _ b q=>by
 have d:(0:Int)<j:=b.1;have c:j<1073741824:=b.2;exact floordiv_int (by lia) (by rw[lf i (by lia)];exact q) (.inl (PyProof.noPylong_small (by lia)))
def eE:bY a (binaryOp .Mod) (rI (λ_ j=>0<j) λi j=>.int (i%j)):=ZA λi j _ _ _ _ _ b q=>by
 have c:(0:Int)<j:=b;exact mod_int' (by lia) (by rw[Int.fmod_eq_emod_of_nonneg i (by lia)];exact q)
def CW:bY a (binaryOp .Pow) (rI SN λi j=>.int (i^j.toNat)):=ZA λ_ _ _ _ _ _ _ b q=>pow_int_small b.1 b.2.1 b.2.2 q
def unI{X:Cx}{f:Value->Sem Value}{g:fz}(a:∀(i:Int) (t:Tok) (s:Shared) (Q:hL) (E:hL),Q (.int (g i) s.toks) { s with toks:=s.toks+1 }->wpAny (model X.prog X.w) X.A (f (.int i t)) Q E s):UnR X f (rU λi=>.int (g i)):=by
 intro b s d H x v Q I c h;obtain⟨i,rfl,q⟩:=h;obtain⟨t,rfl⟩:=c;exact a i t s _ _ ⟨.int (g i),H,I.tok _,⟨_,rfl⟩,q⟩
def jo:UnR a (unaryOp .USub) (rU λi=>.int (-i)):=unI λ_ _ _ _ _ q=>neg_int q
def uh:V->V->Bool
 | .ξ,.ξ=>true|.ξ,.int _=>true|.int _,.ξ=>true|.ξ,.bl _=>true|.bl _,.ξ=>true|.ξ,.str _=>true|.str _,.ξ=>true
 | .int _,.int _=>true|.bl _,.bl _=>true|.str _,.str _=>true|.UZ _,.UZ _=>true
 | .int _,.str _=>true|.str _,.int _=>true|.bl _,.str _=>true|.str _,.bl _=>true
 | _,_=>false
def rEq:R2:=λx y H Q=>uh x y=true/\Q (.bl (decide (x=y))) H
def rNe:R2:=λx y H Q=>uh x y=true/\Q (.bl (!decide (x=y))) H
def Jl{i:Int}:decide (V.int i=V.int a)=(i==a):=by
 rw[jb];simp
def Nj :decide (V.bl b=V.bl a)=(b==a):=by
 rw[jb];simp
def JS :decide (V.str b=V.str a)=(b==a):=by
 rw[jb];simp
def JC :decide (V.UZ b=V.UZ a)=(b.toList==a.toList):=by
 rw[jb];cases b;cases a;simp
def fB{Q:VK}(I:Inv h a f d g)(q:Q (.bl c) d)(e:c=b):EP h a f Q (.bool b) g:=by
 subst e;exact⟨.bl c,d,I,rfl,q⟩
def cN:bY a (compareOp .Eq) rEq:=by
 intro f s g H x y v u Q I e b h;obtain⟨d,q⟩:=h;cases x with
 | ξ=>
   cases e;cases y with
   | ξ=>cases b;exact PySem.EqNone.eq_none_none (fB I q (by simp))
   | bl j=>cases b;exact PySem.EqNone.eq_none_bool (fB I q (by simp))
   | int j=>obtain⟨c,rfl⟩:=b;exact PySem.EqNone.eq_none_int (fB I q (by simp))
   | str j=>obtain⟨c,rfl⟩:=b;exact PySem.EqNone.eq_none_str (fB I q (by simp))
   | _=>exact absurd (show false=true from d) bj
 | bl i=>
   cases e;cases y with
   | ξ=>cases b;exact PySem.EqNone.eq_bool_none (fB I q (by simp))
   | bl j=>cases b;exact eq_bool (fB I q Nj)
   | str j=>obtain⟨c,rfl⟩:=b;exact PySem.EqMixed.eq_bool_str (fB I q (by simp))
   | _=>exact absurd (show false=true from d) bj
 | int i=>
   obtain⟨t,rfl⟩:=e;cases y with
   | ξ=>cases b;exact PySem.EqNone.eq_int_none (fB I q (by simp))
   | int j=>obtain⟨c,rfl⟩:=b;exact eq_int (fB I q Jl)
   | str j=>obtain⟨c,rfl⟩:=b;exact PySem.EqMixed.eq_int_str (fB I q (by simp))
   | _=>exact absurd (show false=true from d) bj
 | str i=>
   obtain⟨t,rfl⟩:=e;cases y with
   | ξ=>cases b;exact PySem.EqNone.eq_str_none (fB I q (by simp))
   | bl j=>cases b;exact PySem.EqMixed.eq_str_bool (fB I q (by simp))
   | int j=>obtain⟨c,rfl⟩:=b;exact PySem.EqMixed.eq_str_int (fB I q (by simp))
   | str j=>obtain⟨c,rfl⟩:=b;exact eq_str (fB I q JS)
   | _=>exact absurd (show false=true from d) bj
 | UZ i=>
   obtain⟨t,rfl⟩:=e;cases y with
   | UZ j=>obtain⟨c,rfl⟩:=b;exact PySem.W.eq_bytes (fB I q JC)
   | _=>exact absurd (show false=true from d) bj
 | _=>cases y<;>exact absurd (show false=true from d) bj
def pj:bY a (compareOp .NotEq) rNe:=by
 intro f s g H x y v u Q I e b h;obtain⟨d,q⟩:=h;cases x with
 | ξ=>
   cases e;cases y with
   | ξ=>cases b;exact PySem.EqNone.ne_none_none (fB I q (by simp))
   | bl j=>cases b;exact PySem.EqNone.ne_none_bool (fB I q (by simp))
   | int j=>obtain⟨c,rfl⟩:=b;exact PySem.EqNone.ne_none_int (fB I q (by simp))
   | str j=>obtain⟨c,rfl⟩:=b;exact PySem.EqNone.ne_none_str (fB I q (by simp))
   | _=>exact absurd (show false=true from d) bj
 | bl i=>
   cases e;cases y with
   | ξ=>cases b;exact PySem.EqNone.ne_bool_none (fB I q (by simp))
   | bl j=>cases b;exact ne_bool (fB I q (congrArg not Nj))
   | str j=>obtain⟨c,rfl⟩:=b;exact PySem.EqMixed.ne_bool_str (fB I q (by simp))
   | _=>exact absurd (show false=true from d) bj
 | int i=>
   obtain⟨t,rfl⟩:=e;cases y with
   | ξ=>cases b;exact PySem.EqNone.ne_int_none (fB I q (by simp))
   | int j=>obtain⟨c,rfl⟩:=b;exact ne_int (fB I q (congrArg not Jl))
   | str j=>obtain⟨c,rfl⟩:=b;exact PySem.EqMixed.ne_int_str (fB I q (by simp))
   | _=>exact absurd (show false=true from d) bj
 | str i=>
   obtain⟨t,rfl⟩:=e;cases y with
   | ξ=>cases b;exact PySem.EqNone.ne_str_none (fB I q (by simp))
   | bl j=>cases b;exact PySem.EqMixed.ne_str_bool (fB I q (by simp))
   | int j=>obtain⟨c,rfl⟩:=b;exact PySem.EqMixed.ne_str_int (fB I q (by simp))
   | str j=>obtain⟨c,rfl⟩:=b;exact ne_str (fB I q (congrArg not JS))
   | _=>exact absurd (show false=true from d) bj
 | UZ i=>
   obtain⟨t,rfl⟩:=e;cases y with
   | UZ j=>obtain⟨c,rfl⟩:=b;exact PySem.W.ne_bytes (fB I q (congrArg not JC))
   | _=>exact absurd (show false=true from d) bj
 | _=>cases y<;>exact absurd (show false=true from d) bj
def uM:bY a (compareOp .Lt) (WQ λi j=>.bl (decide (i<j))):=KZ λ_ _ _ _ _ _ _ q=>lt_int q
def wV:bY a (compareOp .LtE) (WQ λi j=>.bl (decide (i<=j))):=KZ λ_ _ _ _ _ _ _ q=>le_int q
def wS:bY a (compareOp .Gt) (WQ λi j=>.bl (decide (j<i))):=KZ λ_ _ _ _ _ _ _ q=>gt_int q
def zt:bY a (compareOp .GtE) (WQ λi j=>.bl (decide (j<=i))):=KZ λ_ _ _ _ _ _ _ q=>ge_int q
def Mj:bY a (compareOp .In) (λx y H Q=>∃i j,x=.str i/\y=.str j/\Q (.bl (!(Builtin.Str.occurrences j i 0 j.length 1).isEmpty)) H):=by
 intro b s e H x y v u Q I c d h;obtain⟨i,j,rfl,rfl,q⟩:=h;obtain⟨t,rfl⟩:=c;obtain⟨f,rfl⟩:=d;exact in_str (fB I q rfl)
def kY(b:Expr)(h:a≠.In:=by decide)(e:a≠.NotIn:=by decide):behindInMarks a b=false:=by
 have c:(a==CmpOp.In)=false:=by cases a<;>first|rfl|exact absurd rfl h
 have d:(a==CmpOp.NotIn)=false:=by cases a<;>first|rfl|exact absurd rfl e
 cases b<;>simp[behindInMarks,c,d]
def jU(m:bY b (compareOp a) g)(w:PE b i e)(l:PE b c d)(o:behindInMarks a c=false):PE b (.Compare i [a] [c] f) (Xj g e d):=by
 intro j s k H Q I h;exact wpAny_Compare1 (OU w l I h λv u t x y r z n p q=>m j t k r x y v u Q z n p q) o
def CD(t:TE):TT:=λb H Q=>t b H λx a=>∃k,x=.bl k/\Q k a
def tF(w:bY b (compareOp a) j)(L:PE b l g)(r:PE b d f)(A:behindInMarks a d=false):PT b (.Compare l [a] [d] i) (CD (Xj j g f)):=by
 intro m s n H Q I h;refine wpAny_isTrue_Compare1 (eF (L m s n H _ I h) λv t x C q K N=>eF (r m t n C _ q N) λu E y D M J p=>
  eF (w m E n D x y v u _ M K J p) λc O z o G B ⟨k,e,F⟩=>?_) A
 subst e;cases B;exact dB ⟨o,G,F⟩
def CJ(r g:R2)(d e h:TE):TE:=λa H Q=>d a H λx c=>e a c λy f=>r x y f λz b=>∃k,z=.bl k/\(if k=true then h a b λj i=>g y j i Q else Q (.bl false) b)
def P5(J:bY a (compareOp c) o)(O:bY a (compareOp b) i)(ha:PE a p m)(F:PE a f g)(X:PE a j l)(L:lastMarks [c,b] [f,j]=false:=by with_unfolding_all rfl):PE a (.Compare p [c,b] [f,j] n) (CJ o i m g l):=by
 intro q s r H Q I h;refine Compare_chain (eF (ha q s r H _ I h) λv G x P E Z q1=>chain_link (eF (F q G r P _ E q1) λu S y R I2 B C=>
  eF (J q S r R x y v u _ I2 Z B C) λd N z t A M ⟨k,e,w⟩=>?_)) L
 subst e;cases M;refine dB ?_;cases k with
 | false=>exact ite_ff ⟨.bl false,t,A,rfl,w⟩
 | true=>exact ite_tt (chain_last (ϕ (X q N r t _ A w) λK D ⟨T,W,Y,V,U⟩=>O q D r W y T u K Q Y B V U))
def BG(L:bY a (compareOp c) o)(T:bY a (compareOp b) i)(ha:PE a p m)(J:PE a f g)(hc:PE a j l)(O:lastMarks [c,b] [f,j]=false:=by with_unfolding_all rfl):PT a (.Compare p [c,b] [f,j] n) (CD (CJ o i m g l)):=by
 intro q s r H Q I h;refine isTrue_chain (eF (ha q s r H _ I h) λv K x U G r1 q1=>test_link (eF (J q K r U _ G q1) λu W y V I2 B C=>
  eF (L q W r V x y v u _ I2 r1 B C) λd R z t A P ⟨k,e,w⟩=>?_)) O
 subst e;cases P;refine dB ?_;cases k with
 | false=>
   obtain⟨k',e',F⟩:=w;cases e';exact ite_ff ⟨t,A,F⟩
 | true=>
   refine ite_tt (test_last (ϕ (hc q R r t _ A w) λM E ⟨X,H4,I4,r4,Y⟩=>ϕ (T q E r H4 y X u M _ I4 B r4 Y) λd' s5 ⟨z2,Z,N,r5,k2,S,D⟩=>?_));subst S;cases r5;exact dB ⟨Z,N,D⟩
def Sf(K:hO)(x:V)(H:Hp)(k:Bool):Prop:=match x with
 | .ξ=>k=false
 | .bl a=>k=a
 | .int i=>k=(i != 0)
 | .str y=>y.length<=sizeLine/\k=((y.length:Int) != 0)
 | .UZ y=>y.size<=sizeLine/\k=((y.size:Int) != 0)
 | .ref p=>(∃b,ι K H p b/\k=!b.isEmpty)\/(∃b,Α K H p b/\k=!b.isEmpty)\/∃c,H p=some (.dK c)/\k=!c.isEmpty
 | _=>False
def KJ(r:KV a b):(!b.isEmpty)=!a.isEmpty:=by
 cases r<;>rfl
def Ci(r:Vals b a):(!a.toArray.isEmpty)=!b.isEmpty:=by
 cases r<;>simp
def qD:(sizeLine:Nat)<2^63:=by rw[sizeLine_eq];decide
section
variable{X:Cx}
def R8:SR X (λx H Q=>∃k,Sf X.K x H k/\Q k H):=by
 intro o s B H x v Q I g h;obtain⟨k,e,q⟩:=h;have D:=qD;have C:sizeLine=16777216:=sizeLine_eq;cases x with
 | ξ=>
   cases g;have a:k=false:=e;subst a;exact truthy_none ⟨H,I,q⟩
 | bl b=>
   cases g;have a:k=b:=e;subst a;exact dB ⟨H,I,q⟩
 | int i=>
   obtain⟨t,rfl⟩:=g;have a:k=(i != 0):=e;subst a;exact PySem.P.truthy_int ⟨H,I,q⟩
 | str y=>
   obtain⟨t,rfl⟩:=g;obtain⟨z,a⟩:y.length<=sizeLine/\k=((y.length:Int) != 0):=e;subst a;exact PySem.P.truthy_str (by lia) ⟨H,I.tok _,q⟩
 | UZ y=>
   obtain⟨t,rfl⟩:=g;obtain⟨z,a⟩:y.size<=sizeLine/\k=((y.size:Int) != 0):=e;subst a;exact PySem.W.truthy_bytes (by lia) ⟨H,I.tok _,q⟩
 | ref p=>
   cases g;have a:(∃d,ι X.K H p d/\k=!d.isEmpty)\/(∃d,Α X.K H p d/\k=!d.isEmpty)\/∃f,H p=some (.dK f)/\k=!f.isEmpty:=e;rcases a with⟨d,hx,a⟩|⟨d,hx,a⟩|⟨f,hx,a⟩
   .subst a;obtain⟨n,r,l,u⟩:=I.list hx;have c:=r.length;exact wpAny_truthy_list l.isList (by simp only[aR];lia) ⟨H,I.tok _,by rw[Ci r];exact q⟩
   .subst a;obtain⟨n,r,l,u⟩:=I.tuple hx;have c:=r.length;exact truthy_tuple l (by simp only[aR];lia) ⟨H,I.tok _,by rw[Ci r];exact q⟩
   .subst a;obtain⟨u,A,j,r,m⟩:f.length<=sizeLine/\(p==sysModules)=false/\∃j,KV f j/\s.heap.DictOf (iT X.prog X.w) p j:=I.Β p _ hx;have c:f.length=j.length:=Paired.length r;exact wpAny_truthy_dict A m (by lia) ⟨H,I.tok _,by rw[KJ r];exact q⟩
 | _=>exact(show False from e).elim
end
def wQ(o:PE a b c)(m:∀d,isTrue b a.env d=(do let v <-d;standAt b.pos;holding [v] (truthy v))):PT a b (λf H Q=>c f H λx g=>∃k,Sf a.K x g k/\Q k g):=by
 intro e s f H Q I h;exact isTrue_plain (eF (o e s f H _ I h) λv j x l i n p=>R8 e j f l x v Q i n p) (m _)
def gK:bY a (binaryOp .Add) (λx y H Q=>∃i j,x=.str i/\y=.str j/\i.length+j.length<=sizeLine/\Q (.str (i++j)) H):=by
 intro b s g H x y v u Q I d e h;obtain⟨i,j,rfl,rfl,f,q⟩:=h;obtain⟨t,rfl⟩:=d;obtain⟨c,rfl⟩:=e;exact add_str (λc k=>⟨.str (i++j),H,I.tok _,⟨_,rfl⟩,q⟩) f
def oB(r:Vals [b] a):∃u,a=[u]/\RelV b u:=by
 cases r with
 | cons r1 r2=>cases r2;exact⟨_,rfl,r1⟩
def Kf(r:Vals [b,c] a):∃u d,a=[u,d]/\RelV b u/\RelV c d:=by
 cases r with
 | cons r1 r2=>
   cases r2 with
   | cons r3 r4=>cases r4;exact⟨_,_,rfl,r1,r3⟩
def MU{X:Cx}(d:X.calm=true):lx X (.builtin "max") (λc H Q=>∃i j,c=[.int i,.int j]/\Q (.int (if j>i then j else i)) H):=by
 intro b s e H c m Q I r h;obtain⟨i,j,rfl,q⟩:=h;obtain⟨u,g,rfl,⟨t,rfl⟩,⟨f,rfl⟩⟩:=Kf r;refine max_two_ints (I.ok.hd d) λl n k=>⟨_,H,I.kept k,?_,q⟩;by_cases a:j>i
 .rw[aj a,aj a];exact⟨_,rfl⟩
 .rw[ah a,ah a];exact⟨_,rfl⟩
def gO:lx a (.type "str") (λc H Q=>∃i,c=[.int i]/\i.natAbs.log2<1920/\Q (.str (toString i)) H):=by
 intro b s f H c e Q I r h;obtain⟨i,rfl,d,q⟩:=h;obtain⟨u,rfl,t,rfl⟩:=oB r;exact PySem.P.str_of_int d ⟨.str _,H,I.tok _,⟨_,rfl⟩,q⟩
structure U2(h:Heap)(x dx C:Addr)(mA:hU):Prop where
 obj:h.get? x=some (PySem.W.instObj C dx)
 ns:h.Ns1 dx mA
 ne:dx≠x
def Mi{h:Heap}(n:h.Ns1 b c):∃g,h.get? b=some g/\∀d,PySem.W.lookIn d g=some (c d):=by
 obtain⟨o,i,s,k,l,r,_,m⟩:=n;refine⟨o,k,λd=>?_⟩;have e:=m d;unfold nsFind findBy at e;rw[<-Array.find?_toList]at e;unfold PySem.W.lookIn;rw[l];dsimp only;split
 .rename_i y q
  rw[q]at e;exact congrArg some e
 .rename_i q
  rw[q]at e;have a:i.toList.any (·.refKey)=false:=by
   rw[List.any_eq_false];intro y j;obtain⟨z,t,f⟩:=r y (ou.mp j);simp[DictEntry.refKey,f]
  have p:¬i.toList.any (·.refKey)=true:=by rw[a];exact bj
  rw[ah p];exact congrArg some e
def U2.look(I:U2 e d a b c):∃g,PySem.W.InstAt e d (PySem.W.instObj b a) b (some g)/\∀f,PySem.W.lookIn f g=some (c f):=let ⟨g,ho,hl⟩:=Mi I.ns
 ⟨g,⟨I.obj,rfl,rfl,ho⟩,hl⟩
def Qz{s:Shared}{K:hO}{Q:hL}(X:K.In s.heap)(I:U2 s.heap g i b c)(q:PySem.W.plainGet K b a=true)(n:PySem.W.hasDictIn K b=true)(p:PySem.W.findIn K (.ref b) a=some none)(m:c a=some d)(o:PySem.W.handedIn d=true)(h:Q d { s with toks:=s.toks+1 }):wpAny (model e l) k (getAttr (.ref g) a f) Q j s:=by
 obtain⟨t,J,r⟩:=I.look;exact PySem.W.get_value X J (j0 q).1 (PySem.W.findObj_own n p rfl (by rw[r,m])) o h
def O5{s:Shared}{K:hO}{Q:Value×List Value->Shared->Prop}(X:K.In s.heap)(I:U2 s.heap e g c d)(m:PySem.W.plainGet K c a=true)(q:PySem.W.findIn K (.ref c) a=some (some (.ref b)))(n:PySem.W.isFn K (.ref b)=true)(o:d a=none)(h:Q (.ref b,[.ref e]) s):wpAny (model f l) k (getMethod (.ref e) a i) Q j s:=by
 obtain⟨p,J,r⟩:=I.look;exact PySem.W.method_fn X J (j0 m).1 (j0 m).2 q (ke.mp n) (by show(PySem.W.lookIn a p).map (·.isSome)=some false;rw[r,o];rfl) h
def QD{s:Shared}{K:hO}{Q:Unit->Shared->Prop}(X:K.In s.heap)(I:U2 s.heap g d e f)(G:PySem.W.findIn K (.ref e) "__setattr__"=some (some (.builtin "object.__setattr__")))(E:PySem.W.plainOver K e=true)(z:PySem.W.takerIn K e c=some none)(C:PySem.W.hasDictIn K e=true)(D:PySem.Within f i)(A:i.length<=sizeLine)(h:∀o,U2 o g d e (λy=>if y=c then some j else f y)->Heap.SameBut d s.heap o->Q () { s with heap:=o,toks:=s.toks+2 }):wpAny (model k n) l (setAttr (.ref g) c j) Q m s:=by
 obtain⟨L,J,N⟩:=I.look;refine PySem.W.set_plain X J G (PySem.W.osa_open (s:={ s with toks:=s.toks+1 }) (r:=none) X J E z λb=>?_);obtain⟨cd,F,q⟩:=PySem.W.any_some C;have x:s.heap.get? g=some ⟨.ref e,some d,.plain,#[]⟩:=I.obj;refine ao (bh (ao (ao (wpAny_loadPart x (ao (PySem.W.Looks.here (s:={ s with toks:=s.toks+1 }) (PySem.W.looks_clsIn X F) ?_))))));rw[q];refine bh (a:=some d) (ao (bh (ao ?_)));refine wpAny_nsSet1 (s:={ s with toks:=s.toks+1 }) I.ns λo v w=>?_;obtain⟨M,B,H,u,t,p⟩:=v.count (PySem.Within.cons c j D);refine ao (wpAny_lookBehind u (by rw[t];exact pastItsLine_dict (aW p (by rw[aO];lia))) ?_);exact bh (h _ ⟨(w.2 _ (Ne.symm I.ne)).trans I.obj,v,I.ne⟩ w)
def Ou{A:Around}{s:Shared}{K:hO}(X:K.In s.heap)(n:PySem.W.makesIn K b=true)(l:PySem.W.findIn K (.ref b) "__init__"=some (some (.ref f)))(m:PySem.W.typeIn K (.ref f)=some (.type "function"))(h:codeAny (model a j) (A.under (.builtin "type.__call__" ⟨.ref b::e,c⟩)) (.call (.ref f) ⟨.ref (s.heap.objs.size+1)::e,c⟩) (PySem.W.InitBack (s.heap.objs.size+1) i)
 { s with heap:=(s.heap.push PySem.W.emptyDict).push (PySem.W.instObj b s.heap.objs.size) }):codeAny (model a j) A (.call (.ref b) ⟨e,c⟩) i s:=by
 obtain⟨o,g,d,t,os⟩:=s;exact PySem.W.make_core (PySem.W.makes_of X n) (PySem.W.looks_findIn X l) (λk=>PySem.W.bind_fn X k m) (.inl rfl) h
def bp(f:Str)(v:V):List (Str×V)->List (Str×V)
 | []=>[(f,v)]
 | (g,x)::r=>if g=f then(g,v)::r else(g,x)::bp f v r
theorem bR(f g:Str)(v:V):∀b:List (Str×V),(bp f v b).lookup g=if g=f then some v else b.lookup g
 | []=>by
   show List.lookup g [(f,v)]=_;by_cases h:g=f
   .have hb:(g==f)=true:=ke.mpr h;simp only[List.lookup,hb,aj h]
   .have hb:(g==f)=false:=beq_eq_false_iff_ne.mpr h;simp only[List.lookup,hb,ah h]
 | (k,x)::r=>by
   have c:=bR f g v r;rw[show bp f v ((k,x)::r)=(if k=f then(k,v)::r else(k,x)::bp f v r)from rfl];by_cases a:k=f
   .rw[aj a];by_cases h:g=k
    .have hb:(g==k)=true:=ke.mpr h;simp only[List.lookup,hb,aj (h.trans a)]
    .have hb:(g==k)=false:=beq_eq_false_iff_ne.mpr h;simp only[List.lookup,hb,ah (λe:g=f=>h (e.trans a.symm))]
   .rw[ah a];by_cases h:g=k
    .have hb:(g==k)=true:=ke.mpr h;simp only[List.lookup,hb,ah (λe:g=f=>a (h.symm.trans e))]
    .have hb:(g==k)=false:=beq_eq_false_iff_ne.mpr h;simp only[List.lookup,hb];exact c
theorem ye(f:Str)(v:V):∀b:List (Str×V),f∈(bp f v b).map (·.1)/\∀g,g∈b.map (·.1)->g∈(bp f v b).map (·.1)
 | []=>⟨by simp[bp],λg h=>by simp at h⟩
 | (k,x)::r=>by
   obtain⟨c,d⟩:=ye f v r;rw[show bp f v ((k,x)::r)=(if k=f then(k,v)::r else(k,x)::bp f v r)from rfl];by_cases a:k=f
   .rw[aj a];subst a;exact⟨by simp,λg h=>by simpa using h⟩
   .rw[ah a];refine⟨?_,λg h=>?_⟩
    .rw[aE];exact aI _ c
    .rw[aE]at h ⊢;rcases aF.mp h with e|e
     .exact aF.mpr (.inl e)
     .exact aI _ (d g e)
theorem AD(f:Str)(v:V):∀b:List (Str×V),(bp f v b).length<=b.length+1
 | []=>by simp[bp]
 | (k,x)::r=>by
   have c:=AD f v r;rw[show bp f v ((k,x)::r)=(if k=f then(k,v)::r else(k,x)::bp f v r)from rfl];by_cases a:k=f
   .rw[aj a,aO,aO];lia
   .rw[ah a,aO,aO];lia
def eQ.some_of(r:eQ (some v) o):∃u,o=some u/\RelV v u:=by
 cases o with
 | none=>exact(show False from r).elim
 | some u=>exact⟨u,rfl,r⟩
def eQ.none_of(r:eQ none a):a=none:=by
 cases a with
 | none=>rfl
 | some u=>exact(show False from r).elim
def LY(r:RelV d c):PySem.W.handedIn c=true:=by
 cases d with
 | ξ=>cases(show c=Value.none from r);rfl
 | bl b=>cases(show c=Value.bool b from r);rfl
 | int i=>obtain⟨t,e⟩:=(show ∃t,c=Value.int i t from r);cases e;rfl
 | str x=>obtain⟨t,e⟩:=(show ∃t,c=Value.str x t from r);cases e;rfl
 | UZ b=>obtain⟨t,e⟩:=(show ∃t,c=Value.bytes b t from r);cases e;rfl
 | XT b=>obtain⟨t,e⟩:=(show ∃t,c=Value.float b t from r);cases e;rfl
 | ref a=>cases(show c=Value.ref a from r);rfl
 | ty n=>cases(show c=Value.type n from r);rfl
def zD(m:ϰ j k g h)(e:g c=some (.ins i b a)):∃l,U2 h c b i l/\(∀f,eQ (a.lookup f) (l f))/\PySem.Within l (a.map (·.1))/\a.length<=1000/\g b=some (.own c):=by
 obtain⟨d,z,ne,o,l,n,r,q⟩:=(show Μ j k g h c (.ins i b a)from m c _ e);exact⟨l,⟨o,n,ne⟩,r,q,z,d⟩
structure UT(K:hO)(C:Addr):Prop where
 pg:PySem.W.plainGet K C Str.empty=true
 hd:PySem.W.hasDictIn K C=true
 po:PySem.W.plainOver K C=true
 sa:PySem.W.findIn K (.ref C) "__setattr__"=some (some (.builtin "object.__setattr__"))
def UT.get{K:hO}{C:Addr}(c:UT K C)(f:Str):PySem.W.plainGet K C f=true:=c.pg
def Ι(K:hO)(C:Addr)(f:Str):Prop:=PySem.W.findIn K (.ref C) f=some none
def Ι.Z8{K:hO}{C:Addr}{f:Str}(n:Ι K C f):PySem.W.takerIn K C f=some none:=by
 unfold PySem.W.takerIn;rw[show PySem.W.findIn K (.ref C) f=some none from n]
 rfl
structure Meth(K:hO)(C:Addr)(m:Str)(f:Addr):Prop where
 at_:PySem.W.findIn K (.ref C) m=some (some (.ref f))
 fn:PySem.W.isFn K (.ref f)=true
 kp:PySem.W.keepIn K (.ref f)=true
def Lp{Q:hL}(I:Inv b d k j m)(e:j p=some (.ins f q i))(c:UT b.K f)(n:Ι b.K f a)(l:i.lookup a=some g)(h:∀u y,Inv b d k j y->RelV g u->Q u y):wpAny (model b.prog b.w) x (getAttr (.ref p) a t) Q s m:=by
 obtain⟨A,O,r,_,_,_⟩:=zD I.Β e;obtain⟨u,B,z⟩:=eQ.some_of (v:=g) (o:=A a) (by rw[<-l];exact r a);exact Qz I.oK O (c.get a) c.hd n B (LY z) (h u _ (I.tok _) z)
def Cu{Q:Value×List Value->Shared->Prop}(I:Inv b j p n f)(e:n g=some (.ins d o i))(c:UT b.K d)(k:Meth b.K d a m)(l:i.lookup a=none)(h:Q (.ref m,[.ref g]) f):wpAny (model b.prog b.w) t (getMethod (.ref g) a q) Q s f:=by
 obtain⟨u,O,r,_,_,_⟩:=zD I.Β e;have v:u a=none:=eQ.none_of (by rw[<-l];exact r a);exact O5 I.oK O (c.get a) k.at_ k.fn v h
def Lu{Q:Unit->Shared->Prop}(I:Inv f k t s u)(e:s p=some (.ins m i a))(c:UT f.K m)(n:Ι f.K m d)(N:a.length<1000)(J:RelV j l)(h:∀B,Inv f k t (upd s p (.ins m i (bp d j a))) B->Q () B):wpAny (model f.prog f.w) v (setAttr (.ref p) d l) Q y u:=by
 obtain⟨E,O,r,D,_,C⟩:=zD I.Β e;have L:(a.map (·.1)).length<=sizeLine:=by rw[ag,sizeLine_eq];lia
 refine QD I.oK O c.sa c.po n.Z8 c.hd D L λH A F=>h _ ?_;have hd:∃o,H.get? i=some o:=let ⟨o,_,_,e',_⟩:=A.ns;⟨o,e'⟩;refine I.write (x:=p) (e:=i) (by rw[e];exact True.intro) (.inr C) (λb q G z=>(F.2 b G).trans z) hd ?_;refine⟨by rw[aM O.ne];exact C,?_,O.ne,A.obj,_,A.ns,λg=>?_,λg M=>?_⟩
 .have:=AD d j a;lia
 .show eQ ((bp d j a).lookup g) (if g=d then some l else E g);rw[bR];by_cases q:g=d
  .rw[aj q,aj q];exact J
  .rw[ah q,ah q];exact r g
 .by_cases q:g=d
  .rw[q];exact(ye d j a).1
  .refine(ye d j a).2 g (D g λz=>M ?_);show(if g=d then some l else E g)=none;rw[ah q];exact z
def Inv.made(I:Inv g d f h c):Inv g d f (upd (upd h c.heap.objs.size (.own (c.heap.objs.size+1))) (c.heap.objs.size+1) (.ins C c.heap.objs.size []))
 { c with heap:=(c.heap.push PySem.W.emptyDict).push (PySem.W.instObj C c.heap.objs.size) }:=by
 have i:(c.heap.push PySem.W.emptyDict).get? c.heap.objs.size=some PySem.W.emptyDict:=bc c.heap rfl;have n:((c.heap.push PySem.W.emptyDict).push (PySem.W.instObj C c.heap.objs.size)).get? (c.heap.objs.size+1)=some (PySem.W.instObj C c.heap.objs.size):=by
  have:=bc (c.heap.push PySem.W.emptyDict) (o:=PySem.W.instObj C c.heap.objs.size) rfl
  rwa [d5]at this
 have l:(c.heap.push PySem.W.emptyDict).Ns c.heap.objs.size (λ_=>none):=⟨PySem.W.emptyDict,#[],_,i,rfl,(λe m=>absurd m (by simp)),λ_=>rfl⟩;have k:=I.laid (a:=c.heap.objs.size) (o:=.own (c.heap.objs.size+1)) (h':=c.heap.push PySem.W.emptyDict) (t':=c.toks) (λb u q=>aB _ q) (aJ _) ⟨_,i⟩;refine k.laid (a:=c.heap.objs.size+1) (o:=.ins C c.heap.objs.size []) (t':=c.toks) (λb u q=>aB _ q) (ly (d5 _ _)) ?_;have ne:c.heap.objs.size≠c.heap.objs.size+1:=aV (fQ _);refine⟨by rw[aM ne,au],cg _,ne,n,λ_=>none,(Heap.Ns1.of_empty l).at λo q=>aB _ q,λ_=>True.intro,λy j=>absurd rfl j⟩
def Qv(m:attributeBase c d a (eval c a)=eval c a)(h:wpAny (model b f) g (eval c a) (λo l=>wpAny (model b f) g (getAttr o d true) i e l) e k):wpAny (model b f) g (eval (.Attribute c d j) a) i e k:=Attribute_any_ h (by rw[arm_eval_Attribute,m])
def Ot(K:hO)(d:TE)(f:Str):TE:=λe H Q=>d e H λx b=>∃a C g c v,x=.ref a/\b a=some (.ins C g c)/\UT K C/\Ι K C f/\c.lookup f=some v/\Q v b
def OX(K:hO)(h i:TE)(f:Str):TS:=λD b H=>i b H λy g=>h b g λx d=>∃a C e c,x=.ref a/\d a=some (.ins C e c)/\UT K C/\Ι K C f/\c.length<1000/\D.nx b (upd d a (.ins C e (bp f y c)))
def cu(y:PE b d f)(m:attributeBase d e b.env (eval d b.env)=eval d b.env):PE b (.Attribute d e g) (Ot b.K f e):=by
 intro i s j H Q I h;refine Qv m (eF (y i s j H _ I h) λu A x t k p ⟨a,C,E,B,v,r,w,c,n,l,q⟩=>?_);subst r;obtain rfl:u=Value.ref a:=p;exact Lp k w c n l λF D z o=>⟨v,t,z,o,q⟩
def lO{m:Pos}(L:PE d i j)(B:PE d b f)(J:swapsWith b (some (.Attribute i g e)) m.line d.env=pure false):PS d (.Assign [.Attribute i g e] b m) (OX d.K j f g):=by
 intro k s o H D I h;refine plainObj_wpAny_Assign_Attribute (eF (B k s o H _ I h) λu t y A r z q=>eF (L k t o A _ r q) λG Q x O M v ⟨a,C,R,P,w,E,c,n,l,p⟩=>?_) J;subst w;obtain rfl:G=Value.ref a:=v;exact Lu M E c n l z λN F=>⟨o,_,F,p⟩
section
variable{H:Hp}
inductive Io(K:hO)(H:Hp):V->Value->Prop where
 | ξ:Io K H .ξ (.type "NoneType")
 | bl (x:Bool):Io K H (.bl x) (.type "bool")
 | int (i:Int):Io K H (.int i) (.type "int")
 | str (x:Str):Io K H (.str x) (.type "str")
 | XT (x:UInt64):Io K H (.XT x) (.type "float")
 | lst {a:Addr} {xs:List V} (e:H a=some (.lst xs)):Io K H (.ref a) (.type "list")
 | U0 {a:Addr} {o:Obj} {xs:List V} (e:H a=some (.U0 o (.lst xs))):Io K H (.ref a) (.type "list")
 | tup {a:Addr} {xs:List V} (e:H a=some (.tup xs)):Io K H (.ref a) (.type "tuple")
 | dK {a:Addr} {ρ:List (Key×V)} (e:H a=some (.dK ρ)):Io K H (.ref a) (.type "dict")
 | dT {a:Addr} {ρ:List (List Key×V)} (e:H a=some (.dT ρ)):Io K H (.ref a) (.type "dict")
 | ins {a C dx:Addr} {fs:List (Str×V)} (e:H a=some (.ins C dx fs)) (cl:UT K C) (ha:PySem.W.findIn K (.ref C) "__class__"=some (some (.builtin "object.__class__")))
  (hn:PySem.W.specialIn K (.builtin "object.__class__") "__get__"=some (some (.builtin "getset_descriptor.__get__"))) (htk:PySem.W.takesIn K (.builtin "object.__class__")=some true)
  (hm:PySem.W.mroIn K C (.type "object")=some true):Io K H (.ref a) (.ref C)
end
def Ng{Q:hL}(I:Inv b j r g f)(u:RelV l c)(D:Io b.K g l d)(e:PySem.W.kitOne b.K d m=some k)(h:∀E,Q (.bool k) { f with toks:=E }):wpAny (model b.prog b.w) s (call (.builtin "isinstance") [c,m]) Q t f:=by
 cases D with
 | ξ=>cases(show c=Value.none from u);exact dC PySem.W.kitx_none I.oK True.intro e (λz=>nomatch z) h
 | bl y=>cases(show c=Value.bool y from u);exact dC PySem.W.kitx_bool I.oK True.intro e (λz=>nomatch z) h
 | int i=>obtain⟨d,q⟩:=(show ∃d,c=Value.int i d from u);cases q;exact dC PySem.W.kitx_int I.oK True.intro e (λz=>nomatch z) h
 | str y=>obtain⟨d,q⟩:=(show ∃d,c=Value.str y d from u);cases q;exact dC PySem.W.kitx_str I.oK True.intro e (λz=>nomatch z) h
 | XT y=>obtain⟨d,q⟩:=(show ∃d,c=Value.float y d from u);cases q;exact dC PySem.W.kitx_float I.oK True.intro e (λz=>nomatch z) h
 | @lst a x ea=>
   cases(show c=Value.ref a from u);obtain⟨_,_,n,_,v⟩:=(show Μ b.prog b.w g f.heap a (.lst x)from I.Β a _ ea);exact dC PySem.W.kitx_list I.oK ⟨_,v,rfl⟩ e (λz=>nomatch z) h
 | @U0 a ob x ea=>
   cases(show c=Value.ref a from u);obtain⟨_,_,_,n,_,v⟩:=(show Μ b.prog b.w g f.heap a (.U0 ob (.lst x))from I.Β a _ ea);exact dC PySem.W.kitx_list I.oK ⟨_,v,rfl⟩ e (λz=>nomatch z) h
 | @tup a x ea=>
   cases(show c=Value.ref a from u);obtain⟨_,_,_,p⟩:=(show Μ b.prog b.w g f.heap a (.tup x)from I.Β a _ ea);obtain⟨o,v,A,_⟩:=p;exact dC PySem.W.kitx_tuple I.oK ⟨o,v,A⟩ e (λz=>nomatch z) h
 | @dK a ρ ea=>
   cases(show c=Value.ref a from u);obtain⟨_,_,H,_,p⟩:=(show Μ b.prog b.w g f.heap a (.dK ρ)from I.Β a _ ea);obtain⟨o,B,F,v,A,_⟩:=p;exact dC PySem.W.kitx_dict I.oK ⟨o,v,A.1⟩ e (λz=>nomatch z) h
 | @dT a ρ ea=>
   cases(show c=Value.ref a from u);obtain⟨_,_,x,_,o,B,F,v,A,_⟩:=(show Μ b.prog b.w g f.heap a (.dT ρ)from I.Β a _ ea);exact dC PySem.W.kitx_dict I.oK ⟨o,v,A.1⟩ e (λz=>nomatch z) h
 | @ins a C dx fs ea cl ha hn htk hm=>
   cases(show c=Value.ref a from u);obtain⟨L,O,_⟩:=zD I.Β ea;obtain⟨G,J,_⟩:=O.look;exact dC (PySem.W.kitx_own (cl.get _) cl.hd ha hn htk hm) I.oK J e (λz=>nomatch z) h
structure Ρ(k:Nat)(A:Around):Prop where
 hd:A.handled=none
 dp:A.depth+3*k+5<recursionLimit
 un:A.units+16*k+200<cLine
def Ρ.mono{j:Nat}(r:Ρ b a)(h:j<=b):Ρ j a:=⟨r.hd,by have:=r.dp;lia,by have:=r.un;lia⟩
def Ρ.deeper{k:Nat}(r:Ρ (k+1) a)(b:Env):Ρ k (a.deeper b):=⟨r.hd,by have:=r.dp;show a.depth+1+3*k+5<_;lia,by have:=r.un;show a.units+3+16*k+200<_;lia⟩
def KM{A:Around} :(A.under (.builtin "type.__call__" ⟨.ref c::a,b⟩)).depth=A.depth+1:=by
 first|rfl|simp[Around.under,Code.weight,Code.isCreation,Code.isGuard,Code.isCaller,Code.frames,Code.isFrame,guardIds]
def Kn{A:Around} :(A.under (.builtin "type.__call__" ⟨.ref c::a,b⟩)).units=A.units+1:=by
 first|rfl|simp[Around.under,Code.cUnits,Code.frames,Code.isFrame]
def Ρ.make{k:Nat}(r:Ρ (k+1) a)(C:Addr)(b:hT)(c:List (Str×Value)):Ρ k (a.under (.builtin "type.__call__" ⟨.ref C::b,c⟩)):=⟨r.hd,by have:=r.dp;rw[KM];lia,by have:=r.un;rw[Kn];lia⟩
def Ρ.depth(r:Ρ b a):a.depth<recursionLimit:=by have:=r.dp;lia
def Ρ.units(r:Ρ b a):a.units+64<cLine:=by have:=r.un;lia
def We:TA:=λ_ H Q=>Q [] H
def FX(c:TE)(f:TA):TA:=λa H Q=>c a H λx b=>f a b λe d=>Q (x::e) d
def ap:PA a [] We:=λ_ _ _ _ H Q I h=>iE ⟨[],H,I,.nil,h⟩
def aa(v:PE a c d)(t:PA a b e)(r:starEach (c::b) a.env=(false,eval c a.env)::starEach b a.env:=by rfl):PA a (c::b) (FX d e):=by
 intro g f s i H Q I h;rw[r];show wpAny _ _ (spliced ((false,eval c a.env)::backTo g (starEach b a.env))) _ _ s;refine ii (eF (v f s i H _ I h) λu l x m k q y=>?_);exact sH (t g f l i m _ k y) λz A o n w p j=>⟨x::o,n,w,.cons q p,j⟩
def OS(t:TA):TE:=λc H Q=>t c H λb a=>b.length<=sizeLine/\∀p,a p=none->Q (.ref p) (upd a p (.tup b))
def Pm(t:TA):TE:=λc H Q=>t c H λb a=>b.length<=sizeLine/\∀p,a p=none->Q (.ref p) (upd a p (.lst b))
def hV{x1}(h:PA d c f):PE d (.Tuple c x1 a) (OS f):=by
 intro g s l H Q I p;refine wpAny_Tuple_spliced (sH (h a g s l H _ I p) λn i o k j r ⟨z,q⟩=>⟨by rw[<-r.length];exact z,?_⟩);have m:k i.heap.objs.size=none:=j.Β.fresh (aJ _);refine⟨.ref i.heap.objs.size,upd k i.heap.objs.size (.tup o),j.laid (t':=i.toks) (λb u e=>aB _ e) (aJ _) ?_,rfl,q _ m⟩;exact⟨z,n,r,⟨_,bc _ rfl,rfl,_,rfl⟩⟩
def eK(h:PA d c f):PE d (.List c a) (Pm f):=by
 intro g s l H Q I p;refine wpAny_List_spliced (sH (h a g s l H _ I p) λn i o k j r ⟨z,q⟩=>⟨by rw[<-r.length];exact z,?_⟩);have m:k i.heap.objs.size=none:=j.Β.fresh (aJ _);refine⟨.ref i.heap.objs.size,upd k i.heap.objs.size (.lst o),j.laid (t':=i.toks) (λb u e=>aB _ e) (aJ _) ?_,rfl,q _ m⟩;exact⟨z,n,0,r,bc _ rfl⟩
abbrev Sp:=List V->Hp->VK->XK->Prop
abbrev Th:=List Env->Hp->Shared->XK->Value->Shared->Prop
structure U3(P:Program)(w:World)(K:hO)(mg:hU)(base:Heap)(A:Around)(outer:List Env)(s:Shared)(H:Hp):Prop where
 frames:A.frames=some outer
 mod:Mod K mg base
 bs:∀b o,base.get? b=some o->s.heap.get? b=some o/\H b=none
 V7:base.objs.size<=s.heap.objs.size
 gT:s.heap.FunFrames base outer
 WN:∀b∈ϧ outer,H b=none
 Β:ϰ P w H s.heap
 bare:AllBare s.gens
def CE(a:List Env)(P:Program)(w:World)(H:Hp)(s:Shared)(Q:VK)(u:Value)(b:Shared):Prop:=∃v c,b.os=s.os/\AllBare b.gens/\Un (ϧ a) [] H c s.heap b.heap/\ϰ P w c b.heap/\RelV v u/\Q v c
def CR(c:Th)(a:List Env)(P:Program)(w:World)(H:Hp)(s:Shared)(Q:VK)(E:XK)(r:Result)(b:Shared):Prop:=match r with
 | .ok (.ret u)=>CE a P w H s Q u b
 | .ok _=>False
 | .error e=>c a H s E e b
structure ϋ(P:Program)(w:World)(K:hO)(mg:hU)(base:Heap)(CX:Th)(k:Nat)(f:Addr)(fd:FuncData)(ps:hX)(sp:Sp):Prop where
 len:∀vs H Q E,sp vs H Q E->vs.length=ps.length
 run:∀(A:Around)(outer:List Env)(s:Shared)(H:Hp)(args:Args)(us:hT)(vs:List V)(Q:VK)(E:XK),Ρ k A->U3 P w K mg base A outer s H->BindsTo s fd args (ps.zip us)->Vals vs us->sp vs H Q E->codeAny (model P w) A (.call (.ref f) args) (CR CX outer P w H s Q E) s
def U3.make{P:Program}{w:World}{K:hO}{c:hU}{b:Heap}{A:Around}{a:List Env}{s:Shared}{H:Hp}(e:U3 P w K c b A a s H)(C:Addr)(d:hT)(f:List (Str×Value)):U3 P w K c b (A.under (.builtin "type.__call__" ⟨.ref C::d,f⟩)) a s H:=⟨by first|exact e.frames|(simpa[Around.under,Code.envs,Code.isFrame,pushEnvs]using e.frames),e.mod,e.bs,e.V7,e.gT,e.WN,e.Β,e.bare⟩
def Inv.YD(I:Inv a b e d c):U3 a.prog a.w a.K a.mg a.base a.A a.stack c d:=⟨I.ok.frames,I.ok.mod,I.bs,aW I.ok.V7 I.sz,I.stack,I.oR,I.Β,I.bare⟩
def Inv.after(I:Inv a c i k f)(h:CE a.stack a.prog a.w k f j l e):EP a c i j l e:=by
 obtain⟨v,u,os,m,p,o,r,q⟩:=h;obtain⟨s,g,d,t,n⟩:=e;obtain rfl:n=f.os:=os;exact⟨v,u,I.call (h':=s) (g':=g) (d':=d) (t':=t) (ch:=[]) p o m (λb z=>absurd z (by simp)),r,q⟩
def sj(e:Sp)(c:List V)(E:XK)(t:TA):TE:=λb H Q=>t b H λd a=>e (d++c) a Q E
def F0(C:Addr)(m:Str)(j:Sp)(g:List V)(E:XK)(e:TE)(t:TA):TE:=λc H Q=>e c H λx b=>∃a h d,x=.ref a/\b a=some (.ins C h d)/\d.lookup m=none/\t c b λi f=>j (x::(i++g)) f Q E
def LF(C:Addr)(g:Sp)(e:List V)(E:XK)(t:TA):TE:=λd H Q=>t d H λf b=>∀x a,b x=none->b a=none->a≠x->g (.ref x::(f++e)) (upd (upd b a (.own x)) x (.ins C a [])) (λv c=>v=.ξ/\Q (.ref x) c) E
def Binds(K:hO)(d:FuncData)(c:hX)(b:hT):Prop:=∀(s:Shared)(a:hT),K.In s.heap->(a++b).length=c.length->BindsTo s d ⟨a,[]⟩ (c.zip (a++b))
def Binds.all{K:hO}{c:FuncData}{b:hX}(h:∀a:List Value,a.length=b.length->bindArgs c ⟨a,[]⟩=pure (b.zip a)):Binds K c b []:=λs a _ d=>by
 rw[ck]at d ⊢;exact .of_eq (h a d)
def pJ(c:Th)(X:Cx)(E:XK):Prop:=∀(a:hP)(d:St)(H:Hp)(s:Shared)(e:Value)(b:Shared),Inv X a d H s->c X.stack H s E e b->X.xe e b
def Gf{X:Cx}(F:ϋ X.prog X.w X.K X.mg X.base l p o m f n)(z:Ρ p X.A)(x:Binds X.K m f c)(y:Vals a c)(t:pJ l X j)(I:Inv X b g i d)(r:Vals vs us)(h:n (vs++a) i k j):wpAny (model X.prog X.w) X.A (call (.ref o) us) (EP X b g k) X.xe d:=by
 have s:Vals (vs++a) (us++c):=r.append y;have B:(us++c).length=f.length:=by rw[<-s.length];exact F.len _ _ _ _ h
 refine mq (jq (F.run X.A X.stack d i ⟨us,[]⟩ (us++c) (vs++a) k j z I.YD (x d us I.oK B) s h) λr v q=>?_);cases r with
 | error e=>exact t b g i d e v I q
 | ok fl=>
   cases fl with
   | ret u=>exact I.after q
   | next=>exact False.elim q
   | brk=>exact False.elim q
   | cont=>exact False.elim q
def gD{X:Cx}(F:ϋ X.prog X.w X.K X.mg X.base j n i f k g)(J:Ρ n X.A)(G:Gl X d)(B:X.mg d=some (.ref i))(E:PySem.W.keepIn X.K (.ref i)=true)(y:Binds X.K f k l)(z:Vals c l)(v:pJ j X m)(L:PA X (e::a) o)(hdb:(d==("__debug__":Str))=false:=by decide)(D:starEach (e::a) X.env=(false,eval e X.env)::starEach a X.env:=by rfl)(C:(backTo b (starEach a X.env)).any (·.1)=false:=by rfl):PE X (.Call (.Name d p) (e::a) [] b) (sj g c m o):=by
 intro t s x H Q I h;refine hJ (tQ I G B ?_ hdb);refine i5 (h₀:=X.base) I.ok.mod.Yv E (sH (L b t s x H _ I h) λO M N P u r q=>⟨u.oK,?_⟩) D C;exact Gf F J y z v u r q
def nV(he:PE b m z)(c:UT b.K t)(M:Meth b.K t i k)(F:ϋ b.prog b.w b.K b.mg b.base p D k n v o)(hr:Ρ D b.A)(T:Binds b.K n v y)(hd:Vals j y)(P:pJ p b C)(ha:PA b (g::e) E)(Y:starEach (g::e) b.env=(false,eval g b.env)::starEach e b.env:=by rfl)(Ϸ:(backTo d (starEach e b.env)).any (·.1)=false:=by rfl)(S:eval (.Call (.Attribute m i f) (g::e) [] d) b.env=(do
 let N <-eval m b.env
 standAt f.atName
 let (k,first) <-holding [N] (getMethod N i B)
 callWith d k first (backTo d (starEach (g::e) b.env)) (backToKw d (keywordEach [] b.env))):=by rfl):PE b (.Call (.Attribute m i f) (g::e) [] d) (F0 t i o j C z E):=by
 intro G s J H Q I h;refine mD (pl:=B) (eF (he G s J H _ I h) λu U x X L V ⟨a,dx,fs,W,Z,l,q⟩=>?_) S;subst W;obtain rfl:u=Value.ref a:=V;refine Cu L Z c M l ?_;refine i5 (first:=[.ref a]) (h₀:=b.base) I.ok.mod.Yv M.kp (sH (ha d G U J X _ L q) λus s2 vs H2 O r R=>⟨O.oK,?_⟩) Y Ϸ;exact Gf (us:=.ref a::us) (vs:=.ref a::vs) F hr T hd P O (.cons rfl r) R
def gu(S:PE b j t)(c:UT b.K o)(D:Meth b.K o f i)(F:ϋ b.prog b.w b.K b.mg b.base n z i k p m)(T:Ρ z b.A)(M:Binds b.K k p r)(N:Vals g r)(G:pJ n b y)(L:eval (.Call (.Attribute j f e) [] [] d) b.env=(do
 let E <-eval j b.env
 standAt e.atName
 let (i,first) <-holding [E] (getMethod E f v)
 callWith d i first (backTo d (starEach [] b.env)) (backToKw d (keywordEach [] b.env))):=by rfl):PE b (.Call (.Attribute j f e) [] [] d) (F0 o f m g y t We):=by
 intro B s J H Q I h;refine mD (pl:=v) (eF (S B s J H _ I h) λu U x V C O ⟨a,Y,X,P,R,l,q⟩=>?_) L;subst P;obtain rfl:u=Value.ref a:=O;refine Cu C R c D l ?_;exact PySem.W.callWith_K0 (first:=[.ref a]) C.oK D.kp (Gf (us:=[.ref a]) (vs:=[.ref a]) F T M N G C (.cons rfl .nil) q)
section
variable{f C:Addr}
structure Mk(K:hO)(C f:Addr):Prop where
 makes:PySem.W.makesIn K C=true
 init:PySem.W.findIn K (.ref C) "__init__"=some (some (.ref f))
 fn:PySem.W.isFn K (.ref f)=true
 kp:PySem.W.keepIn K (.ref C)=true
end
def OV{X:Cx}{Q:VK}(M:Mk X.K i q)(F:ϋ X.prog X.w X.K X.mg X.base s t q n k o)(U:Ρ (t+1) X.A)(L:Binds X.K n k d)(O:Vals g d)(G:pJ s X p)(I:Inv X c l m b)(r:Vals j a)(h:∀x z,m x=none->m z=none->z≠x->o (.ref x::(j++g)) (upd (upd m z (.own x)) x (.ins i z [])) (λv P=>v=.ξ/\Q (.ref x) P) p):wpAny (model X.prog X.w) X.A (call (.ref i) a) (EP X c l Q) X.xe b:=by
 have D:=h (b.heap.objs.size+1) b.heap.objs.size (I.Β.fresh (gA _)) (I.Β.fresh (aJ _)) (aV (fQ _));have B:=Inv.made (C:=i) I;have E:Vals (V.ref (b.heap.objs.size+1)::(j++g)) (Value.ref (b.heap.objs.size+1)::(a++d)):=.cons rfl (r.append O);have W:(Value.ref (b.heap.objs.size+1)::a++d).length=k.length:=by
  have e:=E.length;rw[F.len _ _ _ _ D]at e;exact e.symm
 refine mq (Ou (f:=q) I.oK M.makes M.init (ke.mp M.fn) (jq (F.run _ X.stack _ _ ⟨Value.ref (b.heap.objs.size+1)::a,[]⟩ (Value.ref (b.heap.objs.size+1)::(a++d)) _ _ p (U.make i a [])
  (B.YD.make i a []) (L _ (Value.ref (b.heap.objs.size+1)::a) B.oK W) E D) λr J y=>?_))
 cases r with
 | error e=>exact G c l _ _ e J B y
 | ok fl=>
   cases fl with
   | ret u=>
     obtain⟨v,T,S,H,N,R⟩:=B.after y;subst N;exact⟨H,⟨V.ref (b.heap.objs.size+1),T,S,rfl,R⟩⟩
   | next=>exact False.elim y
   | brk=>exact False.elim y
   | cont=>exact False.elim y
def vX{X:Cx}(M:Mk X.K j n)(F:ϋ X.prog X.w X.K X.mg X.base i o n f k g)(G:Ρ (o+1) X.A)(E:Gl X d)(B:X.mg d=some (.ref j))(z:Binds X.K f k l)(hd:Vals c l)(x:pJ i X m)(J:PA X (e::a) p)(hdb:(d==("__debug__":Str))=false:=by decide)(D:starEach (e::a) X.env=(false,eval e X.env)::starEach a X.env:=by rfl)(C:(backTo b (starEach a X.env)).any (·.1)=false:=by rfl):PE X (.Call (.Name d t) (e::a) [] b) (LF j g c m p):=by
 intro u s y H Q I h;refine hJ (tQ I E B ?_ hdb);refine i5 (h₀:=X.base) I.ok.mod.Yv M.kp (sH (J b u s y H _ I h) λO L N P v r q=>⟨v.oK,?_⟩) D C;exact OV M F G z hd x v r q
structure ε(N P:hX)(sc:Scope):Prop where
 kind:sc.kind=.function
 co:sc.isCoroutine=false
 gen:sc.isGenerator=false
 nd:N.Nodup
 pre:N.take P.length=P
 par:∀x∈P,sc.names.lookup x=some .local\/sc.names.lookup x=some .cell
 YF:∀y∈sc.names,y.2≠.free
theorem Fq{b:Str->Option NameKind}{x:Str}:∀{a:List (Str×Value)}{m:hU},(∀v,(x,v)∉a)->bindL b a m x=m x
 | [],_,_=>rfl
 | (n,v)::r,m,h=>by
   unfold bindL;rw[Fq λw c=>h w (aI _ c)];split
   .have:x≠n:=(by rintro rfl;exact h v aL);simp[this]
   .rfl
theorem EL{b:Str->Option NameKind}{x:Str}:∀{a:List (Str×Value)}{m:hU},(∀v,(x,v)∉a)->bindC b a m x=m x
 | [],_,_=>rfl
 | (n,v)::r,m,h=>by
   unfold bindC;rw[EL λw c=>h w (aI _ c)];split
   .rfl
   .have:x≠n:=(by rintro rfl;exact h v aL);simp[this]
theorem Fl{c:Str->Option NameKind} :∀{P:hX}{d:hT}{i:Nat}{m:hU},P.Nodup->P[i]?=some a->d[i]?=some b->c a=some .local->bindL c (P.zip d) m a=some b
 | [],_,_,_,_,h,_,_=>by simp at h
 | _::_,[],_,_,_,_,h,_=>by simp at h
 | p::P,w::d,0,m,nd,h1,h2,hk=>by
   simp at h1 h2;subst h1;subst h2;show bindL c ((p,w)::P.zip d) m p=_;unfold bindL;rw[Fq λb e=>(bD.mp nd).1 (mh e).1,aj hk];simp
 | p::P,w::d,i+1,m,nd,h1,h2,hk=>by
   show bindL c ((p,w)::P.zip d) m a=_;unfold bindL;exact Fl (i:=i) (bD.mp nd).2 (by simpa using h1) (by simpa using h2) hk
theorem Fp{c:Str->Option NameKind} :∀{P:hX}{d:hT}{i:Nat}{m:hU},P.Nodup->P[i]?=some a->d[i]?=some b->c a≠some .local->bindC c (P.zip d) m a=some b
 | [],_,_,_,_,h,_,_=>by simp at h
 | _::_,[],_,_,_,_,h,_=>by simp at h
 | p::P,w::d,0,m,nd,h1,h2,hk=>by
   simp at h1 h2;subst h1;subst h2;show bindC c ((p,w)::P.zip d) m p=_;unfold bindC;rw[EL λb e=>(bD.mp nd).1 (mh e).1,ah hk];simp
 | p::P,w::d,i+1,m,nd,h1,h2,hk=>by
   show bindC c ((p,w)::P.zip d) m a=_;unfold bindC;exact Fp (i:=i) (bD.mp nd).2 (by simpa using h1) (by simpa using h2) hk
def start(N:hX)(a:List V):St:=a.map some++List.replicate (N.length-a.length) none
def sF(d:Th)(P:Program)(w:World)(K:hO)(mg:hU)(base:Heap)(N:hX)(b:Str)(a:Scope)(f:Addr)(cd:Value)(A:Around)(outer:List Env)(s:Shared)(H:Hp)(E:XK):Cx where
 prog:=P
 w:=w
 K:=K
 mg:=mg
 base:=base
 A:=A.deeper (envOfC b a s.heap.objs.size f cd)
 N:=N
 s₀:=s
 H₀:=H
 env:=envOfC b a s.heap.objs.size f cd
 outer:=outer
 stack:=envOfC b a s.heap.objs.size f cd::outer
 ex:=[]
 calm:=true
 fn:=λ_=>true
 pn:=[]
 xe:=λe g=>wpAny (model P w) (A.deeper (envOfC b a s.heap.objs.size f cd)) (leaving (envOfC b a s.heap.objs.size f cd) e) (λ_ c=>d outer H s E e c) (λh c=>d outer H s E h c) g
def Bi{b:Scope}(h:b.names.lookup a=some .cell):∃c,(cellsFrom n b.names []).lookup a=some c:=by
 have q:=mi b.names n [] (.inl h);exact gR.mp q
def MC{Q:Th}{P:Program}{w:World}{K:hO}{L:hU}{m:Heap}{N C:hX}{j:Str}{d:Scope}{f:Addr}{cd:Value}{A:Around}{g:List Env}{s O:Shared}{H:Hp}{E:XK}{J:hT}{t:List V}(S:ε N C d)(U:A.handled=none)(o:U3 P w K L m A g s H)(hl:t.length=C.length)(r:Vals t J)(x:InCallC s s.heap.objs.size (bindL (envOfC j d s.heap.objs.size f cd).kindOf (C.zip J) λ_=>none) (cellsFrom (s.heap.objs.size+1) d.names []) (bindC (envOfC j d s.heap.objs.size f cd).kindOf (C.zip J) λ_=>none) O):Inv (sF Q P w K L m N j d f cd A g s H E) [] (start N t) H O:=by
 have Ϸ:C.length<=N.length:=by have:=congrArg List.length S.pre;rw[bq]at this;lia
 obtain⟨I,Z,rfl,R⟩:=x.done;have B:∀b:Addr,b∉(sF Q P w K L m N j d f cd A g s H E).ex:=λb z=>absurd (show b∈([]:hR)from z) (by simp);refine⟨⟨o.mod,S.kind,rfl,rfl,aJ _,λy z c I l=>?_,λy hy=>?_,λy c _ h=>?_,λ_=>U,Around.frames_deeper o.frames,.inr ⟨rfl,rfl⟩,λb z=>absurd z (B b),o.bs,o.V7,λb _ _=>B b,λb z=>absurd z (B b),o.gT,o.WN⟩,rfl,o.bare,Un.kept R,⟨_,x.toInCall.ns,λi y v I l Y=>?_⟩,λy c h=>⟨_,x.cell y c h⟩,o.Β.fresh (aJ _),λy c h=>?_,λp F=>absurd (show p∈([]:hP)from F) (by simp),o.Β.kept R,?_⟩
 .exact name_of_addr x.apart (d9 I) (d9 l)
 .have hy:d.names.lookup y=some .cell\/d.names.lookup y=some .free:=hy;rcases hy with hy|hy
  .exact Bi hy
  .exact absurd rfl (S.YF _ (d9 hy))
 .exact iP (x.above y c (d9 h))
 .have G:i<t.length:=by
   unfold start at l;by_cases G:i<t.length
   .exact G
   .rw[dc (by simpa using G)]at l;rw[jc]at l;split at l<;>cases l
  have X:t[i]?=some v:=by
   unfold start at l;rw[eJ (by simpa using G),aN]at l;cases e:t[i]? with
   | none=>rw[e]at l;cases l
   | some a=>rw[e]at l;cases l;rfl
  obtain⟨u,M,T⟩:=r.get X;have F:C[i]?=some y:=by
   rw[<-S.pre,gQ (by lia)];exact I
  have D:C.Nodup:=by rw[<-S.pre];exact S.nd.sublist (kU _ _)
  refine⟨u,T,?_⟩;rcases S.par y (aP F)with k|k
  .exact .inl ⟨k,Fl D F M k⟩
  .obtain⟨c,e⟩:=Bi (n:=s.heap.objs.size+1) k;refine .inr ⟨.inl k,c,e,?_⟩;have q:=x.cell y c e;rw[Fp D F M (by show d.names.lookup y≠_;rw[k];decide)]at q;exact q
 .exact o.Β.fresh (iP (x.above y c (d9 h)))
 .unfold start;show _=N.length;rw[aH,ag,b8]
  lia
def P8{G:Th}{P:Program}{w:World}{K:hO}{L:hU}{base:Heap}{k:Nat}{f:Addr}{l d:Str}{g:Arguments}{h:List Stmt}{a:Scope}{dV kV D Z p ct oc:Value}{an od:Option Addr}{UA:Array (Option Value)}{N M:hX}{U:Sp}(lk:K.lookup f=some ⟨oc,od,.func (PySem.W.fnOf l d g h a dV kV D Z an p ct),UA⟩)(Vw:PySem.W.codeIn K p d=true)(S:ε N M a)(F:∀i H Q E,U i H Q E->i.length=M.length)(UB:∀(A:Around) (c:List Env) (s:Shared) (H:Hp) (i:List V) (Q:VK) (E:XK),Ρ k (A.deeper (envOfC d a s.heap.objs.size f p))->U i H Q E->∃t,UR (sF G P w K L base N d a f p A c s H E) h t/\t { nx:=λ_ m=>Q .ξ m,rt:=Q } (start N i) H):ϋ P w K L base G (k+1) f (PySem.W.fnOf l d g h a dV kV D Z an p ct) M U:=by
 refine⟨F,λA c s H ak us i Q E Y B hb r WT=>?_⟩;have hl:=F _ _ _ _ WT;have KX:K.In s.heap:=B.mod.Yv.keeps λb o e=>(B.bs b o e).1;have X:s.heap.NoLimit:=B.mod.nolimit.keeps λb o e=>(B.bs b o e).1;have T:∀y∈M.zip us,a.names.lookup y.1=some .local\/(a.names.lookup y.1=some .cell/\((cellsFrom (s.heap.objs.size+1) a.names []).lookup y.1).isSome=true):=λ⟨n,v⟩ hy=>by
  rcases S.par n (mh hy).1 with q|q
  .exact .inl q
  .exact .inr ⟨q,mi _ _ _ (.inl q)⟩
 refine codeAny_call_function Y.depth (KX _ _ lk) rfl S.co S.gen rfl (PySem.W.codeRec_of KX Vw) (hb _ _ _ _ ?_);refine wpAny_newFunctionEnv_cells S.kind T λa8 he s1 x=>?_;subst he;refine⟨X.keeps x.toInCall.keep,codeAny_func ?_⟩;obtain⟨t,ht,hq⟩:=UB A c s H i Q E (Y.deeper _) WT;have I:Inv (sF G P w K L base N d a f p A c s H E) [] (start N i) H s1:=MC S Y.hd B hl r x;refine db (ht [] s1 (start N i) H _ I hq) (λfl R z=>?_) λe R z=>z;have C:∀{j:St}{m:Hp}{v:V}{u:Value},Inv (sF G P w K L base N d a f p A c s H E) [] j m R->RelV v u->Q v m->CE c P w H s Q u R:=λ{j m v u} J O q=>⟨v,m,J.os,J.bare,J.base,J.Β,O,q⟩
 cases fl with
 | ret u=>
   obtain⟨v,j,m,J,O,q⟩:=z;exact C J O q
 | next=>
   obtain⟨j,m,J,q⟩:=z;exact C (v:=V.ξ) (u:=Value.none) J rfl q
 | brk=>
   obtain⟨_,_,_,q⟩:=z;exact False.elim q
 | cont=>
   obtain⟨_,_,_,q⟩:=z;exact False.elim q
def ZD(r:List V->Hp->VK->Prop)(t:TA):TE:=λb H Q=>t b H λc a=>r c a Q
def Oc{X:Cx}{x:Str}{p:Pos}{b:Pos}{e:Expr}{c:List Expr}{t:TA}{id:String}{r:List V->Hp->VK->Prop}(u:lx X (.builtin id) r)(w:Gl X x)(j:X.mg x=none)(n:bootBuiltins x=some (.builtin id))(z:PA X (e::c) t)(y:x≠"__name__":=by decide)(d:(x==("__debug__":Str))=false:=by decide)(q:starEach (e::c) X.env=(false,eval e X.env)::starEach c X.env:=by rfl)(o:(backTo b (starEach c X.env)).any (·.1)=false:=by rfl):PE X (.Call (.Name x p) (e::c) [] b) (ZD r t):=by
 intro a s f H Q I h;refine hJ (pR I w j n ?_ y d);exact PyProof.Rows.callWith_builtin1 (sH (z b a s f H _ I h) λl i k m g v A=>u a i f m k l Q g v A) q o
def y6(x:lx a (.type g) f)(z:Gl a d)(p:a.mg d=none)(u:bootBuiltins d=some (.type g))(B:PA a (e::b) i)(A:d≠"__name__":=by decide)(l:(d==("__debug__":Str))=false:=by decide)(w:starEach (e::b) a.env=(false,eval e a.env)::starEach b a.env:=by rfl)(v:(backTo c (starEach b a.env)).any (·.1)=false:=by rfl):PE a (.Call (.Name d j) (e::b) [] c) (ZD f i):=by
 intro k s m H Q I h;refine hJ (pR I z p u ?_ A l);exact cR (sH (B c k s m H _ I h) λr o q t n y C=>x k o m t q r Q n y C) w v
end L2
namespace HT
open PySem PyProof.Rows
def TQ(n d:Nat):Option Int->Nat
 | none=>d
 | some v=>if v<0 then(v+(n:Int)).toNat else min v.toNat n
end HT
namespace L2
open PySem PySem.Spec PyProof.Rows
abbrev TO:=St->Hp->(Option Int->Hp->Prop)->Prop
def PO(X:Cx)(e:Option Expr)(t:TO):Prop:=∀(a:hP)(s:Shared)(b:St)(H:Hp)(Q:Option Int->Hp->Prop),Inv X a b H s->t b H Q->wpAny (model X.prog X.w) X.A (evalPart e X.env) (λu d=>∃o c,Inv X a b c d/\IsPart u o/\Q o c) X.xe s
def Tj:TO:=λ_ H Q=>Q none H
def F1(t:TE):TO:=λb H Q=>t b H λx a=>∃i,x=.int i/\Q (some i) a
def D8:PO a none Tj:=by
 intro b s c H Q I h;rw[evalPart_none];exact bh ⟨none,H,I,.none,h⟩
def Ea(h:PE b c a):PO b (some c) (F1 a):=by
 intro d s f H Q I j;rw[evalPart_some];refine eF (h d s f H _ I j) λu m x e g k l=>?_;obtain⟨i,rfl,q⟩:=l;obtain⟨t,rfl⟩:=k;exact⟨some i,e,g,.int i t,q⟩
def SlR(X:Cx)(r:V->Option Int->Option Int->Hp->VK->Prop):Prop:=∀(a:hP)(s:Shared)(c:St)(H:Hp)(x:V)(v b e:Value)(lo d:Option Int)(f:Addr)(Q:VK),Inv X a c H s->RelV x v->s.heap.IsSliceOf f b e .none->IsPart b lo->IsPart e d->r x lo d H Q->∃T id,typeLookup (.type T) "__getitem__"=pure (some (.builtin id))/\s.TypeIs v T/\wpAny (model X.prog X.w) X.A (getItem v (.ref f)) (EP X a c Q) X.xe s
def tSl(r:V->Option Int->Option Int->Hp->VK->Prop)(g:TE)(d c:TO):TE:=λa H Q=>g a H λx e=>d a e λl f=>c a f λu b=>r x l u b Q
def AU{lo:Option Expr}{p:Option Expr}{r:V->Option Int->Option Int->Hp->VK->Prop}(W:SlR a r)(O:PE a e d)(B:PO a lo c)(D:PO a p g):PE a (.Subscript e (.Slice lo p none f) i) (tSl r d c g):=by
 intro j s m H Q I h;refine Subscript_ (eF (O j s m H _ I h) λv F x G E S Y=>?_);refine wpAny_Slice (ϕ (B j F m G _ E Y) λo L ⟨l,J,X,N,z⟩=>ϕ (D j L m J _ X z) λn k ⟨u,t,P,K,M⟩=>?_);rw[evalPart_none];refine bh ?_;have R:Inv a j m t { k with heap:=k.heap.push { cls:=.type "slice",data:=.fields #[o,n,.none] } }:=P.kept (t':=k.toks) λb Z q=>aB _ q;obtain⟨T,id,y,C,U⟩:=W j { k with heap:=k.heap.push { cls:=.type "slice",data:=.fields #[o,n,.none] } } m t x v o n l u k.heap.objs.size Q R S (Heap.IsSliceOf.new ..) N K M;show wpAny (model a.prog a.w) a.A (subscriptTail e (.Slice lo p none f) v (.ref k.heap.objs.size)) (EP a j m Q) a.xe { k with heap:=k.heap.push { cls:=.type "slice",data:=.fields #[o,n,.none] } };exact tail_any (ops:=[.ref k.heap.objs.size,v]) C y U (by with_unfolding_all rfl)
def xX(a:List V)(lo b:Option Int):List V:=(a.drop (HT.TQ a.length 0 lo)).take (HT.TQ a.length a.length b-HT.TQ a.length 0 lo)
def II(a:List V)(lo b:Option Int):(xX a lo b).length<=a.length:=by
 unfold xX;rw[bq,fN]
 lia
def Vx(n:Nat)(i:Int):Option Nat:=if 0<=i then(if i<n then some i.toNat else none)else if -(n:Int)<=i then some (i+n).toNat else none
def ϳ(b:List a)(i:Int):Option a:=(Vx b.length i).bind λj=>b[j]?
def JN{i:Int}(h:Vx a i=some b):seqIndex? i a=some b/\b<a/\-(a:Int)<=i/\i<a:=by
 unfold Vx at h;by_cases d:0<=i
 .rw[aj d]at h;by_cases c:i<a
  .rw[aj c]at h;have e:i.toNat=b:=bF h;exact⟨by rw[seqIndex_of d c,e],by lia,by lia,c⟩
  .rw[ah c]at h;cases h
 .rw[ah d]at h;by_cases c:-(a:Int)<=i
  .rw[aj c]at h;have e:(i+a).toNat=b:=bF h;exact⟨by rw[seqIndex_neg (by lia) c,e],by lia,c,by lia⟩
  .rw[ah c]at h;cases h
def zL{i:Int}(h:ϳ a i=some b):∃j,seqIndex? i a.length=some j/\a[j]?=some b/\j<a.length/\-(a.length:Int)<=i/\i<a.length:=by
 unfold ϳ at h;cases e:Vx a.length i with
 | none=>rw[e]at h;cases h
 | some j=>
   rw[e]at h;obtain⟨g,d,c,f⟩:=JN e;exact⟨j,g,h,d,c,f⟩
def JM{b:Type}{a:List b}{j:Nat}{v:b}(h:a[j]?=some v):ϳ a (j:Int)=some v:=by
 have c:j<a.length:=(ax.mp h).1;have e:Vx a.length (j:Int)=some j:=by
  unfold Vx;rw[aj (by lia),aj (by lia)];simp
 unfold ϳ;rw[e];exact h
def Bk(b:List a)(v:a):ϳ (b++[v]) (-1)=some v:=by
 have c:(b++[v]).length=b.length+1:=by simp
 have e:Vx (b++[v]).length (-1)=some b.length:=by
  unfold Vx;rw[c,ah (by decide),aj (by lia)]
  congr 1
  lia
 unfold ϳ;rw[e];show(b++[v])[b.length]?=some v;simp
def JP(b:Expr):Prop:=∀o i,subscripted b false o i=operate [o,i] (getItem o i)
def Xk(X:Cx)(r:R2):Prop:=∀(c a:Expr)(b:hP)(s:Shared)(d:St)(H:Hp)(x y:V)(v u:Value)(Q:VK),Inv X b d H s->RelV x v->RelV y u->r x y H Q->subscripted a false v u=operate [v,u] (getItem v u)->wpAny (model X.prog X.w) X.A (subscriptTail c a v u) (EP X b d Q) X.xe s
def MtR(X:Cx)(id:String)(r:V->List V->Hp->VK->Prop):Prop:=∀(a:hP)(s:Shared)(c:St)(H:Hp)(x:V)(d:List V)(v:Value)(b:hT)(Q:VK),Inv X a c H s->RelV x v->Vals d b->r x d H Q->wpAny (model X.prog X.w) X.A (call (.builtin id) (v::b)) (EP X a c Q) X.xe s
def jR(r:Xk a g)(t:PE a d e)(k:PE a b c)(p:JP b):PE a (.Subscript d b f) (Xj g e c):=by
 intro i s j H Q I h;exact Subscript_ (OU t k I h λv u o x y n w l m q=>r d b i o j n x y v u Q w l m q (p _ _))
def DC(K:hO):R2:=λx y H Q=>∃p a i v,x=.ref p/\y=.int i/\ι K H p a/\ϳ a i=some v/\Q v H
def Lf(K:hO):R2:=λx y H Q=>∃p a i v,x=.ref p/\y=.int i/\Α K H p a/\ϳ a i=some v/\Q v H
def aae:R2:=λx y H Q=>∃z i c,x=.str z/\y=.int i/\z.length<=sizeLine/\ϳ z.cps.toList i=some c/\Q (.str ⟨#[c]⟩) H
section
variable{X:Cx}
def bu:Xk X (DC X.K):=by
 intro d e a s k H x y v u Q I B D h n;obtain⟨p,O,i,z,rfl,rfl,F,G,q⟩:=h;cases B;obtain⟨t,rfl⟩:=D;obtain⟨g,r,f,N⟩:=I.list F;obtain⟨j,c,J,M,C,E⟩:=zL G;obtain⟨w,m,A⟩:=r.get J;have L:=r.length;have hn:=qD;have b:EP X a k Q w s:=⟨z,H,I,A,q⟩;by_cases l:0<=i
 .have hj:i.toNat=j:=by
   rw[seqIndex_of l E]at c;exact bF c
  exact item_listR f.isList l (by lia) (by rw[hj];simpa using m) b n
 .have hj:(i+(g.toArray.size:Int)).toNat=j:=by
   rw[seqIndex_neg (by lia) C]at c;rw[aR,<-L];exact bF c
  exact subscriptTail_builtinR (x:=w) f.isList.typeIs slot_list_getitem.lookup
   (wpAny_getItem_list_neg (Q:=λr o=>r=w/\EP X a k Q r o) f.isList (by lia) (by rw[aR]<;>lia) (by lia) (by rw[hj];simpa using m) ⟨rfl,b⟩) n
end
section
variable{X:Cx}
def eM:Xk X (Lf X.K):=by
 intro b c a s e H x y v u Q I m n h C;obtain⟨p,N,i,z,rfl,rfl,A,B,q⟩:=h;cases m;obtain⟨t,rfl⟩:=n;obtain⟨E,r,f,M⟩:=I.tuple A;obtain⟨j,k,D,G,J,L⟩:=zL B;obtain⟨w,o,l⟩:=r.get D;have F:=r.length;have hn:=qD;have d:EP X a e Q w s:=⟨z,H,I,l,q⟩;exact subscriptTail_builtinR (x:=w) f.typeIs slot_tuple_getitem.lookup
  (getItem_tuple (j:=j) (Q:=λr g=>r=w/\EP X a e Q r g) f (by lia) (by lia) (by rw[aR,<-F];exact k) (by simpa using o) ⟨rfl,d⟩) C
end
section
variable{X:Cx}
def Sa:Xk X aae:=by
 intro a b e s A H x y v u Q I f m h p;obtain⟨z,i,c,rfl,rfl,E,o,q⟩:=h;obtain⟨t,rfl⟩:=f;obtain⟨B,rfl⟩:=m;obtain⟨j,d,r,C,l,n⟩:=zL o;have w:z.cps.toList.length=z.length:=by simp[Str.length]
 rw[w]at d l n;have D:=qD;exact tail_any (typeIs_str s z t) slot_str_getitem.lookup (getItem_str (c:=c) (by
  have g:decide (i < -(2^63:Int))=false:=bM (by lia);have k:decide (i ≥ 2^63)=false:=bM (by lia);rw[g,k,oj]) (by rw[d];simpa using r) ⟨.str ⟨#[c]⟩,H,I.tok _,⟨_,rfl⟩,q⟩) p
end
def Lk(a:hT)(n j:Nat)(u:Value):Obj.mapSeq (·.setIfInBounds j u) { cls:=.type "list",data:=.seq a.toArray n }={ cls:=.type "list",data:=.seq (a.set j u).toArray n }:=by
 simp[Obj.mapSeq]
def Inv.lst(I:Inv i c g d f)(h:d b=some (.lst a)):∃(j:hT)(n:Nat),Vals a j/\f.heap.get? b=some { cls:=.type "list",data:=.seq j.toArray n }/\a.length<=sizeLine:=by
 obtain⟨z,j,n,r,e⟩:=I.Β b _ h;exact⟨j,n,r,e,z⟩
def Inv.YG{p o:hT}(I:Inv l d k j c)(h:j a=some (.lst n))(y:c.heap.get? a=some { cls:=.type "list",data:=.seq p.toArray m })(s:i { cls:=.type "list",data:=.seq p.toArray m }={ cls:=.type "list",data:=.seq o.toArray f })(r:Vals g o)(v:g.length<=sizeLine)(t:Nat):Inv l d k (upd j a (.lst g)) { c with heap:=c.heap.update a i,toks:=t }:=by
 have e:(c.heap.update a i).get? a=some { cls:=.type "list",data:=.seq o.toArray f }:=by
  rw[fF i y (by rw[s]<;>rfl),s]
 refine I.write (x:=a) (e:=a) (by rw[h];trivial) (.inl rfl) (λb u w q=>(dR _ _ (Ne.symm w)).trans q) ⟨_,e⟩ ?_;exact⟨v,o,f,r,e⟩
def Wf:V->V->V->Hp->(Hp->Prop)->Prop:=λo i v H Q=>∃p a k j,o=.ref p/\i=.int k/\H p=some (.lst a)/\Vx a.length k=some j/\Q (upd H p (.lst (a.set j v)))
def gI:NR a Wf:=by
 intro b s z H o i v J F u Q I C A y h;obtain⟨p,E,k,j,rfl,rfl,x,B,q⟩:=h;cases C;obtain⟨t,rfl⟩:=A;obtain⟨c,n,r,e,D⟩:=I.lst x;obtain⟨d,K,g,m⟩:=JN B;have f:=r.length;have G:=qD;have w:Inv a b z (upd H p (.lst (E.set j v))) { s with heap:=s.heap.update p (Obj.mapSeq (·.setIfInBounds j u)) }:=I.YG x e (Lk c n j u) (r.set y j) (by rw[bN];exact D) s.toks
 by_cases l:0<=k
 .have hk:k.toNat=j:=by
   rw[seqIndex_of l m]at d;exact bF d
  exact PySem.W.ki_setAt e l (by lia) (by rw[aR,<-f];exact m) (by rw[hk];exact⟨_,w,q⟩)
 .have hk:(k+(c.toArray.size:Int)).toNat=j:=by
   rw[seqIndex_neg (by lia) g]at d;rw[aR,<-f];exact bF d
  exact PySem.W.ki_setBack e (by lia) (by rw[aR,<-f];exact g) (by lia) (by rw[hk];exact⟨_,w,q⟩)
def Gb(lo a:Option Int)(n:Nat):(sliceBounds lo a none n).1=((HT.TQ n 0 lo:Nat):Int)/\(sliceBounds lo a none n).2.1=((HT.TQ n n a:Nat):Int)/\(sliceBounds lo a none n).2.2=1:=by
 refine⟨?_,?_,rfl⟩
 .cases lo with
  | none=>simp[sliceBounds,HT.TQ]
  | some i=>
    simp only[sliceBounds,HT.TQ,Option.getD_none,show(1:Int)>0 by decide,if_true];by_cases h:i<0
    .simp only[h,if_true]<;>lia
    .simp only[h,if_false]<;>lia
 .cases a with
  | none=>simp[sliceBounds,HT.TQ]
  | some i=>
    simp only[sliceBounds,HT.TQ,Option.getD_none,show(1:Int)>0 by decide,if_true];by_cases h:i<0
    .simp only[h,if_true]<;>lia
    .simp only[h,if_false]<;>lia
def FC(a:hT)(lo b:Option Int):slicePick a.toArray lo b none=((a.drop (HT.TQ a.length 0 lo)).take (HT.TQ a.length a.length b-HT.TQ a.length 0 lo)).toArray:=by
 obtain⟨e,d,c⟩:=Gb lo b a.toArray.size;unfold slicePick;rw[e,d,c];simp only[sliceRange_one,pick_run,aR]<;>rfl
def RZ(K:hO):V->Option Int->Option Int->Hp->VK->Prop:=λx lo c H Q=>∃a b,x=.ref a/\ι K H a b/\∀p,H p=none->Q (.ref p) (upd H p (.lst (xX b lo c)))
def DF:SlR c (RZ c.K):=by
 intro i s u H x v z w lo f y Q I k p n l h;obtain⟨a,d,rfl,j,q⟩:=h;cases k;obtain⟨t,r,g,m⟩:=I.list j;have e:=r.length;refine⟨"list",_,slot_list_getitem.lookup,g.isList.typeIs,?_⟩;refine wpAny_getItem_list_slice g.isList p n l .none (by simp) ?_ (by rw[aR]<;>lia);rw[FC,<-e];refine⟨.ref s.heap.objs.size,_,I.laid (t':=s.toks) (o:=.lst (xX d lo f)) (λb A q=>aB _ q) (aJ _) ?_,rfl,q _ (I.Β.fresh (aJ _))⟩;exact⟨aW (II d lo f) m,_,0,(r.drop (HT.TQ d.length 0 lo)).take (HT.TQ d.length d.length f-HT.TQ d.length 0 lo),bc _ rfl⟩
def sY:V->Bool
 | .ξ=>true
 | .bl _=>true
 | .int _=>true
 | .str _=>true
 | _=>false
def WU:V->V->Bool
 | .ξ,.ξ=>true
 | .bl a,.bl b=>a==b
 | .bl a,.int b=>(if a then 1 else 0)==b
 | .int a,.bl b=>a==(if b then 1 else 0)
 | .int a,.int b=>a==b
 | .str a,.str b=>a==b
 | _,_=>false
def Sd(l:RelV d f)(i:RelV c e)(m:sY d=true)(k:sY c=true):SeqAt.EqAt h g f e (WU d c):=by
 cases d with
 | ξ=>
   cases l;cases c with
   | ξ=>cases i;exact SeqAt.EqAt.same _
   | bl b=>cases i;exact SeqAt.EqAt.none_bool b
   | int b=>obtain⟨t,rfl⟩:=i;exact SeqAt.EqAt.none_int b t
   | str b=>obtain⟨t,rfl⟩:=i;exact SeqAt.EqAt.none_str b t
   | _=>exact absurd (show false=true from k) bj
 | bl a=>
   cases l;cases c with
   | ξ=>cases i;exact SeqAt.EqAt.bool_none a
   | bl b=>cases i;exact SeqAt.EqAt.bool_bool a b
   | int b=>obtain⟨t,rfl⟩:=i;exact SeqAt.EqAt.bool_int a b t
   | str b=>obtain⟨t,rfl⟩:=i;exact SeqAt.EqAt.bool_str a b t
   | _=>exact absurd (show false=true from k) bj
 | int a=>
   obtain⟨j,rfl⟩:=l;cases c with
   | ξ=>cases i;exact SeqAt.EqAt.int_none a j
   | bl b=>cases i;exact SeqAt.EqAt.int_bool a j b
   | int b=>obtain⟨t,rfl⟩:=i;exact SeqAt.EqAt.int_int a j b t
   | str b=>obtain⟨t,rfl⟩:=i;exact SeqAt.EqAt.int_str a j b t
   | _=>exact absurd (show false=true from k) bj
 | str a=>
   obtain⟨j,rfl⟩:=l;cases c with
   | ξ=>cases i;exact SeqAt.EqAt.str_none a j
   | bl b=>cases i;exact SeqAt.EqAt.str_bool a j b
   | int b=>obtain⟨t,rfl⟩:=i;exact SeqAt.EqAt.str_int a j b t
   | str b=>obtain⟨t,rfl⟩:=i;exact SeqAt.EqAt.str_str a j b t
   | _=>exact absurd (show false=true from k) bj
 | _=>exact absurd (show false=true from m) bj
def Xm(x:V)(u:Value):Bool:=match u with
 | .none=>WU .ξ x
 | .bool a=>WU (.bl a) x
 | .int i _=>WU (.int i) x
 | .str z _=>WU (.str z) x
 | _=>false
def Mm(r:RelV a d)(f:sY a=true):Xm c d=WU a c:=by
 cases a with
 | ξ=>cases r;rfl
 | bl b=>cases r;rfl
 | int i=>obtain⟨t,rfl⟩:=r;rfl
 | str z=>obtain⟨t,rfl⟩:=r;rfl
 | _=>exact absurd (show false=true from f) bj
theorem Ek :∀{b:List V}{c:hT},Vals b c->b.all sY=true->c.any (Xm a)=b.any λy=>WU y a
 | _,_,.nil,_=>rfl
 | y::b,u::c,.cons r t,f=>by
   rw[nY,bG]at f;rw[iQ,iQ,Mm r f.1,Ek t f.2]
theorem Ba(h:RelV a b)(i:sY a=true):∀{g:List V}{e:hT},Vals g e->g.all sY=true->∀u∈e,SeqAt.EqAt c d u b (Xm a u)
 | _,_,.nil,_=>λu hu=>by cases hu
 | y::g,u::e,.cons r t,f=>λj hu=>by
   rw[nY,bG]at f;rcases aF.mp hu with rfl|hu
   .rw[Mm r f.1];exact Sd r h f.1 i
   .exact Ba h i t f.2 j hu
def Xn(x:V)(a:List V):Bool:=a.any λy=>WU y x
def rIn(K:hO)(b:Bool):R2:=λx y H Q=>∃p a,y=.ref p/\(ι K H p a\/Α K H p a)/\sY x=true/\a.all sY=true/\Q (.bl (if b then !Xn x a else Xn x a)) H
def yU:bY a (compareOp .In) (rIn a.K false):=by
 intro e s i H x y v u Q I d g h;obtain⟨p,j,rfl,hq,f,b,q⟩:=h;cases g;rcases hq with hq|hq
 .obtain⟨its,r,pl,hz⟩:=I.list hq;refine SeqAt.in_listAt (Xm x) pl.isList (λw c=>Ba d f r b w (by simpa using c)) ⟨.bl _,H,I,rfl,?_⟩;rw[show its.toArray.any (Xm x)=its.any (Xm x) by simp,Ek r b];exact q
 .obtain⟨its,r,pl,hz⟩:=I.tuple hq;refine SeqAt.in_tupleAt (Xm x) pl (λw c=>Ba d f r b w (by simpa using c)) ⟨.bl _,H,I,rfl,?_⟩;rw[show its.toArray.any (Xm x)=its.any (Xm x) by simp,Ek r b];exact q
def gP:lx a (.builtin "len") (λe H Q=>∃p c,e=[.ref p]/\(ι a.K H p c\/Α a.K H p c)/\Q (.int c.length) H):=by
 intro d s i H e g Q I r h;obtain⟨p,c,rfl,hq,q⟩:=h;obtain⟨u,rfl,f⟩:=oB r;cases f;have hn:=qD;rcases hq with hq|hq
 .obtain⟨its,r',pl,hz⟩:=I.list hq;have b:=r'.length;exact Calls.call_len_list pl.isList (by simp only[aR]<;>lia) ⟨.int c.length,H,I.tok _,⟨s.toks+1,by rw[aR,b]⟩,q⟩
 .obtain⟨its,r',pl,hz⟩:=I.tuple hq;have b:=r'.length;exact len_tuple pl (by simp only[aR]<;>lia) ⟨.int c.length,H,I.tok _,⟨s.toks+1,by rw[aR,b]⟩,q⟩
def HM:lx a (.builtin "len") (λc H Q=>∃z,c=[.str z]/\z.length<=sizeLine/\Q (.int z.length) H):=by
 intro b s f H c d Q I r h;obtain⟨z,rfl,g,q⟩:=h;obtain⟨u,rfl,t,rfl⟩:=oB r;have e:=qD;exact len_str (by lia) ⟨.int z.length,H,I.tok _,⟨_,rfl⟩,q⟩
def jN:lx a (.type "list") (λB H Q=>∃p f,B=[.ref p]/\(ι a.K H p f\/Α a.K H p f)/\∀l,H l=none->Q (.ref l) (upd H l (.lst f))):=by
 intro k s C H B E Q I r h;obtain⟨p,f,rfl,hq,q⟩:=h;obtain⟨u,rfl,D⟩:=oB r;cases D;have j:∀(c:hT),Vals f c->f.length<=sizeLine->∀(d:Heap)(g:Nat),(∀b A,s.heap.get? b=some A->d.get? b=some A)->d.get? s.heap.objs.size=some { cls:=.type "list",dict:=none,data:=.seq c.toArray g,slots:=#[] }->EP a k C Q (.ref s.heap.objs.size) { s with heap:=d }:=λc i t d g m e=>
  ⟨.ref s.heap.objs.size,_,I.laid (t':=s.toks) m (aJ _) (show Μ a.prog a.w _ d _ (.lst f)from⟨t,c,g,i,e⟩),rfl,q _ (I.Β.fresh (aJ _))⟩
 rcases hq with hq|hq
 .obtain⟨c,i,pl,t⟩:=I.list hq;have v:=i.length;obtain⟨o,x,z,n,y⟩:=pl.isList;exact call_list_seq p (.inl rfl) x z y (λd g m e=>j c i t d g m e) (by simp only[aR]<;>lia)
 .obtain⟨c,i,pl,t⟩:=I.tuple hq;have v:=i.length;obtain⟨o,x,z,n,y⟩:=pl;exact call_list_seq p (.inr rfl) x z y (λd g m e=>j c i t d g m e) (by simp only[aR]<;>lia)
def gi:lx a (.type "tuple") (λj H Q=>∃p d,j=[.ref p]/\((ι a.K H p d/\∀l,H l=none->Q (.ref l) (upd H l (.tup d)))\/(Α a.K H p d/\Q (.ref p) H))):=by
 intro c s g H j v Q I r h;obtain⟨p,d,rfl,h⟩:=h;obtain⟨u,rfl,m⟩:=oB r;cases m;rcases h with⟨hq,q⟩|⟨hq,q⟩
 .obtain⟨its,r',pl,hz⟩:=I.list hq;have k:=r'.length;refine call_tuple_list pl.isList (λf n=>?_) (by simp only[aR]<;>lia);have i:Inv a c g H { s with heap:=f }:=I.kept (t':=s.toks) n;have t:Inv a c g (upd H f.objs.size (.tup d)) { s with heap:=f.push { cls:=.type "tuple",data:=.seq its.toArray } }:=i.laid (t':=s.toks) (λb o e=>aB _ e) (aJ _) (show Μ a.prog a.w _ _ _ (.tup d)from⟨hz,its,r',IsTup.new _ _⟩)
  exact⟨.ref f.objs.size,_,t,rfl,q _ (i.Β.fresh (aJ _))⟩
 .obtain⟨its,r',pl,hz⟩:=I.tuple hq;exact call_tuple_same pl ⟨.ref p,H,I,rfl,q⟩
def VW(K:hO)(T:String)(x:V)(H:Hp):Prop:=match x with
 | .str _=>T="str"
 | .int _=>T="int"
 | .ref p=>(T="list"/\∃b,ι K H p b)\/(T="tuple"/\∃o,K.lookup p=some o/\o.cls=.type "tuple"/\o.dict=none)\/(T="dict"/\((∃a,H p=some (.dK a))\/∃a,H p=some (.dT a)))\/(T="set"/\∃S n,H p=some (.set S n))
 | _=>False
def LR(I:Inv j h l k b)(r:RelV g f)(q:VW j.K d g k):b.TypeIs f d/\∀a,f=.ref a->∃v,b.heap.get? a=some v/\v.dict=none:=by
 cases g with
 | str z=>
   obtain⟨t,rfl⟩:=r;cases(show d="str" from q);exact⟨typeIs_str b z t,λ_ e=>nomatch e⟩
 | int i=>
   obtain⟨t,rfl⟩:=r;cases(show d="int" from q);exact⟨typeIs_int b i t,λ_ e=>nomatch e⟩
 | ref p=>
   cases r;rcases q with⟨rfl,xs,hq⟩|⟨rfl,o,hk,hc,s⟩|⟨rfl,hk⟩|⟨rfl,S,n,hk⟩
   .obtain⟨its,_,pl,_⟩:=I.list hq;refine⟨pl.isList.typeIs,λa e=>?_⟩;cases e;obtain⟨o,n,e,c,s,_⟩:=pl;exact⟨o,e,s⟩
   .refine⟨⟨o,I.oK p o hk,hc⟩,λa e=>?_⟩;cases e;exact⟨o,I.oK _ o hk,s⟩
   .have z:∃o,b.heap.get? p=some o/\o.ExactDict:=by
     rcases hk with⟨ρ,hk⟩|⟨ρ,hk⟩
     .obtain⟨_,_,_,_,o,_,_,e,m,_⟩:=I.Β p _ hk;exact⟨o,e,m⟩
     .obtain⟨_,_,_,_,o,_,_,e,m,_⟩:=I.Β p _ hk;exact⟨o,e,m⟩
    obtain⟨o,e,m⟩:=z;refine⟨⟨o,e,m.1⟩,λa u=>?_⟩;cases u;exact⟨o,e,m.2.1⟩
   .obtain⟨o,_,_,_,e,m,_⟩:=I.Β p _ hk;refine⟨⟨o,e,m.1⟩,λa u=>?_⟩;cases u;exact⟨o,e,m.2.1⟩
 | _=>exact False.elim q
def NT(K:hO)(T:String)(r:V->List V->Hp->VK->Prop)(c:TE):TE:=λb H Q=>c b H λx a=>VW K T x a/\r x [] a Q
def tBM(K:hO)(T:String)(r:V->List V->Hp->VK->Prop)(e:TE)(t:TA):TE:=λb H Q=>e b H λx a=>VW K T x a/\t b a λd c=>r x d c Q
def x9{X:Cx}{o:Expr}{j:TE}{a:Str}{c:Pos}{l:Pos}{T:String}{id:String}{r:V->List V->Hp->VK->Prop}(w:PlainAttrs T)(e:Slot T a id)(f:typeOf (.builtin id)=pure (.type "method_descriptor"))(t:MtR X id r)(n:PE X o j)(z:attributeBase o a X.env (eval o X.env)=eval o X.env:=by rfl)(d:(c.endLine==l.line)=true:=by rfl):PE X (.Call (.Attribute o a c) [] [] l) (NT X.K T r j):=by
 intro b s g H Q I h;refine wpAny_Call_method0_late z d (eF (n b s g H _ I h) λv m x u i k ⟨q,A⟩=>?_);obtain⟨p,y⟩:=LR i k q;exact⟨T,id,w,e,f,p,y,jA rfl (PySem.evalArgs_none (t b m g u x [] v [] Q i k .nil A))⟩
def sU{X:Cx}{o:Expr}{e:Expr}{c:List Expr}{m:TE}{t:TA}{a:Str}{d:Pos}{g:Pos}{T:String}{id:String}{r:V->List V->Hp->VK->Prop}(O:PlainAttrs T)(i:Slot T a id)(k:typeOf (.builtin id)=pure (.type "method_descriptor"))(B:MtR X id r)(u:PE X o m)(R:PA X (e::c) t)(S:attributeBase o a X.env (eval o X.env)=eval o X.env:=by rfl)(z:((backTo g (starEach (e::c) X.env)).all (λx=>!x.1)&&(backToKw g (keywordEach [] X.env)).all (λx=>x.1.isSome)
 && decide ((e::c).length+([]:List Keyword).length+(if([]:List Keyword).isEmpty then 0 else 1)<30))=true:=by rfl)(f:(d.endLine==g.line)=true:=by rfl)(N:starEach (e::c) X.env=(false,eval e X.env)::starEach c X.env:=by rfl)(C:(backTo g (starEach c X.env)).any (·.1)=false:=by rfl):PE X (.Call (.Attribute o a d) (e::c) [] g) (tBM X.K T r m t):=by
 intro b s j H Q I h;refine wpAny_Call_method_late S z f rfl (eF (u b s j H _ I h) λv w x E l p ⟨A,U⟩=>?_);obtain⟨y,P⟩:=LR l p A;refine⟨T,id,O,i,k,y,P,?_⟩;have n:=R g b w j E _ l U;rw[N]at n ⊢;refine jA (by show(false||(backTo g (starEach c X.env)).any (·.1))=false;rw[C]<;>rfl) (j4 ?_);exact ϕ n λF J ⟨D,G,M,L,q⟩=>B b J j G x D v F Q M p L q
def YK(X:Cx)(id:String)(r:V->List V->Hp->VK->Prop):Prop:=∀(a:hP)(s:Shared)(c:St)(H:Hp)(x:V)(d:List V)(v:Value)(b:hT)(Q:VK),Inv X a c H s->RelV x v->Vals d b->r x d H Q->wpAny (model X.prog X.w) X.A (call (.builtin id) (v::b)) (EP X a c Q) X.xe s
def Vals.one(h:Vals [b] a):∃u,a=[u]/\RelV b u:=by
 cases h with
 | cons r t=>cases t;exact⟨_,rfl,r⟩
def Vals.two(h:Vals [b,c] a):∃u v,a=[u,v]/\RelV b u/\RelV c v:=by
 cases h with
 | cons r t=>
   obtain⟨v,e,q⟩:=Vals.one t;subst e;exact⟨_,v,rfl,r,q⟩
def Vals.zero:∀{a:hT},Vals [] a->a=[]
 | _,.nil=>rfl
def Vals.dropLast(h:Vals a b):Vals a.dropLast b.dropLast:=by
 induction h with
 | nil=>exact .nil
 | cons r t ih=>
   cases t with
   | nil=>exact .nil
   | cons q t'=>exact .cons r ih
def Vals.reverse(h:Vals a b):Vals a.reverse b.reverse:=by
 induction h with
 | nil=>exact .nil
 | cons r t ih=>rw[fE,fE];exact Vals.append ih (.cons r .nil)
theorem Vals.rep(h:Vals a b):∀k:Nat,Vals (List.replicate k a).flatten (List.replicate k b).flatten
 | 0=>.nil
 | k+1=>by
   rw[dG,dG,gH,gH];exact Vals.append h (Vals.rep h k)
def LD(l:List c):l.eraseIdx (l.length-1)=l.dropLast:=by
 induction l with
 | nil=>rfl
 | cons a r ih=>
   cases r with
   | nil=>rfl
   | cons b r=>
     have e:(a::b::r).length-1=((b::r).length-1)+1:=by
      have f:(a::b::r).length=r.length+2:=rfl;have d:(b::r).length=r.length+1:=rfl
      lia
     rw[e,List.eraseIdx_cons_succ,ih]
     all_goals rfl
theorem Fj(b:hT):∀(k:Nat)(a:hT),List.foldl (λc f=>c++f) a.toArray (List.replicate k b.toArray)=(a++(List.replicate k b).flatten).toArray
 | 0,a=>by simp
 | k+1,a=>by
   have e:a.toArray++b.toArray=(a++b).toArray:=by simp
   have d:(a++b)++(List.replicate k b).flatten=a++(List.replicate (k+1) b).flatten:=by
    rw[dG,gH,cj]
   rw[<-d,<-Fj b k (a++b),<-e,dG,iY]
def Inv.YL{l its':hT}{f:Array Value->Array Value}{o:Nat}(I:Inv i c h g b)(t:g a=some (.lst j))(e:b.heap.get? a=some { cls:=.type "list",data:=.seq l.toArray k })(s:f l.toArray=its'.toArray)(m:Vals d its')(p:d.length<=sizeLine):Inv i c h (upd g a (.lst d)) { b with heap:=b.heap.update a (Obj.mapSeq f),toks:=o }:=by
 have q:=PySem.IsL.update e f;rw[s]at q;refine I.write (x:=a) (e:=a) (by rw[t];exact trivial) (.inl rfl) (λv u r n=>(dR b.heap (Obj.mapSeq f) (Ne.symm r)).trans n) ⟨_,q⟩ ?_;exact⟨p,its',_,m,q⟩
def Inv.aaf{t':Nat}(I:Inv f b e g d)(h:Vals c a)(i:c.length<=sizeLine):Inv f b e (upd g d.heap.objs.size (.lst c)) { d with heap:=d.heap.push { cls:=.type "list",data:=.seq a.toArray },toks:=t' }:=I.laid (λ_ _ q=>aB _ q) (aJ _) ⟨i,a,0,h,bc _ rfl⟩
def Inv.fresh(I:Inv e a d c b):c b.heap.objs.size=none:=I.Β.fresh (aJ _)
def Inv.U4(I:Inv h c g d f)(j:d b=some (.lst a)):a.length<=sizeLine/\∃(i:hT)(n:Nat),Vals a i/\a.length=i.length/\f.heap.get? b=some { cls:=.type "list",data:=.seq i.toArray n }:=by
 obtain⟨z,i,n,r,e⟩:=I.Β b _ j;exact⟨z,i,n,r,r.length,e⟩
def Pe{n:Nat}(h:n<=sizeLine):Builtin.List.listTooLong n=false:=by
 unfold Builtin.List.listTooLong;exact bM (by lia)
def rW:V->List V->Hp->VK->Prop:=λx b H Q=>∃l a y,x=.ref l/\b=[y]/\H l=some (.lst a)/\a.length<sizeLine/\Q .ξ (upd H l (.lst (a++[y])))
def yg:YK a "list.append" rW:=by
 intro d s j H x k v m Q I i f h;obtain⟨l,p,y,rfl,rfl,c,o,q⟩:=h;cases i;obtain⟨u,rfl,g⟩:=f.one;obtain⟨z,b,n,r,t,e⟩:=I.U4 c;refine call_meets F.slot_list_append ⟨_,e,rfl⟩ F.entry_list_append (F.args_list_append_2 _ _) (PySem.list_append l b.toArray n u (by rw[aR];lia)) ⟨e,?_⟩;refine⟨.ξ,_,I.YL (its':=b++[u]) c e (by simp) (r.append (.cons g .nil)) ?_,rfl,q⟩;rw[aH,gl]
 lia
def YM:V->List V->Hp->VK->Prop:=λx b H Q=>∃l a y,x=.ref l/\b=[]/\H l=some (.lst a)/\a[a.length-1]?=some y/\Q y (upd H l (.lst a.dropLast))
def x6:YK a "list.pop" YM:=by
 intro g s t H x w v A Q I o i h;obtain⟨l,B,y,rfl,rfl,f,j,q⟩:=h;cases o;have c:=i.zero;subst c;obtain⟨z,b,n,r,p,e⟩:=I.U4 f;obtain⟨u,k,m⟩:=r.get j;have d:b.toArray[b.toArray.size-1]?=some u:=by
  show b.toArray[b.length-1]?=some u;rw[<-j3,<-p];exact k
 refine call_meets F.slot_list_pop ⟨_,e,rfl⟩ F.entry_list_pop (F.args_list_pop_1 _) (MeetsSeq.list_pop_last l b.toArray n u d (by rw[aR];lia)) ⟨e,?_⟩;refine⟨y,_,I.YL (its':=b.dropLast) f e ?_ r.dropLast ?_,m,q⟩
 .show b.toArray.eraseIdxIfInBounds (b.toArray.size-1)=b.dropLast.toArray;rw[aR,List.eraseIdxIfInBounds_toArray,LD]
 .rw[List.length_dropLast]
  lia
def YN:R2:=λx y H Q=>∃l b c a,x=.ref l/\y=.ref b/\H l=some (.lst c)/\H b=some (.lst a)/\c.length+a.length<=sizeLine/\∀p,H p=none->Q (.ref p) (upd H p (.lst (c++a)))
def Ir:bY a (binaryOp .Add) YN:=by
 intro f s w H x y v u Q I i m h;obtain⟨l,b,D,A,rfl,rfl,k,o,C,q⟩:=h;cases i;cases m;obtain⟨z,d,n,r,F,e⟩:=I.U4 k;obtain⟨B,c,E,t,g,j⟩:=I.U4 o;refine PySem.P.add_list e j ?_ (by rw[aR,aR];lia);have p:d.toArray++c.toArray=(d++c).toArray:=by simp
 rw[p];exact⟨.ref _,_,I.aaf (t':=s.toks) (r.append t) (by rw[aH];lia),rfl,q _ I.fresh⟩
def aah:R2:=λx y H Q=>∃l k a,x=.ref l/\y=.int k/\H l=some (.lst a)/\-(2^63)<=k/\k<2^63/\a.length*k.toNat<=sizeLine/\∀p,H p=none->Q (.ref p) (upd H p (.lst (List.replicate k.toNat a).flatten))
def Qw(b:List a)(k:Nat):(List.replicate k b).flatten.length=k*b.length:=by
 induction k with
 | zero=>simp
 | succ k ih=>rw[dG,gH,aH,ih,Nat.succ_mul,Nat.add_comm]
def oO:bY b (binaryOp .Mult) aah:=by
 intro w s M H x y v u Q I E J h;obtain⟨l,k,N,rfl,rfl,G,D,K,A,q⟩:=h;cases E;obtain⟨t,rfl⟩:=J;obtain⟨z,c,n,r,L,e⟩:=I.U4 G;have d:c.toArray.size*k.toNat<=sizeLine:=by rw[aR,<-L];exact A
 have g:¬c.toArray.size*k.toNat>(2^63-1)/8:=by
  have:(sizeLine:Nat)<=(2^63-1)/8:=by decide
  lia
 have j:¬(!Builtin.List.listFitsIndex k)=true:=by
  rw[fitsIndex_both D K];exact bj
 have o:¬Builtin.List.listTooLong (c.toArray.size*k.toNat)=true:=by
  rw[Pe d];exact bj
 have p:List.foldl (λf i=>f++i) #[] (List.replicate (if c.toArray.isEmpty=true then 0 else k.toNat) c.toArray)=(List.replicate k.toNat c).flatten.toArray:=by
  have B:∀m:Nat,List.foldl (λf i=>f++i) #[] (List.replicate m c.toArray)=(List.replicate m c).flatten.toArray:=λm=>by
   have:=Fj c m [];rw[jJ]at this;exact this
  rw[B];cases c with
  | nil=>simp
  | cons a r'=>rw[ah (by simp)]
 refine wpAny_binaryOp_repeat_ref (T:="list") (U:="int") (by decide) ⟨_,e,rfl⟩ (λC=>typeIs_int C k t) noFill_list_mul F.fills_int_mul F.slot_int_rmul repeat_list F.slot_int_index.lookup
  (call_meets F.slot_int_rmul (typeIs_int s k t) F.entry_int_rmul (F.args_int_rmul_2 _ _) (int___rmul___int_list k t l c.toArray n)
   ⟨e,rfl,⟨_,e,rfl⟩,call_meets F.slot_list_mul ⟨_,e,rfl⟩ F.entry_list_mul (F.args_list_mul_2 _ _) (AutoListH.list___mul___list_int_3 l c.toArray n k t j g o) ⟨e,?_⟩⟩)
 rw[p];exact⟨.ref _,_,I.aaf (t':=s.toks) (r.rep k.toNat) (by rw[Qw,jt];exact A),rfl,q _ I.fresh⟩
section
variable{a:Type}[DecidableEq a]
def nW(b:List (a×V))(k:a):Option V:=(b.find? λc=>decide (c.1=k)).map (·.2)
def n9(c:List (a×V))(k:a)(v:V):List (a×V):=if(c.any λb=>decide (b.1=k))=true then c.map (λb=>if b.1=k then(b.1,v)else b)else c++[(k,v)]
def xz{p:a×V}{r:List (a×V)}{k:a}(e:p.1=k):nW (p::r) k=some p.2:=by simp[nW,fL,e]
def wF{p:a×V}{r:List (a×V)}{k:a}(e:¬p.1=k):nW (p::r) k=nW r k:=by simp[nW,fL,e]
theorem A0(k:a):∀b:List (a×V),(b.any λc=>decide (c.1=k))=(nW b k).isSome
 | []=>rfl
 | p::r=>by
   rw[iQ];by_cases e:p.1=k
   .simp only[xz e,bo e,Bool.true_or,Option.isSome_some]
   .rw[wF e,bM e,og];exact A0 k r
def vF(b:List (a×V))(k:a)(v:V):(n9 b k v).length<=b.length+1:=by
 unfold n9;split
 .rw[ag];lia
 .rw[aH,aO,dA];lia
def NO{b:List (a×V)}{k:a}(v:V)(h:nW b k=none):n9 b k v=b++[(k,v)]:=by
 unfold n9;rw[A0,h];exact ah (by decide)
def eQ.ϸ(r:eQ c b):c.isSome=b.isSome:=by
 cases c with
 | none=>cases b with
   | none=>rfl
   | some _=>exact(show False from r).elim
 | some _=>cases b with
   | none=>exact(show False from r).elim
   | some _=>rfl
def KV.val{c:List (a×V)}{d:List (a×Value)}(r:KV c d)(k:a):eQ (nW c k) (valueAt d k):=by
 unfold KV at r
 induction r with
 | nil=>exact True.intro
 | @cons p q ps qs h t ih=>
   obtain⟨f,g⟩:=h;by_cases e:p.1=k
   .have e':q.1=k:=f.symm.trans e;have b:valueAt (q::qs) k=some q.2:=(by simp[valueAt,fL,e']);rw[xz e,b];exact g
   .have e':¬q.1=k:=λz=>e (f.trans z);have b:valueAt (q::qs) k=valueAt qs k:=(by simp[valueAt,fL,e']);rw[wF e,b];exact ih
def KV.any(r:KV b c)(k:a):(b.any λd=>decide (d.1=k))=c.any λd=>decide (d.1=k):=by
 unfold KV at r
 induction r with
 | nil=>rfl
 | cons h t ih=>rw[iQ,iQ,ih,h.1]
def KV.repl(r:KV b c)(k:a)(l:RelV d f):KV (b.map λg=>if g.1=k then(g.1,d)else g) (c.map λg=>if g.1=k then(g.1,f)else g):=by
 unfold KV at r ⊢
 induction r with
 | nil=>exact .nil
 | @cons p q ps qs h t ih=>
   rw[aE,aE];refine .cons ?_ ih;obtain⟨i,j⟩:=h;by_cases e:p.1=k
   .rw[aj e,aj (i.symm.trans e)];exact⟨i,l⟩
   .rw[ah e,ah (λz=>e (i.trans z))];exact⟨i,j⟩
def KV.put(r:KV c b)(k:a)(g:RelV d f):KV (n9 c k d) (stored b k f):=by
 unfold n9 stored;rw[r.any k];by_cases e:(b.any λh=>decide (h.1=k))=true
 .rw[aj e,aj e];exact r.repl k g
 .rw[ah e,ah e];exact Paired.snoc r ⟨rfl,g⟩
def KV.length(r:KV b c):b.length=c.length:=Paired.length r
end
def zj(r:RelV (kV k) a):(iT b c).is k a=true:=by
 cases k with
 | inl i=>obtain⟨t,e⟩:=(show ∃t,a=Value.int i t from r);subst e;exact IK b c i t
 | inr x=>obtain⟨t,e⟩:=(show ∃t,a=Value.str x t from r);subst e;exact vq b c x t
theorem ET :∀{c:List Key}{d:hT},Vals (c.map kV) d->ItemsAre (iT a b) c d
 | [],_,r=>by rw[cH]at r;cases r;exact .nil
 | k::c,_,r=>by
   rw[aE]at r;cases r with
   | cons h t=>exact .cons (zj h) (ET t)
abbrev KT(H:Hp):List (List Key×V)->List (List Key×Addr×Value)->Prop:=Paired λp q=>p.1=q.1/\H q.2.1=some (.tup (p.1.map kV))/\RelV p.2 q.2.2
def KT.val{H:Hp}{a:List (List Key×V)}{c:List (List Key×Addr×Value)}(r:KT H a c)(k:List Key):eQ (nW a k) ((atKey c k).map (·.2)):=by
 induction r with
 | nil=>exact True.intro
 | @cons p q ps qs h t ih=>
   obtain⟨d,_,f⟩:=h;by_cases e:p.1=k
   .have e':q.1=k:=d.symm.trans e;have b:atKey (q::qs) k=some q.2:=(by simp[atKey,fL,e']);rw[xz e,b];exact f
   .have e':¬q.1=k:=λz=>e (d.trans z);have b:atKey (q::qs) k=atKey qs k:=(by simp[atKey,fL,e']);rw[wF e,b];exact ih
def KT.repl(r:KT f a b)(k:List Key)(m:RelV d c):KT f (a.map λi=>if i.1=k then(i.1,d)else i) (b.map (putAt k c)):=by
 induction r with
 | nil=>exact .nil
 | @cons p q ps qs h t ih=>
   rw[aE,aE];refine .cons ?_ ih;obtain⟨g,j,l⟩:=h;unfold putAt;by_cases e:p.1=k
   .rw[aj e,aj (g.symm.trans e)];exact⟨g,j,m⟩
   .rw[ah e,ah (λz=>e (g.trans z))];exact⟨g,j,l⟩
def KT.put(r:KT c b a)(k:List Key)(j:c d=some (.tup (k.map kV)))(h:RelV f g):KT c (n9 b k f) (storedH a k d g):=by
 have e:(b.any λi=>decide (i.1=k))=(atKey a k).isSome:=by
  rw[A0,(r.val k).ϸ,Option.isSome_map]
 unfold n9 storedH;rw[e];by_cases q:(atKey a k).isSome=true
 .rw[aj q,aj q];exact r.repl k h
 .rw[ah q,ah q];exact Paired.snoc r ⟨rfl,j,h⟩
def KT.keeps{e:Hp}(r:KT d a c)(g:∀b f,d b=some (.tup f)->e b=some (.tup f)):KT e a c:=Paired.Xf r λ_ _ z=>⟨z.1,g _ _ z.2.1,z.2.2⟩
def Qb(ok:ϰ c f a d)(e:Rd a b g):Μ c f a d b g:=e.ok ok
def Ku(i:ϰ c g f d)(e:Rd f b (.dK a)):a.length<=sizeLine/\(b==sysModules)=false/\∃h,KV a h/\d.DictOf (iT c g) b h:=show Μ c g f d b (.dK a)from Qb i e
def Qe(i:ϰ c g f d)(e:f b=some (.dK a)):a.length<=sizeLine/\(b==sysModules)=false/\∃h,KV a h/\d.DictOf (iT c g) b h:=Ku i (.inl e)
def Ib{g:List Key}(l:ϰ b f d c)(e:d a=some (.tup (g.map kV))):(tupleKind (iT b f)).is c g a:=by
 obtain⟨_,h,r,o,j,k,n,i⟩:=(show Μ b f d c a (.tup (g.map kV))from l a _ e);exact⟨o,h.toArray,n,j,k,i,by simpa using ET r⟩
def Qd(j:ϰ c g b d)(e:Rd b f (.dT a)):a.length<=sizeLine/\(f==sysModules)=false/\∃h,KT b a h/\d.DictOfH (tupleKind (iT c g)) f h:=by
 obtain⟨z,y,h,r,o,n,w,k,A,s,u,v⟩:=(show Μ c g b d f (.dT a)from Qb j e);refine⟨z,y,h,r,o,n,w,k,A,s,u,λx hx=>?_,v⟩;have i:∀{l:List (List Key×V)}{m:List (List Key×Addr×Value)},KT b l m->∀x∈m,(tupleKind (iT c g)).is d x.1 x.2.1:=by
  intro l m q
  induction q with
  | nil=>intro x hx;exact nomatch hx
  | @cons p q ps qs hq t ih=>
    intro x hx;rcases aF.mp hx with e|hx
    .subst e;exact Ib j (by rw[<-hq.1];exact hq.2.1)
    .exact ih x hx
 exact i r x hx
def Sj(i:ϰ d g c f)(e:c b=some (.dT a)):a.length<=sizeLine/\(b==sysModules)=false/\∃h,KT c a h/\f.DictOfH (tupleKind (iT d g)) b h:=Qd i (.inl e)
def Wg(H:Hp)(a:Addr)(y:V)(r:Option V):Prop:=(∃c k,Rd H a (.dK c)/\y=kV k/\r=nW c k)\/∃c k b,Rd H a (.dT c)/\y=.ref b/\H b=some (.tup (k.map kV))/\r=nW c k
def Wh(H:Hp)(a:Addr)(y v:V)(d:Hp):Prop:=(∃c k,H a=some (.dK c)/\y=kV k/\c.length<sizeLine/\d=upd H a (.dK (n9 c k v)))\/∃c k b,H a=some (.dT c)/\y=.ref b/\H b=some (.tup (k.map kV))/\c.length<sizeLine/\d=upd H a (.dT (n9 c k v))
def Wg.k{H:Hp}{a:Addr}{b:List (Key×V)}{k:Key}(e:H a=some (.dK b)):Wg H a (kV k) (nW b k):=.inl ⟨b,k,.inl e,rfl,rfl⟩
def Wh.k{H:Hp}{a:Addr}{b:List (Key×V)}{k:Key}{v:V}(e:H a=some (.dK b))(c:b.length<sizeLine):Wh H a (kV k) v (upd H a (.dK (n9 b k v))):=.inl ⟨b,k,e,rfl,c,rfl⟩
def Inv.big(I:Inv e b c d a):sysModules<a.heap.objs.size:=by
 have h:mainGlobals<a.heap.objs.size:=(I.mod.glob.keeps I.bk).lt;exact Nat.lt_trans (by decide) h
def QU{A:Around}{Q:hL}(x:A.units+1<cLine)(I:Inv c a f d m)(g:Wg d n o j)(v:RelV o i)(h:∀u,Inv c a f d u->Q (.bool (!j.isSome)) u):wpAny (model c.prog c.w) A (compareOp .NotIn i (.ref n)) Q p m:=by
 rcases g with⟨ρ,k,e,ey,l⟩|⟨ρ,k,b,e,ey,eb,l⟩
 .subst ey;obtain⟨z,t,B,r,s⟩:=Ku I.Β e;refine wpAny_notIn_of (zj v) t s.mapOf ?_;rw[<-(r.val k).ϸ,<-l];exact h _ (I.tok _)
 .subst ey;cases(show i=Value.ref b from v);obtain⟨z,t,y,r,s⟩:=Qd I.Β e;refine wpAny_notIn_heap (tupleKind_room_in1 x) (Ib I.Β eb) t s ?_;have q:=(r.val k).ϸ;rw[Option.isSome_map]at q;rw[<-q,<-l];exact h _ (I.tok _)
def El{l:Nat}(I:Inv g d j h i)(n:ZY (h a))(m:Heap.SameBut a i.heap c)(p:∃q,c.get? a=some q)(k:Μ g.prog g.w (upd h a f) c a f):Inv g d j (upd h a f) { i with heap:=c,toks:=l }:=I.write (x:=a) (e:=a) n (.inl rfl) (λb q o z=>(m.2 b o).trans z) p k
def LM{h:Heap}{f:List (Key×V)}(z:f.length<=sizeLine)(j:(b==sysModules)=false)(g:KV f a)(i:h.DictOf (iT c d) b a):Μ c d e h b (.dK f):=⟨z,j,a,g,i⟩
section
variable{X:Cx}{d:hP}{f:St}{H:Hp}{s:Shared}{a:Addr}{y:V}{v:V}{u:Value}{r:Value}{A:Around}{E:hL}
def Mq{J:Hp}{Q:Unit->Shared->Prop}(K:A.units+1<cLine)(I:Inv X d f H s)(g:Wh H a y v J)(F:RelV y u)(B:RelV v r)(h:∀C,Inv X d f J C->Q () C):wpAny (model X.prog X.w) A (setItem (.ref a) u r) Q E s:=by
 rcases g with⟨ρ,k,e,ey,l,eH⟩|⟨ρ,k,b,e,ey,eb,l,eH⟩
 .subst ey eH;obtain⟨z,o,N,i,n⟩:=Qe I.Β e;have p:N.length<=sizeLine:=by rw[<-i.length];exact z
  have x:(n9 ρ k v).length<=sizeLine:=by have:=vF ρ k v;lia
  refine wpAny_setItem_pairs (hsz:=p) (zj F) n λD j t=>h _ ?_;have S:∃q,D.get? a=some q:=let ⟨q,_,_,m,_⟩:=j;⟨q,m⟩;exact El I (by rw[e];exact True.intro) t S (LM x o (i.put k B) j)
 .subst ey eH;cases(show u=Value.ref b from F);obtain⟨z,o,R,i,n⟩:=Sj I.Β e;have p:R.length<=sizeLine:=by rw[<-Paired.length i];exact z
  have x:(n9 ρ k v).length<=sizeLine:=by have:=vF ρ k v;lia
  refine wpAny_setItem_heap (hsz:=p) (tupleKind_room_in1 K) (Ib I.Β eb) n λD j t=>h _ ?_;obtain⟨q,L,T,m,U,M,O,_,P⟩:=j;refine El I (by rw[e];exact True.intro) t ⟨q,m⟩ ⟨x,o,_,(i.put k eb B).keeps λc V G=>?_,q,L,T,m,U,M,O,P⟩;rw[aM (cZ G e (λz=>nomatch z))];exact G
end
section
variable{X:Cx}{b:hP}{c:St}{H:Hp}{s:Shared}{a:Addr}{d:List (Key×V)}{A:Around}{E:hL}
def Sh{Q:hL}(I:Inv X b c H s)(e:Rd H a (.dK d))(h:∀t g,Inv X b c H g->Q (.int d.length t) g):wpAny (model X.prog X.w) A (call (.builtin "len") [.ref a]) Q E s:=by
 obtain⟨z,j,k,f,i⟩:=Ku I.Β e;refine call_len_dict j i (by rw[<-f.length];rw[sizeLine_eq]at z;lia) ?_;rw[<-f.length];exact h _ _ (I.tok _)
end
def RL(i:Expr):Prop:=∀b a,subscripted i false b a=operate [b,a] (getItem b a)
def Qt{a:Program}{w:World}{A:Around}{E:hL}{s:Shared}{j:Env}{c b:Expr}{n:Pos}{T id:String}{Q:hL}(t:typeLookup (.type T) "__getitem__"=pure (some (.builtin id)))(q:RL b)(h:wpAny (model a w) A (eval c j) (λo g=>wpAny (model a w) A (eval b j) (λi d=>d.TypeIs o T/\wpAny (model a w) A (getItem o i) Q E d) E g) E s):wpAny (model a w) A (eval (.Subscript c b n) j) Q E s:=by
 refine Subscript_ (db h (λo g m=>db m (λi d e=>?_) λ_ _ x=>x) λ_ _ x=>x);obtain⟨p,e⟩:=e;unfold subscriptTail;refine ao ?_;rw[getitemInPython_of_ne p.not_modules];refine ao (lZ p t ?_);have k:wpAny (model a w) A (subscripted b false o i) (λr f=>wpAny (model a w) A (letTemporaryGo c o r>>=λ_=>pure r) Q E f) E d:=by
  rw[q o i];exact wpAny_operating (db e (λr f l=>ao (wpAny_letTemporaryGo (bh l))) λ_ _ x=>x)
 first
  | exact bh (ao k)
  | exact ao (bh (ao k))
  | exact ao k
def D3(e f:TE):TE:=λc H Q=>e c H λy d=>f c d λx b=>∃a o,x=.ref a/\Wg b a y o/\Q (.bl (!o.isSome)) b
def K3(h g i:TE):TS:=λD b H=>i b H λv e=>h b e λx f=>g b f λy d=>∃a c,x=.ref a/\Wh d a y v c/\D.nx b c
def LV{X:Cx}(l:X.A.units+1<cLine)(k:PE X d c)(o:PE X e b):PC X .NotIn d e (D3 c b):=by
 intro f s i H Q I h;refine eF (k f s i H _ I h) λD n y t m r C=>eF (o f n i t _ m C) λu F x v B p ⟨a,z,q,g,j⟩=>?_;subst q;obtain rfl:u=Value.ref a:=p;exact QU l B g r λE w=>⟨.bl (!z.isSome),v,w,rfl,j⟩
def QY{X:Cx}{l:Pos}(q:X.A.units+1<cLine)(z:PE X i f)(p:PE X d j)(J:PE X b e)(P:swapsWith b (some (.Subscript i d c)) l.line X.env=pure false):PS X (.Assign [.Subscript i d c] b l) (K3 f j e):=by
 intro k s m H D I h;refine wpAny_Assign_Subscript (eF (J k s m H _ I h) λr w v F t n R=>eF (z k w m F _ t R) λu K x G Q B o=>eF (p k K m G _ Q o) λU V y S N E ⟨a,M,C,g,L⟩=>?_) P;subst C;obtain rfl:u=Value.ref a:=B;exact Mq q N g E n λT O=>⟨m,M,O,L⟩
def P6(h:Heap)(d:sysModules<h.objs.size):Μ b c a (h.push { cls:=.type "dict",data:=.dict #[] }) h.objs.size (.dK []):=⟨cg _,beq_eq_false_iff_ne.mpr (Ne.symm (aV d)),[],.nil,Heap.DictOf.new h⟩
def yM:List (TE×TE)->St->Hp->(List (V×V)->Hp->Prop)->Prop
 | [],_,H,Q=>Q [] H
 | (tk,tv)::r,σ,H,Q=>tk σ H λx b=>tv σ b λy c=>yM r σ c λd a=>Q ((x,y)::d) a
abbrev VV:List (V×V)->List (Value×Value)->Prop:=Paired λp q=>RelV p.1 q.1/\RelV p.2 q.2
def PPs(X:Cx)(d:Pos)(c:List (Option Expr))(a:List Expr)(f:List (TE×TE)):Prop:=∀(b:hP)(s:Shared)(e:St)(H:Hp)(Q:List (V×V)->Hp->Prop),Inv X b e H s->yM f e H Q->wpAny (model X.prog X.w) X.A (evalPairs (pairTrees c a X.env d)) (λi j=>∃h g,Inv X b e g j/\VV h i/\Q h g) X.xe s
def Rc :PPs b a [] [] []:=λc s d H Q I h=>pairTrees_nil_walk ⟨[],H,I,.nil,h⟩
def Om(D:PE b j f)(z:PE b i e)(E:PPs b a d g c):PPs b a (some j::d) (i::g) ((f,e)::c):=λk s l H Q I h=>
 pairTrees_cons_walk (eF (D k s l H _ I h) λu q x v p r J=>eF (z k q l v _ p J) λM A y w G t o=>
  ϕ (E k A l w _ G o) λK L ⟨F,n,C,m,B⟩=>⟨(x,y)::F,n,C,.cons ⟨r,t⟩ m,B⟩)
def wD(d a:List (Key×V)):List (Key×V):=a.foldl (λb c=>n9 b c.1 c.2) d
def KV.merge:∀{a:List (Key×V)}{d:List (Key×Value)}{b:List (Key×V)}{c:List (Key×Value)},KV a d->KV b c->KV (wD b a) (merged c d):=by
 intro a d b c r;unfold KV at r
 induction r generalizing b c with
 | nil=>intro q;exact q
 | @cons p q ps qs h t ih=>
   intro f;have e:KV (n9 b p.1 p.2) (stored c q.1 q.2):=by
    have:=f.put p.1 h.2;rw[<-h.1];exact this
   exact ih e
theorem xE:∀(b a:List (Key×V)),(wD a b).length<=a.length+b.length
 | [],a=>by show a.length<=a.length+0;lia
 | p::r,a=>by
   have c:=xE r (n9 a p.1 p.2);have d:=vF a p.1 p.2;show(wD (n9 a p.1 p.2) r).length<=_;rw[aO];lia
theorem Cd :∀{e:List (Key×V)}{g:List (Value×Value)},VV (e.map λf=>(kV f.1,f.2)) g->∃d,Carries (iT P w) g d/\KV e d
 | [],_,r=>by rw[cH]at r;cases r;exact⟨[],True.intro,.nil⟩
 | p::e,_,r=>by
   rw[aE]at r;cases r with
   | @cons a b as bs h t=>
     obtain⟨d,c,q⟩:=Cd (P:=P) (w:=w) t;obtain⟨j,i⟩:=b;exact⟨(p.1,i)::d,⟨zj h.1,rfl,c⟩,.cons ⟨rfl,h.2⟩ q⟩
def Lm(b:List (TE×TE)):TE:=λe H Q=>∀p,H p=none->yM b e (upd H p (.dK [])) λf d=>d p=some (.dK [])/\∃a:List (Key×V),f=a.map (λc=>(kV c.1,c.2))/\a.length<=15/\Q (.ref p) (upd d p (.dK (wD [] a)))
def Q6(h:PPs f g b d i)(C:b.all (·.isSome)=true)(N:b.length=d.length)(B:b≠[])(k:b.length<=15):PE f (.Dict b d g) (Lm i):=by
 intro j s t H Q I q;have E:=I.Β.fresh (aJ s.heap.objs.size);have x:=I.laid (a:=s.heap.objs.size) (o:=.dK []) (h':=s.heap.push { cls:=.type "dict",data:=.dict #[] }) (t':=s.toks) (λ_ _ q=>aB _ q) (aJ _) (P6 s.heap I.big);refine wpAny_Dict_walk (knd:=iT f.prog f.w) C N B k (ϕ (h j _ t _ _ x (q _ E)) λO S ⟨U,R,p,l,e,m,K,T,r⟩=>?_);subst K;obtain⟨G,c,M⟩:=Cd (P:=f.prog) (w:=f.w) l;obtain⟨z,A,D,u,v⟩:=Qe p.Β e;cases u;refine⟨G,c,v,λh' n L=>⟨.ref s.heap.objs.size,_,?_,rfl,r⟩⟩;have F:(wD [] m).length<=sizeLine:=by
  have y:=xE m [];rw[dA]at y;rw[sizeLine_eq];lia
 have J:∃q,h'.get? s.heap.objs.size=some q:=let ⟨q,_,_,hq,_⟩:=n;⟨q,hq⟩;exact El p (by rw[e];exact True.intro) L J (LM F A (M.merge .nil) n)
end L2
namespace Att
open PySem PySem.W PySem.Calls PyProof.Rows
def C7 :∀(e:fc)(f:hT),WellAll c d f (e.map WData.int)->IntsAre f e:=by
 intro e
 induction e with
 | nil=>
   intro f w;rw[cH]at w;cases w;exact .nil
 | cons n e ih=>
   intro f w;rw[aE]at w;cases w with
   | cons a b=>
     cases a;exact .cons _ _ (ih _ b)
def Nk{l:OpenLaw}(x:l.most=some c)(o:l.row.toRowW.claim.pre b=true)(n:WellAll g f e b):∃a p h,e=[Value.ref a]/\b=[WData.list (h.map WData.int)]/\f.get? a=some { cls:=.type "list",data:=.seq p.toArray }/\IntsAre p h/\h.length<=c:=by
 have m:WShape.hasAll [] b [.list .int]=true:=(pre_splitW o).1;have s:l.pre.holds [] { args:=b }=true:=(pre_splitW o).2;obtain⟨d,r,rfl,u,w⟩:=hasAllW_cons m;obtain rfl:=hasAllW_nil w;obtain⟨y,rfl,v⟩:=hasW_list u;obtain⟨h,rfl⟩:=items_int v;have i:h.length<=c:=by
  unfold OpenLaw.pre at s;have j:(WTm.not (.lt (.lit (.int (c:Int))) (.len (.arg 0)))).holds [] { args:=[.list (h.map .int)] }=true:=by
   have j:=(holds_andW s).1;rw[x]at j;exact j
  have k:=condW_of j (w_not (w_lt w_lit (w_len_list (w_arg rfl))));rw[ag]at k;refine Nat.le_of_not_lt λq=>?_;have t:(c:Int)<((h.length:Nat):Int):=by lia
  first
   | (rw[bo t]at k;exact absurd k (by decide))
   | (simp at k;lia)
 cases n with
 | cons w1 w2=>
   cases w2;cases w1 with
   | list ho YR=>exact⟨_,_,h,rfl,rfl,ho,C7 h _ YR,i⟩
def Ml(l:OpenLaw)(a:List WData):l.row.toRowW.claim.post a (.bool true) a=true:=postW_of (r:=l.row.toRowW) (X:=(true==true))
 (show WShape.has [] (.bool true) .bool=true by first|rfl|decide|simp[WShape.has,WShape.arms,WShape.armsAll])
 (show(WTm.eq .res (.lit (.bool true))).value [] { args:=a,res:=some (.bool true),after:=a }=some (.bool (true==true))from w_eq_bool (w_res rfl) w_lit) rfl
def UD{l:OpenLaw}{B:World->Heap->Prop}{d:DefRec}(U:l.most=some e)(x:d.params.defaults=[])(call:∀(w:World) (i h:Shared) (t z:hU) (n:Addr) (o:Obj) (u cd k:Value) (a:Addr) (m:hT) (s:fc),Ground g b [] c w i t z h.heap->B w h.heap->h.heap.get? n=some o->o.data=.func (docDef d.name d.params d.body d.scope u cd k)->h.heap.CodeRec cd d.name->t d.name=some (.ref n)->h.heap.get? a=some { cls:=.type "list",data:=.seq m.toArray }->IntsAre m s->s.length<=e->h.gens=#[]->codeAny (model l.prog w) callerA (.call (.ref n) ⟨[.ref a],[]⟩) (λr q=>r=.ok (.ret (.bool true))/\OldK h.heap q.heap/\q.os=h.os/\AllBare q.gens) h):WalkO g b c B l.row.toRowW d [] (λf m=>PySem.call f m):=by
 intro w i h t z G Y n o u cd k O kV H I N A y S C D as E P R v F;obtain rfl:O=.none:=Dflts.none A x;obtain rfl:kV=.none:=Dflts.noKw A;obtain⟨a,m,s,rfl,rfl,M,j,p⟩:=Nk U E v;refine enter_call (jq (call w i h t z n o u cd k a m s G Y H (fd_plain I) N y M j p S) λr q Q=>?_);obtain⟨rfl,T,J,L⟩:=Q;exact⟨.inl ⟨.bool true,.bool true,[],rfl,λ_=>rfl,.bool true,Ml l _,λ_=>⟨List.Pairwise.nil,λ_ K=>(nomatch K)⟩⟩,T,J,L⟩
end Att
namespace L2
open PySem PySem.Spec PyProof.Rows
theorem EX:∀{b:hT}{a:fc},IntsAre b a->Vals (a.map V.int) b
 | _,_,.nil=>.nil
 | _,_,.cons n t h=>.cons ⟨t,rfl⟩ (EX h)
def Oo(H:Hp):Prop:=∀b,H b=none\/∃o a,H b=some (.U0 o (.lst a))
def O0{K:hO}{y:Shared}{G:hT}(KX:K.In y.heap)(O:y.heap.Ns mainGlobals f)(A:y.heap.Ns builtinsNs l)(R:∀g:Str,g≠"__name__"->l g=bootBuiltins g)(X:y.heap.NoLimit)(hg:y.gens=#[])(P:y.heap.get? a=some { cls:=.type "list",data:=.seq G.toArray })(hi:IntsAre G c)(hl:c.length<=sizeLine)(hr:Ρ x callerA)(F:∀C:Heap,K.In C->C.Ns mainGlobals f->ϋ i j K f C w x k p [g] t)(Y:∀(s:Shared) (u:Value),BindsTo s p ⟨[u],[]⟩ [(g,u)])(WT:∀H:Hp,Oo H->ι K H a (c.map V.int)->t [.ref a] H (λv _=>v=.bl true) λ_ _ _=>False)(Q:∀H e B,w [] H y (λ_ _ _=>False) e B->False):codeAny (model i j) callerA (.call (.ref k) ⟨[.ref a],[]⟩) (λr B=>r=.ok (.ret (.bool true))/\OldK y.heap B.heap/\B.os=y.os/\AllBare B.gens) y:=by
 have rv:=EX hi;have S:=hi.length;have E:∀H:Hp,Oo H->ι K H a (c.map V.int)->ϰ i j H y.heap->(∀b,H b≠none->b=a)->(H a≠none->K.lookup a=none)->codeAny (model i j) callerA (.call (.ref k) ⟨[.ref a],[]⟩) (λr B=>r=.ok (.ret (.bool true))/\OldK y.heap B.heap/\B.os=y.os/\AllBare B.gens) y:=by
  intro H Z hS Β hA hK;have Vh:∀{b:Addr}{o:Obj},y.heap.get? b=some o->H b=none->(xq y.heap H).get? b=some o:=λe n=>ON e n;have T:∀{b:Addr}{o:Obj}{I:Array DictEntry}{L:Nat},y.heap.get? b=some o->o.data=.dict I L->H b=none:=λ{b o I L} e d=>by
   cases q:H b with
   | none=>rfl
   | some u=>
     have U:b=a:=hA b (by rw[q];simp);subst U;rw[P]at e;cases e;have d':Data.seq G.toArray _=Data.dict I L:=d;cases d'
  have D:∀{b:Addr}{m:hU},y.heap.Ns b m->(xq y.heap H).Ns b m:=λ{b m} ⟨o,I,L,e,d,r⟩=>⟨o,I,L,Vh e (T e d),d,r⟩;have M:K.In (xq y.heap H):=λb o e=>Vh (KX b o e) (by
   cases q:H b with
   | none=>rfl
   | some u=>
     have U:b=a:=hA b (by rw[q];simp);subst U;rw[hK (by rw[q];simp)]at e;cases e)
  have hM:Mod K f (xq y.heap H):=⟨M,D O,⟨l,D A,R⟩,let ⟨mc,h1,h2⟩:=X;⟨mc,D h1,h2⟩⟩;have e0:U3 i j K f (xq y.heap H) callerA [] y H:=⟨rfl,hM,λb o e=>QI e,ly (LP _ _),trivial,λb A=>absurd (show b∈([]:hR)from A) (by simp),Β,.of_eq hg⟩;refine jq ((F _ M (D O)).run callerA [] y H ⟨[.ref a],[]⟩ [.ref a] [.ref a] _ _ hr e0 (Y y (.ref a)) (.cons rfl .nil) (WT H Z hS)) λr B h=>?_;cases r with
  | error e=>exact(Q H e B h).elim
  | ok fl=>
    cases fl with
    | next=>exact False.elim h
    | brk=>exact False.elim h
    | cont=>exact False.elim h
    | ret u=>
      obtain⟨v,H',os,N,un,UE,r',q⟩:=h;have q':v=.bl true:=q;subst q';obtain rfl:u=Value.bool true:=r';refine⟨rfl,OldK.of_keep λb o e=>?_,os,N⟩;cases q:H b with
      | none=>exact un.keep b o e q (by intro z;exact absurd (show b∈([]:hR)from z) (by simp)) (by simp)
      | some u=>
        rcases Z b with z|⟨ob,xs,z⟩
        .rw[q]at z;cases z
        .have z2:=un.gE b ob _ z;obtain⟨e1,_⟩:=Β b _ z;obtain⟨e2,_⟩:=UE b _ z2;rw[e]at e1;cases e1;exact e2
 cases hk:K.lookup a with
 | some o=>
   have e:=KX a o hk;rw[P]at e;cases e;refine E (λ_=>none) (λ_=>.inl rfl) (.inr ⟨_,G.toArray,_,hk,rfl,rfl,rfl,by rw[aR,S];exact hl,by simpa using rv⟩) (λb u z=>by have J:(none:Option HO)=some u:=z;cases J) (λb z=>absurd rfl z) λz=>absurd rfl z
 | none=>
   refine E (λb=>if b=a then some (.U0 { cls:=.type "list",data:=.seq G.toArray } (.lst (c.map V.int)))else none) (λb=>?_) (.inl (.inr ⟨{ cls:=.type "list",data:=.seq G.toArray },aj rfl⟩)) (λb u z=>?_) (λb z=>?_) λ_=>hk
   .by_cases A:b=a
    .exact .inr ⟨_,_,aj A⟩
    .exact .inl (ah A)
   .by_cases A:b=a
    .have J:=(aj A).symm.trans z;cases J;subst A;exact⟨P,by rw[ag];exact hl,G,_,rv,P⟩
    .have J:=(ah A).symm.trans z;cases J
   .by_cases A:b=a
    .exact A
    .exact absurd (ah A) z
def Xp{l:PySem.W.OpenLaw}{L:World->Heap->Prop}{d:DefRec}{K:Params->PySem.W.Frag}{CX:World->Th}{sp:World->Sp}(hn:l.most=some n)(Q:n<=sizeLine)(D:d.params.defaults=[])(hr:Ρ k callerA)(O:∀(w:World) (h:Heap),L w h->(K w.params).In h)(F:∀(w:World) (r:hU) (y:Addr) (h:Heap),(K w.params).In h->h.Ns mainGlobals r->r d.name=some (.ref y)->∃C:FuncData,(∀(s:Shared) (u:Value),BindsTo s C ⟨[u],[]⟩ [(x,u)])/\∀m:Heap,(K w.params).In m->m.Ns mainGlobals r->ϋ l.prog w (K w.params) r m (CX w) k y C [x] (sp w))(U:∀(w:World) (H:Hp) (a:Addr) (z:fc),z.length<=n->Oo H->ι (K w.params) H a (z.map V.int)->sp w [.ref a] H (λv _=>v=.bl true) λ_ _ _=>False)(A:∀(w:World) (H:Hp) (s:Shared) (e:Value) (B:Shared),CX w [] H s (λ_ _ _=>False) e B->False):PySem.W.WalkO j c i L l.row.toRowW d [] (λf J=>PySem.call f J):=by
 refine Att.UD hn D λw I t r mb y o pm cd Z a J z G Y ho hd Vw E R q p hg=>?_;have M:=O w _ Y;obtain⟨C,P,X⟩:=F w r y _ M G.T.g E;exact O0 M G.T.g G.T.b G.T.builtins G.T.nolimit hg R q (aW p Q) hr X P (λH N S=>U w H a z p N S) λH e B=>A w H t e B
def kM(s:Stmt)(j:Nat):Stmt:=match s with
 | .ClassDef _ _ _ body _ _ _ _ _ _ _=>body.getD j (.Pass ⟨0,0,0,0⟩)
 | _=>.Pass ⟨0,0,0,0⟩
def mG(s:Stmt):Arguments:=match s with
 | .FunctionDef _ a _ _ _ _ _ _ _ _=>a
 | _=>{ posonlyargs:=[],args:=[],vararg:=none,kwonlyargs:=[],kw_defaults:=[],kwarg:=none,defaults:=[] }
def kL(s:Stmt):List Stmt:=match s with
 | .FunctionDef _ _ b _ _ _ _ _ _ _=>b
 | _=>[]
def aA(s:Stmt):Scope:=match s with
 | .FunctionDef _ _ _ _ _ _ sc _ _ _=>sc
 | _=>{ kind:=.function,names:=[],isGenerator:=false,isCoroutine:=false }
abbrev E0:XK:=λ_ _ _=>False
structure WV(K:hO)(x qual:Str)(st:Stmt)(f:Addr)(fd:FuncData):Prop where
 ex:∃(oc:Value)(od:Option Addr)(kV doc pm:Value)(an:Option Addr)(ο ct:Value)(UA:Array (Option Value)),fd=PySem.W.fnOf x qual (mG st) (kL st) (aA st) .none kV doc pm an ο ct/\K.lookup f=some ⟨oc,od,.func fd,UA⟩/\PySem.W.codeIn K ο qual=true
 kp:PySem.W.keepIn K (.ref f)=true
def WV.binds{K:hO}{x a:Str}{st:Stmt}{f:Addr}{k:FuncData}{j:hX}(F:WV K x a st f k)(h:∀(kV b c:Value) (i:Option Addr) (e d:Value) (g:hT),g.length=j.length->bindArgs (PySem.W.fnOf x a (mG st) (kL st) (aA st) .none kV b c i e d) ⟨g,[]⟩=pure (j.zip g)):Binds K k j []:=by
 obtain⟨o,l,kV,b,c,i,e,d,n,rfl,p,m⟩:=F.ex;exact .all (h kV b c i e d)
def yD{K:hO}{x a:Str}{st:Stmt}{f:Addr}{j:Value}{m h:Option Addr}{i:Array (Option Value)}{kV b g d e:Value}(l:K.lookup f=some ⟨j,m,.func (PySem.W.fnOf x a (mG st) (kL st) (aA st) .none kV b g h d e),i⟩)(c:PySem.W.codeIn K d a=true)(k:PySem.W.keepIn K (.ref f)=true):WV K x a st f (PySem.W.fnOf x a (mG st) (kL st) (aA st) .none kV b g h d e):=⟨⟨j,m,kV,b,g,h,d,e,i,rfl,l,c⟩,k⟩
def Sv(c:Ρ b a):a.units+1<cLine:=fZ (Nat.add_le_add_left (by decide:1<=64) _) c.units
def pv{X:Cx}(i:Nat)(e:X.N[i]?=some a:=by rfl)(d:Vis X.env.scope a:=by first|exact Or.inl rfl|exact Or.inr (Or.inl rfl)|exact Or.inr (Or.inr rfl))(f:(a==("__debug__":Str))=false:=by decide)(c:(a==("__classdict__":Str))=false:=by decide):PE X (.Name a b) (yx i):=Ie e d f c
def R7{A B:Prop}(h:B):if false=true then A else B:=by
 rw[ah bj];exact h
def Sc{A B:Prop}(h:A):if true=true then A else B:=by
 rw[aj rfl];exact h
def δ(H a:Hp):Prop:=∀b o,H b=some o->a b=some o
def δ.refl(H:Hp):δ H H:=λ_ _ h=>h
def δ.trans(a:δ f e)(b:δ e d):δ f d:=λc o h=>b c o (a c o h)
def δ.free(e:δ b c)(h:c a=Option.none):b a=Option.none:=by
 cases q:b a with
 | none=>rfl
 | some o=>
   rw[e a o q]at h;cases h
def δ.seq{K:hO}{H b:Hp}{a:Addr}{c:List V}(e:δ H b)(h:ι K H a c):ι K b a c:=by
 rcases h with(h|⟨o,h⟩)|h
 .exact .inl (.inl (e _ _ h))
 .exact .inl (.inr ⟨o,e _ _ h⟩)
 .exact .inr h
def Mo:lx b (.builtin "len") (λe H Q=>∃a c,e=[V.ref a]/\H a=some (.dK c)/\Q (.int c.length) H):=by
 intro d s j H e l Q I r h;obtain⟨a,c,rfl,i,q⟩:=h;obtain⟨u,rfl,f⟩:=oB r;cases f;exact Sh I (.inl i) λt k g=>⟨.int c.length,H,g,⟨t,rfl⟩,q⟩
def Cx.comp(X:Cx)(d:hX)(a:Scope)(cl:List (Str×Addr))(C:Addr)(b:Shared)(c:Hp)(e:hR):Cx where
 prog:=X.prog
 w:=X.w
 K:=X.K
 mg:=X.mg
 base:=X.base
 A:=X.A
 N:=d
 s₀:=b
 H₀:=c
 env:=compEnvC a cl C X.env
 outer:=X.stack
 stack:=X.stack
 ex:=e
 fn:=λ_=>false
 calm:=X.calm
 pn:=[]
 xe:=λ_ _=>False
structure ϩ(X:Cx)(Nc:hX)(own:Nat)(js:List Nat)(scope:Scope)(cl:List (Str×Addr)):Prop where
 YT:closureFor scope X.env=pure cl
 kind:scope.kind=.function
 U5:∀y∈scope.names,y.2≠.cell
 names:∀y∈scope.names,y.2=.local->scope.names.lookup y.1=some .local
 cells:∀x c,cl.lookup x=some c->X.env.cells.lookup x=some c
 has:∀x,((relabel scope X.env).names.lookup x=some .cell\/(relabel scope X.env).names.lookup x=some .free)->∃c,cl.lookup x=some c
 len:Nc.length=own+js.length
 outer:∀i x,Nc[own+i]?=some x->∃j,js[i]?=some j/\X.N[j]?=some x/\X.env.scope.names.lookup x=some .cell/\(relabel scope X.env).names.lookup x=some .cell
def nB(a:Nat)(b:List Nat)(c:St):St:=List.replicate a none++b.map λj=>(c[j]?).getD none
def KY(h:Nat)(u:List Nat)(q:TI)(g:TG)(t:TT)(s:TE):TE:=λk H Q=>q k H λJ l=>∀p,l p=none->∃W:Nat->Nat->List V->St->Hp->Prop,(∃m,W 0 m [] (nB h u k) (upd l p (.lst [])))/\∀i m c f d,W i m c f d->(J.stop i d/\Q (.ref p) d)\/(J.go i d/\∀x o,J.XZ i d x o->g x f o λa r=>t a r λb j=>
 if b=true then s a j λy n=>n p=some (.lst c)/\c.length<sizeLine/\∃e,e<m/\W (i+1) e (c++[y]) a (upd n p (.lst (c++[y])))
 else ∃e,e<m/\W (i+1) e c a j)
def PTs(X:Cx)(d:List Expr)(t:TT):Prop:=∀(a:hP)(s:Shared)(b:St)(H:Hp)(Q:Bool->Hp->Prop),Inv X a b H s->t b H Q->wpAny (model X.prog X.w) X.A (forIn d true λc r=>if r=true then do let e <-isTrue c X.env (eval c X.env);pure (ForInStep.yield e)else pure (ForInStep.yield r)) (TP X a b Q) X.xe s
def YV:TT:=λ_ H Q=>Q true H
def gj :PTs a [] YV:=λb s c H Q I h=>wpAny_tests_nil ⟨H,I,h⟩
def DM(h:PT a b c):PTs a [b] c:=λd s e H Q I q=>wpAny_tests_one (h d s e H Q I q)
def AE(I:Nat->Shared->Prop)(E:∀n s,I n s->wpAny (model a f) e (pyNext i) (λr y=>match r with
 | none=>q (.ok .next) y
 | some v=>wpAny (model a f) e (letOwnedTupleGo b i v) (λ_ J=>wpAny (model a f) e (assign b d v) (λ_ B=>
  wpAny (model a f) e (forIn g true λc r=>if r=true then do let ok <-isTrue c d (eval c d);pure (ForInStep.yield ok)else pure (ForInStep.yield r)) (λok u=>
   if ok=true then wpAny (model a f) e (eval l d) (λx z=>
    wpAny (model a f) e (call (.builtin "list.append") [j,x]) (λ_ C=>∃m,m<n/\I m C) (λ_ _=>False) z) (λ_ _=>False) u
   else ∃m,m<n/\I m u) (λ_ _=>False) B) (λ_ _=>False) J) (λ_ _=>False) y) (λ_ _=>False) s)(n:Nat)(h:I n s):codeAny (model a f) e (.compLoop (.ListComp l [⟨b,o,g,0⟩] k p) 0 i j d) q s:=by
 refine codeAny_loop rfl I (λn s K=>?_) n h;show wpAny _ e ((compTurn (.ListComp l [⟨b,o,g,0⟩] k p) 0 i j d).onRaise (λx=>do noteFrame x d;theTreesLotGoes x)) _ _ s;refine wpAny_noted ?_;rw[compTurn_list];refine ao (jd (ao (db (E n s K) (λr y A=>?_) λ_ _ w=>w.elim)));cases r with
 | none=>exact bh A
 | some v=>
   refine ao (db A (λ_ J H=>?_) λ_ _ w=>w.elim);refine ao (db H (λ_ B G=>ao (db G (λok u t=>?_) λ_ _ w=>w.elim)) λ_ _ w=>w.elim);cases ok with
   | true=>
     rw[aj rfl]at t;simp only[if_true];exact ao (ao (db t (λx z F=>ao (db F (λ_ C D=>bh (bh ⟨rfl,D⟩)) λ_ _ w=>w.elim)) λ_ _ w=>w.elim))
   | false=>
     rw[ah bj]at t;simp only[dL,if_false]
     first
      | exact bh ⟨rfl,t⟩
      | exact ao (bh (bh ⟨rfl,t⟩))
def Eu{X:Cx}{l:hX}{own:Nat}{q:List Nat}{a:Scope}{cl:List (Str×Addr)}{g:hP}{m:St}{f:Hp}{d:Shared}{C:Addr}{j:hR}(T:ϩ X l own q a cl)(I:Inv X g m f d)(k:d.heap.objs.size<=C)(i:∀b∈j,p6 X g f b)(s:∀b∈j,b<d.heap.objs.size):(X.comp l a cl C d f j).Ok where
 mod:=I.ok.mod
 kind:=by show(relabel a X.env).kind=_;exact T.kind
 glob:=I.ok.glob
 blt:=I.ok.blt
 above:=k
 inj:=λx y c n r=>I.ok.inj x y c (T.cells x c n) (T.cells y c r)
 has:=λx h=>T.has x h
 XX:=λx c h=>by cases h
 hd:=I.ok.hd
 frames:=I.ok.frames
 Yw:=.inl rfl
 Z0:=λb hb=>⟨aV (aU (s b hb) k),λx c h=>(i b hb).2.2.2.2.1 x c (T.cells x c h)⟩
 bs:=I.bs
 V7:=aW I.ok.V7 I.sz
 Uv:=λb o e hb=>by
  rcases(i b hb).2.2.2.1 with z|z
  .exact I.ok.Uv b o e z
  .exact absurd (aU (aK (I.ok.bs b o e).1) z) (cV _)
 T7:=λb hb p=>by
  rcases aF.mp (I.T8 b p)with z|z
  .exact(i b hb).2.1 z
  .exact(i b hb).2.2.1 z
 gT:=I.stack
 WN:=I.oR
def G2{X:Cx}{B:hX}{h:Nat}{E:List Nat}{scope:Scope}{N:List (Str×Addr)}{r:hP}{s:St}{g:Hp}{a:Shared}{C D:Addr}{K:hR}{f:Heap}{t:Nat}{m:hU}(T:ϩ X B h E scope N)(I:Inv X r s g a)(O:a.heap.objs.size<=C)(A:a.heap.objs.size<=D)(YW:D≠C)(f1:∀b∈K,p6 X r g b)(ϐ:∀b∈K,b<a.heap.objs.size)(w:∀b o,a.heap.get? b=some o->f.get? b=some o)(L:f.Ns C m)(J:∃n,f.get? D=some { cls:=.type "list",data:=.seq ([]:hT).toArray n }):Inv (X.comp B scope N C a g K) [] (nB h E s) (upd g D (.lst [])) { a with heap:=f,toks:=t }:=by
 obtain⟨V,J⟩:=J;have l:∀c v,a.heap.IsCell c v->f.IsCell c v:=λc v ⟨o,H,U⟩=>⟨o,w c o H,U⟩;refine⟨Eu T I O f1 ϐ,rfl,I.bare,Un.laid w A (I.Β.fresh A),⟨m,L,λi x v Y Z e3=>?_⟩,λx c e=>?_,?_,λx c e=>?_,λp hp=>(by cases hp),I.Β.laid w A ?_,?_⟩
 .have hN:B[i]?=some x:=Y;have d:(nB h E s)[i]?=some (some v):=Z;unfold nB at d;by_cases M:i<h
  .rw[eJ (by simpa using M),jc]at d;simp[M]at d
  .obtain⟨k,rfl⟩:∃k,i=h+k:=⟨i-h,by lia⟩;rw[dc (by simp)]at d;simp only[b8,Nat.add_sub_cancel_left,aN]at d;obtain⟨j,hj,R,P,Q⟩:=T.outer k x hN;rw[hj]at d;replace d:some (s[j]?.getD none)=some (some v):=d;have G:s[j]?=some (some v):=by
    cases q:s[j]? with
    | none=>rw[q]at d;simp at d
    | some y=>rw[q]at d;simpa using d
   obtain⟨m0,S,F⟩:=I.loc;obtain⟨u,W,lk⟩:=F j x v R G (.inr (.inl P));refine⟨u,W,.inr ⟨.inl Q,?_⟩⟩;rcases lk with⟨z,_⟩|⟨_,c,hc,bV⟩
   .have z':X.env.scope.names.lookup x=some .local:=z;rw[P]at z';cases z'
   .obtain⟨c',Xg⟩:=T.has x (.inl Q);have:=T.cells x c' Xg;rw[hc]at this;cases this;exact⟨c,Xg,l c _ bV⟩
 .obtain⟨v,z⟩:=I.cell x c (T.cells x c e);exact⟨v,l c v z⟩
 .show upd g D (.lst []) C=none;rw[aM (Ne.symm YW)];exact I.Β.fresh O
 .have e':=T.cells x c e;obtain⟨v,o,H,_⟩:=I.cell x c e';rw[aM (aV (aU (aK H) A))];exact I.ϔ x c e'
 .exact⟨cg _,[],V,.nil,J⟩
 .show(nB h E s).length=B.length;rw[T.len];simp[nB]
def Fb{X:Cx}{D:hX}{h:Scope}{x:List (Str×Addr)}{f:hP}{s r:St}{d i:Hp}{c s':Shared}{C:Addr}{m:hR}{h':Heap}(I:Inv X f s d c)(B:c.heap.objs.size<=C)(p:∀b∈m,p6 X f d b)(l:Inv (X.comp D h x C c d m) [] r i s')(E:Heap.SameBut C s'.heap h'):Inv X f s i { s' with heap:=h' }:=by
 have u:Un (ϧ X.stack) m d i c.heap s'.heap:=l.base;have ne:∀b o,c.heap.get? b=some o->b≠C:=λb o e=>aV (aU (aK e) B);have k:∀b o,b≠C->s'.heap.get? b=some o->h'.get? b=some o:=λb o n e=>E.extBut b o n e;have F:Un (ϧ X.stack) m d i c.heap h':=⟨λb o e n g j=>k b o (ne b o e) (u.keep b o e n g j),λb o e n g j=>let ⟨sl,q⟩:=u.slot b o e n g j;⟨sl,k b _ (ne b o e) q⟩,u.free,λb o e j=>let ⟨o',q⟩:=u.there b o e j;⟨o',k b o' (ne b o e) q⟩,u.lT,u.gE,u.nE⟩
 have t:i C=none:=l.free;have A:ϰ X.prog X.w i h':=λa o e=>(l.Β a o e).lE (λb v g q=>k b v (λz=>by
  rcases g with y|y
  .rw[y]at z;rw[z,t]at e;cases e
  .rw[z,t]at y;cases y) q) (λ_ q=>q) λ_ _ q=>q
 exact I.V8 (s':={ s' with heap:=h' }) (ch:=m) l.os F A l.bare λb g=>⟨(p b g).2.2.2.1,(p b g).2.1,(p b g).2.2.2.2.1,(p b g).2.2.2.2.2⟩
def gG(hc:f.calm=true)(T:ϩ f Nc z E a g)(hi:PI f j k G)(hg:∀C O N M,PG (f.comp Nc a g C O N M) j L)(ht:∀C O N M,PTs (f.comp Nc a g C O N M) l D)(he:∀C O N M,PE (f.comp Nc a g C O N M) m F)(hs:∀x,foldedSetIterable k f.env x=pure x:=by intro _;rfl):PE f (.ListComp m [⟨j,k,l,0⟩] a B) (KY z E G L D F):=by
 intro ac s σ H Q I h;rw[eval_ListComp];refine wpAny_comprehension_free (use:=none) rfl hs T.YT T.kind T.names (ϕ (hi ac s σ H _ I h) λv s1 h1=>ϕ h1 λdH K h2=>?_);obtain⟨it,M,tn,J,H1,rfl,I1,Tn,st,f1,R⟩:=h2;have Xq:∀b∈M,b<K.heap.objs.size:=λb P=>let ⟨o,e,_⟩:=Tn.obj _ _ st b P;aK e;refine fA (wpAny_newFunctionEnv T.U5 (by intro y hy;simp at hy) (λS iD Ϫ=>?_) T.kind);dsimp only at iD Ϫ ⊢;generalize YX:K.heap.push { cls:=.type "list",dict:=none,data:=.seq ([]:hT).toArray }=X at iD Ϫ ⊢;have hC:X.objs.size=K.heap.objs.size+1:=by rw[<-YX,d5]
 have YW:K.heap.objs.size≠X.objs.size:=by rw[hC];exact aV (fQ _)
 have Tr:K.heap.objs.size<=X.objs.size:=by rw[hC];exact gA _
 have b7:∀b,b<K.heap.objs.size->b≠X.objs.size:=λb P=>by rw[hC];exact aV (gq P)
 have a0:∀b o,K.heap.get? b=some o->S.get? b=some o:=λb o e=>Ϫ.extBut b o (b7 b (aK e)) (aB _ (YX▸aB _ e));have ϴ:∃n,S.get? K.heap.objs.size=some { cls:=.type "list",data:=.seq ([]:hT).toArray n }:=⟨_,Ϫ.extBut _ _ YW (aB _ (YX▸bc _ rfl))⟩;have UG:tn 0 S:=Tn.keep _ _ _ st λb _ o e=>a0 b o e;obtain⟨W,⟨m0,w0⟩,aT⟩:=R K.heap.objs.size I1.fresh;have Ic:=G2 (t:=K.toks+([]:List (Str×Value)).length) T I1 Tr (aJ _) YW f1 Xq a0 iD ϴ;generalize Xr:f.comp Nc a g X.objs.size K H1 M=Xc at Ic;have V:∀{H':Hp},(∀b∈M,H' b=none)->∀b∈M,p6 Xc [] H' b:=λ{H'} hn b P=>by
  subst Xr;exact⟨hn b P,b7 b (Xq b P),(Eu T I1 Tr f1 Xq).T7 b P,.inl P,λx c e=>(f1 b P).2.2.2.2.1 x c (T.cells x c e),λp hp=>by cases hp⟩
 have bS:∀b∈M,upd H1 K.heap.objs.size (.lst []) b=none:=λb P=>by
  rw[aM (aV (Xq b P))];exact(f1 b P).1
 have di:Xc.calm=true:=by subst Xr;exact hc
 have ad:∀Y:Shared,Y={ K with heap:=S,toks:=K.toks+([]:List (Str×Value)).length }->codeAny (model f.prog f.w) f.A (.compLoop (.ListComp m [⟨j,k,l,0⟩] a B) 0 (.ref it) (.ref K.heap.objs.size) (compEnvC a g X.objs.size f.env))
  (compPost (model f.prog f.w) f.A f.xe none (EP f ac σ Q) (.ref K.heap.objs.size) X.objs.size) Y:=by
  rintro Y rfl;refine AE (λn s'=>∃i ys a1 H',Inv Xc [] a1 H' s'/\tn i s'.heap/\(∀b∈M,H' b=none)/\W i n ys a1 H') ?_ m0 ⟨0,[],_,_,Ic,UG,bS,w0⟩;rintro n s3 ⟨i,ys,Z,H3,I3,VS,X1,w3⟩;rcases aT i n ys Z H3 w3 with⟨stop,q⟩|⟨go,step⟩
  .subst Xr;refine ϕ (Tn.done (f.comp Nc a g X.objs.size K H1 M) rfl rfl rfl hc i [] s3 Z H3 _ I3 (V X1) VS stop) λr s4 ⟨hr,I4⟩=>?_;subst hr;obtain⟨m4,b2,_⟩:=id I4.loc;exact⟨m4,b2,λh' bV=>⟨.ref K.heap.objs.size,H3,Fb I1 Tr f1 I4 bV,rfl,q⟩⟩
  .subst Xr;refine ϕ (Tn.item (f.comp Nc a g X.objs.size K H1 M) rfl rfl rfl hc i [] s3 Z H3 _ I3 (V X1) VS go) λr s4 ⟨u,hr,h4⟩=>?_;subst hr;refine ϕ h4 λ_ s5 ⟨x,H5,I5,r5,y5,Wc,Z6⟩=>?_;have Z7:=I5.pinned (V Z6) (Tn.obj _ _ Wc);have ae:∀{ai:St}{H7:Hp}{s7:Shared},Inv (f.comp Nc a g X.objs.size K H1 M) ([]++vY M s5.heap) ai H7 s7->Inv (f.comp Nc a g X.objs.size K H1 M) [] ai H7 s7/\tn (i+1) s7.heap/\∀b∈M,H7 b=none:=λ{ai H7 s7} I7=>by
    refine⟨I7.ϲ,Tn.keep _ _ _ Wc λb P o e=>(I7.pin (b,o) (bw _ (bw _ (py P e)))).1,λb P=>?_⟩;obtain⟨o,e,d⟩:=Tn.obj _ _ Wc b P;exact(I7.pin (b,o) (bw _ (bw _ (py P e)))).2.1
   refine ϕ (hg _ _ _ _ _ s5 Z H5 x u _ Z7 r5 (step x H5 y5)) λ_ s6 ⟨U,H6,I6,q6⟩=>?_;refine Bc (ht _ _ _ _ _ s6 U H6 _ I6 q6) λok s7 H7 I7 q7=>?_;cases ok with
   | false=>
     rw[ah bj]at q7 ⊢;obtain⟨m',hm,w7⟩:=q7;obtain⟨J1,J2,J3⟩:=ae I7;exact⟨m',hm,i+1,ys,U,H7,J1,J2,J3,w7⟩
   | true=>
     rw[aj rfl]at q7 ⊢;refine eF (he _ _ _ _ _ s7 U H7 _ I7 q7) λy s8 yv H8 I8 r8 ⟨b3,b0,m',hm,w8⟩=>?_;refine ϕ (yg _ s8 U H8 (.ref K.heap.objs.size) [yv] _ [y] (λv' H'=>W (i+1) m' (ys++[yv]) U H') I8 rfl (.cons r8 .nil) ⟨_,ys,yv,rfl,rfl,b3,b0,w8⟩) λv9 s9 ⟨_,H9,I9,_,w9⟩=>?_;obtain⟨J1,J2,J3⟩:=ae I9;exact⟨m',hm,i+1,ys++[yv],U,H9,J1,J2,J3,w9⟩
 exact codeAny_compStart_list (ad _ rfl) (Tn.self _ 0 _ _ _ UG (ad _ rfl))
def Ua:V->List V->Hp->VK->Prop:=λx b H Q=>∃(l:Addr)(a:List V)(i:Int)(y:V),x=.ref l/\b=[.int i,y]/\H l=some (.lst a)/\0<=i/\i<=a.length/\a.length<sizeLine/\Q .ξ (upd H l (.lst (a.take i.toNat++y::a.drop i.toNat)))
def Nh:YK a "list.insert" Ua:=by
 intro j s A H x C v E Q I u m h;obtain⟨l,J,i,y,rfl,rfl,g,B,K,G,q⟩:=h;cases u;obtain⟨L,c,rfl,⟨t,rfl⟩,p⟩:=m.two;obtain⟨z,b,n,r,w,e⟩:=I.U4 g;have D:=qD;have o:Builtin.List.listFitsIndex i=true:=by
  unfold Builtin.List.listFitsIndex;rw[bG];exact⟨bo (by lia),bo (by lia)⟩
 have f:¬(!Builtin.List.listFitsIndex i)=true:=by rw[o];decide
 have d:b.toArray.size<=sizeLine:=by rw[aR,<-w];exact z
 refine call_meets lA ⟨_,e,rfl⟩ PySem.F.entry_list_insert (PySem.F.args_list_insert_3 _ _ _) (PySem.AutoSeq1.list_insert_list_int_val_1 l b.toArray n i t c f d) ⟨e,?_⟩;refine⟨.ξ,_,I.YL (its':=b.take i.toNat++c::b.drop i.toNat) g e ?_ ((r.take i.toNat).append (.cons p (r.drop i.toNat))) ?_,rfl,q⟩
 .show(b.toArray.extract 0 (if i<0 then(i+(b.toArray.size:Int)).toNat else min i.toNat b.toArray.size)).push c++b.toArray.extract (if i<0 then(i+(b.toArray.size:Int)).toNat else min i.toNat b.toArray.size)=_;have k:(if i<0 then(i+(b.toArray.size:Int)).toNat else min i.toNat b.toArray.size)=i.toNat:=by
   rw[ah (by lia),aR]
   lia
  rw[k];exact PySem.W.kl_ins_eq b i.toNat c
 .rw[aH,aO,bq,fN]
  lia
def tJ:bY a (binaryOp .Mult) (rI (λi j=>IntMulOk i j) λi j=>.int (i*j)):=ZA λi j t u s Q E h q=>PyProof.Rows.mul_int q h
def Q0(K:hO):List V->Hp->VK->Prop:=λd H Q=>∃x c t b,d=[x,c]/\Io K H x t/\(∀a,RelV c a->PySem.W.kitOne K t a=some b)/\Q (.bl b) H
def I0:lx a (.builtin "isinstance") (Q0 a.K):=by
 intro d s l H n m Q I r h;obtain⟨x,c,t,b,rfl,f,j,q⟩:=h;obtain⟨u,g,rfl,e,k⟩:=Kf r;exact Ng I e f (j g k) λi=>⟨.bl b,H,I.tok i,rfl,q⟩
def HF(R:a.calm=true):lx a (.builtin "all") (λB H Q=>∃(p:Addr)(d:List Bool),B=[.ref p]/\ι a.K H p (d.map V.bl)/\Q (.bl (d.all id)) H):=by
 intro y s U H B W Q I r h;obtain⟨p,d,rfl,P,q⟩:=h;obtain⟨u,rfl,k⟩:=oB r;cases k;obtain⟨c,m,C,X⟩:=I.list P;have D:=C.isList;have T:=C.lt;have O:a.A.in1.handled=none:=I.ok.hd R;have f:c.length=d.length:=by rw[<-m.length,ag]
 refine call_all_walk (ik D ?_);refine⟨s.heap.objs.size,[s.heap.objs.size,p],[s.heap.objs.size],c.toArray.size,_,_,λi=>(d[i]?).getD true,rfl,Walks.list (A:=a.A.in1) O _ p (aV T) c.toArray,⟨⟨_,bc _ rfl,rfl,rfl⟩,D.push _⟩,λi v E F Y M j=>?_,λG N S=>?_⟩
 .have g:c[i]?=some v:=by simpa using M
  have t:i<d.length:=by rw[<-f];exact(ax.mp g).1
  obtain⟨u,n,k⟩:=m.get (i:=i) (x:=V.bl d[i]) (by rw[aN,az t];rfl);rw[g]at n;cases n;cases k;replace j:F (d[i]?.getD true) E:=j;rw[az t]at j;exact dB j
 .have e:((List.range c.toArray.size).all λi=>(d[i]?).getD true)=d.all id:=by
   rw[aR,f];rw[jb,eI,eI]
   constructor
   .intro z b hb;obtain⟨i,g,rfl⟩:=jZ hb;have:=z i (cY.mpr g);rw[az g]at this;exact this
   .intro z i g;have w:=cY.mp g;rw[az w];exact z _ (dh w)
  have L:∀b o,s.heap.get? b=some o->G.get? b=some o:=λb o l=>S b o (λJ=>by rw[aG.mp J]at l;exact cV _ (aK l)) (aB _ l);rw[e];exact⟨.bl _,H,I.kept (t':=N) L,rfl,q⟩
mutual
inductive Le(K:hO)(H:Hp):V->PyData->Prop
 | ξ:Le K H .ξ .none
 | bl (b:Bool):Le K H (.bl b) (.bool b)
 | int (i:Int):Le K H (.int i) (.int i)
 | str {x:Str}:PyData.canLay0 (.str x)=true->Le K H (.str x) (.str x)
 | lst {a:Addr} {xs:List V} {ds:List PyData}:ι K H a xs->ό K H xs ds->Le K H (.ref a) (.list ds)
 | tup {a:Addr} {xs:List V} {ds:List PyData}:Α K H a xs->ό K H xs ds->Le K H (.ref a) (.tuple ds)
inductive ό(K:hO)(H:Hp):List V->List PyData->Prop
 | nil:ό K H [] []
 | cons {x:V} {d:PyData} {xs:List V} {ds:List PyData}:Le K H x d->ό K H xs ds->ό K H (x::xs) (d::ds)
end
mutual
theorem Le.reads{X:Cx}{f:hP}{p:St}{H:Hp}{s:Shared}(I:Inv X f p H s):∀{x:V}{d:PyData}{u:Value},Le X.K H x d->RelV x u->(∃as,Reads s.heap u d as)/\d.canLay0=true
 | _,_,_,.ξ,r=>by cases(show _=Value.none from r);exact⟨⟨_,.none⟩,by simp[PyData.canLay0]⟩
 | _,_,_,.bl b,r=>by cases(show _=Value.bool b from r);exact⟨⟨_,.bool b⟩,by simp[PyData.canLay0]⟩
 | _,_,_,.int i,r=>by obtain⟨t,e⟩:=(show ∃t,_=Value.int i t from r);cases e;exact⟨⟨_,.int i t⟩,by simp[PyData.canLay0]⟩
 | _,_,_,.str (x:=x) h,r=>by obtain⟨t,e⟩:=(show ∃t,_=Value.str x t from r);cases e;exact⟨⟨_,.str x t⟩,h⟩
 | _,_,_,.lst (a:=a) h hs,r=>by
   cases(show _=Value.ref a from r);obtain⟨m,g,⟨o,n,e,c,_,j⟩,q⟩:=I.list h;obtain⟨⟨as,l⟩,k⟩:=ό.reads I hs g;exact⟨⟨_,.list e c j (by simpa using l)⟩,by simpa[PyData.canLay0]using k⟩
 | _,_,_,.tup (a:=a) h hs,r=>by
   cases(show _=Value.ref a from r);obtain⟨m,g,⟨o,e,c,n,j⟩,q⟩:=I.tuple h;obtain⟨⟨as,l⟩,k⟩:=ό.reads I hs g;exact⟨⟨_,.tuple e c j (by simpa using l)⟩,by simpa[PyData.canLay0]using k⟩
theorem ό.reads{X:Cx}{a:hP}{f:St}{H:Hp}{s:Shared}(I:Inv X a f H s):∀{d:List V}{b:List PyData}{c:hT},ό X.K H d b->Vals d c->(∃as,ReadsAll s.heap c b as)/\PyData.canLayAll0 b=true
 | _,_,_,.nil,.nil=>⟨⟨_,.nil⟩,by simp[PyData.canLayAll0]⟩
 | _,_,_,.cons h hs,.cons r rs=>by
   obtain⟨⟨as,e⟩,i⟩:=Le.reads I h r;obtain⟨⟨k,g⟩,j⟩:=ό.reads I hs rs;exact⟨⟨_,.cons e g⟩,by simp[PyData.canLayAll0,i,j]⟩
end
def R6(K:hO):R2:=λx y H Q=>∃d e,Le K H x d/\Le K H y e/\d.depth<=40/\Q (.bl (PyData.eqv d e)) H
def Nu(n:a.A.units+64<cLine):bY a (compareOp .Eq) (R6 a.K):=by
 intro b s m H x y v u Q I g i h;obtain⟨d,e,f,j,p,q⟩:=h;obtain⟨⟨as,k⟩,c⟩:=f.reads I g;obtain⟨⟨o,l⟩,cb⟩:=j.reads I i;exact PySem.SeqAt.compareEq_reads k l c cb (by lia) ⟨.bl _,H,I,rfl,q⟩
structure Rw(P:Program)(w:World)(l:Addr)(ob:Obj)(src:Heap->Array Value->Prop)(at':Addr->Nat->Heap->Prop):Prop where
 start:∀(A:Around)(s:Shared)(vs:Array Value)(Q:hL)(E:hL),src s.heap vs->Q (.ref s.heap.objs.size) { s with heap:=s.heap.push ob }->wpAny (model P w) A (pyIter (.ref l)) Q E s
 first:∀it h,h.get? it=some ob->at' it 0 h
 atK:∀it i h h',at' it i h->(∀o,h.get? it=some o->h'.get? it=some o)->at' it i h'
 Ub:∀h h' vs,src h vs->(∀o,h.get? l=some o->h'.get? l=some o)->src h' vs
 obj:∀it i h,at' it i h->∃o,h.get? it=some o/\∀v,o.data≠.cell v
 item:∀(A:Around)(s:Shared)(it:Addr)(i:Nat)(vs:Array Value)(x:Value)(Q:hL)(E:hL),at' it i s.heap->src s.heap vs->vs[i]?=some x->(∀h',at' it (i+1) h'->Heap.SameBut it s.heap h'->Q x { s with heap:=h' })->wpAny (model P w) A (Builtin.SmallTypes.nextOf (.ref it)) Q E s
 fin:∀(A:Around)(s:Shared)(it:Addr)(i:Nat)(vs:Array Value)(Q:hL)(E:hL),A.handled=none->at' it i s.heap->src s.heap vs->vs[i]?=none->(∀h' e,Heap.ExtBut it s.heap h'->(∃o,h'.get? e=some o/\o.cls=.type "StopIteration")->E (.ref e) { s with heap:=h' })->wpAny (model P w) A (Builtin.SmallTypes.nextOf (.ref it)) Q E s
def No(l:Addr):Rw a b l { cls:=.type "list_iterator",data:=.fields #[.ref l,.int 0 0] } (λh d=>h.IsList l d) (λc i h=>h.IsListIter c l i) where
 start:=λA s d Q E hl f=>ik hl f
 first:=λc h e=>⟨_,e,rfl,rfl⟩
 atK:=λc i h p x k=>x.at k
 Ub:=λh p d x k=>x.at k
 obj:=λc i h x=>by
  obtain⟨o,n,_,hd⟩:=x;exact⟨o,n,λv z=>by rw[hd]at z;cases z⟩
 item:=λA s c i d x Q E m j g f=>wpAny_nextOf_list_item m j g f
 fin:=λA s c i d Q E q m j g f=>wpAny_nextOf_list_end q m j g f
def zR(p:b.heap.IsTupleIter a c f)(t:b.heap.IsTuple c g)(s:g[f]?=some h)(u:∀q,q.IsTupleIter a c (f+1)->Heap.SameBut a b.heap q->i h { b with heap:=q }):wpAny (model d e) k (Builtin.SmallTypes.nextOf (.ref a)) i j b:=by
 obtain⟨y,m,r,l⟩:=id p;obtain⟨v,n,_,w,o⟩:=t;unfold Builtin.SmallTypes.nextOf;refine ao (wpAny_callSpecial?_slot (name:=Str.ofString "__next__") p.typeIs gJ (jm gJ p.typeIs kH ?_ (j9 _)));show wpAny (model d e) _ (field (.ref a) 0>>=_) _ _ b;refine ao (cT m l (x:=.ref c) rfl ?_);show wpAny (model d e) _ (if(Value.ref c==Value.none)=true then _ else _) _ _ b;rw[ah (by exact bj)];show wpAny (model d e) _ (field (.ref a) 1>>=_) _ _ b;refine ao (cT m l (x:=.int f 0) rfl ?_);show wpAny (model d e) _ (seqItems? (.ref c)>>=_) _ _ b;refine ao (eO n o ?_);simp only[dJ,s];refine ao (iZ m l (by simp) (bh ⟨h,rfl,bh (u _ ?_ (Heap.SameBut.update ..))⟩));exact⟨_,fF _ m (iq (eZ l _)),(Obj.cls_mapFields ..).trans r,by rw[eZ l];simp[rawInt]⟩
def Bu(u:h.handled=none)(q:b.heap.IsTupleIter c g j)(w:b.heap.IsTuple g i)(v:i[j]?=none)(z:∀t e,Heap.ExtBut c b.heap t->(∃o,t.get? e=some o/\o.cls=.type "StopIteration")->k (.ref e) { b with heap:=t }):wpAny (model d f) h (Builtin.SmallTypes.nextOf (.ref c)) l k b:=by
 obtain⟨C,r,y,s⟩:=id q;obtain⟨A,n,_,B,p⟩:=w;unfold Builtin.SmallTypes.nextOf;refine ao (wpAny_callSpecial?_slot (name:=Str.ofString "__next__") q.typeIs gJ (jm gJ q.typeIs kH ?_ (j9 _)));show wpAny (model d f) _ (field (.ref c) 0>>=_) _ _ b;refine ao (cT r s (x:=.ref g) rfl ?_);show wpAny (model d f) _ (if(Value.ref g==Value.none)=true then _ else _) _ _ b;rw[ah (by exact bj)];show wpAny (model d f) _ (field (.ref c) 1>>=_) _ _ b;refine ao (cT r s (x:=.int j 0) rfl ?_);show wpAny (model d f) _ (seqItems? (.ref g)>>=_) _ _ b;refine ao (eO n p ?_);simp only[dJ,v];refine ao (mw (ao (iZ r s (by simp) ?_)));show wpAny (model d f) _ (newExc (.type "StopIteration") []>>=_) _ _ _;refine ao ?_;simp only[newExc,newTuple];refine ao (fA ?_ (by size_fits));refine ao (m:=firstArgMember _ _) (wpAny_of_eq (a:=Value.none) (by first|rfl|(simp only[firstArgMember];rfl)) ?_);refine fA ?_ (by size_fits);simp only[raiseNew];refine ao (wpAny_handled ?_)
 first|rw[show h.in1.handled=none from u]|rw[u]
 refine ao (bh (wpAny_throw ?_));exact z _ _ (((Heap.SameBut.update ..).extBut.push _).push _) ⟨_,bc _ rfl,rfl⟩
def Oi(l:Addr):Rw a b l { cls:=.type "tuple_iterator",data:=.fields #[.ref l,.int 0 0] } (λh f=>h.IsTuple l f) (λc i h=>h.IsTupleIter c l i) where
 start:=λA s f Q E hl g=>kq hl g
 first:=λc h e=>⟨_,e,rfl,rfl⟩
 atK:=λc i h p x k=>let ⟨o,d,r⟩:=x;⟨o,k o d,r⟩
 Ub:=λh p f x k=>let ⟨o,d,r⟩:=x;⟨o,k o d,r⟩
 obj:=λc i h x=>by
  obtain⟨o,d,_,hd⟩:=x;exact⟨o,d,λv z=>by rw[hd]at z;cases z⟩
 item:=λA s c i f x Q E n m j g=>zR n m j g
 fin:=λA s c i f Q E q n m j g=>Bu q n m j g
structure ZAp(z TI TO i1 i2 l1 l2:Addr):Prop where
 a1:TI≠z
 a2:TO≠z
 a3:i1≠z
 a4:i2≠z
 a5:TI≠TO
 a6:TI≠i1
 a7:TI≠i2
 a8:TO≠i1
 a9:TO≠i2
 a0:i1≠i2
 b1:l1≠z/\l1≠TO/\l1≠i1/\l1≠i2
 b2:l2≠z/\l2≠TO/\l2≠i1/\l2≠i2
def Hl{P:Program}{w:World}{A:Around}{E:hL}{s:Shared}{l1:Addr}{l2:Addr}{U6:Obj}{U7:Obj}{Vy:Heap->Array Value->Prop}{Wj:Heap->Array Value->Prop}{J:Addr->Nat->Heap->Prop}{f:Addr->Nat->Heap->Prop}(n:Rw P w l1 U6 Vy J)(r:Rw P w l2 U7 Wj f){z TI TO g h:Addr}{t p:Nat}{N V:Array Value}{x y a b:Value}{Q:hL}(D:ZAp z TI TO g h l1 l2)(u:IsZip s.heap z TI TO .none)(HI:IsPair s.heap TI (.ref g) (.ref h))(Y:IsPair s.heap TO a b)(p1:J g t s.heap)(p2:f h p s.heap)(q1:Vy s.heap N)(q2:Wj s.heap V)(hx:N[t]?=some x)(hy:V[p]?=some y)(hQ:∀i,IsZip i z TI TO (rawInt s.heap.objs.size)->IsPair i TO x y->J g (t+1) i->f h (p+1) i->IsPair i s.heap.objs.size x y->i.objs.size=s.heap.objs.size+1->(∀c o,c≠z->c≠TO->c≠g->c≠h->s.heap.get? c=some o->i.get? c=some o)->Q (.ref s.heap.objs.size) { s with heap:=i }):wpAny (model P w) A (Builtin.«zip.__next__» ⟨[.ref z],[]⟩) (λfn s'=>∃v,fn=.done (.ret v)/\Q v s') E s:=by
 show wpAny (model P w) _ (field (.ref z) 2>>=_) _ _ _;refine ao (cT u rfl (x:=.bool false) rfl ?_);show wpAny (model P w) _ (field (.ref z) 3>>=_) _ _ _;refine ao (cT u rfl (x:=.ref TI) rfl ?_);refine ao (eO HI rfl ?_);show wpAny (model P w) _ (Builtin.SmallTypes.ownedTupleIsFree (.ref z)>>=_) _ _ _;refine ao ?_;unfold Builtin.SmallTypes.ownedTupleIsFree;refine ao (cT u rfl (x:=.none) rfl (bh ?_));simp only[if_true];refine ao (mw ?_);refine ao (cT u rfl (x:=.ref TO) rfl ?_);refine ao (fY u (by simp) λg1 K j=>?_);replace K:IsZip g1 z TI TO .ellipsis:=K;refine ao ?_;simp only[List.zipIdx_cons,List.zipIdx_nil,mE,List.forIn_nil];refine ao (ao (kC ?_));show wpAny (model P w) _ (Builtin.SmallTypes.nextOf (.ref g)>>=_) _ _ _;refine ao (n.item _ { s with heap:=g1 } g t N x _ _ (n.atK _ _ _ _ p1 λo e=>j.extBut _ _ D.a3 e) (n.Ub _ _ _ q1 λo e=>j.extBut _ _ D.b1.1 e) hx λg2 R l=>bh ?_);have o2:IsPair g2 TO a b:=l.extBut _ _ D.a8 (j.extBut _ _ D.a2 Y);refine ao (eO o2 rfl ?_);refine ao (jL o2 λg3 W m=>?_);replace W:IsPair g3 TO x b:=W;refine ao (lN (bh ?_));refine ao (ao (kC ?_));show wpAny (model P w) _ (Builtin.SmallTypes.nextOf (.ref h)>>=_) _ _ _;refine ao (r.item _ { s with heap:=g3 } h p V y _ _ (r.atK _ _ _ _ p2 λo e=>m.extBut _ _ D.a9.symm (l.extBut _ _ D.a0.symm (j.extBut _ _ D.a4 e))) (r.Ub _ _ _ q2 λo e=>m.extBut _ _ D.b2.2.1 (l.extBut _ _ D.b2.2.2.1 (j.extBut _ _ D.b2.1 e))) hy λg4 M B=>bh ?_);have o4:IsPair g4 TO x b:=B.extBut _ _ D.a9 W;refine ao (eO o4 rfl ?_);refine ao (jL o4 λd H F=>?_);replace H:IsPair d TO x y:=H;refine ao (lN (bh (bh ?_)));refine ao (eO H rfl ?_);refine ao (wpAny_newTuple ?_);have sz:d.objs.size=s.heap.objs.size:=by rw[F.1,B.1,m.1,l.1,j.1]
 have z5:IsZip d z TI TO .ellipsis:=F.extBut _ _ D.a2.symm (B.extBut _ _ D.a4.symm (m.extBut _ _ D.a2.symm (l.extBut _ _ D.a3.symm K)));have k5:∀c o,c≠z->c≠TO->c≠g->c≠h->s.heap.get? c=some o->d.get? c=some o:=λc o k G T X e=>
  F.extBut _ _ G (B.extBut _ _ X (m.extBut _ _ G (l.extBut _ _ T (j.extBut _ _ k e))))
 have S:J g (t+1) d:=n.atK _ _ _ _ R λo e=>F.extBut _ _ D.a8.symm (B.extBut _ _ D.a0 (m.extBut _ _ D.a8.symm e));have Z:f h (p+1) d:=r.atK _ _ _ _ M λo e=>F.extBut _ _ D.a9.symm e;have C:z<d.objs.size:=aK z5;show wpAny (model P w) _ (Builtin.SmallTypes.ownedTupleHandOut (.ref z) (.ref d.objs.size)>>=_) _ _ _;refine ao ?_;unfold Builtin.SmallTypes.ownedTupleHandOut;have z6:IsZip (d.push { cls:=.type "tuple",data:=.seq #[x,y] }) z TI TO .ellipsis:=aB _ z5;refine ao (fY z6 (by simp) λg7 O L=>?_);replace O:IsZip g7 z TI TO (rawInt d.objs.size):=O;refine fY O (by simp) λq I U=>?_;replace I:IsZip q z TI TO (rawInt d.objs.size):=I;have up:∀c o,c≠z->d.get? c=some o->q.get? c=some o:=λc o k e=>U.extBut _ _ k (L.extBut _ _ k (aB _ e));have t8:IsPair q d.objs.size x y:=U.extBut _ _ (eC C) (L.extBut _ _ (eC C) (bc _ rfl));have s8:q.objs.size=d.objs.size+1:=by rw[U.1,L.1,d5]
 rw[sz]at I t8 s8;refine bh ⟨_,rfl,?_⟩;show Q (.ref d.objs.size) _;rw[sz];exact hQ q I (up _ _ D.a2 H) (n.atK _ _ _ _ S λo e=>up _ o D.a3 e) (r.atK _ _ _ _ Z λo e=>up _ o D.a4 e) t8 s8 λc o k G T X e=>up c o k (k5 c o k G T X e)
def IR{P:Program}{w:World}{A:Around}{E:hL}{s:Shared}{V:Addr}{Y:Addr}{U6:Obj}{U7:Obj}{S:Heap->Array Value->Prop}{U:Heap->Array Value->Prop}{T:Addr->Nat->Heap->Prop}{r:Addr->Nat->Heap->Prop}(F:Rw P w V U6 S T)(K:Rw P w Y U7 U r){z TI TO g n:Addr}{l G:Nat}{m C:Array Value}{a b:Value}{Q:Fin->Shared->Prop}(Z:A.handled=none)(D:ZAp z TI TO g n V Y)(v:IsZip s.heap z TI TO .none)(HI:IsPair s.heap TI (.ref g) (.ref n))(M:IsPair s.heap TO a b)(p1:T g l s.heap)(p2:r n G s.heap)(q1:S s.heap m)(q2:U s.heap C)(Xu:m[l]?=none\/C[G]?=none)(hE:∀L e,(∀c o,c≠z->c≠TO->c≠g->c≠n->s.heap.get? c=some o->L.get? c=some o)->(∃o,L.get? e=some o/\o.cls=.type "StopIteration")->E (.ref e) { s with heap:=L }):wpAny (model P w) A (Builtin.«zip.__next__» ⟨[.ref z],[]⟩) Q E s:=by
 show wpAny (model P w) _ (field (.ref z) 2>>=_) _ _ _;refine ao (cT v rfl (x:=.bool false) rfl ?_);show wpAny (model P w) _ (field (.ref z) 3>>=_) _ _ _;refine ao (cT v rfl (x:=.ref TI) rfl ?_);refine ao (eO HI rfl ?_);show wpAny (model P w) _ (Builtin.SmallTypes.ownedTupleIsFree (.ref z)>>=_) _ _ _;refine ao ?_;unfold Builtin.SmallTypes.ownedTupleIsFree;refine ao (cT v rfl (x:=.none) rfl (bh ?_));simp only[if_true];refine ao (mw ?_);refine ao (cT v rfl (x:=.ref TO) rfl ?_);refine ao (fY v (by simp) λp B i=>?_);replace B:IsZip p z TI TO .ellipsis:=B;refine ao ?_;simp only[List.zipIdx_cons,List.zipIdx_nil,mE,List.forIn_nil];refine ao (ao (kC ?_));show wpAny (model P w) _ (Builtin.SmallTypes.nextOf (.ref g)>>=_) _ _ _;have y:T g l p:=F.atK _ _ _ _ p1 λo e=>i.extBut _ _ D.a3 e;have u:S p m:=F.Ub _ _ _ q1 λo e=>i.extBut _ _ D.b1.1 e;cases hx:m[l]? with
 | none=>
   refine ao (F.fin _ { s with heap:=p } g l m _ _ Z y u hx λJ e f N=>?_);obtain⟨O,j,d⟩:=N;have X:IsZip J z TI TO .ellipsis:=f _ _ D.a3.symm B;have I:e≠z:=λt=>by subst t;rw[X]at j;cases j;simp at d
   refine fY X (by simp) λH _ k=>hE H e (λc o q _ R _ t=>k.extBut _ _ q (f _ _ R (i.extBut _ _ q t))) ⟨O,k.extBut _ _ I j,d⟩
 | some x=>
   have hy:C[G]?=none:=by
    rcases Xu with h|h
    .rw[hx]at h;cases h
    .exact h
   refine ao (F.item _ { s with heap:=p } g l m x _ _ y u hx λJ al f=>bh ?_);have o2:IsPair J TO a b:=f.extBut _ _ D.a8 (i.extBut _ _ D.a2 M);refine ao (eO o2 rfl ?_);refine ao (jL o2 λH o3 k=>?_);refine ao (lN (bh ?_));refine ao (ao (kC ?_));show wpAny (model P w) _ (Builtin.SmallTypes.nextOf (.ref n)>>=_) _ _ _;refine ao (K.fin _ { s with heap:=H } n G C _ _ Z (K.atK _ _ _ _ p2 λo e=>k.extBut _ _ D.a9.symm (f.extBut _ _ D.a0.symm (i.extBut _ _ D.a4 e))) (K.Ub _ _ _ q2 λo e=>k.extBut _ _ D.b2.2.1 (f.extBut _ _ D.b2.2.2.1 (i.extBut _ _ D.b2.1 e))) hy λg4 e e4 N=>?_);obtain⟨O,j,d⟩:=N;have W:IsZip g4 z TI TO .ellipsis:=e4 _ _ D.a4.symm (k.extBut _ _ D.a2.symm (f.extBut _ _ D.a3.symm B));have I:e≠z:=λt=>by subst t;rw[W]at j;cases j;simp at d
   refine fY W (by simp) λg5 _ e5=>hE g5 e (λc o q c2 R c4 t=>e5.extBut _ _ q (e4 _ _ c4 (k.extBut _ _ c2 (f.extBut _ _ R (i.extBut _ _ q t))))) ⟨O,e5.extBut _ _ I j,d⟩
abbrev zp1(h:Heap)(b a:Obj):Heap:=(h.push b).push a
abbrev zp2(h:Heap)(a b:Obj):Heap:=(zp1 h a b).push { cls:=.type "tuple",data:=.seq #[.ref h.objs.size,.ref (h.push a).objs.size] }
abbrev zp3(h:Heap)(b a:Obj):Heap:=(zp2 h b a).push { cls:=.type "tuple",data:=.seq #[.none,.none] }
abbrev ZE(h:Heap)(b a:Obj):Heap:=(zp3 h b a).push { cls:=.type "zip",data:=.fields #[.none,.bool false,.bool false,.ref (zp1 h b a).objs.size,.ref (zp2 h b a).objs.size] }
def FM(y:∀P w,Rw P w j b c k)(q:∀P w,Rw P w i f a l)(ne:∀h z,a h z->∃o,h.get? i=some o)(u p:Array Value):Meets (Builtin.«zip.__new__» ⟨[.type "zip",.ref j,.ref i],[]⟩) (λ_ R s=>c s.heap u/\a s.heap p/\R (.ok (.ret (.ref (zp3 s.heap b f).objs.size))) { s with heap:=ZE s.heap b f }):=.of_wp λm w A R s n=>by
 obtain⟨v,g,d,t,os⟩:=s;obtain⟨E,x,r⟩:=n;have B:=sub_zip;have D:c (Shared.heap ⟨v,g,d,t,os⟩) u:=E;have C:a (Shared.heap ⟨v.push b,g,d,t,os⟩) p:=(q m w).Ub _ _ _ x λo e=>aB _ e
 wp_walk using ((y m w).start _ _ _ _ _ D),((q m w).start _ _ _ _ _ C)
 exact⟨_,rfl,r⟩
def Pj{s:Shared}(y:∀P w,Rw P w l a f i)(z:∀P w,Rw P w g b d j)(ne:∀h H,d h H->∃o,h.get? g=some o){Q:hL}(J:f s.heap k)(E:d s.heap m)(h:∀q,IsZip q (s.heap.objs.size+4) (s.heap.objs.size+2) (s.heap.objs.size+3) .none->IsPair q (s.heap.objs.size+2) (.ref s.heap.objs.size) (.ref (s.heap.objs.size+1))->IsPair q (s.heap.objs.size+3) .none .none->i s.heap.objs.size 0 q->j (s.heap.objs.size+1) 0 q->(∀c o,s.heap.get? c=some o->q.get? c=some o)->Q (.ref (s.heap.objs.size+4)) { s with heap:=q })(K:a.isFreed=false)(I:b.isFreed=false):wpAny (model P w) n (call (.type "zip") [.ref l,.ref g]) Q p s:=by
 refine callType_new F.called_zip (by decide) (F.typeCall_zip_2 _ _) (F.newCall_zip_2 _ _) (λt=>F.args_object_init_3 t _ _) F.entry_zip_new (FM y z ne k m) ⟨J,E,?_⟩;have r:(s.heap.push a).objs.size=s.heap.objs.size+1:=d5 ..;have v:(zp1 s.heap a b).objs.size=s.heap.objs.size+2:=by rw[d5,r]
 have x:(zp2 s.heap a b).objs.size=s.heap.objs.size+3:=by rw[d5,v]
 have A:(zp3 s.heap a b).objs.size=s.heap.objs.size+4:=by rw[d5,x]
 have u:(ZE s.heap a b).get? (zp3 s.heap a b).objs.size=some _:=bc _ rfl;have C:(ZE s.heap a b).get? (zp2 s.heap a b).objs.size=some _:=aB _ (bc _ rfl);have D:(ZE s.heap a b).get? (zp1 s.heap a b).objs.size=some _:=aB _ (aB _ (bc _ rfl));have B:(ZE s.heap a b).get? (s.heap.push a).objs.size=some b:=aB _ (aB _ (aB _ (bc _ I)));have G:(ZE s.heap a b).get? s.heap.objs.size=some a:=aB _ (aB _ (aB _ (aB _ (bc _ K))));show _/\_;rw[v,x,A]at u;rw[r,v]at D;rw[x]at C;rw[r]at B;rw[A];exact⟨⟨_,u,rfl⟩,h _ u D C ((y P w).first _ _ G) ((z P w).first _ _ B) λc o e=>aB _ (aB _ (aB _ (aB _ (aB _ e))))⟩
def Ω(K:hO):Bool->Hp->Addr->List V->Prop
 | true,H,a,xs=>ι K H a xs
 | false,H,a,xs=>Α K H a xs
def Itz(K:hO)(c d:Bool)(a b:Addr):It:=⟨λi H=>∃f e x y,Ω K c H a f/\Ω K d H b e/\f[i]?=some x/\e[i]?=some y,λi H v g=>∃p x y,H p=none/\v=.ref p/\g=upd H p (.tup [x,y])/\(∀f,Ω K c H a f->f[i]?=some x)/\∀e,Ω K d H b e->e[i]?=some y,λi H=>∃f e,Ω K c H a f/\Ω K d H b e/\(f.length<=i\/e.length<=i)⟩
def R4(a:Addr):Bool->Obj
 | true=>{ cls:=.type "list_iterator",data:=.fields #[.ref a,.int 0 0] }
 | false=>{ cls:=.type "tuple_iterator",data:=.fields #[.ref a,.int 0 0] }
def LA(a:Addr):Bool->Heap->Array Value->Prop
 | true,h,vs=>h.IsList a vs
 | false,h,vs=>h.IsTuple a vs
def zAt(a:Addr):Bool->Addr->Nat->Heap->Prop
 | true,it,i,h=>h.IsListIter it a i
 | false,it,i,h=>h.IsTupleIter it a i
def kg(a:Addr)(c:Bool)(P:Program)(w:World):Rw P w a (R4 a c) (LA a c) (zAt a c):=by
 cases c
 .exact Oi a
 .exact No a
def yp(a:Addr)(c:Bool):(R4 a c).isFreed=false:=by cases c<;>rfl
def sQ(a:Addr)(c:Bool)(h:Heap)(b:Array Value)(e:LA a c h b):∃o,h.get? a=some o:=by
 cases c
 .obtain⟨o,ho,_⟩:=e;exact⟨o,ho⟩
 .obtain⟨o,ho,_⟩:=e;exact⟨o,ho⟩
def Inv.ϫ{X:Cx}{d:hP}{f:St}{H:Hp}{s:Shared}{c:Bool}{a:Addr}{e:List V}(I:Inv X d f H s)(h:Ω X.K c H a e):∃b:List Value,Vals e b/\LA a c s.heap b.toArray:=by
 cases c with
 | true=>
   obtain⟨b,r,j,_⟩:=I.list h;exact⟨b,r,j.isList⟩
 | false=>
   obtain⟨b,r,⟨o,g,k,n,i⟩,_⟩:=I.tuple h;exact⟨b,r,⟨o,g,k,n,i⟩⟩
def Inv.Uc{X:Cx}{b:hP}{g:St}{H:Hp}{s:Shared}{c:Bool}{a:Addr}{f e:List V}(I:Inv X b g H s)(h:Ω X.K c H a f)(d:Ω X.K c H a e):f=e:=by
 cases c with
 | true=>exact I.ϱ h d
 | false=>exact I.TN h d
def OB{P:Program}{w:World}{K:hO}{U:List Expr}{x1}{UH:Pos}(c d:Bool)(a b z TI TO i1 i2:Addr)(D:ZAp z TI TO i1 i2 a b):Turn P w K (.Tuple U x1 UH) (Itz K c d a b) [z,TI,TO,i1,i2] z (λi h=>IsZip h z TI TO .none/\IsPair h TI (.ref i1) (.ref i2)/\(∃u v,IsPair h TO u v)/\zAt a c i1 i h/\zAt b d i2 i h) where
 mem:=by simp
 obj:=λi h t e he=>by
  obtain⟨t1,J,⟨u,v,N⟩,M,L⟩:=t;simp only[aF,dQ,or_false]at he;rcases he with rfl|rfl|rfl|rfl|rfl
  .exact⟨_,t1,λv z=>by cases z⟩
  .exact⟨_,J,λv z=>by cases z⟩
  .exact⟨_,N,λv z=>by cases z⟩
  .exact(kg a c P w).obj _ _ _ M
  .exact(kg b d P w).obj _ _ _ L
 keep:=λi h h' t k=>by
  obtain⟨t1,J,⟨u,v,N⟩,M,L⟩:=t;exact⟨k z (by simp) _ t1,k TI (by simp) _ J,⟨u,v,k TO (by simp) _ N⟩,(kg a c P w).atK _ _ _ _ M λo e=>k i1 (by simp) o e,(kg b d P w).atK _ _ _ _ L λo e=>k i2 (by simp) o e⟩
 item:=λX e1 e2 e3 hc i B s σ H E I f t g=>by
  subst e1 e2 e3;obtain⟨t1,J,⟨u,v,N⟩,M,L⟩:=t;obtain⟨xs,ys,x,y,s1,s2,hx,hy⟩:=g;obtain⟨us,r1,q1⟩:=I.ϫ s1;obtain⟨vs,r2,q2⟩:=I.ϫ s2;obtain⟨xu,bk,rx⟩:=r1.get hx;obtain⟨yu,bs,ry⟩:=r2.get hy;have Z:s.TypeIs (.ref z) "zip":=⟨_,t1,rfl⟩;unfold pyNext;refine ao (wpAny_attempt (wpAny_callSpecial?_slot (name:=Str.ofString "__next__") Z jT (jm jT Z F.entry_zip_next
   (Hl (kg a c _ _) (kg b d _ _) D t1 J N M L q1 q2 (x:=xu) (y:=yu) (by simpa using bk) (by simpa using bs) λh' w1 w2 w3 w4 w5 w6 w7=>bh ?_) (F.args_zip_next_1 _))))
  refine⟨_,rfl,wpAny_letOwnedTupleGo_zip w1 λY n1 S=>?_⟩;have G:∀q∈[z,TI,TO,i1,i2],p6 X B H q:=f;have am:s.heap.objs.size≠z:=eC (aK t1);have new:IsPair Y s.heap.objs.size xu yu:=S.extBut _ _ am w5;have kp:∀q o,q∉[z,TI,TO,i1,i2]->s.heap.get? q=some o->Y.get? q=some o:=λq o j e=>by
   simp only[aF,dQ,or_false,not_or]at j;exact S.extBut _ _ j.1 (w7 q o j.1 j.2.2.1 j.2.2.2.1 j.2.2.2.2 e)
  have ar:Y.get? TI=some _:=S.extBut _ _ D.a1 (w7 TI _ D.a1 D.a5 D.a6 D.a7 J);have V:∀q u,H q=some u->q∉[z,TI,TO,i1,i2]:=λq u e j=>by rw[(G q j).1]at e;cases e
  have C:Inv X B σ H { s with heap:=Y }:=by
   refine I.step (g':=s.gens) (d':=s.drawn) (t':=s.toks) (ch:=[z,TI,TO,i1,i2]) (λq j=>⟨(G q j).2.2.2.1,(G q j).2.1,(G q j).2.2.2.2.1,(G q j).2.2.2.2.2⟩) (λq o _ _ j e _=>kp q o j e) (λq o _ _ j e _=>⟨o.slots,kp q o j e⟩) (λ_ _ _ _ n=>n)
    (λq o j e=>⟨o,kp q o j e⟩) (λ_ _ e=>e) (λ_ _ _ e=>e) (λq ps e=>⟨#[],by rw[e];simp⟩) (λm hm=>?_) (λq u e=>?_) I.bare
   .obtain⟨o,es,ep,O,r⟩:=hm;exact⟨o,es,ep,kp _ o (λj=>(G _ j).2.1 rfl) O,r⟩
   .refine(I.Β q u e).lE (λq' v Ti l=>kp q' v ?_ l) (λ_ l=>l) λ_ _ l=>l;rcases Ti with rfl|Ti
    .exact V _ u e
    .exact V _ _ Ti
  have R:H s.heap.objs.size=none:=I.fresh;have I3:Inv X B σ (upd H s.heap.objs.size (.tup [x,y])) { s with heap:=Y }:=by
   refine⟨C.ok,C.os,C.bare,?_,C.loc,C.cell,?_,λn c e=>?_,λp hp=>?_,λq u e=>?_,C.len⟩
   .refine⟨C.base.keep,C.base.slot,λq o e n hx=>?_,C.base.there,λq xs e=>?_,λq o u e=>?_,λq ps e=>?_⟩
    .have lt:q<X.s₀.heap.objs.size:=aK e;rw[aM (aV (aU lt I.sz))];exact C.base.free q o e n hx
    .have l:=C.base.lT q xs e;rw[aM (λz=>by rw[z,R]at l;cases l)];exact l
    .have l:=C.base.gE q o u e;rw[aM (λz=>by rw[z,R]at l;cases l)];exact l
    .obtain⟨more,l⟩:=C.base.nE q ps e;exact⟨more,by rw[aM (λz=>by rw[z,R]at l;cases l)];exact l⟩
   .rw[aM (aV I.lt)];exact C.free
   .obtain⟨vv,o,O,_⟩:=I.cell n c e;rw[aM (aV (aK O))];exact C.ϔ n c e
   .obtain⟨k1,k2,k3⟩:=I.pin p hp;rw[aM (aV (aK k1))];exact C.pin p hp
   .by_cases j:q=s.heap.objs.size
    .subst j;rw[au]at e;cases e;exact⟨by show 2<=sizeLine;decide,[xu,yu],.cons rx (.cons ry .nil),_,new,rfl,_,rfl⟩
    .rw[aM j]at e;refine(C.Β q u e).lE (λ_ _ _ l=>l) (λq' l=>?_) λq' xs l=>?_
     .rw[aM (λz=>by rw[z,R]at l;cases l)];exact l
     .rw[aM (λz=>by rw[z,R]at l;cases l)];exact l
  refine⟨.ref s.heap.objs.size,_,I3,rfl,⟨_,x,y,R,rfl,rfl,λcp q=>?_,λϮ q=>?_⟩,⟨n1,ar,⟨_,_,S.extBut _ _ D.a2 w2⟩,(kg a c X.prog X.w).atK _ _ _ _ w3 λo e=>S.extBut _ _ D.a3 e,(kg b d X.prog X.w).atK _ _ _ _ w4 λo e=>S.extBut _ _ D.a4 e⟩,λq j=>?_⟩
  .rw[<-I.Uc s1 q];exact hx
  .rw[<-I.Uc s2 q];exact hy
  .have ϐ:q<s.heap.objs.size:=by
    simp only[aF,dQ,or_false]at j;rcases j with rfl|rfl|rfl|rfl|rfl
    .exact aK t1
    .exact aK J
    .exact aK N
    .exact let ⟨o,e,_⟩:=(kg a c X.prog X.w).obj _ _ _ M;aK e
    .exact let ⟨o,e,_⟩:=(kg b d X.prog X.w).obj _ _ _ L;aK e
   rw[aM (aV ϐ)];exact(G q j).1
 done:=λX e1 e2 e3 hc i B s σ H E I f t g=>by
  subst e1 e2 e3;obtain⟨t1,J,⟨u,v,N⟩,M,L⟩:=t;obtain⟨xs,ys,s1,s2,Xu⟩:=g;obtain⟨us,r1,q1⟩:=I.ϫ s1;obtain⟨vs,r2,q2⟩:=I.ϫ s2;have G:∀q∈[z,TI,TO,i1,i2],p6 X B H q:=f;have hh:X.A.handled=none:=I.ok.hd hc;have Z:s.TypeIs (.ref z) "zip":=⟨_,t1,rfl⟩;have a9:us.toArray[i]?=none\/vs.toArray[i]?=none:=by
   rcases Xu with e|e
   .exact .inl (by have:=r1.length;simp;lia)
   .exact .inr (by have:=r2.length;simp;lia)
  unfold pyNext;refine ao (wpAny_attempt (wpAny_callSpecial?_slot (name:=Str.ofString "__next__") Z jT (jm jT Z F.entry_zip_next
   (IR (kg a c _ _) (kg b d _ _) hh D t1 J N M L q1 q2 a9 λh' e hk he=>?_) (F.args_zip_next_1 _))))
  obtain⟨o,O,bl⟩:=he;refine ao (wpAny_isInstance (T:="StopIteration") (b:=true) ⟨o,O,bl⟩ isSubtype_stop (bh ⟨rfl,?_⟩));have kp:∀q o,q∉[z,TI,TO,i1,i2]->s.heap.get? q=some o->h'.get? q=some o:=λq o j e=>by
   simp only[aF,dQ,or_false,not_or]at j;exact hk q o j.1 j.2.2.1 j.2.2.2.1 j.2.2.2.2 e
  have V:∀q u,H q=some u->q∉[z,TI,TO,i1,i2]:=λq u e j=>by rw[(G q j).1]at e;cases e
  refine I.step (g':=s.gens) (d':=s.drawn) (t':=s.toks) (ch:=[z,TI,TO,i1,i2]) (λq j=>⟨(G q j).2.2.2.1,(G q j).2.1,(G q j).2.2.2.2.1,(G q j).2.2.2.2.2⟩) (λq o _ _ j e _=>kp q o j e) (λq o _ _ j e _=>⟨o.slots,kp q o j e⟩) (λ_ _ _ _ n=>n)
   (λq o j e=>⟨o,kp q o j e⟩) (λ_ _ e=>e) (λ_ _ _ e=>e) (λq ps e=>⟨#[],by rw[e];simp⟩) (λm hm=>?_) (λq u e=>?_) I.bare
  .obtain⟨o,es,ep,O,r⟩:=hm;exact⟨o,es,ep,kp _ o (λj=>(G _ j).2.1 rfl) O,r⟩
  .refine(I.Β q u e).lE (λq' v Ti l=>kp q' v ?_ l) (λ_ l=>l) λ_ _ l=>l;rcases Ti with rfl|Ti
   .exact V _ u e
   .exact V _ _ Ti
 self:=λA i s Q E t q=>wpAny_pyIter_zip t.1 q
def Inv.aaw{X:Cx}{f:hP}{j:St}{H:Hp}{h:Hp}{s:Shared}{m:Shared}{a:Addr}{o:HO}(I:Inv X f j H s)(d:Inv X f j h m)(i:s.heap.objs.size<=a)(g:h a=none)(k:Μ X.prog X.w (upd h a o) m.heap a o):Inv X f j (upd h a o) m:=by
 refine⟨d.ok,d.os,d.bare,?_,d.loc,d.cell,?_,λn c e=>?_,λp t=>?_,λq u e=>?_,d.len⟩
 .refine⟨d.base.keep,d.base.slot,λq l e n v=>?_,d.base.there,λq r e=>?_,λq l u e=>?_,λq y e=>?_⟩
  .rw[aM (aV (aU (aU (aK e) I.sz) i))];exact d.base.free q l e n v
  .have b:=d.base.lT q r e;rw[aM (λz=>by rw[z,g]at b;cases b)];exact b
  .have b:=d.base.gE q l u e;rw[aM (λz=>by rw[z,g]at b;cases b)];exact b
  .obtain⟨more,b⟩:=d.base.nE q y e;exact⟨more,by rw[aM (λz=>by rw[z,g]at b;cases b)];exact b⟩
 .rw[aM (aV (aU I.lt i))];exact d.free
 .obtain⟨vv,oc,ho,_⟩:=I.cell n c e;rw[aM (aV (aU (aK ho) i))];exact d.ϔ n c e
 .obtain⟨k1,k2,k3⟩:=I.pin p t;rw[aM (aV (aU (aK k1) i))];exact d.pin p t
 .by_cases hq:q=a
  .subst hq;rw[au]at e;cases e;exact k
  .rw[aM hq]at e;refine(d.Β q u e).lE (λ_ _ _ b=>b) (λx b=>?_) λx r b=>?_
   .rw[aM (λz=>by rw[z,g]at b;cases b)];exact b
   .rw[aM (λz=>by rw[z,g]at b;cases b)];exact b
def Ki:typeLookup (.type "list_reverseiterator") "__len__"=pure none:=by rw[typeLookup_type,builtinLookup_eq_fast];kernel_rfl
def Pt:typeLookup (.type "list_reverseiterator") "__length_hint__"=pure (some (.builtin "list_reverseiterator.__length_hint__")):=by rw[typeLookup_type,builtinLookup_eq_fast];kernel_rfl
def NH(l:c.TypeIs (.ref a) "list_reverseiterator")(h:d false c):wpAny (model f g) i (Builtin.List.listLengthHint (.ref a)) d e c:=by
 unfold Builtin.List.listLengthHint;refine ao (lZ l Ki ?_);refine gX (λj=>absurd j (by decide)) (λ_=>?_);refine gX (λj=>absurd j (by decide)) (λ_=>?_);refine ao (lZ l Pt ?_);generalize k:("list_reverseiterator.__length_hint__":String)=m
 wp_delta
 rw[show splitId m=some ("list_reverseiterator","__length_hint__")from by subst k;decide +kernel];subst k;refine ao (wpAny_isInstance (T:="list_reverseiterator") (b:=true) l (by rw[isSubtype_type];kernel_rfl) ?_);refine gX (λj=>absurd j (by decide)) (λ_=>?_);refine gX (λ_=>?_) (λj=>absurd (by decide +kernel) j);refine gX (λj=>absurd j (by decide +kernel)) (λ_=>?_);exact bh h
def C4(I l:Addr)(a:Array Value)(i:Nat)(h:Heap):Prop:=i<=a.size/\h.IsRevIter I l ((a.size:Int)-1-(i:Int))/\h.IsList l a
def Hj(a:Array Value)(i:Nat)(v:Value):Prop:=a[a.size-1-i]?=some v
def CZ(z:A.handled=none)(st:C4 I l its 0 s.heap)(ne:l≠I)(o:c≠I)(B:c≠l)(y:its.size<=sizeLine)(x:s.heap.get? c=some { cls:=.type "list",data:=.seq #[] h })(C:∀j k m,Moved [c,I] (λa b=>b=a) s j->j.heap.get? c=some { cls:=.type "list",dict:=none,data:=.seq k m,slots:=#[] }->ItemsOf (Hj its) k its.size->R (.ok (.ret d)) j):wpAny (model g i) A.in1 (Builtin.List.listExtendWith (.ref c) (.ref I) d) (λp j=>match p with|.done f=>R (.ok f) j|.again m=>m.quiet=true/\codeAny (model g i) A m R j) (λe j=>R (.error e) j) s:=by
 have W:=(Walks.listRev (prog:=g) (w:=i) (A:=A.in1) z I l ne its).toS;have n:s.TypeIs (.ref I) "list_reverseiterator":=st.2.1.typeIs;unfold Builtin.List.listExtendWith;refine ao (wpAny_typeOf n ?_);have q:Builtin.List.listSameRef (.ref c) (.ref I)=false:=by simp[Builtin.List.listSameRef,o]
 have v:(Value.type "list_reverseiterator" == Value.type "list")=false:=by decide
 have E:(Value.type "list_reverseiterator" == Value.type "tuple")=false:=by decide
 simp only[q,v,E,oj,dL,if_false];refine ao (iK st.2.1 ?_);refine ao (ko (NH n ?_));refine gX (λD=>absurd D (by decide +kernel)) (λ_=>?_);refine bh ⟨plainId_quiet F.plain_extend_loop _,codeAny_extend_loopS W y c (by simp[o,B]) d its.size 0 _ #[] h rfl (cg _) st x (ItemsOf.nil _) λj k m t u r=>?_⟩;exact C j k m t u r
def Fz(J:f.handled=none)(st:C4 d g c 0 a.heap)(ne:g≠d)(G:c.size<=sizeLine)(H:∀(n:Shared) (m:Array Value) (v:Nat),n.os=a.os->n.gens=a.gens->n.drawn=a.drawn->(∀b o,b≠d->a.heap.get? b=some o->n.heap.get? b=some o)->n.heap.get? a.heap.objs.size=some { cls:=.type "list",dict:=none,data:=.seq m v,slots:=#[] }->ItemsOf (Hj c) m c.size->j (.ref a.heap.objs.size) n):wpAny (model h i) f (call (.type "list") [.ref d]) j k a:=by
 obtain⟨M,u,_⟩:=id st.2.1;obtain⟨N,y,_⟩:=id st.2.2;have E:a.heap.objs.size≠d:=eC (aK u);have K:a.heap.objs.size≠g:=eC (aK y);refine callType_codes (Q₁:=λq p=>q=.ref a.heap.objs.size/\p={ a with heap:=a.heap.push { cls:=.type "list",data:=.seq #[] } }) F.called_list (F.typeCall_list_1 _) F.entry_list_init (code_list_new _ ⟨rfl,rfl⟩) λq p r=>?_;obtain⟨rfl,rfl⟩:=r;have t:(a.heap.push { cls:=.type "list",data:=.seq #[] }).get? a.heap.objs.size=some { cls:=.type "list",data:=.seq #[] }:=bc _ rfl;refine⟨⟨_,t,rfl⟩,F.args_list_init_2 _ _,?_⟩;show wpAny (model h i) f.in1.in1 (do let x <-Builtin.List.listItems (.ref a.heap.objs.size);Builtin.List.listUpdate (.ref a.heap.objs.size) (λ_=>#[]);letGo x.toList.reverse;Builtin.List.listExtendWith (.ref a.heap.objs.size) (.ref d) .none) _ _ _;refine ao ?_;unfold Builtin.List.listItems;refine ao (eO t rfl (bh ?_));show wpAny (model h i) f.in1.in1 (updateSeq a.heap.objs.size (λ_=>#[])>>=λ_=>letGo (#[]:Array Value).toList.reverse>>=λ_=>Builtin.List.listExtendWith (.ref a.heap.objs.size) (.ref d) .none) _ _ _;refine ao (wpAny_updateSeq t rfl ?_);have L:=fF (Obj.mapSeq (λ_=>(#[]:Array Value))) t rfl;have w:∀b o,a.heap.get? b=some o->((a.heap.push { cls:=.type "list",data:=.seq #[] }).update a.heap.objs.size (Obj.mapSeq (λ_=>(#[]:Array Value)))).get? b=some o:=λb o e=>(dR _ _ (eC (aK e))).trans (aB _ e)
 refine ao (lN ?_);refine CZ (A:=f.in1) J (I:=d) (l:=g) (its:=c) ⟨st.1,st.2.1.at λo e=>w _ o e,st.2.2.at λo e=>w _ o e⟩ ne E K G L λn m v s D C=>?_;refine⟨rfl,H n m v s.os s.gens s.drawn (λb o B e=>s.heap b o (λz=>?_) (w b o e)) D C⟩;simp only[aF,dQ,or_false]at z;rcases z with z|z
 .exact absurd (aK e) (by rw[z];exact cV _)
 .exact B z
def Jc(B:g.handled=none)(st:C4 d f c 0 a.heap)(ne:f≠d)(y:c.size<=sizeLine)(A:∀(m:Shared) (n:Array Value),m.os=a.os->m.gens=a.gens->m.drawn=a.drawn->(∀b o,b≠d->a.heap.get? b=some o->m.heap.get? b=some o)->a.heap.objs.size<=m.heap.objs.size->ItemsOf (Hj c) n c.size->j n.toList m):wpAny (model h i) g (collect (.ref d)) j k a:=by
 obtain⟨G,q,_⟩:=id st.2.1;obtain⟨H,t,_⟩:=id st.2.2;have x:a.heap.objs.size≠d:=eC (aK q);have D:a.heap.objs.size≠f:=eC (aK t);unfold collect;refine ao (wpAny_runValue (codeAny_builtin F.entry_proto_collect ?_));rw[Around.under_plainId F.plain_proto_collect _];show wpAny (model h i) g.in1 (newList []>>=λf=>again (.builtin "list.__iadd__" ⟨[f,.ref d],[]⟩)) _ _ a;refine ao (fA ?_);refine bh ⟨plainId_quiet F.plain_list_iadd _,codeAny_builtin F.entry_list_iadd ?_⟩;rw[Around.under_plainId F.plain_list_iadd _];have r:∀b o,a.heap.get? b=some o->(a.heap.push { cls:=.type "list",data:=.seq ([]:hT).toArray }).get? b=some o:=λb o e=>aB _ e;show wpAny (model h i) g.in1 (Builtin.List.listExtendWith (.ref a.heap.objs.size) (.ref d) (.ref a.heap.objs.size)) _ _ _;have C:(a.heap.push { cls:=.type "list",data:=.seq ([]:hT).toArray }).get? a.heap.objs.size=some { cls:=.type "list",data:=.seq #[] }:=bc _ rfl;refine CZ (R:=wants _ _) (s:={ a with heap:=a.heap.push { cls:=.type "list",data:=.seq ([]:hT).toArray } }) B (I:=d) (l:=f) (its:=c) ⟨st.1,st.2.1.at λo e=>r _ o e,st.2.2.at λo e=>r _ o e⟩ ne x D y C λm n E p u w=>?_;show wpAny (model h i) g (load a.heap.objs.size>>=_) _ _ m;refine ao (wpAny_load u (bh (A m n p.os p.gens p.drawn (λb o v e=>p.heap b o (λz=>?_) (r b o e)) (iP (aK u)) w)));simp only[aF,dQ,or_false]at z;rcases z with z|z
 .exact absurd (aK e) (by rw[z];exact cV _)
 .exact v z
def EV{b a:hT}(h:ItemsOf (Hj b.toArray) a.toArray b.toArray.size):a=b.reverse:=by
 obtain⟨e,d⟩:=h;simp only[aR]at e;refine gF λj=>?_;by_cases c:j<a.length
 .have q:=d j a[j] (by simp[c]);unfold Hj at q;rw[az c,cw (by lia)];simp only[aR,List.getElem?_toArray]at q;exact q.symm
 .rw[bW (by lia),bW (by rw[aQ];lia)]
def Qc(K:hO)(e:TE):TE:=λd H Q=>e d H λx b=>∃a c,x=.ref a/\ι K b a c/\∀l,b l=none->Q (.ref l) (upd b l (.lst c.reverse))
def Jp{X:Cx}{e:Expr}{t:TE}{l:Pos}{pos:Pos}{i:Pos}{c:hP}{s:Shared}{j:St}{H:Hp}{R:List Value->Shared->Prop}(F:Gl X "reversed")(z:X.mg "reversed"=none)(D:PE X e t)(I:Inv X c j H s){m:V->Hp->Prop}(h:t j H m)(y:starEach [.Call (.Name "reversed" l) [e] [] i] X.env=[(false,eval (.Call (.Name "reversed" l) [e] [] i) X.env)])(r:starEach [e] X.env=[(false,eval e X.env)])(k:∀d f x a g (b:hT),Inv X c j f d->m x f->x=.ref a->ι X.K f a g->Vals g b->C4 d.heap.objs.size a b.toArray 0 (d.heap.push (revObj a ((b.toArray.size:Int)-1)))->a≠d.heap.objs.size->b.toArray.size<=sizeLine->R [.ref d.heap.objs.size] { d with heap:=d.heap.push (revObj a ((b.toArray.size:Int)-1)) })(G:∀x f,m x f->∃a g,x=.ref a/\ι X.K f a g):wpAny (model X.prog X.w) X.A (spliced (backTo pos (starEach [.Call (.Name "reversed" l) [e] [] i] X.env))) R X.xe s:=by
 rw[y];show wpAny _ _ (spliced ((false,eval (.Call (.Name "reversed" l) [e] [] i) X.env)::backTo pos [])) _ _ s;refine ii ?_;refine Call_ (pR I F z boot_reversed (cR ?_ r rfl));rw[r];show wpAny _ _ (spliced ((false,eval e X.env)::backTo i [])) _ _ s;refine ii (eF (D c s j H _ I h) λu d x f p E v=>iE ?_);obtain⟨a,g,B,q⟩:=G x f v;subst B;cases E;obtain⟨b,o,n,C⟩:=p.list q;have ne:a≠d.heap.objs.size:=aV n.lt;refine call_reversed_list n.isList (iE ?_);refine k d f _ a g b p v rfl q o ⟨cg _,⟨_,bc _ rfl,rfl,?_⟩,n.isList.push _⟩ ne (by rw[aR,<-o.length];exact C);simp[revObj]
def Rh{X:Cx}{e:Expr}{P:TE}{S:Pos}{n:Pos}{p:Pos}{k:Pos}(hc:X.calm=true)(hg:Gl X "reversed")(Y:X.mg "reversed"=none)(t:Gl X "list")(z:X.mg "list"=none)(he:PE X e P)(E:starEach [.Call (.Name "reversed" n) [e] [] k] X.env=[(false,eval (.Call (.Name "reversed" n) [e] [] k) X.env)]:=by rfl)(h2:starEach [e] X.env=[(false,eval e X.env)]:=by rfl):PE X (.Call (.Name "list" S) [.Call (.Name "reversed" n) [e] [] k] [] p) (Qc X.K P):=by
 intro c s D H Q I h;refine Call_ (pR I t z boot_list (cR ?_ E rfl));refine Jp hg Y he I h E h2 (λf v x a l d g q1 r w B st ne J=>?_) λx v ⟨a,l,r,w,_⟩=>⟨a,l,r,w⟩;obtain⟨a',Ϯ,i,m,q⟩:=q1;rw[r]at i;cases i;have V:=g.ϱ w m;subst V;refine Fz (g.ok.hd hc) st ne J λT j U F G N L y W=>?_;obtain⟨O,gs,ds,ts,Z⟩:=T;simp only at F G N L y;subst F G N;obtain⟨M,rfl⟩:∃M:List Value,j=M.toArray:=⟨j.toList,by simp⟩;have er:=EV W;subst er;have kk:∀b u,f.heap.get? b=some u->O.get? b=some u:=λb u R=>L b u (aV (aK R)) (aB _ R);have I2:Inv X c D v { f with heap:=O,toks:=ts }:=g.kept kk;have C:(f.heap.push (revObj a ((d.toArray.size:Int)-1))).objs.size=f.heap.objs.size+1:=d5 ..;rw[C]at y;show EP X c D Q (.ref (f.heap.push (revObj a ((d.toArray.size:Int)-1))).objs.size) _;rw[C];have A:v (f.heap.objs.size+1)=none:=g.Β.fresh (gA _);refine⟨.ref _,_,g.aaw (o:=.lst l.reverse) I2 (gA _) A ⟨?_,d.reverse,U,B.reverse,y⟩,rfl,q _ A⟩;rw[aQ,B.length]
 simpa using J
def lh{a b:Nat}(h:a<b\/b<a):a≠b:=by lia
def Rn(n a b:Nat)(d:a<n)(c:b<n):ZAp (n+4) (n+2) (n+3) n (n+1) a b:=⟨lh (by lia),lh (by lia),lh (by lia),lh (by lia),lh (by lia),lh (by lia),lh (by lia),lh (by lia),lh (by lia),lh (by lia),⟨lh (by lia),lh (by lia),lh (by lia),lh (by lia)⟩,⟨lh (by lia),lh (by lia),lh (by lia),lh (by lia)⟩⟩
def OP(K:hO)(c d:Bool)(f:TA):TI:=λg H R=>f g H λi e=>∃a b,i=[.ref a,.ref b]/\(∃j,Ω K c e a j)/\(∃h,Ω K d e b h)/\R (Itz K c d a b) e
def Ia{X:Cx}{i:List Expr}{x1}{UH:Pos}{ea eb:Expr}{ta:TA}{p pos:Pos}(c d:Bool)(hg:Gl X "zip")(hm:X.mg "zip"=none)(ha:PA X [ea,eb] ta)(hs:starEach [ea,eb] X.env=[(false,eval ea X.env),(false,eval eb X.env)]:=by rfl)(Wb:starEach [eb] X.env=[(false,eval eb X.env)]:=by rfl):PI X (.Tuple i x1 UH) (.Call (.Name "zip" p) [ea,eb] [] pos) (OP X.K c d ta):=by
 intro k s z H R I h;refine Call_ (pR I hg hm boot_zip (cR (sH (ha pos k s z H _ I h) λG f C J g w l=>?_) (by rw[hs,Wb]) (by rw[Wb];rfl)));obtain⟨a,b,e,⟨U,M⟩,⟨Q,x⟩,q⟩:=l;subst e;obtain⟨u,v,rfl,B,y⟩:=Kf w;cases B;cases y;obtain⟨G,w,l⟩:=g.ϫ M;obtain⟨C,V,o⟩:=g.ϫ x;obtain⟨T,n⟩:=sQ a c _ _ l;obtain⟨W,m⟩:=sQ b d _ _ o;have A:=aK n;have P:=aK m;refine Pj (kg a c) (kg b d) (sQ b d) l o (λS r F N L E O=>?_) (yp a c) (yp b d);refine wpAny_pyIter_zip r ?_;have D:=Rn f.heap.objs.size a b A P;refine⟨_,[f.heap.objs.size+4,f.heap.objs.size+2,f.heap.objs.size+3,f.heap.objs.size,f.heap.objs.size+1],_,_,J,rfl,g.kept (t':=f.toks) O,OB c d a b _ _ _ _ _ D,⟨r,F,⟨_,_,N⟩,L,E⟩,λq t=>?_,q⟩;have j:f.heap.objs.size<=q:=by
  simp only[aF,dQ,or_false]at t;rcases t with rfl|rfl|rfl|rfl|rfl
  .exact jk _ 4
  .exact jk _ 2
  .exact jk _ 3
  .exact aJ _
  .exact jk _ 1
 exact g.U1 j (g.Β.fresh j)
end L2
namespace Pb
structure Road where
 a:Int
 b:Int
 t:Int
 u:Int
 deriving DecidableEq
abbrev ix:=List Road
def MW(m:Int)(c:ix):Prop:=∀S:Int->Prop,S 0->(∀r∈c,(S r.a↔S r.b))->∀v,0<=v->v<m->S v
structure Ud(m:Int)(r:Road):Prop where
 a0:0<=r.a
 a1:r.a<m
 b0:0<=r.b
 b1:r.b<m
 ne:r.a≠r.b
 t0:2<=r.t
 t1:r.t<=1000000
 u0:2<=r.u
 u1:r.u<=1000000
structure Good(m:Int)(rs:ix):Prop where
 m1:1<=m
 Ζ:m<=24
 len:(rs.length:Int)=m-1
 ok:∀r∈rs,Ud m r
 jn:MW m rs
theorem rN{b:Type}[DecidableEq b]:∀{l l':List b},l.Nodup->(∀x∈l,x∈l')->l.length<=l'.length
 | [],_,_,_=>cg _
 | x::r,l',hn,hs=>by
   obtain⟨f,d⟩:=bD.mp hn;have a:x∈l':=hs x aL;have:r.length<=(l'.erase x).length:=rN d λy c=>(mP (λ(e:y=x)=>f (by rw[<-e];exact c))).mpr (hs y (aI _ c));rw[List.length_erase_of_mem a]at this;have g:0<l'.length:=List.length_pos_of_mem a;rw[aO]
   lia
def b7(n:Nat):List Int:=(List.range n).map λ(k:Nat)=>(k:Int)
def fH :a∈b7 b↔0<=a/\a<b:=by
 unfold b7;rw[aZ]
 constructor
 .rintro⟨k,hk,rfl⟩;have:=cY.mp hk
  lia
 .rintro⟨h0,h1⟩;exact⟨a.toNat,cY.mpr (by lia),by lia⟩
def b6(n:Nat):(b7 n).length=n:=by simp[b7]
def jE(n:Nat):(b7 n).Nodup:=by
 unfold b7;refine List.Pairwise.map _ (λa b h=>?_) (List.nodup_range (n:=n));intro e;exact h (by lia)
def iL{m:Int}{l:fc}(c:0<=m)(b:l.Nodup)(h:∀x∈l,0<=x/\x<m):(l.length:Int)<=m:=by
 have:=rN (l':=b7 m.toNat) b λx a=>fH.mpr ⟨(h x a).1,by have:=(h x a).2;lia⟩;rw[b6]at this
 lia
def NU{m:Int}{l:fc}(c:0<=m)(h:∀v,0<=v->v<m->v∈l):m<=(l.length:Int):=by
 have:=rN (l:=b7 m.toNat) (l':=l) (jE _) λx a=>by
  obtain⟨b,d⟩:=fH.mp a;exact h x b (by lia)
 rw[b6]at this
 lia
def uQ(p:Int)(r:Road):List Int:=(if r.a=p then[r.b]else[])++(if r.b=p then[r.a]else[])
def gN(a:ix)(p:Int):List Int:=a.flatMap (uQ p)
def ug :e∈gN f d↔∃r∈f,(r.a=d/\r.b=e)\/(r.b=d/\r.a=e):=by
 unfold gN uQ;rw[iG]
 constructor
 .rintro⟨r,hr,h⟩;refine⟨r,hr,?_⟩;rcases bi.mp h with h|h
  .by_cases c:r.a=d
   .rw[aj c]at h;exact .inl ⟨c,(aG.mp h).symm⟩
   .rw[ah c]at h;cases h
  .by_cases c:r.b=d
   .rw[aj c]at h;exact .inr ⟨c,(aG.mp h).symm⟩
   .rw[ah c]at h;cases h
 .rintro⟨r,hr,h⟩;refine⟨r,hr,bi.mpr ?_⟩;rcases h with⟨h1,h2⟩|⟨h1,h2⟩
  .exact .inl (by rw[aj h1,h2];exact aG.mpr rfl)
  .exact .inr (by rw[aj h1,h2];exact aG.mpr rfl)
def HB(e:ix)(p:Int):(gN e p).length<=2*e.length:=by
 unfold gN
 induction e with
 | nil=>simp
 | cons r e ih=>
   rw[dP,aH,aO];have:(uQ p r).length<=2:=by
    unfold uQ;rw[aH];by_cases c:r.a=p<;>by_cases d:r.b=p<;>simp[c,d]
   lia
def uW(a:ix)(r:Road)(p:Int):gN (a++[r]) p=gN a p++uQ p r:=by
 unfold gN;rw[ow];simp
def CV(c:List Int×List Int)(e:Int):List Int×List Int:=if e∈c.1 then c else(c.1++[e],c.2++[e])
structure UI(m:Int)(rs:ix)(ks ws:fc):Prop where
 nd:ks.Nodup
 zero:0∈ks
 ϓ:∀k∈ks,0<=k/\k<m
 sub:∀w∈ws,w∈ks
 cl:∀k∈ks,k∉ws->∀e∈gN rs k,e∈ks
 wl:ws.length<=ks.length
def K9{l:fc}(h:l.Nodup)(f:c∉l):(l++[c]).Nodup:=by
 rw[eL];refine⟨h,by simp,λa e b d=>?_⟩;rw[aG.mp d];exact λz=>f (z▸e)
structure Ue(m:Int)(rs:ix)(p:Int)(es ks ws ks0:fc)(n0:Nat):Prop where
 nd:ks.Nodup
 zero:0∈ks
 ϓ:∀k∈ks,0<=k/\k<m
 sub:∀w∈ws,w∈ks
 cl:∀k∈ks,k∉ws->k=p\/∀e∈gN rs k,e∈ks
 seen:∀e∈es,e∈ks
 pin:p∈ks
 mu:ks.length+n0=ks0.length+ws.length
 up:ks0.length<=ks.length
 wl:ws.length<=ks.length
def Ue.start(h:UI f d a (b++[c])):Ue f d c [] a b a b.length where
 nd:=h.nd
 zero:=h.zero
 ϓ:=h.ϓ
 sub:=λw hw=>h.sub w (bJ _ hw)
 cl:=λk hk hw=>by
  by_cases e:k=c
  .exact .inl e
  .exact .inr (h.cl k hk λz=>by
    rcases bi.mp z with z|z
    .exact hw z
    .exact e (aG.mp z))
 seen:=λe g=>by cases g
 pin:=h.sub c (bw _ (aG.mpr rfl))
 mu:=rfl
 up:=aJ _
 wl:=by have:=h.wl;rw[aH]at this;simp at this;lia
def Ue.step(h:Ue f i p g a d e j)(q:0<=b)(o:b<f):Ue f i p (g++[b]) (CV (a,d) b).1 (CV (a,d) b).2 e j:=by
 unfold CV;by_cases c:b∈a
 .rw[aj c];refine⟨h.nd,h.zero,h.ϓ,h.sub,h.cl,λx l=>?_,h.pin,h.mu,h.up,h.wl⟩;rcases bi.mp l with z|z
  .exact h.seen x z
  .rw[aG.mp z];exact c
 .rw[ah c];dsimp only;refine⟨K9 h.nd c,bJ _ h.zero,λk n=>?_,λw m=>?_,λk n m=>?_,λx l=>?_,bJ _ h.pin,?_,by have:=h.up;simp;lia,by have:=h.wl;simp;exact this⟩
  .rcases bi.mp n with z|z
   .exact h.ϓ k z
   .rw[aG.mp z];exact⟨q,o⟩
  .rcases bi.mp m with z|z
   .exact bJ _ (h.sub w z)
   .exact bw _ z
  .rcases bi.mp n with z|z
   .rcases h.cl k z λy=>m (bJ _ y)with y|y
    .exact .inl y
    .exact .inr λx l=>bJ _ (y x l)
   .exact absurd (bw _ z) m
  .rcases bi.mp l with z|z
   .exact bJ _ (h.seen x z)
   .exact bw _ z
  .have:=h.mu;simp only[aH,aO,dA]
   lia
def Ue.done(h:Ue d a e (gN a e) b c f g):UI d a b c where
 nd:=h.nd
 zero:=h.zero
 ϓ:=h.ϓ
 sub:=h.sub
 cl:=λk hk hw=>by
  rcases h.cl k hk hw with z|z
  .rw[z];exact h.seen
  .exact z
 wl:=h.wl
def UI.start(c:1<=a):UI a b [0] [0] where
 nd:=by simp
 zero:=by simp
 ϓ:=λk hk=>by rw[aG.mp hk];lia
 sub:=λw hw=>hw
 cl:=λk hk hw=>absurd hk hw
 wl:=by simp
def UI.all{m:Int}{e:ix}{c:fc}(h:UI m e c [])(f:1<=m)(j:MW m e):(c.length:Int)=m:=by
 have up:=iL (by lia) h.nd h.ϓ;have:∀v,0<=v->v<m->v∈c:=j (λv=>v∈c) h.zero λr d=>by
  constructor
  .intro ha;exact h.cl r.a ha (by simp) r.b (ug.mpr ⟨r,d,.inl ⟨rfl,rfl⟩⟩)
  .intro hb;exact h.cl r.b hb (by simp) r.a (ug.mpr ⟨r,d,.inr ⟨rfl,rfl⟩⟩)
 have:=NU (by lia) this
 lia
def OZ(h:∀r∈b,Ud c r)(e:a∈gN b d):0<=a/\a<c:=by
 obtain⟨r,f,z⟩:=ug.mp e;have k:=h r f;rcases z with⟨_,rfl⟩|⟨_,rfl⟩
 .exact⟨k.b0,k.b1⟩
 .exact⟨k.a0,k.a1⟩
structure Row where
 k:Int
 un:Int
 t:Int
 u:Int
 sw:Int
 sp:Int
structure X5(r:Row):Prop where
 u0:0<=r.un
 u1:r.un<r.k
 t0:2<=r.t
 t1:r.t<=1000000
 v0:2<=r.u
 v1:r.u<=1000000
 s0:0<=r.sp
 s1:r.sp<r.k
structure Rows(n:Nat)(rows:List Row):Prop where
 len:rows.length=n
 ok:∀(i:Nat)(r:Row),rows[i]?=some r->r.k=(i:Int)+1/\X5 r
structure Ts(n:Nat)(ls:fc):Prop where
 len:ls.length=n
 nd:ls.Nodup
 all:∀v:Int,0<=v->v<n->v∈ls
 ϓ:∀v∈ls,0<=v/\v<n
def Dj{a:Type}{l:List a}{k:Nat}{x y:a}:y∈l.take k++x::l.drop k↔y=x\/y∈l:=by
 rw[bi,aF]
 constructor
 .rintro(h|h|h)
  .exact .inr (mZ h)
  .exact .inl h
  .exact .inr (gC h)
 .rintro(h|h)
  .exact .inr (.inl h)
  .rw[<-dg k l]at h;rcases bi.mp h with z|z
   .exact .inl z
   .exact .inr (.inr z)
def qE(a:fc)(r:Row):Road:=if r.sw=1 then⟨a.getD r.un.toNat 0,a.getD r.k.toNat 0,r.t,r.u⟩else⟨a.getD r.k.toNat 0,a.getD r.un.toNat 0,r.t,r.u⟩
structure X6(ls:fc)(rows:List Row)(rs:ix):Prop where
 len:rs.length=rows.length
 of:∀r∈rs,∃w∈rows,r=qE ls w
 to:∀w∈rows,qE ls w∈rs
def X6.nil(a:fc):X6 a [] []:=⟨rfl,λr h=>(by cases h),λr h=>(by cases h)⟩
def X6.step(h:X6 c a b)(w:Row)(k:Nat):X6 c (a++[w]) (b.take k++qE c w::b.drop k) where
 len:=by
  rw[aH,aO,bq,fN,aH,h.len];simp
  lia
 of:=λr hr=>by
  rcases Dj.mp hr with z|z
  .exact⟨w,by simp,z⟩
  .obtain⟨d,hw,e⟩:=h.of r z;exact⟨d,bJ _ hw,e⟩
 to:=λd hw=>by
  rw[Dj];rcases bi.mp hw with z|z
  .exact .inr (h.to d z)
  .exact .inl (by rw[aG.mp z])
def zo(h:Ts c a)(d:b<c):a[b]?=some (a.getD b 0):=by
 have:b<a.length:=by rw[h.len];exact d
 simp[List.getD,az this]
def GC(h:Ts b a)(d:c<b):a.getD c 0∈a:=aP (zo h d)
def PJ(h:Ts d a)(j:b<d)(k:c<d)(e:a.getD b 0=a.getD c 0):b=c:=by
 have g:b<a.length:=by rw[h.len];exact j
 have f:c<a.length:=by rw[h.len];exact k
 have i:=zo h j;have l:=zo h k;rw[e]at i;have m:a[b]'g=a[c]'f:=by
  rw[az g]at i;rw[az f]at l;exact bF (i.trans l.symm)
 have nd:=fD.mp h.nd;rcases kR b c with z|z|z
 .exact absurd m (nd b c g f z)
 .exact z
 .exact absurd m.symm (nd c b f g z)
def Q4(p:1<=n)(s:n<=24)(L:Ts n b)(W:Rows (n-1) a)(P:X6 b a d):Good n d where
 m1:=by lia
 Ζ:=by lia
 len:=by rw[P.len,W.len];lia
 ok:=λr hr=>by
  obtain⟨w,hw,rfl⟩:=P.of r hr;obtain⟨i,hi⟩:=cF hw;obtain⟨y,ok⟩:=W.ok i w hi;have f:i<a.length:=(ax.mp hi).1;rw[W.len]at f;have hk:w.k.toNat<n:=by lia
  have h:w.un.toNat<n:=by have:=ok.u0;have:=ok.u1;lia
  have m:=L.ϓ _ (GC L hk);have l:=L.ϓ _ (GC L h);have ne:b.getD w.k.toNat 0≠b.getD w.un.toNat 0:=λe=>by
   have:=PJ L hk h e;have:=ok.u0;have:=ok.u1
   lia
  unfold qE;by_cases c:w.sw=1
  .rw[aj c];exact⟨l.1,l.2,m.1,m.2,ne.symm,ok.t0,ok.t1,ok.v0,ok.v1⟩
  .rw[ah c];exact⟨m.1,m.2,l.1,l.2,ne,ok.t0,ok.t1,ok.v0,ok.v1⟩
 jn:=by
  intro S s0 u;have g:∀i:Nat,i<n->(S (b.getD i 0)↔S (b.getD 0 0)):=by
   intro i
   induction i using Nat.strongRecOn with
   | ind i ih=>
     intro hi;by_cases z:i=0
     .rw[z]
     .have f:i-1<a.length:=(by rw[W.len];lia);obtain⟨y,ok⟩:=W.ok (i-1) a[i-1] (az f);have t:=P.to a[i-1] (dh f);have hr:=u _ t;have hk:(a[i-1]).k.toNat=i:=(by lia);have h:(a[i-1]).un.toNat<i:=(by have:=ok.u0;have:=ok.u1;lia);have q:=ih _ h (by lia);unfold qE at hr;rw[hk]at hr;by_cases c:(a[i-1]).sw=1
      .rw[aj c]at hr;exact hr.symm.trans q
      .rw[ah c]at hr;exact hr.trans q
  have at_:∀v,0<=v->v<(n:Int)->∃i,i<n/\b.getD i 0=v:=λv o p=>by
   obtain⟨i,hi⟩:=cF (L.all v o p);have f:i<n:=(by have:=(ax.mp hi).1;rw[L.len]at this;exact this);refine⟨i,f,?_⟩;have:=zo L f;rw[hi]at this;exact(bF this).symm
  intro v o hv;obtain⟨i,hi,rfl⟩:=at_ v o hv;obtain⟨j,x,A⟩:=at_ 0 (by lia) (by lia);refine(g i hi).mpr ((g j x).mp ?_);rw[A];exact s0
def U8(c:ix)(a b:Int):Prop:=∃x∈c,(x.a=a/\x.b=b)\/(x.b=a/\x.a=b)
def U8.symm(h:U8 a b c):U8 a c b:=by
 obtain⟨x,d,h⟩:=h;rcases h with⟨h1,h2⟩|⟨h1,h2⟩
 .exact⟨x,d,.inr ⟨h2,h1⟩⟩
 .exact⟨x,d,.inl ⟨h2,h1⟩⟩
def F3 :c∈gN a b↔U8 a b c:=ug
def Good.WW(g:Good c d)(h:U8 d a b):(0<=a/\a<c)/\(0<=b/\b<c)/\a≠b:=by
 obtain⟨x,e,h⟩:=h;have k:=g.ok x e;rcases h with⟨h1,h2⟩|⟨h1,h2⟩
 .subst h1 h2;exact⟨⟨k.a0,k.a1⟩,⟨k.b0,k.b1⟩,k.ne⟩
 .subst h1 h2;exact⟨⟨k.b0,k.b1⟩,⟨k.a0,k.a1⟩,k.ne.symm⟩
def Good.from(g:Good d e)(k:0<=c)(l:c<d)(S:Int->Prop)(i:S c)(m:∀x∈e,(S x.a↔S x.b)):∀v,0<=v->v<d->S v:=by
 have f:∀v,0<=v->v<d->(S v↔S 0):=g.jn (λv=>S v↔S 0) Iff.rfl λx j=>by
  have:=m x j;exact⟨λh=>this.symm.trans h,λh=>this.trans h⟩
 intro v a b;exact(f v a b).mpr ((f c k l).mp i)
inductive Tu(rs:ix)(r:Int):Nat->Int->Prop
 | zero:Tu rs r 0 r
 | step {n:Nat} {u v:Int}:Tu rs r n u->U8 rs u v->Tu rs r (n+1) v
def Sm{P:Nat->Prop}:∀n,P n->∃k,P k/\∀j,j<k->¬P j:=by
 intro n
 induction n using Nat.strongRecOn with
 | ind n ih=>
   intro h;by_cases z:∃j,j<n/\P j
   .obtain⟨j,a,b⟩:=z;exact ih j a b
   .exact⟨n,h,λj a b=>z ⟨j,a,b⟩⟩
structure ζ(m:Int)(rs:ix)(r:Int)(par:fz)(dep:hB):Prop where
 root:dep r=0
 up:∀v,0<=v->v<m->v≠r->(0<=par v/\par v<m)/\U8 rs v (par v)/\dep (par v)+1=dep v
 road:∀x∈rs,(x.a≠r/\par x.a=x.b)\/(x.b≠r/\par x.b=x.a)
 one:(rs.map λx=>if x.a≠r/\par x.a=x.b then x.a else x.b).Nodup
def Re{n:Nat}{l:List Nat}(c:l.Nodup)(d:l.length=n)(b:∀x∈l,x<n):∀i,i<n->i∈l:=by
 intro i a;by_cases z:i∈l
 .exact z
 .have:=rN (l:=i::l) (l':=List.range n) (bD.mpr ⟨z,c⟩) λx hx=>by
   rcases aF.mp hx with rfl|hx
   .exact cY.mpr a
   .exact cY.mpr (b x hx)
  rw[aO,cP]at this
  lia
def sy(g:Good m f){r:Int}(V:0<=r)(h1:r<m):∃o s,ζ m f r o s:=by
 classical
 have E:∀v,0<=v->v<m->∃n,Tu f r n v:=g.from V h1 (λv=>∃n,Tu f r n v) ⟨0,.zero⟩ λx hx=>by
  constructor
  .rintro⟨n,d⟩;exact⟨n+1,d.step ⟨x,hx,.inl ⟨rfl,rfl⟩⟩⟩
  .rintro⟨n,d⟩;exact⟨n+1,d.step ⟨x,hx,.inr ⟨rfl,rfl⟩⟩⟩
 have hd:∀v,∃k,(0<=v/\v<m)->Tu f r k v/\∀j,j<k->¬Tu f r j v:=λv=>by
  by_cases z:0<=v/\v<m
  .obtain⟨n,d⟩:=E v z.1 z.2;obtain⟨k,h⟩:=Sm (P:=λk=>Tu f r k v) n d;exact⟨k,λ_=>h⟩
  .exact⟨0,λh=>absurd h z⟩
 obtain⟨s,U⟩:∃s:Int->Nat,∀v,0<=v->v<m->Tu f r (s v) v/\∀j,j<s v->¬Tu f r j v:=⟨λv=>(hd v).choose,λv a b=>(hd v).choose_spec ⟨a,b⟩⟩;have dr:s r=0:=by
  have:=(U r V h1).2 0;by_cases z:s r=0
  .exact z
  .exact absurd Tu.zero (this (by lia))
 have hp:∀v,∃u,(0<=v/\v<m/\v≠r)->U8 f v u/\s u+1=s v:=λv=>by
  by_cases z:0<=v/\v<m/\v≠r
  .obtain⟨a,b,c⟩:=z;obtain⟨d,dm⟩:=U v a b;generalize hk:s v=k at d dm;cases d with
   | zero=>exact absurd rfl c
   | @step n u _ d e=>
     refine⟨u,λ_=>⟨e.symm,?_⟩⟩;obtain⟨⟨u0,u1⟩,_⟩:=g.WW e;have l1:s u<=n:=by
      by_cases w:s u<=n
      .exact w
      .exact absurd d ((U u u0 u1).2 n (by lia))
     have l2:¬s u<n:=λw=>dm (s u+1) (by lia) ((U u u0 u1).1.step e)
     lia
  .exact⟨0,λh=>absurd h z⟩
 obtain⟨o,K⟩:∃o:Int->Int,∀v,0<=v->v<m->v≠r->U8 f v (o v)/\s (o v)+1=s v:=⟨λv=>(hp v).choose,λv a b c=>(hp v).choose_spec ⟨a,b,c⟩⟩;have Z:∀v,∃i:Nat,(0<=v/\v<m/\v≠r)->∃x,f[i]?=some x/\((x.a=v/\x.b=o v)\/(x.b=v/\x.a=o v)):=λv=>by
  by_cases z:0<=v/\v<m/\v≠r
  .obtain⟨x,hx,h⟩:=(K v z.1 z.2.1 z.2.2).1;obtain⟨i,e⟩:=cF hx;exact⟨i,λ_=>⟨x,e,h⟩⟩
  .exact⟨0,λh=>absurd h z⟩
 obtain⟨t,S⟩:∃t:Int->Nat,∀v,0<=v->v<m->v≠r->∃x,f[t v]?=some x/\((x.a=v/\x.b=o v)\/(x.b=v/\x.a=o v)):=⟨λv=>(Z v).choose,λv a b c=>(Z v).choose_spec ⟨a,b,c⟩⟩;have X:∀v u,0<=v->v<m->v≠r->0<=u->u<m->u≠r->t v=t u->v=u:=by
  intro v u a b c J F G e;obtain⟨x,hx,h⟩:=S v a b c;obtain⟨y,N,h'⟩:=S u J F G;rw[e,N]at hx;cases hx;have T:=(K v a b c).2;have Q:=(K u J F G).2;rcases h with⟨p,q⟩|⟨p,q⟩<;>rcases h' with⟨p',q'⟩|⟨p',q'⟩
  .exact p.symm.trans p'
  .exfalso
   have C:v=o u:=p.symm.trans q';have H:u=o v:=p'.symm.trans q;rw[<-C]at Q;rw[<-H]at T
   lia
  .exfalso
   have C:v=o u:=p.symm.trans q';have H:u=o v:=p'.symm.trans q;rw[<-C]at Q;rw[<-H]at T
   lia
  .exact p.symm.trans p'
 let A:List Int:=(b7 m.toNat).filter λv=>decide (v≠r)
 have I:∀v,v∈A↔(0<=v/\v<m/\v≠r):=λv=>by
  rw[cf,fH,b4]
  constructor
  .rintro⟨⟨a,b⟩,c⟩;exact⟨a,by lia,c⟩
  .rintro⟨a,b,c⟩;exact⟨⟨a,by lia⟩,c⟩
 have nv:A.Nodup:=(jE _).filter _;have lv:A.length=f.length:=by
  have C:(r::A).length<=(b7 m.toNat).length:=rN (bD.mpr ⟨λh=>((I r).mp h).2.2 rfl,nv⟩) λx hx=>by
   rcases aF.mp hx with rfl|hx
   .exact fH.mpr ⟨V,by lia⟩
   .have:=(I x).mp hx;exact fH.mpr ⟨this.1,by lia⟩
  have H:(b7 m.toNat).length<=(r::A).length:=rN (jE _) λx hx=>by
   have:=fH.mp hx;by_cases z:x=r
   .rw[z];exact aL
   .exact aI _ ((I x).mpr ⟨this.1,by lia,z⟩)
  rw[b6,aO]at C H;have:=g.len;have:=g.m1
  lia
 have il:(A.map t).Nodup:=by
  have:∀(l:fc),l.Nodup->(∀v∈l,0<=v/\v<m/\v≠r)->(l.map t).Nodup:=by
   intro l
   induction l with
   | nil=>intro _ _;simp
   | cons v l ih=>
     intro hn W;obtain⟨n1,n2⟩:=bD.mp hn;rw[aE];refine bD.mpr ⟨λz=>?_,ih n2 λu O=>W u (aI _ O)⟩;obtain⟨u,O,e⟩:=aZ.mp z;obtain⟨a,b,c⟩:=W v aL;obtain⟨J,F,G⟩:=W u (aI _ O);exact n1 (X u v J F G a b c e▸O)
  exact this A nv λv D=>(I v).mp D
 have ib:∀i∈A.map t,i<f.length:=λi R=>by
  obtain⟨v,D,rfl⟩:=aZ.mp R;obtain⟨a,b,c⟩:=(I v).mp D;obtain⟨x,hx,_⟩:=S v a b c;exact(ax.mp hx).1
 have Y:=Re il (by rw[ag,lv]) ib;have B:∀i x,f[i]?=some x->∃v,(0<=v/\v<m/\v≠r)/\t v=i/\((x.a=v/\x.b=o v)\/(x.b=v/\x.a=o v)):=λi x e=>by
  obtain⟨v,D,rfl⟩:=aZ.mp (Y i (ax.mp e).1);obtain⟨a,b,c⟩:=(I v).mp D;obtain⟨y,N,h⟩:=S v a b c;rw[e]at N;cases N;exact⟨v,⟨a,b,c⟩,rfl,h⟩
 have Y0:∀v,0<=v->v<m->v≠r->o v≠r->o (o v)≠v:=λv a b c G z=>by
  have T:=K v a b c;obtain⟨_,⟨J,F⟩,_⟩:=g.WW T.1;have Q:=K (o v) J F G;rw[z]at Q
  lia
 have M:∀i x,f[i]?=some x->∃v,(0<=v/\v<m/\v≠r)/\t v=i/\(if x.a≠r/\o x.a=x.b then x.a else x.b)=v:=λi x e=>by
  obtain⟨v,⟨a,b,c⟩,D,h⟩:=B i x e;refine⟨v,⟨a,b,c⟩,D,?_⟩;rcases h with⟨p,q⟩|⟨p,q⟩
  .rw[aj ⟨by rw[p];exact c,by rw[p];exact q.symm⟩];exact p
  .rw[ah]
   .exact p
   .rintro⟨z1,z2⟩;rw[q]at z1 z2;exact Y0 v a b c z1 (z2.trans p)
 refine⟨o,s,dr,λv a b c=>?_,λx hx=>?_,?_⟩
 .obtain⟨p,q⟩:=K v a b c;obtain⟨_,w,_⟩:=g.WW p;exact⟨w,p,q⟩
 .obtain⟨i,e⟩:=cF hx;obtain⟨v,⟨a,b,c⟩,_,h⟩:=B i x e;rcases h with⟨p,q⟩|⟨p,q⟩
  .exact .inl ⟨by rw[p];exact c,by rw[p];exact q.symm⟩
  .exact .inr ⟨by rw[p];exact c,by rw[p];exact q.symm⟩
 .refine fD.mpr λi j R L lt=>?_;rw[ag]at R L;rw[ji,ji];intro z;obtain⟨v,_,C,k1⟩:=M i f[i] (az R);obtain⟨u,_,H,k2⟩:=M j f[j] (az L);rw[k1,k2]at z;rw[z]at C
  lia
def KA(g:Good j i)(A:0<=f)(v:f<j):(gN i f).Nodup:=by
 obtain⟨k,u,R⟩:=sy g A v;have one:=R.one;have ok:=g.ok;have road:=R.road;clear R g
 induction i with
 | nil=>simp[gN]
 | cons x l ih=>
   have p:=ok x aL;have t:∀y∈l,Ud j y:=λy hy=>ok y (aI _ hy);rw[aE]at one;obtain⟨q,B⟩:=bD.mp one;have o:=ih B t λy hy=>road y (aI _ hy);have e:gN (x::l) f=uQ f x++gN l f:=by unfold gN;rw[dP]
   rw[e];have n:∀y,Ud j y->((y.a≠f/\k y.a=y.b)\/(y.b≠f/\k y.b=y.a))->(y.a=f->(if y.a≠f/\k y.a=y.b then y.a else y.b)=y.b)/\(y.b=f->(if y.a≠f/\k y.a=y.b then y.a else y.b)=y.a):=λy D hy=>by
    constructor
    .intro z;rw[ah (λw=>w.1 z)]
    .intro z;rcases hy with hy|hy
     .rw[aj hy]
     .exact absurd z hy.1
   have r:=n x p (road x aL);have m:∀e∈gN l f,e∈l.map λy=>if y.a≠f/\k y.a=y.b then y.a else y.b:=λe C=>by
    obtain⟨y,hy,h⟩:=ug.mp C;have s:=n y (t y hy) (road y (aI _ hy));refine aZ.mpr ⟨y,hy,?_⟩;rcases h with⟨p1,q1⟩|⟨p1,q1⟩
    .rw[s.1 p1];exact q1
    .rw[s.2 p1];exact q1
   unfold uQ;by_cases c:x.a=f
   .have d:¬x.b=f:=λz=>p.ne (c.trans z.symm);rw[aj c,ah d,ck];refine bD.mpr ⟨λz=>q ?_,o⟩;rw[r.1 c];exact m _ z
   .rw[ah c,jJ];by_cases d:x.b=f
    .rw[aj d];refine bD.mpr ⟨λz=>q ?_,o⟩;rw[r.2 d];exact m _ z
    .rw[ah d];exact o
def jO(m:Int)(a:ix)(p:Int):List Int:=(b7 m.toNat).filter λq=>decide (q∈gN a p)
theorem ER:∀{l c:fc},l.Perm c->l.Pairwise (·<=·)->c.Pairwise (·<=·)->l=c
 | [],c,p,_,_=>(List.Perm.nil_eq p)
 | a::l,c,p,h,h'=>by
   cases c with
   | nil=>exact absurd p.symm.nil_eq (by simp)
   | cons b r=>
     obtain⟨k,j⟩:=List.pairwise_cons.mp h;obtain⟨i,d⟩:=List.pairwise_cons.mp h';have e:a=b:=by
      have g:a∈b::r:=p.subset aL;have f:b∈a::l:=p.symm.subset aL;rcases aF.mp g with z|z
      .exact z
      .rcases aF.mp f with w|w
       .exact w.symm
       .have:=k b w;have:=i a z
        lia
     subst e;rw[ER (List.Perm.cons_inv p) j d]
def Hh(n:Nat):(b7 n).Pairwise (·<=·):=by
 unfold b7;refine List.Pairwise.map _ (λa b (h:a<b)=>?_) List.pairwise_lt_range
 lia
def IB(m:Int)(a:ix)(p:Int):(jO m a p).Pairwise (·<=·):=(Hh _).filter _
def Cq(m:Int)(a:ix)(p:Int):(jO m a p).Nodup:=(jE _).filter _
def wR(g:Good e c) :d∈jO e c f↔U8 c f d:=by
 unfold jO;rw[cf,b4,F3,fH]
 constructor
 .exact λh=>h.2
 .intro h;obtain⟨_,⟨a,b⟩,_⟩:=g.WW h;exact⟨⟨a,by lia⟩,h⟩
theorem jW:∀{l c:fc},l.Nodup->c.Nodup->(∀x,x∈l↔x∈c)->l.Perm c
 | [],c,_,_,h=>by
   cases c with
   | nil=>exact .nil
   | cons b r=>exact absurd ((h b).mpr aL) (by simp)
 | a::l,c,n,n',h=>by
   obtain⟨e,f⟩:=bD.mp n;have d:a∈c:=(h a).mp aL;refine List.Perm.trans (List.Perm.cons a ?_) (List.perm_cons_erase d).symm;refine jW f (n'.erase a) λx=>?_
   constructor
   .intro hx;have ne:x≠a:=λz=>e (z▸hx);exact(mP ne).mpr ((h x).mp (aI _ hx))
   .intro hx;have:x≠a:=λz=>by
     subst z;exact(List.Nodup.not_mem_erase n') hx
    rcases aF.mp ((h x).mpr (List.mem_of_mem_erase hx))with z|z
    .exact absurd z this
    .exact z
def Qx(g:Good c a)(e:0<=b)(h:b<c)(i:d.Perm (gN a b))(f:d.Pairwise (·<=·)):d=jO c a b:=by
 refine ER (i.trans (jW (KA g e h) (Cq c a b) λx=>?_)) f (IB c a b);rw[wR g,F3]
def i9(a b:Int)(x:Road):Option Int:=if x.a=a/\x.b=b then some x.t else if x.a=b/\x.b=a then some x.u else none
def cL(c:ix)(a b:Int):Option Int:=c.findSome? (i9 a b)
def P3 :(cL g e f).isSome=true↔U8 g e f:=by
 unfold cL;rw[List.findSome?_isSome_iff]
 constructor
 .rintro⟨x,hx,h⟩;unfold i9 at h;by_cases c:x.a=e/\x.b=f
  .exact⟨x,hx,.inl c⟩
  .rw[ah c]at h;by_cases d:x.a=f/\x.b=e
   .exact⟨x,hx,.inr ⟨d.2,d.1⟩⟩
   .rw[ah d]at h;cases h
 .rintro⟨x,hx,h⟩;refine⟨x,hx,?_⟩;unfold i9;rcases h with h|h
  .rw[aj h];rfl
  .by_cases c:x.a=e/\x.b=f
   .rw[aj c];rfl
   .rw[ah c,aj ⟨h.2,h.1⟩];rfl
def xa(x:Road)(a b:Int):Prop:=(x.a=a/\x.b=b)\/(x.b=a/\x.a=b)
def Nx{m:Int}{f:ix}(g:Good m f){a b:Int}{i j:Nat}(n:f[i]?=some c)(y:f[j]?=some d)(t:xa c a b)(x:xa d a b):i=j:=by
 obtain⟨⟨E,B⟩,_,_⟩:=g.WW (show U8 f a b from⟨c,aP n,t⟩);obtain⟨e,v,R⟩:=sy g E B;have h:∀z∈f,xa z a b->(if z.a≠a/\e z.a=z.b then z.a else z.b)=b:=λz A D=>by
  rcases D with⟨p,q⟩|⟨p,q⟩
  .rw[ah (λw=>w.1 p)];exact q
  .rcases R.road z A with w|w
   .rw[aj w];exact q
   .exact absurd p w.1
 have k:=(ax.mp n);have l:=(ax.mp y);obtain⟨k,u⟩:=k;obtain⟨l,C⟩:=l;have o:=fD.mp R.one;have r:(f.map λz=>if z.a≠a/\e z.a=z.b then z.a else z.b)[i]'(by rw[ag];exact k)=b:=by
  rw[ji];exact h _ (dh k) (u▸t)
 have s:(f.map λz=>if z.a≠a/\e z.a=z.b then z.a else z.b)[j]'(by rw[ag];exact l)=b:=by
  rw[ji];exact h _ (dh l) (C▸x)
 rcases kR i j with z|z|z
 .exact absurd (r.trans s.symm) (o i j _ _ z)
 .exact z
 .exact absurd (s.trans r.symm) (o j i _ _ z)
def KU(h:¬xa b a c):i9 a c b=none:=by
 unfold i9;rw[ah (λz=>h (.inl z)),ah (λz=>h (.inr ⟨z.2,z.1⟩))]
def uP{m:Int}{f:ix}(g:Good m f){a b:Int}{i:Nat}(n:f[i]?=some d)(j:xa d a b):cL f a b=i9 a b d:=by
 have lt:=(ax.mp n);obtain⟨lt,q⟩:=lt;have e:f=f.take i++d::f.drop (i+1):=by rw[<-q,jg,dg]
 have h:cL (f.take i) a b=none:=by
  unfold cL;rw[List.findSome?_eq_none_iff];intro y p;refine KU λr=>?_;obtain⟨k,l⟩:=cF p;have t:=(ax.mp l).1;rw[bq]at t;rw[gQ (by lia)]at l;have:=Nx g l n r j
  lia
 have o:(i9 a b d).isSome=true:=by
  unfold i9;rcases j with z|z
  .rw[aj z];rfl
  .by_cases c:d.a=a/\d.b=b
   .rw[aj c];rfl
   .rw[ah c,aj ⟨z.2,z.1⟩];rfl
 obtain⟨v,s⟩:=gR.mp o;have:cL (f.take i++d::f.drop (i+1)) a b=i9 a b d:=by
  unfold cL at h ⊢;rw[gB,h,hZ,s]
  rfl
 rw[<-e]at this;exact this
end Pb
namespace L2
open PySem PySem.Spec PyProof.Rows
def bI(b:Th):Prop:=∀a H s e c,¬b a H s E0 e c
def d7(q:bI a) :pJ a b E0:=λ_ _ _ _ _ _ _ h=>(q _ _ _ _ _ h).elim
structure Df(K:hO)(mg:hU)(x:Str)(st:Stmt)(ps:hX)(f:Addr)(fd:FuncData):Prop where
 F:WV K x x st f fd
 m:mg x=some (.ref f)
 b:Binds K fd ps []
def WV.Ο{P:Program}{w:World}{K:hO}{n:hU}{c:Heap}{m:Th}{x b:Str}{st:Stmt}{f:Addr}{l:FuncData}{N j:hX}{k:Nat}{g:Sp}(F:WV K x b st f l)(S:ε N j (aA st))(o:∀(e:Value) (A:Around) (a:List Env) (s:Shared) (H:Hp) (d:List V) (Q:VK) (E:XK),Ρ k (A.deeper (envOfC b (aA st) s.heap.objs.size f e))->g d H Q E->∃t,UR (sF m P w K n c N b (aA st) f e A a s H E).Xh (kL st) t/\t { nx:=λ_ v=>Q .ξ v,rt:=Q } (start N d) H)(i:∀d H Q E,g d H Q E->d.length=j.length:=by walk_at "v"):ϋ P w K n c m (k+1) f l j g:=by
 obtain⟨J,C,kV,u,B,G,e,D,I,rfl,y,p⟩:=F.ex;refine P8 y p S i λA a s H d Q E z r=>?_;obtain⟨t,h,q⟩:=o e A a s H d Q E z r;exact⟨t,h.Xh,q⟩
structure Ug(sc:Scope)(x:Str):Prop where
 l:sc.names.lookup x=some .local
 d:(x==("__debug__":Str))=false
 c:(x==("__classdict__":Str))=false
structure VX(sc:Scope)(x:Str):Prop where
 l:sc.names.lookup x=some .cell
 d:(x==("__debug__":Str))=false
 c:(x==("__classdict__":Str))=false
structure Ψ(sc:Scope)(x:Str):Prop where
 g:sc.names.lookup x=some .globalImplicit
 d:(x==("__debug__":Str))=false
 n:x≠"__name__"
def nmL(a:Scope)(x:Str):Bool:=decide (a.names.lookup x=some .local)&&!(x==("__debug__":Str))&&!(x==("__classdict__":Str))
def nmC(a:Scope)(x:Str):Bool:=decide (a.names.lookup x=some .cell)&&!(x==("__debug__":Str))&&!(x==("__classdict__":Str))
def nmG(a:Scope)(x:Str):Bool:=decide (a.names.lookup x=some .globalImplicit)&&!(x==("__debug__":Str))&&!decide (x="__name__")
def Ug.of(h:nmL a b=true):Ug a b:=by
 unfold nmL at h;simp only[bG,b4,iI]at h;exact⟨h.1.1,h.1.2,h.2⟩
def VX.of(h:nmC a b=true):VX a b:=by
 unfold nmC at h;simp only[bG,b4,iI]at h;exact⟨h.1.1,h.1.2,h.2⟩
def Ψ.of(h:nmG a b=true:=by kernel_rfl):Ψ a b:=by
 unfold nmG at h;simp only[bG,b4,iI,decide_eq_false_iff_not]at h;exact⟨h.1.1,h.1.2,h.2⟩
def RB(N b:hX)(a:Scope):Bool:=decide (a.kind=.function)&&!a.isCoroutine&&!a.isGenerator&&decide N.Nodup&&decide (N.take b.length=b)&&(b.all λx=>decide (a.names.lookup x=some .local\/a.names.lookup x=some .cell))&&(a.names.all λy=>decide (y.2≠.free))
def ε.of(h:RB c b a=true:=by kernel_rfl):ε c b a:=by
 unfold RB at h;simp only[bG,b4,iI,eI]at h;obtain⟨⟨⟨⟨⟨⟨j,g⟩,e⟩,f⟩,i⟩,k⟩,d⟩:=h;exact⟨j,g,e,f,i,k,d⟩
def pvl(i:Nat)(n:Ug b.env.scope a)(f:b.N[i]?=some a:=by rfl):PE b (.Name a e) (yx i):=Ie f (.inl n.l) n.d n.c
def pvc(i:Nat)(n:VX b.env.scope a)(f:b.N[i]?=some a:=by rfl):PE b (.Name a e) (yx i):=Ie f (.inr (.inl n.l)) n.d n.c
theorem LU{e:Th}{P:Program}{w:World}{K:hO}{g:hU}{c:Heap}{N:hX}{d:Str}{a:Scope}{f:Addr}{cd:Value}{A:Around}{b:List Env}{s:Shared}{H:Hp}{E:XK}:(sF e P w K g c N d a f cd A b s H E).K=K:=rfl
theorem Ex(D:Ends)(a:St)(H:Hp):Wa D a H=False:=rfl
theorem QK(i j:Int):uh (.int i) (.int j)=true:=rfl
theorem Qh(i j:Bool):uh (.bl i) (.bl j)=true:=rfl
theorem QM(i:Int):uh (.int i) .ξ=true:=rfl
theorem Rj(i:Int):uh .ξ (.int i)=true:=rfl
theorem QL:uh .ξ .ξ=true:=rfl
theorem QH(i j:Str):uh (.str i) (.str j)=true:=rfl
def Tv{K:hO}{H:Hp}{p:Addr}{a:List V}{i:Int}{v:V}{Q:VK}(h:H p=some (.tup a))(e:ϳ a i=some v)(q:Q v H):Lf K (.ref p) (.int i) H Q:=⟨p,a,i,v,rfl,rfl,Α.of h,e,q⟩
def Γ{K:hO}{H:Hp}{p:Addr}{a:List V}{i:Int}{v:V}{Q:VK}(h:H p=some (.lst a))(e:ϳ a i=some v)(q:Q v H):DC K (.ref p) (.int i) H Q:=⟨p,a,i,v,rfl,rfl,ι.of h,e,q⟩
def ixS{K:hO}{H:Hp}{p:Addr}{a:List V}{i:Int}{v:V}{Q:VK}(h:ι K H p a)(e:ϳ a i=some v)(q:Q v H):DC K (.ref p) (.int i) H Q:=⟨p,a,i,v,rfl,rfl,h,e,q⟩
def S9{K:hO}{H:Hp}{l:Addr}{a:List V}(h:H l=some (.lst a)):VW K "list" (.ref l) H:=.inl ⟨rfl,_,ι.of h⟩
def oN(h:d b=some (.lst a))(f:a.length<sizeLine)(q:e .ξ (upd d b (.lst (a++[c])))):rW (.ref b) [c] d e:=⟨b,a,c,rfl,rfl,h,f,q⟩
def SW(h:e c=some (.lst a))(g:0<=b)(j:b<=a.length)(i:a.length<sizeLine)(q:f .ξ (upd e c (.lst (a.take b.toNat++d::a.drop b.toNat)))):Ua (.ref c) [.int b,d] e f:=⟨c,a,b,d,rfl,rfl,h,g,j,i,q⟩
def PM(h:d b=some (.lst (a++[c])))(q:e c (upd d b (.lst a))):YM (.ref b) [] d e:=⟨b,a++[c],c,rfl,rfl,h,by simp,by rw[jV];exact q⟩
def d8(h:a<=100000):a<sizeLine:=fZ h (by decide)
def bX(h:a<=100000):a<=sizeLine:=iP (d8 h)
def fR{a:Type}{b:List a}{i:Int}{v:a}(c:0<=i)(h:b[i.toNat]?=some v):ϳ b i=some v:=by
 obtain⟨n,rfl⟩:∃n:Nat,i=n:=⟨i.toNat,by lia⟩;exact JM (by simpa using h)
def oU(f:Gl b a)(d:∃t,b.mg a=some (.int i t))(hd:(a==("__debug__":Str))=false:=by decide):PE b (.Name a c) (tC (.int i)):=by
 obtain⟨t,e⟩:=d;exact Em f e ⟨t,rfl⟩ hd
def Itx(K:hO):Bool->Addr->It
 | true,a=>X0 K a
 | false,a=>YB K a
def NL(K:hO)(c:Bool)(d:TE):TI:=λe H R=>d e H λx b=>∃a,x=.ref a/\(∃f,Ω K c b a f)/\R (Itx K c a) b
def wu(c:Bool)(f:PE b d a):PI b e d (NL b.K c a):=by
 cases c
 .exact y0 f
 .exact iB f
def ue(J:It)(p:Addr)(Q:VK)(g:TG)(r:TT)(q:TE)(h:St)(o:Hp):Prop:=∃W:Nat->Nat->List V->St->Hp->Prop,(∃m,W 0 m [] h o)/\∀i m c f d,W i m c f d->(J.stop i d/\Q (.ref p) d)\/(J.go i d/\∀x l,J.XZ i d x l->g x f l λa n=>r a n λb j=>
 if b=true then q a j λy k=>k p=some (.lst c)/\c.length<sizeLine/\∃e,e<m/\W (i+1) e (c++[y]) a (upd k p (.lst (c++[y])))
 else ∃e,e<m/\W (i+1) e c a j)
theorem EY :KY b f e h c d a i g=e a i λJ j=>∀p,j p=none->ue J p g h c d (nB b f a) (upd j p (.lst [])):=rfl
def va(J:It)(D:Ends)(g:TG)(h:TS)(b:St)(H:Hp):Prop:=∃W:Nat->Nat->St->Hp->Prop,(∃m,W 0 m b H)/\∀i m b H,W i m b H->(J.stop i H/\D.nx b H)\/(J.go i H/\∃N:St->Hp->Prop,(∀c a,N c a->∃e,e<m/\W (i+1) e c a)/\∀x a,J.XZ i H x a->g x b a λd f=>h { D with nx:=N,ct:=N,bk:=D.nx } d f)
theorem Jj :RK b e c d a f=b a f λJ g=>va J d e c a g:=rfl
def me{K:hO}{c:Bool}{a p:Addr}{xs:List V}{Q:VK}{g:TG}{v:TT}{z:TE}{n:St}{u:Hp}(k:Nat->List V->St->Hp->Prop)(E:k 0 [] n u)(I:∀i d f H,i<=xs.length->k i d f H->Ω K c H a xs)(G:∀(i:Nat) (x:V) (d:List V) (f:St) (H:Hp) (N:List V->St->Hp->Prop),(∀o h l,k (i+1) o h l->N o h l)->xs[i]?=some x->k i d f H->g x f H λj F=>v j F λb s=>
 if b=true then z j s λy w=>w p=some (.lst d)/\d.length<sizeLine/\N (d++[y]) j (upd w p (.lst (d++[y])))else N d j s)(D:∀d f H,k xs.length d f H->Q (.ref p) H):ue (Itx K c a) p Q g v z n u:=by
 refine⟨λi m d f H=>m=xs.length-i/\i<=xs.length/\k i d f H,⟨xs.length,by simp,cg _,E⟩,?_⟩;rintro i m d f H ⟨rfl,C,pv⟩;have q:=I i d f H C pv;by_cases r:i<xs.length
 .refine .inr ⟨?_,λx l y=>?_⟩
  .cases c
   .exact⟨xs,xs[i],q,by simp[r]⟩
   .exact⟨xs,xs[i],q,by simp[r]⟩
  .have e:l=H/\xs[i]?=some x:=by
    cases c
    .exact⟨y.1,y.2 xs q⟩
    .exact⟨y.1,y.2 xs q⟩
   obtain⟨rfl,B⟩:=e;exact G i x d f _ (λo h l=>∃t,t<xs.length-i/\(t=xs.length-(i+1)/\i+1<=xs.length/\k (i+1) o h l)) (λo h l A=>⟨xs.length-(i+1),by lia,rfl,r,A⟩) B pv
 .have e:i=xs.length:=by lia
  subst e;refine .inl ⟨?_,D d f H pv⟩;cases c
  .exact⟨xs,q,aJ _⟩
  .exact⟨xs,q,aJ _⟩
def kj{lo:Int}{n:Nat}{Q:VK}{g:TG}(p:Nat->List V->St->Hp->Prop)(A:p 0 [] c d)(C:∀(i:Nat) (j:List V) (l:St) (H:Hp) (N:List V->St->Hp->Prop),(∀r k q,p (i+1) r k q->N r k q)->i<n->p i j l H->g (.int (lo+i)) l H λo B=>h o B λb t=>
 if b=true then f o t λy v=>v a=some (.lst j)/\j.length<sizeLine/\N (j++[y]) o (upd v a (.lst (j++[y])))else N j o t)(z:∀j l H,p n j l H->Q (.ref a) H):ue (WO lo n) a Q g h f c d:=by
 refine⟨λi m j l H=>m=n-i/\i<=n/\p i j l H,⟨n,by simp,cg _,A⟩,?_⟩;rintro i m j l H ⟨rfl,D,pv⟩;by_cases s:i<n
 .refine .inr ⟨s,λx q y=>?_⟩;obtain⟨rfl,rfl⟩:=y;exact C i j l _ (λr k q=>∃u,u<n-i/\(u=n-(i+1)/\i+1<=n/\p (i+1) r k q)) (λr k q w=>⟨n-(i+1),by lia,rfl,s,w⟩) s pv
 .have e:i=n:=by lia
  subst e;exact .inl ⟨aJ _,z j l H pv⟩
def PB:bootBuiltins "tuple"=some (.type "tuple"):=by decide +kernel
def Ev(K:hO)(h:a.K=K):lx a (.type "tuple") (λc H Q=>∃p b,c=[.ref p]/\((ι K H p b/\∀l,H l=none->Q (.ref l) (upd H l (.tup b)))\/(Α K H p b/\Q (.ref p) H))):=by subst h;exact gi
def oW(K:hO)(h:a.K=K):Xk a (DC K):=by subst h;exact bu
def Jw(K:hO)(h:a.K=K):Xk a (Lf K):=by subst h;exact eM
theorem C0 :∀{l:List (Str×NameKind)},l.lookup a=some b->∃y,(y,b)∈l
 | [],h=>by simp at h
 | (n,j)::r,h=>by
   rw[cW]at h;cases q:a==n with
   | true=>
     rw[q]at h;cases h;exact⟨n,aL⟩
   | false=>
     rw[q]at h;obtain⟨y,c⟩:=C0 h;exact⟨y,aI _ c⟩
def l9(own:Nat)(g:∀y∈a.names,y.2≠.free)(m:∀y∈a.names,y.2≠.cell)(hk:a.kind=.function)(hn:∀y∈a.names,y.2=.local->a.names.lookup y.1=some .local)(hl:Nc.length=own):ϩ b Nc own [] a [] where
 YT:=closureFor_none g
 kind:=hk
 U5:=m
 names:=hn
 cells:=λx c h=>by cases h
 has:=λx h=>by
  have d:∀k,(relabel a b.env).names.lookup x=some k->k≠.cell/\k≠.free:=λk e=>by
   obtain⟨y,o⟩:=C0 e;obtain⟨⟨n,k0⟩,j,l⟩:=aZ.mp o;have f:=g _ j;have q:=m _ j;have p:(k0==NameKind.free)=false:=(by simpa using f);simp only[p,gh,dL,if_false]at l;cases l;exact⟨q,f⟩
  rcases h with h|h
  .exact absurd rfl (d _ h).1
  .exact absurd rfl (d _ h).2
 len:=by simpa using hl
 outer:=λi x h=>by
  rw[bW (by lia)]at h;cases h
def uV{K:hO}{a:Addr}{xs:List V}{g:TG}{f:TS}{D:Ends}{b:St}{H:Hp}(c:Nat->St->Hp->Prop)(l:c 0 b H)(o:∀i b H,i<=xs.length->c i b H->ι K H a xs)(n:∀(i:Nat) (x:V) (b:St) (H:Hp) (N:St->Hp->Prop),(∀d h,c (i+1) d h->N d h)->xs[i]?=some x->c i b H->g x b H λe m=>f { D with nx:=N,ct:=N,bk:=D.nx } e m)(k:∀b H,c xs.length b H->D.nx b H):va (X0 K a) D g f b H:=OE c l o (λi x b H j p=>n i x b H (c (i+1)) (λ_ _ z=>z) j p) k
def G5{K:hO}{a:Addr}{xs:List V}{g:TG}{f:TS}{D:Ends}{b:St}{H:Hp}(c:Nat->St->Hp->Prop)(l:c 0 b H)(o:∀i b H,i<=xs.length->c i b H->Α K H a xs)(n:∀(i:Nat) (x:V) (b:St) (H:Hp) (N:St->Hp->Prop),(∀d h,c (i+1) d h->N d h)->xs[i]?=some x->c i b H->g x b H λe m=>f { D with nx:=N,ct:=N,bk:=D.nx } e m)(k:∀b H,c xs.length b H->D.nx b H):va (YB K a) D g f b H:=En c l o (λi x b H j p=>n i x b H (c (i+1)) (λ_ _ z=>z) j p) k
def Cv{lo:Int}{n:Nat}{g:TG}(e:Nat->St->Hp->Prop)(o:e 0 a b)(q:∀(i:Nat) (a:St) (b:Hp) (N:St->Hp->Prop),(∀f j,e (i+1) f j->N f j)->i<n->e i a b->g (.int (lo+i)) a b λh k=>d { c with nx:=N,ct:=N,bk:=c.nx } h k)(m:∀a b,e n a b->c.nx a b):va (WO lo n) c g d a b:=MR e o (λi a b l p=>q i a b (e (i+1)) (λ_ _ z=>z) l p) m
def Ej(W:Nat->St->Hp->Prop)(l:Nat)(o:W l a c)(p:∀(n:Nat) (a:St) (c:Hp) (N:St->Hp->Prop),(∀j g h,j<n->W j g h->N g h)->(∀g h,N g h->∃i,i<n/\W i g h)->W n a c->f a c λb k=>if b=true then ∃N:St->Hp->Prop,(∀g h,N g h->∃i,i<n/\W i g h)/\e { d with nx:=N,ct:=N,bk:=d.nx } a k else d.nx a k):GQ f e d a c:=⟨W,⟨l,o⟩,λn a c w=>p n a c (λg h=>∃i,i<n/\W i g h) (λj _ _ q m=>⟨j,q,m⟩) (λ_ _ z=>z) w⟩
def p60:(0:Int)<10^(60:Int).toNat:=dI (by decide)
def zu(h:a.natAbs<2^b):Builtin.Int.intBits a<=b:=by
 unfold Builtin.Int.intBits;by_cases z:a=0
 .subst z;simp
 .have hz:(a==0)=false:=by simpa using z
  rw[hz];simp only[dL,if_false];have:=(lW (by lia)).mpr h
  lia
def Ru(c:a.natAbs<2^4000)(d:b.natAbs<2^4000):IntMulOk a b:=IntMulOk.of_bits (aW (zu c) (by decide)) (aW (zu d) (by decide))
open Pb
def tm(r:Road):List V:=[.int r.a,.int r.b,.int r.t,.int r.u]
abbrev ν(H:Hp):List Addr->List Road->Prop:=Paired λp r=>H p=some (.tup (tm r))
def ν.same(e:δ H a)(h:ν H b c):ν a b c:=Paired.imp' (λp r q=>e p _ q) h
theorem ν.get :∀{d:hR}{f:ix}{i:Nat}{x:V},ν c d f->(d.map V.ref)[i]?=some x->∃p r,x=.ref p/\d[i]?=some p/\f[i]?=some r/\c p=some (.tup (tm r))
 | _,_,i,x,.nil,e=>by simp at e
 | _,_,0,x,.cons (a:=p) (b:=r) h hs,e=>⟨p,r,by simpa using e.symm,by simp,by simp,h⟩
 | a::l1,_,i+1,x,.cons h hs,e=>by
   have m:(List.map V.ref l1)[i]?=some x:=by simpa using e
   obtain⟨p,r,j,k,g,l⟩:=ν.get hs m;exact⟨p,r,j,by simpa using k,by simpa using g,l⟩
def δ.tup{K:hO}{H b:Hp}{a:Addr}{xs:List V}(e:δ H b)(h:Α K H a xs):Α K b a xs:=by
 rcases h with(h|⟨o,h⟩)|h
 .exact .inl (.inl (e _ _ h))
 .exact .inl (.inr ⟨o,e _ _ h⟩)
 .exact .inr h
def δ.ϫ{K:hO}{H b:Hp}{c:Bool}{a:Addr}{d:List V}(e:δ H b)(h:Ω K c H a d):Ω K c b a d:=by
 cases c
 .exact δ.tup e h
 .exact δ.seq e h
def δ.new(o:HO)(h:a c=none):δ a (upd a c o):=λb u e=>by rw[aM (cD e h)];exact e
end L2
namespace L2
open PySem PySem.Spec PyProof.Rows
abbrev Wm:List Value:=[.type "ValueError",.type "Exception",.type "BaseException",.type "object"]
structure Wn(K:hO)(C:Addr):Prop where
 ty:PySem.W.typeIn K (.ref C)=some (.type "type")
 ga:PySem.W.findIn K (.ref C) "__getattribute__"=some (some (.builtin "BaseException.__getattribute__"))
 gt:PySem.W.findIn K (.ref C) "__getattr__"=some none
 cl:PySem.W.findIn K (.ref C) "__class__"=some (some (.builtin "object.__class__"))
 gs:PySem.W.specialIn K (.builtin "object.__class__") "__get__"=some (some (.builtin "getset_descriptor.__get__"))
 tk:PySem.W.takesIn K (.builtin "object.__class__")=some true
 mo:PySem.W.mroIn K C (.type "object")=some true
 mb:PySem.W.mroIn K C (.type "BaseException")=some true
 hd:PySem.W.hasDictIn K C=true
 sf:PySem.W.mroIn K C (.ref C)=some true
def qN(h:Heap)(e:Addr)(cls:Value)(d:Option Addr)(a:Value):Prop:=∃b c,h.get? e=some b/\b.cls=cls/\b.dict=d/\b.data=.fields c/\c[1]?=some a/\c[2]?=some .none
def TbO(h:Heap)(T:Addr)(c:Value):Prop:=∃b a,h.get? T=some b/\b.data=.fields a/\a[3]?=some c
structure Wo(h:Heap)(ea T:Addr)(cls:Value)(od:Option Addr)(fl:Value):Prop where
 e:qN h ea cls od (.ref T)
 t:TbO h T fl
 ne:T≠ea
structure Kept(fs xs:hR)(h h':Heap):Prop where
 keep:∀b o,h.get? b=some o->b∉fs->b∉xs->h'.get? b=some o
 slot:∀b o,h.get? b=some o->b∈fs->b∉xs->∃sl,h'.get? b=some { o with slots:=sl }
 there:∀b o,h.get? b=some o->∃o',h'.get? b=some o'
def Kept.mono(k:Kept a g h d)(s:∀b∈g,b∈c):Kept a c h d:=⟨λb o e f x=>k.keep b o e f λz=>x (s b z),λb o e f x=>k.slot b o e f λz=>x (s b z),k.there⟩
def Kept.trans(a:Kept g d j h)(b:Kept g d h i):Kept g d j i where
 keep:=λc o e f x=>b.keep c o (a.keep c o e f x) f x
 slot:=λc o e f x=>by
  obtain⟨s1,k⟩:=a.slot c o e f x;obtain⟨m,n⟩:=b.slot c _ k f x;exact⟨m,n⟩
 there:=λc o e=>by
  obtain⟨l,k⟩:=a.there c o e;exact b.there c l k
def Kept.Y1(k:∀b o,c.get? b=some o->a.get? b=some o):Kept d f c a:=⟨λb o e _ _=>k b o e,λb o e _ _=>⟨o.slots,k b o e⟩,λb o e=>⟨o,k b o e⟩⟩
def AM(m:c.get? a=some f)(n:f.data=.fields i)(l:a∈d):Kept j d c (c.update a (Obj.mapFields (·.setIfInBounds g h))):=by
 have k:∀b o,c.get? b=some o->b∉d->(c.update a (Obj.mapFields (·.setIfInBounds g h))).get? b=some o:=λb o e x=>by
  rw[dR _ _ (λ(z:a=b)=>x (z▸l))];exact e
 refine⟨λb o e _ x=>k b o e x,λb o e _ x=>⟨o.slots,k b o e x⟩,λb o e=>?_⟩;by_cases z:b=a
 .subst z;exact⟨_,fF _ m (iq (eZ n _))⟩
 .rw[dR _ _ (Ne.symm z)];exact⟨o,e⟩
def NS(e:qN g a b f i):qN (g.update a (Obj.mapFields (·.setIfInBounds 1 h))) a b f h:=by
 obtain⟨n,p,m,q,o,j,r,s⟩:=e;have k:1<p.size:=(gS.mp r).1;refine⟨_,_,fF _ m (iq (eZ j _)),?_,?_,eZ j _,by simp[k],by rw[Array.getElem?_setIfInBounds_ne (by decide)];exact s⟩
 .rw[<-q];exact Obj.cls_mapFields _ _
 .rw[<-o];obtain⟨c,d,l,t⟩:=n;cases l<;>rfl
def B7(e:qN g a b c d)(ne:f≠a):qN (g.update f h) a b c d:=by
 obtain⟨l,i,k,j⟩:=e;exact⟨l,i,by rw[dR _ _ ne];exact k,j⟩
def E1(e:qN g a b c d)(k:∀o,g.get? a=some o->f.get? a=some o):qN f a b c d:=by
 obtain⟨l,h,j,i⟩:=e;exact⟨l,h,k _ j,i⟩
def Nq(e:qN d a c h i)(f:d.FunFrames b g):a∉ϧ g:=λz=>by
 obtain⟨p,k,n,_,_,l,_⟩:=e;obtain⟨_,o,j,m⟩:=f.mem z;rw[n]at j;cases j;exact m k l
def OL(e:TbO d b g)(f:d.FunFrames a c):b∉ϧ c:=λz=>by
 obtain⟨m,i,l,j,_⟩:=e;obtain⟨_,o,h,k⟩:=f.mem z;rw[l]at h;cases h;exact k i j
def zE(r:Wo s.heap a c b d f)(h:∀m,Wo m a c b d .none->Kept fs [c] s.heap m->e () { s with heap:=m }):wpAny j i (setFlight (.ref a) none) e g s:=by
 obtain⟨⟨u,x,o,y,w,p,q,z⟩,⟨A,t,l,k,v⟩,ne⟩:=r;have n:3<t.size:=(gS.mp v).1;unfold setFlight;refine ao (cT o p q ?_);rw[aj (by simp:(Value.ref c != Value.none)=true)];refine iZ l k n (h _ ⟨B7 ⟨u,x,o,y,w,p,q,z⟩ ne,⟨_,_,fF _ l (iq (eZ k _)),eZ k _,by simp[n]⟩,ne⟩ (AM l k (by simp)))
def GI{A:Around}{s:Shared}{Q:Unit->Shared->Prop}(J:A.frames=some (d::g))(H:s.heap.FunFrames p (d::g))(K:d.frame=some j)(r:qN s.heap c i l m)(h:∀y D,Wo y c D i l (rawInt j)->Kept (ϧ (d::g)) [c] s.heap y->s.heap.get? D=none->Q () { s with heap:=y }):wpAny q A (do let a <-frameOf d;let v <-entryPlaceOf j n;let b <-EntryCells.newEntry k a .none (rawInt j) .none v;setField (.ref c) 1 b) Q t s:=by
 have N:=Nq r H;refine ao (wpAny_frameOf_fun J H K λu w=>ao (wpAny_entryPlaceOf λv L=>?_));unfold EntryCells.newEntry newFields;refine ao (fA ?_ (L.sizeOk5 _ _ _ _ _));have G:qN u c i l m:=E1 r λo e=>(w.2.1 c N).trans e;generalize B:({ cls:=.type "traceback",dict:=none,data:=.fields ([k,.ref j,.none,rawInt j,.none]++(if v.isEmpty then List.replicate 6 Value.none else v)).toArray }:Obj)=x;have F:qN (u.push x) c i l m:=E1 G λo e=>aB _ e;obtain⟨T,O,C,P,S,E,M,U⟩:=id F;have lt:c<u.objs.size:=by
  obtain⟨_,_,e,_⟩:=G;exact aK e
 have I:(u.push x).get? u.objs.size=some x:=bc u (by rw[<-B];rfl);refine iZ C E (gS.mp M).1 (h _ u.objs.size ⟨NS F,⟨x,([k,.ref j,.none,rawInt j,.none]++(if v.isEmpty then List.replicate 6 Value.none else v)).toArray,?_,by rw[<-B],by simp⟩,eC lt⟩ ?_ ?_)
 .rw[dR _ _ (aV lt)];exact I
 .have k1:Kept (ϧ (d::g)) [c] s.heap u:=⟨λb o e f _=>(w.2.1 b f).trans e,λb o e _ _=>w.2.2 b o e,λb o e=>by
   obtain⟨R,z⟩:=w.2.2 b o e;exact⟨_,z⟩⟩
  exact k1.trans ((Kept.Y1 λb o e=>aB _ e).trans (AM C E (by simp)))
 .exact Heap.get?_none_of_le (by rw[w.1];exact aJ _)
def OW{A:Around}{s:Shared}{Q:Unit->Shared->Prop}(n:A.frames=some (a::b))(t:s.heap.FunFrames f (a::b))(l:a.frame=some g)(r:qN s.heap c d e .none)(h:∀k m,Wo k c m d e (rawInt g)->Kept (ϧ (a::b)) [c] s.heap k->s.heap.get? m=none->Q () { s with heap:=k }):wpAny j A (noteFrame (.ref c) a) Q i s:=by
 obtain⟨v,w,p,x,u,o,q,y⟩:=id r;unfold noteFrame;simp only[l];refine ao (cT p o q ?_);rw[ah (by decide)];exact GI n t l r h
def Jk{A:Around}{s:Shared}{Q:Unit->Shared->Prop}(D:A.frames=some (a::c))(C:s.heap.FunFrames j (a::c))(x:a.frame=some k)(r:Wo s.heap d f g i .none)(h:∀u p,Wo u d p g i (rawInt k)->Kept (ϧ (a::c)) [d,f] s.heap u->s.heap.get? p=none->Q () { s with heap:=u }):wpAny l A (noteFrame (.ref d) a) Q m s:=by
 have N:=OL r.t C;obtain⟨⟨S,O,E,P,R,I,J,T⟩,⟨M,H,v,w,B⟩,ne⟩:=id r;unfold noteFrame;simp only[x];refine ao (cT E I J ?_);rw[aj (by simp:(Value.ref f != Value.none)=true)];refine ao (cT v w B ?_);rw[ah (by simp[rawInt])];have y:Kept (ϧ (a::c)) [d,f] s.heap (s.heap.update f (Obj.mapFields (·.setIfInBounds 3 Value.none))):=AM v w (by simp);refine ao (iZ v w (gS.mp B).1 ?_);refine GI D (C.of_keeps λb o e K=>⟨o,?_,rfl⟩) x (B7 r.e ne) λu p F G n=>h u p F (y.trans (G.mono (by simp))) ?_
 .by_cases z:b=f
  .subst z;rw[v]at e;cases e;exact absurd w (K H)
  .rw[dR _ _ (Ne.symm z)];exact e
 .cases q:s.heap.get? p with
  | none=>rfl
  | some o=>
    obtain⟨L,z⟩:=y.there p o q;rw[z]at n;cases n
def L7{A:Around}{s:Shared}{Q:Unit->Shared->Prop}(u:A.frames=some (a::c))(F:s.heap.FunFrames base (a::c))(w:a.frame=some k)(r:qN s.heap d g i .none)(h:∀m t,Wo m d t g i .none->Kept (ϧ (a::c)) [d] s.heap m->s.heap.get? t=none->Q () { s with heap:=m }):wpAny j A (leaving a (.ref d)) Q l s:=by
 unfold leaving;refine ao (OW u F w r λv D C p n=>zE (fs:=ϧ (a::c)) (s:={ s with heap:=v }) C λE B q=>h E D B ⟨λb o e f x=>q.keep b o (p.keep b o e f x) f ?_,λb o e f x=>?_,λb o e=>?_⟩ n)
 .simp only[aG];rintro rfl;rw[n]at e;cases e
 .obtain⟨s1,e1⟩:=p.slot b o e f x;obtain⟨z,y⟩:=q.slot b _ e1 f (by
   simp only[aG];rintro rfl;rw[n]at e;cases e)
  exact⟨z,y⟩
 .obtain⟨o1,e1⟩:=p.there b o e;exact q.there b o1 e1
def NK{A:Around}{s:Shared}{Q:Unit->Shared->Prop}(v:A.frames=some (a::c))(G:s.heap.FunFrames base (a::c))(y:a.frame=some l)(r:Wo s.heap d j g i .none)(h:∀n u,Wo n d u g i .none->Kept (ϧ (a::c)) [d,j] s.heap n->s.heap.get? u=none->Q () { s with heap:=n }):wpAny k A (leaving a (.ref d)) Q m s:=by
 unfold leaving;refine ao (Jk v G y r λw E D q p=>zE (fs:=ϧ (a::c)) (s:={ s with heap:=w }) D λF C t=>h F E C ⟨λb o e f x=>t.keep b o (q.keep b o e f x) f ?_,λb o e f x=>?_,λb o e=>?_⟩ p)
 .simp only[aG];rintro rfl;rw[p]at e;cases e
 .obtain⟨s1,e1⟩:=q.slot b o e f x;obtain⟨B,z⟩:=t.slot b _ e1 f (by
   simp only[aG];rintro rfl;rw[p]at e;cases e)
  exact⟨B,z⟩
 .obtain⟨o1,e1⟩:=q.there b o e;exact t.there b o1 e1
def τ(P:Program)(w:World):Th:=λa H s E e d=>∃(f T:Addr)(b:Value)(g:Option Addr)(c:Hp),e=.ref f/\d.os=s.os/\AllBare d.gens/\Un (ϧ a) [] H c s.heap d.heap/\ϰ P w c d.heap/\c f=none/\c T=none/\s.heap.get? f=none/\s.heap.get? T=none/\Wo d.heap f T b g .none/\E b g c
def bz :bI (τ a b):=λc H s e d h=>by
 obtain⟨_,_,_,_,_,_,_,_,_,_,_,_,_,_,_,z⟩:=h;exact z
def Bs(x:ϰ i l c j)(k:Kept g d j h)(f:∀b∈g,c b=none)(u:∀b∈d,c b=none):ϰ i l c h:=λa o e=>by
 refine(x a o e).lE (λb m hb q=>k.keep b m q ?_ ?_) (λ_ q=>q) λ_ _ q=>q
 .intro z;rcases hb with rfl|hb
  .rw[f _ z]at e;cases e
  .rw[f _ z]at hb;cases hb
 .intro z;rcases hb with rfl|hb
  .rw[u _ z]at e;cases e
  .rw[u _ z]at hb;cases hb
def F2(x:ϰ d g c b)(n:b.get? a=none):c a=none:=by
 cases q:c a with
 | none=>rfl
 | some o=>
   have lt:=x.lt q;cases z:b.get? a with
   | some o'=>rw[z]at n;cases n
   | none=>
     exfalso
     have:=(x a o q);cases o with
     | lst xs=>obtain⟨_,_,_,_,e⟩:=this;rw[n]at e;cases e
     | tup xs=>obtain⟨_,_,_,h,e,_⟩:=this;rw[n]at e;cases e
     | dK ρ=>obtain⟨_,_,_,_,h,_,_,e,_⟩:=this;rw[n]at e;cases e
     | dT ρ=>obtain⟨_,_,_,_,h,_,_,e,_⟩:=this;rw[n]at e;cases e
     | set S m=>obtain⟨h,_,_,_,e,_⟩:=this;rw[n]at e;cases e
     | ins C dx fs=>obtain⟨_,_,_,e,_⟩:=this;rw[n]at e;cases e
     | own y=>obtain⟨_,e⟩:=this;rw[n]at e;cases e
     | xd fs=>obtain⟨_,⟨_,_,_,e,_⟩,_⟩:=this;rw[n]at e;cases e
     | ϓ lo hi=>obtain⟨_,_,_,e⟩:=this;rw[n]at e;cases e
     | U0 h u=>obtain⟨e,_⟩:=this;rw[n]at e;cases e
     | XW ps=>have e:b.get? a=some _:=this;rw[n]at e;cases e
     | met f y=>have e:b.get? a=some _:=this;rw[n]at e;cases e
     | ext φ=>obtain⟨_,⟨_,e⟩,_⟩:=this;rw[n]at e;cases e
def Gh{P:Program}{w:World}{K:hO}{x:hU}{base:Heap}{N:hX}{d:Str}{c:Scope}{f:Addr}{cd:Value}{A:Around}{a:List Env}{s:Shared}{H:Hp}{E:XK}{v:Th}{i:hP}{t:St}{q:Hp}{l:Shared}{r:Heap}{p:hR}(J:Inv (sF v P w K x base N d c f cd A a s H E) i t q l)(k:Kept (ϧ (envOfC d c s.heap.objs.size f cd::a)) p l.heap r)(u:∀b∈p,s.heap.get? b=none):Un (ϧ a) [] H q s.heap r:=by
 have g:Un (ϧ a) [] H q s.heap l.heap:=J.base;have nl:∀b o,s.heap.get? b=some o->b∉p:=λb o e z=>by rw[u b z]at e;cases e
 have y:∀b o,s.heap.get? b=some o->b∉ϧ a->b∉ϧ (envOfC d c s.heap.objs.size f cd::a):=λb o e z m=>by
  unfold ϧ at m z;rw[i6]at m;have:(envOfC d c s.heap.objs.size f cd).frame=some s.heap.objs.size:=rfl;rw[this]at m;rcases aF.mp m with m|m
  .exact absurd (aK e) (by rw[m];exact cV _)
  .exact z m
 refine⟨λb o e n j h=>k.keep b o (g.keep b o e n j h) (y b o e j) (nl b o e),λb o e n j h=>?_,g.free,λb o e h=>?_,g.lT,g.gE,g.nE⟩
 .obtain⟨sl,e1⟩:=g.slot b o e n j h;by_cases m:b∈ϧ (envOfC d c s.heap.objs.size f cd::a)
  .obtain⟨s2,e2⟩:=k.slot b _ e1 m (nl b o e);exact⟨s2,e2⟩
  .exact⟨sl,k.keep b _ e1 m (nl b o e)⟩
 .obtain⟨o1,e1⟩:=g.there b o e h;exact k.there b o1 e1
def rg{P:Program}{w:World}{K:hO}{m:hU}{base:Heap}{N:hX}{d:Str}{c:Scope}{f:Addr}{cd:Value}{A:Around}{a:List Env}{s:Shared}{H:Hp}{E:XK}{k:Th}{g:hP}{j:St}{i:Hp}{h:Shared}(J:Inv (sF k P w K m base N d c f cd A a s H E) g j i h){b:Addr}(n:h.heap.get? b=none):s.heap.get? b=none:=by
 cases q:s.heap.get? b with
 | none=>rfl
 | some o=>
   have l:Un (ϧ a) [] H i s.heap h.heap:=J.base;obtain⟨p,e⟩:=l.there b o q (by simp);rw[n]at e;cases e
def bT{P:Program}{w:World}{K:hO}{C:hU}{base:Heap}{N:hX}{d:Str}{a:Scope}{f:Addr}{cd:Value}{A:Around}{c:List Env}{s:Shared}{H:Hp}{E:XK} :pJ (τ P w) (sF (τ P w) P w K C base N d a f cd A c s H E) E:=by
 intro n D M G e F I h;obtain⟨v,T,j,r,o,rfl,os,bare,x,g,m,B,p,y,u,q⟩:=h;have J:=I.V8 (ch:=[]) os x g bare (by simp);refine NK (base:=base) J.ok.frames J.stack rfl u λL t i k l=>?_;have z:∀b∈ϧ (envOfC d a s.heap.objs.size f cd::c),o b=none:=J.oR;refine⟨v,t,j,r,o,rfl,J.os,J.bare,Gh J k ?_,Bs g k z ?_,m,F2 g l,rg I p,rg J l,i,q⟩
 .intro b hb;simp only[aF,fP,or_false]at hb;rcases hb with rfl|rfl
  .exact rg I p
  .exact rg I y
 .intro b hb;simp only[aF,fP,or_false]at hb;rcases hb with rfl|rfl
  .exact m
  .exact B
def LO(X:Cx)(E:XK):Prop:=∀(a:hP)(g:St)(H:Hp)(s:Shared)(e:Addr)(c:Value)(f:Option Addr)(d:Heap)(h:Nat),Inv X a g H s->(∀b o,s.heap.get? b=some o->d.get? b=some o)->s.heap.get? e=none->qN d e c f .none->E c f H->X.xe (.ref e) { s with heap:=d,toks:=h }
def tK{P:Program}{w:World}{K:hO}{v:hU}{base:Heap}{N:hX}{d:Str}{a:Scope}{f:Addr}{cd:Value}{A:Around}{c:List Env}{s:Shared}{H:Hp}{E:XK} :LO (sF (τ P w) P w K v base N d a f cd A c s H E) E:=by
 intro l x j y p h m z r I t e o q;have J:=I.kept (t':=r) t;refine L7 (base:=base) J.ok.frames J.stack rfl o λB n g k i=>?_;have u:∀b∈ϧ (envOfC d a s.heap.objs.size f cd::c),j b=none:=J.oR;refine⟨p,n,h,m,j,rfl,J.os,J.bare,Gh J k ?_,Bs J.Β k u ?_,F2 I.Β e,F2 J.Β i,rg I e,rg J i,g,q⟩
 .intro b hb;rw[aG.mp hb];exact rg I e
 .intro b hb;rw[aG.mp hb];exact F2 I.Β e
def BM(K:hO)(C:Addr):Prop:=∃(e o:Str)(N:Addr)(j d:hT)(a:Bool)(g:hX)(b:hT)(k:Bool)(c:Option Bool)(l:Option Addr)(m f h i n:Option Value),K.lookup C=some (excClassObj e o C N j d a g b k c l m f h i n "ValueError.__new__")/\PySem.W.nsOkIn K N=true/\PySem.W.nsIn K N "__init__"=some none/\PySem.W.tailIn K Wm d=true
def QS{K:hO}(k u:Str)(N:Addr)(r j:hT)(g:Bool)(v:hX)(h:hT)(m:Bool)(i:Option Bool)(n:Option Addr)(o p q s t:Option Value)(l:K.lookup d=some f)(e:f=excClassObj k u d N r j g v h m i n o p q s t "ValueError.__new__")(a:PySem.W.nsOkIn K N=true)(b:PySem.W.nsIn K N "__init__"=some none)(c:PySem.W.tailIn K Wm j=true):BM K d:=by
 subst e;exact⟨_,_,_,_,_,_,_,_,_,_,_,_,_,_,_,_,l,a,b,c⟩
def Nf(C:Addr)(E:XK)(t:TA):TS:=λ_ b H=>t b H λc a=>c.length<=sizeLine/\E (.ref C) none a
def qZ{X:Cx}{x:Str}{G:Pos}{d:Pos}{f:Pos}{c:Expr}{b:List Expr}{t:TA}{C:Addr}{E:XK}(q:BM X.K C)(Q:X.calm=true)(O:LO X E)(S:Gl X x)(u:X.mg x=some (.ref C))(T:PA X (c::b) t)(hdb:(x==("__debug__":Str))=false:=by decide)(l:starEach (c::b) X.env=(false,eval c X.env)::starEach b X.env:=by rfl)(L:(backTo d (starEach b X.env)).any (·.1)=false:=by rfl):PS X (.Raise (some (.Call (.Name x G) (c::b) [] d)) none f) (Nf C E t):=by
 intro a s i H D I h;obtain⟨nm,P,N,bs,bm,hdct,sn,sub,ab,col,dd,k0,k1,k2,k3,k5,r,k,y,p⟩:=q;have B:=I.mod.Yv;have n:=PySem.W.tail_of_in B p;have w:X.base.Ns N (X.base.nsMap N):=.of_isNs (PySem.W.isNs_of_in B k);have M:(backTo d (starEach (c::b) X.env)).any (·.1)=false:=by
  rw[l];show(false||(backTo d (starEach b X.env)).any (·.1))=false;rw[L]
  rfl
 refine wpAny_Raise_call_subT (C:=C) (nm:=nm) (q:=P) (N:=N) (bs:=bs) (bm:=bm) (hdct:=hdct) (sn:=sn) (sub:=sub) (ab:=ab) (col:=col) (dd:=dd) (k0:=k0) (k1:=k1) (k2:=k2) (k3:=k3) (k5:=k5) PySem.F.excBase_ValueError
  (n.hasType (by decide +kernel)) (I.ok.hd Q) M (PySem.W.nsMap_none_of_in B k y) (tQ I S u ⟨rfl,?_⟩ hdb)
 have g:=T d a s i H _ I h;rw[l]at g ⊢;refine j4 (ϕ g λz j ⟨V,A,e,R,o⟩=>⟨rfl,by show z.length<=_;rw[<-R.length];exact o.1,e.bk _ _ (B _ _ r),w.keeps e.bk,n.keeps e.bk,λv J m=>?_⟩);obtain⟨Y,U,_,_⟩:=m.there;exact O a i A j J (.ref C) none v j.toks e m.keeps m.new ⟨_,_,U,rfl,rfl,rfl,rfl,rfl⟩ o.2
def XP(CX:Th)(X:Cx)(a:hP)(b:St)(E:XK)(e:Value)(c:Shared):Prop:=∃H s,Inv X a b H s/\CX X.stack H s E e c
def PEx(c:Th)(X:Cx)(e:Expr)(t:XK->TE):Prop:=∀(E:XK)(a:hP)(s:Shared)(b:St)(H:Hp)(Q:VK),Inv X a b H s->t E b H Q->wpAny (model X.prog X.w) X.A (eval e X.env) (EP X a b Q) (XP c X a b E) s
abbrev XS(c:Th)(X:Cx)(a:hP)(d:St->XK)(e:Value)(f:Shared):Prop:=∃b,XP c X a b (d b) e f
def PSx(d:Th)(X:Cx)(st:Stmt)(t:(St->XK)->TS):Prop:=∀(c:St->XK)(a:hP)(s:Shared)(b:St)(H:Hp)(D:Ends),Inv X a b H s->t c D b H->wpAny (model X.prog X.w) X.A (exec st X.env) (SP X a D) (XS d X a c) s
def RQ(d:Th)(X:Cx)(st:List Stmt)(t:(St->XK)->TS):Prop:=∀(c:St->XK)(a:hP)(s:Shared)(b:St)(H:Hp)(D:Ends),Inv X a b H s->t c D b H->wpAny (model X.prog X.w) X.A (execs st X.env) (SP X a D) (XS d X a c) s
def O8{y:Th}{X:Cx}{k:Nat}{f:Addr}{v:FuncData}{n:hX}{D:Sp}{j:List V}{d:hT}{x:Str}{p:Pos}{a:Pos}{e:Expr}{b:List Expr}{t:TA}(F:ϋ X.prog X.w X.K X.mg X.base y k f v n D)(U:Ρ k X.A)(T:Gl X x)(O:X.mg x=some (.ref f))(S:PySem.W.keepIn X.K (.ref f)=true)(M:Binds X.K v n d)(N:Vals j d)(Y:PA X.Xh (e::b) t)(l:(x==("__debug__":Str))=false:=by decide)(R:starEach (e::b) X.env=(false,eval e X.env)::starEach b X.env:=by rfl)(P:(backTo a (starEach b X.env)).any (·.1)=false:=by rfl):PEx y X (.Call (.Name x p) (e::b) [] a) (λE=>sj D j E t):=by
 intro E g s L H Q I h;refine hJ (tQ I T O ?_ l);refine i5 (h₀:=X.base) I.ok.mod.Yv S (db (Y a g s L H _ (I.wish _) h) (λc m ⟨B,C,o,r,q⟩=>⟨o.Ϝ.oK,?_⟩) λ_ _ z=>False.elim z) R P;have J:=o.Ϝ;have G:Vals (B++j) (c++d):=r.append N;have Z:(c++d).length=n.length:=by rw[<-G.length];exact F.len _ _ _ _ q
 refine mq (jq (F.run X.A X.stack m C ⟨c,[]⟩ (c++d) (B++j) Q E U J.YD (M m c J.oK Z) G q) λr s' i=>?_);cases r with
 | error e=>exact⟨C,m,J,i⟩
 | ok fl=>
   cases fl with
   | ret u=>exact J.after i
   | next=>exact False.elim i
   | brk=>exact False.elim i
   | cont=>exact False.elim i
def Qg(l:PEx a e b c):PSx a e (.Return (some b) d) (λi D f H=>c (i f) f H D.rt):=by
 intro i g s f H D I h;exact wpAny_Return_some (db (l (i f) g s f H _ I h) (λv p ⟨x,k,j,m,n⟩=>⟨x,f,k,j,m,n⟩) λb o z=>⟨f,z⟩)
def OA{b:Th}{X:Cx}{st:Stmt}{c:(St->XK)->TS}(g:PSx b X st c):RQ b X [st] c:=by
 intro e a s d H D I h;refine lD (ϕ (g e a s d H D I h) λf i q=>?_);cases f with
 | next=>exact gV q
 | ret v=>exact q
 | brk=>exact q
 | cont=>exact q
abbrev Cx.held(X:Cx)(e:Value):Cx:={ X with A:=X.A.mark (some e),calm:=false }
def Cx.Ok.held{X:Cx}(a:X.Ok)(e:Value):(X.held e).Ok:=⟨a.mod,a.kind,a.glob,a.blt,a.above,a.inj,a.has,a.XX,(λz=>nomatch z),a.frames,a.Yw,a.Z0,a.bs,a.V7,a.Uv,a.T7,a.gT,a.WN⟩
def Cx.Ok.U9{X:Cx}(b:(X.held a).Ok)(c:X.calm=true->X.A.handled=none):X.Ok:=⟨b.mod,b.kind,b.glob,b.blt,b.above,b.inj,b.has,b.XX,c,b.frames,b.Yw,b.Z0,b.bs,b.V7,b.Uv,b.T7,b.gT,b.WN⟩
def Inv.held{X:Cx}{a:hP}{b:St}{H:Hp}{s:Shared}(I:Inv X a b H s)(e:Value):Inv (X.held e) a b H s:=⟨I.ok.held e,I.os,I.bare,I.base,I.loc,I.cell,I.free,I.ϔ,I.pin,I.Β,I.len⟩
def Inv.U9{X:Cx}{a:hP}{b:St}{H:Hp}{s:Shared}{e:Value}(I:Inv (X.held e) a b H s)(c:X.calm=true->X.A.handled=none):Inv X a b H s:=⟨I.ok.U9 c,I.os,I.bare,I.base,I.loc,I.cell,I.free,I.ϔ,I.pin,I.Β,I.len⟩
def Inv.moved{X:Cx}{a:hP}{L:St}{H:Hp}{s:Shared}{D:hR}{B:Heap}{tk:Nat}(I:Inv X a L H s)(k:Kept (ϧ X.stack) D s.heap B)(j:∀b∈D,H b=none/\X.s₀.heap.get? b=none/\b≠X.env.locals/\(∀x c,X.env.cells.lookup x=some c->c≠b)/\∀p∈X.pn++a,p.1≠b):Inv X a L H { s with heap:=B,toks:=tk }:=by
 have w:∀b o,X.s₀.heap.get? b=some o->b∉D:=λb o e z=>by rw[(j b z).2.1]at e;cases e
 have F:∀b o,X.s₀.heap.get? b=some o->b≠X.env.locals:=λb o e z=>absurd (aU (aK e) I.ok.above) (by rw[z];exact cV _);have y:∀b,b≠X.env.locals->b∉X.fs->b∉ϧ X.stack:=λb G K z=>(aF.mp (I.T8 b z)).elim G K;have g:∀b o,s.heap.get? b=some o->b∉D->∃C,B.get? b=some { o with slots:=C }:=λb o e z=>by
  by_cases f:b∈ϧ X.stack
  .exact k.slot b o e f z
  .exact⟨o.slots,k.keep b o e f z⟩
 have cells:∀x c v,X.env.cells.lookup x=some c->s.heap.IsCell c v->B.IsCell c v:=λx c v e ⟨o,J,O⟩=>by
  obtain⟨C,q⟩:=g c o J λz=>(j c z).2.2.2.1 x c e rfl;exact⟨_,q,O⟩
 refine⟨I.ok,I.os,I.bare,⟨λb o e n A h=>?_,λb o e n A h=>?_,I.base.free,λb o e h=>?_,I.base.lT,I.base.gE,I.base.nE⟩,?_,λx c e=>?_,I.free,I.ϔ,λp M=>?_,Bs I.Β k I.oR λb N=>(j b N).1,I.len⟩
 .exact k.keep b o (I.base.keep b o e n A h) (y b (F b o e) A) (w b o e)
 .obtain⟨C,t⟩:=I.base.slot b o e n A h;obtain⟨S,Q⟩:=g b _ t (w b o e);exact⟨S,Q⟩
 .obtain⟨o1,t⟩:=I.base.there b o e h;exact k.there b o1 t
 .obtain⟨m,⟨o,es,ep,J,r⟩,l⟩:=I.loc;obtain⟨C,t⟩:=g _ o J λz=>(j _ z).2.2.1 rfl;refine⟨m,⟨_,es,ep,t,r⟩,λi x v G K P=>?_⟩;obtain⟨u,T,E⟩:=l i x v G K P;refine⟨u,T,?_⟩;rcases E with E|⟨R,c,e,z⟩
  .exact .inl E
  .exact .inr ⟨R,c,e,cells x c _ e z⟩
 .obtain⟨v,z⟩:=I.cell x c e;exact⟨v,cells x c v e z⟩
 .obtain⟨e,n,ne,nf,d⟩:=I.pin p M;exact⟨k.keep p.1 p.2 e (y p.1 ne nf) λz=>(j p.1 z).2.2.2.2 p M rfl,n,ne,nf,d⟩
def Inv.young{X:Cx}{a:hP}{c:St}{H:Hp}{s:Shared}(I:Inv X a c H s){b:Addr}(n:s.heap.get? b=none):X.s₀.heap.get? b=none\/b∈X.ex:=by
 by_cases z:b∈X.ex
 .exact .inr z
 .refine .inl ?_;cases q:X.s₀.heap.get? b with
  | none=>rfl
  | some o=>
    obtain⟨d,e⟩:=I.base.there b o q z;rw[n]at e;cases e
def Inv.apart{X:Cx}{a:hP}{f:St}{H:Hp}{s:Shared}(I:Inv X a f H s){b:Addr}(n:s.heap.get? b=none):b≠X.env.locals/\(∀x c,X.env.cells.lookup x=some c->c≠b)/\∀p∈X.pn++a,p.1≠b:=by
 refine⟨?_,λx c e z=>?_,λp g z=>?_⟩
 .rintro rfl;obtain⟨m,⟨o,h,i,d,r⟩,_⟩:=I.loc;rw[n]at d;cases d
 .obtain⟨v,o,d,hd⟩:=I.cell x c e;rw[z,n]at d;cases d
 .obtain⟨e,_⟩:=I.pin p g;rw[z,n]at e;cases e
def Je{K:hO}{s:Shared}{Q:Bool->Shared->Prop}(X:K.In s.heap)(p:∃o,s.heap.get? d=some o/\o.cls=.ref f)(l:Wn K b)(m:PySem.W.mroIn K f (.ref b)=some c)(h:Q c s):wpAny a i (excMatches (.ref d) (.ref b)) Q j s:=by
 obtain⟨o,r,u⟩:=p;obtain⟨n,g,v,t,os⟩:=s;have D:PySem.W.Looks a n (typeOf (.ref d)) (.ref f):=u▸(PySem.W.Looks.ld r).andThen .now;have F:=nG (M:=a) X m;have x:=nG (M:=a) X l.mb;have A:=PySem.W.looks_typeIn (M:=a) X l.ty;have z:PySem.W.Looks a n (isSubtype (.type "type") (.type "tuple")) false:=.of_pure tc_notTuple;obtain⟨cd,e,_⟩:=PySem.W.any_some l.hd;have E:PySem.W.Looks a n (isType (.ref b)) true:=by
  unfold PySem.W.clsIn at e;split at e
  .rename_i Uw
   intro C y B w k q;unfold isType loadHead;exact ao (wpAny_loadPart (k _ _ (X _ _ Uw)) (bh q))
  .cases e
 unfold excMatches isInstance isExcClass;cases c
 all_goals
  repeat lk
  exact h
structure Loose(X:Cx)(pins:hP)(H:Hp)(b:Addr):Prop where
 un:H b=none
 new:X.s₀.heap.get? b=none
 loc:b≠X.env.locals
 cel:∀x c,X.env.cells.lookup x=some c->c≠b
 pin:∀p∈X.pn++pins,p.1≠b
def Loose.all(l:Loose b d e a):e a=none/\b.s₀.heap.get? a=none/\a≠b.env.locals/\(∀x c,b.env.cells.lookup x=some c->c≠a)/\∀p∈b.pn++d,p.1≠a:=⟨l.un,l.new,l.loc,l.cel,l.pin⟩
abbrev TH:=Ends->St->Value->Option Addr->Hp->Prop
def PHs(X:Cx)(g:List ExceptHandler)(f:TH):Prop:=∀(a:hP)(s:Shared)(d:St)(H:Hp)(D:Ends)(c T:Addr)(b:Value)(e:Option Addr),Inv X a d H s->Wo s.heap c T b e .none->Loose X a H c->Loose X a H T->f D d b e H->wpAny (model X.prog X.w) X.A (handleBy (.ref c) X.env g) (SP X a D) X.xe s
def Xw:TH:=λ_ _ _ _ _=>False
def R3:PHs a [] Xw:=λ_ _ _ _ _ _ _ _ _ _ _ _ _ h=>h.elim
def OD(f:(St->XK)->TS)(c:TH):TS:=λD e H=>f (λa b g d=>c D a b g d) D e H
def Sb(E:a.ex=[])(L:a.stack=a.env::a.outer)(P:a.env.frame=some a.env.locals)(o:RQ (τ a.prog a.w) a c g)(U:PHs a (i::d) j):PS a (.Try c (i::d) [] [] k) (OD g j):=by
 intro l s O H D I h;refine wpAny_Try_except (db (o _ l s O H D I h) (λf F q=>?_) λe p z=>?_)
 .cases f with
  | next=>exact gV q
  | ret v=>exact q
  | brk=>exact q
  | cont=>exact q
 .obtain⟨σ1,H1,F,I1,ea,T,cls,od,H',rfl,os,bare,un,Β,n1,n2,f1,f2,er,q⟩:=z;have J:=I1.V8 (ch:=[]) os un Β bare (by simp);have m:∀b,F.heap.get? b=none->H' b=none->Loose a l H' b:=λb z u=>by
   obtain⟨C,A,t⟩:=I1.apart z;refine⟨u,?_,C,A,t⟩;rcases I1.young z with y|y
   .exact y
   .rw[E]at y;cases y
  have le:=m ea f1 n1;have lt:=m T f2 n2;have M:=J.ok.frames;have st:=J.stack;rw[L]at M st;refine Jk M st P er λN G x K n=>?_;rw[<-L]at K;have S:Inv a l σ1 H' { p with heap:=N }:=J.moved (tk:=p.toks) K λb o=>by
   simp only[aF,fP,or_false]at o;rcases o with rfl|rfl
   .exact le.all
   .exact lt.all
  have r:Loose a l H' G:=by
   obtain⟨C,A,t⟩:=J.apart n;refine⟨F2 Β n,?_,C,A,t⟩;rcases J.young n with y|y
   .exact y
   .rw[E]at y;cases y
  refine zE (fs:=ϧ a.stack) (s:={ p with heap:=N }) x λQ B R=>?_;have V:Inv a l σ1 H' { p with heap:=Q }:=S.moved (tk:=p.toks) R λb o=>by rw[aG.mp o];exact r.all
  exact U l _ σ1 H' D ea G cls od V B le r q
def uu(a:List (Str×Addr)):List (Str×NameKind)->List (Str×Addr)->List (Str×Addr)
 | [],acc=>acc
 | (n,k)::r,acc=>if k==.free then uu a r ((n,(a.lookup n).getD 0)::acc)else uu a r acc
def Ko(h:∀y∈d.names,y.2=.free->(b.cells.lookup y.1).isSome=true):closureFor d b=pure (uu b.cells d.names []):=by
 have f:∀(l:List (Str×NameKind))(e:List (Str×Addr)),(∀y∈l,y.2=.free->(b.cells.lookup y.1).isSome=true)->(forIn l e λ(y:Str×NameKind)(c:List (Str×Addr))=>(if y.2==NameKind.free then do let a <-cellOf b y.1;pure (ForInStep.yield ((y.1,a)::c))else pure (ForInStep.yield c):Sem (ForInStep (List (Str×Addr)))))=(pure (uu b.cells l e):Sem (List (Str×Addr))):=by
  intro l
  induction l with
  | nil=>intro e _;rfl
  | cons y l ih=>
    obtain⟨n,k⟩:=y;intro e j;have o:=j (n,k) aL;have i:∀y∈l,y.2=.free->(b.cells.lookup y.1).isSome=true:=λy m=>j y (aI _ m);rw[mE];unfold uu;cases q:k==NameKind.free with
    | false=>
      simp only[dL,if_false,pure_bind];exact ih e i
    | true=>
      obtain⟨c,g⟩:=gR.mp (o (by simpa using q));dsimp only at g;simp only[if_true,cellOf,g,pure_bind,Option.getD_some];exact ih _ i
 have:=f d.names [] h;unfold closureFor;simp only[bind_pure];exact this
theorem BA :∀{l:List (Str×NameKind)}{f:List (Str×Addr)},(∀y∈l,y.2=.free->(b.lookup y.1).isSome=true)->(∀c e,f.lookup c=some e->b.lookup c=some e)->(uu b l f).lookup c=some e->b.lookup c=some e
 | [],f,_,h2,h3=>h2 c e h3
 | (n,k)::r,f,h1,h2,h3=>by
   have i:∀y∈r,y.2=.free->(b.lookup y.1).isSome=true:=λy g=>h1 y (aI _ g);unfold uu at h3;cases q:k==NameKind.free with
   | false=>
     rw[q]at h3;exact BA i h2 (by simpa using h3)
   | true=>
     rw[q]at h3;simp only[if_true]at h3;obtain⟨a,h⟩:=gR.mp (h1 (n,k) aL (by simpa using q));dsimp only at h;rw[h]at h3;refine BA i (λy d g=>?_) h3;rw[cW]at g;cases z:y==n with
     | true=>
       rw[z]at g;cases g;rw[eq_of_beq z];exact h
     | false=>
       rw[z]at g;exact h2 y d g
theorem BN :∀{l:List (Str×NameKind)}{d:List (Str×Addr)},((∃c,d.lookup a=some c)\/(a,NameKind.free)∈l)->∃c,(uu b l d).lookup a=some c
 | [],d,h=>by
   rcases h with h|h
   .exact h
   .cases h
 | (n,k)::r,d,h=>by
   unfold uu;cases q:k==NameKind.free with
   | false=>
     simp only[dL,if_false];refine BN ?_;rcases h with h|h
     .exact .inl h
     .rcases aF.mp h with z|z
      .cases z;simp at q
      .exact .inr z
   | true=>
     simp only[if_true];refine BN ?_;by_cases z:a=n
     .subst z;exact .inl ⟨(b.lookup a).getD 0,by rw[cW];simp⟩
     .rcases h with⟨c,h⟩|h
      .refine .inl ⟨c,?_⟩;rw[cW];have:(a==n)=false:=(by simpa using z);rw[this];exact h
      .rcases aF.mp h with y|y
       .cases y;exact absurd rfl z
       .exact .inr y
theorem rA{env:Env}{x:Str}{k:NameKind}:∀{l:List (Str×NameKind)},l.lookup x=some k->(l.map λ(n,k)=>if(k==NameKind.free&&env.scope.kind==.function&&env.kindOf n==some .cell)then(n,NameKind.cell)else(n,k)).lookup x=some (if(k==NameKind.free&&env.scope.kind==.function&&env.kindOf x==some .cell)then NameKind.cell else k)
 | [],h=>by simp at h
 | (n,j)::r,h=>by
   have a:=@rA env x k r;rw[aE];rw[cW]at h;cases z:x==n with
   | true=>
     rw[z]at h;cases h;have e:=eq_of_beq z;subst e;by_cases q:(k==NameKind.free&&env.scope.kind==.function&&env.kindOf x==some .cell)=true
     .simp only[q,if_true,cW,z]
     .simp only[q,if_false,cW,z,dL]
   | false=>
     rw[z]at h;dsimp only;by_cases q:(j==NameKind.free&&env.scope.kind==.function&&env.kindOf n==some .cell)=true
     .rw[aj q,cW,z];exact a h
     .rw[ah q,cW,z];exact a h
def Ra{X:Cx}{d:hX}{scope:Scope}(a:Nat)(b:List Nat)(p:∀y∈scope.names,y.2≠.cell)(D:scope.kind=.function)(F:∀y∈scope.names,y.2=.local->scope.names.lookup y.1=some .local)(G:d.length=a+b.length)(f:∀y∈scope.names,y.2=.free->X.env.scope.names.lookup y.1=some .cell)(C:X.env.scope.kind=.function)(E:∀x,X.env.scope.names.lookup x=some .cell->∃c,X.env.cells.lookup x=some c)(u:∀i,i<b.length->∃x j,d[a+i]?=some x/\b[i]?=some j/\X.N[j]?=some x/\scope.names.lookup x=some .free):ϩ X d a b scope (uu X.env.cells scope.names []):=by
 have s:∀y∈scope.names,y.2=.free->(X.env.cells.lookup y.1).isSome=true:=λy t e=>by
  obtain⟨c,q⟩:=E _ (f y t e);rw[q]
  rfl
 have B:∀x,scope.names.lookup x=some .free->X.env.scope.names.lookup x=some .cell:=λx h=>f (x,.free) (d9 h) rfl;refine⟨Ko s,D,p,F,λx c h=>BA s (λx c z=>by simp at z) h,λx h=>?_,G,λi x h=>?_⟩
 .cases q:scope.names.lookup x with
  | none=>
    exfalso
    have:(relabel scope X.env).names.lookup x=none:=by
     unfold relabel;dsimp only
     revert q
     generalize scope.names=l
     induction l with
     | nil=>intro _;rfl
     | cons y l ih=>
       obtain⟨n,k⟩:=y;intro q;rw[cW]at q;cases z:x==n with
       | true=>rw[z]at q;cases q
       | false=>
         rw[z]at q;rw[aE];dsimp only;by_cases w:(k==NameKind.free&&X.env.scope.kind==.function&&X.env.kindOf n==some .cell)=true
         .rw[aj w,cW,z];exact ih q
         .rw[ah w,cW,z];exact ih q
    rw[this]at h;rcases h with h|h<;>cases h
  | some k=>
    have r:(relabel scope X.env).names.lookup x=some _:=rA (env:=X.env) q;cases k with
    | free=>exact BN (.inr (d9 q))
    | cell=>exact absurd rfl (p _ (d9 q))
    | _=>
      rw[r]at h;simp at h
 .have hi:i<b.length:=by
   have:=(ax.mp h).1
   lia
  obtain⟨y,j,g,v,A,o⟩:=u i hi;rw[h]at g;cases g;have m:=B x o;refine⟨j,v,A,m,?_⟩;have r:(relabel scope X.env).names.lookup x=some _:=rA (env:=X.env) o;rw[r];have:X.env.kindOf x=some .cell:=m;rw[this,C]
  rfl
theorem JX:∀{a:fc}{b:hT},Vals (a.map V.int) b->IntsAre b a
 | [],_,h=>by cases h;exact .nil
 | n::a,_,h=>by
   cases h with
   | cons r t=>
     obtain⟨k,rfl⟩:=(show ∃t,_=Value.int n t from r);exact .cons n k (JX t)
theorem J6:∀{a:fc}{b:hT},IntsAre b a->Vals (a.map V.int) b
 | _,_,.nil=>.nil
 | _,_,.cons n t r=>.cons ⟨t,rfl⟩ (J6 r)
def IV:lx c (.builtin "sorted") (λn H Q=>∃(p:Addr)(f:fc),n=[.ref p]/\ι c.K H p (f.map V.int)/\f.length<64/\∀(l:Addr)(d:fc),H l=none->d.Perm f->d.Pairwise (·<=·)->Q (.ref l) (upd H l (.lst (d.map V.int)))):=by
 intro m s E H n G Q I r h;obtain⟨p,f,rfl,B,w,q⟩:=h;obtain⟨u,rfl,y⟩:=oB r;cases y;obtain⟨i,t,A,J⟩:=I.list B;have j:=JX t;have F:=IntsAre.length j;refine sorted_ints A.isList j (by lia) λg d D k v=>?_;obtain⟨e,C⟩:=sortedAll_at s.heap i g;have z:H (s.heap.objs.size+1)=none:=I.Β.fresh (gA _);have x:d.length=f.length:=k.length_eq;refine⟨.ref (s.heap.objs.size+1),_,I.laid (a:=s.heap.objs.size+1) (o:=.lst (d.map V.int)) (t':=s.toks) (λb o e=>sortedAll_old e) (gA _) ⟨?_,g.toList,e,J6 D,?_⟩,rfl,q _ d z k v⟩
 .rw[ag,x];exact bX (by lia)
 .exact C
def QJ{K:hO}(h:K.lookup c=some ⟨f,i,.cls e,g⟩)(m:e.mro=.ref c::.ref d::Wm)(j:Addr):PySem.W.mroIn K c (.ref j)=some (decide (j=c)||decide (j=d)):=by
 unfold PySem.W.mroIn PySem.W.clsIn;rw[h];simp only[Option.bind_some,m,List.isEmpty_cons,dL,if_false]
 congr 1
 by_cases k:j=c
 .subst k;simp
 .by_cases h2:j=d
  .subst h2;simp
  .have a:(Value.ref j==Value.ref c)=false:=(by simpa using k);have b:(Value.ref j==Value.ref d)=false:=(by simpa using h2);simp[ft,a,b,k,h2]
structure Ta(K:hO)(T C:Addr):Prop where
 x:Wn K C
 mr:∀C',PySem.W.mroIn K C (.ref C')=some (decide (C'=C)||decide (C'=T))
 mv:PySem.W.mroIn K C (.type "ValueError")=some true
def BP{K:hO}(h:K.lookup a=some ⟨e,g,.cls b,f⟩)(m:b.mro=.ref a::c)(i:(Value.ref a::c).contains d=true):PySem.W.mroIn K a d=some true:=by
 unfold PySem.W.mroIn PySem.W.clsIn;rw[h];simp only[Option.bind_some,m,List.isEmpty_cons,dL,if_false,i]
def JE{K:hO}{C:Addr}{l:Value}{e:Option Addr}{cd:ClassData}{k:Array (Option Value)}{r:hT}(j:PySem.W.typeIn K (.ref C)=some (.type "type"))(f:PySem.W.findIn K (.ref C) "__getattribute__"=some (some (.builtin "BaseException.__getattribute__")))(d:PySem.W.findIn K (.ref C) "__getattr__"=some none)(g:PySem.W.findIn K (.ref C) "__class__"=some (some (.builtin "object.__class__")))(i:PySem.W.specialIn K (.builtin "object.__class__") "__get__"=some (some (.builtin "getset_descriptor.__get__")))(n:PySem.W.takesIn K (.builtin "object.__class__")=some true)(c:PySem.W.hasDictIn K C=true)(h:K.lookup C=some ⟨l,e,.cls cd,k⟩)(m:cd.mro=.ref C::r)(a:r.contains (.type "object")=true)(b:r.contains (.type "BaseException")=true):Wn K C:=⟨j,f,d,g,i,n,BP h m (by rw[ft,a,lY]),BP h m (by rw[ft,b,lY]),c,BP h m (by simp)⟩
section
variable{K:hO}{T C:Addr}
structure aaA(K:hO)(T:Addr):Prop where
 x:Wn K T
end
def QG{K:hO}{C:Addr}{j:Value}{c:Option Addr}{cd:ClassData}{i:Array (Option Value)}(g:PySem.W.typeIn K (.ref C)=some (.type "type"))(d:PySem.W.findIn K (.ref C) "__getattribute__"=some (some (.builtin "BaseException.__getattribute__")))(b:PySem.W.findIn K (.ref C) "__getattr__"=some none)(e:PySem.W.findIn K (.ref C) "__class__"=some (some (.builtin "object.__class__")))(f:PySem.W.specialIn K (.builtin "object.__class__") "__get__"=some (some (.builtin "getset_descriptor.__get__")))(k:PySem.W.takesIn K (.builtin "object.__class__")=some true)(a:PySem.W.hasDictIn K C=true)(h:K.lookup C=some ⟨j,c,.cls cd,i⟩)(m:cd.mro=.ref C::Wm):aaA K C:=⟨JE g d b e f k a h m (by decide +kernel) (by decide +kernel)⟩
def Rk{K:hO}{T:Addr}{C:Addr}{k:Value}{d:Option Addr}{cd:ClassData}{j:Array (Option Value)}(e:PySem.W.typeIn K (.ref C)=some (.type "type"))(o:PySem.W.findIn K (.ref C) "__getattribute__"=some (some (.builtin "BaseException.__getattribute__")))(f:PySem.W.findIn K (.ref C) "__getattr__"=some none)(g:PySem.W.findIn K (.ref C) "__class__"=some (some (.builtin "object.__class__")))(i:PySem.W.specialIn K (.builtin "object.__class__") "__get__"=some (some (.builtin "getset_descriptor.__get__")))(l:PySem.W.takesIn K (.builtin "object.__class__")=some true)(n:PySem.W.hasDictIn K C=true)(h:K.lookup C=some ⟨k,d,.cls cd,j⟩)(m:cd.mro=.ref C::.ref T::Wm):Ta K T C:=by
 have a:(Value.ref T::Wm).contains (.type "object")=true:=by rw[ft];simp[Wm]
 have b:(Value.ref T::Wm).contains (.type "BaseException")=true:=by rw[ft];simp[Wm]
 have c:(Value.ref T::Wm).contains (.type "ValueError")=true:=by rw[ft];simp[Wm]
 exact⟨JE e o f g i l n h m a b,QJ h m,BP h m (by rw[ft,c,lY])⟩
def WV.Ϻ{P:Program}{w:World}{K:hO}{l:hU}{c:Heap}{x b:Str}{st:Stmt}{f:Addr}{j:FuncData}{N i:hX}{k:Nat}{g:Sp}(F:WV K x b st f j)(S:ε N i (aA st))(m:∀(e:Value) (A:Around) (a:List Env) (s:Shared) (H:Hp) (d:List V) (Q:VK) (E:XK),Ρ k (A.deeper (envOfC b (aA st) s.heap.objs.size f e))->g d H Q E->∃t,UR (sF (τ P w) P w K l c N b (aA st) f e A a s H E) (kL st) t/\t { nx:=λ_ q=>Q .ξ q,rt:=Q } (start N d) H)(h:∀d H Q E,g d H Q E->d.length=i.length:=by walk_at "v"):ϋ P w K l c (τ P w) (k+1) f j i g:=by
 obtain⟨D,y,kV,p,v,B,e,z,C,rfl,r,n⟩:=F.ex;exact P8 r n S h λA a s H d Q E u o=>m e A a s H d Q E u o
theorem Fd :Nf c b e f a d=e a d λh g=>h.length<=sizeLine/\b (.ref c) none g:=rfl
theorem Jy :OD d b a c e=d (λf g i h=>b a f g i h) a c e:=rfl
def Oe(i:c e=some (.lst b))(h:c d=some (.lst a))(g:b.length+a.length<=sizeLine)(q:∀p,c p=none->f (.ref p) (upd c p (.lst (b++a)))):YN (.ref e) (.ref d) c f:=⟨e,d,b,a,rfl,rfl,i,h,g,q⟩
def δ.put(e:δ c a)(n:c d=none)(o:HO):δ c (upd a d o):=λb u h=>by rw[aM (cD h n)];exact e b u h
theorem F8(i:Int):∀a:List Int,Xn (.int i) (a.map V.int)=decide (i∈a)
 | []=>by simp[Xn]
 | n::a=>by
   have b:=F8 i a;unfold Xn at b ⊢;rw[aE,iQ,b];have e:WU (.int n) (.int i)=decide (n=i):=by first|rfl|simp[WU]
   rw[e];by_cases h:i=n
   .subst h;simp
   .simp[h,Ne.symm h]
theorem Fo:∀a:List Int,(a.map V.int).all sY=true
 | []=>rfl
 | n::a=>by rw[aE,nY,Fo a];rfl
def inL{K:hO}{a:Bool}{H:Hp}{p:Addr}{i:Int}{b:fc}{Q:VK}(h:H p=some (.lst (b.map V.int)))(q:Q (.bl (if a then !decide (i∈b)else decide (i∈b))) H):rIn K a (.int i) (.ref p) H Q:=by
 refine⟨p,_,rfl,.inl (ι.of h),rfl,Fo b,?_⟩;rw[F8];exact q
def Pn(h:wpAny c g (storeName a f v) d b i):wpAny c g (assign (.Name f e) a v) d b i:=by
 show wpAny c g (do standAt e;bindName a f v) d b i;exact ao (jd (mB h))
def tj{X:Cx}{Nc:hX}{a2:Nat}{js:List Nat}{scope:Scope}{M:List (Str×Addr)}{i:Nat}{x:Str}{px a0:Pos}{Q a z:Expr}{O:List Expr}{ϑ:Pos}{wi:TI}{g:TG}{tc:TT}{te:TE}(hN:X.N.Nodup)(cv:X.N[i]?=some x)(am:X.env.scope.names.lookup x=some .local)(hc:X.calm=true)(T:ϩ X Nc a2 js scope M)(hi:PI X a z wi)(hg:∀C l k j,PG (X.comp Nc scope M C l k j) a g)(ht:∀C l k j,PTs (X.comp Nc scope M C l k j) O tc)(he:∀C l k j,PE (X.comp Nc scope M C l k j) Q te)(hs:∀x,foldedSetIterable z X.env x=pure x:=by intro _;rfl)(bt:swapsWith (.ListComp Q [⟨a,z,O,0⟩] scope ϑ) (some (.Name x px)) a0.line X.env=pure true:=by rfl):PS X (.Assign [.Name x px] (.ListComp Q [⟨a,z,O,0⟩] scope ϑ) a0) (DW (KY a2 js wi g tc te) (wJ i)):=by
 intro K s σ H D I h;rw[exec_Assign_Name_used _ _ _ _ bt];refine ao (jd (ao ?_));rw[arm_evalThenUse_ListComp];refine ao ?_;refine wpAny_comprehension_free (use:=some (assign (.Name x px) X.env)) rfl hs T.YT T.kind T.names (ϕ (hi K s σ H _ I h) λv s1 h1=>ϕ h1 λet f h2=>?_);obtain⟨it,j,tn,J,H1,rfl,U,Z,st,f1,R⟩:=h2;have Xq:∀b∈j,b<f.heap.objs.size:=λb B=>let ⟨o,e,_⟩:=Z.obj _ _ st b B;aK e;refine fA (wpAny_newFunctionEnv T.U5 (by intro y hy;simp at hy) (λE iD Ϫ=>?_) T.kind);dsimp only at iD Ϫ ⊢;generalize YX:f.heap.push { cls:=.type "list",dict:=none,data:=.seq ([]:hT).toArray }=m at iD Ϫ ⊢;have hC:m.objs.size=f.heap.objs.size+1:=by rw[<-YX,d5]
 have YW:f.heap.objs.size≠m.objs.size:=by rw[hC];exact aV (fQ _)
 have Tr:f.heap.objs.size<=m.objs.size:=by rw[hC];exact gA _
 have b7:∀b,b<f.heap.objs.size->b≠m.objs.size:=λb B=>by rw[hC];exact aV (gq B)
 have av:∀b o,f.heap.get? b=some o->E.get? b=some o:=λb o e=>Ϫ.extBut b o (b7 b (aK e)) (aB _ (YX▸aB _ e));have ϴ:∃n,E.get? f.heap.objs.size=some { cls:=.type "list",data:=.seq ([]:hT).toArray n }:=⟨_,Ϫ.extBut _ _ YW (aB _ (YX▸bc _ rfl))⟩;have UG:tn 0 E:=Z.keep _ _ _ st λb _ o e=>av b o e;obtain⟨W,⟨m0,w0⟩,ar⟩:=R f.heap.objs.size U.fresh;have Ic:=G2 (t:=f.toks+([]:List (Str×Value)).length) T U Tr (aJ _) YW f1 Xq av iD ϴ;generalize Xr:X.comp Nc scope M m.objs.size f H1 j=Xc at Ic;have G:∀{S:Hp},(∀b∈j,S b=none)->∀b∈j,p6 Xc [] S b:=λ{S} hn b B=>by
  subst Xr;exact⟨hn b B,b7 b (Xq b B),(Eu T U Tr f1 Xq).T7 b B,.inl B,λx c e=>(f1 b B).2.2.2.2.1 x c (T.cells x c e),λp hp=>by cases hp⟩
 have cn:∀b∈j,upd H1 f.heap.objs.size (.lst []) b=none:=λb B=>by
  rw[aM (aV (Xq b B))];exact(f1 b B).1
 have dT:Xc.calm=true:=by subst Xr;exact hc
 have V:∀L:Shared,L={ f with heap:=E,toks:=f.toks+([]:List (Str×Value)).length }->codeAny (model X.prog X.w) X.A (.compLoop (.ListComp Q [⟨a,z,O,0⟩] scope ϑ) 0 (.ref it) (.ref f.heap.objs.size) (compEnvC scope M m.objs.size X.env))
  (compPost (model X.prog X.w) X.A X.xe (some (assign (.Name x px) X.env)) (λ_ s'=>wpAny (model X.prog X.w) X.A (pure ()) (λ_ Z9=>wpAny (model X.prog X.w) X.A (pure Flow.next) (SP X K D) X.xe Z9) X.xe s') (.ref f.heap.objs.size) m.objs.size) L:=by
  rintro L rfl;refine AE (λn s'=>∃i ys aT S,Inv Xc [] aT S s'/\tn i s'.heap/\(∀b∈j,S b=none)/\W i n ys aT S) ?_ m0 ⟨0,[],_,_,Ic,UG,cn,w0⟩;rintro n s3 ⟨i,ys,P,H3,I3,VS,X1,w3⟩;rcases ar i n ys P H3 w3 with⟨stop,q⟩|⟨go,step⟩
  .subst Xr;refine ϕ (Z.done (X.comp Nc scope M m.objs.size f H1 j) rfl rfl rfl hc i [] s3 P H3 _ I3 (G X1) VS stop) λr s4 ⟨hr,I4⟩=>?_;subst hr;obtain⟨m4,ct,_⟩:=id I4.loc;have J:=Fb U Tr f1 I4 (h':=s4.heap) (Heap.SameBut.refl _ _);have a1:m.objs.size≠X.env.locals:=eC (aU U.lt Tr);have cy:X.s₀.heap.objs.size<=m.objs.size:=aW U.sz Tr;have cc:∀y c,X.env.cells.lookup y=some c->c≠m.objs.size:=λy c e=>by
    obtain⟨v',o',Uw,_⟩:=U.cell y c e;exact aV (aU (aK Uw) Tr)
   have cp:∀p∈X.pn++K,p.1≠m.objs.size:=λp hp=>by
    obtain⟨Uw,_⟩:=U.pin p hp;exact aV (aU (aK Uw) Tr)
   refine Pn (Ew (v:=.ref f.heap.objs.size) J hN cv (.inl am) rfl (λs5 I5 ⟨ad,sb,had⟩=>?_) (.inr am));have bs:m.objs.size≠ad:=by
    rcases had with rfl|had
    .exact a1
    .exact(cc _ _ had).symm
   obtain⟨oo,es,ep,e1,e2⟩:=ct;refine⟨m4,⟨oo,es,ep,(sb.2 _ bs).trans e1,e2⟩,λh' co=>bh (bh ⟨_,H3,?_,q⟩)⟩;exact I5.turned (it:=m.objs.size) (t':=s5.toks) (λb o n e=>co.extBut b o n e) I4.free a1 (.inr cy) cc cp
  .subst Xr;refine ϕ (Z.item (X.comp Nc scope M m.objs.size f H1 j) rfl rfl rfl hc i [] s3 P H3 _ I3 (G X1) VS go) λr s4 ⟨u,hr,h4⟩=>?_;subst hr;refine ϕ h4 λ_ s5 ⟨x,H5,I5,r5,y5,Wc,Z6⟩=>?_;have Z7:=I5.pinned (G Z6) (Z.obj _ _ Wc);have Y:∀{ab:St}{H7:Hp}{s7:Shared},Inv (X.comp Nc scope M m.objs.size f H1 j) ([]++vY j s5.heap) ab H7 s7->Inv (X.comp Nc scope M m.objs.size f H1 j) [] ab H7 s7/\tn (i+1) s7.heap/\∀b∈j,H7 b=none:=λ{ab H7 s7} I7=>by
    refine⟨I7.ϲ,Z.keep _ _ _ Wc λb B o e=>(I7.pin (b,o) (bw _ (bw _ (py B e)))).1,λb B=>?_⟩;obtain⟨o,e,d⟩:=Z.obj _ _ Wc b B;exact(I7.pin (b,o) (bw _ (bw _ (py B e)))).2.1
   refine ϕ (hg _ _ _ _ _ s5 P H5 x u _ Z7 r5 (step x H5 y5)) λ_ s6 ⟨F,H6,I6,q6⟩=>?_;refine Bc (ht _ _ _ _ _ s6 F H6 _ I6 q6) λok s7 H7 I7 q7=>?_;cases ok with
   | false=>
     rw[ah bj]at q7 ⊢;obtain⟨m',hm,w7⟩:=q7;obtain⟨J1,J2,J3⟩:=Y I7;exact⟨m',hm,i+1,ys,F,H7,J1,J2,J3,w7⟩
   | true=>
     rw[aj rfl]at q7 ⊢;refine eF (he _ _ _ _ _ s7 F H7 _ I7 q7) λy s8 yv H8 I8 r8 ⟨cS,cr,m',hm,w8⟩=>?_;refine ϕ (yg _ s8 F H8 (.ref f.heap.objs.size) [yv] _ [y] (λv' S=>W (i+1) m' (ys++[yv]) F S) I8 rfl (.cons r8 .nil) ⟨_,ys,yv,rfl,rfl,cS,cr,w8⟩) λv9 s9 ⟨_,H9,I9,_,w9⟩=>?_;obtain⟨J1,J2,J3⟩:=Y I9;exact⟨m',hm,i+1,ys++[yv],F,H9,J1,J2,J3,w9⟩
 exact codeAny_compStart_list (V _ rfl) (Z.self _ 0 _ _ _ UG (V _ rfl))
theorem yV{K:hO}{H:Hp}:∀a:List Int,ό K H (a.map V.int) (a.map PyData.int)
 | []=>.nil
 | n::a=>.cons (.int n) (yV a)
theorem xN:∀a:List Int,PyData.depthAll (a.map PyData.int)<=1
 | []=>by simp[PyData.depthAll]
 | n::a=>by
   simp only[aE,PyData.depthAll];have:=xN a;have:(PyData.int n).depth<=1:=by simp[PyData.depth]
   lia
end L2
namespace Pb
open L2 PySem
def front(r:Int)(a:fz)(p:Int):V:=if p=r then .ξ else .int (a p)
def cG(m:Int)(b:ix)(a:V)(p:Int):List Int:=(jO m b p).filter λv=>decide (V.int v≠a)
def ζ.ne(R:ζ d f c b e)(g:0<=a)(i:a<d)(h:a≠c):b a≠a:=λz=>by
 have:=(R.up a g i h).2.2;rw[z]at this
 lia
def de(g:Good l m)(R:ζ l m k d n)(y:0<=i)(s:i<l):f∈cG l m (front k d i) i↔(0<=f/\f<l)/\f≠k/\d f=i:=by
 unfold cG;rw[cf,wR g,b4]
 constructor
 .rintro⟨ad,hf⟩;obtain⟨_,r,_⟩:=g.WW ad;refine⟨r,?_⟩;obtain⟨x,p,j⟩:=ad;have o:∀u w:Int,(u≠k/\d u=w)\/(w≠k/\d w=u)->u=i->w=f->f≠k/\d f=i:=λu w h t v=>by
   subst t v;rcases h with h|h
   .exfalso
    apply hf;unfold front;rw[ah h.1,h.2]
   .exact h
  rcases j with⟨a,b⟩|⟨a,b⟩
  .exact o x.a x.b (R.road x p) a b
  .exact o x.b x.a (R.road x p).symm a b
 .rintro⟨r,hr,hp⟩;have u:=R.up f r.1 r.2 hr;rw[hp]at u;refine⟨?_,λz=>?_⟩
  .obtain⟨x,p,j⟩:=u.2.1;exact⟨x,p,j.elim (λq=>.inr ⟨q.2,q.1⟩) (λq=>.inl ⟨q.2,q.1⟩)⟩
  .unfold front at z;by_cases c:i=k
   .rw[aj c]at z;cases z
   .rw[ah c]at z;have e:f=d i:=(by injection z);have w:=(R.up i y s c).2.2;have A:=u.2.2;rw[<-e]at w
    lia
def tz :(cG b a d c).Nodup:=(Cq b a c).filter _
def nl(m:Int)(a:fz)(b:fc):List V:=(b7 m.toNat).map λv=>if v∈b then .int (a v)else .ξ
def oh(m r:Int)(a:fz):List V:=(b7 m.toNat).map (front r a)
def u5 :(nl b a c).length=b.toNat:=by unfold nl;rw[ag,b6]
def gZ(h:a<b):(b7 b)[a]?=some (a:Int):=by unfold b7;rw[aN,gM h];rfl
def Nl(a:0<=v)(b:v<m):(nl m par ks)[v.toNat]?=some (if v∈ks then .int (par v)else .ξ):=by
 unfold nl;rw[aN,gZ (by lia)];show some (if((v.toNat:Nat):Int)∈ks then V.int (par ((v.toNat:Nat):Int))else V.ξ)=_;rw[cB a]
def RJ(h:0<=b)(j:b<d):(nl d a f).set b.toNat (.int (a b))=nl d a (f++[b]):=by
 refine gF λi=>?_;rw[List.getElem?_set];by_cases c:i<d.toNat
 .have e:∀l:List Int,(nl d a l)[i]?=some (if(i:Int)∈l then .int (a (i:Int))else .ξ):=λl=>by
   have:=Nl (par:=a) (ks:=l) (v:=(i:Int)) (m:=d) (by lia) (by lia)
   rwa [dJ]at this
  rw[e,u5];by_cases z:b.toNat=i
  .have g:b=(i:Int):=(by lia);rw[aj z,aj (by lia),e,aj (by rw[g];simp),<-g]
  .rw[ah z,e];have g:¬((i:Int)=b):=(by lia);simp[g]
 .have e:∀l:List Int,(nl d a l)[i]?=none:=λl=>bW (by rw[u5];lia);rw[e,e,u5];by_cases z:b.toNat=i
  .lia
  .rw[ah z]
section
variable{m:Int}{b:ix}{r:Int}{a:fz}
structure Ϥ(m:Int)(b:ix)(r:Int)(a:fz)(ks ws:fc):Prop where
 nd:ks.Nodup
 ϓ:∀k∈ks,0<=k/\k<m
 nr:r∉ks
 sub:∀w∈ws,w=r\/w∈ks
 ZH:ws.Nodup
 ok:∀v∈ks,a v∉ws/\(a v=r\/a v∈ks)
 dn:∀v,0<=v->v<m->v≠r->(a v=r\/a v∈ks)->a v∉ws->v∈ks
end
def Ϥ.start:Ϥ d c b a [] [b] where
 nd:=List.nodup_nil
 ϓ:=λ_ h=>by cases h
 nr:=λh=>by cases h
 sub:=λw h=>.inl (aG.mp h)
 ZH:=by simp
 ok:=λ_ h=>by cases h
 dn:=λv _ _ _ h n=>by
  rcases h with h|h
  .exact absurd (by rw[h];simp) n
  .cases h
def Ϥ.at_(J:Ϥ c e b d ks ws)(g:0<=b)(f:b<c)(i:a∈ws):0<=a/\a<c:=by
 rcases J.sub a i with h|h
 .rw[h];exact⟨g,f⟩
 .exact J.ϓ a h
def Ϥ.front(J:Ϥ f e d a ks ws)(g:b∈ws):(if b∈ks then V.int (a b)else V.ξ)=front d a b:=by
 unfold Pb.front;by_cases c:b=d
 .rw[aj c,ah (by rw[c];exact J.nr)]
 .rw[ah c,aj ((J.sub b g).resolve_left c)]
def Ϥ.step(g:Good j f)(R:ζ j f i d q)(G:0<=i)(L:i<j)(J:Ϥ j f i d l m)(e:m.Perm (p::ws')):Ϥ j f i d (l++cG j f (Pb.front i d p) p) (ws'++cG j f (Pb.front i d p) p):=by
 have B:p∈m:=e.mem_iff.mpr aL;have F:=J.at_ G L B;have r:∀v,v∈cG j f (Pb.front i d p) p↔(0<=v/\v<j)/\v≠i/\d v=p:=λv=>de g R F.1 F.2;have C:(cG j f (Pb.front i d p) p).Nodup:=tz;generalize cG j f (Pb.front i d p) p=E at r C ⊢;have s:∀v∈E,v∉l:=λv y z=>(J.ok v z).1 (by rw[((r v).mp y).2.2];exact B);obtain⟨I,K⟩:=bD.mp (e.nodup_iff.mp J.ZH);have x:∀w∈ws',w∈m:=λw A=>e.mem_iff.mpr (aI _ A);refine⟨?_,?_,?_,?_,?_,?_,?_⟩
 .rw[eL];exact⟨J.nd,C,λa D b t z=>s b t (z▸D)⟩
 .intro k hk;rcases bi.mp hk with h|h
  .exact J.ϓ k h
  .exact((r k).mp h).1
 .intro z;rcases bi.mp z with h|h
  .exact J.nr h
  .exact((r i).mp h).2.1 rfl
 .intro w A;rcases bi.mp A with h|h
  .exact(J.sub w (x w h)).imp id (bJ _)
  .exact .inr (bw _ h)
 .rw[eL];refine⟨K,C,λa D b t z=>?_⟩;subst z;rcases J.sub a (x a D)with h|h
  .exact((r a).mp t).2.1 h
  .exact s a t h
 .intro v y;rcases bi.mp y with h|h
  .obtain⟨o1,o2⟩:=J.ok v h;refine⟨λz=>?_,o2.imp id (bJ _)⟩;rcases bi.mp z with z|z
   .exact o1 (x _ z)
   .rcases o2 with o|o
    .exact((r _).mp z).2.1 o
    .exact s _ z o
  .obtain⟨q1,q2,q3⟩:=(r v).mp h;rw[q3];refine⟨λz=>?_,(J.sub p B).imp id (bJ _)⟩;rcases bi.mp z with z|z
   .exact I z
   .obtain⟨w1,w2,w3⟩:=(r p).mp z;exact R.ne w1.1 w1.2 w2 w3
 .intro v v0 v1 vr h n;have u:d v∉E:=λz=>n (bw _ z);have H:d v=i\/d v∈l:=h.imp id λz=>(bi.mp z).resolve_right u;by_cases c:d v=p
  .exact bw _ ((r v).mpr ⟨⟨v0,v1⟩,vr,c⟩)
  .refine bJ _ (J.dn v v0 v1 vr H λz=>?_);rcases aF.mp (e.mem_iff.mp z)with z|z
   .exact c z
   .exact n (bJ _ z)
def Ϥ.perm(J:Ϥ i d g a c f)(e:f.Perm b):Ϥ i d g a c b where
 nd:=J.nd
 ϓ:=J.ϓ
 nr:=J.nr
 sub:=λw h=>J.sub w (e.mem_iff.mpr h)
 ZH:=e.nodup_iff.mp J.ZH
 ok:=λv h=>⟨λz=>(J.ok v h).1 (e.mem_iff.mpr z),(J.ok v h).2⟩
 dn:=λv j k hr h n=>J.dn v j k hr h λz=>n (e.mem_iff.mp z)
def Ϥ.all(R:ζ f h b a g)(J:Ϥ f h b a d []):∀v,0<=v->v<f->v≠b->v∈d:=by
 have l:∀n v,g v=n->0<=v->v<f->v≠b->v∈d:=by
  intro n
  induction n with
  | zero=>
    intro v e k j i;have:=(R.up v k j i).2.2
    lia
  | succ n ih=>
    intro v e k j i;have u:=R.up v k j i;refine J.dn v k j i ?_ (by simp);by_cases c:a v=b
    .exact .inl c
    .exact .inr (ih (a v) (by lia) u.1.1 u.1.2 c)
 exact λv=>l _ v rfl
def Ϥ.done(R:ζ b f d a g)(J:Ϥ b f d a e []):nl b a e=oh b d a:=by
 unfold nl oh;refine cC λv i=>?_;have h:0<=v/\v<b:=by
  unfold b7 at i;obtain⟨k,j,rfl⟩:=aZ.mp i;have:=cY.mp j
  lia
 unfold Pb.front;by_cases c:v=d
 .rw[aj c,ah (by rw[c];exact J.nr)]
 .rw[ah c,aj (J.all R v h.1 h.2 c)]
def rm(n:Nat)(v:V):(List.replicate n [v]).flatten=List.replicate n v:=by
 induction n with
 | zero=>rfl
 | succ n ih=>rw[dG,gH,ih,dG];rfl
def Rz:nl a par []=List.replicate a.toNat V.ξ:=by
 unfold nl;refine gF λi=>?_;by_cases c:i<a.toNat
 .rw[aN,gZ c,jc,aj c];simp
 .rw[bW (by rw[ag,b6];lia),bW (by rw[b8];lia)]
def nQ(a:fz):Nat->Int->List Int
 | 0,v=>[v]
 | n+1,v=>v::nQ a n (a v)
def ζ.pos(R:ζ e f d c b)(g:0<=a)(i:a<e)(h:a≠d):b a=b (c a)+1:=(R.up a g i h).2.2.symm
theorem Co(R:ζ c f d a b):∀(n:Nat)(v:Int),b v=n->0<=v->v<c->(nQ a n v).Nodup/\(∀x∈nQ a n v,(0<=x/\x<c)/\b x<=n)/\(nQ a n v).length=n+1
 | 0,v,e,h0,h1=>⟨by unfold nQ;simp,λx hx=>by
  unfold nQ at hx;rw[aG.mp hx];exact⟨⟨h0,h1⟩,by lia⟩,rfl⟩
 | n+1,v,e,h0,h1=>by
   have j:v≠d:=λz=>by rw[z,R.root]at e;lia
   have u:=R.up v h0 h1 j;obtain⟨i,g,h⟩:=Co R n (a v) (by lia) u.1.1 u.1.2;unfold nQ;refine⟨bD.mpr ⟨λz=>?_,i⟩,λx hx=>?_,by rw[aO,h]⟩
   .have:=(g v z).2
    lia
   .rcases aF.mp hx with rfl|hx
    .exact⟨⟨h0,h1⟩,by lia⟩
    .exact⟨(g x hx).1,by have:=(g x hx).2;lia⟩
def lQ(R:ζ a e f d c)(i:0<=b)(k:b<a):c b+1<=a.toNat:=by
 obtain⟨h,j,l⟩:=Co R _ b rfl i k;have:=iL (m:=a) (by lia) h λx g=>(j x g).1
 lia
def wY(a:0<=v)(b:v<m):(oh m r par)[v.toNat]?=some (front r par v):=by
 unfold oh;rw[aN,gZ (by lia)];show some (front r par ((v.toNat:Nat):Int))=_;rw[cB a]
def jB(g:Good h f)(R:ζ h f l e m)(q:0<=d)(p:d<h)(r:d≠l):∃k,cL f d (e d)=some k/\2<=k/\k<=1000000:=by
 obtain⟨x,n,j⟩:=(R.up d q p r).2.1;obtain⟨i,o⟩:=cF n;have ok:=g.ok x n;rw[uP g o j];unfold i9;by_cases c:x.a=d/\x.b=e d
 .rw[aj c];exact⟨_,rfl,ok.t0,ok.t1⟩
 .rw[ah c];have s:x.a=e d/\x.b=d:=by
   rcases j with j|j
   .exact absurd j c
   .exact⟨j.2,j.1⟩
  rw[aj s];exact⟨_,rfl,ok.u0,ok.u1⟩
def sD(m:Int)(b:ix)(r:Int)(a:fz):Nat->Int->List Int
 | 0,v=>[v]
 | n+1,v=>v::(cG m b (front r a v) v).flatMap (sD m b r a n)
def eX(m:Int)(c:ix)(r:Int)(a:fz)(b:hB)(v:Int):List Int:=sD m c r a (m.toNat-1-b v) v
theorem wx{f h:Int->List Int}:∀{l:fc},(∀x∈l,f x=h x)->l.flatMap f=l.flatMap h
 | [],_=>rfl
 | a::l,e=>by rw[dP,dP,e a aL,wx λx b=>e x (aI _ b)]
def lX(g:Good b c)(R:ζ b c h a f)(m:0<=d)(q:d<b):eX b c h a f d=d::(cG b c (front h a d) d).flatMap (eX b c h a f):=by
 have o:∀u,u∈cG b c (front h a d) d->(0<=u/\u<b)/\u≠h/\a u=d:=λu=>(de g R m q).mp;have k:∀u∈cG b c (front h a d) d,f u=f d+1/\f u+1<=b.toNat:=λu i=>by
  obtain⟨j,l,p⟩:=o u i;have:=R.pos j.1 j.2 l;rw[p]at this;exact⟨this,lQ R j.1 j.2⟩
 unfold eX;cases e:b.toNat-1-f d with
 | zero=>
   have:cG b c (front h a d) d=[]:=ie.mpr λu i=>by
    have:=k u i
    lia
   rw[this]
   rfl
 | succ n=>
   show d::(cG b c (front h a d) d).flatMap (sD b c h a n)=_;rw[wx λu i=>show sD b c h a n u=sD b c h a (b.toNat-1-f u) u by rw[show b.toNat-1-f u=n by have:=k u i;lia]]
def up(a:fz):Nat->Int->Int
 | 0,x=>x
 | k+1,x=>a (up a k x)
theorem BZ{f:Int->List Int}:∀{l:fc},l.Nodup->(∀u∈l,(f u).Nodup)->(∀u∈l,∀w∈l,∀x,x∈f u->x∈f w->u=w)->(l.flatMap f).Nodup
 | [],_,_,_=>by simp
 | a::l,n,h1,h2=>by
   obtain⟨h,i⟩:=bD.mp n;rw[dP,eL];refine⟨h1 a aL,BZ i (λu c=>h1 u (aI _ c)) (λu c w b=>h2 u (aI _ c) w (aI _ b)),λx e y g z=>?_⟩;subst z;obtain⟨w,b,d⟩:=iG.mp g;have:=h2 a aL w (aI _ b) x e d;exact h (this▸b)
theorem vZ(g:Good d b)(R:ζ d b h a c):∀(n:Nat)(v:Int),0<=v->v<d->(sD d b h a n v).Nodup/\∀x∈sD d b h a n v,(0<=x/\x<d)/\∃k,c x=c v+k/\up a k x=v
 | 0,v,h0,h1=>⟨by unfold sD;simp,λx hx=>by
  unfold sD at hx;rw[aG.mp hx];exact⟨⟨h0,h1⟩,0,rfl,rfl⟩⟩
 | n+1,v,h0,h1=>by
   have m:∀u,u∈cG d b (front h a v) v->(0<=u/\u<d)/\u≠h/\a u=v:=λu=>(de g R h0 h1).mp;have A:(cG d b (front h a v) v).Nodup:=tz;have j:=λu i=>vZ g R n u (m u i).1.1 (m u i).1.2;have l:∀u∈cG d b (front h a v) v,c u=c v+1:=λu i=>by
    obtain⟨o,s,y⟩:=m u i;have:=R.pos o.1 o.2 s;rw[y]at this;exact this
   unfold sD;refine⟨bD.mpr ⟨λz=>?_,BZ A (λu i=>(j u i).1) λu i w p x hx q=>?_⟩,λx hx=>?_⟩
   .obtain⟨u,i,hv⟩:=iG.mp z;obtain⟨_,k,e,_⟩:=(j u i).2 v hv;have:=l u i
    lia
   .obtain⟨_,k1,e1,f1⟩:=(j u i).2 x hx;obtain⟨_,r,D,t⟩:=(j w p).2 x q;have E:=l u i;have C:=l w p;have:k1=r:=(by lia);rw[<-f1,<-t,this]
   .rcases aF.mp hx with rfl|hx
    .exact⟨⟨h0,h1⟩,0,rfl,rfl⟩
    .obtain⟨u,i,hv⟩:=iG.mp hx;obtain⟨B,k,e,f⟩:=(j u i).2 x hv;exact⟨B,k+1,by rw[e,l u i];lia,by show a (up a k x)=v;rw[f];exact(m u i).2.2⟩
def p8(g:Good a d)(R:ζ a d f e b)(i:0<=c)(k:c<a):(eX a d f e b c).length<=24:=by
 obtain⟨j,l⟩:=vZ g R (a.toNat-1-b c) c i k;have:=iL (m:=a) (by lia) j λx h=>(l x h).1;have:=g.Ζ;unfold eX
 lia
end Pb
namespace L2
open PySem PySem.Spec PyProof.Rows
def Itv(K:hO)(a:Addr)(n:Nat):It:=⟨λi H=>i<n/\∃b x,ι K H a b/\b[n-1-i]?=some x,λi H x c=>c=H/\∀b,ι K H a b->b[n-1-i]?=some x,λi H=>n<=i⟩
def Pi{P:Program}{w:World}{K:hO}{Z:Expr}(a g:Addr)(n:Nat):Turn P w K Z (Itv K a n) [g] g (λi h=>i<=n/\h.IsRevIter g a ((n:Int)-1-(i:Int))) where
 mem:=by simp
 obj:=λi h st b hb=>by
  have e:b=g:=by simpa using hb
  subst e;obtain⟨_,o,e,c,d⟩:=st;exact⟨o,e,λv z=>by rw[d]at z;cases z⟩
 keep:=λi h m st k=>⟨st.1,st.2.at λo e=>k g (by simp) o e⟩
 item:=by
  intro X A hw C M i f s J H E I l st D;subst A hw C;obtain⟨hi,xs,x,L,G⟩:=D;obtain⟨ad,O,p,hz⟩:=I.list L;obtain⟨u,S,V⟩:=O.get G;obtain⟨r,F,f2,B,t,y⟩:=l g (by simp);have Q:(n:Int)-1-(i:Int)=((n-1-i:Nat):Int):=by lia
  have j:=st.2;rw[Q]at j;refine wpAny_pyNext_rev_item j p.isList (x:=u) (by simpa using S) λm q N=>?_;have T:Inv X f J H { s with heap:=m }:=I.turned (t':=s.toks) (λb o hb e=>(N.2 b hb).trans e) r F B t y;obtain⟨o,e,c,d⟩:=id q;have Y:((n-1-i:Nat):Int)-1=(n:Int)-1-((i+1:Nat):Int):=by lia
  rw[Y]at q;exact⟨u,rfl,Dg (s:={ s with heap:=m }) e c d (by decide) ⟨x,H,T,V,⟨rfl,λys R=>by rw[I.ϱ R L];exact G⟩,⟨hi,q⟩,λb hb=>(l b hb).1⟩⟩
 done:=by
  intro X A hw C M i f s J H E I l st D;subst A hw C;have ac:n<=i:=D;obtain⟨r,F,f2,B,t,y⟩:=l g (by simp);have j:=st.2;have Zw:=st.1;rw[show(n:Int)-1-(i:Int)=-1 by lia]at j;exact wpAny_pyNext_rev_end (I.ok.hd M) j λm U=>⟨rfl,I.turned (t':=s.toks) (λb o hb e=>U b o hb e) r F B t y⟩
 self:=λ_ _ _ _ _ st h=>iK st.2 h
def Oy(K:hO)(d:TE):TI:=λe H R=>d e H λx b=>∃a c,x=.ref a/\ι K b a c/\R (Itv K a c.length) b
def uc{X:Cx}{B:Expr}{e:Expr}{n:TE}{w:Pos}{c:Pos}(G:Gl X "reversed")(y:X.mg "reversed"=none)(E:PE X e n)(m:starEach [e] X.env=[(false,eval e X.env)]:=by rfl):PI X B (.Call (.Name "reversed" w) [e] [] c) (Oy X.K n):=by
 intro d s t H R I h;refine Call_ (pR I G y boot_reversed (cR ?_ m rfl));rw[m];show wpAny _ _ (spliced ((false,eval e X.env)::backTo c [])) _ _ s;refine ii (eF (E d s t H _ I h) λu g x A f F J=>iE ?_);obtain⟨a,j,z,D,q⟩:=J;subst z;cases F;obtain⟨k,p,C,L⟩:=f.list D;refine call_reversed_list C.isList ?_;have r:k.toArray.size=j.length:=by rw[aR,p.length]
 rw[r];refine iK (i:=(j.length:Int)-1) (l:=a) ⟨_,bc _ rfl,rfl,rfl⟩ ?_;refine⟨g.heap.objs.size,[g.heap.objs.size],_,_,A,rfl,f.kept (t':=g.toks) λb o e=>aB _ e,Pi a _ j.length,⟨cg _,?_⟩,λb v=>?_,q⟩
 .exact⟨_,bc _ rfl,rfl,by simp[revObj]⟩
 .have e:b=g.heap.objs.size:=by simpa using v
  subst e;exact f.U1 (aJ _) (f.Β.fresh (aJ _))
def qY{K:hO}{a:Addr}{xs:List V}{g:TG}{l:TS}{D:Ends}{b:St}{H:Hp}(d:Nat->St->Hp->Prop)(r:d 0 b H)(v:∀i b H,i<=xs.length->d i b H->ι K H a xs)(u:∀(i:Nat) (x:V) (b:St) (H:Hp) (N:St->Hp->Prop),(∀c f,d (i+1) c f->N c f)->xs.reverse[i]?=some x->d i b H->g x b H λh t=>l { D with nx:=N,ct:=N,bk:=D.nx } h t)(o:∀b H,d xs.length b H->D.nx b H):va (Itv K a xs.length) D g l b H:=by
 refine⟨λi m b H=>m=xs.length-i/\i<=xs.length/\d i b H,⟨xs.length,by simp,cg _,r⟩,?_⟩;rintro i m b H ⟨rfl,n,p⟩;have q:=v i b H n p;by_cases j:i<xs.length
 .have hx:xs[xs.length-1-i]?=some xs[xs.length-1-i]:=az (by lia);refine .inr ⟨⟨j,xs,_,q,hx⟩,λc f=>∃k,k<xs.length-i/\(k=xs.length-(i+1)/\i+1<=xs.length/\d (i+1) c f),λc f z=>z,λx f y=>?_⟩;obtain⟨e,y⟩:=y;subst e;exact u i x b _ _ (λc f s=>⟨xs.length-(i+1),by lia,rfl,j,s⟩) (by rw[cw j];exact y xs q) p
 .have e:i=xs.length:=by lia
  subst e;exact .inl ⟨aJ _,o b H p⟩
theorem Af(a:fc):∀n,n<=a.length->preSum (λi=>a.getD i 0) n=(a.take n).sum
 | 0,_=>by simp[preSum]
 | n+1,h=>by
   have c:=Af a n (by lia);have b:n<a.length:=by lia
   rw[bg,az b,iW,<-c];simp[preSum,List.getD,b]
def AV(R:a.calm=true):lx a (.builtin "sum") (λN H Q=>∃(p:Addr)(f:fc),N=[.ref p]/\(ι a.K H p (f.map V.int)\/Α a.K H p (f.map V.int))/\Q (.int f.sum) H):=by
 intro M s S H N T Q I r h;obtain⟨p,f,rfl,hp,q⟩:=h;obtain⟨u,rfl,B⟩:=oB r;cases B;have O:a.A.in1.handled=none:=I.ok.hd R;have g:∀{c:hT},Vals (f.map V.int) c->c.length=f.length/\∀(i:Nat)(v:Value),c.toArray[i]?=some v->∃t,v=Value.int (f.getD i 0) t:=by
  intro c k;have d:c.length=f.length:=by rw[<-k.length,ag]
  refine⟨d,λi v w=>?_⟩;have J:c[i]?=some v:=by simpa using w
  have P:i<f.length:=by rw[<-d];exact(ax.mp J).1
  obtain⟨u,L,B⟩:=k.get (i:=i) (x:=V.int f[i]) (by rw[aN,az P];rfl);rw[J]at L;cases L;obtain⟨t,e⟩:=(show ∃t,v=Value.int f[i] t from B);exact⟨t,by rw[e];simp[List.getD,P]⟩
 have m:∀{n:Nat},n=f.length->preSum (λi=>f.getD i 0) n=f.sum:=λ{n} e=>by rw[Af f n (by lia),bZ (by lia)]
 rcases hp with hp|hp
 .obtain⟨c,k,pl,hz⟩:=I.list hp;obtain⟨d,E⟩:=g k;have l:=pl.isList;have y:=pl.lt;refine call_sum_walkG (ik l ?_);refine⟨s.heap.objs.size,[s.heap.objs.size,p],[s.heap.objs.size],c.toArray.size,_,_,λi=>f.getD i 0,rfl,Walks.list (A:=a.A.in1) O _ p (aV y) c.toArray,⟨⟨_,bc _ rfl,rfl,rfl⟩,l.push _⟩,λb z=>?_,λi v w=>E i v w,λC F t' G=>?_⟩
  .simp only[Heap.push,ng];rcases aF.mp z with e|e
   .rw[e];exact fQ _
   .rw[aG.mp e];exact gq y
  .have kk:∀b o,s.heap.get? b=some o->C.get? b=some o:=λb o j=>G b o (λD=>by rw[aG.mp D]at j;exact cV _ (aK j)) (aB _ j);rw[m (by rw[aR,d])];exact⟨.int _,H,I.kept (t':=F) kk,⟨t',rfl⟩,q⟩
 .obtain⟨c,k,pl,hz⟩:=I.tuple hp;obtain⟨d,E⟩:=g k;have l:s.heap.IsTuple p c.toArray:=pl;have y:p<s.heap.objs.size:=by
   obtain⟨o,e,_⟩:=id l;exact aK e
  refine call_sum_walkG (kq l ?_);refine⟨s.heap.objs.size,[s.heap.objs.size,p],[s.heap.objs.size],c.toArray.size,_,_,λi=>f.getD i 0,rfl,Walks.tuple (A:=a.A.in1) O _ p (aV y) c.toArray,⟨⟨_,bc _ rfl,rfl,rfl⟩,l.push _⟩,λb z=>?_,λi v w=>E i v w,λC F t' G=>?_⟩
  .simp only[Heap.push,ng];rcases aF.mp z with e|e
   .rw[e];exact fQ _
   .rw[aG.mp e];exact gq y
  .have kk:∀b o,s.heap.get? b=some o->C.get? b=some o:=λb o j=>G b o (λD=>by rw[aG.mp D]at j;exact cV _ (aK j)) (aB _ j);rw[m (by rw[aR,d])];exact⟨.int _,H,I.kept (t':=F) kk,⟨t',rfl⟩,q⟩
def Sq(_ j:Int):Prop:=0<j/\j<18446744073709551616
def Gv :bY a (binaryOp .FloorDiv) (rI Sq λi j=>.int (i/j)):=ZA λi j _ _ _ _ _ b q=>by
 have f:(0:Int)<j:=b.1;have e:j<18446744073709551616:=b.2;refine floordiv_int (by lia) (by rw[lf i (by lia)];exact q) (.inl ?_);have d:j.natAbs.log2<64:=(lW (by lia)).mpr (by lia);unfold Builtin.divisionGoesByPylong;have c:(j==0)=false:=by simp;lia
 simp only[c,dL,if_false];have:¬(j.natAbs.log2/30+1>300):=by lia
 simp[this]
def wr{X:Cx}(K:hO)(f:X.K=K){a:List Expr}{k:Nat}{b:Pos}{t:Yy}{n:Nat}(c:X.calm=true)(h:Zz X a t)(d:(assignEach a X.env).length=n:=by rfl)(e:(assignEach a X.env).findIdx? (·.1)=none:=by rfl):PG X (.Tuple a k b) (Kq K n t):=by
 subst f;exact iH c h d e
def Bh{K:hO}{c d:Bool}{a b p:Addr}{xs zs:List V}{Q:VK}{g:TG}{A:TT}{C:TE}{o:St}{w:Hp}(l:Nat->List V->St->Hp->Prop)(G:l 0 [] o w)(T:∀i f h H,l i f h H->Ω K c H a xs/\Ω K d H b zs)(R:∀(i:Nat) (x z:V) (f:List V) (h:St) (H:Hp) (q:Addr) (N:List V->St->Hp->Prop),(∀r j n,l (i+1) r j n->N r j n)->xs[i]?=some x->zs[i]?=some z->l i f h H->H q=none->g (.ref q) h (upd H q (.tup [x,z])) λk O=>A k O λb u=>
 if b=true then C k u λy B=>B p=some (.lst f)/\f.length<sizeLine/\N (f++[y]) k (upd B p (.lst (f++[y])))else N f k u)(E:∀f h H,l (min xs.length zs.length) f h H->Q (.ref p) H):ue (Itz K c d a b) p Q g A C o w:=by
 refine⟨λi m f h H=>m=min xs.length zs.length-i/\i<=min xs.length zs.length/\l i f h H,⟨_,rfl,cg _,G⟩,?_⟩;rintro i m f h H ⟨rfl,U,pv⟩;obtain⟨t,s⟩:=T i f h H pv;by_cases S:i<min xs.length zs.length
 .refine .inr ⟨⟨xs,zs,xs[i]'(by lia),zs[i]'(by lia),t,s,az (by lia),az (by lia)⟩,λx n y=>?_⟩;obtain⟨J,F,M,P,rfl,rfl,I,L⟩:=y;exact R i F M f h H J (λr j n=>∃v,v<min xs.length zs.length-i/\(v=min xs.length zs.length-(i+1)/\i+1<=min xs.length zs.length/\l (i+1) r j n)) (λr j n D=>⟨min xs.length zs.length-(i+1),by lia,rfl,S,D⟩) (I xs t) (L zs s) pv P
 .have e:i=min xs.length zs.length:=by lia
  subst e;exact .inl ⟨⟨xs,zs,t,s,by lia⟩,E f h H pv⟩
def nZ(h:d c=some (.lst b))(g:0<=a)(i:a<b.length)(q:e (upd d c (.lst (b.set a.toNat f)))):Wf (.ref c) (.int a) f d e:=⟨c,b,a,a.toNat,rfl,rfl,h,by unfold Vx;rw[aj g,aj (by lia)],q⟩
def Ϲ{xs:fc}{i:Int}(a:0<=i)(b:i<xs.length):ϳ (xs.map V.int) i=some (.int (xs.getD i.toNat 0)):=fR a (by
 have h:i.toNat<xs.length:=by lia
 rw[aN,az h];simp[List.getD,h])
def FY(n:Nat)(v:V):(List.replicate n [v]).flatten=List.replicate n v:=by
 induction n with
 | zero=>rfl
 | succ n ih=>rw[dG,gH,ih,dG];rfl
def RG{a:fc}{n:Nat}{v:Int}(h:∀x∈a,0<=x)(c:0<=v):∀x∈a.set n v,0<=x:=λx b=>by
 rcases fC b with h1|h1
 .exact h x h1
 .rw[h1];exact c
def J9{a:fc}(h:∀x∈a,0<=x)(n:Nat):0<=a.getD n 0:=by
 by_cases z:n<a.length
 .rw[List.getD,az z];exact h _ (dh z)
 .rw[List.getD,bW (by lia)];exact bO _
def p5 :Ro a (DC a.K):=by
 intro c s l H x y v u Q I n A h;obtain⟨p,M,i,z,rfl,rfl,C,D,q⟩:=h;cases n;obtain⟨t,rfl⟩:=A;obtain⟨e,r,k,L⟩:=I.list C;obtain⟨j,d,E,G,o,B⟩:=zL D;obtain⟨w,g,m⟩:=r.get E;have F:=r.length;have J:=qD;have b:EP a c l Q w s:=⟨z,H,I,m,q⟩;by_cases f:0<=i
 .have hj:i.toNat=j:=by
   rw[seqIndex_of f B]at d;exact bF d
  exact wpAny_getItem_list k.isList f (by lia) (by rw[hj];simpa using g) b
 .have hj:(i+(e.toArray.size:Int)).toNat=j:=by
   rw[seqIndex_neg (by lia) o]at d;rw[aR,<-F];exact bF d
  exact wpAny_getItem_list_neg k.isList (by lia) (by rw[aR]<;>lia) (by lia) (by rw[hj];simpa using g) b
def PQ{K:hO}{a p:Addr}{xs:List V}{Q:VK}{g:TG}{u:TT}{w:TE}{l:St}{t:Hp}(j:Nat->List V->St->Hp->Prop)(C:j 0 [] l t)(F:∀i c d H,i<=xs.length->j i c d H->ι K H a xs)(E:∀(i:Nat) (x:V) (c:List V) (d:St) (H:Hp) (N:List V->St->Hp->Prop),(∀n f k,j (i+1) n f k->N n f k)->xs.reverse[i]?=some x->j i c d H->g x d H λh D=>u h D λb r=>
 if b=true then w h r λy v=>v p=some (.lst c)/\c.length<sizeLine/\N (c++[y]) h (upd v p (.lst (c++[y])))else N c h r)(B:∀c d H,j xs.length c d H->Q (.ref p) H):ue (Itv K a xs.length) p Q g u w l t:=by
 refine⟨λi m c d H=>m=xs.length-i/\i<=xs.length/\j i c d H,⟨xs.length,by simp,cg _,C⟩,?_⟩;rintro i m c d H ⟨rfl,A,pv⟩;have q:=F i c d H A pv;by_cases o:i<xs.length
 .have hx:xs[xs.length-1-i]?=some xs[xs.length-1-i]:=az (by lia);refine .inr ⟨⟨o,xs,_,q,hx⟩,λx k y=>?_⟩;obtain⟨e,y⟩:=y;subst e;exact E i x c d _ (λn f k=>∃s,s<xs.length-i/\(s=xs.length-(i+1)/\i+1<=xs.length/\j (i+1) n f k)) (λn f k z=>⟨xs.length-(i+1),by lia,rfl,o,z⟩) (by rw[cw o];exact y xs q) pv
 .have e:i=xs.length:=by lia
  subst e;exact .inl ⟨aJ _,B c d H pv⟩
end L2
namespace Pb
open L2
def After(a:fz):List Int->List Int->Prop
 | _,[]=>True
 | S,c::t=>a c∈S/\After a (c::S) t
theorem After.mono:∀{l S d:fc},(∀x∈S,x∈d)->After b S l->After b d l
 | [],_,_,_,_=>trivial
 | c::t,S,d,h,a=>⟨h _ a.1,After.mono (λx f=>by
  rcases aF.mp f with e|e
  .exact aF.mpr (.inl e)
  .exact aI _ (h x e)) a.2⟩
theorem After.append:∀{f e S:fc},After d S f->After d S e->After d S (f++e)
 | [],_,_,_,b=>b
 | c::t,e,S,a,b=>⟨a.1,After.append a.2 (b.mono λx g=>aI _ g)⟩
theorem After.up:∀{A B S:fc},After b S (A++B)->∀k∈A,b k∈S\/b k∈A
 | [],_,_,_,k,hk=>by cases hk
 | c::t,B,S,a,k,hk=>by
   rcases aF.mp hk with e|e
   .rw[e];exact .inl a.1
   .rcases After.up (A:=t) (B:=B) a.2 k e with h|h
    .rcases aF.mp h with h|h
     .exact .inr (by rw[h];exact aL)
     .exact .inl h
    .exact .inr (aI _ h)
section
variable{m:Int}{r:Int}{a:fz}
structure Order(m r:Int)(a:fz)(t:fc):Prop where
 nd:(r::t).Nodup
 ϓ:∀v∈t,0<=v/\v<m
 all:∀v,0<=v->v<m->v=r\/v∈t
 af:After a [r] t
end
def Order.ne(O:Order e b a d)(h:c∈d):c≠b:=λz=>(bD.mp O.nd).1 (z▸h)
theorem BR(g:Good c b)(R:ζ c b d a e):∀(n:Nat)(v:Int)(S:fc),0<=v->v<c->a v∈S->After a S (sD c b d a n v)
 | 0,v,S,_,_,h=>⟨h,trivial⟩
 | n+1,v,S,h0,h1,h=>by
   refine⟨h,?_⟩;have:∀(f:fc)(S:fc),v∈S->(∀u∈f,u∈cG c b (front d a v) v)->After a S (f.flatMap (sD c b d a n)):=by
    intro f
    induction f with
    | nil=>intro S _ _;exact trivial
    | cons u f ih=>
      intro S i k;rw[dP];obtain⟨j,p,o⟩:=(de g R h0 h1).mp (k u aL);exact(BR g R n u S j.1 j.2 (by rw[o];exact i)).append (ih S i λx l=>k x (aI _ l))
   exact this _ _ aL λu m=>m
def BS(g:Good f c)(R:ζ f c a b d)(j:0<=a)(m:a<f)(l:(eX f c a b d a).Nodup)(i:∀v,v∈eX f c a b d a↔0<=v/\v<f):∃t,eX f c a b d a=a::t/\Order f a b t:=by
 have e:=lX g R j m;refine⟨_,e,?_⟩;rw[e]at l i;refine⟨l,λv s=>(i v).mp (aI _ s),λv r q=>aF.mp ((i v).mpr ⟨r,q⟩),?_⟩;have:∀h:List Int,(∀u∈h,u∈cG f c (front a b a) a)->After b [a] (h.flatMap (eX f c a b d)):=by
  intro h
  induction h with
  | nil=>intro _;exact trivial
  | cons u h ih=>
    intro n;rw[dP];obtain⟨k,y,w⟩:=(de g R j m).mp (n u aL);exact(BR g R _ u [a] k.1 k.2 (by rw[w];exact aL)).append (ih λx o=>n x (aI _ o))
 exact this _ λu p=>p
def Bb(m:Int)(e:ix)(r:Int)(b:fz)(a:fz)(d:iv):Nat->Int->Int
 | 0,v=>a v
 | n+1,v=>a v+((cG m e (front r b v) v).map λc=>d c (Bb m e r b a d n c)).sum
def Ϟ(m:Int)(e:ix)(r:Int)(b:fz)(c:hB)(a:fz)(d:iv)(v:Int):Int:=Bb m e r b a d (m.toNat-1-c v) v
def wI(g:Good d i)(R:ζ d i k a b)(s:0<=f)(q:f<d):Ϟ d i k a b h j f=h f+((cG d i (front k a f) f).map λc=>j c (Ϟ d i k a b h j c)).sum:=by
 have t:∀u,u∈cG d i (front k a f) f->(0<=u/\u<d)/\u≠k/\a u=f:=λu=>(de g R s q).mp;have o:∀u∈cG d i (front k a f) f,b u=b f+1/\b u+1<=d.toNat:=λu l=>by
  obtain⟨m,p,r⟩:=t u l;have:=R.pos m.1 m.2 p;rw[r]at this;exact⟨this,lQ R m.1 m.2⟩
 unfold Ϟ;cases e:d.toNat-1-b f with
 | zero=>
   have:cG d i (front k a f) f=[]:=ie.mpr λu l=>by
    have:=o u l
    lia
   rw[this];simp[Bb]
 | succ n=>
   show h f+_=_;rw[cC λu l=>show j u (Bb d i k a h j n u)=j u (Bb d i k a h j (d.toNat-1-b u) u) by rw[show d.toNat-1-b u=n by have:=o u l;lia]]
def wU{l:fc}(h:l.Perm a):l.sum=a.sum:=by
 induction h with
 | nil=>rfl
 | cons x _ ih=>rw[bf,bf,ih]
 | swap x y l=>simp only[bf];lia
 | trans _ _ h1 h2=>exact h1.trans h2
def rZ(a:fz)(c:iv)(b:fc)(v:Int):List Int:=b.set (a v).toNat (b.getD (a v).toNat 0+c v (b.getD v.toNat 0))
section
variable{m:Int}{f:ix}{r:Int}{b:fz}{e:hB}{a:fz}{d:iv}
structure ϖ(m:Int)(f:ix)(r:Int)(b:fz)(e:hB)(a:fz)(d:iv)(t cs:fc):Prop where
 len:(cs.length:Int)=m
 val:∀v,0<=v->v<m->cs.getD v.toNat 0=a v+((t.filter λc=>decide (b c=v)).map λc=>d c (Ϟ m f r b e a d c)).sum
end
def ϖ.nil(h:(a.length:Int)=d):ϖ d f g b e (λv=>a.getD v.toNat 0) c [] a:=⟨h,λv _ _=>by simp⟩
def AF(g:Good b d)(R:ζ b d e a f){t:fc}(j:t.Nodup)(i:∀x∈t,(0<=x/\x<b)/\x≠e){v:Int}(l:0<=v)(n:v<b)(m:∀k,0<=k->k<b->k≠e->a k=v->k∈t):(t.filter λc=>decide (a c=v)).Perm (cG b d (front e a v) v):=by
 refine jW (j.filter _) tz λx=>?_;rw[cf,de g R l n,b4];exact⟨λh=>⟨(i x h.1).1,(i x h.1).2,h.2⟩,λh=>⟨m x h.1.1 h.1.2 h.2.1 h.2.2,h.2.2⟩⟩
def ϖ.full(g:Good b c)(R:ζ b c f a d)(s:ϖ b c f a d e i h j)(n:h.Nodup)(o:∀x∈h,(0<=x/\x<b)/\x≠f){v:Int}(m:0<=v)(l:v<b)(p:∀k,0<=k->k<b->k≠f->a k=v->k∈h):j.getD v.toNat 0=Ϟ b c f a d e i v:=by
 rw[s.val v m l,wI g R m l,wU ((AF g R n o m l p).map _)]
def ϖ.step(g:Good k j)(R:ζ k j l a h)(s:ϖ k j l a h f b m i)(p:0<=d)(o:d<k)(hr:d≠l)(e:i.getD d.toNat 0=Ϟ k j l a h f b d):ϖ k j l a h f b (d::m) (rZ a b i d) where
 len:=by unfold rZ;rw[bN];exact s.len
 val:=λu u0 u1=>by
  have q:=(R.up d p o hr).1;have r:=s.len;have n:=s.val u u0 u1;unfold rZ;rw[e];by_cases c:a d=u
  .have hl:u.toNat<i.length:=(by lia);rw[dE (by simpa using c),aE,bf,c];rw[show(i.set u.toNat (i.getD u.toNat 0+b d (Ϟ k j l a h f b d))).getD u.toNat 0=i.getD u.toNat 0+b d (Ϟ k j l a h f b d) by simp[List.getD,hl],n]
   lia
  .rw[dD (by simpa using c),<-n];have:(a d).toNat≠u.toNat:=(by lia);simp[List.getD,cA this]
def Order.places(O:Order c b a d):∀x∈d,(0<=x/\x<c)/\x≠b:=λx e=>⟨O.ϓ x e,O.ne e⟩
def Order.turn(g:Good m i)(R:ζ m i n c f)(O:Order m n c a)(s:ϖ m i n c f h d (a.drop (a.length-l)) o)(q:a.reverse[l]?=some b):((0<=b/\b<m)/\b≠n)/\o.getD b.toNat 0=Ϟ m i n c f h d b/\ϖ m i n c f h d (a.drop (a.length-(l+1))) (rZ c d o b):=by
 have G:l<a.length:=by
  have:=(ax.mp q).1
  rwa [aQ]at this
 rw[cw G]at q;generalize K:a.length-1-l=j at q;have J:a.length-l=j+1:=by lia
 have r:a.length-(l+1)=j:=by lia
 rw[J]at s;rw[r];have A:j<a.length:=by lia
 have H:b∈a:=aP q;have p:=O.places b H;have C:a.drop j=b::a.drop (j+1):=by
  rw[i7 A];rw[az A]at q;cases q
  rfl
 have t:a=a.take j++b::a.drop (j+1):=by rw[<-C,dg]
 have D:=(bD.mp O.nd).2;have B:=D;rw[t]at B;have I:b∉a.take j:=λz=>(eL.mp B).2.2 b z b aL rfl;have e:=s.full g R (D.sublist (List.drop_sublist _ _)) (λx F=>O.places x (gC F)) p.1.1 p.1.2 λk v y E u=>by
  rcases O.all k v y with z|z
  .exact absurd z E
  .rw[t]at z;rcases bi.mp z with z|z
   .have af:=O.af;rw[t]at af;rcases af.up k z with w|w
    .rw[u]at w;exact absurd (aG.mp w) p.2
    .rw[u]at w;exact absurd w I
   .rcases aF.mp z with z|z
    .subst z;exact absurd u (R.ne v y E)
    .exact z
 exact⟨p,e,by rw[C];exact s.step g R p.1.1 p.1.2 p.2 e⟩
def oV(m:Int)(e:ix)(r:Int)(b:fz)(c:hB)(a:fz)(d:iv):List Int:=(b7 m.toNat).map (Ϟ m e r b c a d)
def ut(i:0<=c)(j:c<f):(oV f g h b e a d).getD c.toNat 0=Ϟ f g h b e a d c:=by
 unfold oV;rw[List.getD,aN,gZ (by lia),cB i]
 rfl
def Order.done(g:Good b c)(R:ζ b c l a d)(O:Order b l a n)(s:ϖ b c l a d f m n j):j=oV b c l a d f m:=by
 have t:=s.len;refine gF λi=>?_;by_cases h:i<b.toNat
 .have hc:i<j.length:=by lia
  have e:=s.full g R (bD.mp O.nd).2 O.places (v:=(i:Int)) (by lia) (by lia) λk o p q r=>(O.all k o p).resolve_left q;unfold oV;rw[aN,gZ h];rw[dJ,List.getD,az hc]at e;rw[az hc];exact congrArg some e
 .unfold oV;rw[bW (by lia),bW (by rw[ag,b6];lia)]
def ϯ(b:ix)(a:fz)(v x:Int):Int:=x/(cL b v (a v)).getD 1
def Pp(v:Int):ϯ b a v 0=0:=by unfold ϯ;exact Int.zero_ediv _
def tol(b:ix)(a:fz)(v:Int):Int:=(cL b v (a v)).getD 1
def VA(m:Int)(d:ix)(r:Int)(a:fz)(c:hB)(b:fz)(v:Int):Int:=ϯ d a v (Ϟ m d r a c b (ϯ d a) v)
section
variable{m:Int}{d:ix}{r:Int}{a:fz}{b:fz}
theorem JV(e:∀v,0<=b v)(f:∀v x,0<=x->0<=ϯ d a v x):∀(n:Nat)(v:Int),0<=Bb m d r a b (ϯ d a) n v
 | 0,v=>e v
 | n+1,v=>by
   show 0<=b v+_;have:∀l:List Int,0<=(l.map λc=>ϯ d a c (Bb m d r a b (ϯ d a) n c)).sum:=by
    intro l
    induction l with
    | nil=>exact bO _
    | cons c l ih=>
      rw[aE,bf];have:=f c _ (JV e f n c)
      lia
   have g:=this (cG m d (front r a v) v);have h:=e v
   lia
end
def RH(g:Good f d)(v x:Int)(h:0<=x):0<=ϯ d c v x:=by
 unfold ϯ;refine my h ?_;cases e:cL d v (c v)with
 | none=>decide
 | some k=>
   have n:=P3.mp (show(cL d v (c v)).isSome=true by rw[e];rfl);obtain⟨x,l,j⟩:=n;obtain⟨i,m⟩:=cF l;have ok:=g.ok x l;rw[uP g m (by rcases j with⟨a,b⟩|⟨a,b⟩;exact .inl ⟨a,b⟩;exact .inr ⟨a,b⟩)]at e;unfold i9 at e;have t0:=ok.t0;have u0:=ok.u0;show 0<=k;split at e
   .cases e;lia
   .split at e
    .cases e;lia
    .cases e
def R9(g:Good m b)(c:∀v,0<=a v)(v:Int):0<=Ϟ m b r par dep a (ϯ b par) v:=JV c (RH g) _ _
def Be(l:fc)(i j:Nat)(x:Int)(h:i<l.length):(l.set i x).getD j 0=if i=j then x else l.getD j 0:=by
 by_cases c:i=j
 .subst c;rw[aj rfl];simp[List.getD,h]
 .rw[ah c];simp[List.getD,cA c]
def lR(m:Int)(d:ix)(r:Int)(b:fz)(c:hB)(a:fz)(l:fc):List Int:=l.filter λv=>decide (0<VA m d r b c a v)
def KB(c:0<VA g e f b d a h):lR g e f b d a (i++[h])=lR g e f b d a i++[h]:=by
 unfold lR;rw[cz]
 congr 1
 exact dE (l:=[]) (bo c)
def Kt(c:¬0<VA h e g b d a f):lR h e g b d a (i++[f])=lR h e g b d a i:=by
 unfold lR;rw[cz];have:[f].filter (λf=>decide (0<VA h e g b d a f))=[]:=dD (l:=[]) (λz=>c (bB z));rw[this,ck]
section
open PySem
def K1(m:Int)(d:ix)(r:Int)(b:fz)(c:hB)(a:fz)(v:Int):List V:=[.int v,.int (b v),.int (VA m d r b c a v)]
abbrev Ϡ(H:Hp)(m:Int)(d:ix)(r:Int)(b:fz)(c:hB)(a:fz):List Addr->List Int->Prop:=Paired λq v=>H q=some (.tup (K1 m d r b c a v))
theorem Ϡ.snoc(e:h i=some (.tup (K1 g d f b c a j))):∀{k:hR}{l:fc},Ϡ h g d f b c a k l->Ϡ h g d f b c a (k++[i]) (l++[j])
 | _,_,.nil=>.cons e .nil
 | _,_,.cons x xs=>.cons x (Ϡ.snoc e xs)
end
end Pb
namespace L2
open PySem PySem.Spec PyProof.Rows
def wE(a:fc)(lo b:Option Int):List Int:=(a.drop (HT.TQ a.length 0 lo)).take (HT.TQ a.length a.length b-HT.TQ a.length 0 lo)
def HA(b:fc)(lo a:Option Int):xX (b.map V.int) lo a=(wE b lo a).map V.int:=by
 unfold xX wE;rw[ag,List.map_take,nj]
def Pq(a:fc)(lo b:Option Int):(wE a lo b).length<=a.length:=by
 unfold wE;rw[bq,fN]
 lia
def slI{K:hO}{H:Hp}{a:Addr}{c:fc}{lo b:Option Int}{Q:VK}(h:ι K H a (c.map V.int))(q:∀p,H p=none->Q (.ref p) (upd H p (.lst ((wE c lo b).map V.int)))):RZ K (.ref a) lo b H Q:=⟨a,_,rfl,h,λp d=>by rw[HA];exact q p d⟩
theorem GO:∀a b:List Int,PyData.eqvAll (a.map PyData.int) (b.map PyData.int)=decide (a=b)
 | [],[]=>by simp[PyData.eqvAll]
 | [],y::b=>by simp[PyData.eqvAll]
 | x::a,[]=>by simp[PyData.eqvAll]
 | x::a,y::b=>by
   rw[aE,aE];simp only[PyData.eqvAll];rw[GO a b];simp[PyData.eqv];by_cases d:x=y<;>by_cases c:a=b<;>simp[d,c]
def OO(K:hO)(c:Bool):R2:=λx y H Q=>∃p a i v,x=.ref p/\y=.int i/\Ω K c H p a/\ϳ a i=some v/\Q v H
def Cn(c:Bool):Xk a (OO a.K c):=by
 cases c
 .exact eM
 .exact bu
def Qk(c:Bool)(K:hO)(h:a.K=K):Xk a (OO K c):=by subst h;exact Cn c
def ixX{K:hO}{c:Bool}{H:Hp}{p:Addr}{a:List V}{i:Int}{v:V}{Q:VK}(h:Ω K c H p a)(e:ϳ a i=some v)(q:Q v H):OO K c (.ref p) (.int i) H Q:=⟨p,a,i,v,rfl,rfl,h,e,q⟩
def Et{K:hO}{H:Hp}{p:Addr}{a:List V}{i:Int}{v:V}{Q:VK}(h:Α K H p a)(e:ϳ a i=some v)(q:Q v H):Lf K (.ref p) (.int i) H Q:=⟨p,a,i,v,rfl,rfl,h,e,q⟩
end L2
namespace Pb
open L2 PySem
theorem Nb{f e:Type}{R:f->e->Prop}{a:List f}{c:List e}(h:Paired R a c):∀{d:List f}{b:List e},Paired R d b->Paired R (d++a) (b++c)
 | _,_,.nil=>h
 | _,_,.cons x xs=>.cons x (Nb h xs)
def Tx(b:ix)(a:fz)(v x:Int):Int:=if 0<=x then x/(cL b v (a v)).getD 1 else x*(cL b (a v) v).getD 1
def tP(g:Good h f)(R:ζ h f l e m)(r:0<=d)(q:d<h)(s:d≠l):∃k,cL f (e d) d=some k/\2<=k/\k<=1000000:=by
 obtain⟨x,n,j⟩:=(R.up d r q s).2.1;obtain⟨i,p⟩:=cF n;have ok:=g.ok x n;have o:xa x (e d) d:=by
  rcases j with⟨a,b⟩|⟨a,b⟩
  .exact .inr ⟨b,a⟩
  .exact .inl ⟨b,a⟩
 rw[uP g p o];unfold i9;by_cases c:x.a=e d/\x.b=d
 .rw[aj c];exact⟨_,rfl,ok.t0,ok.t1⟩
 .rw[ah c];have t:x.a=d/\x.b=e d:=by
   rcases o with w|w
   .exact absurd w c
   .exact⟨w.2,w.1⟩
  rw[aj t];exact⟨_,rfl,ok.u0,ok.u1⟩
def qG(i:Nat):b7 (i+1)=b7 i++[(i:Int)]:=by
 unfold b7;rw[dZ,aq]
 rfl
def lK(m:Int)(a b:fc):List Int:=(List.range m.toNat).map λi=>a.getD i 0-b.getD i 0
def MP(h:0<=m)(a b:fc):((lK m a b).length:Int)=m:=by unfold lK;rw[ag,cP];lia
end Pb
namespace L2
open PySem PySem.Spec PyProof.Rows
def Ho(c:Bool)(j:A.handled=none)(ne:l≠it)(a:Array Value):Draws P w A it [it,l] a.size (λi v=>a[i]?=some v) (λi h=>zAt l c it i h/\LA l c h a) where
 live:=λi h st=>let ⟨o,e,_⟩:=(kg l c P w).obj _ _ _ st.1;⟨o,e⟩
 frame:=λi h b st k=>⟨(kg l c P w).atK _ _ _ _ st.1 λo e=>k it (by simp) o e,(kg l c P w).Ub _ _ _ st.2 λo e=>k l (by simp) o e⟩
 item:=λi s Q E hi st d=>(kg l c P w).item A s it i a a[i] Q E st.1 st.2 (by simp[hi]) λb f g=>d a[i] b s.toks (by simp[hi]) ⟨f,(kg l c P w).Ub _ _ _ st.2 λo e=>g.extBut _ _ ne e⟩ g
 done:=λs Q E st d=>(kg l c P w).fin A s it a.size a Q E j st.1 st.2 (by simp) λb e n m=>d b e n m
abbrev FZ(n:Nat):Obj:={ cls:=.type "enumerate",data:=.fields #[.none,.bool false,.ref n,rawInt 0,.none,.none] }
def D6(S:∀P w,Rw P w h e a f)(l:Array Value):Meets (Builtin.«enumerate.__new__» ⟨[.type "enumerate",.ref h],[]⟩) (λ_ R s=>a s.heap l/\R (.ok (.ret (.ref (s.heap.push e).objs.size))) { s with heap:=(s.heap.push e).push (FZ s.heap.objs.size) }):=.of_wp λi w A R s k=>by
 obtain⟨p,g,d,n,os⟩:=s;obtain⟨q,r⟩:=k;have o:=sub_enumerate;have j:a (Shared.heap ⟨p,g,d,n,os⟩) l:=q
 wp_walk using ((S i w).start _ _ _ _ _ j)
 refine wpAny_stack_any λst=>?_;dsimp only;refine bh ?_;have m:∀b:Bool,b=true\/b=false:=λb=>by cases b<;>simp
 split
 .rename_i c _ _ _ _ _
  rcases m (c==Value.type "enumerate")with z|z
  .rw[z]
   wp_walk using ((S i w).start _ _ _ _ _ j)
   exact⟨_,rfl,r⟩
  .rw[z]
   wp_walk using ((S i w).start _ _ _ _ _ j)
   exact⟨_,rfl,r⟩
 .wp_walk using ((S i w).start _ _ _ _ _ j)
  exact⟨_,rfl,r⟩
def Mw{s:Shared}(S:∀P w,Rw P w g a b d){Q:hL}(q:b s.heap f)(r:a.isFreed=false)(h:∀k,IsEnum k (s.heap.objs.size+1) s.heap.objs.size 0 .none->d s.heap.objs.size 0 k->(∀c o,s.heap.get? c=some o->k.get? c=some o)->Q (.ref (s.heap.objs.size+1)) { s with heap:=k }):wpAny (model P w) j (call (.type "enumerate") [.ref g]) Q i s:=by
 refine callType_new F.called_enumerate (by decide) (F.typeCall_enumerate_1 _) (F.newCall_enumerate_1 _) (λl=>F.args_object_init_2 l _) F.entry_enumerate_new (D6 S f) ⟨q,?_⟩;have n:(s.heap.push a).objs.size=s.heap.objs.size+1:=d5 ..;have m:((s.heap.push a).push (FZ s.heap.objs.size)).get? (s.heap.push a).objs.size=some (FZ s.heap.objs.size):=bc _ rfl;have p:((s.heap.push a).push (FZ s.heap.objs.size)).get? s.heap.objs.size=some a:=aB _ (bc _ r);show _/\_;rw[n]at m;rw[n];exact⟨⟨_,m,rfl⟩,h _ m ((S P w).first _ _ p) λc o e=>aB _ (aB _ e)⟩
def Ite(K:hO)(c:Bool)(a:Addr):It:=⟨λi H=>∃b x,Ω K c H a b/\b[i]?=some x,λi H v d=>∃p x,H p=none/\v=.ref p/\d=upd H p (.tup [.int i,x])/\∀b,Ω K c H a b->b[i]?=some x,λi H=>∃b,Ω K c H a b/\b.length=i⟩
def Mf{P:Program}{w:World}{K:hO}{G:List Expr}{x1}{UH:Pos}(c:Bool)(a e it:Addr)(ne:e≠it)(ae:a≠e)(ai:a≠it):Turn P w K (.Tuple G x1 UH) (Ite K c a) [e,it] e (λi h=>(∃y,IsEnum h e it (i:Nat) y)/\zAt a c it i h) where
 mem:=by simp
 obj:=λi h t b hb=>by
  obtain⟨⟨y,t1⟩,F⟩:=t;simp only[aF,dQ,or_false]at hb;rcases hb with rfl|rfl
  .exact⟨_,t1,λv z=>by cases z⟩
  .exact(kg a c P w).obj _ _ _ F
 keep:=λi h O t k=>by
  obtain⟨⟨y,t1⟩,F⟩:=t;exact⟨⟨y,k e (by simp) _ t1⟩,(kg a c P w).atK _ _ _ _ F λo e=>k it (by simp) o e⟩
 item:=λX e1 e2 e3 hc i B s σ H E I f t g=>by
  subst e1 e2 e3;obtain⟨⟨y,t1⟩,F⟩:=t;obtain⟨U,x,s1,Y⟩:=g;obtain⟨L,r1,q1⟩:=I.ϫ s1;obtain⟨xu,S,rx⟩:=r1.get Y;have hh:X.A.in1.handled=none:=I.ok.hd hc;have D:∀q∈[e,it],p6 X B H q:=f;have W:=WalksT.enumerateD (A:=X.A) (Ho (P:=X.prog) (w:=X.w) (A:=X.A.in1) (l:=a) c (it:=it) hh ai L.toArray) e ne (by simp;exact⟨ne,ae.symm⟩) (by simp);have Tt:i<L.toArray.size:=by
   have:=(ax.mp S).1
   simpa using this
  refine W.item i s _ _ Tt ⟨⟨y,t1⟩,F,q1⟩ λT a6 O tk pt le tup M keep=>?_;refine⟨_,rfl,W.go G x1 UH i T { s with heap:=O,toks:=tk } _ _ M λV UQ X7=>?_⟩;obtain⟨tt,xv,px,ev⟩:=pt;have ak:xv=xu:=by
   have h1:L[i]?=some xv:=(by simpa using px);rw[S]at h1;cases h1
   rfl
  subst ak;have Tw:T∉[e,it]:=W.apart i T O M;have kp:∀q o,q∉[e,it]->s.heap.get? q=some o->V.get? q=some o:=λq o d eo=>X7 q o d (keep q o d eo);obtain⟨ot,ht,al,nt,ad⟩:=tup;have new:V.get? T=some ot:=X7 T ot Tw ht;have N:∀q u,H q=some u->q∉[e,it]:=λq u e d=>by rw[(D q d).1]at e;cases e
  have J:H T=none:=I.Β.fresh le;have Z:∀q o,s.heap.get? q=some o->q≠T:=λq o eo=>aV (aU (aK eo) le);have C:Inv X B σ H { s with heap:=V,toks:=tk }:=by
   refine I.step (g':=s.gens) (d':=s.drawn) (t':=tk) (ch:=[e,it]) (λq d=>⟨(D q d).2.2.2.1,(D q d).2.1,(D q d).2.2.2.2.1,(D q d).2.2.2.2.2⟩) (λq o _ _ d e _=>kp q o d e) (λq o _ _ d e _=>⟨o.slots,kp q o d e⟩) (λ_ _ _ _ n=>n)
    (λq o d e=>⟨o,kp q o d e⟩) (λ_ _ e=>e) (λ_ _ _ e=>e) (λq ps e=>⟨#[],by rw[e];simp⟩) (λm hm=>?_) (λq u e=>?_) I.bare
   .obtain⟨o,es,ep,ho,r⟩:=hm;exact⟨o,es,ep,kp _ o (λd=>(D _ d).2.1 rfl) ho,r⟩
   .refine(I.Β q u e).lE (λR v Ti j=>kp R v ?_ j) (λ_ j=>j) λ_ _ j=>j;rcases Ti with rfl|Ti
    .exact N _ u e
    .exact N _ _ Ti
  have I3:Inv X B σ (upd H T (.tup [.int i,x])) { s with heap:=V,toks:=tk }:=by
   refine⟨C.ok,C.os,C.bare,?_,C.loc,C.cell,?_,λn c e=>?_,λp hp=>?_,λq u e=>?_,C.len⟩
   .refine⟨C.base.keep,C.base.slot,λq o e n Y=>?_,C.base.there,λq U e=>?_,λq o u e=>?_,λq ps e=>?_⟩
    .have lt:q<X.s₀.heap.objs.size:=aK e;rw[aM (aV (aU lt (aW I.sz le)))];exact C.base.free q o e n Y
    .have j:=C.base.lT q U e;rw[aM (λz=>by rw[z,J]at j;cases j)];exact j
    .have j:=C.base.gE q o u e;rw[aM (λz=>by rw[z,J]at j;cases j)];exact j
    .obtain⟨more,j⟩:=C.base.nE q ps e;exact⟨more,by rw[aM (λz=>by rw[z,J]at j;cases j)];exact j⟩
   .rw[aM (aV (aU I.lt le))];exact C.free
   .obtain⟨vv,o,ho,_⟩:=I.cell n c e;rw[aM (Z _ _ ho)];exact C.ϔ n c e
   .obtain⟨k1,k2,k3⟩:=I.pin p hp;rw[aM (Z _ _ k1)];exact C.pin p hp
   .by_cases d:q=T
    .subst d;rw[au]at e;cases e;refine⟨by show 2<=sizeLine;decide,[.int (i:Nat) tt,xv],.cons ⟨tt,rfl⟩ (.cons rx .nil),ot,new,al,nt,?_⟩;rw[ad,ev]
    .rw[aM d]at e;refine(C.Β q u e).lE (λ_ _ _ j=>j) (λR j=>?_) λR U j=>?_
     .rw[aM (λz=>by rw[z,J]at j;cases j)];exact j
     .rw[aM (λz=>by rw[z,J]at j;cases j)];exact j
  refine⟨.ref T,_,I3,rfl,⟨T,x,J,rfl,rfl,λbK q=>?_⟩,⟨UQ.1,UQ.2.1⟩,λq d=>?_⟩
  .rw[<-I.Uc s1 q];exact Y
  .have ϐ:q≠T:=by
    simp only[aF,dQ,or_false]at d;rcases d with rfl|rfl
    .exact Z _ _ t1
    .exact let ⟨o,e,_⟩:=(kg a c X.prog X.w).obj _ _ _ F;Z _ _ e
   rw[aM ϐ];exact(D q d).1
 done:=λX e1 e2 e3 hc i B s σ H E I f t g=>by
  subst e1 e2 e3;obtain⟨⟨y,t1⟩,F⟩:=t;obtain⟨U,s1,Xu⟩:=g;obtain⟨L,r1,q1⟩:=I.ϫ s1;have hh:X.A.in1.handled=none:=I.ok.hd hc;have D:∀q∈[e,it],p6 X B H q:=f;have W:=WalksT.enumerateD (A:=X.A) (Ho (P:=X.prog) (w:=X.w) (A:=X.A.in1) (l:=a) c (it:=it) hh ai L.toArray) e ne (by simp;exact⟨ne,ae.symm⟩) (by simp);have ei:i=L.toArray.size:=by
   have:=r1.length;simp
   lia
  subst ei;refine W.done s _ _ ⟨⟨y,t1⟩,F,q1⟩ λO tk keep=>⟨rfl,?_⟩;have kp:∀q o,q∉[e,it]->s.heap.get? q=some o->O.get? q=some o:=λq o d e=>keep q o d e;have N:∀q u,H q=some u->q∉[e,it]:=λq u e d=>by rw[(D q d).1]at e;cases e
  refine I.step (g':=s.gens) (d':=s.drawn) (t':=tk) (ch:=[e,it]) (λq d=>⟨(D q d).2.2.2.1,(D q d).2.1,(D q d).2.2.2.2.1,(D q d).2.2.2.2.2⟩) (λq o _ _ d e _=>kp q o d e) (λq o _ _ d e _=>⟨o.slots,kp q o d e⟩) (λ_ _ _ _ n=>n)
   (λq o d e=>⟨o,kp q o d e⟩) (λ_ _ e=>e) (λ_ _ _ e=>e) (λq ps e=>⟨#[],by rw[e];simp⟩) (λm hm=>?_) (λq u e=>?_) I.bare
  .obtain⟨o,es,ep,ho,r⟩:=hm;exact⟨o,es,ep,kp _ o (λd=>(D _ d).2.1 rfl) ho,r⟩
  .refine(I.Β q u e).lE (λR v Ti j=>kp R v ?_ j) (λ_ j=>j) λ_ _ j=>j;rcases Ti with rfl|Ti
   .exact N _ u e
   .exact N _ _ Ti
 self:=λA i s Q E t q=>by
  obtain⟨⟨y,t1⟩,F⟩:=t;exact wpAny_pyIter_enum t1 q
def Ke(K:hO)(c:Bool)(d:TE):TI:=λe H R=>d e H λx b=>∃a,x=.ref a/\(∃f,Ω K c b a f)/\R (Ite K c a) b
def zI{X:Cx}{e:Expr}{t:TE}{w:Pos}{f:Pos}{d:List Expr}{x1}{UH:Pos}(c:Bool)(hg:Gl X "enumerate")(hm:X.mg "enumerate"=none)(he:PE X e t)(h2:starEach [e] X.env=[(false,eval e X.env)]:=by rfl):PI X (.Tuple d x1 UH) (.Call (.Name "enumerate" w) [e] [] f) (Ke X.K c t):=by
 intro i s v H R I h;refine Call_ (pR I hg hm boot_enumerate (cR ?_ h2 rfl));rw[h2];show wpAny _ _ (spliced ((false,eval e X.env)::backTo f [])) _ _ s;refine ii (eF (he i s v H _ I h) λu k x A j r l=>iE ?_);obtain⟨a,y,⟨G,B⟩,q⟩:=l;subst y;cases r;obtain⟨E,r,l⟩:=j.ϫ B;obtain⟨F,m⟩:=sQ a c _ _ l;have n:=aK m;refine Mw (kg a c) l (yp a c) λD o z C=>?_;refine wpAny_pyIter_enum o ?_;refine⟨_,[k.heap.objs.size+1,k.heap.objs.size],_,_,A,rfl,j.kept (t':=k.toks) C,Mf c a _ _ (Nat.succ_ne_self _) (aV (gq n)) (aV n),⟨⟨_,o⟩,z⟩,λb p=>?_,q⟩;have g:k.heap.objs.size<=b:=by
  simp only[aF,dQ,or_false]at p;rcases p with rfl|rfl
  .exact gA _
  .exact aJ _
 exact j.U1 g (j.Β.fresh g)
def Hm{K:hO}{c:Bool}{a:Addr}{xs:List V}{g:TG}{o:TS}{D:Ends}{b:St}{H:Hp}(f:Nat->St->Hp->Prop)(t:f 0 b H)(B:∀i b H,f i b H->Ω K c H a xs)(A:∀(i:Nat) (x:V) (b:St) (H:Hp) (p:Addr) (N:St->Hp->Prop),(∀d h,f (i+1) d h->N d h)->xs[i]?=some x->f i b H->H p=none->g (.ref p) b (upd H p (.tup [.int i,x])) λj v=>o { D with nx:=N,ct:=N,bk:=D.nx } j v)(r:∀b H,f xs.length b H->D.nx b H):va (Ite K c a) D g o b H:=by
 refine⟨λi m b H=>m=xs.length-i/\i<=xs.length/\f i b H,⟨_,rfl,cg _,t⟩,?_⟩;rintro i m b H ⟨rfl,C,p⟩;have l:=B i b H p;by_cases q:i<xs.length
 .refine .inr ⟨⟨xs,xs[i],l,az q⟩,λd h=>∃n,n<xs.length-i/\(n=xs.length-(i+1)/\i+1<=xs.length/\f (i+1) d h),λd h z=>z,λx h y=>?_⟩;obtain⟨k,s,w,rfl,rfl,u⟩:=y;exact A i s b H k _ (λd h k=>⟨xs.length-(i+1),by lia,rfl,q,k⟩) (u xs l) p w
 .have e:i=xs.length:=by lia
  subst e;exact .inl ⟨⟨xs,l,rfl⟩,r b H p⟩
end L2
namespace Pb
open L2 PySem
abbrev ϻ:=Int×Int×Int
def Xx(s:ϻ):List V:=[.int s.1,.int s.2.1,.int s.2.2]
abbrev Δ(H:Hp):List Addr->List ϻ->Prop:=Paired λq s=>H q=some (.tup (Xx s))
def Δ.same(e:δ H a)(h:Δ H b c):Δ a b c:=Paired.imp' (λq v x=>e q _ x) h
theorem Δ.get :∀{d:hR}{f:List ϻ}{i:Nat}{x:V},Δ c d f->(d.map V.ref)[i]?=some x->∃p v,x=.ref p/\d[i]?=some p/\f[i]?=some v/\c p=some (.tup (Xx v))
 | _,_,i,x,.nil,e=>by simp at e
 | _,_,0,x,.cons (a:=p) (b:=r) h hs,e=>⟨p,r,by simpa using e.symm,by simp,by simp,h⟩
 | a::l1,_,i+1,x,.cons h hs,e=>by
   have m:(List.map V.ref l1)[i]?=some x:=by simpa using e
   obtain⟨p,r,j,k,g,l⟩:=Δ.get hs m;exact⟨p,r,j,by simpa using k,by simpa using g,l⟩
theorem zH{R:a->b->Prop}(h:R c d):∀{f:List a}{e:List b},Paired R f e->Paired R (f++[c]) (e++[d])
 | _,_,.nil=>.cons h .nil
 | _,_,.cons x xs=>.cons x (zH h xs)
theorem Hs :∀{j:List c}{g:List f}{i:Nat}{x:c},Paired d j g->j[i]?=some x->∃v,g[i]?=some v/\d x v
 | _,_,i,x,.nil,e=>by simp at e
 | _,_,0,x,.cons (a:=p) (b:=r) h hs,e=>by
   have:p=x:=by simpa using e
   subst this;exact⟨r,by simp,h⟩
 | a::l1,_,i+1,x,.cons h hs,e=>by
   have m:l1[i]?=some x:=by simpa using e
   obtain⟨v,k,l⟩:=Hs hs m;exact⟨v,by simpa using k,l⟩
abbrev My(H:Hp):List Addr->List (List Int)->Prop:=Paired λq a=>H q=some (.tup (a.map V.int))
def jH(c:ix)(a b:Int):Int:=(cL c a b).getD 1
def pF(b:ix)(a:fc)(s:ϻ):List Int:=(a.set s.1.toNat (a.getD s.1.toNat 0-s.2.2*jH b s.1 s.2.1)).set s.2.1.toNat ((a.set s.1.toNat (a.getD s.1.toNat 0-s.2.2*jH b s.1 s.2.1)).getD s.2.1.toNat 0+s.2.2)
def EI(b:ix)(a:fc)(s:ϻ):(pF b a s).length=a.length:=by unfold pF;rw[bN,bN]
def qy(m:Int)(a:ix)(s:ϻ):Bool:=decide (0<=s.1)&&decide (s.1<m)&&decide (s.2.1∈jO m a s.1)&&decide (1<=s.2.2)
def sS(m:Int)(a:ix)(b:fc)(s:ϻ):Bool:=qy m a s&&decide (s.2.2*jH a s.1 s.2.1<=b.getD s.1.toNat 0)
def qQ(a:ix)(b:fc)(c:List ϻ)(i:Nat):List Int:=(c.take i).foldl (pF a) b
def uR(b:ix)(c:fc)(a:List ϻ):List (List Int):=(List.range (a.length+1)).map (qQ b c a)
def Ik(m:Int)(b:ix)(c:fc)(a:List ϻ):Prop:=∀i s,a[i]?=some s->sS m b (qQ b c a i) s=true
def NP(c:ix)(b:fc)(d:List ϻ)(i:Nat):(qQ c b d i).length=b.length:=by
 unfold qQ;have:∀(l:List ϻ)(a:fc),(l.foldl (pF c) a).length=a.length:=by
  intro l
  induction l with
  | nil=>intro a;rfl
  | cons s l ih=>intro a;rw[iY,ih,EI]
 exact this _ _
def Ms(h:a[c]?=some e):qQ b d a (c+1)=pF b (qQ b d a c) e:=by
 unfold qQ;rw[bg,h,lC]
 rfl
def yq(b:ix)(c:fc)(a:List ϻ):(uR b c a).length=a.length+1:=by unfold uR;rw[ag,cP]
def uF(h:i<=ss.length):(uR rs xs ss)[i]?=some (qQ rs xs ss i):=by
 unfold uR;rw[aN,gM (by lia)]
 rfl
def MB(b:ix)(a:fc)(c:List ϻ):qQ b a c 0=a:=by unfold qQ;rw[dU];rfl
def wZ(h:qy b c a=true):(0<=a.1/\a.1<b)/\a.2.1∈jO b c a.1/\1<=a.2.2:=by
 unfold qy at h;rw[bG,bG,bG]at h;exact⟨⟨bB h.1.1.1,bB h.1.1.2⟩,bB h.1.2,bB h.2⟩
def BL(g:Good l f)(h:U8 f d e):∃k,cL f d e=some k/\2<=k/\k<=1000000:=by
 obtain⟨x,m,j⟩:=h;obtain⟨i,o⟩:=cF m;have ok:=g.ok x m;have n:xa x d e:=j;rw[uP g o n];unfold i9;by_cases c:x.a=d/\x.b=e
 .rw[aj c];exact⟨_,rfl,ok.t0,ok.t1⟩
 .rw[ah c];have p:x.a=e/\x.b=d:=by
   rcases n with w|w
   .exact absurd w c
   .exact⟨w.2,w.1⟩
  rw[aj p];exact⟨_,rfl,ok.u0,ok.u1⟩
def Fg(g:Good c b)(h:qy c b a=true):∃k,cL b a.1 a.2.1=some k/\jH b a.1 a.2.1=k/\(2<=k/\k<=1000000)/\(0<=a.2.1/\a.2.1<c):=by
 obtain⟨j,f,i⟩:=wZ h;have d:=(wR g).mp f;obtain⟨k,e,r⟩:=BL g d;exact⟨k,e,by unfold jH;rw[e];rfl,r,(g.WW d).2.1⟩
def DR(a:fc):PyData:=.tuple (a.map PyData.int)
def Hf(h:b c=some (.tup (a.map V.int))):Le d b (.ref c) (DR a):=.tup (Α.of h) (yV a)
def LK(a:fc):(DR a).depth<=2:=by
 unfold DR;have:=xN a;simp only[PyData.depth]
 lia
end Pb
namespace Pb
open L2
def zN{f h:fz}{l:fc}(a:∀c∈l,f c=h c):(l.map f).sum=(l.map h).sum:=by rw[cC a]
theorem Jr{f h:fz}{c0:Int}:∀{l:fc},l.Nodup->c0∈l->(∀c∈l,c≠c0->f c=h c)->(l.map f).sum=(l.map h).sum+(f c0-h c0)
 | [],_,hm,_=>by cases hm
 | c::l,nd,hm,hl=>by
   obtain⟨b,d⟩:=bD.mp nd;rw[aE,aE,bf,bf];by_cases z:c=c0
   .subst z;rw[zN (f:=f) (h:=h) (l:=l) λx a=>hl x (aI _ a) λw=>b (w▸a)]
    lia
   .have hm':c0∈l:=by
     rcases aF.mp hm with w|w
     .exact absurd w.symm z
     .exact w
    rw[hl c aL z,Jr d hm' λx a=>hl x (aI _ a)]
    lia
end Pb
namespace L2
open PySem PySem.Spec PyProof.Rows
def Nn(b:List V)(f:0<=a):xX b (some a) none=b.drop a.toNat:=by
 unfold xX;have d:HT.TQ b.length b.length none=b.length:=rfl;have e:HT.TQ b.length 0 (some a)=min a.toNat b.length:=by
  show(if a<0 then(a+(b.length:Int)).toNat else min a.toNat b.length)=_;rw[ah (by lia)]
 rw[d,e,bZ (by rw[fN];lia)];by_cases c:a.toNat<=b.length
 .rw[Nat.min_eq_left c]
 .rw[Nat.min_eq_right (by lia),mM (aJ _),mM (by lia)]
end L2
namespace Pb
open L2 PySem
def VY(c:Bool)(H:Hp)(a:Addr)(b:List V):Prop:=H a=some (if c then .lst b else .tup b)
def VY.sq(h:VY a d c b):Ω K a d c b:=by
 cases a
 .exact Α.of h
 .exact ι.of h
def Ep(a:fz)(b:Int):Nat->Int->Bool
 | 0,v=>decide (v=b)
 | n+1,v=>decide (v=b)||Ep a b n (a v)
def ZI(a:fz)(c:hB)(b v:Int):Bool:=Ep a b (c v) v
def Of(R:ζ f g e a c)(j:0<=b)(h:b<f)(i:b≠e):ZI a c d b=(decide (b=d)||ZI a c d (a b)):=by
 unfold ZI;rw[R.pos j h i]
 rfl
end Pb
namespace L2
def b9(h:∀N:St->Hp->Prop,(∀f g,c a f g->N f g)->e { a with nx:=N } b d):Km e c a b d:=h (c a) λ_ _ z=>z
def lJ(h:∀k j:St->Hp->Prop,(∀g i,b a g i->k g i)->(∀g i,d a g i->j g i)->Ij f (λ_=>k) (λ_=>j) a c e):Ij f b d a c e:=h (b a) (d a) (λ_ _ z=>z) λ_ _ z=>z
end L2
namespace L2
open PySem
def jM(h:Nat->St->Hp->Prop)(o:h 0 a b)(s:∀i a b,i<=xs.length->h i a b->ι K b f xs)(r:∀(i:Nat) (x:V) (a:St) (b:Hp) (N B:St->Hp->Prop),(∀a b,(e x a b λg k=>d { c with nx:=N,ct:=N,bk:=c.nx } g k)->B a b)->(∀j l,h (i+1) j l->N j l)->xs[i]?=some x->h i a b->B a b)(n:∀(B:St->Hp->Prop) a b,(∀a b,c.nx a b->B a b)->h xs.length a b->B a b):va (X0 K f) c e d a b:=uV h o s (λi x a b N q m p=>r i x a b N (λa b=>e x a b λg k=>d { c with nx:=N,ct:=N,bk:=c.nx } g k) (λ_ _ z=>z) q m p) λa b p=>n (λa b=>c.nx a b) a b (λ_ _ z=>z) p
def Kr(j:Nat->St->Hp->Prop)(q:j 0 a b)(r:∀(i:Nat) (a:St) (b:Hp) (N B:St->Hp->Prop),(∀a b,(g (.int (d+i)) a b λh l=>e { c with nx:=N,ct:=N,bk:=c.nx } h l)->B a b)->(∀k m,j (i+1) k m->N k m)->i<f->j i a b->B a b)(o:∀(B:St->Hp->Prop) a b,(∀a b,c.nx a b->B a b)->j f a b->B a b):va (WO d f) c g e a b:=Cv j q (λi a b N s n p=>r i a b N (λa b=>g (.int (d+i)) a b λh l=>e { c with nx:=N,ct:=N,bk:=c.nx } h l) (λ_ _ z=>z) s n p) λa b p=>o (λa b=>c.nx a b) a b (λ_ _ z=>z) p
def Dw(W:Nat->St->Hp->Prop)(k:Nat)(m:W k a c)(q:∀(n:Nat) (a:St) (c:Hp) (N:St->Hp->Prop) (B:Nat->St->Hp->Prop),(∀n a c,(f a c λb j=>if b=true then ∃N:St->Hp->Prop,(∀g h,N g h->∃i,i<n/\W i g h)/\e { d with nx:=N,ct:=N,bk:=d.nx } a j else d.nx a j)->B n a c)->(∀l g h,l<n->W l g h->N g h)->(∀g h,N g h->∃i,i<n/\W i g h)->W n a c->B n a c):GQ f e d a c:=Ej W k m λn a c N o p w=>q n a c N (λn a c=>f a c λb j=>if b=true then ∃N:St->Hp->Prop,(∀g h,N g h->∃i,i<n/\W i g h)/\e { d with nx:=N,ct:=N,bk:=d.nx } a j else d.nx a j) (λ_ _ _ z=>z) o p w
def Vl(f:b)(h:c)(g:a)(e:d):b/\c/\a/\d:=⟨f,h,g,e⟩
def an5(g:b)(j:d)(i:a)(f:e)(h:c):b/\d/\a/\e/\c:=⟨g,j,i,f,h⟩
def an6(h:c)(l:e)(j:a)(g:f)(i:d)(k:b):c/\e/\a/\f/\d/\b:=⟨h,l,j,g,i,k⟩
def an7(i:c)(m:e)(k:a)(h:f)(j:d)(l:b)(n:g):c/\e/\a/\f/\d/\b/\g:=⟨i,m,k,h,j,l,n⟩
def an9(l:c)(p:f)(n:a)(k:h)(m:d)(o:b)(r:g)(j:e)(q:i):c/\f/\a/\h/\d/\b/\g/\e/\i:=⟨l,p,n,k,m,o,r,j,q⟩
end L2
namespace Pb
open L2 PySem
theorem JJ:∀(n:Nat)(v:Int),Ep a b n v=decide (b∈nQ a n v)
 | 0,v=>by
   show decide (v=b)=decide (b∈[v]);exact decide_eq_decide.mpr ⟨λz=>by rw[z];exact aL,λz=>(aG.mp z).symm⟩
 | n+1,v=>by
   show(decide (v=b)||Ep a b n (a v))=decide (b∈v::nQ a n (a v));rw[JJ n (a v)];by_cases c:v=b
   .rw[bo c,Bool.true_or,bo (by rw[c];exact aL)]
   .rw[bM c,og];exact decide_eq_decide.mpr ⟨λz=>aI _ z,λz=>by
     rcases aF.mp z with z|z
     .exact absurd z.symm c
     .exact z⟩
theorem P7:∀(k:Nat)(x:Int),up a (k+1) x=up a k (a x)
 | 0,_=>rfl
 | k+1,x=>by show a (up a (k+1) x)=a (up a k (a x));rw[P7 k x]
theorem Ax:∀(n k:Nat)(x:Int),k<=n->up a k x∈nQ a n x
 | 0,0,x,_=>aL
 | n+1,0,x,_=>aL
 | n+1,k+1,x,h=>by
   rw[P7];exact aI _ (Ax n k (a x) (by lia))
theorem JW :∀{l:fc}{k:Nat}{p:Int},(l.flatMap a)[k]?=some p->∃u∈l,∃b rest,(a u)[b]?=some p/\(l.flatMap a).drop k=(a u).drop b++rest
 | [],k,p,h=>by simp at h
 | u::l,k,p,h=>by
   rw[dP]at h ⊢;by_cases c:k<(a u).length
   .rw[eJ c]at h;exact⟨u,aL,k,l.flatMap a,h,List.drop_append_of_le_length (iP c)⟩
   .rw[dc (by lia)]at h;obtain⟨w,d,b,rest,f,e⟩:=JW h;refine⟨w,aI _ d,b,rest,f,?_⟩;rw[<-e,List.drop_append,List.drop_eq_nil_of_le (by lia),jJ]
def NN(g:Good d c)(R:ζ d c f b a):∀(n:Nat)(v:Int),d.toNat-1-a v=n->0<=v->v<d->∀(k:Nat)(p:Int),(eX d c f b a v)[k]?=some p->∃rest,(eX d c f b a v).drop k=eX d c f b a p++rest:=by
 intro n
 induction n with
 | zero=>
   intro v o l m k p h;have e:eX d c f b a v=[v]:=by unfold eX;rw[o];rfl
   cases k with
   | zero=>
     have:p=v:=(by rw[e]at h;exact(bF h).symm);rw[this];exact⟨[],by rw[ck];rfl⟩
   | succ k=>rw[e]at h;simp at h
 | succ n ih=>
   intro v o l m k p h;have e:=lX g R l m;cases k with
   | zero=>
     have:p=v:=(by rw[e]at h;exact(bF h).symm);rw[this];exact⟨[],by rw[ck];rfl⟩
   | succ k=>
     rw[e,jf]at h;obtain⟨u,q,x,rest,s,y⟩:=JW h;obtain⟨i,w,up⟩:=(de g R l m).mp q;have r:=R.pos i.1 i.2 w;rw[up]at r;have dl:=lQ R i.1 i.2;obtain⟨j,t⟩:=ih u (by lia) i.1 i.2 x p s;exact⟨j++rest,by rw[e,oC,y,t,cj]⟩
def AN(g:Good c a)(R:ζ c a f b e)(i:0<=d)(h:d<c):d∈eX c a f b e d:=by
 rw[lX g R i h];exact aL
def QF(g:Good d f)(R:ζ d f j a c)(o:0<=b)(m:b<d)(x:Int):x∈eX d f j a c b↔(0<=x/\x<d)/\ZI a c b x=true:=by
 constructor
 .intro h;obtain⟨l,k,t,r⟩:=(vZ g R _ b o m).2 x h;refine⟨l,?_⟩;unfold ZI;rw[JJ];refine bo ?_;rw[<-r];exact Ax _ _ _ (by lia)
 .rintro⟨l,h⟩;generalize s:c x=n
  induction n generalizing x with
  | zero=>
    by_cases z:x=j
    .subst z;have:b=x:=by
      unfold ZI at h;rw[R.root]at h;exact(bB h).symm
     rw[this];exact AN g R l.1 l.2
    .have:=R.pos l.1 l.2 z
     lia
  | succ n ih=>
    have z:x≠j:=λz=>by rw[z,R.root]at s;lia
    have u:=R.up x l.1 l.2 z;rw[Of R l.1 l.2 z]at h;by_cases y:x=b
    .rw[y];exact AN g R o m
    .rw[bM y,og]at h;have p:=ih (a x) u.1 h (by lia);obtain⟨k,q⟩:=cF p;obtain⟨rest,e⟩:=NN g R _ b rfl o m k _ q;refine gC (i:=k) ?_;rw[e,lX g R u.1.1 u.1.2];refine bJ _ (aI _ (iG.mpr ⟨x,(de g R u.1.1 u.1.2).mpr ⟨l,z,rfl⟩,AN g R l.1 l.2⟩))
end Pb
namespace Pb
open PySem L2
def X8(b:ix)(a:fz)(v x:Int):Int:=x*(cL b (a v) v).getD 1
end Pb
set_option exponentiation.threshold 5000
namespace Pb
open L2 PySem
def Y4(e:iv)(m:Int)(f:ix)(r:Int)(b:fz)(a:fz)(d:iv):Nat->Int->Int
 | 0,v=>a v
 | n+1,v=>((cG m f (front r b v) v).map λc=>d c (Y4 e m f r b a d n c)).foldl e (a v)
def fo(e:iv)(m:Int)(f:ix)(r:Int)(b:fz)(c:hB)(a:fz)(d:iv)(v:Int):Int:=Y4 e m f r b a d (m.toNat-1-c v) v
def vV(g:Good f i)(R:ζ f i l b a)(t:0<=j)(r:j<f):fo k f i l b a d h j=((cG f i (front l b j) j).map λc=>h c (fo k f i l b a d h c)).foldl k (d j):=by
 have p:∀u∈cG f i (front l b j) j,a u=a j+1/\a u+1<=f.toNat:=λu m=>by
  obtain⟨o,q,s⟩:=(de g R t r).mp m;have:=R.pos o.1 o.2 q;rw[s]at this;exact⟨this,lQ R o.1 o.2⟩
 unfold fo;cases e:f.toNat-1-a j with
 | zero=>
   have:cG f i (front l b j) j=[]:=ie.mpr λu m=>by
    have:=p u m
    lia
   rw[this]
   rfl
 | succ n=>
   show List.foldl k (d j) _=_;rw[cC λu m=>show h u (Y4 k f i l b d h n u)=h u (Y4 k f i l b d h (f.toNat-1-a u) u) by rw[show f.toNat-1-a u=n by have:=p u m;lia]]
def BC(d:iv):Prop:=∀a b c,d (d a b) c=d (d a c) b
def Nw(TU:BC b){l:fc}(h:l.Perm c):∀a,l.foldl b a=c.foldl b a:=by
 induction h with
 | nil=>exact λ_=>rfl
 | cons x _ ih=>exact λa=>ih _
 | swap x y l=>intro a;show List.foldl b (b (b a y) x) l=List.foldl b (b (b a x) y) l;rw[TU]
 | trans _ _ h1 h2=>exact λa=>(h1 a).trans (h2 a)
theorem Ji(TU:BC b):∀(l:fc)(a x:Int),l.foldl b (b a x)=b (l.foldl b a) x
 | [],a,x=>rfl
 | y::l,a,x=>by show l.foldl b (b (b a x) y)=b (l.foldl b (b a y)) x;rw[TU,Ji TU l]
def zM(d:iv)(a:fz)(c:iv)(b:fc)(v:Int):List Int:=b.set (a v).toNat (d (b.getD (a v).toNat 0) (c v (b.getD v.toNat 0)))
section
variable{m:Int}{g:ix}{r:Int}{b:fz}{e:hB}{f:iv}{a:fz}{d:iv}
structure RW(f:iv)(m:Int)(g:ix)(r:Int)(b:fz)(e:hB)(a:fz)(d:iv)(t cs:fc):Prop where
 len:(cs.length:Int)=m
 val:∀v,0<=v->v<m->cs.getD v.toNat 0=((t.filter λc=>decide (b c=v)).map λc=>d c (fo f m g r b e a d c)).foldl f (a v)
end
def RW.nil(h:(b.length:Int)=c)(e:∀v,0<=v->v<c->b.getD v.toNat 0=a v):RW i c j k d g a f [] b:=⟨h,λv l m=>e v l m⟩
def RW.full(TU:BC h)(g:Good b c)(R:ζ b c f a d)(s:RW h b c f a d e j i l)(o:i.Nodup)(p:∀x∈i,(0<=x/\x<b)/\x≠f){v:Int}(n:0<=v)(m:v<b)(q:∀k,0<=k->k<b->k≠f->a k=v->k∈i):l.getD v.toNat 0=fo h b c f a d e j v:=by
 rw[s.val v n m,vV g R n m,Nw TU ((AF g R o p n m q).map _)]
def RW.step(TU:BC i)(g:Good k j)(R:ζ k j m a f)(s:RW i k j m a f h d n l)(q:0<=b)(p:b<k)(hr:b≠m)(e:l.getD b.toNat 0=fo i k j m a f h d b):RW i k j m a f h d (b::n) (zM i a d l b) where
 len:=by unfold zM;rw[bN];exact s.len
 val:=λu u0 u1=>by
  have r:=(R.up b q p hr).1;have t:=s.len;have o:=s.val u u0 u1;unfold zM;rw[e];by_cases c:a b=u
  .have hl:u.toNat<l.length:=(by lia);rw[dE (by simpa using c),aE,iY,Ji TU,<-o,c];simp[List.getD,hl]
  .rw[dD (by simpa using c),<-o];have:(a b).toNat≠u.toNat:=(by lia);simp[List.getD,cA this]
def Order.cut(R:ζ f h e d g)(O:Order f e d a)(i:a.reverse[c]?=some b):((0<=b/\b<f)/\b≠e)/\a.drop (a.length-(c+1))=b::a.drop (a.length-c)/\(a.drop (a.length-c)).Nodup/\(∀x∈a.drop (a.length-c),(0<=x/\x<f)/\x≠e)/\∀k,0<=k->k<f->k≠e->d k=b->k∈a.drop (a.length-c):=by
 have A:c<a.length:=by
  have:=(ax.mp i).1
  rwa [aQ]at this
 rw[cw A]at i;generalize E:a.length-1-c=j at i;have D:a.length-c=j+1:=by lia
 have l:a.length-(c+1)=j:=by lia
 rw[D,l];have r:j<a.length:=by lia
 have B:b∈a:=aP i;have o:=O.places b B;have t:a.drop j=b::a.drop (j+1):=by
  rw[i7 r];rw[az r]at i;cases i
  rfl
 have m:a=a.take j++b::a.drop (j+1):=by rw[<-t,dg]
 have u:=(bD.mp O.nd).2;have s:=u;rw[m]at s;have C:b∉a.take j:=λz=>(eL.mp s).2.2 b z b aL rfl;refine⟨o,t,u.sublist (List.drop_sublist _ _),λx y=>O.places x (gC y),λk p q v n=>?_⟩;rcases O.all k p q with z|z
 .exact absurd z v
 .rw[m]at z;rcases bi.mp z with z|z
  .have af:=O.af;rw[m]at af;rcases af.up k z with w|w
   .rw[n]at w;exact absurd (aG.mp w) o.2
   .rw[n]at w;exact absurd w C
  .rcases aF.mp z with z|z
   .subst z;exact absurd n (R.ne p q v)
   .exact z
def Order.aaC(TU:BC f)(g:Good i h)(R:ζ i h l a c)(O:Order i l a k)(s:RW f i h l a c d b (k.drop (k.length-n)) m)(q:k.reverse[n]?=some j):((0<=j/\j<i)/\j≠l)/\m.getD j.toNat 0=fo f i h l a c d b j/\RW f i h l a c d b (k.drop (k.length-(n+1))) (zM f a b m j):=by
 obtain⟨o,t,p,r,u⟩:=O.cut R q;have e:=s.full TU g R p r o.1.1 o.1.2 u;exact⟨o,e,by rw[t];exact s.step TU g R o.1.1 o.1.2 o.2 e⟩
def Y5(e:iv)(m:Int)(f:ix)(r:Int)(b:fz)(c:hB)(a:fz)(d:iv):List Int:=(b7 m.toNat).map (fo e m f r b c a d)
def kN(j:0<=c)(k:c<f):(Y5 h f g i b e a d).getD c.toNat 0=fo h f g i b e a d c:=by
 unfold Y5;rw[List.getD,aN,gZ (by lia),cB j]
 rfl
def tG:(Y5 g d f h b e a c).length=d.toNat:=by unfold Y5;rw[ag,b6]
def Order.doneF(TU:BC j)(g:Good b c)(R:ζ b c m a d)(O:Order b m a o)(s:RW j b c m a d f n o l):l=Y5 j b c m a d f n:=by
 have u:=s.len;refine gF λi=>?_;by_cases h:i<b.toNat
 .have hc:i<l.length:=by lia
  have e:=s.full TU g R (bD.mp O.nd).2 O.places (v:=(i:Int)) (by lia) (by lia) λk p q r t=>(O.all k p q).resolve_left r;unfold Y5;rw[aN,gZ h];rw[dJ,List.getD,az hc]at e;rw[az hc];exact congrArg some e
 .rw[bW (by lia),bW (by rw[tG];lia)]
def mx(i j:Int):Int:=if j>i then j else i
def Jt:BC mx:=λa b c=>by
 have h:∀x y,mx x y=max x y:=λx y=>by unfold mx;lia
 rw[h,h,h,h]
 lia
def bor(b:ix)(a:fz)(v x:Int):Int:=x*(cL b v (a v)).getD 1
abbrev ώ(m:Int)(c:ix)(r:Int)(a:fz)(b:hB):Int->Int:=fo mx m c r a b (λ_=>1) (bor c a)
abbrev ic(m:Int)(c:ix)(r:Int)(a:fz)(b:hB):List Int:=Y5 mx m c r a b (λ_=>1) (bor c a)
theorem zJ :∀(l:fc)(a:Int),a<=B->(∀x∈l,x<=B)->a<=l.foldl mx a/\l.foldl mx a<=B/\∀x∈l,x<=l.foldl mx a
 | [],a,h,_=>⟨bO _,h,λx b=>by cases b⟩
 | y::l,a,h,hl=>by
   have i:=hl y aL;have c:a<=mx a y/\y<=mx a y/\mx a y<=B:=by unfold mx;split<;>lia
   obtain⟨d,g,f⟩:=zJ l (mx a y) c.2.2 λx b=>hl x (aI _ b);refine⟨ci c.1 d,g,λx b=>?_⟩;rcases aF.mp b with e|e
   .rw[e];exact ci c.2.1 d
   .exact f x e
theorem Cp(g:Good d b)(R:ζ d b e a f):∀(n:Nat)(v:Int),0<=v->v<d->1<=Y4 mx d b e a (λ_=>1) (bor b a) n v/\Y4 mx d b e a (λ_=>1) (bor b a) n v<=1000000^n
 | 0,v,_,_=>⟨bO _,bO _⟩
 | n+1,v,h0,h1=>by
   have w:(1:Int)<=1000000^n:=dI (by decide);have q:(1000000:Int)^(n+1)=1000000^n*1000000:=Int.pow_succ ..;show 1<=List.foldl mx 1 _/\List.foldl mx 1 _<=_;obtain⟨m,o,_⟩:=zJ (B:=1000000^(n+1)) ((cG d b (front e a v) v).map λc=>bor b a c (Y4 mx d b e a (λ_=>1) (bor b a) n c)) 1 (by lia) λx i=>by
    obtain⟨c,r,rfl⟩:=aZ.mp i;obtain⟨h,l,y⟩:=(de g R h0 h1).mp r;obtain⟨k,s,t,j⟩:=jB g R h.1 h.2 l;obtain⟨u,p⟩:=Cp g R n c h.1 h.2;unfold bor;rw[s,q];show _*k<=_;exact dF p j (by lia) (by lia)
   exact⟨m,o⟩
def kJ(g:Good d i)(R:ζ d i j f c)(k:0<=e)(m:e<d):1<=ώ d i j f c e/\ώ d i j f c e<=2^480:=by
 obtain⟨a,b⟩:=Cp g R (d.toNat-1-c e) e k m;refine⟨a,ci b ?_⟩;have Ζ:=g.Ζ;have:(1000000:Int)^(d.toNat-1-c e)<=1000000^24:=by
  have l:d.toNat-1-c e<=24:=by lia
  have h:=Int.ofNat_le.mpr (dq (show 0<1000000 by decide) l);rw[Int.natCast_pow,Int.natCast_pow]at h;exact h
 exact ci this (by decide +kernel)
def ED(g:Good d b)(R:ζ d b e a c):∀x∈ic d b e a c,x.natAbs<2^4000:=λx f=>by
 obtain⟨v,i,rfl⟩:=aZ.mp f;obtain⟨m,n⟩:=fH.mp i;obtain⟨l,j⟩:=kJ g R m (show v<d by lia);have h:((fo mx d b e a c (λ_=>1) (bor b a) v).natAbs:Int)<=2^480:=by rw[Int.natAbs_of_nonneg (ci (by decide) l)];exact j
 have k:(fo mx d b e a c (λ_=>1) (bor b a) v).natAbs<=2^480:=by exact_mod_cast h
 exact fZ k (mQ (by decide) (by decide))
def KS(c:-(10^60)<=a)(d:a<=10^60):(a-1).natAbs<2^4000:=by
 have b:(a-1).natAbs<=10^60+1:=by lia
 exact fZ b (aU (show 10^60+1<2^200 by decide +kernel) (dq (by decide) (by decide)))
def X9(b:ix)(a:fz)(c:fc)(v:Int):Int:=c.getD v.toNat 0*((cL b v (a v)).getD 1-1)
def UJ(m:Int)(c:ix)(r:Int)(a:fz)(b:fc)(w:Int):Int:=b.getD r.toNat 0*(w-1)+(((b7 m.toNat).filter λv=>decide (v≠r)).map (X9 c a b)).sum
def Order.sums(O:Order c b a d)(f:fz):(d.map f).sum=(((b7 c.toNat).filter λv=>decide (v≠b)).map f).sum:=by
 refine wU ((jW (bD.mp O.nd).2 ((jE _).filter _) λx=>?_).map f);rw[cf,fH,b4];refine⟨λh=>⟨⟨(O.ϓ x h).1,?_⟩,O.ne h⟩,λh=>(O.all x h.1.1 ?_).resolve_left h.2⟩
 .have:=(O.ϓ x h).2
  lia
 .have:=h.1.2
  lia
def Order.Wq(O:Order a b c d)(e:0<=b)(f:b<a):d.length+1=a.toNat:=by
 have h:=(jW O.nd (jE a.toNat) λx=>by
  rw[aF,fH];refine⟨λh=>?_,λh=>O.all x h.1 (by have:=h.2;lia)⟩;rcases h with h|h
  .rw[h];exact⟨e,by lia⟩
  .have:=O.ϓ x h;exact⟨this.1,by lia⟩).length_eq
 rw[b6,aO]at h;exact h
def Pc{f:fz}{l:fc}{i:Nat}{v:Int}(h:l[i]?=some v):((l.take (i+1)).map f).sum=((l.take i).map f).sum+f v:=by
 rw[bg,h,Option.toList_some,aq,iW];simp
section
variable{m:Int}{b:ix}{a:fz}
structure Slk(m:Int)(b:ix)(a:fz)(t cs:fc):Prop where
 len:(cs.length:Int)=m
 pos:∀v,0<=v->v<m->1<=cs.getD v.toNat 0
 std:∀c∈t,cs.getD c.toNat 0*(cL b c (a c)).getD 1<=cs.getD (a c).toNat 0
end
def QX{cs:fc}{i:Nat}(h:i<cs.length):cs.getD i 0∈cs:=by
 rw[List.getD,az h];exact dh h
end Pb
namespace L2
open PySem PySem.Spec PyProof.Rows
theorem An(f:Nat->Int):∀n,argBest (λi j=>decide (f i>f j)) n<=n/\∀i,i<=n->f i<=f (argBest (λi j=>decide (f i>f j)) n)
 | 0=>⟨aJ _,λi h=>by rw[show i=0 by lia];exact bO _⟩
 | n+1=>by
   obtain⟨b,a⟩:=An f n;show(if decide (f (n+1)>f (argBest (λi j=>decide (f i>f j)) n))=true then n+1 else argBest (λi j=>decide (f i>f j)) n)<=n+1/\∀i,i<=n+1->f i<=f (if decide (f (n+1)>f (argBest (λi j=>decide (f i>f j)) n))=true then n+1 else argBest (λi j=>decide (f i>f j)) n);by_cases c:f (n+1)>f (argBest (λi j=>decide (f i>f j)) n)
   .rw[aj (bo c)];refine⟨aJ _,λi h=>?_⟩;by_cases z:i=n+1
    .rw[z];exact bO _
    .have:=a i (by lia)
     lia
   .rw[ah (by simpa using c)];refine⟨by lia,λi h=>?_⟩;by_cases z:i=n+1
    .rw[z];lia
    .exact a i (by lia)
def ML(X:a.calm=true):lx a (.builtin "max") (λF H Q=>∃(p:Addr)(c:fc),F=[.ref p]/\ι a.K H p (c.map V.int)/\c≠[]/\∀y,y∈c->(∀x∈c,x<=y)->Q (.int y) H):=by
 intro D s Z H F us Q I r h;obtain⟨p,c,rfl,W,w,q⟩:=h;obtain⟨u,rfl,m⟩:=oB r;cases m;have U:a.A.in1.handled=none:=I.ok.hd X;obtain⟨d,B,G,hz⟩:=I.list W;have f:d.length=c.length:=by rw[<-B.length,ag]
 have E:∀(i:Nat)(v:Value),d.toArray[i]?=some v->∃t,v=Value.int (c.getD i 0) t:=λi v g=>by
  have k:d[i]?=some v:=by simpa using g
  have M:i<c.length:=by rw[<-f];exact(ax.mp k).1
  obtain⟨u,C,m⟩:=B.get (i:=i) (x:=V.int c[i]) (by rw[aN,az M];rfl);rw[k]at C;cases C;obtain⟨t,e⟩:=(show ∃t,v=Value.int c[i] t from m);exact⟨t,by rw[e];simp[List.getD,M]⟩
 have N:=G.isList;have J:=G.lt;have P:0<c.length:=jX.mpr w;refine call_max_walk (ik N ?_);refine⟨s.heap.objs.size,[s.heap.objs.size,p],[s.heap.objs.size],d.toArray.size,_,_,_,rfl,Walks.list (A:=a.A.in1) U _ p (aV J) d.toArray,⟨⟨_,bc _ rfl,rfl,rfl⟩,N.push _⟩,λb l=>?_,by rw[aR,f];exact P,CmpOf.ints_gt (λi=>c.getD i 0) λi v g=>E i v g,λv R T g Y=>?_⟩
 .simp only[Heap.push,ng];rcases aF.mp l with e|e
  .rw[e];exact fQ _
  .rw[aG.mp e];exact gq J
 .have kk:∀b o,s.heap.get? b=some o->R.get? b=some o:=λb o z=>Y b o (λS=>by rw[aG.mp S]at z;exact cV _ (aK z)) (aB _ z);obtain⟨t,rfl⟩:=E _ v g;obtain⟨L,n⟩:=An (λi=>c.getD i 0) (d.toArray.size-1);rw[aR,f]at L n ⊢;generalize argBest (λi j=>decide (c.getD i 0>c.getD j 0)) (c.length-1)=b at L n ⊢;have l:b<c.length:=by lia
  refine⟨.int _,H,I.kept (t':=T) kk,⟨t,rfl⟩,q _ ?_ λx O=>?_⟩
  .rw[List.getD,az l];exact dh l
  .obtain⟨i,k,rfl⟩:=jZ O;have:=n i (by lia);rw[List.getD,az k]at this;exact this
def Xy:V->List V->Hp->VK->Prop:=λx b H Q=>∃(l:Addr)(a:fc)(y:Int),x=.ref l/\b=[.int y]/\H l=some (.lst (a.map V.int))/\y∈a/\a.length<=1000/\∀j:Nat,a[j]?=some y->(∀i,i<j->a[i]?≠some y)->Q (.int j) H
theorem HQ :∀{d:fc},b∈d->∃j:Nat,d[j]?=some b/\∀i,i<j->d[i]?≠some b
 | a::l,h=>by
   by_cases c:a=b
   .exact⟨0,by rw[c];rfl,λi e=>absurd e (Nat.not_lt_zero _)⟩
   .obtain⟨j,h1,h2⟩:=HQ ((aF.mp h).resolve_left λz=>c z.symm);refine⟨j+1,h1,λi e=>?_⟩;cases i with
    | zero=>exact λz=>c (bF z)
    | succ i=>exact h2 i (by lia)
def eqI(y:Int):Value->Bool
 | .int i _=>i==y
 | _=>false
def Pz:YK a "list.index" Xy:=by
 intro J s S H x U v W Q I O L h;obtain⟨l,g,y,rfl,rfl,P,M,X,q⟩:=h;cases O;obtain⟨u,rfl,w⟩:=L.one;obtain⟨E,rfl⟩:=(show ∃t,u=Value.int y t from w);obtain⟨z,c,n,r,T,e⟩:=I.U4 P;have d:c.length=g.length:=by rw[<-r.length,ag]
 have A:∀(i:Nat)(v:Value),c[i]?=some v->∃x t,g[i]?=some x/\v=Value.int x t:=λi v f=>by
  have K:i<g.length:=by rw[<-d];exact(ax.mp f).1
  obtain⟨u,D,w⟩:=r.get (i:=i) (x:=V.int g[i]) (by rw[aN,az K];rfl);rw[f]at D;cases D;obtain⟨t,e⟩:=(show ∃t,v=Value.int g[i] t from w);exact⟨g[i],t,az K,e⟩
 obtain⟨j,B,C⟩:=HQ M;have G:j<c.length:=by rw[d];exact(ax.mp B).1
 refine call_meets F.slot_list_index ⟨_,e,rfl⟩ F.entry_list_index (F.args_list_index_2 _ _) (PySem.MeetsSeq.list_index l c.toArray n (.int y E) (eqI y) (λv N=>?_) j (by simpa using G) (by lia) ?_ λi f p=>?_) ⟨e,?_⟩
 .obtain⟨i,f,rfl⟩:=jZ (by simpa using N);obtain⟨x,t,_,k⟩:=A i c[i] (az f);rw[k];exact PySem.MeetsSeq.EqGives.int x y t E
 .obtain⟨x,t,m,k⟩:=A j c[j] (az G);rw[B]at m;cases m;simp[k,eqI]
 .have Tt:i<c.length:=by simpa using f
  obtain⟨x,t,m,k⟩:=A i c[i] (az Tt);have:x≠y:=λz=>C i p (by rw[m,z]);simp[k,eqI,this]
 .exact⟨.int j,H,I.kept (t':=s.toks+1) λb o R=>R,⟨s.toks,rfl⟩,q j B C⟩
end L2
namespace Pb
structure VB(ns:fc)(y j:Int):Prop where
 mem:y∈ns
 top:∀x∈ns,x<=y
 at_:∃n:Nat,j=n/\ns[n]?=some y/\∀i,i<n->ns[i]?≠some y
def VB.same(a:VB g d h)(b:VB g c f):d=c/\h=f:=by
 have e:d=c:=Int.le_antisymm (b.top d a.mem) (a.top c b.mem);subst e;refine⟨rfl,?_⟩;obtain⟨n,rfl,m,l⟩:=a.at_;obtain⟨j,rfl,k,i⟩:=b.at_;have:n=j:=by
  rcases kR n j with z|z|z
  .exact absurd m (i n z)
  .exact z
  .exact absurd k (l j z)
 rw[this]
end Pb
namespace L2
open PySem PySem.Spec PyProof.Rows
def R5{l:hR}(h:l.Nodup)(i j:Nat)(k:l[i]?=some a)(m:l[j]?=some b)(g:i≠j):a≠b:=λz=>by
 subst z;obtain⟨f,c⟩:=ax.mp k;obtain⟨e,d⟩:=ax.mp m;rcases Nat.lt_or_gt_of_ne g with q|q
 .exact fD.mp h i j f e q (c.trans d.symm)
 .exact fD.mp h j i e f q (d.trans c.symm)
def Mr:bootBuiltins "str"=some (.type "str"):=by decide +kernel
end L2
namespace Pb
open L2 PySem
def tup(b:ix)(a:fz)(v:Int):Int:=(cL b v (a v)).getD 1
section
variable{m:Int}{d:ix}{r:Int}{a:fz}{c:hB}
structure Bea(m:Int)(d:ix)(r:Int)(a:fz)(c:hB)(ch:Int->Option Int):Prop where
 no:∀v,0<=v->v<m->ch v=none->cG m d (front r a v) v=[]
 hv:∀v b,0<=v->v<m->ch v=some b->b∈cG m d (front r a v) v/\ώ m d r a c b*tup d a b=ώ m d r a c v
end
def nC(g:Good d b)(R:ζ d b e a f)(h:0<=c)(m:c<d)(l:c≠e):2<=tup b a c/\tup b a c<=1000000:=by
 obtain⟨k,i,j,n⟩:=jB g R h m l;unfold tup;rw[i];exact⟨j,n⟩
theorem Fm:∀(l:fc)(a:Int),l.foldl mx a=a\/l.foldl mx a∈l
 | [],a=>.inl rfl
 | y::l,a=>by
   show l.foldl mx (mx a y)=a\/l.foldl mx (mx a y)∈y::l;rcases Fm l (mx a y)with h|h
   .rw[h];unfold mx;by_cases c:y>a
    .rw[aj c];exact .inr aL
    .rw[ah c];exact .inl rfl
   .exact .inr (aI _ h)
def EC(g:Good i b)(R:ζ i b k a f)(r:0<=j)(q:j<i)(C:cG i b (front k a j) j≠[]):∃c∈cG i b (front k a j) j,ώ i b k a f c*tup b a c=ώ i b k a f j:=by
 have e:ώ i b k a f j=((cG i b (front k a j) j).map λc=>bor b a c (ώ i b k a f c)).foldl mx 1:=vV g R r q;have m:=Fm ((cG i b (front k a j) j).map λc=>bor b a c (ώ i b k a f c)) 1;rw[<-e]at m;rcases m with h|h
 .exfalso
  obtain⟨c,l,D⟩:=List.exists_cons_of_ne_nil C;have p:c∈cG i b (front k a j) j:=by rw[D];exact aL
  obtain⟨n,y,F⟩:=(de g R r q).mp p;have t:=nC g R n.1 n.2 y;have s:=kJ g R n.1 n.2;have z:∀x∈(cG i b (front k a j) j).map λc=>bor b a c (ώ i b k a f c),x<=2^480*1000000:=λx u=>by
   obtain⟨d,v,rfl⟩:=aZ.mp u;obtain⟨o,w,E⟩:=(de g R r q).mp v;have t:=nC g R o.1 o.2 w;have s:=kJ g R o.1 o.2;show _*tup b a d<=_;exact dF s.2 t.2 (by lia) (by decide +kernel)
  obtain⟨_,_,A⟩:=zJ (B:=2^480*1000000) ((cG i b (front k a j) j).map λc=>bor b a c (ώ i b k a f c)) 1 (by decide +kernel) z;have:ώ i b k a f c*tup b a c<=_:=A _ (aZ.mpr ⟨c,p,rfl⟩);rw[<-e,h]at this;have G:(1:Int)*2<=ώ i b k a f c*tup b a c:=dF s.1 t.1 (by decide) (by lia)
  lia
 .obtain⟨c,p,ec⟩:=aZ.mp h;exact⟨c,p,ec⟩
def Va(o:Option Int):V:=match o with|none=>.ξ|some b=>.int b
def Vm(m:Int)(ch:Int->Option Int):List V:=(b7 m.toNat).map λv=>Va (ch v)
def DI(d:0<=a)(e:a<c):ϳ (Vm c b) a=some (Va (b a)):=by
 refine fR d ?_;unfold Vm;rw[aN,gZ (by lia),cB d]
 rfl
def QW(f:0<=a)(g:a<e):(Vm e b).set a.toNat (.int d)=Vm e λx=>if x=a then some d else b x:=by
 refine gF λi=>?_;unfold Vm;by_cases c:i<e.toNat
 .rw[aN,gZ c];by_cases z:a.toNat=i
  .rw[<-z,da (by rw[ag,b6];lia)];show _=some (Va (if((a.toNat:Nat):Int)=a then some d else _));rw[aj (by lia)]
   rfl
  .rw[cA z,aN,gZ c];show some (Va (b _))=some (Va (if((i:Nat):Int)=a then some d else _));rw[ah (by lia)]
 .rw[bW (by rw[bN,ag,b6];lia),bW (by rw[ag,b6];lia)]
def S7(m:Int)(d:ix)(r:Int)(a:fz)(c:hB)(t:fc)(v:Int):Option Int:=(t.filter λb=>decide (a b=v/\ώ m d r a c b*tup d a b=ώ m d r a c v)).getLast?
def Mp(h:ώ g d f a b e*tup d a e=ώ g d f a b (a e)):S7 g d f a b (i++[e])=λx=>if x=a e then some e else S7 g d f a b i x:=by
 funext x
 unfold S7;rw[cz];by_cases c:x=a e
 .subst c;rw[aj rfl,dE (by simpa using h),fJ,List.getLast?_append]
  rfl
 .rw[ah c,dD (by simp;intro z;exact absurd z.symm c),fJ,ck]
def MS(h:¬ώ e c d a b f*tup c a f=ώ e c d a b (a f)):S7 e c d a b (g++[f])=S7 e c d a b g:=by
 funext x
 unfold S7;rw[cz,dD (by simp;intro z;rw[<-z];exact h),fJ,ck]
def RY(g:Good h d)(R:ζ h d i a f)(O:Order h i a j):Bea h d i a f (S7 h d i a f j) where
 no:=λv l k e=>by
  apply Classical.byContradiction;intro z;obtain⟨c,s,r⟩:=EC g R l k z;obtain⟨c1,c2,t⟩:=(de g R l k).mp s;have m:c∈j.filter λb=>decide (a b=v/\ώ h d i a f b*tup d a b=ώ h d i a f v):=cf.mpr ⟨(O.all c c1.1 c1.2).resolve_left c2,bo ⟨t,r⟩⟩;unfold S7 at e;rw[List.getLast?_eq_none_iff]at e;rw[e]at m;cases m
 hv:=λv b l k e=>by
  have m:=List.mem_of_getLast? e;obtain⟨n,o⟩:=cf.mp m;obtain⟨p,q⟩:=bB o;exact⟨(de g R l k).mpr ⟨O.ϓ b n,O.ne n,p⟩,q⟩
section
variable{m:Int}{b:ix}{r:Int}{a:fz}
structure To(m:Int)(b:ix)(r:Int)(a:fz)(ch:Int->Option Int)(w:Int)(cn:fz):Prop where
 rt:cn r=w-1
 up:∀v,0<=v->v<m->v≠r->cn v=((if ch (a v)=some v then cn (a v)else 0)+1)*tup b a v-1
end
section
variable{m:Int}{b:ix}{r:Int}{a:fz}
structure Y6(m:Int)(b:ix)(r:Int)(a:fz)(ch:Int->Option Int)(w:Int)(t cs:fc):Prop where
 len:(cs.length:Int)=m
 rt:cs.getD r.toNat 0=w-1
 up:∀v∈t,cs.getD v.toNat 0=((if ch (a v)=some v then cs.getD (a v).toNat 0 else 0)+1)*tup b a v-1
end
def Y6.step(R:ζ g e f b j)(O:Order g f b a)(B:0<=f)(S:Y6 g e f b ch wϗ (a.take i) d)(s:a[i]?=some c)(C:h=((if ch (b c)=some c then d.getD (b c).toNat 0 else 0)+1)*tup e b c-1):Y6 g e f b ch wϗ (a.take (i+1)) (d.set c.toNat h):=by
 have D:=S.len;have y:=aP s;have F:=O.ϓ c y;have t:=O.ne y;have H:=(ax.mp s).1;have E:=(bD.mp O.nd).2;have w:a=a.take (i+1)++a.drop (i+1):=(dg _ _).symm;have r:a.take (i+1)=a.take i++[c]:=by rw[bg,s];rfl
 have A:c∉a.take i:=λz=>by
  have nd:=E;rw[w,r]at nd;exact(eL.mp (eL.mp nd).1).2.2 c z c (aG.mpr rfl) rfl
 have m:∀u,0<=u->u≠c->(d.set c.toNat h).getD u.toNat 0=d.getD u.toNat 0:=λu G I=>by rw[Be _ _ _ _ (by lia),ah (by lia)]
 have k:∀u∈a.take (i+1),b u≠c:=λu l z=>by
  have af:=O.af;rw[w]at af;rcases af.up u l with x|x
  .exact t (z▸aG.mp x)
  .rw[z,r]at x;have p:=(kU (i+1) a).subset l;have n:=O.ϓ u p;have ne:=R.ne n.1 n.2 (O.ne p);rcases bi.mp (r▸l)with q|q
   .-- u stands k of c,so its place k is not c
    have v:a=a.take i++a.drop i:=(dg _ _).symm;have o:=O.af;rw[v]at o;rcases o.up u q with wϗ|wϗ
    .exact t (z▸aG.mp wϗ)
    .exact A (z▸wϗ)
   .rw[aG.mp q]at z ne;exact ne z
 refine⟨by rw[bN];exact D,by rw[m f B (Ne.symm t)];exact S.rt,λu l=>?_⟩;have p:=(kU (i+1) a).subset l;have n:=O.ϓ u p;have up:=R.up u n.1 n.2 (O.ne p);rw[m (b u) up.1.1 (k u l)];rcases bi.mp (r▸l)with q|q
 .rw[m u n.1 (λz=>A (z▸q))];exact S.up u q
 .rw[aG.mp q,Be _ _ _ _ (by lia),aj rfl];exact C
def Y6.done(O:Order c b a f)(S:Y6 c d b a e h f g):To c d b a e h (λv=>g.getD v.toNat 0):=⟨S.rt,λv i k j=>S.up v ((O.all v i k).resolve_left j)⟩
def lies(ch:Int->Option Int)(a:fz)(v:Int):Int:=if ch v=none then a v else 0
def MI(g:Good m k)(R:ζ m k o i n)(B:Bea m k o i n j)(q:0<=d)(p:d<m)(f:fz)(c:Int):((cG m k (front o i d) d).map λu=>if j d=some u then f u else 0).sum=match j d with|some b=>f b|none=>0:=by
 cases e:j d with
 | none=>
   rw[B.no d q p e]
   rfl
 | some b=>
   obtain⟨s,_⟩:=B.hv d b q p e;rw[Jr (h:=λ_=>0) (c0:=b) tz s λu _ r=>ah (by intro z;cases z;exact r rfl)];rw[aj rfl];have:∀l:List Int,(l.map λ_=>(0:Int)).sum=0:=λl=>by
    induction l with
    | nil=>rfl
    | cons a l ih=>rw[aE,bf,ih];rfl
   rw[this];show _=f b
   lia
theorem To.nn(g:Good c d)(R:ζ c d b a h)(N:To c d b a i j f)(m:1<=j)(k:0<=b)(o:b<c):∀(n:Nat)(v:Int),h v=n->0<=v->v<c->0<=f v
 | 0,v,e,h0,h1=>by
   have:v=b:=by
    apply Classical.byContradiction;intro z;have:=R.pos h0 h1 z
    lia
   rw[this,N.rt]
   lia
 | n+1,v,e,h0,h1=>by
   by_cases z:v=b
   .rw[z,N.rt];lia
   .have u:=R.up v h0 h1 z;have q:=R.pos h0 h1 z;have p:=To.nn g R N m k o n (a v) (by lia) u.1.1 u.1.2;have l:=nC g R h0 h1 z;rw[N.up v h0 h1 z];have:1<=(if i (a v)=some v then f (a v)else 0)+1:=(by split<;>lia);have:=dF this l.1 (by decide) (by lia)
    lia
theorem To.same(R:ζ d c b a g)(N:To d c b a i j h)(k:To d c b a i j f):∀(n:Nat)(v:Int),g v=n->0<=v->v<d->h v=f v
 | 0,v,e,h0,h1=>by
   have:v=b:=by
    apply Classical.byContradiction;intro z;have:=R.pos h0 h1 z
    lia
   rw[this,N.rt,k.rt]
 | n+1,v,e,h0,h1=>by
   by_cases z:v=b
   .rw[z,N.rt,k.rt]
   .have u:=R.up v h0 h1 z;have l:=R.pos h0 h1 z;rw[N.up v h0 h1 z,k.up v h0 h1 z,To.same R N k n (a v) (by lia) u.1.1 u.1.2]
def To.Y7(R:ζ c d f a i)(N:To c d f a b h g)(k:To c d f a b h e):(b7 c.toNat).map (Pb.lies b g)=(b7 c.toNat).map (Pb.lies b e):=by
 refine cC λv j=>?_;obtain⟨l,m⟩:=fH.mp j;unfold Pb.lies;rw[To.same R N k _ v rfl l (by lia)]
theorem Bl(f:fz)(h:Int->List Int):∀l:List Int,((l.flatMap h).map f).sum=(l.map λc=>((h c).map f).sum).sum
 | []=>rfl
 | a::l=>by rw[dP,aq,iW,Bl f h l,aE,bf]
theorem BK(f h:fz):∀l:List Int,(l.map λc=>f c-h c).sum=(l.map f).sum-(l.map h).sum
 | []=>rfl
 | a::l=>by rw[aE,aE,aE,bf,bf,bf,BK f h l];lia
theorem To.sums(g:Good h d)(R:ζ h d i a f)(B:Bea h d i a f l)(N:To h d i a l m j):∀(n:Nat)(v:Int),h.toNat-f v=n->0<=v->v<h->((eX h d i a f v).map λu=>lies l j u-ώ h d i a f u*(tup d a u-1)).sum=ώ h d i a f v*j v-ώ h d i a f v*(tup d a v-1)
 | 0,v,e,h0,h1=>by
   have:=lQ R h0 h1
   lia
 | n+1,v,e,h0,h1=>by
   rw[lX g R h0 h1,aE,bf,Bl];have x:∀u∈cG h d (front i a v) v,((eX h d i a f u).map λu=>lies l j u-ώ h d i a f u*(tup d a u-1)).sum=if l v=some u then ώ h d i a f u*tup d a u*j v else 0:=λu r=>by
    obtain⟨o,p,q⟩:=(de g R h0 h1).mp r;have w:=R.pos o.1 o.2 p;rw[q]at w;rw[To.sums g R B N n u (by lia) o.1 o.2,N.up u o.1 o.2 p,q];generalize ώ h d i a f u=W;generalize tup d a u=k;by_cases c:l v=some u
    .rw[aj c,aj c,mj,mj,eW,fM,pH,mn,fS (j v) k,<-eV]
     lia
    .rw[ah c,ah c,ee,mn]
     lia
   rw[zN x,MI g R B h0 h1 (λu=>ώ h d i a f u*tup d a u*j v) 0];unfold lies;cases e:l v with
   | none=>
     rw[aj rfl];have s:ώ h d i a f v=1:=by
      show fo mx h d i a f _ _ v=1;rw[vV g R h0 h1,B.no v h0 h1 e]
      rfl
     rw[s];show j v-_+0=_
     lia
   | some b=>
     rw[ah (by nofun)];obtain⟨_,t⟩:=B.hv v b h0 h1 e;show 0-_+ώ h d i a f b*tup d a b*j v=_;rw[t]
     lia
def To.total(g:Good e b)(R:ζ e b c a d)(B:Bea e b c a d i)(N:To e b c a i l k)(m:0<=c)(o:c<e)(q:eX e b c a d c=c::j)(O:Order e c a j):((b7 e.toNat).map (lies i k)).sum=UJ e b c a (ic e b c a d) l:=by
 have h:=To.sums g R B N _ c rfl m o;rw[q,BK,N.rt]at h;have p:((c::j).map (lies i k)).sum=((b7 e.toNat).map (lies i k)).sum:=by
  refine wU ((jW O.nd (jE _) λx=>?_).map _);rw[aF,fH];refine⟨λh=>?_,λh=>O.all x h.1 (by have:=h.2;lia)⟩;rcases h with h|h
  .rw[h];exact⟨m,by lia⟩
  .have:=O.ϓ x h;exact⟨this.1,by lia⟩
 rw[<-p];unfold UJ;rw[<-O.sums,show(ic e b c a d).getD c.toNat 0=ώ e b c a d c from kN m o];have r:(j.map (X9 b a (ic e b c a d))).sum=(j.map λu=>ώ e b c a d u*(tup b a u-1)).sum:=by
  refine zN λu n=>?_;unfold X9 tup;rw[show(ic e b c a d).getD u.toNat 0=ώ e b c a d u from kN (O.ϓ u n).1 (O.ϓ u n).2]
 rw[r];rw[aE (f:=λu=>ώ e b c a d u*(tup b a u-1)),bf]at h
 lia
def Js(g:Good f b)(R:ζ f b i a h)(O:Order f i a j):Slk f b a j (ic f b i a h) where
 len:=by
  have:=g.m1;rw[tG]
  lia
 pos:=λv v0 v1=>by rw[kN v0 v1];exact(kJ g R v0 v1).1
 std:=λc n=>by
  have k:=O.ϓ c n;have m:=O.ne n;have u:=R.up c k.1 k.2 m;rw[kN k.1 k.2,kN u.1.1 u.1.2];have hk:c∈cG f b (front i a (a c)) (a c):=(de g R u.1.1 u.1.2).mpr ⟨k,m,rfl⟩;have e:ώ f b i a h (a c)=((cG f b (front i a (a c)) (a c)).map λc=>bor b a c (ώ f b i a h c)).foldl mx 1:=vV g R u.1.1 u.1.2;have r:∀x∈(cG f b (front i a (a c)) (a c)).map λc=>bor b a c (ώ f b i a h c),x<=2^480*1000000:=λx o=>by
   obtain⟨d,hd,rfl⟩:=aZ.mp o;obtain⟨l,p,t⟩:=(de g R u.1.1 u.1.2).mp hd;have tk:=nC g R l.1 l.2 p;have q:=kJ g R l.1 l.2;show _*tup b a d<=_;exact dF q.2 tk.2 (by lia) (by decide +kernel)
  obtain⟨_,_,s⟩:=zJ (B:=2^480*1000000) ((cG f b (front i a (a c)) (a c)).map λc=>bor b a c (ώ f b i a h c)) 1 (by decide +kernel) r;have:=s _ (aZ.mpr ⟨c,hk,rfl⟩);rw[<-e]at this;exact this
end Pb
namespace L2
open PySem PySem.Spec PyProof.Rows PySem.W
section
variable(a:0<n)
include a
end
end L2
namespace Pb
open L2 PySem
def wO(m:Int)(b:ix)(a:iv)(c:Int->Int->Nat)(e d:fc)(i:Nat):List Int:=(b7 i).map λr=>Ϟ m b r (a r) (c r) (λv=>(lK m e d).getD v.toNat 0) (Tx b (a r)) r
def HG :(wO g e c a d f b).length=b:=by unfold wO;rw[ag,b6]
theorem Nt:∀{z:fc},(∀x∈z,0<=x)->0<=z.sum
 | [],_=>bO 0
 | x::z,h=>by
   have c:=h x (.head _);have b:=Nt λy a=>h y (.tail _ a);rw[bf]
   lia
end Pb
namespace L2
open PySem
def Y8(K:hO)(a:Addr)(c:List V):Prop:=∃(o:Obj)(b:Array Value)(n:Nat),K.lookup a=some o/\o.cls=.type "tuple"/\o.data=.seq b n/\b.size<=sizeLine/\Vals c b.toList
def Y8.sq(h:Y8 K b a):Α K c b a:=.inr h
end L2
namespace Pb
open L2 PySem
abbrev iN(m:Int)(c:ix)(r:Int)(a:fz)(b:hB)(d z:fc)(v:Int):Int:=Ϟ m c r a b (λv=>(lK m z d).getD v.toNat 0) (Tx c a) v
end Pb
namespace L2
open PySem PySem.Spec PyProof.Rows PySem.W
def NF:YK a "str.zfill" (λx b H Q=>∃z i,x=.str z/\b=[.int i]/\PadOk i=true/\Q (.str (Txt.zfill z i)) H):=by
 intro c s g H x b v m Q I e d h;obtain⟨z,i,rfl,rfl,f,q⟩:=h;obtain⟨t,rfl⟩:=e;obtain⟨u,rfl,l,rfl⟩:=oB d;exact SC.zfill f λj k=>⟨.str _,H,I.tok _,⟨_,rfl⟩,q⟩
theorem Br:∀{b:hX}{a:hT},Vals (b.map V.str) a->StrsAre a b
 | [],_,.nil=>.nil
 | y::b,_,.cons h r=>by
   obtain⟨t,rfl⟩:=h;exact .cons y t (Br r)
def SD(K:hO):V->List V->Hp->VK->Prop:=λx b H Q=>∃z l a,x=.str z/\b=[.ref l]/\ι K H l (a.map V.str)/\(a.map (·.length)).sum+a.length*z.length<=16777216/\Q (.str (Str.join z a)) H
def zm:YK a "str.join" (SD a.K):=by
 intro b s m H x p v w Q I e c h;obtain⟨z,l,n,rfl,rfl,j,d,q⟩:=h;obtain⟨t,rfl⟩:=e;obtain⟨u,rfl,g⟩:=oB c;cases g;obtain⟨i,r,f,y⟩:=I.list j;refine join_list f.isList (by simpa using Br r) d λo k=>⟨.str _,H,I.tok _,⟨_,rfl⟩,?_⟩;unfold Txt.join;rw[StrLaws.glued_eq_join];exact q
theorem Ff:∀l:List (Str×Tok),Vals ((l.map (·.1)).map V.str) (strValues l)
 | []=>.nil
 | (y,t)::l=>.cons ⟨t,rfl⟩ (Ff l)
def OQ:YK c "str.split" (λx m H Q=>∃z y,x=.str z/\m=[.str y]/\(y.length==0)=false/\z.length<=60000/\∀l,H l=none->Q (.ref l) (upd H l (.lst ((Txt.split z y).map V.str)))):=by
 intro f s w H x m v C Q I A r h;obtain⟨z,y,rfl,rfl,j,p,q⟩:=h;obtain⟨t,rfl⟩:=A;obtain⟨D,rfl,u,rfl⟩:=oB r;have g:z.length<=sizeLine:=aW p (by decide);have d:∀(l:List (Str×Tok))(k:Nat),l.map (·.1)=Txt.split z y->l.length<=sizeLine->EP c f w Q (.ref s.heap.objs.size) { s with toks:=k,heap:=s.heap.push { cls:=.type "list",data:=.seq (strValues l).toArray } }:=λl k e B=>by
  refine⟨.ref s.heap.objs.size,_,I.laid (a:=s.heap.objs.size) (o:=.lst ((Txt.split z y).map V.str)) (t':=k) (λb u e=>aB _ e) (aJ _) ⟨?_,strValues l,_,?_,bc _ rfl⟩,rfl,q _ (I.Β.fresh (aJ _))⟩
  .rw[ag,<-e,ag];exact B
  .rw[<-e];exact Ff l
 have n:(Txt.split z y).length<=sizeLine:=aW (split_le z y) (aW (Nat.add_le_add_right p 2) (by decide));have i:∀{l:List (Str×Tok)},l.map (·.1)=Txt.split z y->l.length<=sizeLine:=λ{l} e=>by
  have:=congrArg List.length e;rw[ag]at this;rw[this];exact n
 cases h1:(decide (z.length<y.length)||decide (Builtin.Str.strKind z<Builtin.Str.strKind y))
 .cases hf:(Builtin.Str.occurrences z y 0 z.length (z.length+1)).isEmpty
  .have es:Txt.split z y=Builtin.Str.partsBetween z (Builtin.Str.occurrences z y 0 z.length (z.length+1)) y.length:=by
    unfold Txt.split;rw[ah (ne_true_of_eq_false h1),ah (ne_true_of_eq_false hf)]
   refine call_meets md (typeIs_str _ _ _) lB (kX _ _) (meets_str_split_sep z y t u h1 j hf g (by rw[<-es];exact n)) ?_;show wants _ _ _ { s with toks:=_,heap:=s.heap.push { cls:=.type "list",data:=.seq (strsFrom s.toks (Builtin.Str.partsBetween z (Builtin.Str.occurrences z y 0 z.length (z.length+1)) y.length)).toArray } };rw[strsFrom_eq];have e:(numbered s.toks (Builtin.Str.partsBetween z (Builtin.Str.occurrences z y 0 z.length (z.length+1)) y.length)).map (·.1)=Txt.split z y:=(numbered_texts _ _).trans es.symm;exact d _ _ e (i e)
  .have e:[(z,t)].map (·.1)=Txt.split z y:=by
    unfold Txt.split;rw[ah (ne_true_of_eq_false h1),aj hf]
    rfl
   exact call_meets md (typeIs_str _ _ _) lB (kX _ _) (meets_str_split_not_found z y t u h1 j hf) (d [(z,t)] s.toks e (i e))
 .have e:[(z,t)].map (·.1)=Txt.split z y:=by
   unfold Txt.split;rw[aj h1]
   rfl
  exact call_meets md (typeIs_str _ _ _) lB (kX _ _) (meets_str_split_cannot_occur z y t u h1) (d [(z,t)] s.toks e (i e))
def LL:lx a (.type "int") (λc H Q=>∃z i,c=[.str z]/\PySem.intText? z=some i/\z.length<=640/\Q (.int i) H):=by
 intro b s g H c f Q I r h;obtain⟨z,i,rfl,d,e,q⟩:=h;obtain⟨u,rfl,t,rfl⟩:=oB r;exact KIN.call_text d e ⟨.int i,H,I.tok _,⟨_,rfl⟩,q⟩
def Its(z:Str):It:=⟨λi _=>i<z.cps.size,λi H x a=>a=H/\∃c,z.cps[i]?=some c/\x=.str ⟨#[c]⟩,λi _=>z.cps.size<=i⟩
def Pa{P:Program}{w:World}{K:hO}{J:Expr}(g:Addr)(z:Str)(t:Tok):Turn P w K J (Its z) [g] g (λi h=>h.IsStrIter g "str_ascii_iterator" z t i) where
 mem:=by simp
 obj:=λi h st b hb=>by
  have e:b=g:=by simpa using hb
  subst e;obtain⟨o,e,c,d⟩:=st;exact⟨o,e,λv z=>by rw[d]at z;cases z⟩
 keep:=λi h l st k=>let ⟨o,ho,r⟩:=st;⟨o,k g (by simp) o ho,r⟩
 item:=by
  intro X q hw x C i a s B H E I j st f;subst q hw x;have f:i<z.cps.size:=f;obtain⟨m,y,L,u,n,p⟩:=j g (by simp);refine wpAny_pyNext_ascii_item st (c:=z.cps[i]) (by simp[f]) λl A D=>?_;have F:Inv X a B H { s with heap:=l,toks:=s.toks+1 }:=I.turned (t':=s.toks+1) (λb o hb e=>(D.2 b hb).trans e) m y u n p;obtain⟨o,e,c,d⟩:=id A;exact⟨_,rfl,Dg (s:={ s with heap:=l,toks:=s.toks+1 }) e c d (by decide) ⟨.str ⟨#[z.cps[i]]⟩,H,F,⟨_,rfl⟩,⟨rfl,_,by simp[f],rfl⟩,A,λb hb=>(j b hb).1⟩⟩
 done:=by
  intro X q hw x C i a s B H E I j st f;subst q hw x;have f:z.cps.size<=i:=f;obtain⟨m,y,L,u,n,p⟩:=j g (by simp);exact wpAny_pyNext_ascii_end (I.ok.hd C) st (by simp[f]) λl G=>⟨rfl,I.turned (t':=s.toks) (λb o hb e=>G b o hb e) m y u n p⟩
 self:=λ_ _ _ _ _ st h=>wpAny_pyIter_striter_ascii st h
def NJ(b:TE):TI:=λc H R=>b c H λx a=>∃z,x=.str z/\z.cps.all (·<128)=true/\R (Its z) a
def RM{X:Cx}{m:Expr}{l:Expr}{f:TE}(i:PE X l f):PI X m l (NJ f):=by
 intro a s g H R I h;refine eF (i a s g H _ I h) λv c x k d n r=>?_;obtain⟨z,e,p,q⟩:=r;subst e;obtain⟨t,rfl⟩:=n;refine wpAny_pyIter_ascii p ?_;refine⟨c.heap.objs.size,[c.heap.objs.size],_,_,k,rfl,d.kept (t':=c.toks) λb o e=>aB _ e,Pa _ z t,⟨_,bc _ rfl,rfl,rfl⟩,λb j=>?_,q⟩;have e:b=c.heap.objs.size:=by simpa using j
 subst e;exact d.U1 (aJ _) (d.Β.fresh (aJ _))
def Ni :∀{l:List (Str×Tok)},Builtin.Str.tooLong ((l.map (·.1)).toArray.foldl (·+·.length+a.length) 0)=false->Gives (joinTail a (strValues l)) (joinMade a l)
 | [],h=>gives_joinTail a [] h
 | [p],h=>gives_joinTail a [p] h
 | p::q::r,h=>gives_joinTail a (p::q::r) h
def FB(P:f.handled=none)(st:C4 h m a 0 d.heap)(ne:m≠h)(N:a.size<=sizeLine)(B:StrsAre a.toList c)(D:(c.map (·.length)).sum+c.length*e.length<=16777216)(O:∀(q:Shared) (w k:Nat),q.os=d.os->q.gens=d.gens->q.drawn=d.drawn->(∀b o,b≠h->d.heap.get? b=some o->q.heap.get? b=some o)->d.heap.objs.size<=q.heap.objs.size->i (.str (Str.join e c.reverse) w) { q with toks:=k }):wpAny (model j n) f (call (.builtin "str.join") [.str e p,.ref h]) i l d:=by
 refine mq (codeAny_call_builtin mJ.plain F.entry_str_join (mJ.check _ _ _ _ _ _ _ _ (typeIs_str _ _ _) (F.args_str_join_2 _ _) ?_));rw[join_tree_other];refine ao (wpAny_typeOf st.2.1.typeIs ?_);show wpAny _ f.in1 ((pyIter (.ref h)).tryCatch _>>=λE=>collect E>>=λs=>joinTail e s) _ _ d;refine ao (wpAny_tryCatch (iK st.2.1 ?_));have y:f.in1.handled=none:=P;refine ao (Jc y st ne N λq u G Q I K L H=>?_);obtain⟨A,rfl⟩:∃A:List Value,u=A.toArray:=⟨u.toList,by simp⟩;obtain⟨t,rfl⟩:∃t:List Value,a=t.toArray:=⟨a.toList,by simp⟩;have M:=EV H;subst M;obtain⟨r,x,C⟩:=strsAre_values B;have x:strValues r=t:=by simpa using x.symm
 have J:strValues r.reverse=t.reverse:=by
  rw[<-x];unfold strValues;rw[eB]
 have z:r.reverse.map (·.1)=c.reverse:=by rw[eB,C]
 show wpAny _ _ (joinTail e t.reverse.toArray.toList) _ _ q;rw[show t.reverse.toArray.toList=strValues r.reverse by rw[J]];have v:JoinOk e (r.reverse.map (·.1))=true:=by
  refine joinOk_of ?_;rw[z,eB,List.sum_reverse,aQ];exact D
 unfold JoinOk at v;rw[iI]at v;have g:=Ni v;refine g j n f (wants i l) q (post_join r.reverse ⟨joinFit_length v,λw k=>?_⟩);have:Txt.join e (r.reverse.map (·.1))=Str.join e c.reverse:=by
  unfold Txt.join;rw[StrLaws.glued_eq_join,z]
 rw[this];exact O q w k G Q I K L
def GH(K:hO)(z:Str)(e:TE):TE:=λd H Q=>e d H λx c=>∃(a:Addr)(b:hX),x=.ref a/\ι K c a (b.map V.str)/\(b.map (·.length)).sum+b.length*z.length<=16777216/\Q (.str (Str.join z b.reverse)) c
def PH{X:Cx}{e:Expr}{D:TE}{g:Pos}{c:Pos}{m:Pos}{f:Pos}{z:Str}{o:Pos}{n:Nat}(hc:X.calm=true)(hg:Gl X "reversed")(W:X.mg "reversed"=none)(he:PE X e D)(UC:attributeBase (.Constant (.str z) n o) "join" X.env (eval (.Constant (.str z) n o) X.env)=eval (.Constant (.str z) n o) X.env:=by rfl)(T:((backTo m (starEach [.Call (.Name "reversed" g) [e] [] f] X.env)).all (λx=>!x.1)&&(backToKw m (keywordEach [] X.env)).all (λx=>x.1.isSome)
 && decide ([Expr.Call (.Name "reversed" g) [e] [] f].length+([]:List Keyword).length+(if([]:List Keyword).isEmpty then 0 else 1)<30))=true:=by rfl)(d:(c.endLine==m.line)=true:=by rfl)(y:starEach [.Call (.Name "reversed" g) [e] [] f] X.env=[(false,eval (.Call (.Name "reversed" g) [e] [] f) X.env)]:=by rfl)(h2:starEach [e] X.env=[(false,eval e X.env)]:=by rfl):PE X (.Call (.Attribute (.Constant (.str z) n o) "join" c) [.Call (.Name "reversed" g) [e] [] f] [] m) (GH X.K z D):=by
 intro l s M H Q I h;refine wpAny_Call_method_late UC T d rfl (eF (bH l s M H (λx H'=>x=.str z/\H'=H) I ⟨rfl,rfl⟩) λv s1 x H1 R r1 ⟨i,U⟩=>?_);subst i U;obtain⟨t,rfl⟩:=r1;refine⟨"str","str.join",F.plainAttrs_str,mJ,F.type_str_join,typeIs_str _ _ _,(λ_ e=>nomatch e),?_⟩;refine jA (by rw[y];rfl) (j4 ?_);refine Jp (pos:=m) hg W he R h y h2 (λs2 H2 x a N O w L i r J st ne hz=>?_) λx H1 ⟨a,N,i,r,_⟩=>⟨a,_,i,r⟩;obtain⟨a',Ϯ,j,p,P,q⟩:=L;rw[i]at j;cases j;have V:=w.ϱ r p;subst V;refine FB (w.ok.hd hc) st ne hz (by simpa using Br J) P λS t' k B C E G k5=>?_;obtain⟨hs,gs,ds,ts,Y⟩:=S;simp only at B C E G k5;subst B C E;have Z:∀b u,s2.heap.get? b=some u->hs.get? b=some u:=λb u A=>G b u (aV (aK A)) (aB _ A);exact⟨.str _,H2,w.kept (t':=k) Z,⟨_,rfl⟩,q⟩
def PV(g:Gl b a)(f:∃t,b.mg a=some (.str d t))(h:(a==("__debug__":Str))=false:=by decide):PE b (.Name a c) (tC (.str d)):=by
 obtain⟨t,e⟩:=f;exact Em g e ⟨t,rfl⟩ h
def OT(r:Nat->List V->St->Hp->Prop)(B:r 0 [] f g)(E:∀(i c:Nat) (n:List V) (p:St) (H:Hp) (N:List V->St->Hp->Prop),(∀t o s,r (i+1) t o s->N t o s)->a.cps.toList[i]?=some c->r i n p H->k (.str ⟨#[c]⟩) p H λq C=>j q C λb u=>
 if b=true then h q u λy w=>w d=some (.lst n)/\n.length<sizeLine/\N (n++[y]) q (upd w d (.lst (n++[y])))else N n q u)(A:∀n p H,r a.cps.toList.length n p H->l (.ref d) H):ue (Its a) d l k j h f g:=by
 have G:a.cps.size=a.cps.toList.length:=by simp
 refine⟨λi m n p H=>m=a.cps.toList.length-i/\i<=a.cps.toList.length/\r i n p H,⟨a.cps.toList.length,by simp,cg _,B⟩,?_⟩;rintro i m n p H ⟨rfl,I,pv⟩;by_cases F:i<a.cps.toList.length
 .refine .inr ⟨by show i<a.cps.size;lia,λx s y=>?_⟩;obtain⟨rfl,c,D,rfl⟩:=y;exact E i c n p _ (λt o s=>∃v,v<a.cps.toList.length-i/\(v=a.cps.toList.length-(i+1)/\i+1<=a.cps.toList.length/\r (i+1) t o s)) (λt o s z=>⟨a.cps.toList.length-(i+1),by lia,rfl,F,z⟩) (by rw[j3];exact D) pv
 .have e:i=a.cps.toList.length:=by lia
  subst e;exact .inl ⟨by show a.cps.size<=_;lia,A n p H pv⟩
end L2
namespace Pb
open L2 PySem PySem.W NumText
def gm(n:Nat):List Nat:=(Nat.toDigits 10 n).map Char.toNat
def FS(n:Nat):Str:=⟨(gm n).toArray⟩
theorem rp(n:Nat):(FS n).cps.toList=gm n:=rfl
def rz{a b:Str}(h:a.cps.toList=b.cps.toList):a=b:=by
 cases a;cases b
 congr 1
 exact Array.toList_inj.mp h
def qA(n:Nat):Str.ofString (toString ((n:Nat):Int))=FS n:=rz (KIN.signs_num n)
def Si:∀d:Nat,d<10->(Nat.digitChar d).toNat=48+d:=by decide
def qg(h:a<10):gm a=[48+a]:=by
 unfold gm;rw[Nat.toDigits_of_lt_base h];show[(Nat.digitChar a).toNat]=_;rw[Si a h]
def tH(h:10<=a):gm a=gm (a/10)++[48+a%10]:=by
 have b:a%10<10:=ms a (by decide);have t:Nat.toDigits 10 (a/10)++Nat.toDigits 10 (a%10)=Nat.toDigits 10 (10*(a/10)+a%10):=Nat.toDigits_append_toDigits (by decide) (by lia) b;rw[Nat.div_add_mod]at t;unfold gm;rw[<-t,aq]
 congr 1
 exact qg b
def q8(n:Nat):AllDigits (gm n):=by
 induction n using Nat.strongRecOn with
 | _ n ih=>
   by_cases h:n<10
   .rw[qg h];intro c hc;rw[aG.mp hc]
    lia
   .rw[tH (by lia)];intro c hc;rcases bi.mp hc with hc|hc
    .exact ih (n/10) (by lia) c hc
    .rw[aG.mp hc];have:=ms n (show 10>0 by decide)
     lia
def zF(n:Nat):gm n≠[]:=by
 by_cases h:n<10
 .rw[qg h];simp
 .rw[tH (by lia)];simp
def EO(n:Nat)(h:0<n):∃c r,gm n=c::r/\c≠48:=by
 induction n using Nat.strongRecOn with
 | _ n ih=>
   by_cases a:n<10
   .exact⟨48+n,[],qg a,by lia⟩
   .obtain⟨c,r,e,hc⟩:=ih (n/10) (by lia) (by lia);exact⟨c,r++[48+n%10],by rw[tH (by lia),e];rfl,hc⟩
theorem oQ:∀(k n:Nat),n<10^(k+1)->(gm n).length<=k+1
 | 0,n,h=>by rw[qg (by simpa using h)];simp
 | k+1,n,h=>by
   by_cases a:n<10
   .rw[qg a];simp
   .rw[tH (by lia),aH,gl];have:=oQ k (n/10) (by rw[dW]at h;lia)
    lia
def PY(n:Nat):digitsVal (gm n)=n:=KIN.val_back n
def vO:Nat->Nat->List Nat
 | 0,_=>[]
 | k+1,m=>vO k (m/10)++[48+m%10]
theorem Fa:∀k,vO k 0=List.replicate k 48
 | 0=>rfl
 | k+1=>by
   show vO k 0++[48+0%10]=_;rw[Fa k,mW]
theorem F7:∀(k m:Nat),m<10^(k+1)->List.replicate (k+1-(gm m).length) 48++gm m=vO (k+1) m
 | 0,m,h=>by
   have h:m<10:=by simpa using h
   rw[qg h];show _=[]++[48+m%10];rw[Nat.mod_eq_of_lt h]
   rfl
 | k+1,m,h=>by
   show _=vO (k+1) (m/10)++[48+m%10];by_cases a:m<10
   .rw[qg a,show m/10=0 by lia,Fa,Nat.mod_eq_of_lt a]
    rfl
   .have ih:=F7 k (m/10) (by rw[dW]at h;lia);rw[tH (by lia),aH,gl,<-ih,show k+1+1-((gm (m/10)).length+1)=k+1-(gm (m/10)).length by lia,cj]
theorem GB:∀(k q m:Nat),0<q->m<10^k->gm (q*10^k+m)=gm q++vO k m
 | 0,q,m,hq,h=>by
   have:m=0:=by simpa using h
   subst this;simp[vO]
 | k+1,q,m,hq,h=>by
   have e:(q*10^(k+1)+m)/10=q*10^k+m/10:=by
    rw[dW,<-kf]
    lia
   have b:(q*10^(k+1)+m)%10=m%10:=by
    rw[dW,<-kf]
    lia
   have p:0<10^k:=Nat.pow_pos (by decide);have a:10<=q*10^(k+1)+m:=by
    rw[dW,<-kf];have:1<=q*10^k:=Nat.mul_pos hq p
    lia
   rw[tH a,e,b,GB k q (m/10) hq (by rw[dW]at h;lia),cj]
   rfl
def app_list(a b:Str):(a++b).cps.toList=a.cps.toList++b.cps.toList:=PySem.W.KT.app_list a b
def iJ(a:Str):a.length=a.cps.toList.length:=by
 show a.cps.size=_;simp
def jF(s:List Nat):List (List Nat)->List Nat
 | []=>[]
 | [x]=>x
 | x::y::r=>x++s++jF s (y::r)
theorem kE(z:Str):∀a:List Str,(Str.join z a).cps.toList=jF z.cps.toList (a.map (·.cps.toList))
 | []=>rfl
 | [x]=>rfl
 | x::y::r=>by
   show(x++z++Str.join z (y::r)).cps.toList=_;rw[app_list,app_list,kE z (y::r)]
   rfl
theorem BU :∀{a b X Y:List Nat},c∉a->c∉b->a++c::X=b++c::Y->a=b/\X=Y
 | [],[],X,Y,_,_,e=>⟨rfl,by simpa using e⟩
 | [],b::bs,X,Y,_,hb,e=>by
   have:=(eU e).1;exact absurd (by rw[this];exact .head _) hb
 | a::as,[],X,Y,ha,_,e=>by
   have:=(eU e).1;exact absurd (by rw[<-this];exact .head _) ha
 | a::as,b::bs,X,Y,ha,hb,e=>by
   obtain⟨d,f⟩:=eU e;obtain⟨i,g⟩:=BU (λh=>ha (.tail _ h)) (λh=>hb (.tail _ h)) f;exact⟨by rw[d,i],g⟩
theorem Fe :∀{A B:List (List Nat)},A≠[]->B≠[]->(∀a∈A,c∉a)->(∀b∈B,c∉b)->jF [c] A=jF [c] B->A=B
 | [],_,h,_,_,_,_=>absurd rfl h
 | _,[],_,h,_,_,_=>absurd rfl h
 | [a],[b],_,_,_,_,e=>by rw[show a=b from e]
 | [a],b::b'::r,_,_,ha,_,e=>by
   have:c∈a:=by rw[show a=b++[c]++jF [c] (b'::r)from e];simp
   exact absurd this (ha a (.head _))
 | a::a'::r,[b],_,_,_,hb,e=>by
   have:c∈b:=by rw[<-show a++[c]++jF [c] (a'::r)=b from e];simp
   exact absurd this (hb b (.head _))
 | a::a'::r,b::b'::r',_,_,ha,hb,e=>by
   have e:a++[c]++jF [c] (a'::r)=b++[c]++jF [c] (b'::r'):=e;rw[cj,cj]at e;obtain⟨g,f⟩:=BU (ha a (.head _)) (hb b (.head _)) e;rw[g,Fe (by simp) (by simp) (λx d=>ha x (.tail _ d)) (λx d=>hb x (.tail _ d)) f]
def K4(h:ys≠[])(p:∀y∈ys,c∉y.cps.toList):Txt.split (Str.join ⟨#[c]⟩ ys) ⟨#[c]⟩=ys:=by
 have e:=StrLaws.join_split (Str.join ⟨#[c]⟩ ys) ⟨#[c]⟩;have f:=StrLaws.split_free (Str.join ⟨#[c]⟩ ys) c;have n:=PyProof.Rows.split_pos (Str.join ⟨#[c]⟩ ys) ⟨#[c]⟩;generalize Txt.split (Str.join ⟨#[c]⟩ ys) ⟨#[c]⟩=k at e f n ⊢;have j:=congrArg (λs:Str=>s.cps.toList) e;simp only[kE]at j;have o:k.map (·.cps.toList)=ys.map (·.cps.toList):=Fe (c:=c) (by intro z;rw[jY.mp z]at n;simp at n) (by intro z;exact h (jY.mp z)) (λa i=>by obtain⟨y,d,rfl⟩:=aZ.mp i;exact f y d) (λa i=>by obtain⟨y,d,rfl⟩:=aZ.mp i;exact p y d) j;have g:∀{l b:hX},l.map (·.cps.toList)=b.map (·.cps.toList)->l=b:=by
  intro l
  induction l with
  | nil=>intro b e;cases b with
    | nil=>rfl
    | cons _ _=>cases e
  | cons x l ih=>
    intro b e;cases b with
    | nil=>cases e
    | cons y b=>
      obtain⟨m,q⟩:=eU e;rw[rz m,ih q]
 exact g o
theorem EE:∀l:List (List Nat),jF [] l=l.flatten
 | []=>rfl
 | [x]=>by simp[jF]
 | x::y::r=>by
   show x++[]++jF [] (y::r)=_;rw[EE (y::r)];simp
def zf(h:a<10^18):(Txt.zfill (FS a) 18).cps.toList=vO 18 a:=by
 have j:=oQ 17 a h;have e:=F7 17 a h;have g:(FS a).length=(gm a).length:=by rw[iJ];rfl
 unfold Txt.zfill;rw[g];by_cases c:(18:Int)<=((gm a).length:Nat)
 .rw[aj c,rp,<-e,show 17+1-(gm a).length=0 by lia]
  rfl
 .rw[ah c];obtain⟨d,r,b⟩:∃d r,gm a=d::r:=by
   cases hh:gm a with
   | nil=>exact absurd hh (zF a)
   | cons d r=>exact⟨d,r,rfl⟩
  have i:=q8 a d (by rw[b];exact .head _);have f:(FS a).cps[0]?=some d:=by
   rw[<-j3,rp,b];rfl
  unfold PySem.zfilled;rw[f];split
  .rename_i z;cases z;lia
  .rename_i z;cases z;lia
  .rw[<-e];unfold Builtin.Str.padded;simp[FS]
def RU(h:a<10^18):(Txt.zfill (FS a) 18).length=18:=by
 rw[iJ,zf h];have:∀k a,(vO k a).length=k:=by
  intro k
  induction k with
  | zero=>intro a;rfl
  | succ k ih=>intro a;show(vO k (a/10)++[48+a%10]).length=_;rw[aH,ih];rfl
 exact this 18 a
def QR(h:10^18<=a):gm a=gm (a/10^18)++(Txt.zfill (FS (a%10^18)) 18).cps.toList:=by
 have b:a%10^18<10^18:=ms a (by decide);rw[zf b,<-GB 18 (a/10^18) (a%10^18) (Nat.div_pos h (by decide)) b,Nat.div_add_mod']
def Q5{n:Nat}{a:hX}{m:Nat}(h:gm n=gm m++(a.reverse.map (·.cps.toList)).flatten):Str.join "" ((a++[FS m]).reverse)=FS n:=by
 refine rz ?_;rw[kE,rp,h,show("":Str).cps.toList=[]from rfl,EE];simp[rp]
def Qy(h:a<10^b)(c:b<=500)(d:0<b):((a:Nat):Int).natAbs.log2<1920:=by
 show a.log2<1920;by_cases z:a=0
 .subst z;decide
 .refine(lW z).mpr (aU h ?_);refine aW (dq (by decide) c) ?_
  decide
def Yb(a:List Nat):List V:=a.map λn:Nat=>V.int (n:Int)
def _root_.List.μ{b a:Type}{f:b->a}{l:List b}{i:Nat}{y:a}(h:(l.map f)[i]?=some y):∃x,l[i]?=some x/\y=f x:=by
 rw[aN]at h;cases e:l[i]? with
 | none=>rw[e]at h;cases h
 | some x=>rw[e]at h;exact⟨x,rfl,(bF h).symm⟩
def Kw(n:Nat):((FS n).cps.all λx=>decide (x<128))=true:=by
 rw[Array.all_eq_true_iff_forall_mem];intro x a;have:=q8 n x (by simpa[FS]using a);simp
 lia
def OC(n:Nat)(h:n<10^60):PySem.intText? (FS n)=some (n:Int):=by
 have:=intText_digits (x:=FS n) (q8 n) (zF n) (aW (ly (iJ _)) (aW (oQ 59 n h) (by decide)));rw[rp,PY]at this;exact this
def ixS{z:Str}{i:Nat}{c:Nat}{H:Hp}{Q:VK}(a:z.cps.toList.length<=60)(h:z.cps.toList[i]?=some c)(q:Q (.str ⟨#[c]⟩) H):aae (.str z) (.int i) H Q:=⟨z,i,c,rfl,rfl,aW (ly (iJ z)) (aW a (by decide)),JM h,q⟩
def SS:∀d:Nat,d<10->(Str.ofString "0123456789").cps.toList[d]?=some (48+d):=by decide +kernel
def Sx(h:48<=a/\a<=57):(!(Builtin.Str.occurrences (Str.ofString "0123456789") ⟨#[a]⟩ 0 (Str.ofString "0123456789").length 1).isEmpty)=true:=by
 rw[StrLaws.found_one,b4];have:=SS (a-48) (by lia);rw[show 48+(a-48)=a by lia]at this;exact aP this
def Na(h:V.str (FS a)=V.str (Str.ofString "0")->False):0<a:=by
 refine Nat.pos_of_ne_zero λz=>h ?_;subst z
 rfl
theorem zb :∀{l:List (List Nat)},(∀x∈l,x.length<=m)->(jF s l).length<=(m+s.length)*l.length
 | [],h=>by simp[jF]
 | [x],h=>by
   have:=h x (.head _);show x.length<=(m+s.length)*1
   lia
 | x::y::r,h=>by
   have d:=h x (.head _);have c:=zb (s:=s) (l:=y::r) λz b=>h z (.tail _ b);show((x++s)++jF s (y::r)).length<=_;rw[aH,aH,aO (a:=x),nX]
   lia
theorem Ed :∀{as:hR}{c:List b}{i:Nat}{x:V},Paired a as c->(as.map V.ref)[i]?=some x->∃q r,x=V.ref q/\as[i]?=some q/\c[i]?=some r/\a q r
 | _,_,i,x,.nil,h=>by cases h
 | q::as,r::c,0,x,.cons e _,h=>⟨q,r,(bF h).symm,rfl,rfl,e⟩
 | q::as,r::c,i+1,x,.cons _ t,h=>Ed (i:=i) t h
def nP(a b:Str):(a++b).length=a.length+b.length:=by
 rw[iJ,app_list,aH,<-iJ,<-iJ]
def Vn(h:Str)(a:List Nat):Str:=Str.join " " (h::a.map FS)
structure Y9(h:Str):Prop where
 len:h.length<=10
 sp:32∉h.cps.toList
 nl:10∉h.cps.toList
def NQ(h:Str)(a:List Nat):(Vn h a).cps.toList=jF [32] (h.cps.toList::a.map gm):=by
 unfold Vn;rw[kE,aE,jw]
 rfl
def EN(e:Y9 a)(b:List Nat):Txt.split (Vn a b) (Str.ofString " ")=a::b.map FS:=K4 (c:=32) (ys:=a::b.map FS) (by simp) λy hy d=>by
 rcases aF.mp hy with rfl|hy
 .exact e.sp d
 .obtain⟨n,_,rfl⟩:=aZ.mp hy;have:=q8 n 32 d
  lia
def J7(d:Y9 b)(c:∀n∈a,n<10^60):(Vn b a).length<=61*(a.length+1):=by
 rw[iJ,NQ];have:=zb (s:=[32]) (m:=60) (l:=b.cps.toList::a.map gm) λx hx=>by
  rcases aF.mp hx with rfl|hx
  .have:=d.len;rw[iJ]at this
   lia
  .obtain⟨n,h1,rfl⟩:=aZ.mp hx;exact oQ 59 n (c n h1)
 rw[aO (as:=a.map gm),ag]at this;exact this
end Pb
namespace Pb
open L2 PySem
theorem P9{f h:fz}:∀{l:fc},(∀c∈l,f c<=h c)->(l.map f).sum<=(l.map h).sum
 | [],_=>bO _
 | a::l,hl=>by
   rw[aE,aE,bf,bf];have e:=hl a (.head _);have d:=P9 (l:=l) λc b=>hl c (.tail _ b)
   lia
theorem Ii(k:Int)(f:fz):∀l:List Int,(l.map λc=>k*f c).sum=k*(l.map f).sum
 | []=>(Int.mul_zero k).symm
 | a::l=>by rw[aE,aE,bf,bf,Ii k f l,fM]
theorem wle{held:fz}(g:Good f b)(R:ζ f b h a d){ws:fz}(pos:∀v,0<=v->v<f->0<=ws v)(j:∀c,0<=c->c<f->c≠h->ws c*tup b a c<=ws (a c))(q:∀v,0<=held v):∀(n:Nat)(v:Int),f.toNat-d v=n->0<=v->v<f->((eX f b h a d v).map λu=>ws u*held u-ws u*(tup b a u-1)).sum<=ws v*Ϟ f b h a d held (ϯ b a) v-ws v*(tup b a v-1)
 | 0,v,e,h0,h1=>by
   have:=lQ R h0 h1
   lia
 | n+1,v,e,h0,h1=>by
   rw[lX g R h0 h1,aE,bf,Bl,wI g R h0 h1];have D:∀u∈cG f b (front h a v) v,((eX f b h a d u).map λu=>ws u*held u-ws u*(tup b a u-1)).sum<=ws v*ϯ b a u (Ϟ f b h a d held (ϯ b a) u):=λu x=>by
    obtain⟨i,l,s⟩:=(de g R h0 h1).mp x;have B:=R.pos i.1 i.2 l;rw[s]at B;refine ci (wle g R pos j q n u (by lia) i.1 i.2) ?_;obtain⟨A,z⟩:=nC g R i.1 i.2 l;have st:=j u i.1 i.2 l;rw[s]at st;have t:=R9 (m:=f) (r:=h) (par:=a) (dep:=d) g q u;have o:=pos u i.1 i.2;show _<=ws v*(Ϟ f b h a d held (ϯ b a) u/tup b a u);generalize Ϟ f b h a d held (ϯ b a) u=G at t ⊢;generalize tup b a u=k at A z st ⊢;generalize ws u=W at o st ⊢;generalize ws v=V at st ⊢;have w:0<=G/k:=my t (by lia);have p:=Int.emod_add_mul_ediv G k;have E:=cQ G (show 0<k by lia);have C:W*G-W*(k-1)<=W*k*(G/k):=by
     have:W*G=W*(G%k)+W*k*(G/k):=(by rw[<-p,fM,<-eV,p]);rw[this];have:W*(G%k)<=W*(k-1):=bL (by lia) o
     lia
    exact ci C (b5 st w)
   have y:=P9 D;rw[Ii (ws v) (λu=>ϯ b a u (Ϟ f b h a d held (ϯ b a) u))]at y;rw[fM]
   lia
def Qr{held:fz}(g:Good i d)(R:ζ i d e a k)(l:0<=e)(m:e<i)(y:eX i d e a k e=e::j)(O:Order i e a j)(S:Slk i d a j b)(z:∀v,0<=held v){w:Int}(A:Ϟ i d e a k held (ϯ d a) e<w):((b7 i.toNat).map λv=>b.getD v.toNat 0*held v).sum<=UJ i d e a b w:=by
 have pos:∀v,0<=v->v<i->0<=b.getD v.toNat 0:=λv r p=>by have:=S.pos v r p;lia
 have h:=wle (held:=held) g R (ws:=λv=>b.getD v.toNat 0) pos (λc t s o=>S.std c ((O.all c t s).resolve_left o)) z _ e rfl l m;rw[y,BK]at h;have n:((e::j).map λv=>b.getD v.toNat 0*held v).sum=((b7 i.toNat).map λv=>b.getD v.toNat 0*held v).sum:=by
  refine wU ((jW O.nd (jE _) λx=>?_).map _);rw[aF,fH];refine⟨λh=>?_,λh=>O.all x h.1 (by have:=h.2;lia)⟩;rcases h with h|h
  .rw[h];exact⟨l,by lia⟩
  .have:=O.ϓ x h;exact⟨this.1,by lia⟩
 rw[<-n];unfold UJ;rw[<-O.sums];have q:(j.map (X9 d a b)).sum=(j.map λu=>b.getD u.toNat 0*(tup d a u-1)).sum:=rfl;rw[q];rw[aE (f:=λu=>b.getD u.toNat 0*(tup d a u-1)),bf]at h;have:b.getD e.toNat 0*Ϟ i d e a k held (ϯ d a) e<=b.getD e.toNat 0*(w-1):=bL (by lia) (pos e l m)
 lia
theorem xU:∀l:List Int,(l.map λ_=>(0:Int)).sum=0
 | []=>rfl
 | a::l=>by rw[aE,bf,xU l];rfl
def Op(g:Good f c)(R:ζ f c i b d)(j:0<=a)(k:a<f):Ϟ f c i b d (λ_=>0) (ϯ c b) a=0:=by
 have:∀(n:Nat)(a:Int),f.toNat-d a=n->0<=a->a<f->Ϟ f c i b d (λ_=>0) (ϯ c b) a=0:=by
  intro n
  induction n with
  | zero=>
    intro a e j k;have:=lQ R j k
    lia
  | succ n ih=>
    intro a e j k;rw[wI g R j k,ee];rw[zN (h:=λ_=>0) λu m=>?_]
    .exact xU _
    .obtain⟨u1,u2,u3⟩:=(de g R j k).mp m;have l:=R.pos u1.1 u1.2 u2;rw[u3]at l;rw[ih u (by lia) u1.1 u1.2,Pp]
 exact this _ a rfl j k
theorem Jq(R:ζ d f b a c):∀(n:Nat)(v:Int),c v=n->0<=v->v<d->Ep a b n v=true
 | 0,v,e,h0,h1=>by
   refine bo (Classical.byContradiction λh=>?_);have:=R.pos h0 h1 h
   lia
 | n+1,v,e,h0,h1=>by
   show(decide (v=b)||Ep a b n (a v))=true;by_cases h:v=b
   .rw[bo h];rfl
   .have u:=R.up v h0 h1 h;rw[Jq R n (a v) (by lia) u.1.1 u.1.2,lY]
def u7(g:Good c d)(R:ζ c d a b e)(i:0<=a)(f:a<c):∃t,eX c d a b e a=a::t/\Order c a b t:=BS g R i f (vZ g R _ a i f).1 λv=>by
 rw[QF g R i f];exact⟨λh=>h.1,λh=>⟨h,Jq R _ v rfl h.1 h.2⟩⟩
theorem Jv{f:fz}{C:Int}:∀{l:fc},(∀c∈l,f c<=C)->(l.map f).sum<=C*l.length
 | [],_=>by simp
 | a::l,h=>by
   have e:=h a (.head _);have d:=Jv (l:=l) λc b=>h c (.tail _ b);rw[aE,bf,aO,eR,fM];show f a+(l.map f).sum<=C*l.length+C*1
   lia
def Qo(g:Good f b)(R:ζ f b e a d)(h:0<=e)(i:e<f){w:Int}(r:1<=w)(x:w<=10^60):0<=UJ f b e a (ic f b e a d) w/\UJ f b e a (ic f b e a d) w+1<2^720:=by
 have Ζ:=g.Ζ;obtain⟨l,o,O⟩:=u7 g R h i;have C:=O.Wq h i
 constructor
 .have m:=Qr (held:=λ_=>0) g R h i o O (Js g R O) (λ_=>bO _) (w:=w) (Int.lt_of_le_of_lt (bO _) (by rw[Op g R h i];lia));refine ci (Int.le_of_eq ?_) m;rw[show(λv:Int=>(ic f b e a d).getD v.toNat 0*(0:Int))=λ_=>0 from funext λv=>Int.mul_zero _];exact(xU _).symm
 .unfold UJ;rw[<-O.sums,show(ic f b e a d).getD e.toNat 0=ώ f b e a d e from kN h i];obtain⟨B,q⟩:=kJ g R h i;have m:ώ f b e a d e*(w-1)<=2^480*10^60:=dF q (by lia) (by lia) (by decide +kernel);have A:(l.map (X9 b a (ic f b e a d))).sum<=2^480*1000000*l.length:=Jv λc n=>by
   obtain⟨k,j⟩:=O.ϓ c n;obtain⟨y,s⟩:=nC g R k j (O.ne n);obtain⟨z,p⟩:=kJ g R k j;unfold X9;rw[show(ic f b e a d).getD c.toNat 0=ώ f b e a d c from kN k j];exact dF p (show tup b a c-1<=1000000 by lia) (show 0<=tup b a c-1 by lia) (by decide +kernel)
  have t:(2:Int)^480*1000000*l.length<=2^480*1000000*24:=bL (by lia) (by decide +kernel);have u:(2:Int)^480*10^60+2^480*1000000*24+1<2^720:=by decide +kernel
  lia
end Pb
namespace L2
open PySem
def Da(K:hO)(d:Addr)(g:TS)(f:TH):TH:=λD c a e H=>∃C b,a=.ref C/\PySem.W.mroIn K C (.ref d)=some b/\if b=true then g D c H else f D c a e H
def xk{X:Cx}{x:Str}{B:List Stmt}{rest:List ExceptHandler}(M:Wn X.K a)(S:Gl X x)(O:X.mg x=some (.ref a))(t:∀e,UR (X.held e).Xh (d::B) g)(V:PHs X rest c)(hdb:(x==("__debug__":Str))=false:=by decide):PHs X (.ExceptHandler (some (.Name x j)) none (d::B) i::rest) (Da X.K a g c):=by
 intro l s y H D r T N F I w le lt h;obtain⟨C,b,rfl,m,q⟩:=h;refine wpAny_handleBy_cons (codeAny_handlers_test (tQ (X:=X.held (.ref r)) (I.held _) S O ?_ hdb)) (by nofun);obtain⟨R,Z,L,U,Y,h4,h5,h6⟩:=id w.e;refine Je I.oK ⟨R,L,U⟩ M m ?_;cases b with
 | false=>exact V l s y H D r T _ F I w le lt (by simpa using q)
 | true=>
   rw[aj rfl]at q;refine codeAny_handlers_suite (zE (fs:=ϧ X.stack) w λP Q k=>?_);have G:Inv X l y H { s with heap:=P }:=I.moved (tk:=s.toks) k λb t=>by rw[aG.mp t];exact lt.all
   have W:=G.held (.ref r);refine db (t (.ref r) l _ _ _ _ (W.wish _) q) (λf A z=>?_) λ_ _ z=>False.elim z;have n:∀{o:St}{p:Hp},Inv (X.held (.ref r)).Xh l o p A->Inv X l o p A:=λJ=>J.Ϝ.U9 I.ok.hd;dsimp only;cases f with
   | next=>
     obtain⟨o,p,J,z⟩:=z;exact⟨_,p,n J,z⟩
   | brk=>
     obtain⟨o,p,J,z⟩:=z;exact⟨_,p,n J,z⟩
   | cont=>
     obtain⟨o,p,J,z⟩:=z;exact⟨_,p,n J,z⟩
   | ret u=>
     obtain⟨v,o,p,J,E,z⟩:=z;exact⟨v,_,p,n J,E,z⟩
end L2
namespace Pb
open L2 PySem
def tdn(b:ix)(a:fz)(v:Int):Int:=(cL b (a v) v).getD 1
def xf(b:ix)(a:fz)(st:fz)(v:Int):Int:=if 0<=st v then st v/tol b a v else 0
def ND(st:fz)(v:Int):Int:=if 0<=st v then 0 else-st v
def Gk(b:ix)(a:fz)(st:fz)(v:Int):Bool:=decide (0<xf b a st v)
def Ip(st:fz)(v:Int):Bool:=decide (st v<0)
def Pw(b:ix)(a:fz)(st:fz)(v:Int):ϻ:=(v,a v,xf b a st v)
def NC(a:fz)(st:fz)(v:Int):ϻ:=(a v,v,- st v)
def qI(b:ix)(a:fz)(st:fz)(l:fc):List ϻ:=(l.filter (Gk b a st)).map (Pw b a st)
def qR(a:fz)(st:fz)(l:fc):List ϻ:=(l.filter (Ip st)).map (NC a st)
def Ox(c:Gk b a d e=true):qI b a d (f++[e])=qI b a d f++[Pw b a d e]:=by
 unfold qI;rw[cz,dE c,aq]
 rfl
def NY(c:¬Gk b a d e=true):qI b a d (f++[e])=qI b a d f:=by
 unfold qI;rw[cz,dD c,fJ,ck]
def OF(c:Ip b d=true):qR a b (e++[d])=qR a b e++[NC a b d]:=by
 unfold qR;rw[cz,dE c,aq]
 rfl
def PU(c:¬Ip a d=true):qR b a (e++[d])=qR b a e:=by
 unfold qR;rw[cz,dD c,fJ,ck]
def Q2(g:Good d b)(R:ζ d b e a f)(i:0<=c)(l:c<d)(j:c≠e):2<=tol b a c/\2<=tdn b a c:=by
 obtain⟨k,m,o,_⟩:=jB g R i l j;obtain⟨p,n,h,_⟩:=tP g R i l j;unfold tol tdn;rw[m,n];exact⟨o,h⟩
def L8(st:fz)(v:Int):Tx rs par v (st v)=xf rs par st v-ND st v*tdn rs par v:=by
 unfold Tx xf ND tol tdn;by_cases c:0<=st v
 .rw[aj c,aj c,aj c];lia
 .rw[ah c,ah c,ah c,j7];lia
def Ri(g:Good f d)(R:ζ f d i a j)(st:fz)(k:0<=b)(m:b<f)(l:b≠i):(0<Tx d a b (st b)->Tx d a b (st b)=xf d a st b)/\(¬0<Tx d a b (st b)->¬0<xf d a st b):=by
 have n:=(Q2 g R k m l).2;have e:=L8 (rs:=d) (par:=a) st b;unfold xf ND at e;unfold xf;by_cases c:0<=st b
 .rw[aj c,aj c,Int.zero_mul,Int.sub_zero]at e;rw[e,aj c];exact⟨λ_=>rfl,λh=>h⟩
 .rw[ah c,ah c]at e;rw[ah c];have:0<=(- st b)*tdn d a b:=ja (by lia) (by lia);exact⟨λh=>by lia,λ_=>by decide⟩
theorem JI:∀{l:fc}{x:Int},(∀y∈l,0<=y)->x∈l->x<=l.sum
 | y::l,x,h,hx=>by
   have c:=Nt λz a=>h z (aI y a);have b:=h y aL;rw[bf];rcases aF.mp hx with e|e
   .lia
   .have:=JI (λz a=>h z (aI y a)) e
    lia
end Pb
namespace L2
open PySem
def EA(s:Nat->List V->St->Hp->Prop)(F:s 0 [] d f)(O:∀i n o H,s i n o H->Ω K c H l xs)(M:∀(i:Nat) (x:V) (n:List V) (o:St) (H:Hp) (q:Addr) (N:List V->St->Hp->Prop),(∀u p t,s (i+1) u p t->N u p t)->xs[i]?=some x->s i n o H->H q=none->j (.ref q) o (upd H q (.tup [.int i,x])) λr J=>h r J λb w=>
 if b=true then g r w λy A=>A a=some (.lst n)/\n.length<sizeLine/\N (n++[y]) r (upd A a (.lst (n++[y])))else N n r w)(D:∀n o H,s xs.length n o H->k (.ref a) H):ue (Ite K c l) a k j h g d f:=by
 refine⟨λi m n o H=>m=xs.length-i/\i<=xs.length/\s i n o H,⟨_,rfl,cg _,F⟩,?_⟩;rintro i m n o H ⟨rfl,P,pv⟩;have v:=O i n o H pv;by_cases B:i<xs.length
 .refine .inr ⟨⟨xs,xs[i],v,az B⟩,λx t y=>?_⟩;obtain⟨I,E,L,rfl,rfl,G⟩:=y;exact M i E n o H I (λu p t=>∃z,z<xs.length-i/\(z=xs.length-(i+1)/\i+1<=xs.length/\s (i+1) u p t)) (λu p t C=>⟨xs.length-(i+1),by lia,rfl,B,C⟩) (G xs v) pv L
 .have e:i=xs.length:=by lia
  subst e;exact .inl ⟨⟨xs,v,rfl⟩,D n o H pv⟩
def Ϙ(o:Addr)(H a:Hp):Prop:=∀b x,H b=some x->b≠o->a b=some x
def Ϙ.refl :Ϙ b a a:=λ_ _ h _=>h
def Ϙ.then(a:Ϙ f g e)(b:δ e d):Ϙ f g d:=λc x h n=>b c x (a c x h n)
def Ϙ.put(a:Ϙ b e d)(x:HO):Ϙ b e (upd d b x):=λc y h n=>by rw[aM n];exact a c y h n
def Ϙ.ϫ(e:Ϙ i b d)(p:b i=some (.ins k g f))(h:Ω l c b a j):Ω l c d a j:=by
 have n:∀{y:HO},b a=some y->y≠.ins k g f->a≠i:=λm o z=>by rw[z,p]at m;cases m;exact o rfl
 cases c
 .rcases h with(h|⟨o',h⟩)|h
  .exact .inl (.inl (e _ _ h (n h (by nofun))))
  .exact .inl (.inr ⟨o',e _ _ h (n h (by nofun))⟩)
  .exact .inr h
 .rcases h with(h|⟨o',h⟩)|h
  .exact .inl (.inl (e _ _ h (n h (by nofun))))
  .exact .inl (.inr ⟨o',e _ _ h (n h (by nofun))⟩)
  .exact .inr h
end L2
namespace Pb
open PySem L2
def nA(a b:fc):List Int:=List.zipWith (·+·) a b
def aC(m:Int):List Int:=List.replicate m.toNat 0
def xo(m:Int)(a:List (List Int)):List Int:=a.foldl nA (aC m)
def rd(b l:fc):List Int:=if b.sum<l.sum then l else b
def MN(h:b.sum<a.sum):rd b a=a:=aj h
def ME(h:¬a.sum<b.sum):rd a b=a:=ah h
def Vo(b:ix)(a:fz)(v:Int):Int:=(cL b v (a v)).getD 1
def Wr(b:ix)(a:fz)(v:Int):Int:=(cL b (a v) v).getD 1
abbrev kd(m:Int)(b:ix)(r:Int)(a:fz)(v:Int):List Int:=cG m b (front r a v) v
def BV(m:Int)(c:ix)(r:Int)(a:fz)(b:Int->List Int)(v:Int)(x:V):List Int:=xo m (((kd m c r a v).filter λk=>decide (V.int k≠x)).map b)
def vL(b:fc)(v d:Int):List Int:=b.set v.toNat (b.getD v.toNat 0+d)
def Xz(m:Int)(c:ix)(r:Int)(a:fz)(e:fz)(f:Int->List Int)(d:Int->Int->List Int)(v b k:Int):List Int:=nA (d k (Vo c a k*(b-e k*Wr c a k+1)-1)) (BV m c r a f v (.int k))
def pB(m:Int)(c:ix)(r:Int)(a:fz)(b:fz)(d:Int->List Int)(e:Int->Int->List Int)(v y:Int):List Int:=((kd m c r a v).map (Xz m c r a b d e v (b v+y))).foldl rd (vL (BV m c r a d v .ξ) v (b v+y))
def ld(m:Int)(b:ix)(r:Int)(a:fz)(c:fz):Nat->Bool->Int->Int->List Int
 | 0,_,_,_=>[]
 | n+1,true,v,y=>pB m b r a c (λk=>ld m b r a c n false k 0) (λk z=>ld m b r a c n true k z) v y
 | n+1,false,v,_=>if 0<c v then BV m b r a (λk=>ld m b r a c n false k 0) v .ξ else pB m b r a c (λk=>ld m b r a c n false k 0) (λk z=>ld m b r a c n true k z) v (Vo b a v-1)
def Tp(m:Int)(d:ix)(r:Int)(a:fz)(b:hB)(c:fz)(v y:Int):List Int:=ld m d r a c (m.toNat-b v) true v y
def Ge(m:Int)(d:ix)(r:Int)(a:fz)(b:hB)(c:fz)(v:Int):List Int:=ld m d r a c (m.toNat-b v) false v 0
def fV(m:Int)(a:fc):Int:=((b7 m.toNat).filter λv=>decide (0<a.getD v.toNat 0)).headD 0
def JQ(u:(b.length:Int)=c)(p:∀x∈b,0<=x)(h:b.sum≠0):∃f,((b7 c.toNat).filter λv=>decide (0<b.getD v.toNat 0))=fV c b::f/\(0<=fV c b/\fV c b<c)/\0<b.getD (fV c b).toNat 0:=by
 have m:∃x∈b,0<x:=by
  refine Classical.byContradiction λn=>h ?_;have:∀l:List Int,(∀x∈l,x=0)->l.sum=0:=by
   intro l
   induction l with
   | nil=>intro _;rfl
   | cons a l ih=>intro q;rw[bf,q a aL,ih λx d=>q x (aI _ d)];rfl
  refine this b λx d=>?_;have s:=p x d;have t:¬0<x:=λz=>n ⟨x,d,z⟩
  lia
 obtain⟨x,d,k⟩:=m;obtain⟨i,j,rfl⟩:=List.mem_iff_getElem.mp d;have g:(i:Int)∈(b7 c.toNat).filter λv=>decide (0<b.getD v.toNat 0):=by
  refine cf.mpr ⟨aP (gZ (show i<c.toNat by lia)),bo ?_⟩;rw[show((i:Int)).toNat=i from rfl,bn,az j];exact k
 unfold fV;cases e:(b7 c.toNat).filter λv=>decide (0<b.getD v.toNat 0)with
 | nil=>rw[e]at g;cases g
 | cons a f=>
   have o:a∈(b7 c.toNat).filter λv=>decide (0<b.getD v.toNat 0):=by rw[e];exact aL
   have w:=cf.mp o;have r:=fH.mp w.1;exact⟨f,rfl,⟨r.1,by have:=r.2;show a<c;lia⟩,bB w.2⟩
theorem F5 :∀{l:List f}{g:List c},Paired d l g->∀{i:Nat}{b:c},g[i]?=some b->∃a,l[i]?=some a/\d a b
 | _,_,.nil,i,b,e=>by simp at e
 | _,_,.cons (a:=a) (b:=b') h _,0,b,e=>by
   rw[List.getElem?_cons_zero]at e;cases e;exact⟨a,rfl,h⟩
 | _,_,.cons h hs,i+1,b,e=>by
   rw[jf]at e;obtain⟨a,k,j⟩:=F5 hs e;exact⟨a,by rw[jf];exact k,j⟩
theorem wt :∀{l:List e}{i:List g},(∀a b,a∈l->c a b->d a b)->Paired c l i->Paired d l i
 | _,_,_,.nil=>.nil
 | _,_,f,.cons h hs=>.cons (f _ _ aL h) (wt (λa b j=>f a b (aI _ j)) hs)
theorem D4 :∀{l:List c}{f:List e},Paired d l f->∀{a:c},a∈l->∃b,d a b
 | _,_,.nil,a,h=>by cases h
 | _,_,.cons (b:=b) h hs,a,ha=>by
   rcases aF.mp ha with rfl|ha
   .exact⟨b,h⟩
   .exact D4 hs ha
theorem p4{R:a->b->Prop}(e:R c d):∀{l:List a}{f:List b},Paired R l f->Paired R (l++[c]) (f++[d])
 | _,_,.nil=>.cons e .nil
 | _,_,.cons x xs=>.cons x (p4 e xs)
def yH{b:Type}{a:List b}{i:Int}(h:0<=i):ϳ a i=a[i.toNat]?:=by
 cases e:a[i.toNat]? with
 | some v=>exact fR h e
 | none=>
   have:=List.getElem?_eq_none_iff.mp e;unfold ϳ Vx;rw[aj h,ah (by lia)]
   rfl
def EW{m v:Int}(a:0<=v)(b:v<m):(b7 m.toNat)[v.toNat]?=some v:=by
 rw[gZ (by lia)];exact congrArg some (cB a)
def DD{m v:Int}(a:fz)(b:0<=v)(c:v<m):ϳ (((b7 m.toNat).map a).map V.int) v=some (.int (a v)):=fR b (by
 rw[aN,aN,EW b c]
 rfl)
def DV(m:Int):(aC m).map V.int=List.replicate m.toNat (V.int 0):=by unfold aC;rw[hG]
def Lo :xo c (a++[b])=nA (xo c a) b:=by unfold xo;rw[lC];rfl
def yZ(h:∀k∈kd e b d a g,f k=c k):BV e b d a f g x=BV e b d a c g x:=by
 unfold BV;rw[cC λk i=>h k (cf.mp i).1]
def Au(h:∀k∈kd e b c a g,j k=d k)(n:∀k∈kd e b c a g,∀z,i k z=f k z):pB e b c a l j i g m=pB e b c a l d f g m:=by
 unfold pB Xz;rw[yZ (x:=.ξ) h,cC λk o=>by rw[n k o,yZ (x:=.int k) h]]
def mK(g:Good a f)(R:ζ a f h c b)(i:0<=e)(l:e<a)(j:k∈kd a f h c e):((0<=k/\k<a)/\k≠h/\c k=e)/\a.toNat-b e=a.toNat-b k+1/\1<=a.toNat-b k:=by
 have w:=(de g R i l).mp j;have:=R.pos w.1.1 w.1.2 w.2.1;have d:=lQ R w.1.1 w.1.2;rw[w.2.2]at this;exact⟨w,by lia,by lia⟩
def G8(R:ζ b e f d a)(g:0<=c)(h:c<b):∃n,b.toNat-a c=n+1:=⟨b.toNat-a c-1,by have:=lQ R g h;lia⟩
def Bq(g:Good c b)(R:ζ c b h a d)(m:0<=i)(p:i<c):Tp c b h a d f i j=pB c b h a f (Ge c b h a d f) (Tp c b h a d f) i j:=by
 obtain⟨n,e⟩:=G8 R m p;have o:∀k∈kd c b h a i,c.toNat-d k=n:=λk l=>by have:=(mK g R m p l).2.1;lia
 unfold Tp;rw[e];show pB c b h a f _ _ i j=_;exact Au (λk l=>by show _=ld c b h a f (c.toNat-d k) false k 0;rw[o k l]) (λk l z=>by show _=ld c b h a f (c.toNat-d k) true k z;rw[o k l])
def HP(g:Good d b)(R:ζ d b j a f)(m:0<=i)(p:i<d):Ge d b j a f h i=if 0<h i then BV d b j a (Ge d b j a f h) i .ξ else Tp d b j a f h i (Vo b a i-1):=by
 obtain⟨n,e⟩:=G8 R m p;have o:∀k∈kd d b j a i,d.toNat-f k=n:=λk l=>by have:=(mK g R m p l).2.1;lia
 rw[Bq g R m p];unfold Ge;rw[e];show(if 0<h i then BV d b j a _ i .ξ else pB d b j a h _ _ i _)=_;by_cases c:0<h i
 .rw[aj c,aj c];exact yZ λk l=>by rw[o k l]
 .rw[ah c,ah c];exact Au (λk l=>by show _=ld d b j a h (d.toNat-f k) false k 0;rw[o k l]) (λk l z=>by show _=ld d b j a h (d.toNat-f k) true k z;rw[o k l])
def A2(e:a.length=b)(d:c.length=b):(nA a c).length=b:=by unfold nA;rw[List.length_zipWith];lia
theorem yc{m:Int}:∀(b:List (List Int))(a:fc),a.length=m.toNat->(∀l∈b,l.length=m.toNat)->(b.foldl nA a).length=m.toNat
 | [],a,h,_=>h
 | l::b,a,h,hl=>yc b (nA a l) (A2 h (hl l aL)) λx c=>hl x (aI _ c)
def zi(m:Int):(aC m).length=m.toNat:=b8
def zG(h:∀k∈kd a d e b f,(c k).length=a.toNat):(BV a d e b c f g).length=a.toNat:=by
 unfold BV xo;refine yc _ _ (zi a) λl j=>?_;obtain⟨k,i,rfl⟩:=aZ.mp j;exact h k (cf.mp i).1
theorem EF{P:List Int->Prop}:∀(a:List (List Int))(b:fc),P b->(∀l∈a,P l)->P (a.foldl rd b)
 | [],b,h,_=>h
 | l::a,b,h,hl=>EF a (rd b l) (by
   unfold rd;split
   .exact hl l aL
   .exact h) λx c=>hl x (aI _ c)
def Pu :(vL a c b).length=a.length:=by unfold vL;rw[bN]
def Me{j:Int->List Int}{i:Int->Int->List Int}(h:∀k∈kd a c e b d,(j k).length=a.toNat)(m:∀k∈kd a c e b d,∀z,(i k z).length=a.toNat):(pB a c e b f j i d g).length=a.toNat:=by
 unfold pB;refine EF (P:=λl=>l.length=a.toNat) _ _ (by rw[Pu];exact zG h) λl o=>?_;obtain⟨k,n,rfl⟩:=aZ.mp o;exact A2 (m k n _) (zG h)
section
variable{m:Int}{d:ix}{r:Int}{b:fz}{c:hB}{f:fz}
theorem GF(g:Good m d)(R:ζ m d r b c):∀(n:Nat)(v:Int),0<=v->v<m->m.toNat-c v=n->(Ge m d r b c f v).length=m.toNat/\∀y,(Tp m d r b c f v y).length=m.toNat
 | 0,v,h0,h1,e=>by have:=lQ R h0 h1;lia
 | n+1,v,h0,h1,e=>by
   have i:∀k∈kd m d r b v,_:=λk h=>by
    have w:=mK g R h0 h1 h;exact GF g R n k w.1.1.1 w.1.1.2 (by lia)
   have a:∀y,(Tp m d r b c f v y).length=m.toNat:=λy=>by
    rw[Bq g R h0 h1];exact Me (λk h=>(i k h).1) λk h=>(i k h).2
   refine⟨?_,a⟩;rw[HP g R h0 h1];split
   .exact zG λk h=>(i k h).1
   .exact a _
end
def Jm(g:Good a b)(R:ζ a b f c e)(i:0<=d)(j:d<a):(Ge a b f c e h d).length=a.toNat:=(GF g R _ d i j rfl).1
def JF(g:Good a b)(R:ζ a b f c e)(j:0<=d)(k:d<a):(Tp a b f c e i d h).length=a.toNat:=(GF g R _ d j k rfl).2 h
theorem Ih:∀(c:List (List Int))(b:fc),c.foldl rd b=b\/c.foldl rd b∈c
 | [],b=>.inl rfl
 | a::c,b=>by
   rw[iY];rcases Ih c (rd b a)with h|h
   .rw[h];by_cases z:b.sum<a.sum
    .rw[MN z];exact .inr aL
    .rw[ME z];exact .inl rfl
   .exact .inr (aI _ h)
theorem RT(v z:Int):Tx b a v z=if 0<=z then z/Vo b a v else z*Wr b a v:=rfl
abbrev p3(m:Int)(c:ix)(r:Int)(a:fz)(b:hB)(d:fc):Int->Int:=Ϟ m c r a b (λv=>d.getD v.toNat 0) (X8 c a)
theorem EU:∀{xs ys:fc},xs.length=ys.length->∀(i:Nat),(nA xs ys).getD i 0=xs.getD i 0+ys.getD i 0
 | [],[],_,i=>by simp[nA]
 | a::xs,b::ys,h,0=>by simp[nA]
 | a::xs,b::ys,h,i+1=>by
   have c:=EU (xs:=xs) (ys:=ys) (by simpa using h) i;unfold nA at c ⊢;rw[List.zipWith_cons_cons,kh,kh,kh,c]
def GA(m:Int)(i:Nat):(aC m).getD i 0=0:=by
 rw[bn];cases e:(aC m)[i]? with
 | none=>rfl
 | some y=>exact(i4.mp (aP e)).2
theorem Dz :∀{l:fc},(l.map λc=>-f c).sum=-(l.map f).sum
 | []=>rfl
 | a::l=>by rw[aE,aE,bf,bf,Dz];lia
def M9(g:0<=a)(c:a<m):((aC m).set a.toNat d).getD a.toNat 0=d/\∀u,0<=u->u<m->u≠a->((aC m).set a.toNat d).getD u.toNat 0=0:=by
 refine⟨?_,λu f b e=>?_⟩
 .rw[bn,da (by rw[zi];lia)];rfl
 .rw[bn,cA (by lia),<-bn,GA]
end Pb
namespace L2
open PySem Pb
def SG(a b:fc):PyData.eqv (DR a) (DR b)=decide (a=b):=by
 unfold DR;simp only[PyData.eqv];exact GO a b
def Hi{H:Hp}{d e:fc}{Q:VK}(g:H a=some (.tup (d.map V.int)))(f:H b=some (.tup (e.map V.int)))(q:Q (.bl (decide (d=e))) H):R6 c (.ref a) (.ref b) H Q:=⟨_,_,Hf g,Hf f,by have:=LK d;lia,by rw[SG];exact q⟩
end L2
namespace Pb
open PySem L2
def G9(g:Good b a) :(kd b a r par v).length<=24:=by
 have d:=bP (λu=>decide (V.int u≠front r par v)) (jO b a v);have c:=bP (λq=>decide (q∈gN a v)) (b7 b.toNat);rw[b6]at c;have:=g.Ζ;show((jO b a v).filter λu=>decide (V.int u≠front r par v)).length<=24;unfold jO at d ⊢
 lia
theorem zB{f:fz}{M:Int}:∀{l:fc},(∀c∈l,f c<=M)->(l.map f).sum<=l.length*M
 | [],_=>by simp
 | a::l,h=>by
   have e:=h a aL;have d:=zB (l:=l) λc b=>h c (aI _ b);rw[aE,bf,aO];have:((l.length+1:Nat):Int)*M=l.length*M+M:=by
    rw[eR,eW];simp
   lia
def DE{a b:Nat}(h:a<=b):(2:Int)^a<=2^b:=by
 obtain⟨c,rfl⟩:=Nat.exists_eq_add_of_le h;rw[gY];have:=bL (show(1:Int)<=2^c from dI (by decide)) (fm (show(0:Int)<2^a from dI (by decide)))
 lia
section
variable{m:Int}{a:ix}{r:Int}{par:fz}
def GP(g:Good m a){f:fz}{v M:Int}(b:0<=M)(h:∀c∈kd m a r par v,f c<=M):((kd m a r par v).map f).sum<=24*M:=by
 have d:=zB h;have e:=G9 (r:=r) (par:=par) g (v:=v);have:=b5 (show(((kd m a r par v).length:Nat):Int)<=24 by lia) b
 lia
end
def yb{m:Int}{d:ix}{r:Int}{c:fz}{e:hB}(g:Good m d)(R:ζ m d r c e){v:Int}(h:0<=v)(f:v<m)(i:v≠r):(2<=Vo d c v/\Vo d c v<=1000000)/\2<=Wr d c v/\Wr d c v<=1000000:=by
 obtain⟨o,k,a,n⟩:=jB g R h f i;obtain⟨p,l,b,j⟩:=tP g R h f i;unfold Vo Wr;rw[k,l];exact⟨⟨a,n⟩,b,j⟩
end Pb
namespace L2
open PySem PySem.Spec PyProof.Rows
def Lz(i j:Nat)(c:TA):TS:=λD a H=>c a H λd b=>∃v w,d=[v,w]/\D.nx ((a.set i (some v)).set j (some w)) b
def Q1{kt k2 pt2}(hc:a.calm=true)(hN:a.N.Nodup)(hi:a.N[i]?=some b)(hj:a.N[j]?=some c)(hij:i≠j)(hx:a.env.scope.names.lookup b=some .local)(hy:a.env.scope.names.lookup c=some .local)(ha:PA a [m,d] n)(hw:swappedStores [.Tuple [.Name b k,.Name c g] kt f] (.Tuple [m,d] k2 pt2) a.env=pure (some [b,c]))(hs:swapsWithSole [.Tuple [.Name b k,.Name c g] kt f] (.Tuple [m,d] k2 pt2) l.line a.env=pure false:=by rfl):PS a (.Assign [.Tuple [.Name b k,.Name c g] kt f] (.Tuple [m,d] k2 pt2) l) (Lz i j n):=by
 intro r s y H D I h;rw[exec_Assign_arm];refine ao (jd ?_);rw[hs];refine ao (bh ?_);rw[ah (by decide)];refine ao (Tuple_ (sH (ha _ r s y H _ I h) λM t S C G P B=>?_));obtain⟨v,w,L,B⟩:=B;subst L;obtain⟨x,u,rfl,F,J⟩:∃x u,M=[x,u]/\RelV v x/\RelV w u:=by
  cases P with
  | cons p q=>
    cases q with
    | cons p' q'=>
      cases q';exact⟨_,_,rfl,p,p'⟩
 refine fA ?_ (by show 2<=sizeLine;decide);have Q:Inv a r y C { t with heap:=t.heap.push { cls:=.type "tuple",data:=.seq [x,u].toArray } }:=G.kept (t':=t.toks) λd o e=>aB _ e;rw[hw];refine ao (bh ?_);show wpAny (model a.prog a.w) a.A (do rule "assign.swapped-stores";let items <-unpackItems (.ref t.heap.objs.size) 2 none;assignInOrder [λv=>bindName a.env c v,λv=>bindName a.env b v] items.reverse;pure Flow.next) _ _ _;refine ao (mw (ao (unpackItems_tuple (items:=#[x,u]) (I.ok.hd hc) (IsTup.new t.heap _) λh' z=>?_)));have O:=Q.kept (h':=h') (t':=t.toks) λd o e=>z d o (aV (aK e)) e;show wpAny _ _ (assignInOrder [λv=>bindName a.env c v,λv=>bindName a.env b v] [u,x]>>=λ_=>pure Flow.next) _ _ _;refine ao (assignInOrder_cons (mB (tW O hN hj (.inl hy) J (λT K=>?_) (.inr hy))));refine assignInOrder_cons (mB (tW K hN hi (.inl hx) F (λR E=>assignInOrder_nil (bh ?_)) (.inr hx)));have e:(y.set j (some w)).set i (some v)=(y.set i (some v)).set j (some w):=List.set_comm _ _ hij.symm;rw[e]at E;exact⟨_,C,E,B⟩
end L2
namespace Pb
open PySem L2
theorem tf :∀{l:List f}{i:List e}{b:e},Paired d l (i++[b])->∃g a,l=g++[a]/\Paired d g i/\d a b
 | _,[],b,.cons (a:=a) h .nil=>⟨[],a,rfl,.nil,h⟩
 | _,c::i,b,.cons (a:=a) h hs=>by
   obtain⟨g,x,rfl,k,j⟩:=tf hs;exact⟨a::g,x,rfl,.cons h k,j⟩
def Er(l:List a)(x:a):ϳ (l++[x]) (-1)=some x:=by
 unfold ϳ Vx;rw[ah (by decide),aH,aO,dA,aj (by lia)];show(l++[x])[(-1+((l.length+(0+1):Nat):Int)).toNat]?=some x;rw[show(-1+((l.length+(0+1):Nat):Int)).toNat=l.length by lia,dc (aJ _),dY]
 rfl
def Se{b a:fc}(l:b.length=a.length)(h:∀i:Nat,b.getD i 0=a.getD i 0):b=a:=by
 refine List.ext_getElem l λi d c=>?_;have:=h i;rw[bn,bn,az d,az c]at this;exact this
def OG{m v:Int}{b:fc}(k:(b.length:Int)=m)(j:0<=v)(g:v<m):nA b ((List.replicate m.toNat (0:Int)).set v.toNat a)=b.set v.toNat (b.getD v.toNat 0+a):=by
 have f:b.length=((List.replicate m.toNat (0:Int)).set v.toNat a).length:=by rw[bN,b8];lia
 refine Se (by rw[A2 rfl f.symm,bN]) λi=>?_;rw[EU f];have h:=M9 (m:=m) (d:=a) j g;by_cases e:i=v.toNat
 .subst e;have c:((List.replicate m.toNat (0:Int)).set v.toNat a).getD v.toNat 0=a:=h.1;rw[c,bn (l:=b.set v.toNat (b.getD v.toNat 0+a)),da (by lia)]
  rfl
 .have c:((List.replicate m.toNat (0:Int)).set v.toNat a).getD i 0=0:=by
   rw[bn,cA (Ne.symm e),<-bn];exact GA m i
  rw[c,bn (l:=b.set v.toNat (b.getD v.toNat 0+a)),cA (Ne.symm e),<-bn]
  lia
def XA(h:¬a=b):¬V.str a=V.str b:=λz=>h (by injection z)
inductive Dd where
 | put (v n:Int)|want (v n:Int)|back (v n:Int)|step (a b n:Int)
def Dd.wd:Dd->Str
 | .put _ _=>"put" | .want _ _=>"want" | .back _ _=>"back" | .step _ _ _=>"step"
def Dd.ns:Dd->List Int
 | .put v n=>[v,n]|.want v n=>[v,n]|.back v n=>[v,n]|.step a b n=>[a,b,n]
def Dd.Ok(m:Int)(c:ix):Dd->Prop
 | .put v n=>(0<=v/\v<m)/\0<=n|.want v n=>(0<=v/\v<m)/\0<=n|.back _ _=>True|.step a b n=>U8 c a b/\1<=n/\n<=3
def Za(c:ix)(s:List Int×List Int):Dd->Option (List Int×List Int)
 | .put v n=>some (s.1.set v.toNat (s.1.getD v.toNat 0+n),s.2)
 | .want v n=>some (s.1,s.2.set v.toNat n)
 | .back _ _=>none
 | .step a b n=>if n*jH c a b<=s.1.getD a.toNat 0 then some (pF c s.1 (a,b,n),s.2)else none
def J8{D:Dd}(h:∀v n,D≠.back v n):¬V.str D.wd=V.str "back":=by
 cases D with
 | put v n=>exact(XA (by decide +kernel):¬V.str "put"=V.str "back")
 | want v n=>exact(XA (by decide +kernel):¬V.str "want"=V.str "back")
 | back v n=>exact absurd rfl (h v n)
 | step a b n=>exact(XA (by decide +kernel):¬V.str "step"=V.str "back")
end Pb
namespace Pb
open L2 PySem PySem.W NumText
structure Fig(l:List Nat):Prop where
 akJ:1<=l.length
 aaE:l.length<=60
 all:∀c∈l,48<=c/\c<=57
 lead:l=[48]\/l.head?≠some 48
def RN(h:a<10^60):Fig (FS a).cps.toList:=by
 rw[rp];refine⟨jX.mpr (zF a),oQ 59 a h,q8 a,?_⟩;by_cases z:a=0
 .subst z;exact .inl rfl
 .obtain⟨c,r,e,hc⟩:=EO a (by lia);refine .inr ?_;rw[e];exact λq=>hc (by injection q)
open Classical in
def wsp(z:Str):List Str:=Txt.split z (Str.ofString " ")
end Pb
namespace Pb
open L2 PySem PySem.W NumText
def Pl(z:Str):Prop:=∀c∈z.cps.toList,c<128/\c≠10
theorem Fs(d:c≠[]):∀{A:List (List Nat)},A≠[]->jF s (A++c)=jF s A++s++jF s c
 | [],h=>absurd rfl h
 | [a],_=>by
   cases c with
   | nil=>exact absurd rfl d
   | cons b c=>rfl
 | a::a'::r,_=>by
   have:=Fs (s:=s) d (A:=a'::r) (by simp);show a++s++jF s ((a'::r)++c)=a++s++jF s (a'::r)++s++jF s c;rw[this];simp only[cj]
theorem Cy :∀{ws:hX},(∀w∈ws,w.length<=m)->(ws.map (·.length)).sum<=m*ws.length
 | [],_=>by simp
 | w::ws,h=>by
   have c:=h w (.head _);have b:=Cy (ws:=ws) λx a=>h x (.tail _ a);rw[aE,bf,aO,nX]
   lia
def Ha(h:∀w∈ws,w.length<=m):(Str.join z ws).length<=(m+z.length)*ws.length:=by
 rw[iJ,kE];have:=zb (s:=z.cps.toList) (m:=m) (l:=ws.map (·.cps.toList)) λx a=>by
  obtain⟨w,b,rfl⟩:=aZ.mp a;rw[<-iJ];exact h w b
 rw[ag,<-iJ]at this;exact this
def ch:Nat->Nat->Nat
 | _,0=>1
 | 0,_+1=>0
 | n+1,k+1=>ch n k+ch n (k+1)
def qi(n:Nat):ch n 0=1:=by cases n<;>rfl
theorem wo:∀n k:Nat,(ch n (k+1):Int)*((k:Int)+1)=(ch n k:Int)*((n:Int)-(k:Int))
 | 0,0=>by simp[ch]
 | 0,k+1=>by simp[ch]
 | n+1,0=>by
   have h:=wo n 0;rw[qi]at h ⊢;show((ch n 0+ch n 1:Nat):Int)*_=_;rw[qi];have h:((ch n 1:Nat):Int)*(((0:Nat):Int)+1)=((1:Nat):Int)*((n:Int)-((0:Nat):Int)):=h;simp only[eR,Int.natCast_one]at h ⊢
   lia
 | n+1,k+1=>by
   have e:=wo n k;have d:=wo n (k+1);show((ch n (k+1)+ch n (k+1+1):Nat):Int)*_=((ch n k+ch n (k+1):Nat):Int)*_;generalize ch n (k+1+1)=c at e d;generalize ch n (k+1)=b at e d;generalize ch n k=a at e d;simp only[eR,Int.natCast_one]at e d ⊢;have f:((b:Int)+(c:Int))*((k:Int)+1+1)=(c:Int)*((k:Int)+1+1)+(b:Int)*((k:Int)+1)+(b:Int):=by
    rw[eW,fM (b:Int) ((k:Int)+1) 1]
    lia
   have g:((a:Int)+(b:Int))*((n:Int)+1-((k:Int)+1))=(a:Int)*((n:Int)-(k:Int))+(b:Int)*((n:Int)-((k:Int)+1))+(b:Int):=by
    rw[show(n:Int)+1-((k:Int)+1)=(n:Int)-(k:Int) by lia,eW,show(n:Int)-(k:Int)=((n:Int)-((k:Int)+1))+1 by lia,fM (b:Int) _ 1]
    lia
   rw[f,g,e,d]
   lia
def Tc:List Int->Nat->Nat->Int
 | [],_,_=>0
 | d::r,n,k=>d*(ch n k:Int)+Tc r n (k+1)
theorem A6:∀(r:fc)(k:Nat),Tc r 0 (k+1)=0
 | [],_=>rfl
 | d::r,k=>by
   show d*((ch 0 (k+1):Nat):Int)+Tc r 0 (k+1+1)=0;rw[A6 r (k+1)];show d*((0:Nat):Int)+0=0;simp
theorem GW:∀(r:fc)(n k:Nat),Tc r (n+1) (k+1)=Tc r n (k+1)+Tc r n k
 | [],_,_=>rfl
 | d::r,n,k=>by
   show d*((ch n k+ch n (k+1):Nat):Int)+Tc r (n+1) (k+1+1)=(d*(ch n (k+1):Int)+Tc r n (k+1+1))+(d*(ch n k:Int)+Tc r n (k+1));rw[GW r n (k+1),eR,fM]
   lia
def dl(f:Nat->Int):Nat->Int:=λn=>f (n+1)-f n
def Pd:Nat->(Nat->Int)->Prop
 | 0,f=>∀n,f n=f 0
 | d+1,f=>Pd d (dl f)
def UK:Nat->(Nat->Int)->List Int
 | 0,_=>[]
 | N+1,f=>f 0::UK N (dl f)
theorem D0:∀(N:Nat)(f:Nat->Int),(UK N f).length=N
 | 0,_=>rfl
 | N+1,f=>by
   show(UK N (dl f)).length+1=_;rw[D0 N]
theorem Pd.zero(h:∀n,f n=0):∀d,Pd d f
 | 0=>λn=>by rw[h n,h 0]
 | d+1=>Pd.zero (f:=dl f) (λn=>by show f (n+1)-f n=0;rw[h,h];rfl) d
theorem Pd.up:∀{d:Nat}{f:Nat->Int},Pd d f->Pd (d+1) f
 | 0,f,h=>λn=>by
   show f (n+1)-f n=f (0+1)-f 0;rw[h (n+1),h n,h (0+1)]
 | d+1,f,h=>Pd.up (d:=d) (f:=dl f) h
def Pd.le(h:Pd a f)(l:a<=b):Pd b f:=by
 induction l with
 | refl=>exact h
 | step _ ih=>exact ih.up
theorem Pd.add:∀{d:Nat}{f g:Nat->Int},Pd d f->Pd d g->Pd d (λn=>f n+g n)
 | 0,f,g,h,k=>λn=>by
   show f n+g n=f 0+g 0;rw[h n,k n]
 | d+1,f,g,h,k=>by
   have:=Pd.add (d:=d) (f:=dl f) (g:=dl g) h k;have e:dl (λn=>f n+g n)=λn=>dl f n+dl g n:=by
    funext n
    show f (n+1)+g (n+1)-(f n+g n)=(f (n+1)-f n)+(g (n+1)-g n)
    lia
   show Pd d (dl (λn=>f n+g n));rw[e];exact this
theorem Pd.smul(c:Int):∀{d:Nat}{f:Nat->Int},Pd d f->Pd d (λn=>c*f n)
 | 0,f,h=>λn=>by
   show c*f n=c*f 0;rw[h n]
 | d+1,f,h=>by
   have:=Pd.smul c (d:=d) (f:=dl f) h;have e:dl (λn=>c*f n)=λn=>c*dl f n:=by
    funext n
    show c*f (n+1)-c*f n=c*(f (n+1)-f n);rw[mj]
   show Pd d (dl (λn=>c*f n));rw[e];exact this
theorem Pd.shift(b:Nat):∀{d:Nat}{f:Nat->Int},Pd d f->Pd d (λn=>f (n+b))
 | 0,f,h=>λn=>by
   show f (n+b)=f (0+b);rw[h (n+b),h (0+b)]
 | d+1,f,h=>by
   have:=Pd.shift b (d:=d) (f:=dl f) h;have e:dl (λn=>f (n+b))=λn=>dl f (n+b):=by
    funext n
    show f (n+1+b)-f (n+b)=f (n+b+1)-f (n+b);rw[show n+1+b=n+b+1 by lia]
   show Pd d (dl (λn=>f (n+b)));rw[e];exact this
def aS:Nat->(Nat->Int)->Int
 | 0,_=>0
 | k+1,f=>aS k f+f k
theorem Pd.sum{f:Nat->Nat->Int}(h:∀i,Pd d (f i)):∀k,Pd d (λn=>aS k λi=>f i n)
 | 0=>Pd.zero (λ_=>rfl) d
 | k+1=>(Pd.sum h k).add (h k)
theorem J5(f:Nat->Int)(b:Nat):∀a:Nat,f (b+a)-f b=aS a λi=>dl f (b+i)
 | 0=>by
   show f b-f b=0
   lia
 | a+1=>by
   have:=J5 f b a;show f (b+(a+1))-f b=(aS a λi=>dl f (b+i))+dl f (b+a);rw[<-this];show f (b+(a+1))-f b=f (b+a)-f b+(f (b+a+1)-f (b+a));rw[show b+(a+1)=b+a+1 by lia]
   lia
theorem Pd.lin(a:Nat):∀{d:Nat}{f:Nat->Int},Pd d f->∀b,Pd d (λn=>f (a*n+b))
 | 0,f,h,b=>λn=>by
   show f (a*n+b)=f (a*0+b);rw[h (a*n+b),h (a*0+b)]
 | d+1,f,h,b=>by
   have e:dl (λn=>f (a*n+b))=λn=>aS a λi=>(λi n=>dl f (a*n+(b+i))) i n:=by
    funext n
    show f (a*(n+1)+b)-f (a*n+b)=_;rw[show a*(n+1)+b=(a*n+b)+a by rw[oM];lia,J5 f (a*n+b) a]
    congr 1
    funext i
    show dl f (a*n+b+i)=dl f (a*n+(b+i));rw[Nat.add_assoc]
   show Pd d (dl (λn=>f (a*n+b)));rw[e];exact Pd.sum (λi=>Pd.lin a (d:=d) (f:=dl f) h (b+i)) a
def Uh(f g:Nat->Int)(n:Nat):Int:=aS (n+1) λk=>f k*g (n-k)
theorem uH :∀{k:Nat},(∀i,i<k->f i=g i)->aS k f=aS k g
 | 0,_=>rfl
 | k+1,h=>by
   show aS k f+f k=aS k g+g k;rw[uH λi a=>h i (by lia),h k (by lia)]
theorem Jz(f g:Nat->Int):∀k,aS k (λi=>f i-g i)=aS k f-aS k g
 | 0=>rfl
 | k+1=>by
   show aS k (λi=>f i-g i)+(f k-g k)=aS k f+f k-(aS k g+g k);rw[Jz f g k]
   lia
def LW(f g:Nat->Int):dl (Uh f g)=λn=>f (n+1)*g 0+Uh f (dl g) n:=by
 funext n
 show(aS (n+1) λk=>f k*g (n+1-k))+f (n+1)*g (n+1-(n+1))-aS (n+1) (λk=>f k*g (n-k))=f (n+1)*g 0+aS (n+1) λk=>f k*dl g (n-k);have e:(aS (n+1) λk=>f k*dl g (n-k))=aS (n+1) λk=>f k*g (n+1-k)-f k*g (n-k):=uH λi a=>by
  show f i*(g (n-i+1)-g (n-i))=_;rw[mj,show n-i+1=n+1-i by lia]
 rw[e,Jz,dY]
 lia
theorem Pd.Uh(c:Pd b a):∀{e:Nat}{g:Nat->Int},Pd e g->Pd (b+e+1) (Uh a g)
 | 0,g,hg=>by
   show Pd b (dl (Pb.Uh a g));rw[LW];refine Pd.add ?_ (Pd.zero (λn=>?_) b)
   .have:=(c.shift 1).smul (g 0);have e:(λn=>g 0*a (n+1))=λn=>a (n+1)*g 0:=by
     funext n
     exact fS ..
    rw[e]at this;exact this
   .have z:∀m,dl g m=0:=λm=>by
     show g (m+1)-g m=0;rw[hg (m+1),hg m]
     lia
    have:=uH (k:=n+1) (f:=λk=>a k*dl g (n-k)) (g:=λ_=>0) λi _=>by rw[z];simp
    show aS (n+1) (λk=>a k*dl g (n-k))=0;rw[this];clear this
    induction n+1 with
    | zero=>rfl
    | succ k ih=>show aS k (λ_=>0)+0=0;rw[ih];rfl
 | e+1,g,hg=>by
   show Pd (b+e+1) (dl (Pb.Uh a g));rw[LW];refine Pd.add ?_ (Pd.Uh c (e:=e) (g:=dl g) hg);have:=((c.shift 1).smul (g 0)).le (show b<=b+e+1 by lia);have e:(λn=>g 0*a (n+1))=λn=>a (n+1)*g 0:=by
    funext n
    exact fS ..
   rw[e]at this;exact this
theorem GK:∀(N:Nat){d:Nat}{f:Nat->Int},Pd d f->d<N->∀n,Tc (UK N f) n 0=f n
 | 0,_,_,_,h,_=>absurd h (Nat.not_lt_zero _)
 | N+1,d,f,hf,_,n=>by
   have a:∀n,Tc (UK N (dl f)) n 0=dl f n:=by
    intro n;cases d with
    | zero=>
      have z:∀m,dl f m=0:=λm=>by
       show f (m+1)-f m=0;rw[hf (m+1),hf m]
       lia
      cases N with
      | zero=>rw[z];rfl
      | succ N=>exact GK (N+1) (Pd.zero z 0) (by lia) n
    | succ d=>exact GK N (d:=d) (f:=dl f) hf (by lia) n
   show f 0*(ch n 0:Int)+Tc (UK N (dl f)) n (0+1)=f n;rw[qi]
   induction n with
   | zero=>
     rw[A6];simp
   | succ n ihn=>
     rw[GW,a n];show f 0*((1:Nat):Int)+(Tc (UK N (dl f)) n (0+1)+(f (n+1)-f n))=f (n+1)
     lia
theorem yS:∀{N:Nat}{f g:Nat->Int},(∀i,i<N->f i=g i)->UK N f=UK N g
 | 0,_,_,_=>rfl
 | N+1,f,g,h=>by
   show f 0::UK N (dl f)=g 0::UK N (dl g);rw[h 0 (by lia),yS (N:=N) (f:=dl f) (g:=dl g) λi a=>by
    show f (i+1)-f i=g (i+1)-g i;rw[h i (by lia),h (i+1) (by lia)]]
def Vp(a:fc):List Int:=UK a.length λi=>a.getD i 0
def Yd(a:fc):List Int:=(a.zip (a.drop 1)).map λp=>p.2-p.1
def Ee(a:fc):(Yd a).length=a.length-1:=by
 unfold Yd;rw[ag,iV,fN]
 lia
def RS(h:a+1<xs.length):(Yd xs).getD a 0=xs.getD (a+1) 0-xs.getD a 0:=by
 unfold Yd;rw[bn,aN,az (by rw[iV,fN];lia)];simp[bn,h,show a<xs.length by lia,Nat.add_comm]
def OH(x:Int)(r:fc):Vp (x::r)=x::Vp (Yd (x::r)):=by
 unfold Vp;rw[Ee];show x::UK r.length _=x::UK (r.length+1-1) _;rw[Nat.add_sub_cancel]
 congr 1
 exact yS λi a=>(RS (xs:=x::r) (by simpa using a)).symm
theorem K2:∀n k:Nat,ch n k<=2^n
 | 0,0=>aJ _
 | 0,_+1=>cg _
 | n+1,0=>by rw[qi];exact Nat.one_le_two_pow
 | n+1,k+1=>by
   have b:=K2 n k;have a:=K2 n (k+1);show ch n k+ch n (k+1)<=2^(n+1);rw[dW]
   lia
theorem JA(f:Nat->Int):∀k,((List.range k).map f).sum=aS k f
 | 0=>rfl
 | k+1=>by
   rw[dZ,aq,iW,JA f k];show aS k f+(f k+0)=aS k f+f k
   lia
def Td:Nat:=2^200000
def sk(h:a<=2^k)(b:k<200000):a<Td:=by
 unfold Td;exact fZ h (mQ (by decide) b)
def wc(c:a.natAbs<Td)(d:b.natAbs<Td):IntMulOk a b:=by
 unfold Td at c d;exact IntMulOk.of_bits (aW (zu c) (by decide)) (aW (zu d) (by decide))
def Rx(h:a<=100000):ch a b<Td:=sk (K2 a b) (by lia)
theorem Gn:∀n k:Nat,ch n k<=(n+1)^k
 | n,0=>by rw[qi];exact aJ _
 | 0,k+1=>cg _
 | n+1,k+1=>by
   have d:=Gn n k;have b:=Gn n (k+1);have a:(n+1)^k<=(n+1+1)^k:=nF (by lia) k;show ch n k+ch n (k+1)<=(n+1+1)^(k+1);rw[dW]at b;rw[dW,nX];have c:(n+1)^k*(n+1)<=(n+1+1)^k*(n+1):=mX _ a
   lia
def Kc(h:a+1<=2^x)(b:x*k<200000):ch a k<Td:=sk (k:=x*k) (aW (Gn a k) (by rw[Nat.pow_mul];exact nF h k)) b
def ϟ(b c:Int->Bool)(a:Int->Nat->Int):List Int->Nat->Int
 | [],_=>1
 | k::ks,n=>if b k=true then Uh (a k) (ϟ b c a ks) n else if c k=true then a k n*ϟ b c a ks 0 else a k 0*ϟ b c a ks n
def AO(h:a c=true):ϟ a e b (c::d)=Uh (b c) (ϟ a e b d):=by
 funext n
 show(if a c=true then _ else _)=_;rw[aj h]
def BD(h:¬a b=true)(f:c b=true):ϟ a c d (b::e)=λn=>d b n*ϟ a c d e 0:=by
 funext n
 show(if a b=true then _ else _)=_;rw[ah h,aj f]
def Bp(h:¬a b=true)(f:¬c b=true):ϟ a c d (b::e)=λn=>d b 0*ϟ a c d e n:=by
 funext n
 show(if a b=true then _ else _)=_;rw[ah h,ah f]
section
variable{c:Int->Bool}{g:Int->Bool}{a:Int->Nat->Int}
theorem MT{d:hB}:∀{ks:fc},(∀k∈ks,Pd (d k) (a k))->Pd ((ks.map λk=>d k+1).sum) (ϟ c g a ks)
 | [],_=>λ_=>rfl
 | k::ks,h=>by
   have j:=h k (.head _);have i:=MT (ks:=ks) λx l=>h x (.tail _ l);rw[aE,bf];by_cases f:c k=true
   .rw[AO f];exact(Pd.Uh j i).le (by lia)
   .by_cases b:g k=true
    .rw[BD f b];have:=(j.smul (ϟ c g a ks 0)).le (show d k<=d k+1+(ks.map λk=>d k+1).sum by lia);have e:(λn=>ϟ c g a ks 0*a k n)=λn=>a k n*ϟ c g a ks 0:=by
      funext n
      exact fS ..
     rw[e]at this;exact this
    .rw[Bp f b];exact(i.smul (a k 0)).le (by lia)
end
theorem J0 :∀{k:Nat},(∀i,i<k->0<=a i/\a i<=b)->0<=aS k a/\aS k a<=k*b
 | 0,_=>⟨bO _,by show(0:Int)<=((0:Nat):Int)*b;simp⟩
 | k+1,h=>by
   obtain⟨f,d⟩:=J0 (k:=k) λi c=>h i (by lia);obtain⟨e,g⟩:=h k (by lia);show 0<=aS k a+a k/\aS k a+a k<=((k+1:Nat):Int)*b;rw[Int.natCast_succ,eW,mn]
   lia
def zg{a b A B:Int}(c:0<=a/\a<=A)(d:0<=b/\b<=B):0<=a*b/\a*b<=A*B:=⟨ja c.1 d.1,dF c.2 d.2 d.1 (ci c.1 c.2)⟩
def QE{f g:Nat->Int}{A B:Int}{n:Nat}(b:∀i,i<=n->0<=f i/\f i<=A)(a:∀i,i<=n->0<=g i/\g i<=B):0<=Uh f g n/\Uh f g n<=((n+1:Nat):Int)*(A*B):=J0 λi c=>zg (b i (by lia)) (a (n-i) (by lia))
def nO(n:Nat):(0:Int)<2^n:=dI (by decide)
section
variable{fr:Int->Bool}{be:Int->Bool}{ws:Int->Nat->Int}
theorem wW{X x:Nat}(c:((X+1:Nat):Int)<=2^x){a:hB}:∀{ks:fc},(∀k∈ks,∀i,i<=X->0<=ws k i/\ws k i<=2^a k)->∀n,n<=X->0<=ϟ fr be ws ks n/\ϟ fr be ws ks n<=2^(ks.map λk=>x+a k).sum
 | [],_,n,_=>⟨by show(0:Int)<=1;decide,by show(1:Int)<=2^0;decide⟩
 | k::ks,h,n,hn=>by
   have d:=h k (.head _);have e:=wW c (ks:=ks) λx c=>h x (.tail _ c);rw[aE,bf,gY,gY];have m:=nO x;have up:∀{u:Int},0<=u/\u<=2^a k*2^(ks.map λk=>x+a k).sum->0<=u/\u<=2^x*2^a k*2^(ks.map λk=>x+a k).sum:=λ{u} hu=>by
    refine⟨hu.1,?_⟩;rw[eV];have:=(zg (a:=1) (A:=2^x) (b:=u) ⟨by decide,by lia⟩ hu).2;rw[mn]at this;exact this
   by_cases f:fr k=true
   .rw[AO f];obtain⟨j,l⟩:=QE (n:=n) (λi g=>d i (by lia)) (λi g=>e i (by lia));refine⟨j,ci l ?_⟩;rw[eV];refine b5 (by lia) (ja (fm (nO _)) (fm (nO _)))
   .by_cases b:be k=true
    .rw[BD f b];exact up (zg (d n hn) (e 0 (by lia)))
    .rw[Bp f b];exact up (zg (d 0 (by lia)) (e n hn))
end
theorem HK:∀{N:Nat}{f:Nat->Int}{b:Nat},(∀i,i<N->(f i).natAbs<=2^b)->∀c∈UK N f,c.natAbs<=2^(b+N)
 | 0,_,_,_,c,hc=>by cases hc
 | N+1,f,b,h,c,hc=>by
   rcases aF.mp (show c∈f 0::UK N (dl f)from hc)with rfl|hc
   .exact aW (h 0 (by lia)) (dq (by decide) (by lia))
   .have:=HK (N:=N) (f:=dl f) (b:=b+1) (λi e=>by
     have d:=h i (by lia);have a:=h (i+1) (by lia);show(f (i+1)-f i).natAbs<=2^(b+1);rw[dW,Nat.mul_two];exact aW (Int.natAbs_sub_le _ _) (Nat.add_le_add a d)) c hc
    rw[show b+1+N=b+(N+1) by lia]at this;exact this
def vH(d:Nat)(W:Nat->Int):Prop:=Pd d W/\∀x n,((n+1:Nat):Int)<=2^x->0<=W n/\W n<=2^(d*(x+20*d))
def Φ(c:Nat)(g:Nat):Nat:=(g+1)*c-1
def Qn(h:1<=a):Φ a b=a*b+(a-1):=by
 unfold Φ;rw[jK,jt]
 lia
def A9(h:a<=b):(2:Int)^a<=2^b:=by
 obtain⟨k,rfl⟩:∃k,b=a+k:=⟨b-a,by lia⟩;rw[gY];have:=bL (show(1:Int)<=2^k from nO k) (fm (nO a));rw[pH]at this;exact this
theorem rY{f g:hB}{y:Nat}:∀{ks:fc},(∀k∈ks,f k<=g k*y)->(ks.map f).sum<=(ks.map g).sum*y
 | [],_=>by simp
 | k::ks,h=>by
   have c:=h k (.head _);have b:=rY (ks:=ks) λx a=>h x (.tail _ a);rw[aE,bf,aE,bf,jK]
   lia
theorem xC{g:hB}:∀{a:fc}{k:Int},k∈a->g k<=(a.map g).sum
 | k'::a,k,h=>by
   rw[aE,bf];rcases aF.mp h with rfl|h
   .lia
   .have:=xC (g:=g) h
    lia
def Kb{W:Int->Nat->Int}{c d:hB}(h:∀k∈b,vH (d k) (W k))(m:∀k∈b,1<=c k/\c k<=1000000):vH (b.map λk=>d k+1).sum (ϟ f j (λk g=>W k (Φ (c k) g)) b):=by
 refine⟨MT λk l=>?_,λx n q=>?_⟩
 .have:=(h k l).1.lin (c k) (c k-1);have e:(λg=>W k (Φ (c k) g))=λg=>W k (c k*g+(c k-1)):=by
   funext g
   rw[Qn (m k l).1]
  rw[e];exact this
 .have key:=wW (fr:=f) (be:=j) (ws:=λk g=>W k (Φ (c k) g)) (X:=n) (x:=x) q (a:=λk=>d k*(x+20+20*d k)) (ks:=b) (λk l i r=>by
   refine(h k l).2 (x+20) (Φ (c k) i) ?_;have o:=(m k l).1;have v:=(m k l).2;have e:Φ (c k) i+1=(i+1)*c k:=by
    unfold Φ;have:1<=(i+1)*c k:=eA (show 1<=i+1 by lia) o
    lia
   rw[e,jS,gY];exact dF (by lia) (by have:(2:Int)^20=1048576:=rfl;lia) (Int.natCast_nonneg _) (fm (nO x))) n (aJ _)
  refine⟨key.1,ci key.2 ?_⟩;refine A9 (rY λk l=>?_);have p:=xC (g:=λk=>d k+1) l;generalize (b.map λk=>d k+1).sum=D at p;have s:x+d k*(x+20+20*d k)=x+d k*x+d k*(20+20*d k):=by rw[show x+20+20*d k=x+(20+20*d k) by lia,oM];lia
  have t:(d k+1)*(x+20*D)=x+d k*x+(d k+1)*(20*D):=by rw[oM,jK];lia
  have u:d k*(20+20*d k)<=(d k+1)*(20*D):=eA (by lia) (by lia)
  lia
structure Ϭ(b:Nat)(cs:fc)(f:Nat->Int):Prop where
 ne:cs≠[]
 len:cs.length<=24
 bt:∀c∈cs,c.natAbs<=2^b
 val:∀n,Tc cs n 0=f n
def Qm:∀(x:Int)(r:fc),Tc (x::r) 0 0=x:=λx r=>by
 show x*((1:Nat):Int)+Tc r 0 (0+1)=x;rw[A6];simp
def Ϭ.head(h:Ϭ c a b):∃r,a=b 0::r:=by
 obtain⟨ne,_,_,v⟩:=h;cases a with
 | nil=>exact absurd rfl ne
 | cons x r=>exact⟨r,by rw[<-v 0,Qm]⟩
def Ϭ.one:Ϭ 0 [1] (ϟ a d b []):=⟨by simp,by simp,λc e=>by rw[aG.mp e];decide,λn=>by
 show 1*((ch n 0:Nat):Int)+0=1;rw[qi]
 rfl⟩
theorem GX(a:Int):∀(b:fc)(n k:Nat),Tc (b.map λc=>a*c) n k=a*Tc b n k
 | [],_,_=>by show(0:Int)=a*0;simp
 | c::b,n,k=>by
   show a*c*(ch n k:Int)+Tc (b.map λc=>a*c) n (k+1)=a*(c*(ch n k:Int)+Tc b n (k+1));rw[GX a b,fM,eV]
def Ϭ.Vp(k:Pd d b)(j:d<a)(g:a<=24)(h:∀i,i<a->(b i).natAbs<=2^c):Ϭ (c+a) (Vp ((List.range a).map b)) b:=by
 have e:Pb.Vp ((List.range a).map b)=UK a b:=by
  unfold Pb.Vp;rw[ag,cP];refine yS λi f=>?_;rw[bn,aN,gM f]
  rfl
 rw[e];refine⟨λz=>?_,by rw[D0];exact g,HK h,GK a k j⟩;have:=D0 a b;rw[z]at this;simp at this
 lia
def VZ:List Int->List (List Int)
 | []=>[[]]
 | k::ks=>(k::ks)::VZ ks
theorem Jn:∀a:List Int,(VZ a).reverse=(List.range (a.length+1)).map λj=>a.drop (a.length-j)
 | []=>rfl
 | k::a=>by
   show((k::a)::VZ a).reverse=_;rw[fE,Jn a,dZ (n:=(k::a).length),aq,aE,cH,dY,iC]
   congr 1
   refine cC λj b=>?_;have:=cY.mp b;rw[aO,show a.length+1-j=(a.length-j)+1 by lia,oC]
def Ϭ.le(h:Ϭ b a f)(l:b<=b'):Ϭ b' a f:=⟨h.ne,h.len,λc d=>aW (h.bt c d) (dq (by decide) l),h.val⟩
def Ut(d:hB)(a:fc):Nat:=(a.map λk=>d k*(25+20*d k)+29).sum
def C9{d:hB}{ks:fc}(h:(ks.map λk=>d k+1).sum<=23):Ut d ks<=15000:=by
 have:Ut d ks<=(ks.map λk=>d k+1).sum*514:=rY λk a=>by
  have:=xC (g:=λk=>d k+1) a;have b:d k*(25+20*d k)<=d k*485:=Nat.mul_le_mul_left _ (by lia);rw[jK]
  lia
 lia
def Gu(g:hB)(a:fc)(j:Nat):((a.drop j).map g).sum<=(a.map g).sum:=by
 have:=congrArg (λl=>(l.map g).sum) (dg j a);simp only[aq,iW]at this
 lia
def Fc{W:Int->Nat->Int}{c d:hB}{N:Nat}(t:N<=24)(h:∀k∈b,vH (d k) (W k))(n:∀k∈b,1<=c k/\c k<=1000000):∀i,i<N->0<=ϟ f l (λk g=>W k (Φ (c k) g)) b i/\ϟ f l (λk g=>W k (Φ (c k) g)) b i<=2^(b.map λk=>5+d k*(25+20*d k)).sum:=by
 intro i r;refine wW (X:=23) (x:=5) (by decide) (a:=λk=>d k*(25+20*d k)) (λk m j u=>?_) i (by lia);refine(h k m).2 25 (Φ (c k) j) ?_;have o:=(n k m).1;have q:=(n k m).2;have e:Φ (c k) j+1=(j+1)*c k:=by
  unfold Φ;have:1<=(j+1)*c k:=eA (show 1<=j+1 by lia) o
  lia
 have s:(j+1)*c k<=24*1000000:=eA (by lia) q;have p:(2:Int)^25=33554432:=rfl;rw[e,p]
 lia
def Gj(h:vH c b)(g:1<=a)(d:a<=1000000)(k:j<24):0<=b (Φ a j)/\b (Φ a j)<=2^(c*(25+20*c)):=by
 refine h.2 25 (Φ a j) ?_;have e:Φ a j+1=(j+1)*a:=by
  unfold Φ;have:1<=(j+1)*a:=eA (show 1<=j+1 by lia) g
  lia
 have i:(j+1)*a<=24*1000000:=eA (by lia) d;have f:(2:Int)^25=33554432:=rfl;rw[e,f]
 lia
def u6{z:Int}{b:Nat}(h:0<=z/\z<=2^b):z.natAbs<=2^b:=by
 have:((2^b:Nat):Int)=(2:Int)^b:=by simp
 lia
def wT(d:hB)(k:Int)(a:fc):Ut d (k::a)=d k*(25+20*d k)+29+Ut d a:=by
 unfold Ut;rw[aE,bf]
theorem D5(d:hB):∀a:List Int,(a.map λk=>5+d k*(25+20*d k)).sum<=Ut d a
 | []=>aJ _
 | k::a=>by
   have:=D5 d a;rw[wT,aE,bf]
   lia
def MF{W:Int->Nat->Int}{c d:hB}{k:Int}{N:Nat}(l:N<=24)(h:∀x∈k::a,vH (d x) (W x))(j:∀x∈k::a,1<=c x/\c x<=1000000)(o:((k::a).map λk=>d k+1).sum<N)(m:e=(List.range N).map (ϟ b f (λk g=>W k (Φ (c k) g)) (k::a))):Ϭ (Ut d (k::a)) (Vp e) (ϟ b f (λk g=>W k (Φ (c k) g)) (k::a)):=by
 subst m;refine(Ϭ.Vp (Kb h j).1 o l λi n=>u6 (Fc l h j i n)).le ?_;have:=D5 d a;rw[wT,aE,bf]
 lia
def Q9{k:Int->Bool}{l:Int->Bool}{W:Int->Nat->Int}{c d:hB}(r:vH (d a) (W a))(o:1<=c a)(s:c a<=1000000)(f:¬k a=true)(b:¬l a=true)(i:Ϭ (Ut d e) h (ϟ k l (λa g=>W a (Φ (c a) g)) e)):Ϭ (Ut d (a::e)) (h.map λx=>W a (Φ (c a) 0)*x) (ϟ k l (λa g=>W a (Φ (c a) g)) (a::e)):=by
 refine⟨λz=>i.ne (jY.mp z),by rw[ag];exact i.len,λx m=>?_,λn=>?_⟩
 .obtain⟨y,hy,rfl⟩:=aZ.mp m;have p:=u6 (Gj r o s (j:=0) (by decide));have q:=i.bt y hy;rw[Int.natAbs_mul,wT];refine aW (eA p q) ?_;rw[<-Nat.pow_add];exact dq (by decide) (by lia)
 .rw[GX,i.val,Bp f b]
def MA(g:∀i,i<=a->d i=c i)(f:∀i,i<=a->e i=b i):Uh d e a=Uh c b a:=uH λi h=>by rw[g i (by lia),f (a-i) (by lia)]
def Ht{f:Nat->Int}{N i:Nat}(h:i<N):((List.range N).map f).getD i 0=f i:=by
 rw[bn,aN,gM h]
 rfl
theorem LN{d:hB}:∀a:List Int,a.length<=(a.map λk=>d k+1).sum
 | []=>aJ _
 | k::a=>by
   have:=LN (d:=d) a;rw[aE,bf,aO]
   lia
theorem JB :∀{l:List b}{d:List c},Paired a l d->Paired a l.reverse d.reverse
 | _,_,.nil=>.nil
 | _,_,.cons e h=>by
   rw[fE,fE];exact p4 e (JB h)
theorem yA :∀{ks:fc},(∀k∈ks,fr k=fr' k/\be k=be' k/\ws k=ws' k)->ϟ fr be ws ks=ϟ fr' be' ws' ks
 | [],_=>rfl
 | k::ks,h=>by
   obtain⟨d,c,b⟩:=h k (.head _);have e:=yA (ks:=ks) λx a=>h x (.tail _ a)
   funext n
   show(if fr k=true then Uh (ws k) (ϟ fr be ws ks) n else if be k=true then ws k n*ϟ fr be ws ks 0 else ws k 0*ϟ fr be ws ks n)=(if fr' k=true then Uh (ws' k) (ϟ fr' be' ws' ks) n else if be' k=true then ws' k n*ϟ fr' be' ws' ks 0 else ws' k 0*ϟ fr' be' ws' ks n);rw[d,c,b,e]
def wyF(m:Int)(e:ix)(r:Int)(a:fz)(d b:Int->Bool)(c:hB):Nat->Int->Nat->Int
 | 0,_=>λ_=>1
 | f+1,v=>ϟ d b (λk g=>wyF m e r a d b c f k (Φ (c k) g)) (kd m e r a v)
def wy(m:Int)(f:ix)(r:Int)(a:fz)(b:hB)(d e:Int->Bool)(c:hB)(v:Int):Nat->Int:=wyF m f r a d e c (m.toNat-b v) v
def wA(g:Good d b)(R:ζ d b i a h)(m:0<=j)(n:j<d):wy d b i a h fr be c j=ϟ fr be (λk g=>wy d b i a h fr be c k (Φ (c k) g)) (kd d b i a j):=by
 unfold wy;cases e:d.toNat-h j with
 | zero=>
   have:kd d b i a j=[]:=by
    cases l:kd d b i a j with
    | nil=>rfl
    | cons k ks=>
      have:=(mK g R m n (k:=k) (by rw[l];exact .head _)).2.1
      lia
   rw[this]
   rfl
 | succ f=>
   show ϟ fr be (λk g=>wyF d b i a fr be c f k (Φ (c k) g)) (kd d b i a j)=_;refine yA λk l=>⟨rfl,rfl,?_⟩;have:=(mK g R m n l).2.1;rw[show d.toNat-h k=f by lia]
def Tz(m:Int)(c:ix)(r:Int)(a:fz)(b:hB)(v:Int):Nat:=(eX m c r a b v).length-1
def rG(g:Good c b)(R:ζ c b f a d)(i:0<=h)(j:h<c):((kd c b f a h).map λk=>Tz c b f a d k+1).sum=Tz c b f a d h:=by
 have e:=congrArg List.length (lX g R i j);rw[aO,List.length_flatMap]at e;unfold Tz;rw[e,Nat.add_sub_cancel];show _=((kd c b f a h).map λk=>(eX c b f a d k).length).sum;refine congrArg List.sum (cC λk l=>?_);obtain⟨⟨m,n⟩,_⟩:=(mK g R i j l).1;have:=congrArg List.length (lX g R m n);rw[aO]at this
 lia
theorem Qf(g:Good b d)(R:ζ b d e c a)(l:∀v,0<=v->v<b->v≠e->1<=f v/\f v<=1000000):∀(n:Nat){v:Int},0<=v->v<b->b.toNat-a v<=n->vH (Tz b d e c a v) (wy b d e c a h i f v)
 | n,v,h0,h1,hn=>by
   rw[wA g R h0 h1,<-rG g R h0 h1];refine Kb (λk j=>?_) λk j=>?_
   .obtain⟨⟨k0,k1⟩,_⟩:=(mK g R h0 h1 j).1;have:=(mK g R h0 h1 j).2.1;cases n with
    | zero=>lia
    | succ n=>exact Qf g R l n k0 k1 (by lia)
   .obtain⟨⟨k0,k1⟩,kr,_⟩:=(mK g R h0 h1 j).1;exact l k k0 k1 kr
theorem Dy:∀{a b:fc},b∈VZ a->∀x∈b,x∈a
 | [],b,h,x,hx=>by
   rw[aG.mp h]at hx;exact hx
 | k::a,b,h,x,hx=>by
   rcases aF.mp (show b∈(k::a)::VZ a from h)with rfl|h
   .exact hx
   .exact .tail _ (Dy h x hx)
theorem Hk :∀{l:List g}{j:List i},(∀a b,b∈j->c a b->d a b)->Paired c l j->Paired d l j
 | _,_,_,.nil=>.nil
 | _,_,f,.cons e h=>.cons (f _ _ (.head _) e) (Hk (λa b k=>f a b (.tail _ k)) h)
def G7(a:fc):∃r,VZ a=a::r:=by
 cases a with
 | nil=>exact⟨[],rfl⟩
 | cons k a=>exact⟨VZ a,rfl⟩
def CA(g:Good a d)(R:ζ a d f e b)(i:0<=c)(k:c<a):(Tz a d f e b c:Int)<a:=by
 obtain⟨j,l⟩:=vZ g R (a.toNat-1-b c) c i k;have:=iL (m:=a) (by lia) j λx h=>(l x h).1;have:=g.m1;unfold Tz eX
 lia
def Rl(g:Good d f)(R:ζ d f e a j)(O:Order d e a b)(l:(e::b).reverse[i]?=some h)(o:0<=h)(n:h<d):∀k∈kd d f e a h,k∈(e::b).reverse.take i:=by
 intro k p;have w:=(de g R o n).mp p;rw[fE]at l ⊢;by_cases c:i<b.length
 .rw[eJ (by rw[aQ];exact c)]at l;obtain⟨_,_,_,_,m⟩:=O.cut R l;have:=m k w.1.1 w.1.2 w.2.1 w.2.2;rw[List.take_append_of_le_length (by rw[aQ];lia),List.take_reverse,dN];exact this
 .rw[List.take_append,bZ (by rw[aQ];lia)];exact bJ _ (dN.mpr ((O.all k w.1.1 w.1.2).resolve_left w.2.1))
theorem L9 :∀{k:Nat},(∀i,i<k->0<=f i)->0<=aS k f
 | 0,_=>bO _
 | k+1,h=>by
   have c:=L9 (k:=k) λi a=>h i (by lia);have b:=h k (by lia);show 0<=aS k f+f k
   lia
def XB(a k:Nat):Int:=if k%2=0 then(ch (a+k) k:Int)else -(ch (a+k) k:Int)
def Zb:Int->Nat->Int
 | .ofNat n,k=>(ch n k:Int)
 | .negSucc a,k=>XB a k
def nwN:List Int->Nat->Nat->Int
 | [],_,_=>0
 | d::r,a,k=>d*XB a k+nwN r a (k+1)
def Zc(b:fc)(n:Int)(k:Nat):Int:=match n with
 | .ofNat n=>Tc b n k
 | .negSucc a=>nwN b a k
def D2(n:Int)(k:Nat):Zc [] n k=0:=by cases n<;>rfl
def AZ(d:Int)(r:fc)(n:Int)(k:Nat):Zc (d::r) n k=d*Zb n k+Zc r n (k+1):=by cases n<;>rfl
def Px(n:Int):Zb n 0=1:=by
 cases n with
 | ofNat n=>show((ch n 0:Nat):Int)=1;rw[qi];rfl
 | negSucc a=>show XB a 0=1;unfold XB;rw[aj rfl,qi];rfl
def OJ(a k:Nat):XB a (k+1)=-(if k%2=0 then(ch (a+(k+1)) (k+1):Int)else -(ch (a+(k+1)) (k+1):Int)):=by
 unfold XB;by_cases c:k%2=0
 .rw[ah (by lia),aj c]
 .rw[aj (by lia),ah c,Int.neg_neg]
def OY(n:Int)(k:Nat):Zb n (k+1)*((k:Int)+1)=Zb n k*(n-(k:Int)):=by
 cases n with
 | ofNat n=>exact wo n k
 | negSucc a=>
   show XB a (k+1)*((k:Int)+1)=XB a k*(Int.negSucc a-(k:Int));have h:=wo (a+k) k;have e:ch (a+(k+1)) (k+1)=ch (a+k) k+ch (a+k) (k+1):=rfl;have b:(ch (a+(k+1)) (k+1):Int)*((k:Int)+1)=(ch (a+k) k:Int)*((a:Int)+(k:Int)+1):=by
    rw[e,eR,eW,h,<-fM]
    congr 1
    rw[eR]
    lia
   have c:Int.negSucc a-(k:Int)=-((a:Int)+(k:Int)+1):=by
    rw[Int.negSucc_eq]
    lia
   rw[OJ,c,Int.mul_neg,j7];unfold XB
   congr 1
   split
   .exact b
   .rw[j7,j7,b]
def P2(r:fc)(d:Int)(n:Int)(k:Nat):Zc (r++[d]) n k=Zc r n k+d*Zb n (k+r.length):=by
 induction r generalizing k with
 | nil=>
   rw[jJ,AZ,D2,D2,dA,Nat.add_zero]
   lia
 | cons x r ih=>
   rw[List.cons_append,AZ,AZ,ih (k+1),aO,show k+1+r.length=k+(r.length+1) by lia]
   lia
def rX{a b:Int}(c:1<=a)(d:1<=b):1<=a*b:=dF c d (by decide) (by lia)
section
variable{b:Int->Bool}{c:Int->Bool}{a:Int->Nat->Int}
theorem JG:∀{ks:fc},(∀k∈ks,∀n,1<=a k n)->∀n,1<=ϟ b c a ks n
 | [],_,_=>bO _
 | k::ks,h,n=>by
   have e:=h k (.head _);have d:=JG (ks:=ks) λx g=>h x (.tail _ g);show 1<=if b k=true then _ else if c k=true then _ else _;split
   .show 1<=aS n _+a k n*ϟ b c a ks (n-n);have:=L9 (k:=n) (f:=λi=>a k i*ϟ b c a ks (n-i)) λi _=>ci (by decide) (rX (e i) (d (n-i)));have:=rX (e n) (d (n-n))
    lia
   .split
    .exact rX (e _) (d _)
    .exact rX (e _) (d _)
end
theorem Md(g:Good b c)(R:ζ b c f d a):∀(n:Nat){v:Int},0<=v->v<b->b.toNat-a v<=n->∀h,1<=wy b c f d a j l m v h
 | 0,v,h0,h1,e=>by have:=lQ R h0 h1;lia
 | n+1,v,h0,h1,e=>by
   rw[wA g R h0 h1];refine JG λk r i=>?_;obtain⟨o,s,p⟩:=(de g R h0 h1).mp r;have q:=R.pos o.1 o.2 s;rw[p]at q;exact Md g R n o.1 o.2 (by lia) _
def QQ(g:Good d c)(R:ζ d c f a e)(O:Order d f a h)(i:0<=b)(j:b<d)(k:b≠f):ώ d c f a e b*tup c a b<=ώ d c f a e (a b):=by
 have p:=(R.up b i j k).1;have:=(Js g R O).std b ((O.all b i j).resolve_left k);rw[kN i j,kN p.1 p.2]at this;exact this
def QO{c:hB}(g:Good d b)(R:ζ d b h a f)(O:Order d h a j){k:Int}(l:0<=k)(m:k<d)(n:k≠h)(o:(c k:Int)=tup b a k)(i:Nat):ώ d b h a f k*((Φ (c k) i:Nat)+1)<=ώ d b h a f (a k)*((i:Int)+1):=by
 have w:=QQ g R O l m n;have t:=(nC g R l m n).1;have e:((Φ (c k) i:Nat):Int)+1=tup b a k*((i:Int)+1):=by
  unfold Φ;have:1<=(i+1)*c k:=eA (show 1<=i+1 by lia) (show 1<=c k by lia);rw[Int.natCast_sub this,jS,o,fS];simp
 rw[e,<-eV];exact b5 w (by lia)
def K8{w a b:Int}(h:1<=w)(c:0<=a)(e:w*a<=b):a<=b:=ci (by have:=b5 h c;lia) e
def QC{fr:Int->Bool}{be:Int->Bool}{m:Int}{r:Int}{e:ix}{b:fz}{d:hB}{c:hB}{y:fc}(g:Good m e)(R:ζ m e r b d)(O:Order m r b y)(w:∀k,0<=k->k<m->k≠r->(c k:Int)=tup e b k){x:Nat}{v:Int}(l:0<=v)(j:v<m)(u:∀k∈kd m e r b v,∀h:Nat,ώ m e r b d k*((h:Int)+1)<=2^x->0<=wy m e r b d fr be c k h/\wy m e r b d fr be c k h<=2^(x*Tz m e r b d k)){ks:fc}(n:∀k∈ks,k∈kd m e r b v){h:Nat}(p:ώ m e r b d v*((h:Int)+1)<=2^x):ϟ fr be (λk g=>wy m e r b d fr be c k (Φ (c k) g)) ks h<=2^(x*(ks.map λk=>Tz m e r b d k+1).sum):=by
 have s:=(kJ g R l j).1;have:=(wW (fr:=fr) (be:=be) (ws:=λk g=>wy m e r b d fr be c k (Φ (c k) g)) (X:=h) (x:=x) (by rw[eR];exact K8 s (by lia) p) (a:=λk=>x*Tz m e r b d k) (ks:=ks) (λk q i z=>by
  obtain⟨f,o,t⟩:=(de g R l j).mp (n k q);refine u k (n k q) _ (ci (QO g R O f.1 f.2 o (w k f.1 f.2 o) i) ?_);rw[t];exact ci (bL (by lia) (by lia)) p) h (aJ _)).2
 refine ci this (A9 ?_);rw[jt];exact rY λk _=>by rw[jK,jt];lia
theorem JY(g:Good f d)(R:ζ f d j a b)(O:Order f j a l)(p:∀k,0<=k->k<f->k≠j->(c k:Int)=tup d a k) :∀(n:Nat){v:Int},0<=v->v<f->f.toNat-b v<=n->∀h:Nat,ώ f d j a b v*((h:Int)+1)<=2^x->0<=wy f d j a b fr be c v h/\wy f d j a b fr be c v h<=2^(x*Tz f d j a b v)
 | 0,v,h0,h1,e=>by have:=lQ R h0 h1;lia
 | n+1,v,h0,h1,e=>λh s=>by
   refine⟨ci (by decide) (Md g R _ h0 h1 (aJ _) h),?_⟩;rw[wA g R h0 h1,<-rG g R h0 h1];refine QC g R O p h0 h1 (λk o i r=>?_) (λk o=>o) s;obtain⟨m,u,q⟩:=(de g R h0 h1).mp o;have t:=R.pos m.1 m.2 u;rw[q]at t;exact JY g R O p n m.1 m.2 (by lia) i r
def V0{l:hR}(h:l.Nodup)(i j:Nat){a b:Addr}(d:l[i]?=some a:=by rfl)(e:l[j]?=some b:=by rfl)(c:i≠j:=by decide):a≠b:=R5 h i j d e c
def γ{X:Cx}{x:Str}{a:Pos}(i:Nat)(n:Ug X.env.scope x:=by exact .of (by kernel_rfl))(b:X.N[i]?=some x:=by rfl):PE X (.Name x a) (yx i):=pvl i n b
def Ϩ{X:Cx}{x:Str}{a:Pos}(i:Nat)(n:VX X.env.scope x:=by exact .of (by kernel_rfl))(b:X.N[i]?=some x:=by rfl):PE X (.Name x a) (yx i):=pvc i n b
def ϊ{X:Cx}{x:Str}{a:Pos}(i:Nat)(d:X.N.Nodup:=by exact bB (by kernel_rfl))(c:X.N[i]?=some x:=by rfl)(b:X.env.scope.names.lookup x=some .local:=by kernel_rfl):PG X (.Name x a) (wJ i):=d6 d c (.inl b) (.inr b)
def Κ{X:Cx}{x:Str}{b:Pos}{a:Pos}{e:Expr}{c:TE}(i:Nat)(j:PE X e c)(g:X.N.Nodup:=by exact bB (by kernel_rfl))(f:X.N[i]?=some x:=by rfl)(d:X.env.scope.names.lookup x=some .local:=by kernel_rfl)(h:swapsWith e (some (.Name x a)) b.line X.env=pure false:=by rfl):PS X (.Assign [.Name x a] e b) (DW c (wJ i)):=sx g f (.inl d) j h (.inr d)
def pgl{X:Cx}{x:Str}{a:Pos}{C:Addr}(b:X.mg x=some (.ref C))(c:X.env.scope.names.lookup x=some .globalImplicit:=by kernel_rfl)(d:(x==("__debug__":Str))=false:=by kernel_rfl):PE X (.Name x a) (tC (.ref C)):=Em c b rfl d
def pcq{X:Cx}{x:Str}{p:Pos}{c:Pos}{e:Expr}{a:List Expr}{t:TA}{g:Th}{k:Nat}{j:Nat}{f:Addr}{d:FuncData}{i:hX}{h:Sp}{st:Stmt}(D:Df X.K X.mg x st i f d)(F:ϋ X.prog X.w X.K X.mg X.base g k f d i h)(s:Ρ j X.A)(q:bI g)(u:PA X (e::a) t)(l:k<=j:=by decide)(r:X.env.scope.names.lookup x=some .globalImplicit:=by kernel_rfl)(hdb:(x==("__debug__":Str))=false:=by kernel_rfl)(o:starEach (e::a) X.env=(false,eval e X.env)::starEach a X.env:=by rfl)(n:(backTo c (starEach a X.env)).any (·.1)=false:=by rfl):PE X (.Call (.Name x p) (e::a) [] c) (sj h [] E0 t):=gD F (s.mono l) r D.m D.F.kp D.b .nil (d7 q) u hdb o n
def pcx{X:Cx}{x:Str}{p:Pos}{c:Pos}{e:Expr}{a:List Expr}{t:TA}{h:Th}{k:Nat}{j:Nat}{f:Addr}{g:FuncData}{l:hX}{i:Sp}{st:Stmt}{E:XK}(D:Df X.K X.mg x st l f g)(F:ϋ X.prog X.w X.K X.mg X.base h k f g l i)(u:Ρ j X.A)(n:pJ h X E)(v:PA X (e::a) t)(o:k<=j:=by decide)(s:X.env.scope.names.lookup x=some .globalImplicit:=by kernel_rfl)(d:(x==("__debug__":Str))=false:=by kernel_rfl)(r:starEach (e::a) X.env=(false,eval e X.env)::starEach a X.env:=by rfl)(q:(backTo c (starEach a X.env)).any (·.1)=false:=by rfl):PE X (.Call (.Name x p) (e::a) [] c) (sj i [] E t):=gD F (u.mono o) s D.m D.F.kp D.b .nil n v d r q
def pxc{X:Cx}{x:Str}{p:Pos}{c:Pos}{e:Expr}{a:List Expr}{t:TA}{h:Th}{k:Nat}{j:Nat}{f:Addr}{g:FuncData}{l:hX}{i:Sp}{st:Stmt}(D:Df X.K X.mg x st l f g)(F:ϋ X.prog X.w X.K X.mg X.base h k f g l i)(s:Ρ j X.A)(u:PA X.Xh (e::a) t)(n:k<=j:=by decide)(r:X.env.scope.names.lookup x=some .globalImplicit:=by kernel_rfl)(d:(x==("__debug__":Str))=false:=by kernel_rfl)(q:starEach (e::a) X.env=(false,eval e X.env)::starEach a X.env:=by rfl)(o:(backTo c (starEach a X.env)).any (·.1)=false:=by rfl):PEx h X (.Call (.Name x p) (e::a) [] c) (λE=>sj i [] E t):=O8 F (s.mono n) r D.m D.F.kp D.b .nil u d q o
section
variable{x:Str}{k j:Nat}{f:Addr}{fd:FuncData}{a:hX}{c:Sp}{b:Stmt}
structure Cb(P:Program)(w:World)(K:hO)(mg:hU)(base:Heap)(x:Str)(b:Stmt)(a:hX)(k:Nat)(c:Sp) where
 f:Addr
 fd:FuncData
 D:Df K mg x b a f fd
 G:ϋ P w K mg base (τ P w) k f fd a c
end
def cb(D:Df j b k h c e d)(G:ϋ f i j b a (τ f i) l e d c g):Cb f i j b a k h c l g:=⟨e,d,D,G⟩
def Θ{X:Cx}{x:Str}{p:Pos}{b:Pos}{e:Expr}{a:List Expr}{t:TA}{k:Nat}{j:Nat}{n:hX}{d:Sp}{st:Stmt}(c:Cb X.prog X.w X.K X.mg X.base x st n k d)(l:Ρ j X.A)(q:bI (τ X.prog X.w))(m:PA X (e::a) t)(f:k<=j:=by decide)(i:X.env.scope.names.lookup x=some .globalImplicit:=by kernel_rfl)(hdb:(x==("__debug__":Str))=false:=by kernel_rfl)(h:starEach (e::a) X.env=(false,eval e X.env)::starEach a X.env:=by rfl)(g:(backTo b (starEach a X.env)).any (·.1)=false:=by rfl):PE X (.Call (.Name x p) (e::a) [] b) (sj d [] E0 t):=pcq c.D c.G l q m f i hdb h g
def Ξ{X:Cx}{x:Str}{p:Pos}{b:Pos}{e:Expr}{a:List Expr}{t:TA}{k:Nat}{j:Nat}{o:hX}{d:Sp}{st:Stmt}{E:XK}(c:Cb X.prog X.w X.K X.mg X.base x st o k d)(m:Ρ j X.A)(f:pJ (τ X.prog X.w) X E)(n:PA X (e::a) t)(g:k<=j:=by decide)(l:X.env.scope.names.lookup x=some .globalImplicit:=by kernel_rfl)(hdb:(x==("__debug__":Str))=false:=by kernel_rfl)(i:starEach (e::a) X.env=(false,eval e X.env)::starEach a X.env:=by rfl)(h:(backTo b (starEach a X.env)).any (·.1)=false:=by rfl):PE X (.Call (.Name x p) (e::a) [] b) (sj d [] E t):=pcx c.D c.G m f n g l hdb i h
def pyb{X:Cx}{x:Str}{p:Pos}{b:Pos}{e:Expr}{a:List Expr}{t:TA}{k:Nat}{j:Nat}{n:hX}{d:Sp}{st:Stmt}(c:Cb X.prog X.w X.K X.mg X.base x st n k d)(l:Ρ j X.A)(m:PA X.Xh (e::a) t)(f:k<=j:=by decide)(i:X.env.scope.names.lookup x=some .globalImplicit:=by kernel_rfl)(hdb:(x==("__debug__":Str))=false:=by kernel_rfl)(h:starEach (e::a) X.env=(false,eval e X.env)::starEach a X.env:=by rfl)(g:(backTo b (starEach a X.env)).any (·.1)=false:=by rfl):PEx (τ X.prog X.w) X (.Call (.Name x p) (e::a) [] b) (λE=>sj d [] E t):=pxc c.D c.G l m f i hdb h g
def TB{X:Cx}{x:Str}{p:Pos}{a:Pos}{e:Expr}{b:List Expr}{t:TA}{id:String}{r:List V->Hp->VK->Prop}(d:lx X (.builtin id) r)(f:X.mg x=none)(j:PA X (e::b) t)(g:bootBuiltins x=some (.builtin id):=by kernel_rfl)(i:X.env.scope.names.lookup x=some .globalImplicit:=by kernel_rfl)(hn:decide (x="__name__")=false:=by kernel_rfl)(c:(x==("__debug__":Str))=false:=by kernel_rfl)(k:starEach (e::b) X.env=(false,eval e X.env)::starEach b X.env:=by rfl)(h:(backTo a (starEach b X.env)).any (·.1)=false:=by rfl):PE X (.Call (.Name x p) (e::b) [] a) (ZD r t):=Oc d i f g j (of_decide_eq_false hn) c k h
def iO{X:Cx}{x:Str}{p:Pos}{a:Pos}{e:Expr}{b:List Expr}{t:TA}{T:String}{r:List V->Hp->VK->Prop}(c:lx X (.type T) r)(f:X.mg x=none)(j:PA X (e::b) t)(g:bootBuiltins x=some (.type T):=by kernel_rfl)(i:X.env.scope.names.lookup x=some .globalImplicit:=by kernel_rfl)(d:decide (x="__name__")=false:=by kernel_rfl)(hdb:(x==("__debug__":Str))=false:=by kernel_rfl)(k:starEach (e::b) X.env=(false,eval e X.env)::starEach b X.env:=by rfl)(h:(backTo a (starEach b X.env)).any (·.1)=false:=by rfl):PE X (.Call (.Name x p) (e::b) [] a) (ZD r t):=y6 c i f g j (of_decide_eq_false d) hdb k h
inductive E3{A B C:Type}(p:A->B->C->Prop):Prop
 | mk (a b c:_) (h:p a b c):E3 p
inductive E4{A B C D:Type}(p:A->B->C->D->Prop):Prop
 | mk (a b c d:_) (h:p a b c d):E4 p
inductive E5{A B C D E:Type}(p:A->B->C->D->E->Prop):Prop
 | mk (a b c d e:_) (h:p a b c d e):E5 p
inductive E6{A B C D E F:Type}(p:A->B->C->D->E->F->Prop):Prop
 | mk (a b c d e f:_) (h:p a b c d e f):E6 p
inductive E7{A B C D E F G:Type}(p:A->B->C->D->E->F->G->Prop):Prop
 | mk (a b c d e f g:_) (h:p a b c d e f g):E7 p
inductive E8{A B C D E F G H:Type}(p:A->B->C->D->E->F->G->H->Prop):Prop
 | mk (a b c d e f g i:_) (h:p a b c d e f g i):E8 p
inductive E9{A B C D E F G H I:Type}(p:A->B->C->D->E->F->G->H->I->Prop):Prop
 | mk (a b c d e f g i j:_) (h:p a b c d e f g i j):E9 p
inductive E10{A B C D E F G H I J:Type}(p:A->B->C->D->E->F->G->H->I->J->Prop):Prop
 | mk (a b c d e f g i j k:_) (h:p a b c d e f g i j k):E10 p
inductive WZ{A B C D E F G H I J K:Type}(p:A->B->C->D->E->F->G->H->I->J->K->Prop):Prop
 | mk (a b c d e f g i j k l:_) (h:p a b c d e f g i j k l):WZ p
inductive XC{A B C D E F G H I J K L:Type}(p:A->B->C->D->E->F->G->H->I->J->K->L->Prop):Prop
 | mk (a b c d e f g i j k l m:_) (h:p a b c d e f g i j k l m):XC p
inductive E13{A B C D E F G H I J K L M:Type}(p:A->B->C->D->E->F->G->H->I->J->K->L->M->Prop):Prop
 | mk (a b c d e f g i j k l m n:_) (h:p a b c d e f g i j k l m n):E13 p
inductive E14{A B C D E F G H I J K L M N:Type}(p:A->B->C->D->E->F->G->H->I->J->K->L->M->N->Prop):Prop
 | mk (a b c d e f g i j k l m n o:_) (h:p a b c d e f g i j k l m n o):E14 p
inductive E16{A B C D E F G H I J K L M N O P:Type}(p:A->B->C->D->E->F->G->H->I->J->K->L->M->N->O->P->Prop):Prop
 | mk (a b c d e f g i j k l m n o q r:_) (h:p a b c d e f g i j k l m n o q r):E16 p
inductive E17{A B C D E F G H I J K L M N O P Q:Type}(p:A->B->C->D->E->F->G->H->I->J->K->L->M->N->O->P->Q->Prop):Prop
 | mk (a b c d e f g i j k l m n o q r s:_) (h:p a b c d e f g i j k l m n o q r s):E17 p
inductive E18{A B C D E F G H I J K L M N O P Q R:Type}(p:A->B->C->D->E->F->G->H->I->J->K->L->M->N->O->P->Q->R->Prop):Prop
 | mk (a b c d e f g i j k l m n o q r s t:_) (h:p a b c d e f g i j k l m n o q r s t):E18 p
inductive E19{A B C D E F G H I J K L M N O P Q R S:Type}(p:A->B->C->D->E->F->G->H->I->J->K->L->M->N->O->P->Q->R->S->Prop):Prop
 | mk (a b c d e f g i j k l m n o q r s t u:_) (h:p a b c d e f g i j k l m n o q r s t u):E19 p
inductive E23{A B C D E F G H I J K L M N O P Q R S T U V W:Type}(p:A->B->C->D->E->F->G->H->I->J->K->L->M->N->O->P->Q->R->S->T->U->V->W->Prop):Prop
 | mk (a b c d e f g i j k l m n o q r s t u v w x y:_) (h:p a b c d e f g i j k l m n o q r s t u v w x y):E23 p
def clK(d:hX)(b:Nat)(c:List Nat)(N:hX)(a e:Scope):Bool:=(a.names.all λy=>decide (y.2≠.cell))&&decide (a.kind=.function)&&(a.names.all λy=>decide (y.2=.local->a.names.lookup y.1=some .local))&&decide (d.length=b+c.length)&&(a.names.all λy=>decide (y.2=.free->e.names.lookup y.1=some .cell))&&decide (e.kind=.function)&&(List.range c.length).all λi=>match d[b+i]?,c[i]? with
 | some x,some j=>decide (N[j]?=some x)&&decide (a.names.lookup x=some .free)
 | _,_=>false
def UU{X:Cx}(e:hX)(b:Nat)(d:List Nat)(h:clK e b d X.N a X.env.scope=true:=by kernel_rfl)(m:∀x,X.env.scope.names.lookup x=some .cell->∃c,X.env.cells.lookup x=some c:=by exact λ_ h=>Bi h):ϩ X e b d a (uu X.env.cells a.names []):=by
 unfold clK at h;simp only[bG,b4,eI,cY]at h;obtain⟨⟨⟨⟨⟨⟨g,n⟩,l⟩,o⟩,p⟩,r⟩,k⟩:=h;refine Ra b d g n l o p r m λi f=>?_;have q:=k i f;split at q
 .rename_i x j e1 e2
  simp only[bG,b4]at q;exact⟨x,j,e1,e2,q.1,q.2⟩
 .cases q
abbrev Ok(P:Program)(w:World)(K:hO)(b:hU)(a:Heap)(x:Str)(st:Stmt)(d:hX)(k:Nat)(e:Sp):Prop:=∀(f:Addr)(c:FuncData),Df K b x st d f c->ϋ P w K b a (τ P w) k f c d e
def ψ(i:Xk a g)(k:PE a e c)(j:PE a b d)(h:JP b:=by exact λ_ _=>rfl):PE a (.Subscript e b f) (Xj g c d):=jR i k j h
def Ν{X:Cx}{a:Expr}{b:Expr}{e:TE}{f:TE}{d:Pos}{c:CmpOp}{r:R2}(k:bY X (compareOp c) r)(g:PE X a e)(j:PE X b f)(h:c≠.In:=by decide)(i:c≠.NotIn:=by decide):PT X (.Compare a [c] [b] d) (CD (Xj r e f)):=tF k g j (kY _ h i)
def TV(m:PE a d g)(j:PE a c f)(n:attributeBase d "append" a.env (eval d a.env)=eval d a.env:=by rfl)(k:((backTo b (starEach [c] a.env)).all (λx=>!x.1)&&(backToKw b (keywordEach [] a.env)).all (λx=>x.1.isSome)&&decide ([c].length+([]:List Keyword).length+(if([]:List Keyword).isEmpty then 0 else 1)<30))=true:=by rfl)(i:(e.endLine==b.line)=true:=by rfl)(h:starEach [c] a.env=(false,eval c a.env)::starEach [] a.env:=by rfl)(l:(backTo b (starEach [] a.env)).any (·.1)=false:=by rfl):PE a (.Call (.Attribute d "append" e) [c] [] b) (tBM a.K "list" rW g (FX f We)):=sU dv PySem.F.slot_list_append PySem.F.type_list_append yg m (aa j ap h) n k i h l
end Pb
namespace L2
open PySem PySem.Spec PyProof.Rows PySem.W
section
section
variable{n:Nat}{d:Nat->Nat->Bool}
structure Lin(n:Nat)(d:Nat->Nat->Bool):Prop where
 tot:∀a b,a<n->b<n->a≠b->d a b=false->d b a=true
 tr:∀a b c,a<n->b<n->c<n->d a b=true->d b c=true->d a c=true
end
variable(L:Lin n lt)(e:0<n)
include L e
end
end L2
namespace Pb
open L2 PySem PySem.W NumText
theorem CC{f:hB}:∀{l:fc}{k:Int},k∈l->f k+1<=(l.map λk=>f k+1).sum
 | a::l,k,h=>by
   rw[aE,bf];rcases aF.mp h with rfl|h
   .lia
   .have:=CC (f:=f) h
    lia
def Rf(g:Good d b)(R:ζ d b h a c){T:Nat}(p:1<=T)(r:∀v,0<=v->v<d->v≠h->tup b a v<=T)(n:Nat):∀v,0<=v->v<d->d.toNat-c v=n->ώ d b h a c v<=(T^Tz d b h a c v:Nat):=by
 induction n with
 | zero=>
   intro v l j e;have:=lQ R l j
   lia
 | succ n ih=>
   intro v l j e;by_cases q:kd d b h a v=[]
   .have o:ώ d b h a c v=1:=by
     show fo mx d b h a c _ _ v=1;rw[vV g R l j,show cG d b (front h a v) v=[]from q]
     rfl
    rw[o];have:1<=T^Tz d b h a c v:=Nat.pow_pos p
    lia
   .obtain⟨k,hk,ek⟩:=EC g R l j q;obtain⟨i,m,t⟩:=(de g R l j).mp hk;have u:=R.pos i.1 i.2 m;rw[t]at u;have w:=rG g R l j;have le:=CC (f:=Tz d b h a c) (show k∈kd d b h a v from hk);have s:=ih k i.1 i.2 (by lia);have o:=(kJ g R i.1 i.2).1;rw[<-ek];refine ci (dF s (r k i.1 i.2 m) (by have:=(nC g R i.1 i.2 m).1;lia) (by lia)) ?_;have:T^Tz d b h a c k*T<=T^Tz d b h a c v:=by
     rw[<-dW];exact dq p (by lia)
    rw[<-jS]
    lia
end Pb
namespace L2
open PySem
def DK(w:World)(K:hO)(a:Addr)(c:List (Key×V)):Prop:=(a==sysModules)=false/\∃(o:Obj)(b:List (Key×Value)),K.lookup a=some o/\KV c b/\∀P:Program,o.IsDictOf (iT P w) b
def Sl(l:List (Str×Tok×Int×Tok))(j:(a==sysModules)=false)(i:(l.map (·.1)).Nodup)(h:f.lookup a=some ⟨.type "dict",none,.dict ⟨d⟩ g,#[]⟩)(e:d=l.map λp=>DictEntry.mk (Oj c (.inr p.1)) (.str p.1 p.2.1) (.int p.2.2.1 p.2.2.2)):DK c f a (l.map λp=>((.inr p.1:Key),V.int p.2.2.1)):=by
 refine⟨j,_,l.map λp=>((.inr p.1:Key),Value.int p.2.2.1 p.2.2.2),h,?_,λP=>⟨_,_,⟨rfl,rfl,rfl⟩,rfl,?_,?_,?_⟩⟩
 .clear i e
  induction l with
  | nil=>exact .nil
  | cons p l ih=>exact .cons ⟨rfl,⟨_,rfl⟩⟩ ih
 .intro x hx;rw[e]at hx;obtain⟨p,k,rfl⟩:=aZ.mp (show x∈l.map _ from ou.mpr hx);exact⟨.inr p.1,vq P c _ _,rfl⟩
 .rw[e];clear i e
  induction l with
  | nil=>exact .nil
  | cons p l ih=>exact .cons (vq P c _ _) rfl ih
 .rw[jw];rw[show((λx:Key×Value=>x.1) ∘ λp:Str×Tok×Int×Tok=>((.inr p.1:Key),Value.int p.2.2.1 p.2.2.2))=(λx:Str=>(.inr x:Key)) ∘ (λp:Str×Tok×Int×Tok=>p.1)from rfl,<-jw];exact i.map _ λa b ne e=>ne (by injection e)
def DK.of{X:Cx}{a:Addr}{e:List (Key×V)}{b:hP}{g:St}{H:Hp}{s:Shared}(d:DK X.w X.K a e)(I:Inv X b g H s):(a==sysModules)=false/\∃c,KV e c/\s.heap.DictOf (iT X.prog X.w) a c:=by
 obtain⟨h,o,c,j,i,f⟩:=d;exact⟨h,c,i,Heap.dictOf_iff.mpr ⟨o,I.oK _ _ j,f X.prog⟩⟩
def SB(a:Addr)(b:List (Key×V)):R2:=λx y H Q=>∃z,x=.str z/\y=.ref a/\Q (.bl (!(nW b (.inr z)).isSome)) H
def Ql(w:World)(K:hO)(m:b.w=w)(n:b.K=K)(d:DK w K c a):bY b (compareOp .NotIn) (SB c a):=by
 subst m n;intro f s o H x y v u Q I i l h;obtain⟨z,rfl,rfl,q⟩:=h;cases l;obtain⟨j,p,e,g⟩:=d.of I;refine wpAny_notIn_of (zj (k:=.inr z) i) j g.mapOf ?_;rw[<-(e.val (.inr z)).ϸ];exact⟨.bl _,H,I.tok _,rfl,q⟩
def SV(a:Addr)(b:List (Key×V)):R2:=λx y H Q=>∃z v,x=.ref a/\y=.str z/\nW b (.inr z)=some v/\Q v H
def PP(w:World)(K:hO)(p:a.w=w)(U:a.K=K)(d:DK w K g b)(G:PE a j e)(C:PE a c f)(T:RL c):PE a (.Subscript j c i) (Xj (SV g b) e f):=by
 subst p U;intro m s q H Q I h;refine Qt PySem.F.slot_dict_getitem.lookup T (eF (G m s q H _ I h) λu E x R D M V=>eF (C m E q R _ D V) λX s2 y S A P ⟨z,r,N,L,l,B⟩=>?_);subst N L;obtain rfl:u=Value.ref g:=M;obtain⟨Z,O,n,t⟩:=d.of A;obtain⟨Y,p,J⟩:=eQ.some_of (v:=r) (o:=valueAt O (.inr z)) (by rw[<-l];exact n.val (.inr z));exact⟨t.typeIs,wpAny_getItem_of (zj (k:=.inr z) P) t.mapOf p ⟨r,S,A.tok _,J,B⟩⟩
end L2
namespace Pb
open L2 PySem
def nbT:List (Str×Nat):=[("put",2),("want",2),("step",3),("back",0),("laying",0),("wish",0),("most",1),("bring",1),("stands",1),("meet",0),("enough",2),("hardest",1),("worst",2),("many",2),("always",0),("fails",0)]
def nb(w:Str):Option Nat:=(nbT.find? λp=>decide (p.1=w)).map (·.2)
def nbK:List (Key×V):=nbT.map λp=>((.inr p.1:Key),V.int (p.2:Int))
theorem Gz(w:Str):∀l:List (Str×Nat),nW (l.map λp=>((.inr p.1:Key),V.int (p.2:Int))) (.inr w)=((l.find? λp=>decide (p.1=w)).map λp:Str×Nat=>p.2).map λn:Nat=>V.int (n:Int)
 | []=>rfl
 | p::l=>by
   have a:=Gz w l;unfold nW at a ⊢;rw[aE,fL,fL];by_cases h:p.1=w
   .rw[bo h,bo (show(Sum.inr p.1:Key)=.inr w by rw[h])]
    rfl
   .rw[bM h,bM (show ¬(Sum.inr p.1:Key)=.inr w from λz=>h (by injection z))];exact a
def Mt(w:Str):nW nbK (.inr w)=(nb w).map λn:Nat=>V.int (n:Int):=Gz w nbT
def Ϣ(h:a≠b):¬V.str a=V.str b:=λz=>h (by injection z)
def uy(z a:Str):Str.join z [a]=a:=rz (by rw[kE];rfl)
def Oq(a:e≠[])(b:d≠[]):Str.join c (e++d)=Str.join c e++c++Str.join c d:=rz (by
 rw[app_list,app_list,kE,kE,kE,aq,Fs (by simpa using b) (by simpa using a)])
def qo(a b c:Str):a++b++c=a++(b++c):=rz (by rw[app_list,app_list,app_list,app_list,cj])
def wdB(w:Str):Bool:=w.cps.toList.all (λc=>decide (c≠32/\c<128))&&decide (w.cps.toList.length<=100)
abbrev Wd(w:Str):Prop:=wdB w=true
def PK:∀p∈nbT,nb p.1=some p.2/\p.2<=3/\Wd p.1/\p.1.length<=10/\Wd (Txt.upper p.1)/\nb (Txt.upper p.1)=none/\Wd (p.1++Str.ofString ":")/\nb (p.1++Str.ofString ":")=none:=by decide +kernel
abbrev LS(H:Hp)(a:Addr)(b:hX):Prop:=H a=some (.lst (b.map V.str))
def SA(h:LS a b A)(g:LS a d B)(l:A.length+B.length<=100)(q:∀p e,δ a e->LS e p (A++B)->c (.ref p) e):YN (.ref b) (.ref d) a c:=Oe h g (bX (by rw[ag,ag];lia)) λp f=>q p _ (δ.new _ f) (by show upd _ _ _ _=_;rw[au,aq])
def wdA:Nat->Str
 | 0=>"place"
 | 1=>"wish"
 | _=>"step"
def uU(z a b:Str)(l:hX):Str.join z (a::b::l)=a++(z++Str.join z (b::l)):=by
 rw[show a::b::l=[a]++(b::l)from rfl,Oq (by simp) (by simp),uy,qo]
abbrev TS(H:Hp):List Addr->List (Str×Nat)->Prop:=Paired λq p=>H q=some (.tup [.str p.1,.str (wdA p.2)])
def SH(s:String)(h:decide ((Str.ofString s).length<=20)=true:=by decide +kernel):(Str.ofString s).length<=20:=bB h
def lnA{a b:Str}{i j:Nat}(d:a.length<=i)(c:b.length<=j)(h:i+j<=1000:=by decide):a.length+b.length<=sizeLine:=bX (by lia)
def fsL(h:a<10^60):(FS a).length<=60:=by
 have:=(RN h).aaE;rw[iJ];exact this
end Pb
namespace Pb
open L2 PySem PySem.W
def tI(z:Int):Str:=Str.ofString (toString z)
def wf(n:Nat):tI n=FS n:=qA n
def MX(h:a<0):Str.ofString "-" ++ tI (-a)=tI a:=by
 obtain⟨k,rfl⟩:∃k:Nat,a=-((k+1:Nat):Int):=⟨(-a).toNat-1,by lia⟩;rw[show -(-((k+1:Nat):Int))=((k+1:Nat):Int) by lia];refine rz ?_;rw[app_list];unfold tI;have e:toString (-((k+1:Nat):Int))="-" ++ toString (((k+1:Nat):Nat):Int):=rfl;rw[e,jh,jh,jh,String.toList_append];simp
abbrev Bt(z:Int):Prop:=z.natAbs<2^1900
def Bt.log(h:Bt a):a.natAbs.log2<1920:=by
 by_cases e:a.natAbs=0
 .rw[e];decide
 .exact(lW e).mpr (aU h (dq (by decide) (by decide)))
def Su:2^1900<=10^(572+1):=by decide +kernel
def CG(h:Bt a):(tI a).length<=600:=by
 have b:∀n:Nat,n<2^1900->(FS n).length<=573:=λn d=>by
  rw[iJ];exact oQ 572 n (aU d Su)
 by_cases c:a<0
 .rw[<-MX c,nP,show -a=((a.natAbs:Nat):Int) by lia,wf];have:=b _ h;rw[show(Str.ofString "-").length=1 from rfl]
  lia
 .rw[show a=((a.natAbs:Nat):Int) by lia,wf];have:=b _ h
  lia
structure Np(z q:Int)(ps:hX):Prop where
 big:Bt q
 len:∀p∈ps,p.length=18
 cnt:ps.length<1900
 val:(ps=[]/\q=z)\/(0<q/\0<=z/\z.toNat<2^1900/\q.toNat*2^ps.length<=z.toNat/\gm z.toNat=gm q.toNat++(ps.reverse.map (·.cps.toList)).flatten)
def Np.start(h:Bt a):Np a a []:=⟨h,λ_ h=>(by cases h),by decide,.inl ⟨rfl,rfl⟩⟩
def Np.step(h:Np e b d)(c:1000000000000000000<=b):(b%1000000000000000000).natAbs.log2<1920/\Np e (b/1000000000000000000) (d++[Txt.zfill (tI (b%1000000000000000000)) 18]):=by
 have o:b.toNat*2^d.length<=e.toNat/\0<=e/\e.toNat<2^1900/\gm e.toNat=gm b.toNat++(d.reverse.map (·.cps.toList)).flatten:=by
  rcases h.val with⟨rfl,rfl⟩|⟨_,g,f,i,h5⟩
  .exact⟨by simp,by lia,by have:=h.big;lia,by simp⟩
  .exact⟨i,g,f,h5⟩
 obtain⟨q,g,f,i⟩:=o;have r:b%1000000000000000000=((b.toNat%10^18:Nat):Int):=by lia
 have j:(b/1000000000000000000).toNat=b.toNat/10^18:=by lia
 have m:10^18<=b.toNat:=by lia
 have k:b.toNat%10^18<10^18:=ms _ (by decide);have n:0<b/1000000000000000000:=by lia
 rw[r,wf];have l:(b/1000000000000000000).toNat*2^(d++[Txt.zfill (FS (b.toNat%10^18)) 18]).length<=e.toNat:=by
  rw[j,aH,gl,show 2^(d.length+1)=2^d.length*2 from dW ..];have:b.toNat/10^18*(2^d.length*2)=(b.toNat/10^18*2)*2^d.length:=by
   rw[jt (2^d.length) 2,kf]
  rw[this];exact aW (mX _ (by lia)) q
 refine⟨Qy k (by decide) (by decide),?_,λp hp=>?_,?_,.inr ⟨n,g,f,l,?_⟩⟩
 .have:=h.big;show(b/1000000000000000000).natAbs<_
  lia
 .rcases bi.mp hp with hp|hp
  .exact h.len p hp
  .rw[aG.mp hp];exact RU k
 .refine(Nat.pow_lt_pow_iff_right (a:=2) (by decide)).mp (fZ (aW ?_ l) f);exact Nat.le_mul_of_pos_left _ (by lia)
 .rw[i,QR m,j];simp
def Np.done(h:Np a b c):Str.join "" ((c++[tI b]).reverse)=tI a:=by
 rcases h.val with⟨rfl,rfl⟩|⟨h1,h2,_,_,h5⟩
 .exact uy _ _
 .rw[show b=((b.toNat:Nat):Int) by lia,show a=((a.toNat:Nat):Int) by lia,wf,wf];exact Q5 h5
def Np.sum(h:Np c b a):((a++[tI b]).map (·.length)).sum+(a++[tI b]).length*(Str.ofString "").length<=16777216:=by
 have d:=Cy (ws:=a++[tI b]) (m:=600) λw hw=>by
  rcases bi.mp hw with hw|hw
  .rw[h.len w hw];decide
  .rw[aG.mp hw];exact CG h.big
 have:=h.cnt;rw[aH,gl]at d ⊢;rw[show(Str.ofString "").length=0 from rfl]
 lia
def VD(a:fc):Str:=Str.join (Str.ofString " ") (a.map tI)
def LJ{a:fc}(h:∀z∈a,Bt z)(l:a.length<=100):((a.map tI).map (·.length)).sum+(a.map tI).length*(Str.ofString " ").length<=16777216:=by
 have c:=Cy (ws:=a.map tI) (m:=600) λw b=>by
  obtain⟨z,d,rfl⟩:=aZ.mp b;exact CG (h z d)
 rw[ag]at c ⊢;rw[show(Str.ofString " ").length=1 from rfl]
 lia
def zw(h:∀z∈a,Bt z):(VD a).length<=601*a.length:=by
 have:=Ha (z:=Str.ofString " ") (ws:=a.map tI) (m:=600) λw b=>by
  obtain⟨z,c,rfl⟩:=aZ.mp b;exact CG (h z c)
 rw[ag]at this;exact this
abbrev Ye(s:ϻ):Prop:=∀z∈[s.1,s.2.1,s.2.2],Bt z
def V1(s:ϻ):Str:=VD [s.1,s.2.1,s.2.2]
def XD(a:List ϻ):Str:=if a=[]then Str.ofString "." else Str.join (Str.ofString " / ") (a.map V1)
def Jh(h:Ye a):(V1 a).length<=1803:=zw h
def Nm{a:List ϻ}(h:∀s∈a,Ye s)(l:a.length<=200):((a.map V1).map (·.length)).sum+(a.map V1).length*(Str.ofString " / ").length<=16777216:=by
 have c:=Cy (ws:=a.map V1) (m:=1803) λw b=>by
  obtain⟨z,d,rfl⟩:=aZ.mp b;exact Jh (h z d)
 rw[ag]at c ⊢;rw[show(Str.ofString " / ").length=3 from rfl]
 lia
def JD(h:∀s∈a,Ye s)(l:a.length<=48):(XD a).length<=90000:=by
 unfold XD;split
 .decide
 .have:=Ha (z:=Str.ofString " / ") (ws:=a.map V1) (m:=1803) λw b=>by
   obtain⟨z,c,rfl⟩:=aZ.mp b;exact Jh (h z c)
  rw[ag,show(Str.ofString " / ").length=3 from rfl]at this
  lia
end Pb
namespace Pb
open PySem L2
abbrev Ab(M z:Int):Prop:=-M<=z/\z<=M
theorem Ju(g:Good j i)(R:ζ j i k a h)(o:0<=l)(p:∀v,0<=v->v<j->Ab l (d v))(m:∀v z M,0<=v->v<j->v≠k->0<=M->Ab M z->Ab (M*1000000) (b v z)):∀(n:Nat)(v:Int),0<=v->v<j->j.toNat-h v=n->Ab (l*2^(25*n)) (Ϟ j i k a h d b v)
 | 0,v,h0,h1,e=>by have:=lQ R h0 h1;lia
 | n+1,v,h0,h1,e=>by
   have t:(0:Int)<=l*2^(25*n):=ja o (fm (dI (by decide)));have C:l<=l*2^(25*n):=by
    have:=bL (show(1:Int)<=2^(25*n)from dI (by decide)) o
    lia
   have s:∀c∈kd j i k a v,Ab (l*2^(25*n)*1000000) (b c (Ϟ j i k a h d b c)):=λc y=>by
    obtain⟨q,A,_⟩:=mK g R h0 h1 y;exact m c _ _ q.1.1 q.1.2 q.2.1 t (Ju g R o p m n c q.1.1 q.1.2 (by lia))
   have D:=GP (r:=k) (par:=a) g (v:=v) (f:=λc=>b c (Ϟ j i k a h d b c)) (M:=l*2^(25*n)*1000000) (by lia) λc m=>(s c m).2;have x:=GP (r:=k) (par:=a) g (v:=v) (f:=λc=>-b c (Ϟ j i k a h d b c)) (M:=l*2^(25*n)*1000000) (by lia) λc m=>by have:=(s c m).1;lia
   rw[Dz]at x;have B:=p v h0 h1;have w:l*2^(25*(n+1))=l*2^(25*n)*33554432:=by
    rw[show 25*(n+1)=25*n+25 by lia,gY,<-eV]
    rfl
   have u:Ϟ j i k a h d b v=d v+((kd j i k a v).map λc=>b c (Ϟ j i k a h d b c)).sum:=wI g R h0 h1;rw[w,u]
   constructor<;>lia
def o9(h:Ab (2^n) z)(a:n<1900):Bt z:=by
 have:=DE a;have e:(2:Int)^1900=((2^1900:Nat):Int):=by norm_cast
 rw[Int.pow_succ]at this;have p:(0:Int)<2^n:=dI (by decide);obtain⟨c,b⟩:=h;show z.natAbs<2^1900;rw[e]at this
 lia
def HZ(g:Good d i)(R:ζ d i l j e)(m:∀c,0<=c->c<d->Ab (2^220) (f c))(o:∀c z M,0<=c->c<d->c≠l->0<=M->Ab M z->Ab (M*1000000) (k c z))(q:0<=c)(n:c<d):Ab (2^820) (Ϟ d i l j e f k c):=by
 have h:=Ju g R (fm (dI (by decide))) m o _ c q n rfl;have Ζ:=g.Ζ;have p:=DE (a:=220+25*(d.toNat-e c)) (b:=820) (by lia);rw[gY]at p;exact⟨by have:=h.1;lia,ci h.2 p⟩
def GJ(h:Ab a b)(e:0<=a):Ab (a*1000000) (b/c):=by
 have:=Int.natAbs_ediv_le_natAbs b c;obtain⟨f,d⟩:=h
 constructor<;>lia
def CI(h:Ab M z)(a:0<=k)(f:k<=1000000):Ab (M*1000000) (z*k):=by
 obtain⟨e,c⟩:=h;have d:0<=M:=by lia
 have b:=b5 e a;have g:=b5 c a;have i:=bL f d;rw[j7]at b
 constructor<;>lia
def MQ(c:0<=a)(h:Ab a b):Ab (a*1000000) (ϯ rs par v b):=GJ h c
def Rs(g:Good e a)(R:ζ e a f b i)(k:0<=c)(n:c<e)(l:c≠f)(m:0<=d)(h:Ab d j):Ab (d*1000000) (Tx a b c j):=by
 have t:=(yb g R k n l).2;rw[RT];split
 .exact GJ h m
 .exact CI h (by lia) t.2
abbrev Al(M:Int)(l:fc):Prop:=∀x∈l,Ab M x
def Al.mono(h:Al a c)(hn:a<=b):Al b c:=λx d=>by have:=h x d;constructor<;>lia
theorem Al.add :∀{a b:fc},Al c a->Al d b->Al (c+d) (nA a b)
 | [],_,_,_=>λx hx=>by cases hx
 | _::_,[],_,_=>λx hx=>by cases hx
 | y::a,z::b,ha,hb=>λx hx=>by
   rcases aF.mp (show x∈(y+z)::nA a b from hx)with rfl|hx
   .have h1:=ha y (.head _);have e:=hb z (.head _)
    constructor<;>lia
   .exact Al.add (λx hx=>ha x (.tail _ hx)) (λx hx=>hb x (.tail _ hx)) x hx
theorem Al.fold :∀{ls:List (List Int)}{A:Int}{a:fc},Al A a->(∀l∈ls,Al M l)->Al (A+ls.length*M) (ls.foldl nA a)
 | [],A,a,ha,_=>λx b=>by have:=ha x b;simp;lia
 | l::ls,A,a,ha,h=>by
   have:=Al.fold (Al.add ha (h l (.head _))) λl c=>h l (.tail _ c);rw[iY];refine this.mono ?_;rw[aO];have:((ls.length+1:Nat):Int)*M=ls.length*M+M:=by
    rw[eR,eW];simp
   lia
def Al.BV(g:Good d c)(p:0<=j)(h:∀k∈kd d c f b e,Al j (i k)):Al (24*j) (BV d c f b i e m):=by
 have:=Al.fold (ls:=((kd d c f b e).filter λk=>decide (V.int k≠m)).map i) (A:=0) (a:=aC d) (M:=j) (λy n=>by rw[(i4.mp n).2];decide) λl q=>by
  obtain⟨k,o,rfl⟩:=aZ.mp q;exact h k (cf.mp o).1
 refine Al.mono this ?_;rw[ag];have s:=bP (λk=>decide (V.int k≠m)) (kd d c f b e);have t:=G9 (r:=f) (par:=b) g (v:=e);have:=b5 (show((((kd d c f b e).filter λk=>decide (V.int k≠m)).length:Nat):Int)<=24 by lia) p
 lia
def Al.put(h:Al a d)(j:0<=a)(g:Ab D b):Al (a+D) (vL d e b):=λx f=>by
 obtain⟨k,i⟩:=g;rcases fC f with f|rfl
 .have:=h x f
  constructor<;>lia
 .by_cases c:e.toNat<d.length
  .have:=h _ (dh c);rw[bn,az c];show -(a+D)<=d[e.toNat]+b/\d[e.toNat]+b<=a+D
   constructor<;>lia
  .rw[bn,bW (by lia)];show -(a+D)<=0+b/\0+b<=a+D
   constructor<;>lia
theorem L6(g:Good d b)(R:ζ d b f a j)(E:1<=i)(s:∀v,0<=v->v<d->Ab i (c v)):∀(n:Nat)(v:Int),0<=v->v<d->(v≠f->Al (2*(i*4398046511104*2^(22*n))) (ld d b f a c n false v 0))/\∀y Y,Ab Y y->Al ((Y+i*4398046511104)*2^(22*n)) (ld d b f a c n true v y)
 | 0,v,h0,h1=>⟨λ_ x r=>(by cases r),λ_ _ _ x r=>by cases r⟩
 | n+1,v,h0,h1=>by
   have w:(1:Int)<=2^(22*n):=dI (by decide);have PS:(2:Int)^(22*(n+1))=2^(22*n)*4194304:=by
    rw[show 22*(n+1)=22*n+22 by lia,gY]
    rfl
   have q:∀k∈kd d b f a v,(0<=k/\k<d)/\k≠f/\a k=v:=λk l=>(de g R h0 h1).mp l;have p:=λk (l:k∈kd d b f a v)=>L6 g R E s n k (q k l).1.1 (q k l).1.2;rw[PS];generalize (2:Int)^(22*n)=P at w p;generalize I:i*4398046511104=C at p;have S:C<=C*P:=by
    have:=bL w (show 0<=C by lia)
    lia
   have u:∀x,Al (24*(2*(C*P))) (BV d b f a (λk=>ld d b f a c n false k 0) v x):=λx=>Al.BV g (by lia) λk l=>(p k l).1 (q k l).2.1;have m:∀y Y,Ab Y y->Al ((Y+C)*(P*4194304)) (pB d b f a c (λk=>ld d b f a c n false k 0) (λk z=>ld d b f a c n true k z) v y):=λy Y ⟨T,H⟩=>by
    have N:Y<=Y*P:=by
     have:=bL w (show 0<=Y by lia)
     lia
    have e:(Y+C)*(P*4194304)=(Y*P+C*P)*4194304:=(by rw[<-eV,eW]);obtain⟨O,U⟩:=s v h0 h1;rw[e];unfold pB;rcases Ih ((kd d b f a v).map (Xz d b f a c (λk=>ld d b f a c n false k 0) (λk z=>ld d b f a c n true k z) v (c v+y))) (vL (BV d b f a (λk=>ld d b f a c n false k 0) v .ξ) v (c v+y))with h|h
    .rw[h];exact(Al.put (D:=i+Y) (u .ξ) (by lia) (by constructor<;>lia)).mono (by lia)
    .obtain⟨k,l,ek⟩:=aZ.mp h;obtain⟨o,B,_⟩:=q k l;have t:=yb g R o.1 o.2 B;obtain⟨F,K⟩:=CI (s k o.1 o.2) (k:=Wr b a k) (by lia) t.2.2;obtain⟨Q,L⟩:=CI (M:=Y+i*2097152) (z:=c v+y-c k*Wr b a k+1) (k:=Vo b a k) (by constructor<;>lia) (by lia) t.1.2;have J:=fS (Vo b a k) (c v+y-c k*Wr b a k+1);rw[<-ek];refine Al.mono (Al.add ((p k l).2 _ (1048576*Y+C) (by constructor<;>lia)) (u _)) ?_;have:(1048576*Y+C+C)*P=1048576*(Y*P)+C*P+C*P:=(by rw[eW,eW,eV])
     lia
   refine⟨λA=>?_,m⟩;show Al _ (if 0<c v then BV d b f a (λk=>ld d b f a c n false k 0) v .ξ else pB d b f a c (λk=>ld d b f a c n false k 0) (λk z=>ld d b f a c n true k z) v (Vo b a v-1));have t:=(yb g R h0 h1 A).1;have G:C*(P*4194304)=C*P*4194304:=(eV ..).symm;split
   .exact(u .ξ).mono (by lia)
   .refine(m _ 1000000 (by constructor<;>lia)).mono ?_;rw[eW];have:=b5 (show 1000000<=C by lia) (show 0<=P*4194304 by lia)
    lia
inductive Ac(m:Int)(rs:ix)(x y:fc):Str->List Nat->Sum Str Nat->Prop
 | laying (l:x.length<=24) (b:∀z∈x,Bt z):Ac m rs x y "laying" [] (.inl (VD x))
 | wish (l:y.length<=24) (b:∀z∈y,Bt z):Ac m rs x y "wish" [] (.inl (VD y))
 | most {v:Nat} {par:fz} {dep:hB} (h:(v:Int)<m) (R:ζ m rs v par dep) (b:Bt (Ϟ m rs v par dep (λu=>x.getD u.toNat 0) (ϯ rs par) v)):Ac m rs x y "most" [v] (.inl (tI (Ϟ m rs v par dep (λu=>x.getD u.toNat 0) (ϯ rs par) v)))
 | Ws {v:Nat} (h:m<=v):Ac m rs x y "most" [v] (.inr 0)
 | bring {v:Nat} {par:fz} {dep:hB} {tl:fc} {ss:List ϻ} (h:(v:Int)<m) (R:ζ m rs v par dep) (et:eX m rs v par dep v=(v:Int)::tl) (es:ss=(lR m rs v par dep (λu=>x.getD u.toNat 0) tl.reverse).map λu=>(u,par u,VA m rs v par dep (λu=>x.getD u.toNat 0) u)) (l:ss.length<=48) (b:∀s∈ss,Ye s):Ac m rs x y "bring" [v] (.inl (XD ss))
 | Vb {v:Nat} (h:m<=v):Ac m rs x y "bring" [v] (.inr 0)
 | stands {v:Nat} {par:fz} {dep:hB} (h:(v:Int)<m) (R:ζ m rs v par dep) (b:Bt (iN m rs v par dep y x v)):Ac m rs x y "stands" [v] (.inl (tI (iN m rs v par dep y x v)))
 | Ui {v:Nat} (h:m<=v):Ac m rs x y "stands" [v] (.inr 0)
 | Wt {ύ:iv} {Ϛ:Int->Int->Nat} {tl:fc} {ss:List ϻ} (RR:∀r,0<=r->r<m->ζ m rs r (ύ r) (Ϛ r)) (et:eX m rs 0 (ύ 0) (Ϛ 0) 0=0::tl) (h:0<=iN m rs 0 (ύ 0) (Ϛ 0) y x 0) (es:ss=qI rs (ύ 0) (iN m rs 0 (ύ 0) (Ϛ 0) y x) tl.reverse++qR (ύ 0) (iN m rs 0 (ύ 0) (Ϛ 0) y x) tl) (l:ss.length<=48) (b:∀s∈ss,Ye s):Ac m rs x y "meet" [] (.inl (Str.ofString "steps " ++ XD ss))
 | Wu {ύ:iv} {Ϛ:Int->Int->Nat} {zs:fc} (RR:∀r,0<=r->r<m->ζ m rs r (ύ r) (Ϛ r)) (h:¬0<=iN m rs 0 (ύ 0) (Ϛ 0) y x 0) (es:zs=(wO m rs ύ Ϛ x y m.toNat).map λz=>-z) (l:zs.length<=24) (b:∀z∈zs,Bt z):Ac m rs x y "meet" [] (.inl (Str.ofString "lack " ++ VD zs))
 | Uj (h:y.sum=0):Ac m rs x y "always" [] (.inl (tI 0))
 | always {par:fz} {dep:hB} (h:y.sum≠0) (R:ζ m rs (fV m y) par dep) (b:Bt ((Tp m rs (fV m y) par dep (p3 m rs (fV m y) par dep y) (fV m y) (-1)).sum+1)):Ac m rs x y "always" [] (.inl (tI ((Tp m rs (fV m y) par dep (p3 m rs (fV m y) par dep y) (fV m y) (-1)).sum+1)))
 | Vc (h:y.sum=0):Ac m rs x y "fails" [] (.inr 4)
 | fails {par:fz} {dep:hB} {zs:fc} (h:y.sum≠0) (R:ζ m rs (fV m y) par dep) (es:zs=Tp m rs (fV m y) par dep (p3 m rs (fV m y) par dep y) (fV m y) (-1)) (l:zs.length<=24) (b:∀z∈zs,Bt z):Ac m rs x y "fails" [] (.inl (VD zs))
section
variable{m:Int}{x y:fc}{n:Nat}
structure Sz(m:Int)(n:Nat)(s:List Int×List Int):Prop where
 l1:(s.1.length:Int)=m
 l2:(s.2.length:Int)=m
 b1:∀x∈s.1,0<=x/\x<=n*10^60
 b2:∀y∈s.2,0<=y/\y<=10^60
end
def uA{P:Int->Prop}{l:fc}(h:∀x∈l,P x)(a:P 0)(i:Nat):P (l.getD i 0):=by
 by_cases c:i<l.length
 .rw[bn,az c];exact h _ (dh c)
 .rw[bn,bW (by lia)];exact a
def Sz.aaH(S:Sz d c (a,b))(f:c<=1000):(∀z∈a,0<=z/\z<2^219)/\∀z∈b,0<=z/\z<2^219:=by
 refine⟨λz e=>?_,λz e=>?_⟩
 .have:=S.b1 z e
  lia
 .have:=S.b2 z e
  lia
def Sz.over{m:Int}{x:fc}{y:fc}{n:Nat}(S:Sz m n (x,y))(d:n<=1000):(∀v,Ab (2^220) (x.getD v 0))/\(∀v,Ab (2^220) (y.getD v 0))/\∀v,Ab (2^220) ((lK m x y).getD v 0):=by
 obtain⟨a,b⟩:=S.aaH d;have a:=uA a (by decide);have b:=uA b (by decide);refine⟨λv=>?_,λv=>?_,λv=>?_⟩
 .have:=a v;lia
 .have:=b v;lia
 .refine uA (l:=lK m x y) (λz c=>?_) (by decide) v;obtain⟨i,_,rfl⟩:=aZ.mp c;have:=a i;have:=b i
  lia
def KI(h:Ab (2^820) a):Bt a:=o9 h (by decide)
def ua(c:0<=a)(b:a<24):Bt a:=o9 (n:=5) (by lia) (by decide)
def RC(g:Good d i)(S:Sz d w (m,j))(Z:w<=1000):(∃o,Ac d i m j "laying" [] o)/\(∃o,Ac d i m j "wish" [] o)/\(∀v,∃o,Ac d i m j "most" [v] o)/\(∀v,∃o,Ac d i m j "bring" [v] o)/\(∀v,∃o,Ac d i m j "stands" [v] o)/\(∃o,Ac d i m j "meet" [] o)/\(∃o,Ac d i m j "always" [] o)/\∃o,Ac d i m j "fails" [] o:=by
 have m1:=g.m1;have Ζ:=g.Ζ;obtain⟨ox,oy,oo⟩:=S.over Z;have l1:=S.l1;have l2:=S.l2;have A:∀v:Nat,(v:Int)<d->∃par x,ζ d i v par x:=λv U=>sy g (by lia) U;have X:∀{l:fc},(∀z∈l,0<=z/\z<2^219)->∀z∈l,Bt z:=λh z hz=>o9 (n:=219) (by have:=h z hz;lia) (by decide);obtain⟨xx,yy⟩:=S.aaH Z;have W:∀{r:Int}{par:fz}{x:hB}(R:ζ d i r par x){v:Int},0<=v->v<d->Ab (2^820) (Ϟ d i r par x (λu=>m.getD u.toNat 0) (ϯ i par) v):=λ{r par x} R {v} B C=>HZ g R (λv _ _=>ox _) (λv z M _ _ _ Q h=>MQ Q h) B C;have P:∀{r:Int}{par:fz}{x:hB}(R:ζ d i r par x){v:Int},0<=v->v<d->Ab (2^820) (iN d i r par x j m v):=λ{r par x} R {v} B C=>HZ g R (λv _ _=>oo _) (λv z M B C F Q h=>Rs g R B C F Q h) B C;have K:j.sum≠0->∃par x,∃_:ζ d i (fV d j) par x,(Tp d i (fV d j) par x (p3 d i (fV d j) par x j) (fV d j) (-1)).length<=24/\∀z∈Tp d i (fV d j) par x (p3 d i (fV d j) par x j) (fV d j) (-1),Ab (2^1800) z:=λh=>by
  obtain⟨_,_,I,_⟩:=JQ l2 (λz hz=>(S.b2 z hz).1) h;obtain⟨par,x,R⟩:=sy g I.1 I.2;refine⟨par,x,R,by rw[JF g R I.1 I.2];lia,λz hz=>?_⟩;have nb:∀v,0<=v->v<d->Ab (2^820) (p3 d i (fV d j) par x j v):=λv B C=>HZ g R (λv _ _=>oy _) (λv z M B C F Q h=>CI (k:=Wr i par v) h (by have:=(yb g R B C F).2;lia) (yb g R B C F).2.2) B C;have:=(L6 g R (dI (by decide)) nb (d.toNat-x (fV d j)) _ I.1 I.2).2 (-1) 1 (by decide) z hz;have p:=DE (a:=22*(d.toNat-x (fV d j))) (b:=528) (by lia);have q:=bL p (show(0:Int)<=1+2^820*4398046511104 by decide);have e:((1:Int)+2^820*4398046511104)*2^528<=2^1800:=by decide +kernel
  constructor<;>lia
 refine⟨⟨_,.laying (by show m.length<=24;have:((m.length:Nat):Int)=d:=l1;lia) (X xx)⟩,⟨_,.wish (by have:((j.length:Nat):Int)=d:=l2;lia) (X yy)⟩,λv=>?_,λv=>?_,λv=>?_,?_,?_,?_⟩
 .by_cases c:(v:Int)<d
  .obtain⟨par,x,R⟩:=A v c;exact⟨_,.most c R (KI (W R (by lia) c))⟩
  .exact⟨_,.Ws (by lia)⟩
 .by_cases c:(v:Int)<d
  .obtain⟨par,x,R⟩:=A v c;obtain⟨N,J,O⟩:=u7 g R (by lia) c;have V:=p8 g R (by lia) c;rw[J,aO]at V;refine⟨_,.bring c R J rfl ?_ λs hs=>?_⟩
   .rw[ag];have:=bP (λu=>decide (0<VA d i v par x (λu=>m.getD u.toNat 0) u)) N.reverse;rw[aQ]at this;exact aW this (by lia)
   .obtain⟨u,hu,rfl⟩:=aZ.mp hs;obtain⟨y,L⟩:=O.places u (dN.mp (cf.mp hu).1);have up:=(R.up u y.1 y.2 L).1;intro z hz;rcases aF.mp hz with rfl|hz
    .exact ua y.1 (by lia)
    .rcases aF.mp hz with rfl|hz
     .exact(ua up.1 (by lia):Bt (par u))
     .rw[aG.mp hz];refine o9 (n:=840) ?_ (by decide);have:=MQ (rs:=i) (par:=par) (v:=u) (fm (dI (by decide))) (W R y.1 y.2);have e:(2:Int)^820*1000000<=2^840:=(by decide +kernel);have t:VA d i v par x (λu=>m.getD u.toNat 0) u=ϯ i par u (Ϟ d i v par x (λu=>m.getD u.toNat 0) (ϯ i par) u):=rfl;show Ab _ (VA d i v par x (λu=>m.getD u.toNat 0) u);rw[t]
      constructor<;>lia
  .exact⟨_,.Vb (by lia)⟩
 .by_cases c:(v:Int)<d
  .obtain⟨par,x,R⟩:=A v c;exact⟨_,.stands c R (KI (P R (by lia) c))⟩
  .exact⟨_,.Ui (by lia)⟩
 .have ex:∃H:Int->(Int->Int)×(Int->Nat),∀r,0<=r->r<d->ζ d i r (H r).1 (H r).2:=by
   refine Classical.axiomOfChoice (r:=λr (p:(Int->Int)×(Int->Nat))=>0<=r->r<d->ζ d i r p.1 p.2) λr=>?_;by_cases c:0<=r/\r<d
   .obtain⟨par,x,R⟩:=sy g c.1 c.2;exact⟨(par,x),λ_ _=>R⟩
   .exact⟨(λ_=>0,λ_=>0),λa b=>absurd ⟨a,b⟩ c⟩
  obtain⟨H,D⟩:=ex;have D:∀r,0<=r->r<d->ζ d i r ((λr=>(H r).1) r) ((λr=>(H r).2) r):=D;generalize (λr=>(H r).1)=E at D;generalize (λr=>(H r).2)=T at D;have R:=D 0 (by lia) (by lia);by_cases c:0<=iN d i 0 (E 0) (T 0) j m 0
  .obtain⟨N,J,O⟩:=u7 g R (by lia) (by lia);have V:=p8 g R (bO _) (by lia);rw[J,aO]at V;refine⟨_,.Wt D J c rfl ?_ λs hs=>?_⟩
   .have l1:=bP (Gk i (E 0) (iN d i 0 (E 0) (T 0) j m)) N.reverse;have l2:=bP (Ip (iN d i 0 (E 0) (T 0) j m)) N;unfold qI qR;rw[aH,ag,ag];rw[aQ]at l1
    lia
   .have key:∃u k,u∈N/\Ab (2^820*1000000) k/\(s=(u,E 0 u,k)\/s=(E 0 u,u,k)):=by
     rcases bi.mp hs with hs|hs
     .obtain⟨u,hu,rfl⟩:=aZ.mp hs;have G:=dN.mp (cf.mp hu).1;obtain⟨y,L⟩:=O.places u G;refine⟨u,_,G,?_,.inl rfl⟩;unfold xf;split
      .exact GJ (P R y.1 y.2) (fm (dI (by decide)))
      .decide +kernel
     .obtain⟨u,hu,rfl⟩:=aZ.mp hs;have G:=(cf.mp hu).1;obtain⟨y,L⟩:=O.places u G;refine⟨u,_,G,?_,.inr rfl⟩;have:=P R y.1 y.2
      constructor<;>lia
    obtain⟨u,k,G,hk,e⟩:=key;obtain⟨y,L⟩:=O.places u G;have up:=(R.up u y.1 y.2 L).1;have b1:Bt k:=o9 (n:=840) (by have e:(2:Int)^820*1000000<=2^840:=(by decide +kernel);constructor<;>lia) (by decide);have b2:=ua y.1 (by lia);have b3:=ua up.1 (by lia);intro z hz;rcases e with rfl|rfl<;>simp only[aF,fP,or_false]at hz<;>rcases hz with rfl|rfl|rfl<;>assumption
  .refine⟨_,.Wu D c rfl (by rw[ag,HG];lia) λz hz=>?_⟩;obtain⟨q,hq,rfl⟩:=aZ.mp hz;obtain⟨v,U,rfl⟩:=aZ.mp hq;have F:=fH.mp U;have:Ab (2^820) (Ϟ d i v (E v) (T v) (λv=>(lK d m j).getD v.toNat 0) (Tx i (E v)) v):=P (D v F.1 (by lia)) F.1 (by lia);exact KI (by constructor<;>lia)
 .by_cases c:j.sum=0
  .exact⟨_,.Uj c⟩
  .obtain⟨par,x,R,l,b⟩:=K c;refine⟨_,.always c R (o9 (n:=1810) ?_ (by decide))⟩;have:=zB (f:=λz=>z) (l:=Tp d i (fV d j) par x (p3 d i (fV d j) par x j) (fV d j) (-1)) λz hz=>(b z hz).2;have Y:=zB (f:=λz=>-z) (l:=Tp d i (fV d j) par x (p3 d i (fV d j) par x j) (fV d j) (-1)) (M:=2^1800) λz hz=>by have:=(b z hz).1;lia
   rw[Dz (f:=λz=>z)]at Y;rw[List.map_id']at this Y;have q:=b5 (show(((Tp d i (fV d j) par x (p3 d i (fV d j) par x j) (fV d j) (-1)).length:Nat):Int)<=24 by lia) (show(0:Int)<=2^1800 from fm (dI (by decide)));have e:(24:Int)*2^1800+1<=2^1810:=(by decide +kernel)
   constructor<;>lia
 .by_cases c:j.sum=0
  .exact⟨_,.Vc c⟩
  .obtain⟨par,x,R,l,b⟩:=K c;exact⟨_,.fails c R rfl l λz hz=>o9 (b z hz) (by decide)⟩
inductive W0(m:Int)(rs:ix)(ς:List (List Int×List Int))(s:List Int×List Int):Str->List Nat->Sum Str Nat->List (List Int×List Int)->Prop
 | put {v n:Nat} (h:(v:Int)<m):W0 m rs ς s "put" [v,n] (.inl "done") (ς++[s]++[(s.1.set v (s.1.getD v 0+n),s.2)])
 | want {v n:Nat} (h:(v:Int)<m):W0 m rs ς s "want" [v,n] (.inl "done") (ς++[s]++[(s.1,s.2.set v n)])
 | step {a b n:Nat} (h:sS m rs s.1 (a,b,n)=true):W0 m rs ς s "step" [a,b,n] (.inl "done") (ς++[s]++[(pF rs s.1 (a,b,n),s.2)])
 | aif {a b n:Nat} (h:sS m rs s.1 (a,b,n)=false):W0 m rs ς s "step" [a,b,n] (.inr 2) (ς++[s])
 | back (h:ς≠[]):W0 m rs ς s "back" [] (.inl "done") ς
 | aih (h:ς=[]):W0 m rs ς s "back" [] (.inr 3) (ς++[s])
def RO:Nat->Str
 | 0=>"refused place"
 | 1=>"refused wish"
 | 2=>"refused step"
 | 3=>"refused deed"
 | 4=>"refused none"
 | _=>"refused row"
def BE:Sum Str Nat->Str
 | .inl a=>a
 | .inr c=>RO c
def GN(h:Ϡ k j g i a c b f d):Δ k f (d.map λu=>(u,a u,VA j g i a c b u)):=by
 induction h with
 | nil=>exact .nil
 | cons e _ ih=>exact .cons e ih
def Lr(h:nb b=some a):a<=3:=by
 unfold nb at h;obtain⟨p,c,rfl⟩:=cq.mp h;exact(PK p (List.mem_of_find?_eq_some c)).2.1
end Pb
namespace Pb
open L2 PySem PySem.W
def Sz.fil(h:Sz c b a):(∀x∈a.1,0<=x)/\∀x∈a.2,0<=x:=⟨λx d=>(h.b1 x d).1,λx d=>(h.b2 x d).1⟩
def Sz.mono(h:Sz c n b)(hn:n<=a):Sz c a b:=⟨h.l1,h.l2,λx d=>⟨(h.b1 x d).1,ci (h.b1 x d).2 (b5 (by lia) (by decide))⟩,h.b2⟩
def hdB(w:Str):Bool:=decide (w.length<=10)&&w.cps.toList.all λc=>decide (c≠32/\c≠10/\c<128)
def K5(h:hdB a=true):Y9 a/\Pl a:=by
 unfold hdB at h;rw[bG,decide_eq_true_iff,eI]at h;have k:=λc b=>bB (h.2 c b);exact⟨⟨h.1,λz=>(k _ z).1 rfl,λz=>(k _ z).2.1 rfl⟩,λc b=>⟨(k c b).2.2,(k c b).2.1⟩⟩
def Pg(h:∀q∈a++[d],Sz b c q)(f:Sz b (c+1) e):∀q∈a++[d]++[e],Sz b (c+1) q:=λq hq=>by
 rcases bi.mp hq with hq|hq
 .exact(h q hq).mono (by lia)
 .rw[aG.mp hq];exact f
def zA{P:Int->Prop}{b:fc}{v:Nat}{y:Int}(h:∀x∈b,P x)(c:P y):∀x∈b.set v y,P x:=λx a=>by
 rcases fC a with a|rfl
 .exact h x a
 .exact c
def Rb(d:0<=a):∀q∈[(aC a,aC a)],Sz a 0 q:=λq c=>by
 rw[aG.mp c];have l:((aC a).length:Int)=a:=by rw[zi];lia
 refine⟨l,l,λx b=>?_,λx b=>?_⟩<;>rw[(i4.mp b).2]<;>decide
end Pb
namespace Pb
open L2 PySem PySem.W NumText
def JU(w:Str):Vn w []=w:=uy _ _
def Rv(h:a=b++Str.ofString " ")(v:Nat):a++FS v=Vn b [v]:=by
 unfold Vn;rw[h,aE,cH,uU,uy,qo]
def MM(ne:a≠[])(h:∀z∈a,0<=z):b++Str.ofString " " ++ VD a=Vn b (a.map Int.toNat):=by
 have e:a.map tI=(a.map Int.toNat).map FS:=by
  rw[jw];refine cC λz c=>?_;have:=wf z.toNat;rw[cB (h z c)]at this;exact this
 unfold VD Vn;rw[e];cases a with
 | nil=>exact absurd rfl ne
 | cons z a=>rw[aE,aE,uU,qo]
end Pb
namespace Pb
open PySem L2
def Wv(m:Int)(c:ix)(r:Int)(a:fz)(b:hB)(d:fc)(k:Int):Bool:=decide (ώ m c r a b k*tup c a k=ώ m c r a b (a k))&&decide (S7 m c r a b d (a k)≠some k)
def Ww(m:Int)(d:ix)(r:Int)(a:fz)(b:hB)(c:fc)(k:Int):Bool:=decide (S7 m d r a b c (a k)=some k)
def cK(b:ix)(a:fz)(k:Int):Nat:=(tup b a k).toNat
def V2(m:Int)(c:ix)(r:Int)(a:fz)(b:hB)(d:fc)(v:Int):Nat->Int:=wy m c r a b (Wv m c r a b d) (Ww m c r a b d) (cK c a) v
inductive iS(m:Int)(rs:ix):Str->List Nat->Str->Prop
 | enough {v w:Nat} {par:fz} {dep:hB} (h:(v:Int)<m) (w1:1<=w) (w2:w<=10^20) (R:ζ m rs v par dep) (b:Bt (UJ m rs v par (ic m rs v par dep) w+1)):iS m rs "enough" [v,w] (tI (UJ m rs v par (ic m rs v par dep) w+1))
 | hardest {w:Nat} {f:fz} {zs:fc} (w1:1<=w) (w2:w<=10^20) (hf:∀r,0<=r->r<m->∃par dep,ζ m rs r par dep/\UJ m rs r par (ic m rs r par dep) w+1=f r) (hz:∀y j,VB ((b7 m.toNat).map f) y j->zs=[y,j]) (l:zs.length<=24) (b:∀z∈zs,Bt z):iS m rs "hardest" [w] (VD zs)
 | worst {v w:Nat} {par:fz} {dep:hB} {tl zs:fc} (h:(v:Int)<m) (w1:1<=w) (w2:w<=10^20) (R:ζ m rs v par dep) (et:eX m rs v par dep v=(v:Int)::tl) (hz:∀cn,To m rs v par (S7 m rs v par dep tl) w cn->zs=(b7 m.toNat).map (lies (S7 m rs v par dep tl) cn)) (l:zs.length<=24) (b:∀z∈zs,Bt z):iS m rs "worst" [v,w] (VD zs)
 | many {v w:Nat} {par:fz} {dep:hB} {tl:fc} (h:(v:Int)<m) (w1:1<=w) (w2:w<=10^20) (R:ζ m rs v par dep) (et:eX m rs v par dep v=(v:Int)::tl) (b:Bt (V2 m rs v par dep tl v (w-1))):iS m rs "many" [v,w] (tI (V2 m rs v par dep tl v (w-1)))
def Rg{m:Int}{o:ix}(g:Good m o)(m5:m<=5){v k:Nat}(h:(v:Int)<m)(A:1<=k)(C:k<=10^20):(∃a,iS m o "enough" [v,k] a)/\(∃a,iS m o "hardest" [k] a)/\(∃a,iS m o "worst" [v,k] a)/\∃a,iS m o "many" [v,k] a:=by
 have m1:=g.m1;have s:(0:Int)<=v:=by lia
 have W:(k:Int)<=10^60:=by lia
 have M:(1:Int)<=k:=by lia
 have t:∀{r:Int}{d:fz}{l:hB},0<=r->r<m->ζ m o r d l->Ab (2^720) (UJ m o r d (ic m o r d l) k)/\Ab (2^720) (UJ m o r d (ic m o r d l) k+1):=λP Z R=>by
  have:=Qo g R P Z M W
  constructor<;>lia
 obtain⟨d,l,R⟩:=sy g s h;obtain⟨D,F,O⟩:=u7 g R s h;refine⟨⟨_,.enough h A C R (o9 (t s h R).2 (by decide))⟩,?_,?_,⟨_,.many h A C R F ?_⟩⟩
 .obtain⟨f,hf⟩:∃f:Int->Int,∀r,0<=r->r<m->∃d l,ζ m o r d l/\UJ m o r d (ic m o r d l) k+1=f r:=by
   refine Classical.axiomOfChoice (r:=λr y=>0<=r->r<m->∃d l,ζ m o r d l/\UJ m o r d (ic m o r d l) k+1=y) λr=>?_;by_cases c:0<=r/\r<m
   .obtain⟨d,l,R⟩:=sy g c.1 c.2;exact⟨_,λ_ _=>⟨d,l,R,rfl⟩⟩
   .exact⟨0,λa b=>absurd ⟨a,b⟩ c⟩
  by_cases c:∃y j,VB ((b7 m.toNat).map f) y j
  .obtain⟨y,j,B⟩:=c;refine⟨_,.hardest A C hf (λy' j' X=>by obtain⟨rfl,rfl⟩:=B.same X;rfl) (ir rfl) λz hz=>?_⟩;rcases aF.mp hz with rfl|hz
   .obtain⟨r,hr,rfl⟩:=aZ.mp B.mem;have J:=fH.mp hr;obtain⟨d,l,R,e⟩:=hf r J.1 (by lia);rw[<-e];exact o9 (t J.1 (by lia) R).2 (by decide)
   .rw[aG.mp hz];obtain⟨i,rfl,S,_⟩:=B.at_;have:=(ax.mp S).1;rw[ag,b6]at this;exact ua (by lia) (by lia)
  .exact⟨_,.hardest (zs:=[]) A C hf (λy j B=>absurd ⟨y,j,B⟩ c) (by decide) λz hz=>by cases hz⟩
 .by_cases c:∃E,To m o v d (S7 m o v d l D) k E
  .obtain⟨E,N⟩:=c;have nn:∀z∈(b7 m.toNat).map (lies (S7 m o v d l D) E),0<=z:=λz hz=>by
    obtain⟨u,Q,rfl⟩:=aZ.mp hz;have U:=fH.mp Q;unfold lies;split
    .exact To.nn g R N M s h _ u rfl U.1 (by lia)
    .exact bO _
   refine⟨_,.worst h A C R F (λY V=>To.Y7 R N V) (by rw[ag,b6];lia) λz hz=>o9 (n:=720) ?_ (by decide)⟩;have:=JI nn hz;rw[To.total g R (RY g R O) N s h F O]at this;have:=nn z hz;have:=(t s h R).1
   constructor<;>lia
  .exact⟨_,.worst (zs:=[]) h A C R F (λE N=>absurd ⟨E,N⟩ c) (by decide) λz hz=>by cases hz⟩
 .have d4:Tz m o v d l v<=4:=by have:=CA g R s h;lia
  have w:=Rf g R (T:=1000000) (by decide) (λu G I H=>(nC g R G I H).2) _ v s h rfl;have w0:=(kJ g R s h).1;have p:1000000^Tz m o v d l v<=1000000^4:=dq (by decide) d4;have q:=dF (show ώ m o v d l v<=1000000^4 by lia) (show((k-1:Nat):Int)+1<=10^20 by lia) (by lia) (by decide);obtain⟨K,L⟩:=JY (fr:=Wv m o v d l D) (be:=Ww m o v d l D) (c:=cK o d) g R O (λu G I H=>by have:=(nC g R G I H).1;show((tup o d u).toNat:Int)=_;lia) (x:=147) m.toNat s h (by lia) (k-1) (ci q (by decide));refine o9 (n:=588) ?_ (by decide);have:(2:Int)^(147*Tz m o v d l v)<=2^588:=A9 (by lia);have K:0<=V2 m o v d l D v (k-1):=K;have L:V2 m o v d l D v (k-1)<=2^(147*Tz m o v d l v):=L
  constructor<;>lia
def Qa(h:a<=10^20):a<=2^4000:=aW h (by decide +kernel)
def Ln(m:Int)(c:ix)(x y:fc)(w:Str)(b:List Nat)(o:Sum Str Nat):Prop:=(Ac m c x y w b o/\o≠.inr 0)\/∃a,o=.inl a/\iS m c w b a
def TJ(m:Int)(b:ix)(c:List (List Int×List Int))(s:List Int×List Int)(z:Str)(o:Sum Str Nat)(S:List (List Int×List Int)):Prop:=z.length<=60000/\∃(w:Str)(a:List Nat),wsp z=w::a.map FS/\(∀n∈a,n<10^60)/\nb w=some a.length/\((o=.inl "done"/\W0 m b c s w a (.inl "done") S)\/(S=c++[s]/\Ln m b s.1 s.2 w a o))
def TJ.same(h:TJ g f a d j c b)(e:c=.inr i):b=a++[d]:=by
 subst e;rcases h with⟨_,w,ns,_,_,_,⟨h,_⟩|⟨h,_⟩⟩
 .cases h
 .exact h
def KQ(o:a.length=k)(m:∀k∈a,k<10^60)(h:Ln f e c d b a g)(n:List (List Int×List Int))(i:hdB b=true:=by decide +kernel)(j:nb b=some k:=by decide +kernel):TJ f e n (c,d) (Vn b a) g (n++[(c,d)]):=by
 obtain⟨i,_⟩:=K5 i;subst o;have l:=J7 i m;have:=Lr j;exact⟨by lia,b,a,EN i a,m,j,.inr ⟨rfl,h⟩⟩
def LG(g:a.length=k)(f:∀k∈a,k<10^60)(h:W0 m rs b s w a (.inl "done") c)(d:hdB w=true:=by decide +kernel)(e:nb w=some k:=by decide +kernel):TJ m rs b s (Vn w a) (.inl "done") c:=by
 obtain⟨d,_⟩:=K5 d;subst g;have l:=J7 d f;have:=Lr e;exact⟨by lia,w,a,EN d a,f,e,.inl ⟨rfl,h⟩⟩
def Sr(g:Good i f)(u:j.Ok i f)(b:∀y∈j.ns,0<=y/\y<10^60)(e:Za f h j=some m)(z:Sz i d h)(C:List (List Int×List Int)):TJ i f C h (Vn j.wd (j.ns.map Int.toNat)) (.inl "done") (C++[h]++[m])/\Sz i (d+1) m:=by
 have Ζ:=g.Ζ;have r:∀k∈j.ns.map Int.toNat,k<10^60:=λk H=>by
  obtain⟨y,D,rfl⟩:=aZ.mp H;have:=b y D
  lia
 have q:=uA (P:=λx=>0<=x/\x<=d*10^60) z.b1 (by lia);have up:∀x∈h.1,0<=x/\x<=(d+1:Nat)*10^60:=λx p=>by have:=z.b1 x p;lia
 cases j with
 | put v d=>
   have n:=b v (.head _);have o:=b d (.tail _ (.head _));obtain⟨v,rfl⟩:=cJ n.1;obtain⟨d,rfl⟩:=cJ o.1;cases e;exact⟨LG (w:="put") (k:=2) rfl r (.put u.1.2),by rw[bN];exact z.l1,z.l2,zA up (by have:=q v;show 0<=h.1.getD v 0+_/\h.1.getD v 0+_<=_;lia),z.b2⟩
 | want v d=>
   have n:=b v (.head _);have o:=b d (.tail _ (.head _));obtain⟨v,rfl⟩:=cJ n.1;obtain⟨d,rfl⟩:=cJ o.1;cases e;exact⟨LG (w:="want") (k:=2) rfl r (.want u.1.2),z.l1,by rw[bN];exact z.l2,up,zA z.b2 (by lia)⟩
 | back v d=>cases e
 | step a c d=>
   have n:=b a (.head _);have o:=b c (.tail _ (.head _));have E:=b d (.tail _ (.tail _ (.head _)));obtain⟨a,rfl⟩:=cJ n.1;obtain⟨c,rfl⟩:=cJ o.1;obtain⟨d,rfl⟩:=cJ E.1;obtain⟨s,F,J⟩:=u;obtain⟨A,L,_⟩:=g.WW s;obtain⟨t,G,K,_⟩:=BL g s;unfold Za at e;by_cases l:(d:Int)*jH f a c<=h.1.getD a 0
   .simp only[dJ,aj l]at e;cases e;have cd:sS i f h.1 (a,c,d)=true:=by
     unfold sS qy;show(decide (0<=(a:Int))&&decide ((a:Int)<i)&&decide ((c:Int)∈jO i f a)&&decide (1<=(d:Int))&&decide ((d:Int)*jH f a c<=h.1.getD a 0))=true;rw[bo A.1,bo A.2,bo ((wR g).mpr s),bo F,bo l]
     rfl
    refine⟨LG (w:="step") (k:=3) rfl r (.step cd),by rw[EI];exact z.l1,z.l2,?_,z.b2⟩;have B:jH f a c=t:=(by unfold jH;rw[G];rfl);have I:(0:Int)<=d*t:=ja (by lia) (by lia);rw[B]at l;have n:∀x∈h.1.set a (h.1.getD a 0-d*t),0<=x/\x<=_:=zA z.b1 (by have:=q a;lia);unfold pF;show ∀x∈(h.1.set a (h.1.getD a 0-d*jH f a c)).set c ((h.1.set a (h.1.getD a 0-d*jH f a c)).getD c 0+d),_;rw[B];refine zA (λx p=>?_) ?_
    .have:=n x p
     lia
    .have:=uA n (by lia) c
     lia
   .simp only[dJ,ah l]at e;cases e
def SX(w:Str)(v k:Nat):w++Str.ofString " " ++ FS v++Str.ofString " " ++ FS k=Vn w [v,k]:=by
 unfold Vn;rw[aE,aE,cH,uU,uU,uy,qo,qo,qo]
def Lj:List Str:=["laying","wish","most","bring","stands","always","fails","meet","enough","hardest","worst","many"]
def SF{m:Int}{d:ix}{x:fc}{y:fc}{w:Str}{n:Nat}(g:Good m d)(S:Sz m n (x,y))(q:n<=1000)(i:m<=5){v k:Nat}(h:(v:Int)<m)(l:1<=k)(p:k<=10^20){j:Nat}(e:Lj[j]?=some w):hdB w=true/\((Xn (.str w) [V.str "most",V.str "bring",V.str "stands"]=true/\nb w=some 1/\∃o,Ac m d x y w [v] o/\o≠.inr 0)\/Xn (.str w) [V.str "most",V.str "bring",V.str "stands"]=false/\((j<8/\nb w=some 0/\∃o,Ac m d x y w [] o/\o≠.inr 0)\/¬j<8/\((w="hardest"/\∃a,iS m d w [k] a)\/w≠"hardest"/\nb w=some 2/\∃a,iS m d w [v,k] a))):=by
 have a:=RC g S q;have c:∀{w:Str}{f:List Nat},(f=[]\/f=[v])->(∃o,Ac m d x y w f o)->∃o,Ac m d x y w f o/\o≠.inr 0:=λe ⟨o,r⟩=>⟨o,r,λz=>by
  subst z;cases r<;>rcases e with e|e<;>cases e<;>lia⟩
 have b:=Rg g i h l p
 match j,e with
 | 0,rfl=>exact⟨by decide +kernel,.inr ⟨by decide +kernel,.inl ⟨by decide,by decide +kernel,c (.inl rfl) a.1⟩⟩⟩
 | 1,rfl=>exact⟨by decide +kernel,.inr ⟨by decide +kernel,.inl ⟨by decide,by decide +kernel,c (.inl rfl) a.2.1⟩⟩⟩
 | 2,rfl=>exact⟨by decide +kernel,.inl ⟨by decide +kernel,by decide +kernel,c (.inr rfl) (a.2.2.1 v)⟩⟩
 | 3,rfl=>exact⟨by decide +kernel,.inl ⟨by decide +kernel,by decide +kernel,c (.inr rfl) (a.2.2.2.1 v)⟩⟩
 | 4,rfl=>exact⟨by decide +kernel,.inl ⟨by decide +kernel,by decide +kernel,c (.inr rfl) (a.2.2.2.2.1 v)⟩⟩
 | 5,rfl=>exact⟨by decide +kernel,.inr ⟨by decide +kernel,.inl ⟨by decide,by decide +kernel,c (.inl rfl) a.2.2.2.2.2.2.1⟩⟩⟩
 | 6,rfl=>exact⟨by decide +kernel,.inr ⟨by decide +kernel,.inl ⟨by decide,by decide +kernel,c (.inl rfl) a.2.2.2.2.2.2.2⟩⟩⟩
 | 7,rfl=>exact⟨by decide +kernel,.inr ⟨by decide +kernel,.inl ⟨by decide,by decide +kernel,c (.inl rfl) a.2.2.2.2.2.1⟩⟩⟩
 | 8,rfl=>exact⟨by decide +kernel,.inr ⟨by decide +kernel,.inr ⟨by decide,.inr ⟨by decide +kernel,by decide +kernel,b.1⟩⟩⟩⟩
 | 9,rfl=>exact⟨by decide +kernel,.inr ⟨by decide +kernel,.inr ⟨by decide,.inl ⟨rfl,b.2.1⟩⟩⟩⟩
 | 10,rfl=>exact⟨by decide +kernel,.inr ⟨by decide +kernel,.inr ⟨by decide,.inr ⟨by decide +kernel,by decide +kernel,b.2.2.1⟩⟩⟩⟩
 | 11,rfl=>exact⟨by decide +kernel,.inr ⟨by decide +kernel,.inr ⟨by decide,.inr ⟨by decide +kernel,by decide +kernel,b.2.2.2⟩⟩⟩⟩
 | k+12,e=>cases e
def Rt(h:W0 f d a i b c g e):Xn (.str b) [V.str "put",V.str "want",V.str "step",V.str "back"]=true:=by
 cases h<;>decide +kernel
def Q7{m:Int}{f:ix}{w:Str}{e:List Nat}{a:Str}{u:Str}(h:iS m f w e a)(n:u≠"enough"/\u≠"hardest"/\u≠"worst"/\u≠"many"):w≠u:=by
 obtain⟨a,b,c,d⟩:=n;cases h<;>apply Ne.symm<;>assumption
def QT(h:Ln f c d e a b g):¬Xn (.str a) [V.str "put",V.str "want",V.str "step",V.str "back"]=true:=by
 rcases h with⟨h,_⟩|⟨_,_,h⟩<;>cases h<;>decide +kernel
def Sn(D:Dd):D.ns.length<=3/\D.ns≠[]:=by cases D<;>simp[Dd.ns]
def Ss(D:Dd):D.wd.length<=20:=by cases D<;>exact SH _
end Pb
namespace Pb
def As{c:Prop}[i:Decidable c]{a b:Prop}(h:¬c)(q:b):if c then a else b:=by rw[ah h];exact q
def TF{c:Prop}[i:Decidable c]{a b:Prop}(h:c)(q:a):if c then a else b:=by rw[aj h];exact q
end Pb
namespace Pb
open PySem L2
abbrev Vq(P:Program)(w:World)(K:hO)(c:hU)(a:Heap)(x q:Str)(st:Stmt)(e:hX)(k:Nat)(d:Sp):Prop:=∀(f:Addr)(b:FuncData),WV K x q st f b->ϋ P w K c a (τ P w) k f b e d
structure Cm(P:Program)(w:World)(K:hO)(mg:hU)(base:Heap)(R:Addr->Prop)(x q:Str)(st:Stmt)(ps:hX)(k:Nat)(sp:Sp) where
 f:Addr
 fd:FuncData
 F:WV K x q st f fd
 b:Binds K fd ps []
 M:R f
 G:ϋ P w K mg base (τ P w) k f fd ps sp
abbrev ZJ(x q:Str)(st:Stmt)(f:hX):Prop:=Nat.ble f.length 5=true/\(λ(kV g i:Value)(k:Option Addr)(j h a b c d e:Value)=>bindArgs (PySem.W.fnOf x q (mG st) (kL st) (aA st) .none kV g i k j h) ⟨[a,b,c,d,e].take f.length,[]⟩)=λ_ _ _ _ _ _ a b c d e=>pure (f.zip ([a,b,c,d,e].take f.length))
def ZJ.of(h:ZJ g i st f)(kV k n:Value)(o:Option Addr)(p m:Value)(j:hT)(z:j.length=f.length):bindArgs (PySem.W.fnOf g i (mG st) (kL st) (aA st) .none kV k n o p m) ⟨j,[]⟩=pure (f.zip j):=by
 obtain⟨a,b,c,d,e,rfl⟩:∃a b c d e:Value,j=[a,b,c,d,e].take f.length:=by
  have l:=ir h.1;rw[<-z]at l ⊢
  match j,l with
  | [],_=>exact⟨.none,.none,.none,.none,.none,rfl⟩
  | [a],_=>exact⟨a,.none,.none,.none,.none,rfl⟩
  | [a,b],_=>exact⟨a,b,.none,.none,.none,rfl⟩
  | [a,b,c],_=>exact⟨a,b,c,.none,.none,rfl⟩
  | [a,b,c,d],_=>exact⟨a,b,c,d,.none,rfl⟩
  | [a,b,c,d,e],_=>exact⟨a,b,c,d,e,rfl⟩
  | _::_::_::_::_::_::j,l=>exact absurd l (by simp)
 exact congrFun (congrFun (congrFun (congrFun (congrFun (congrFun (congrFun (congrFun (congrFun (congrFun (congrFun h.2 kV) k) n) o) p) m) a) b) c) d) e
def df{K:hO}{h:Heap}{m:hU}(X:K.In h)(G:h.Ns mainGlobals m){x:Str}{st:Stmt}{ps:hX}{f:Addr}{p:Value}{n k:Option Addr}{o:Array (Option Value)}{kV d i g j:Value}(a:PySem.W.nsIn K mainGlobals x=some (some (.ref f)):=by k_is)(l:K.lookup f=some ⟨p,n,.func (PySem.W.fnOf x x (mG st) (kL st) (aA st) .none kV d i k g j),o⟩:=by k_is)(c:PySem.W.codeIn K g x=true:=by k_is)(e:PySem.W.keepIn K (.ref f)=true:=by k_is)(b:ZJ x x st ps:=by exact⟨rfl,rfl⟩):Df K m x st ps f (PySem.W.fnOf x x (mG st) (kL st) (aA st) .none kV d i k g j):=⟨yD (st:=st) l c e,kF X G a,(yD (st:=st) l c e).binds b.of⟩
def cd{P:Program}{w:World}{K:hO}{h:Heap}{i:hU}{d:Heap}(X:K.In h)(G:h.Ns mainGlobals i){x:Str}{st:Stmt}{j:hX}{k:Nat}{n:Sp}{f:Addr}{u:Value}{q s:Option Addr}{t:Array (Option Value)}{kV g p m r:Value}(o:Ok P w K i d x st j k n)(a:PySem.W.nsIn K mainGlobals x=some (some (.ref f)):=by k_is)(l:K.lookup f=some ⟨u,q,.func (PySem.W.fnOf x x (mG st) (kL st) (aA st) .none kV g p s m r),t⟩:=by k_is)(c:PySem.W.codeIn K m x=true:=by k_is)(e:PySem.W.keepIn K (.ref f)=true:=by k_is)(b:ZJ x x st j:=by exact⟨rfl,rfl⟩):Cb P w K i d x st j k n:=cb (df X G a l c e b) (o _ _ (df X G a l c e b))
def afJ(e:PySem.W.findIn c (.ref b) a=some none):Ι c b a:=e
def cm{P:Program}{w:World}{K:hO}{j:hU}{a:Heap}{x q:Str}{st:Stmt}{g:hX}{k:Nat}{i:Sp}{C f:Addr}{v:Value}{p t:Option Addr}{u:Array (Option Value)}{kV d n h s:Value}(m:Str){R:PySem.W.Frag->Addr->Addr->Prop}(o:Vq P w K j a x q st g k i)(_n:PySem.W.nsIn K mainGlobals m=some (some (.ref C)):=by k_is)(_a:PySem.W.findIn K (.ref C) x=some (some (.ref f)):=by k_is)(r:R K C f:=by first|exact⟨by k_is,by k_is,by k_is⟩|exact⟨by k_is,by k_is,by k_is,by k_is⟩|exact L2.aaJ _ _ _ _ _ _ _ _ _ _ _ _ _ _ _ _ (by k_is) (by rfl) (by kernel_rfl) (by k_is) (by kernel_rfl) (by k_is))(l:K.lookup f=some ⟨v,p,.func (PySem.W.fnOf x q (mG st) (kL st) (aA st) .none kV d n t h s),u⟩:=by k_is)(c:PySem.W.codeIn K h q=true:=by k_is)(e:PySem.W.keepIn K (.ref f)=true:=by k_is)(b:ZJ x q st g:=by exact⟨rfl,rfl⟩):Cm P w K j a (R K C) x q st g k i:=⟨f,_,yD (st:=st) l c e,(yD (st:=st) l c e).binds b.of,r,o _ _ (yD (st:=st) l c e)⟩
def lw{P:Program}{w:World}{K:hO}{h:Heap}{g:hU}(X:K.In h)(G:h.Ns mainGlobals g){x:Str}{st:Stmt}{k:Nat}{r:Sp}{f:Addr}{B:Value}{u z:Option Addr}{A:Array (Option Value)}{kV j t q y:Value}{p:Addr}{n:Str}(i:g x=some (.ref p))(o:∀d:Heap,Ok P w K g d x st [n] k r)(a:PySem.W.nsIn K mainGlobals x=some (some (.ref f)):=by k_is)(l:K.lookup f=some ⟨B,u,.func (PySem.W.fnOf x x (mG st) (kL st) (aA st) .none kV j t z q y),A⟩:=by k_is)(c:PySem.W.codeIn K q x=true:=by k_is)(e:PySem.W.keepIn K (.ref f)=true:=by k_is)(b:ZJ x x st [n]:=by exact⟨rfl,rfl⟩):∃m:FuncData,(∀(s:Shared)(v:Value),BindsTo s m ⟨[v],[]⟩ [(n,v)])/\∀d:Heap,K.In d->d.Ns mainGlobals g->ϋ P w K g d (τ P w) k p m [n] r:=by
 cases i.symm.trans (kF X G a);exact⟨_,λs v=>.of_eq (b.of _ _ _ _ _ _ [v] rfl),λd _ _=>o d _ _ (df X G a l c e b)⟩
def dkN{w:World}{K:hO}(x:Str)(l:List (Str×Tok×Int×Tok)){a:Addr}{d:Nat}{b:List DictEntry}(c:(l.map (·.1)).Nodup)(_n:PySem.W.nsIn K mainGlobals x=some (some (.ref a)):=by k_is)(h:K.lookup a=some ⟨.type "dict",none,.dict ⟨b⟩ d,#[]⟩:=by k_is)(f:(a==sysModules)=false:=by rfl)(e:b=l.map λp=>DictEntry.mk (Oj w (.inr p.1)) (.str p.1 p.2.1) (.int p.2.2.1 p.2.2.2):=by rfl):DK w K a (l.map λp=>((.inr p.1:Key),V.int p.2.2.1)):=Sl l f c h e
end Pb
set_option maxHeartbeats 4000000
namespace Pk
open PySem L2 Pb
seal L2.UR L2.PS L2.PE L2.PT L2.PW L2.PA L2.PG L2.Zz L2.PI L2.PTs L2.PC L2.PPs L2.PO
abbrev top(i:Nat):Stmt:=Hd.top i
local macro_rules|`(tactic| walk_at "t") => `(tactic| (walk_at "s";walk_at ""))
local macro_rules|`(tactic| walk_at "") => `(tactic| ((try dsimp only [YV, P4, KD, Fd, Jy, Da, Jj, NJ, GH, EY, Pf, KR, NL, KW, Lw, Ke, Oy, OP, LU, Ex, NG, Km, V9, DW, wJ, Kq, Kl, Yz, NX, Lz, Lc, Pr, ipI, Ij, Lx, CD, tB, CJ, tC, yx, Xj, tUn, WQ, rI, rU, rEq, rNe, sj, F0, LF, FX, We, OS, Pm, ZD, tBM, NT, Ot, OX, D3, K3, Lm, yM, PR, tOr, O7, KN, Py, tIf, List.nil_append, List.append_nil, List.set_cons_zero, List.set_cons_succ, List.getElem?_cons_zero, List.getElem?_cons_succ]);(try simp only [YV, P4, KD, Fd, Jy, Da, Jj, NJ, GH, EY, Pf, KR, NL, KW, Lw, Ke, Oy, OP, LU, Ex, NG, Km, V9, DW, wJ, Kq, Kl, Yz, NX, Lz, Lc, Pr, ipI, Ij, Lx, CD, tB, CJ, tC, yx, Xj, tUn, WQ, rI, rU, rEq, rNe, QK, Qh, QM, Rj, QL, QH, sj, F0, LF, FX, We, OS, Pm, ZD, tBM, NT, Ot, OX, D3, K3, Lm, yM, PR, tOr, O7, KN, Py, tIf, List.nil_append, List.append_nil, List.set_cons_zero, List.set_cons_succ, List.getElem?_cons_zero, List.getElem?_cons_succ, Option.some.injEq, V.int.injEq, V.bl.injEq, V.ref.injEq, List.cons.injEq, exists_eq_left, exists_eq_left', exists_and_left, exists_const, and_true, true_and, decide_eq_true_eq, Bool.not_eq_true', decide_eq_false_iff_not, Bool.true_eq_false, Bool.false_eq_true, if_true, if_false])))
local macro_rules|`(tactic| walk_at "v") => `(tactic| (intro _ _ _ _ h;first|(cases h;(have q := ‹_ = _ /\ _›);rw [q.1];rfl)|((repeat (obtain ⟨_, h⟩ := h));subst_vars;rfl)))
local macro_rules|`(tactic| walk_at "s") => `(tactic| simp only [L2.start, List.map_cons, List.map_nil, List.length_cons, List.length_nil, Nat.reduceAdd, Nat.reduceSub, List.replicate_succ, List.replicate_zero, List.cons_append, List.nil_append])
set_option genSizeOf false in
set_option genInjectivity false in
structure Txt(K:hO)(mg:hU) where
 TollError:Addr
 Yg:mg "TollError"=some (.ref TollError)
 BadWeb:Addr
 aaK:mg "BadWeb"=some (.ref BadWeb)
 NoPlace:Addr
 TX:mg "NoPlace"=some (.ref NoPlace)
 NoRoad:Addr
 Wx:mg "NoRoad"=some (.ref NoRoad)
 BadLaying:Addr
 S8:mg "BadLaying"=some (.ref BadLaying)
 BadWish:Addr
 S3:mg "BadWish"=some (.ref BadWish)
 NoWorst:Addr
 TY:mg "NoWorst"=some (.ref NoWorst)
 NoDeed:Addr
 Wy:mg "NoDeed"=some (.ref NoDeed)
 BadStep:Addr
 VE:mg "BadStep"=some (.ref BadStep)
 BadText:Addr
 VF:mg "BadText"=some (.ref BadText)
 Web:Addr
 Yh:mg "Web"=some (.ref Web)
 Outlook:Addr
 VG:mg "Outlook"=some (.ref Outlook)
 Tally:Addr
 XE:mg "Tally"=some (.ref Tally)
 Desk:Addr
 Ze:mg "Desk"=some (.ref Desk)
 Yi:aaA K TollError
 aaL:Ta K TollError BadWeb
 VH:Ta K TollError NoPlace
 VI:BM K NoPlace
 aaM:Ta K TollError NoRoad
 Wz:BM K NoRoad
 UL:Ta K TollError BadLaying
 UM:BM K BadLaying
 VJ:Ta K TollError BadWish
 TZ:BM K BadWish
 Χ:Ta K TollError NoWorst
 VL:BM K NoWorst
 WB:Ta K TollError NoDeed
 VM:Ta K TollError BadStep
 VN:Ta K TollError BadText
 Vr:[TollError,BadWeb,NoPlace,NoRoad,BadLaying,BadWish,NoWorst,NoDeed,BadStep,BadText].Nodup
 range:mg "range"=none
 zip:mg "zip"=none
 len:mg "len"=none
 isinstance:mg "isinstance"=none
 all:mg "all"=none
 int:mg "int"=none
 tuple:mg "tuple"=none
 list:mg "list"=none
 reversed:mg "reversed"=none
 sorted:mg "sorted"=none
 min:mg "min"=none
 max:mg "max"=none
 enumerate:mg "enumerate"=none
 sum:mg "sum"=none
 str:mg "str"=none
 set:mg "set"=none
 TK:∃t,mg "MOST_PLACES"=some (.int 24 t)
 Uk:∃t,mg "LEAST_TOLL"=some (.int 2 t)
 UN:∃t,mg "MOST_TOLL"=some (.int 1000000 t)
 VO:∃t,mg "FIGURES"=some (.str "0123456789" t)
 TC:∃t,mg "MOST_FIGURES"=some (.int 60 t)
 Ul:∃t,mg "PIECE"=some (.int 1000000000000000000 t)
 Te:∃t,mg "PIECE_FIGURES"=some (.int 18 t)
 DEEDS:Addr
 XF:mg "DEEDS"=some (.ref DEEDS)
 XG:Y8 K DEEDS [.str "put",.str "want",.str "step",.str "back"]
 NUMBERS_BEHIND:Addr
 ϥ:mg "NUMBERS_BEHIND"=some (.ref NUMBERS_BEHIND)
 Ε:UT K Web
 Λ:Ι K Web "many"
 Tq:Ι K Web "roads"
 υ:UT K Outlook
 Υ:Ι K Outlook "web"
 zC:Ι K Outlook "needs"
 ϝ:Ι K Outlook "kids"
 Vd:Ι K Outlook "idle"
 Η:UT K Tally
 ϡ:Ι K Tally "web"
 MZ:Ι K Tally "down"
 T3:Ι K Tally "weights"
 yi:Ι K Tally "bearers"
 Bv:Ι K Tally "kids"
 Um:Ι K Tally "rests"
 η:UT K Desk
 χ:Ι K Desk "web"
 S4:Ι K Desk "past"
section
variable{P:Program}{w:World}{K:hO}{L:hU}{base:Heap}{CX:Th}
def uL(T:Txt K L):Sp:=λb H Q _=>E3 λ(m:Int)(t:Addr)(a:List V)=>b=[.int m,.ref t]/\Α K H t a/\1<=m/\m<=24/\(a.length:Int)=m-1/\Q .ξ H
abbrev pb:Stmt:=top 20
def Cj:ε ["many","roads"] ["many","roads"] (aA pb):=.of
def mV:Ψ (aA pb) "MOST_PLACES":=.of
def Cw(T:Txt K L)(j:bI (τ P w)):Ok P w K L base "check_counts" pb ["many","roads"] 1 (uL T):=λ_ _ D=>by
 refine D.F.Ο Cj λi A a s H f Q E n h=>?_;obtain⟨m,t,e,rfl,b,c,l,o,k⟩:=h;refine⟨_,(aw (bU (nM (BG wV wV aD (γ 0) (oU mV.g T.TK (hd:=mV.d)))) (ay kW) bE) (ay (bU (Ν pj (TB gP T.len (aa (γ 1) ap)) (aX jp (γ 0) aD)) (ay kW) bE))),?_⟩;walk_at "t";rw[aj c,ah (by lia)];exact⟨e,.inr b,by rw[ah (by lia)];exact k⟩
def AJ(T:Txt K L):Sp:=λa H Q _=>∃m n:Int,a=[.int m,.int n]/\Q (.bl (decide (0<=n)&&decide (n<m))) H
abbrev wH:Stmt:=top 19
def IY:ε ["many","number"] ["many","number"] (aA wH):=.of
def Ix(T:Txt K L)(f:bI (τ P w)):Ok P w K L base "is_place" wH ["many","number"] 1 (AJ T):=λ_ _ D=>by
 refine D.F.Ο IY λb A a s H d Q E e h=>?_;obtain⟨m,n,rfl,k⟩:=h;refine⟨_,(ay (aY (P5 wV uM aD (γ 1) (γ 0)))),?_⟩;walk_at "t";by_cases c:0<=n
 .simpa[c]using k
 .simpa[c]using k
abbrev wL(P w base)(T:Txt K L):=Cb P w K L base "is_place" wH ["many","number"] 1 (AJ T)
def xM(T:Txt K L):Sp:=λc H Q _=>E3 λ(m:Int)(p:Addr)(r:Road)=>c=[.int m,.ref p]/\H p=some (.tup (tm r))/\0<=r.a/\r.a<m/\0<=r.b/\r.b<m/\r.a≠r.b/\Q .ξ H
abbrev tX:Stmt:=top 21
def FA:ε ["many","road"] ["many","road"] (aA tX):=.of
def FU(T:Txt K L)(e:bI (τ P w))(f:wL P w base T):Ok P w K L base "check_ends" tX ["many","road"] 2 (xM T):=λ_ _ D=>by
 refine D.F.Ο FA λq A d s H o Q E g h=>?_;obtain⟨m,p,r,rfl,c,n,l,i,j,ne,k⟩:=h;refine⟨_,(aw (bU (PW.pt (zy (nM (lL (Θ f g e (aa (γ 0) (aa (ψ eM (γ 1) aD) ap))))) (CQ (nM (lL (Θ f g e (aa (γ 0) (aa (ψ eM (γ 1) aD) ap)))))))) (ay kW) bE) (ay (bU (Ν cN (ψ eM (γ 1) aD) (ψ eM (γ 1) aD)) (ay kW) bE))),?_⟩;walk_at "t";refine Tv c rfl ⟨m,r.a,rfl,_,rfl,?_⟩;rw[ah (by simp[n,l])];refine Tv c rfl ⟨m,r.b,rfl,_,rfl,?_⟩;rw[ah (by simp[i,j])];refine Tv c rfl (Tv c rfl ⟨rfl,?_⟩);rw[ah (by simpa using ne)];exact k
def xO(T:Txt K L):Sp:=λd H Q _=>E4 λ(t:Addr)(c:hR)(b:ix)(n:Int)=>d=[.ref t,.int n]/\Α K H t (c.map V.ref)/\ν H c b/\b.length<=1000/\∀l a,H l=none->δ H a->a l=some (.lst ((gN b n).map V.int))->Q (.ref l) a
abbrev tY:Stmt:=top 24
def FJ:ε ["roads","place","ends","road"] ["roads","place"] (aA tY):=.of
def FF(T:Txt K L)(Z:bI (τ P w)):Ok P w K L base "other_ends" tY ["roads","place"] 1 (xO T):=λ_ _ D=>by
 refine D.F.Ο FJ λY A G s H X Q E hr h=>?_;obtain⟨t,O,c,n,rfl,I,M,hl,k⟩:=h;refine⟨_,(aw (Κ 2 (eK ap)) (aw (gf PassesOwn.never rfl (y0 (γ 0)) (ϊ 3) (aw (bU (Ν cN (ψ eM (γ 3) aD) (γ 1)) (ay (cI (TV (γ 2) (ψ eM (γ 3) aD)))) bE) (ay (bU (Ν cN (ψ eM (γ 3) aD) (γ 1)) (ay (cI (TV (γ 2) (ψ eM (γ 3) aD)))) bE)))) (ay (aY (γ 2))))),?_⟩;walk_at "t";refine⟨by decide,λl m=>?_⟩;have j:O.length=c.length:=Paired.length M;refine⟨⟨_,δ.tup (δ.new _ m) I⟩,En (xs:=O.map V.ref) (λi q y=>y=upd H l (.lst ((gN (c.take i) n).map V.int))/\∃v,q=[some (.ref t),some (.int n),some (.ref l),v]) ⟨rfl,_,rfl⟩ (λi q y _ z=>by rw[z.1];exact δ.tup (δ.new _ m) I) ?_ ?_⟩
 .rintro i x q y hi ⟨rfl,v,rfl⟩;obtain⟨p,r,rfl,W,N,J⟩:=M.get hi;have R:p≠l:=cD J m;have S:i<c.length:=(ax.mp N).1;have B:c.take (i+1)=c.take i++[r]:=by rw[bg,N];rfl
  have U:(gN (c.take i) n).length<=2000:=aW (HB _ _) (by rw[bq];lia);have f:∀o,upd H l o p=some (.tup (tm r)):=λo=>by rw[aM R];exact J
  walk_at "";refine Tv (f _) rfl ?_;walk_at "";have d:∀(C:fc),(gN (c.take i) n++C)=gN (c.take (i+1)) n->upd H l (.lst ((gN (c.take i) n).map V.int++C.map V.int))=upd H l (.lst ((gN (c.take (i+1)) n).map V.int)):=λC e=>by
   rw[<-aq,e]
  have u:uQ n r=(if r.a=n then[r.b]else[])++(if r.b=n then[r.a]else[]):=rfl;by_cases g:r.a=n
  .rw[aj g];refine⟨S9 au,Tv (f _) rfl (oN au (d8 (by rw[ag];lia)) ?_)⟩;rw[mN];refine Tv (f _) rfl ?_;walk_at "";by_cases cb:r.b=n
   .rw[aj cb];refine⟨S9 au,Tv (f _) rfl (oN au (d8 (by rw[aH,ag];simp;lia)) ?_)⟩;rw[mN,cj];exact⟨d [r.b,r.a] (by rw[B,uW,u,aj g,aj cb];rfl),_,rfl⟩
   .rw[ah cb];exact⟨d [r.b] (by rw[B,uW,u,aj g,ah cb];rfl),_,rfl⟩
  .rw[ah g];refine Tv (f _) rfl ?_;walk_at "";by_cases cb:r.b=n
   .rw[aj cb];refine⟨S9 au,Tv (f _) rfl (oN au (d8 (by rw[ag];lia)) ?_)⟩;rw[mN];exact⟨d [r.a] (by rw[B,uW,u,ah g,aj cb];rfl),_,rfl⟩
   .rw[ah cb];have:=d [] (by rw[B,uW,u,ah g,ah cb];rfl);rw[cH,ck]at this;exact⟨this,_,rfl⟩
 .rintro q y ⟨rfl,v,rfl⟩;rw[ag,j,bC];exact⟨_,rfl,k l _ m (δ.new _ m) au⟩
abbrev yT(P w base)(T:Txt K L):=Cb P w K L base "other_ends" tY ["roads","place"] 1 (xO T)
def pp(a:fc):List (Key×V):=a.map λk=>((Sum.inl k:Key),V.bl true)
def Ey(a:fc):(pp a).length=a.length:=by unfold pp;rw[ag]
def Gs(a:fc)(e:Int):nW (pp a) (Sum.inl e:Key)=if e∈a then some (V.bl true)else none:=by
 unfold pp
 induction a with
 | nil=>rfl
 | cons k a ih=>
   rw[aE];by_cases c:k=e
   .rw[xz (by rw[c]),aj (by rw[c];exact aL)]
   .rw[wF (λz=>c (Sum.inl.inj z)),ih];by_cases d:e∈a
    .rw[aj d,aj (aI _ d)]
    .rw[ah d,ah (λz=>by rcases aF.mp z with z|z;exact c z.symm;exact d z)]
def O6{a:fc}{e:Int}(h:e∉a):n9 (pp a) (Sum.inl e:Key) (V.bl true)=pp (a++[e]):=by
 rw[NO _ (by rw[Gs,ah h])];unfold pp;rw[aq]
 rfl
def u9(T:Txt K L):Sp:=λd H Q _=>E4 λ(m:Int)(t:Addr)(c:hR)(b:ix)=>d=[.int m,.ref t]/\Α K H t (c.map V.ref)/\ν H c b/\Good m b/\∀a,δ H a->Q .ξ a
abbrev rj:Stmt:=top 23
def CU:ε ["many","roads","reached","waiting","place","end"] ["many","roads"] (aA rj):=.of
def CL(T:Txt K L)(hq:bI (τ P w))(mO:yT P w base T):Ok P w K L base "check_joined" rj ["many","roads"] 2 (u9 T):=λ_ _ D=>by
 refine D.F.Ο CU λο A ab s H vs Q E hr h=>?_;obtain⟨m,t,ps,j,rfl,ht,hp,g,k⟩:=h;have hu:=Sv hr;refine⟨_,(aw (Κ 2 (Q6 (Om aD zh Rc) rfl rfl (List.cons_ne_nil _ _) (by decide))) (aw (Κ 3 (eK (aa aD ap))) (aw (t9 PassesOwn.never (wQ (γ 3) (λ_=>rfl)) (aw (Κ 4 (x9 dv PySem.F.slot_list_pop PySem.F.type_list_pop x6 (γ 3))) (ay (gf PassesOwn.never rfl (iB (Θ mO hr hq (aa (γ 1) (aa (γ 4) ap)))) (ϊ 5) (ay (bU (Dn (LV hu (γ 5) (γ 2))) (aw (QY hu (γ 2) (γ 5) zh rfl) (ay (cI (TV (γ 3) (γ 5))))) bE)))))) (ay (bU (Ν pj (TB Mo T.len (aa (γ 2) ap)) (γ 0)) (ay kW) bE))))),?_⟩;walk_at "s";have m1:=g.m1;have Ζ:=g.Ζ;have bt:=g.len;walk_at "";intro d hd;refine⟨au,[(Sum.inl 0,.bl true)],rfl,by decide,?_⟩;rw[mN];refine⟨by decide,λf O=>?_⟩;have ed:wD [] [((Sum.inl 0:Key),V.bl true)]=pp [0]:=rfl;rw[ed];have r:f≠d:=λz=>by rw[z,au]at O;cases O
 have R:H f=none:=by rw[aM r]at O;exact O
 refine Ej (λn G S=>E4 λ(B N:fc)(v4 I:Option V)=>n=2*(m.toNat-B.length)+N.length/\G=[some (.int m),some (.ref t),some (.ref d),some (.ref f),v4,I]/\δ H S/\S d=some (.dK (pp B))/\S f=some (.lst (N.map V.int))/\UI m j B N) _ ⟨[0],[0],none,none,rfl,rfl,?_,?_,au,UI.start m1⟩ ?_
 .exact δ.trans (δ.new _ hd) (δ.new _ O)
 .rw[aM r.symm,au]
 rintro n G S NW hN Vk ⟨B,N,v4,I,rfl,rfl,sm,h1,U,J⟩;have kl:=iL (by lia) J.nd J.ϓ;refine⟨_,rfl,!(N.map V.int).isEmpty,.inl ⟨_,ι.of U,rfl⟩,?_⟩;rcases fG N with rfl|⟨a,p,rfl⟩
 .-- nothing aik: all places have a5 reached
  have am:=J.all m1 g.jn;refine R7 ?_;walk_at "";refine⟨pp B,h1,?_⟩;rw[Ey,ah (by lia)];exact k _ sm
 .rw[fK]at J U hN Vk ⊢;have e1:(!(List.map V.int (a++[p])).isEmpty)=true:=by simp
  rw[e1];refine Sc ⟨NW,Vk,?_⟩;walk_at "";rw[aq,aE,cH]at U;refine⟨S9 U,PM U ?_⟩;have Zf:d≠f:=r.symm;have v:δ H (upd S f (.lst (a.map V.int))):=λb o e=>by rw[aM (cD e R)];exact sm b o e
  refine⟨t,ps,j,p,rfl,δ.tup v ht,ν.same v hp,by lia,λl H3 Z s3 hl=>?_⟩;have X:f≠l:=cD (o:=.lst (a.map V.int)) au Z;have ac:d≠l:=cD (o:=.dK (pp B)) (by rw[aM Zf];exact h1) Z;have a4:H l=none:=v.free Z;refine⟨l,rfl,⟨_,ι.of hl⟩,uV (K:=K) (xs:=(gN j p).map V.int) (λi G y=>∃(I:Option V),G=[some (.int m),some (.ref t),some (.ref d),some (.ref f),some (.int p),I]/\δ H y/\y l=some (.lst ((gN j p).map V.int))/\∃u C:List Int,y d=some (.dK (pp u))/\y f=some (.lst (C.map V.int))/\Ue m j p ((gN j p).take i) u C B a.length) ?_ (λi G y _ z=>by obtain⟨_,_,_,z,_⟩:=z;exact ι.of z) ?_ ?_⟩
  .refine⟨_,rfl,v.trans s3,hl,B,a,?_,?_,?_⟩
   .exact s3 _ _ (by rw[aM Zf];exact h1)
   .exact s3 _ _ au
   .rw[dU];exact Ue.start J
  .rintro i x G y NI hI hi ⟨I,rfl,s4,hl4,u,C,hd4,hw4,M⟩;rw[aN]at hi;obtain⟨e,he,rfl⟩:∃e,(gN j p)[i]?=some e/\V.int e=x:=by
    cases q:(gN j p)[i]? with
    | none=>rw[q]at hi;cases hi
    | some e=>rw[q]at hi;exact⟨e,rfl,bF hi⟩
   have er:=OZ g.ok (aP he);have et:(gN j p).take (i+1)=(gN j p).take i++[e]:=(by rw[bg,he];rfl);have st:=M.step er.1 er.2;have k4:=iL (by lia) M.nd M.ϓ;have Y:=M.mu;walk_at "";refine⟨_,Wg.k (k:=Sum.inl e) hd4,?_⟩;rw[Gs];by_cases c:e∈u
   .rw[aj c];rw[ah (by simp)];refine hI _ _ ⟨_,rfl,s4,hl4,u,C,hd4,hw4,?_⟩;rw[et];unfold CV at st;rw[aj c]at st;exact st
   .rw[ah c];rw[aj (by simp)];refine⟨_,Wh.k (k:=Sum.inl e) hd4 (d8 (by rw[Ey];lia)),?_⟩;rw[O6 c];have W:upd y d (.dK (pp (u++[e]))) f=some (.lst (C.map V.int)):=(by rw[aM r];exact hw4);refine⟨S9 W,oN W (d8 (by rw[ag];have:=M.wl;lia)) ?_⟩;have a8:=M.mu;refine hI _ _ ⟨_,rfl,λb o z=>?_,?_,u++[e],C++[e],?_,?_,?_⟩
    .rw[aM (cD z R),aM (cD z hd)];exact s4 b o z
    .rw[aM X.symm,aM ac.symm];exact hl4
    .rw[aM Zf,au]
    .rw[au,aq];rfl
    .rw[et];unfold CV at st;rw[ah c]at st;exact st
  .rintro G y ⟨I,rfl,s4,hl4,u,C,hd4,hw4,M⟩;rw[ag,bC]at M;have k4:=iL (by lia) M.nd M.ϓ;have Y:=M.mu;have bs:=M.up;refine hN _ _ _ ?_ ⟨u,C,some (.int p),I,rfl,rfl,s4,hd4,hw4,M.done⟩;rw[aH];simp only[aO,dA]
   lia
def wv(T:Txt K L):Sp:=λb H Q _=>∃(p:Addr)(r:Road),b=[.ref p]/\H p=some (.tup (tm r))/\2<=r.t/\r.t<=1000000/\2<=r.u/\r.u<=1000000/\∀a,δ H a->Q .ξ a
abbrev nJ:Stmt:=top 22
def DY:ε ["road","number"] ["road"] (aA nJ):=.of
def oG:Ψ (aA nJ) "LEAST_TOLL":=.of
def oX:Ψ (aA nJ) "MOST_TOLL":=.of
def DG(T:Txt K L)(M:bI (τ P w)):Ok P w K L base "check_tolls" nJ ["road"] 1 (wv T):=λ_ _ D=>by
 refine D.F.Ο DY λJ A c s H G Q E N h=>?_;obtain⟨p,r,rfl,f,y,m,o,B,k⟩:=h;refine⟨_,(ay (gf PassesOwn.never rfl (y0 (hV (aa (ψ eM (γ 0) aD) (aa (ψ eM (γ 0) aD) ap)))) (ϊ 1) (ay (bU (nM (BG wV wV (oU oG.g T.Uk (hd:=oG.d)) (γ 1) (oU oX.g T.UN (hd:=oX.d)))) (ay kW) bE)))),?_⟩;walk_at "t";refine Tv f rfl (Tv f rfl ⟨bX (by simp),λq C=>?_⟩);have e:upd H q (.tup [.int r.t,.int r.u]) q=some (.tup [.int r.t,.int r.u]):=au;refine⟨⟨_,Α.of e⟩,En (K:=K) (xs:=[.int r.t,.int r.u]) (λi a b=>b=upd H q (.tup [.int r.t,.int r.u])/\∃v,a=[some (.ref p),v]) ⟨rfl,_,rfl⟩ (λi a b _ z=>by rw[z.1];exact Α.of e) ?_ ?_⟩
 .rintro i x a b hi ⟨rfl,v,rfl⟩;have j:∃n:Int,x=.int n/\2<=n/\n<=1000000:=by
   match i,hi with
   | 0,hi=>exact⟨r.t,by simpa using hi.symm,y,m⟩
   | 1,hi=>exact⟨r.u,by simpa using hi.symm,o,B⟩
  obtain⟨n,rfl,l,I⟩:=j;walk_at "";rw[aj l,ah (by lia)];exact⟨_,rfl⟩
 .rintro a b ⟨rfl,v,rfl⟩;exact k _ (δ.new _ C)
def C8(m:Int)(t:Addr):List (Str×V):=bp "roads" (.ref t) (bp "many" (.int m) [])
def Sw:¬(("many":Str)="roads"):=by decide +kernel
def eT(m:Int)(t:Addr):(C8 m t).lookup ("many":Str)=some (.int m):=by
 unfold C8;rw[bR,ah Sw,bR,aj rfl]
def vJ(m:Int)(t:Addr):(C8 m t).lookup ("roads":Str)=some (.ref t):=by
 unfold C8;rw[bR,aj rfl]
structure θ(C:Addr)(H:Hp)(p:Addr)(m:Int)(t:Addr)(ps:hR)(rs:ix):Prop where
 ob:∃dx,H p=some (.ins C dx (C8 m t))
 tu:H t=some (.tup (ps.map V.ref))
 ro:ν H ps rs
 go:Good m rs
def θ.same{C:Addr}{H a:Hp}{p:Addr}{m:Int}{t:Addr}{c:hR}{b:ix}(e:δ H a)(h:θ C H p m t c b):θ C a p m t c b:=⟨let ⟨dx,q⟩:=h.ob;⟨dx,e _ _ q⟩,e _ _ h.tu,ν.same e h.ro,h.go⟩
def qF(T:Txt K L):Sp:=λh H Q _=>E7 λ(p g:Addr)(m:Int)(c:Bool)(a:Addr)(e:hR)(f:ix)=>h=[.ref p,.int m,.ref a]/\H p=some (.ins T.Web g [])/\Ω K c H a (e.map V.ref)/\ν H e f/\Good m f/\∀t d,H t=none->θ T.Web d p m t e f->(∀b o,H b=some o->b≠p->d b=some o)->Q .ξ d
abbrev rJ:Stmt:=kM (top 15) 0
def C3:ε ["self","many","roads","kept","road"] ["self","many","roads"] (aA rJ):=.of
def Cf(T:Txt K L)(u:bI (τ P w))(rh:Cb P w K L base "check_counts" pb ["many","roads"] 1 (uL T))(tT:Cb P w K L base "check_ends" tX ["many","road"] 2 (xM T))(rQ:Cb P w K L base "check_joined" rj ["many","roads"] 2 (u9 T))(sK:Cb P w K L base "check_tolls" nJ ["road"] 1 (wv T)):Vq P w K L base "__init__" "Web.__init__" rJ ["self","many","roads"] 3 (qF T):=λ_ _ F=>by
 refine F.Ο C3 λο A Z s H vs Q E O h=>?_;obtain⟨p,Y,m,c,a,d,rs,rfl,X,ha,f,g,k⟩:=h;refine⟨_,(aw (Κ 3 (iO gi T.tuple (aa (gG rfl (l9 (Nc:=["road"]) 1 (by decide +kernel) (by decide +kernel) rfl (by decide +kernel) rfl) (wu c (γ 2)) (λ_ _ _ _=>(d6 (i:=0) (show(["road"]:hX).Nodup from by decide +kernel) rfl (Or.inl rfl))) (λ_ _ _ _=>gj) (λ_ _ _ _=>(y6 (Ev K rfl) (by rfl) T.tuple PB (aa (pv 0) ap)))) ap))) (aw (cI (Θ rh O u (aa (γ 1) (aa (γ 3) ap)))) (aw (gf PassesOwn.never rfl (y0 (γ 3)) (ϊ 4) (aw (cI (Θ tT O u (aa (γ 1) (aa (γ 4) ap)))) (ay (cI (Θ sK O u (aa (γ 4) ap)))))) (aw (cI (Θ rQ O u (aa (γ 1) (aa (γ 3) ap)))) (aw (lO (γ 0) (γ 1) rfl) (ay (lO (γ 0) (γ 3) rfl))))))),?_⟩;walk_at "t";refine⟨⟨_,ha⟩,λl R=>?_⟩;have ai:d.length=rs.length:=Paired.length f;have a4:=g.len;have Ζ:=g.Ζ;have a3:δ H (upd H l (.lst [])):=δ.new _ R;refine me (K:=K) (xs:=d.map V.ref) (λi J j M=>M=upd H l (.lst ((d.take i).map V.ref))/\J=(d.take i).map V.ref/\∃v,j=[v]) ⟨rfl,rfl,_,rfl⟩ (λi J j M _ ⟨z,_⟩=>by rw[z];exact δ.ϫ (δ.new _ R) ha) ?_ ?_
 .rintro i x J j M N hN hi ⟨rfl,rfl,v,rfl⟩;obtain⟨q,r,rfl,S,h2,C⟩:=f.get hi;have nq:q≠l:=cD C R;have Tt:i<d.length:=(ax.mp S).1;have et:d.take (i+1)=d.take i++[q]:=by rw[bg,S];rfl
  walk_at "";refine⟨tm r,.inr ⟨Α.of (by rw[aM nq];exact C),au,d8 (by rw[ag,bq];lia),hN _ _ _ ⟨?_,?_,_,rfl⟩⟩⟩
  .rw[mN,et,aq];rfl
  .rw[et,aq];rfl
 .rintro J j M ⟨rfl,rfl,v,rfl⟩;rw[ag,bC];refine⟨l,rfl,d.map V.ref,.inl ⟨ι.of au,λt ht=>?_⟩⟩;have U:δ H (upd H l (.lst (d.map V.ref))):=δ.new _ R;have s2:δ (upd H l (.lst (d.map V.ref))) (upd (upd H l (.lst (d.map V.ref))) t (.tup (d.map V.ref))):=δ.new _ ht;have B:H t=none:=U.free ht;have y:∀{H':Hp},δ (upd (upd H l (.lst (d.map V.ref))) t (.tup (d.map V.ref))) H'->H' t=some (.tup (d.map V.ref)):=λe=>e _ _ au;refine⟨m,t,d.map V.ref,rfl,Α.of au,g.m1,g.Ζ,by rw[ag];lia,⟨_,Α.of au⟩,?_⟩;refine G5 (K:=K) (xs:=d.map V.ref) (λi j G=>δ (upd (upd H l (.lst (d.map V.ref))) t (.tup (d.map V.ref))) G/\∃v,j=[some (.ref p),some (.int m),some (.ref a),some (.ref t),v]) ⟨δ.refl _,_,rfl⟩ (λi j G _ ⟨z,_⟩=>Α.of (y z)) ?_ ?_
  .rintro i x j G N hN hi ⟨s3,v,rfl⟩;have D:=U.trans (s2.trans s3);obtain⟨q,r,rfl,S,h2,C⟩:=f.get hi;have ok:=g.ok r (aP h2);walk_at "";refine⟨m,q,r,rfl,D _ _ C,ok.a0,ok.a1,ok.b0,ok.b1,ok.ne,?_⟩;exact⟨q,r,rfl,D _ _ C,ok.t0,ok.t1,ok.u0,ok.u1,λH4 I=>hN _ _ ⟨s3.trans I,_,rfl⟩⟩
  .rintro j G ⟨s3,v,rfl⟩;have D:=U.trans (s2.trans s3);walk_at "";refine⟨m,t,d,rs,rfl,Α.of (y s3),ν.same D f,g,λH4 I=>?_⟩;have n:=D.trans I;have W:t≠p:=λz=>by rw[z,X]at B;cases B
   refine⟨T.Web,Y,[],n _ _ X,T.Ε,T.Λ,by decide,?_⟩;refine⟨T.Web,Y,_,au,T.Ε,T.Tq,by show 1<1000;decide,?_⟩;rw[mN];refine k t _ B ⟨⟨Y,au⟩,?_,?_,g⟩ λb o hb nb=>?_
   .rw[aM W];exact y (s3.trans I)
   .refine Paired.imp' (λq r u=>?_) f;rw[aM (cZ u X (by nofun))];exact n _ _ u
   .rw[aM nb];exact n _ _ hb
def Mu(T:Txt K L){H:Hp}{m:Int}{c:Bool}{a:Addr}{j:hR}{h:ix}{Q:Addr->Hp->Prop}(y:Ω K c H a (j.map V.ref))(u:ν H j h)(g:Good m h)(k:∀x t f,H x=none->H t=none->δ H f->θ T.Web f x m t j h->Q x f):∀x d,H x=none->H d=none->d≠x->qF T [.ref x,.int m,.ref a] (upd (upd H d (.own x)) x (.ins T.Web d [])) (λv r=>v=.ξ/\Q x r) E0:=by
 intro x d l p ne;have n:upd H d (.own x) x=none:=by rw[aM ne.symm];exact l
 have i:δ H (upd (upd H d (.own x)) x (.ins T.Web d [])):=(δ.new _ p).trans (δ.new _ n);exact⟨x,d,m,c,a,j,h,rfl,au,δ.ϫ i y,ν.same i u,g,λt f q W s=>⟨rfl,k x t f l (i.free q) (λb o e=>s b o (i b o e) (cD e l)) W⟩⟩
abbrev wa(P w base)(T:Txt K L):=Cm P w K L base (Mk K T.Web) "__init__" "Web.__init__" rJ ["self","many","roads"] 3 (qF T)
def yF(T:Txt K L):Sp:=λa H Q _=>∃(c:Int),a=[.int c]/\∀(p:Addr)(t u:Int),H p=none->2<=t->t<=1000000->2<=u->u<=1000000->Q (.ref p) (upd H p (.tup [.int t,.int u]))
abbrev vf:Stmt:=top 117
def HD:ε ["t","there","back"] ["t"] (aA vf):=.of
def Gc(T:Txt K L)(M:bI (τ P w)):Ok P w K L base "_law_tolls" vf ["t"] 1 (yF T):=λ_ _ D=>by
 refine D.F.Ο HD λJ A i s H I Q E O h=>?_;obtain⟨c,rfl,k⟩:=h;refine⟨_,(aw (Κ 1 (aX gc aD (aX eE (aX eY (γ 0) aD) aD))) (aw (Κ 2 (aX gc aD (aX eE (aX eY (γ 0) aD) aD))) (aw (bU (Ν cN (aX eE (γ 0) aD) aD) (ay (Κ 2 (γ 1))) bE) (aw (bU (PW.pt (tU (Ν cN (aX eE (γ 0) aD) aD) (rB (Ν cN (aX eE (aX eY (γ 0) aD) aD) aD)))) (aw (Κ 1 (aX gc aD (aX eE (aX eY (γ 0) aD) aD))) (ay (Κ 2 (aX gc aD (aX eE (aX eY (aX eY (γ 0) aD) aD) aD))))) bE) (ay (aY (hV (aa (γ 1) (aa (γ 2) ap))))))))),?_⟩;walk_at "s";have d:∀{x n:Int},0<n->n<=999999->2<=2+x%n/\2+x%n<=1000000:=λ{x n} h l=>by
  have:=cM x (lV h);have:=cQ x h
  lia
 refine b9 λN m=>?_;walk_at "";refine⟨⟨by decide,by decide⟩,by decide,m _ _ (b9 λR r=>?_)⟩;have f:=d (x:=c/4) (n:=3) (by decide) (by decide);generalize 2+c/4%3=t at f ⊢;walk_at "";refine⟨⟨by decide,by decide⟩,by decide,r _ _ (b9 λy v=>lJ λA B g e=>?_)⟩;have b:=d (x:=c/12) (n:=3) (by decide) (by decide);generalize 2+c/12%3=u at b ⊢;clear m r;have j:∀u,2<=u/\u<=1000000->y [some (V.int c),some (V.int t),some (V.int u)] H:=λu b=>by
  refine v _ _ (b9 λG z=>lJ λA B g e=>?_);have a:∀{t u:Int},2<=t/\t<=1000000->2<=u/\u<=1000000->G [some (V.int c),some (V.int t),some (V.int u)] H:=λo q=>by
   refine z _ _ ?_;walk_at "";exact⟨bX (by simp),λp C=>k p _ _ C o.1 o.2 q.1 q.2⟩
  walk_at "";refine⟨by decide,?_⟩;split
  .refine⟨⟨by decide,by decide⟩,by decide,?_⟩;split
   .refine g _ _ ?_;walk_at "";exact⟨⟨by decide,by decide⟩,by decide,⟨by decide,by decide⟩,⟨by decide,by decide⟩,by decide,a (d (by decide) (by decide)) (d (by decide) (by decide))⟩
   .exact e _ _ (a f b)
  .exact e _ _ (a f b)
 walk_at "";refine⟨by decide,?_⟩;split
 .refine g _ _ ?_;walk_at "";exact j t f
 .exact e _ _ (j u b)
def sR(a b:Addr):List (Str×V):=bp "past" (.ref b) (bp "web" (.ref a) [])
def yP(a b:Addr):(sR a b).lookup ("web":Str)=some (.ref a):=by
 unfold sR;rw[bR,ah (by decide +kernel),bR,aj rfl]
def qO(b a:Addr):(sR b a).lookup ("past":Str)=some (.ref a):=by
 unfold sR;rw[bR,aj rfl]
def GG{c a:Addr}{m:Str}(d:¬m="past")(b:¬m="web"):(sR c a).lookup m=none:=by
 unfold sR;rw[bR,ah d,bR,ah b]
 rfl
def UO(H:Hp)(q:Addr)(s:List Int×List Int):Prop:=∃a b,H q=some (.tup [.ref a,.ref b])/\H a=some (.tup (s.1.map V.int))/\H b=some (.tup (s.2.map V.int))
structure π(C O:Addr)(H:Hp)(o wb pl:Addr)(m:Int)(t:Addr)(ps:hR)(rs:ix)(ς:List (List Int×List Int)):Prop where
 ob:∃dx,H o=some (.ins O dx (sR wb pl))
 web:θ C H wb m t ps rs
 pa:∃qs:List Addr,H pl=some (.lst (qs.map V.ref))/\Paired (UO H) qs ς
def π.same{C O:Addr}{H i:Hp}{o c d:Addr}{m:Int}{t:Addr}{j:hR}{f:ix}{g:List (List Int×List Int)}(e:δ H i)(h:π C O H o c d m t j f g):π C O i o c d m t j f g:=⟨let ⟨dx,q⟩:=h.ob;⟨dx,e _ _ q⟩,h.web.same e,let ⟨qs,h1,h2⟩:=h.pa;⟨qs,e _ _ h1,Paired.imp' (λq s ⟨a,b,x,y,z⟩=>⟨a,b,e _ _ x,e _ _ y,e _ _ z⟩) h2⟩⟩
def UO.UW{H d:Hp}{l q:Addr}{s:List Int×List Int}{f:List V}(e:Ϙ l H d)(c:H l=some (.lst f))(h:UO H q s):UO d q s:=by
 obtain⟨a,b,x,y,z⟩:=h;exact⟨a,b,e _ _ x (cZ x c (by nofun)),e _ _ y (cZ y c (by nofun)),e _ _ z (cZ z c (by nofun))⟩
def θ.WC{C:Addr}{H b:Hp}{l p:Addr}{m:Int}{t:Addr}{d:hR}{c:ix}{f:List V}(e:Ϙ l H b)(a:H l=some (.lst f))(h:θ C H p m t d c):θ C b p m t d c:=⟨let ⟨dx,q⟩:=h.ob;⟨dx,e _ _ q (cZ q a (by nofun))⟩,e _ _ h.tu (cZ h.tu a (by nofun)),Paired.imp' (λq x z=>e _ _ z (cZ z a (by nofun))) h.ro,h.go⟩
def θ.Zg{C O:Addr}{H d:Hp}{o p:Addr}{m:Int}{t a:Addr}{f:hR}{c:ix}{g:List (Str×V)}(e:Ϙ o H d)(b:H o=some (.ins O a g))(h:θ C H p m t f c)(n:p≠o:=by assumption):θ C d p m t f c:=⟨let ⟨a,q⟩:=h.ob;⟨a,e _ _ q n⟩,e _ _ h.tu (cZ h.tu b (by nofun)),Paired.imp' (λq x z=>e _ _ z (cZ z b (by nofun))) h.ro,h.go⟩
def π.UW{C O:Addr}{H g:Hp}{o c a l:Addr}{m:Int}{t:Addr}{i:hR}{d:ix}{f:List (List Int×List Int)}{j:List V}(e:Ϙ l H g)(b:H l=some (.lst j))(n:a≠l)(h:π C O H o c a m t i d f):π C O g o c a m t i d f:=⟨let ⟨dx,q⟩:=h.ob;⟨dx,e _ _ q (cZ q b (by nofun))⟩,h.web.WC e b,let ⟨qs,h1,h2⟩:=h.pa;⟨qs,e _ _ h1 n,Paired.imp' (λq s x=>x.UW e b) h2⟩⟩
def π.last{C O:Addr}{H:Hp}{o k e:Addr}{m:Int}{t:Addr}{u:hR}{p:ix}{f:List (List Int×List Int)}{s:List Int×List Int}(h:π C O H o k e m t u p (f++[s])):E4 λ(c:hR)(q a b:Addr)=>H e=some (.lst ((c++[q]).map V.ref))/\Paired (UO H) c f/\ϳ ((c++[q]).map V.ref) (-1)=some (.ref q)/\H q=some (.tup [.ref a,.ref b])/\H a=some (.tup (s.1.map V.int))/\H b=some (.tup (s.2.map V.int)):=by
 obtain⟨c,g,r⟩:=h.pa;obtain⟨d,q,rfl,i,a,b,j,l,n⟩:=tf r;refine⟨d,q,a,b,g,i,?_,j,l,n⟩;rw[aq];exact Er _ _
def π.Τ{C O:Addr}{H:Hp}{o c d:Addr}{m:Int}{t:Addr}{i:hR}{e:ix}{f:List (List Int×List Int)}(h:π C O H o c d m t i e f){mt:Str}{R:Prop}(q:R)(b:¬mt="past":=by decide +kernel)(g:¬mt="web":=by decide +kernel):∃x a,H o=some (.ins O x a)/\a.lookup mt=none/\R:=let ⟨dx,ob⟩:=h.ob;⟨dx,_,ob,GG b g,q⟩
def π.V3{C O:Addr}{H:Hp}{o d f:Addr}{m:Int}{t:Addr}{j:hR}{g:ix}{i:List (List Int×List Int)}(T:UT K O)(e:Ι K O "web")(h:π C O H o d f m t j g i){R:V->Prop}(q:R (.ref d)):∃x c a,H o=some (.ins x c a)/\UT K x/\Ι K x "web"/\∃b,a.lookup ("web":Str)=some b/\R b:=let ⟨dx,ob⟩:=h.ob;⟨O,dx,_,ob,T,e,_,yP _ _,q⟩
def qb(T:Txt K L):Sp:=λh H Q _=>E7 λ(o f w t:Addr)(m:Int)(e:hR)(d:ix)=>h=[.ref o,.ref w]/\H o=some (.ins T.Desk f [])/\θ T.Web H w m t e d/\∀i c g a,H c=none->π T.Web T.Desk a o i c m g e d [(aC m,aC m)]->(∀b x,H b=some x->b≠o->a b=some x)->Q .ξ a
abbrev oA:Stmt:=kM (top 107) 0
def AK:ε ["self","web","noughts"] ["self","web"] (aA oA):=.of
def qv:Ψ (aA oA) "Web":=.of
def Bz(T:Txt K L)(hq:bI (τ P w))(Y:wa P w base T):Vq P w K L base "__init__" "Desk.__init__" oA ["self","web"] 5 (qb T):=λ_ _ F=>by
 refine F.Ο AK λο A U s H vs Q E hr h=>?_;obtain⟨o,f,w,t,m,ps,rs,rfl,X,W,k⟩:=h;have g:=W.go;have Ζ:=g.Ζ;have m1:=g.m1;obtain⟨dw,wb⟩:=W.ob;refine⟨_,(aw (lO (γ 0) (vX Y.M Y.G (hr.mono (by decide)) qv.g T.Yh Y.b .nil (d7 hq) (aa (cu (γ 1) rfl) (aa (cu (γ 1) rfl) ap)) (hdb:=qv.d)) rfl) (aw (Κ 2 (iO gi T.tuple (aa (aX oO (eK (aa aD ap)) (cu (γ 1) rfl)) ap))) (ay (lO (γ 0) (eK (aa (hV (aa (γ 2) (aa (γ 2) ap))) ap)) rfl)))),?_⟩;walk_at "t";refine⟨T.Web,dw,_,wb,T.Ε,T.Λ,_,eT _ _,T.Web,dw,_,wb,T.Ε,T.Tq,_,vJ _ _,?_⟩;refine Mu T (c:=false) (Α.of W.tu) W.ro g λx tw j hx bS J W1=>?_;have r:=J _ _ X;have bt:x≠o:=λz=>by rw[z,X]at hx;cases hx
 have br:w≠o:=cZ wb X (by
  intro z;injection z with _ _ z
  have:=eT m t;rw[z]at this;cases this)
 refine⟨T.Desk,f,[],r,T.η,T.χ,by decide,by decide,λZ n1=>?_⟩;have k1:Ϙ o H (upd j o (.ins T.Desk f (bp "web" (.ref x) []))):=(Ϙ.refl.then J).put _;have O:upd j o (.ins T.Desk f (bp "web" (.ref x) [])) o=some (.ins T.Desk f (bp "web" (.ref x) [])):=au;have I:Ϙ o j (upd j o (.ins T.Desk f (bp "web" (.ref x) []))):=Ϙ.refl.put _;have kn:∀{p:Addr},upd j o (.ins T.Desk f (bp "web" (.ref x) [])) p=none->j p=none:=λ{p} h=>by
  cases e:j p with
  | none=>rfl
  | some y=>
    by_cases z:p=o
    .rw[z,O]at h;cases h
    .rw[I p y e z]at h;cases h
 have W2:θ T.Web (upd j o (.ins T.Desk f (bp "web" (.ref x) []))) x m tw ps rs:=W1.Zg I r;have B:θ T.Web (upd j o (.ins T.Desk f (bp "web" (.ref x) []))) w m t ps rs:=(W.same J).Zg I r;generalize upd j o (.ins T.Desk f (bp "web" (.ref x) []))=H2 at k1 O I kn W2 B n1 ⊢;obtain⟨S,R⟩:=B.ob;have v1:=δ.new (.lst [V.int 0]) n1;refine⟨T.Web,S,_,v1 _ _ R,T.Ε,T.Λ,_,eT _ _,?_⟩;refine⟨Z,m,[V.int 0],rfl,rfl,au,by lia,by lia,bX (by simp;lia),λD n2=>?_⟩;rw[rm,<-DV];have v2:=v1.trans (δ.new (.lst ((aC m).map V.int)) n2);have e2:upd (upd H2 Z (.lst [V.int 0])) D (.lst ((aC m).map V.int)) D=some (.lst ((aC m).map V.int)):=au;generalize upd (upd H2 Z (.lst [V.int 0])) D (.lst ((aC m).map V.int))=H3 at v2 e2 ⊢;refine⟨D,rfl,_,.inl ⟨ι.of e2,λa n3=>?_⟩⟩;have v3:=v2.trans (δ.new (.tup ((aC m).map V.int)) n3);have e3:upd H3 a (.tup ((aC m).map V.int)) a=some (.tup ((aC m).map V.int)):=au;generalize upd H3 a (.tup ((aC m).map V.int))=H4 at v3 e3 ⊢;refine⟨bX (by simp),λl n4=>⟨bX (by simp),λq n5=>?_⟩⟩;have v4:=v3.trans (δ.new (.tup [V.ref a,V.ref a]) n4);have e4:upd H4 l (.tup [V.ref a,V.ref a]) l=some (.tup [V.ref a,V.ref a]):=au;have C:=δ.new (.tup [V.ref a,V.ref a]) n4 _ _ e3;generalize upd H4 l (.tup [V.ref a,V.ref a])=H5 at v4 e4 C n5 ⊢;have n:=δ.new (.lst [V.ref l]) n5;have N:=v4.trans n;have e5:upd H5 q (.lst [V.ref l]) q=some (.lst [V.ref l]):=au;have ZK:=n _ _ e4;have i:=n _ _ C;have ac:=v4.free n5;generalize upd H5 q (.lst [V.ref l])=H6 at N e5 ZK i ⊢;have v:=N _ _ O;refine⟨T.Desk,f,_,v,T.η,T.S4,by show 1<1000;decide,?_⟩;have u:Ϙ o H6 (upd H6 o (.ins T.Desk f (sR x q))):=Ϙ.refl.put _;have ab:H q=none:=J.free (kn ac);show Q .ξ (upd H6 o (.ins T.Desk f (sR x q)));refine k x q tw _ ab ⟨⟨f,au⟩,(W2.same N).Zg u v,[l],u _ _ e5 (cZ e5 v (by nofun)),.cons ⟨a,a,u _ _ ZK (cZ ZK v (by nofun)),u _ _ i (cZ i v (by nofun)),u _ _ i (cZ i v (by nofun))⟩ .nil⟩ ?_;exact λb x hb nb=>u _ _ (N _ _ (k1 b x hb nb)) nb
def Qq(T:Txt K L){H:Hp}{x p:Addr}{m:Int}{n:hR}{j:ix}{Q:Addr->Hp->Prop}{E:XK}(W:θ T.Web H x m p n j)(k:∀o h d t c,H o=none->H d=none->δ H c->π T.Web T.Desk c o h d m t n j [(aC m,aC m)]->Q o c):∀y a,H y=none->H a=none->a≠y->qb T [.ref y,.ref x] (upd (upd H a (.own y)) y (.ins T.Desk a [])) (λv q=>v=.ξ/\Q y q) E:=by
 intro y a f i ne;have g:upd H a (.own y) y=none:=by rw[aM ne.symm];exact f
 have l:δ H (upd (upd H a (.own y)) y (.ins T.Desk a [])):=(δ.new _ i).trans (δ.new _ g);exact⟨y,a,x,p,m,n,j,rfl,au,W.same l,λh d t c s D r=>⟨rfl,k y h d t c f (l.free s) (λb o e=>r b o (l b o e) (cD e f)) D⟩⟩
def vW(T:Txt K L):Sp:=λa H Q E=>E6 λ(p t:Addr)(m:Int)(c:hR)(b:ix)(n:Int)=>a=[.ref p,.int n]/\θ T.Web H p m t c b/\(0<=n->n<m->Q .ξ H)/\(¬(0<=n/\n<m)->E (.ref T.NoPlace) none H)
abbrev pY:Stmt:=top 18
def DS:ε ["web","number"] ["web","number"] (aA pY):=.of
def pU:Ψ (aA pY) "NoPlace":=.of
def Eh(T:Txt K L)(o:bI (τ P w))(b:wL P w base T):Ok P w K L base "check_place" pY ["web","number"] 2 (vW T):=λ_ _ D=>by
 refine D.F.Ϻ DS λl A a s H j Q E i h=>?_;obtain⟨p,t,m,r,q,n,rfl,W,k,e⟩:=h;obtain⟨f,ob⟩:=W.ob;refine⟨_,(ay (bU (nM (lL (Ξ b i bT (aa (cu (γ 0) rfl) (aa (γ 1) ap))))) (ay (qZ T.VI rfl tK pU.g T.TX (aa bH ap) (hdb:=pU.d))) bE)),?_⟩;walk_at "t";refine⟨T.Web,f,_,ob,T.Ε,T.Λ,_,eT m t,m,n,rfl,_,rfl,?_⟩;by_cases c:0<=n/\n<m
 .rw[ah (by simp[c.1,c.2])];exact k c.1 c.2
 .rw[aj (by simpa[bG]using c)];exact⟨by decide,e c⟩
abbrev lF(P w base)(T:Txt K L):=Cb P w K L base "check_place" pY ["web","number"] 2 (vW T)
def xL(T:Txt K L):Sp:=λd H Q E=>E6 λ(p t:Addr)(m:Int)(e:hR)(c:ix)(a:Int)=>d=[.ref p,.int a]/\θ T.Web H p m t e c/\(∀l b,0<=a->a<m->H l=none->δ H b->b l=some (.lst ((jO m c a).map V.int))->Q (.ref l) b)/\(¬(0<=a/\a<m)->E (.ref T.NoPlace) none H)
abbrev uz:Stmt:=top 17
def FO:ε ["web","a"] ["web","a"] (aA uz):=.of
def Fx(T:Txt K L)(M:bI (τ P w))(u:lF P w base T)(y:yT P w base T):Ok P w K L base "neighbours" uz ["web","a"] 3 (xL T):=λ_ _ D=>by
 refine D.F.Ϻ FO λI A c s H G Q E j h=>?_;obtain⟨p,t,m,n,b,a,rfl,W,k,e⟩:=h;obtain⟨z,ob⟩:=W.ob;refine⟨_,(aw (cI (Ξ u j bT (aa (γ 0) (aa (γ 1) ap)))) (ay (aY (TB IV T.sorted (aa (Ξ y j bT (aa (cu (γ 0) rfl) (aa (γ 1) ap))) ap))))),?_⟩;walk_at "t";refine⟨p,t,m,n,b,a,rfl,W,λl i=>?_,e⟩;have g:(b.length:Int)=m-1:=W.go.len;have Ζ:=W.go.Ζ;refine⟨T.Web,z,_,ob,T.Ε,T.Tq,_,vJ m t,t,n,b,a,rfl,Α.of W.tu,W.ro,by lia,λr J C d v=>?_⟩;refine⟨r,rfl,gN b a,ι.of v,by have:=HB b a;lia,λx B f o q=>?_⟩;rw[Qx W.go l i o q];exact k x _ l i (d.free f) (d.trans (δ.new _ f)) au
abbrev yj(P w base)(T:Txt K L):=Cb P w K L base "neighbours" uz ["web","a"] 3 (xL T)
def JL(T:Txt K L):Sp:=λe H Q _=>E7 λ(p t:Addr)(m:Int)(f:hR)(d:ix)(a:Int)(b:V)=>e=[.ref p,.int a,b]/\θ T.Web H p m t f d/\0<=a/\a<m/\(b=.ξ\/∃i,b=.int i)/\∀l c,H l=none->δ H c->c l=some (.lst ((cG m d b a).map V.int))->Q (.ref l) c
abbrev GM:Stmt:=top 34
def Qs:ε ["web","place","front"] ["web","place","front"] (aA GM):=.of
def Qp(T:Txt K L)(M:bI (τ P w))(O:yj P w base T):Ok P w K L base "kids" GM ["web","place","front"] 4 (JL T):=λ_ _ D=>by
 refine D.F.Ο Qs λο A r s H vs Q E U h=>?_;obtain⟨p,t,m,Z,d,a,f,rfl,W,Y,S,I,k⟩:=h;have Ζ:=W.go.Ζ;refine⟨_,(ay (aY (gG rfl (UU ["near","front"] 1 [2]) (iB (Θ O U M (aa (γ 0) (aa (γ 1) ap)))) (λ_ _ _ _=>(d6 (i:=0) (show(["near","front"]:hX).Nodup from by decide +kernel) rfl (Or.inl rfl))) (λ_ _ _ _=>(DM (Ν pj (pv 0) (pv 1)))) (λ_ _ _ _=>(pv 0))))),?_⟩;walk_at "t";have nl:(jO m d a).length<=24:=by
  have:=bP (λq=>decide (q∈gN d a)) (b7 m.toNat);rw[b6]at this;unfold jO
  lia
 refine⟨p,t,m,Z,d,a,rfl,W,λu J _ _ n1 x y=>⟨u,rfl,⟨_,ι.of y⟩,λn o=>?_⟩,λz=>absurd ⟨Y,S⟩ z⟩;have R:H n=none:=x.free o;refine me (c:=true) (K:=K) (a:=u) (xs:=(jO m d a).map V.int) (λj g l e=>δ J e/\e n=some (.lst g)/\g=(((jO m d a).take j).filter λv=>decide (V.int v≠f)).map V.int/\∃v,l=[v,some f]) ⟨δ.new _ o,au,rfl,_,rfl⟩ (λj g l e _ z=>ι.of (z.1 _ _ y)) ?_ ?_
 .rintro j xj g l e N hN hj ⟨s2,h2,rfl,v,rfl⟩;rw[aN]at hj;obtain⟨b,C,rfl⟩:=cq.mp hj;have B:(jO m d a).take (j+1)=(jO m d a).take j++[b]:=by rw[bg,C];rfl
  have ll:(((jO m d a).take j).filter λv=>decide (V.int v≠f)).length<=24:=by
   have G:=bP (λv=>decide (V.int v≠f)) ((jO m d a).take j);rw[bq]at G
   lia
  walk_at "";have X:uh (V.int b) f=true:=by
   rcases I with rfl|⟨i,rfl⟩<;>rfl
  refine⟨X,?_⟩;by_cases c:V.int b=f
  .rw[ah (λz=>z c)];refine hN _ _ _ ⟨s2,h2,?_,_,rfl⟩;rw[B,cz];simp[c]
  .rw[aj c];refine⟨h2,d8 (by rw[ag];lia),hN _ _ _ ⟨s2.put o _,au,?_,_,rfl⟩⟩;rw[B,cz];simp[c]
 .rintro g l e ⟨s2,h2,rfl,v,rfl⟩;rw[ag,bC]at h2;exact k n e R (x.trans s2) h2
abbrev Dk(P w base)(T:Txt K L):=Cb P w K L base "kids" GM ["web","place","front"] 4 (JL T)
def Gy(T:Txt K L):Sp:=λe H Q E=>E6 λ(p t:Addr)(m:Int)(f:hR)(d:ix)(r:Int)=>e=[.ref p,.int r]/\θ T.Web H p m t f d/\(0<=r->r<m->∃a c,ζ m d r a c/\∀l b,H l=none->δ H b->b l=some (.lst (oh m r a))->Q (.ref l) b)/\(¬(0<=r/\r<m)->E (.ref T.NoPlace) none H)
abbrev Dv:Stmt:=top 32
def Os:ε ["web","r","nearer","waiting","place","front","kid"] ["web","r"] (aA Dv):=.of
def NM(T:Txt K L)(hq:bI (τ P w))(dH:lF P w base T)(ju:Dk P w base T):Ok P w K L base "ahead" Dv ["web","r"] 5 (Gy T):=λ_ _ D=>by
 refine D.F.Ϻ Os λο A al s H vs Q E hr h=>?_;obtain⟨p,t,m,ps,S,r,rfl,W,k,e⟩:=h;obtain⟨dx,ob⟩:=W.ob;have g:=W.go;have Ζ:=g.Ζ;refine⟨_,(aw (cI (Ξ dH hr bT (aa (γ 0) (aa (γ 1) ap)))) (aw (Κ 2 (aX oO (eK (aa qC ap)) (cu (γ 0) rfl))) (aw (Κ 3 (eK (aa (γ 1) ap))) (aw (t9 PassesOwn.leaving (wQ (γ 3) (λ_=>rfl)) (aw (Κ 4 (x9 dv PySem.F.slot_list_pop PySem.F.type_list_pop x6 (γ 3))) (aw (Κ 5 (ψ bu (γ 2) (γ 4))) (ay (gf PassesOwn.leaving rfl (iB (Ξ ju hr bT (aa (γ 0) (aa (γ 4) (aa (γ 5) ap))))) (ϊ 6) (aw (jv (γ 4) (nD (γ 2) (γ 6) gI)) (ay (cI (TV (γ 3) (γ 6)))))))))) (ay (aY (γ 2))))))),?_⟩;walk_at "s";refine b9 λN1 g1=>?_;walk_at "";refine⟨p,t,m,ps,S,r,rfl,W,λr0 r1=>g1 _ _ (b9 λN2 g2=>?_),e⟩;clear g1;obtain⟨par,cp,R,k⟩:=k r0 r1;walk_at "";refine⟨by decide,λl1 n1=>?_⟩;have s1:=δ.new (.lst [V.ξ]) n1;refine⟨T.Web,dx,_,s1 _ _ ob,T.Ε,T.Λ,_,rfl,?_⟩;refine⟨l1,m,[V.ξ],rfl,rfl,au,by lia,by lia,bX (by simp;lia),λb n2=>?_⟩;have WD:H b=none:=s1.free n2;rw[rm,<-Rz (par:=par)];refine g2 _ _ (b9 λN3 g3=>?_);clear g2;have s2:=s1.trans (δ.new (.lst (nl m par [])) n2);walk_at "";refine⟨bX (by simp),λa n3=>g3 _ _ (b9 λN4 g4=>?_)⟩;clear g3;have Zh:H a=none:=s2.free n3;have l:a≠b:=λz=>by rw[z,au]at n3;cases n3
 have s3:=s2.trans (δ.new (.lst [V.int r]) n3);have N:upd (upd (upd H l1 (.lst [V.ξ])) b (.lst (nl m par []))) a (.lst [V.int r]) b=some (.lst (nl m par [])):=by rw[aM l.symm,au]
 have e3:upd (upd (upd H l1 (.lst [V.ξ])) b (.lst (nl m par []))) a (.lst [V.int r]) a=some (.lst [V.int r]):=au;generalize upd (upd (upd H l1 (.lst [V.ξ])) b (.lst (nl m par []))) a (.lst [V.int r])=H3 at s3 N e3 ⊢;walk_at "";refine Dw (λn y j=>E5 λ(C U:fc)(v4 v5 I:Option V)=>n=2*(m.toNat-C.length)+U.length/\y=[some (.ref p),some (.int r),some (.ref b),some (.ref a),v4,v5,I]/\δ H j/\j b=some (.lst (nl m par C))/\j a=some (.lst (U.map V.int))/\Ϥ m S r par C U) (2*m.toNat+1) ⟨[],[r],_,_,_,rfl,rfl,s3,N,e3,Ϥ.start⟩ ?_;rintro n y j NW BB Y hN Vk ⟨C,U,v4,v5,I,rfl,rfl,s4,h2,M,J⟩;refine Y _ _ _ ?_;have kl:=iL (by lia) J.nd J.ϓ;walk_at "";refine⟨_,.inl ⟨_,ι.of M,rfl⟩,?_⟩;rcases fG U with rfl|⟨ws',q,rfl⟩
 .refine As (by simp) (g4 _ _ ?_);walk_at "";rw[J.done R]at h2;exact k b j WD s4 h2
 .rw[fK]at J M hN Vk ⊢;refine TF (by simp) ?_;have hq:q∈ws'++[q]:=bw _ (aG.mpr rfl);have u:=J.at_ r0 r1 hq;have G:=J.step g R r0 r1 (p:=q) (ws':=ws') (kG q ws');refine⟨NW,λco H' z=>?_,?_⟩
  .obtain⟨m',lt,VC,WG,a4,a5,a6,e1,N,e3⟩:=Vk _ _ z
   first|exact⟨m',lt,VC,WG,a4,a5,a6,e1,N,e3⟩|exact⟨m',lt,VC,WG,e1,a4,a5,a6,N,e3⟩
  rw[aq,aE,cH]at M;refine⟨S9 M,PM M ?_⟩;have s5:δ H (upd j a (.lst (ws'.map V.int))):=s4.put Zh _;have f:upd j a (.lst (ws'.map V.int)) b=some (.lst (nl m par C)):=by rw[aM l.symm];exact h2
  have B:upd j a (.lst (ws'.map V.int)) a=some (.lst (ws'.map V.int)):=au;generalize upd j a (.lst (ws'.map V.int))=H5 at s5 f B ⊢;refine Γ f (fR u.1 (Nl u.1 u.2)) ?_;rw[J.front hq];have a7:Pb.front r par q=.ξ\/∃i,Pb.front r par q=.int i:=by
   unfold Pb.front;by_cases c:q=r
   .rw[aj c];exact .inl rfl
   .rw[ah c];exact .inr ⟨_,rfl⟩
  have mk:∀v,v∈cG m S (Pb.front r par q) q->(0<=v/\v<m)/\v≠r/\par v=q:=λv=>(de g R u.1 u.2).mp;refine⟨p,t,m,ps,S,q,_,rfl,W.same s5,u.1,u.2,a7,λX H6 Z s6 e6=>⟨X,rfl,⟨_,ι.of e6⟩,?_⟩⟩;generalize cG m S (Pb.front r par q) q=d at mk e6 G ⊢;have ct:H X=none:=s5.free Z;have an:X≠b:=λz=>by rw[z,f]at Z;cases Z
  have a2:X≠a:=λz=>by rw[z,B]at Z;cases Z
  have a3:=iL (by lia) G.nd G.ϓ;rw[aH]at a3;have a0:=iL (by lia) G.ZH λw hw=>G.at_ r0 r1 hw;rw[aH]at a0;refine jM (K:=K) (xs:=d.map V.int) (λi y o=>∃I,y=[some (.ref p),some (.int r),some (.ref b),some (.ref a),some (.int q),some (Pb.front r par q),I]/\δ H o/\o X=some (.lst (d.map V.int))/\o b=some (.lst (nl m par (C++d.take i)))/\o a=some (.lst ((ws'++d.take i).map V.int))) ⟨_,rfl,s5.trans s6,e6,by rw[dU,ck];exact s6 _ _ f,by rw[dU,ck];exact s6 _ _ B⟩ (λi y o _ z=>by obtain⟨_,_,_,z,_⟩:=z;exact ι.of z) ?_ ?_
  .rintro i x y o NI BB Y hI hi ⟨I,rfl,s7,e7,h27,Yk⟩;refine Y _ _ ?_;rw[aN]at hi;obtain⟨v,hv,rfl⟩:=cq.mp hi;obtain⟨vr,_,vp⟩:=mk v (aP hv);have et:d.take (i+1)=d.take i++[v]:=(by rw[bg,hv];rfl);walk_at "";refine⟨b,_,v,v.toNat,rfl,rfl,h27,by unfold Vx;rw[aj vr.1,aj (by rw[u5];lia)],?_⟩;rw[<-vp,RJ vr.1 vr.2,vp,cj,<-et];have O:upd o b (.lst (nl m par (C++d.take (i+1)))) a=some (.lst ((ws'++d.take i).map V.int)):=(by rw[aM l];exact Yk);have TL:(ws'++d.take i).length<=100:=by
    rw[aH,bq]
    lia
   refine⟨S9 O,oN O (d8 (by rw[ag];lia)) (hI _ _ ⟨_,rfl,(s7.put WD _).put Zh _,?_,?_,?_⟩)⟩
   .rw[aM a2,aM an];exact e7
   .rw[aM l.symm,au]
   .rw[au,et,<-cj,aq (l₁:=ws'++d.take i)];rfl
  .rintro BB y o Y ⟨I,rfl,s7,e7,h27,Yk⟩;refine Y _ _ ?_;rw[ag,bC]at h27 Yk;refine hN _ _ _ ?_ ⟨_,_,_,_,_,rfl,rfl,s7,h27,Yk,G⟩;rw[aH,aH,aH];simp only[aO,dA]
   lia
abbrev zr(P w base)(T:Txt K L):=Cb P w K L base "ahead" Dv ["web","r"] 5 (Gy T)
def Kd(T:Txt K L):Sp:=λe H Q E=>E6 λ(p t:Addr)(m:Int)(f:hR)(c:ix)(r:Int)=>e=[.ref p,.int r]/\θ T.Web H p m t f c/\(0<=r->r<m->∃a b,ζ m c r a b/\∀l d,H l=none->δ H d->d l=some (.lst ((eX m c r a b r).map V.int))->(eX m c r a b r).Nodup->(∀v,v∈eX m c r a b r↔0<=v/\v<m)->Q (.ref l) d)/\(¬(0<=r/\r<m)->E (.ref T.NoPlace) none H)
abbrev CN:Stmt:=top 33
def QZ:ε ["web","r","nearer","places","waiting","place","kid"] ["web","r"] (aA CN):=.of
def A8:Ψ (aA CN) "reversed":=.of
def QN(T:Txt K L)(hq:bI (τ P w))(lH:zr P w base T)(ju:Dk P w base T):Ok P w K L base "down" CN ["web","r"] 6 (Kd T):=λ_ _ D=>by
 refine D.F.Ϻ QZ λο A a8 s H vs Q E hr h=>?_;obtain⟨p,t,m,ps,rs,r,rfl,W,k,e⟩:=h;have g:=W.go;have Ζ:=g.Ζ;refine⟨_,(aw (Κ 2 (Ξ lH hr bT (aa (γ 0) (aa (γ 1) ap)))) (aw (Κ 3 (eK ap)) (aw (Κ 4 (eK (aa (γ 1) ap))) (aw (t9 PassesOwn.leaving (wQ (γ 4) (λ_=>rfl)) (aw (Κ 5 (x9 dv PySem.F.slot_list_pop PySem.F.type_list_pop x6 (γ 4))) (aw (cI (TV (γ 3) (γ 5))) (ay (gf PassesOwn.leaving rfl (uc A8.g T.reversed (Ξ ju hr bT (aa (γ 0) (aa (γ 5) (aa (ψ bu (γ 2) (γ 5)) ap))))) (ϊ 6) (ay (cI (TV (γ 4) (γ 6))))))))) (ay (aY (γ 3))))))),?_⟩;walk_at "s";refine b9 λN1 g1=>?_;walk_at "";refine⟨p,t,m,ps,rs,r,rfl,W,λr0 r1=>?_,e⟩;obtain⟨a,X,R,k⟩:=k r0 r1;refine⟨a,X,R,λu H1 n1 s1 e1=>g1 _ _ (b9 λN2 g2=>?_)⟩;clear g1;walk_at "";refine⟨by decide,λb n3=>g2 _ _ (b9 λN3 g3=>?_)⟩;clear g2;walk_at "";refine⟨bX (by simp),λd G=>g3 _ _ (b9 λN4 g4=>?_)⟩;clear g3;have Zh:H b=none:=s1.free n3;have s3:=s1.trans (δ.new (.lst []) n3);have a2:H d=none:=s3.free G;have bm:u≠b:=λz=>by rw[<-z,e1]at n3;cases n3
 have o:b≠d:=λz=>by rw[<-z,au]at G;cases G
 have W7:=δ.new (.lst []) n3 _ _ e1;have ar:u≠d:=λz=>by rw[<-z,W7]at G;cases G
 have s4:=s3.trans (δ.new (.lst [V.int r]) G);have aT:=δ.new (.lst [V.int r]) G _ _ W7;have am:upd (upd H1 b (.lst [])) d (.lst [V.int r]) b=some (.lst []):=by rw[aM o,au]
 have a0:upd (upd H1 b (.lst [])) d (.lst [V.int r]) d=some (.lst [V.int r]):=au;generalize upd (upd H1 b (.lst [])) d (.lst [V.int r])=H4 at s4 aT am a0 ⊢;walk_at "";refine Dw (λn M l=>E5 λ(Y S j:fc)(v5 v6:Option V)=>n=2*(m.toNat-Y.length)+S.length/\M=[some (.ref p),some (.int r),some (.ref u),some (.ref b),some (.ref d),v5,v6]/\δ H l/\l u=some (.lst (oh m r a))/\l b=some (.lst (j.map V.int))/\l d=some (.lst (S.map V.int))/\Ϥ m rs r a Y S/\(j++S).Perm (r::Y)/\j++S.reverse.flatMap (eX m rs r a X)=eX m rs r a X r) (2*m.toNat+1) ⟨[],[r],[],_,_,rfl,rfl,s4,aT,am,a0,Ϥ.start,List.Perm.refl _,by simp⟩ ?_;rintro n M l NW BB ϒ hN Vk ⟨Y,S,j,v5,v6,rfl,rfl,s5,h1,h3,h4,J,N,ep⟩;refine ϒ _ _ _ ?_;have rk:∀w∈r::Y,0<=w/\w<m:=λw hw=>by
  rcases aF.mp hw with rfl|z
  .exact⟨r0,r1⟩
  .exact J.ϓ w z
 have nk:(r::Y).Nodup:=bD.mpr ⟨J.nr,J.nd⟩;have kl:=iL (m:=m) (by lia) nk rk;have di:=iL (m:=m) (by lia) J.nd J.ϓ;have O:=N.length_eq;rw[aH]at O;rw[aO]at kl O;walk_at "";refine⟨_,.inl ⟨_,ι.of h4,rfl⟩,?_⟩;rcases fG S with rfl|⟨ws',q,rfl⟩
 .refine As (by simp) (g4 _ _ ?_);walk_at "";rw[List.reverse_nil,List.flatMap_nil,ck]at ep;rw[ck]at N;subst ep;refine k b l Zh s5 h3 (N.nodup_iff.mpr nk) λv=>⟨λz=>rk v (N.mem_iff.mp z),λz=>N.mem_iff.mpr ?_⟩;by_cases c:v=r
  .rw[c];exact aL
  .exact aI _ (J.all R v z.1 z.2 c)
 .rw[fK]at J h4 hN Vk N ep O ⊢;refine TF (by simp) ?_;have hq:q∈ws'++[q]:=bw _ (aG.mpr rfl);have C:=J.at_ r0 r1 hq;have Z:=J.step g R r0 r1 (p:=q) (ws':=ws') (kG q ws');refine⟨NW,λdm H' z=>?_,?_⟩
  .obtain⟨m',lt,VC,WG,pl',a5,a6,z1,z2⟩:=Vk _ _ z
   first|exact⟨m',lt,VC,WG,pl',a5,a6,z1,z2⟩|exact⟨m',lt,VC,WG,z1,pl',a5,a6,z2⟩
  rw[aq,aE,cH]at h4;refine⟨S9 h4,PM h4 ?_⟩;have s6:δ H (upd l d (.lst (ws'.map V.int))):=s5.put a2 _;have I:upd l d (.lst (ws'.map V.int)) b=some (.lst (j.map V.int)):=by rw[aM o];exact h3
  have ai:upd l d (.lst (ws'.map V.int)) u=some (.lst (oh m r a)):=by rw[aM ar];exact h1
  have av:upd l d (.lst (ws'.map V.int)) d=some (.lst (ws'.map V.int)):=au;generalize upd l d (.lst (ws'.map V.int))=H6 at s6 I ai av ⊢;refine⟨S9 I,oN I (d8 (by rw[ag];lia)) ?_⟩;have s7:δ H (upd H6 b (.lst (j.map V.int++[V.int q]))):=s6.put Zh _;have Yk:upd H6 b (.lst (j.map V.int++[V.int q])) b=some (.lst ((j++[q]).map V.int)):=by rw[au,aq];rfl
  have y:upd H6 b (.lst (j.map V.int++[V.int q])) u=some (.lst (oh m r a)):=by rw[aM bm];exact ai
  have U:upd H6 b (.lst (j.map V.int++[V.int q])) d=some (.lst (ws'.map V.int)):=by rw[aM o.symm];exact av
  generalize upd H6 b (.lst (j.map V.int++[V.int q]))=H7 at s7 Yk y U ⊢;refine Γ y (fR C.1 (wY C.1 C.2)) ?_;have br:Pb.front r a q=.ξ\/∃i,Pb.front r a q=.int i:=by
   unfold Pb.front;by_cases c:q=r
   .rw[aj c];exact .inl rfl
   .rw[ah c];exact .inr ⟨_,rfl⟩
  have pq:=lX g R C.1 C.2;refine⟨p,t,m,ps,rs,q,_,rfl,W.same s7,C.1,C.2,br,λl8 H8 n8 s8 e8=>⟨l8,rfl,_,ι.of e8,?_⟩⟩;generalize cG m rs (Pb.front r a q) q=f at e8 Z pq ⊢;have cx:u≠l8:=λz=>by rw[<-z,y]at n8;cases n8
  have dk:b≠l8:=λz=>by rw[<-z,Yk]at n8;cases n8
  have ba:d≠l8:=λz=>by rw[<-z,U]at n8;cases n8
  have bl:=iL (m:=m) (by lia) Z.nd Z.ϓ;rw[aH]at bl;have be:=iL (m:=m) (by lia) Z.ZH λw hw=>Z.at_ r0 r1 hw;rw[aH]at be;refine qY (K:=K) (xs:=f.map V.int) (λi M B=>∃v6,M=[some (.ref p),some (.int r),some (.ref u),some (.ref b),some (.ref d),some (.int q),v6]/\δ H B/\B l8=some (.lst (f.map V.int))/\B u=some (.lst (oh m r a))/\B b=some (.lst ((j++[q]).map V.int))/\B d=some (.lst ((ws'++f.reverse.take i).map V.int))) ⟨_,rfl,s7.trans s8,e8,s8 _ _ y,s8 _ _ Yk,by rw[dU,ck];exact s8 _ _ U⟩ (λi M B _ z=>by obtain⟨_,_,_,z,_⟩:=z;exact ι.of z) ?_ ?_
  .rintro i x M B NI hI hi ⟨v6,rfl,s9,e9,h19,h39,h49⟩;rw[<-eB,aN]at hi;obtain⟨v,hv,rfl⟩:=cq.mp hi;have et:f.reverse.take (i+1)=f.reverse.take i++[v]:=(by rw[bg,hv];rfl);have TL:(ws'++f.reverse.take i).length<=100:=by
    rw[aH,bq,aQ]
    lia
   walk_at "";refine⟨S9 h49,oN h49 (d8 (by rw[ag];lia)) (hI _ _ ⟨_,rfl,s9.put a2 _,?_,?_,?_,?_⟩)⟩
   .rw[aM ba.symm];exact e9
   .rw[aM ar];exact h19
   .rw[aM o];exact h39
   .rw[au,et,<-cj,aq (l₁:=ws'++f.reverse.take i)];rfl
  .rintro M B ⟨v6,rfl,s9,e9,h19,h39,h49⟩;rw[ag,show f.length=f.reverse.length by rw[aQ],bC]at h49;refine hN _ _ _ ?_ ⟨Y++f,ws'++f.reverse,j++[q],_,_,rfl,rfl,s9,h19,h39,h49,Z.perm (mR _ f.reverse_perm.symm),?_,?_⟩
   .rw[aH,aH,aH,aQ];simp only[aO,dA]
    lia
   .have p1:(j++[q]++(ws'++f.reverse)).Perm (j++(ws'++[q])++f):=by
     rw[cj,cj];refine mR _ ?_;rw[<-cj];exact List.Perm.append (List.perm_append_comm) f.reverse_perm
    exact p1.trans (List.Perm.append_right _ N)
   .rw[<-ep,nL,nL,mS,List.reverse_singleton,List.singleton_append,dP,pq,ow];simp
abbrev Mc(P w base)(T:Txt K L):=Cb P w K L base "down" CN ["web","r"] 6 (Kd T)
def LH(a:fz)(v:Int):List V:=[.int v,.int (a v)]
abbrev ω(H:Hp)(a:fz):List Addr->List Int->Prop:=Paired λq v=>H q=some (.tup (LH a v))
def ω.same{H b:Hp}{a:fz}{c:hR}{d:fc}(e:δ H b)(h:ω H a c d):ω b a c d:=Paired.imp' (λq v x=>e q _ x) h
theorem ω.get{H:Hp}{c:fz}:∀{d:hR}{f:fc}{i:Nat}{x:V},ω H c d f->(d.map V.ref)[i]?=some x->∃p r,x=.ref p/\d[i]?=some p/\f[i]?=some r/\H p=some (.tup (LH c r))
 | _,_,i,x,.nil,e=>by simp at e
 | _,_,0,x,.cons (a:=p) (b:=r) h hs,e=>⟨p,r,by simpa using e.symm,by simp,by simp,h⟩
 | a::l1,_,i+1,x,.cons h hs,e=>by
   have m:(List.map V.ref l1)[i]?=some x:=by simpa using e
   obtain⟨p,r,j,k,g,l⟩:=ω.get hs m;exact⟨p,r,j,by simpa using k,by simpa using g,l⟩
theorem ω.snoc{H:Hp}{a:fz}{q:Addr}{v:Int}(e:H q=some (.tup (LH a v))):∀{b:hR}{c:fc},ω H a b c->ω H a (b++[q]) (c++[v])
 | _,_,.nil=>.cons e .nil
 | _,_,.cons x xs=>.cons x (ω.snoc e xs)
def EZ(T:Txt K L):Sp:=λg H Q E=>E6 λ(p t:Addr)(m:Int)(h:hR)(e:ix)(r:Int)=>g=[.ref p,.int r]/\θ T.Web H p m t h e/\(0<=r->r<m->∃a b,ζ m e r a b/\∀l f d c,eX m e r a b r=r::d->H l=none->δ H c->c l=some (.lst (f.map V.ref))->ω c a f d.reverse->Order m r a d->Q (.ref l) c)/\(¬(0<=r/\r<m)->E (.ref T.NoPlace) none H)
abbrev uo:Stmt:=top 35
def Ez:ε ["web","r","nearer"] ["web","r"] (aA uo):=.of
def Bd:VX (aA uo) "nearer":=.of (by kernel_rfl)
def yk:Ψ (aA uo) "reversed":=.of
def Mz(T:Txt K L)(hq:bI (τ P w))(lH:zr P w base T)(ww:Mc P w base T):Ok P w K L base "inward" uo ["web","r"] 7 (EZ T):=λ_ _ D=>by
 refine D.F.Ϻ Ez λο A ac s H vs Q E hr h=>?_;obtain⟨p,t,m,ps,rs,r,rfl,W,k,e⟩:=h;have g:=W.go;have Ζ:=g.Ζ;refine⟨_,(aw (sx (i:=2) Ez.nd rfl (Or.inr Bd.l) (Ξ lH hr bT (aa (γ 0) (aa (Ϩ 1) ap)))) (ay (aY (gG rfl (UU ["place","nearer","r"] 1 [2,1]) (uc yk.g T.reversed (Ξ ww hr bT (aa (γ 0) (aa (Ϩ 1) ap)))) (λ_ _ _ _=>(d6 (i:=0) (show(["place","nearer","r"]:hX).Nodup from by decide +kernel) rfl (Or.inl rfl))) (λ_ _ _ _=>(DM (Ν pj (pv 0) (pv 2)))) (λ_ _ _ _=>(hV (aa (pv 0) (aa (ψ (oW K rfl) (pv 1) (pv 0)) ap)))))))),?_⟩;walk_at "t";refine⟨p,t,m,ps,rs,r,?_⟩;refine Vl rfl W (λG J=>?_) e;obtain⟨d,B,R,k⟩:=k G J;refine⟨d,B,R,λl1 H1 n1 s1 e1=>?_⟩;refine⟨p,t,m,ps,rs,r,?_⟩;refine Vl rfl (W.same s1) (λ_ _=>⟨d,B,R,λl2 H2 n2 s2 U nd al=>?_⟩) (λz=>absurd ⟨G,J⟩ z);obtain⟨n,et,O⟩:=BS g R G J nd al;have ll:=p8 g R G J;rw[et]at U ll;rw[aO]at ll;refine⟨l2,rfl,_,ι.of U,λM T4=>?_⟩;have Uu:=s2 _ _ e1;have ϙ:=s1.trans s2;have S:=ϙ.free T4;refine PQ (K:=K) (xs:=(r::n).map V.int) (λi u I j=>δ H2 j/\j M=some (.lst u)/\(∃f:List Addr,u=f.map V.ref/\ω j d f (n.reverse.take i))/\∃v,I=[v,some (V.ref l1),some (V.int r)]) ⟨δ.new _ T4,au,⟨[],rfl,.nil⟩,_,rfl⟩ (λi u I j _ z=>ι.of (z.1 _ _ U)) ?_ ?_
 .rintro i x u I j N hN hx ⟨s3,e3,⟨f,rfl,pa⟩,v,rfl⟩;rw[<-eB,fE,aN]at hx;obtain⟨y,o,rfl⟩:=cq.mp hx;have il:=(ax.mp o).1;rw[aH,aQ]at il;have ql:f.length=(n.reverse.take i).length:=Paired.length pa;rw[bq,aQ]at ql;walk_at "";by_cases c:i<n.length
  .rw[eJ (by rw[aQ];exact c)]at o;have X:y∈n:=dN.mp (aP o);have Y:=O.ϓ y X;rw[aj (O.ne X)];have gp:ϳ (oh m r d) y=some (V.int (d y)):=by
    have ef:Pb.front r d y=V.int (d y):=(by unfold Pb.front;rw[ah (O.ne X)]);rw[<-ef];exact fR Y.1 (wY Y.1 Y.2)
   refine Γ (s3 _ _ Uu) gp ⟨bX (by simp),λq C=>?_⟩;have s4:=δ.new (.tup [V.int y,V.int (d y)]) C;have Z:q≠M:=λz=>by rw[z,e3]at C;cases C
   refine⟨s4 _ _ e3,d8 (by rw[ag];lia),hN _ _ _ ⟨(s3.trans s4).put T4 _,au,⟨f++[q],by rw[aq];rfl,?_⟩,_,rfl⟩⟩;rw[bg,o];refine ω.snoc (by rw[aM Z,au];rfl) ?_;exact Paired.imp' (λa b h=>by
    rw[aM (cZ h e3 (by nofun)),aM (cD h C)];exact h) pa
  .have ei:i=n.reverse.length:=(by rw[aQ];simp at il;lia);rw[ei,dc (aJ _),dY]at o;cases o;rw[ah (λz=>z rfl)];refine hN _ _ _ ⟨s3,e3,⟨f,rfl,?_⟩,_,rfl⟩;rw[bZ (by lia)]at pa ⊢;exact pa
 .rintro u I j ⟨s3,e3,⟨f,rfl,pa⟩,v,rfl⟩;rw[bZ (by rw[ag,aQ,aO];lia)]at pa;exact k M f n j et S (ϙ.trans s3) e3 pa O
abbrev kQ(P w base)(T:Txt K L):=Cb P w K L base "inward" uo ["web","r"] 7 (EZ T)
def J4(T:Txt K L):Sp:=λd H Q E=>E7 λ(p t:Addr)(m:Int)(e:hR)(c:ix)(a b:Int)=>d=[.ref p,.int a,.int b]/\θ T.Web H p m t e c/\(∀k,0<=a->a<m->0<=b->b<m->cL c a b=some k->Q (.int k) H)/\(¬((0<=a/\a<m)/\(0<=b/\b<m))->E (.ref T.NoPlace) none H)/\(0<=a->a<m->0<=b->b<m->cL c a b=none->E (.ref T.NoRoad) none H)
abbrev Ds:Stmt:=top 16
def Q8:ε ["web","a","b","one","other","there","back"] ["web","a","b"] (aA Ds):=.of
def wC:Ψ (aA Ds) "NoRoad":=.of
def QB(T:Txt K L)(hq:bI (τ P w))(Y:lF P w base T):Ok P w K L base "toll" Ds ["web","a","b"] 3 (J4 T):=λ_ _ D=>by
 refine D.F.Ϻ Q8 λο A X s H vs Q E hr h=>?_;obtain⟨p,t,m,M,f,a,b,rfl,W,k,Z,e2⟩:=h;obtain⟨dx,ob⟩:=W.ob;refine⟨_,(aw (cI (Ξ Y hr bT (aa (γ 0) (aa (γ 1) ap)))) (aw (cI (Ξ Y hr bT (aa (γ 0) (aa (γ 2) ap)))) (aw (gf PassesOwn.leaving rfl (y0 (cu (γ 0) rfl)) (iH (n:=4) rfl (bQ (ϊ 3) (bQ (ϊ 4) (bQ (ϊ 5) (bQ (ϊ 6) fI))))) (aw (bU (PW.pt (tU (Ν cN (γ 3) (γ 1)) (rB (Ν cN (γ 4) (γ 2))))) (ay (aY (γ 5))) bE) (ay (bU (PW.pt (tU (Ν cN (γ 3) (γ 2)) (rB (Ν cN (γ 4) (γ 1))))) (ay (aY (γ 6))) bE)))) (ay (qZ T.Wz rfl tK wC.g T.Wx (aa bH ap) (hdb:=wC.d)))))),?_⟩;walk_at "t";refine⟨p,t,m,M,f,a,rfl,W,λJ G=>?_,λz=>Z λw=>z w.1⟩;refine⟨p,t,m,M,f,b,rfl,W,λB C=>?_,λz=>Z λw=>z w.2⟩;refine⟨T.Web,dx,_,ob,T.Ε,T.Tq,_,vJ m t,t,rfl,⟨_,Α.of W.tu⟩,?_⟩;have o:M.length=f.length:=Paired.length W.ro;refine G5 (K:=K) (xs:=M.map V.ref) (λi y l=>l=H/\cL (f.take i) a b=none/\∃U R O S,y=[some (V.ref p),some (V.int a),some (V.int b),U,R,O,S]) ⟨rfl,rfl,_,_,_,_,rfl⟩ (λi y l _ z=>by rw[z.1];exact Α.of W.tu) ?_ ?_
 .rintro i x y l N hN hx ⟨rfl,Us,U,R,O,S,rfl⟩;obtain⟨q,r,rfl,h1,I,h3⟩:=W.ro.get hx;have et:f.take (i+1)=f.take i++[r]:=by rw[bg,I];rfl
  have split:cL f a b=(cL (f.take i) a b).or ((i9 a b r).or (cL (f.drop (i+1)) a b)):=by
   have:f=f.take i++r::f.drop (i+1):=by
    have Tt:i<f.length:=(ax.mp I).1;have e:f[i]=r:=(by rw[az Tt]at I;exact bF I);rw[<-e,jg,dg]
   conv=>lhs;rw[this]
   unfold cL;rw[gB,hZ];cases i9 a b r<;>rfl
  rw[Us,Option.none_or]at split;walk_at "";refine⟨_,Α.of h3,rfl,_,_,rfl,_,_,rfl,_,_,rfl,_,_,rfl,rfl,?_⟩;walk_at "";have c:i9 a b r=none->N [some (V.ref p),some (V.int a),some (V.int b),some (V.int r.a),some (V.int r.b),some (V.int r.t),some (V.int r.u)] l:=λz=>hN _ _ ⟨rfl,by
   rw[et];unfold cL at Us ⊢;rw[gB,Us,hZ,z]
   rfl,_,_,_,_,rfl⟩
  have j:∀v,i9 a b r=some v->cL f a b=some v:=λv z=>by rw[split,z];rfl
  unfold i9 at c j;split
  .rename_i c1
   split
   .rename_i c2
    exact k _ J G B C (j _ (by rw[aj ⟨c1,c2⟩]))
   .rename_i c2
    split
    .rename_i c3
     split
     .rename_i c4
      exact k _ J G B C (j _ (by rw[ah (λz=>c2 z.2),aj ⟨c3,c4⟩]))
     .rename_i c4
      exact c (by rw[ah (λz=>c2 z.2),ah (λz=>c4 z.2)])
    .rename_i c3
     exact c (by rw[ah (λz=>c2 z.2),ah (λz=>c3 z.1)])
  .rename_i c1
   split
   .rename_i c3
    split
    .rename_i c4
     exact k _ J G B C (j _ (by rw[ah (λz=>c1 z.1),aj ⟨c3,c4⟩]))
    .rename_i c4
     exact c (by rw[ah (λz=>c1 z.1),ah (λz=>c4 z.2)])
   .rename_i c3
    exact c (by rw[ah (λz=>c1 z.1),ah (λz=>c3 z.1)])
 .rintro y l ⟨rfl,Us,U,R,O,S,rfl⟩;rw[ag,o,bC]at Us;walk_at "";exact⟨by decide,e2 J G B C Us⟩
abbrev mC(P w base)(T:Txt K L):=Cb P w K L base "toll" Ds ["web","a","b"] 3 (J4 T)
def GL(T:Txt K L):Sp:=λe H Q _=>WZ λ(p b t:Addr)(c:Bool)(m:Int)(f:hR)(d:ix)(a:fc)(v u k:Int)=>e=[.ref p,.ref b,.int v,.int u]/\θ T.Web H p m t f d/\Ω K c H b (a.map V.int)/\(0<=v/\v<m/\v<a.length)/\(0<=u/\u<m)/\cL d v u=some k/\k<=1000000/\2<=k/\Q (.int (a.getD v.toNat 0*k)) H
abbrev DJ:Stmt:=top 70
def Oh:ε ["web","weights","place","front"] ["web","weights","place","front"] (aA DJ):=.of
def PL(T:Txt K L)(C:bI (τ P w))(j:mC P w base T):Ok P w K L base "borne" DJ ["web","weights","place","front"] 4 (GL T):=λ_ _ D=>by
 refine D.F.Ϻ Oh λq A d s H o Q E l h=>?_;obtain⟨p,b,t,c,m,n,i,B,v,u,y,rfl,W,f,a,g,e,r,x,k⟩:=h;refine⟨_,(ay (aY (aX j6 (ψ (Cn c) (γ 1) (γ 2)) (Ξ j l bT (aa (γ 0) (aa (γ 2) (aa (γ 3) ap))))))),?_⟩;walk_at "t";refine ixX f (Ϲ a.1 a.2.2) ?_;refine⟨p,t,m,n,i,v,u,rfl,W,λG _ _ _ _ h=>?_,λz=>absurd ⟨⟨a.1,a.2.1⟩,g⟩ z,λ_ _ _ _ z=>by rw[e]at z;cases z⟩;rw[e]at h;cases h;exact⟨_,rfl,_,rfl,.inr ⟨by lia,by lia⟩,k⟩
abbrev JH(P w base)(T:Txt K L):=Cb P w K L base "borne" DJ ["web","weights","place","front"] 4 (GL T)
def Ai(T:Txt K L):Sp:=λd H Q _=>E10 λ(p b t:Addr)(m:Int)(e:hR)(c:ix)(a:fc)(v u k:Int)=>d=[.ref p,.ref b,.int v,.int u]/\θ T.Web H p m t e c/\ι K H b (a.map V.int)/\(a.length:Int)=m/\(0<=v/\v<m)/\(0<=u/\u<m)/\cL c v u=some k/\k<=1000000/\2<=k/\Q (.bl (decide (a.getD v.toNat 0*k=a.getD u.toNat 0))) H
abbrev wK:Stmt:=top 77
def IG:ε ["web","weights","place","front"] ["web","weights","place","front"] (aA wK):=.of
def Jb(T:Txt K L)(B:bI (τ P w))(j:JH P w base T):Ok P w K L base "is_heavy" wK ["web","weights","place","front"] 5 (Ai T):=λ_ _ D=>by
 refine D.F.Ϻ IG λz A d s H y Q E r h=>?_;obtain⟨p,b,t,m,x,o,a,v,u,c,rfl,W,g,C,f,i,q,l,n,k⟩:=h;refine⟨_,(ay (aY (jU cN (Ξ j r bT (aa (γ 0) (aa (γ 1) (aa (γ 2) (aa (γ 3) ap))))) (ψ bu (γ 1) (γ 3)) (kY _)))),?_⟩;walk_at "t";refine⟨p,b,t,true,m,x,o,a,v,u,c,rfl,W,g,⟨f.1,f.2,by lia⟩,i,q,l,n,?_⟩;refine ixS g (Ϲ i.1 (by lia)) ?_;have e:decide (V.int (a.getD v.toNat 0*c)=V.int (a.getD u.toNat 0))=decide (a.getD v.toNat 0*c=a.getD u.toNat 0):=by simp
 rw[e];exact⟨rfl,k⟩
abbrev Dr(P w base)(T:Txt K L):=Cb P w K L base "is_heavy" wK ["web","weights","place","front"] 5 (Ai T)
def ud(T:Txt K L):Sp:=λe H Q E=>E6 λ(p t:Addr)(m:Int)(f:hR)(d:ix)(r:Int)=>e=[.ref p,.int r]/\θ T.Web H p m t f d/\(0<=r->r<m->∃b c,ζ m d r b c/\∀l a,H l=none->δ H a->a l=some (.lst ((ic m d r b c).map V.int))->Q (.ref l) a)/\(¬(0<=r/\r<m)->∀a,δ H a->E (.ref T.NoPlace) none a)
abbrev qP:Stmt:=top 73
def A1:ε ["web","r","weights","place","front"] ["web","r"] (aA qP):=.of
def BJ(T:Txt K L)(hq:bI (τ P w))(tE:JH P w base T)(dj:kQ P w base T):Ok P w K L base "least_weights" qP ["web","r"] 8 (ud T):=λ_ _ D=>by
 refine D.F.Ϻ A1 λο A S s H vs Q E hr h=>?_;obtain⟨p,t,m,ps,f,r,rfl,W,k,e⟩:=h;have g:=W.go;have m1:=g.m1;have Ζ:=g.Ζ;obtain⟨dx,ob⟩:=W.ob;refine⟨_,(aw (Κ 2 (aX oO (eK (aa aD ap)) (cu (γ 0) rfl))) (aw (gf PassesOwn.leaving rfl (iB (Ξ dj hr bT (aa (γ 0) (aa (γ 1) ap)))) (iH (n:=2) rfl (bQ (ϊ 3) (bQ (ϊ 4) fI))) (ay (jv (TB (MU rfl) T.max (aa (ψ bu (γ 2) (γ 4)) (aa (Ξ tE hr bT (aa (γ 0) (aa (γ 2) (aa (γ 3) (aa (γ 4) ap))))) ap))) (nD (γ 2) (γ 4) gI)))) (ay (aY (γ 2))))),?_⟩;walk_at "t";refine⟨bX (by simp),λU n0=>?_⟩;have M:=δ.new (.lst [V.int 1]) n0;refine⟨T.Web,dx,_,M _ _ ob,T.Ε,T.Λ,_,eT m t,?_⟩;refine⟨U,m,_,rfl,rfl,au,by lia,by lia,bX (by simp;lia),λl n1=>?_⟩;rw[FY];have I:=M.trans (δ.new (.lst (List.replicate m.toNat (V.int 1))) n1);have nl:=M.free n1;have X:upd (upd H U (.lst [V.int 1])) l (.lst (List.replicate m.toNat (V.int 1))) l=some (.lst ((List.replicate m.toNat (1:Int)).map V.int)):=by rw[au,hG]
 generalize upd (upd H U (.lst [V.int 1])) l (.lst (List.replicate m.toNat (V.int 1)))=H1 at I X ⊢;refine⟨p,t,m,ps,f,r,?_⟩;refine Vl rfl (W.same I) (λr0 r1=>?_) (λz=>e z H1 I);obtain⟨c,j,R,k⟩:=k r0 r1;refine⟨c,j,R,λJ B G H2 _ n2 s2 e2 pa O=>?_⟩;have VP:J≠l:=λz=>by rw[z,X]at n2;cases n2
 refine⟨J,rfl,⟨_,ι.of e2⟩,?_⟩;have ql:B.length=G.reverse.length:=Paired.length pa;have st:RW mx m f r c j (λ_=>1) (bor f c) [] (List.replicate m.toNat (1:Int)):=RW.nil (by rw[b8];lia) λv v0 v1=>by
  rw[List.getD,jQ (by lia)];rfl
 refine jM (K:=K) (xs:=B.map V.ref) (λi C d=>δ H d/\d J=some (.lst (B.map V.ref))/\ω d c B G.reverse/\E3 λ(y:fc)(Y Z:Option V)=>d l=some (.lst (y.map V.int))/\RW mx m f r c j (λ_=>1) (bor f c) (G.drop (G.length-i)) y/\C=[some (V.ref p),some (V.int r),some (V.ref l),Y,Z]) ⟨I.trans s2,e2,pa,_,_,_,s2 _ _ X,by rw[gg,fh];exact st,rfl⟩ (λi C d _ z=>ι.of z.2.1) ?_ ?_
 .rintro i x C d N BB ϒ hN hx ⟨s3,e3,UX,y,Y,Z,c3,so,rfl⟩;refine ϒ _ _ ?_;obtain⟨q,v,rfl,hq,hv,eq⟩:=UX.get hx;obtain⟨⟨o,vn⟩,ev,Zi⟩:=O.aaC Jt g R so hv;have u:=R.up v o.1 o.2 vn;obtain⟨kk,hk,k0,k1⟩:=jB g R o.1 o.2 vn;have cl:=so.len;walk_at "";refine⟨_,Α.of eq,rfl,_,_,rfl,_,_,rfl,rfl,?_⟩;refine Γ c3 (Ϲ u.1.1 (by lia)) ?_;refine⟨p,l,t,true,m,ps,f,y,v,c v,kk,rfl,W.same s3,ι.of c3,⟨o.1,o.2,by lia⟩,u.1,hk,k1,k0,?_⟩;refine⟨_,_,⟨rfl,rfl⟩,nZ c3 u.1.1 (by rw[ag];lia) (hN _ _ ⟨s3.put nl _,?_,?_,zM mx c (bor f c) y v,_,_,?_,Zi,rfl⟩)⟩
  .rw[aM VP];exact e3
  .exact Paired.imp' (λa b h=>by rw[aM (cZ h c3 (by nofun))];exact h) UX
  .rw[au,<-cU];unfold zM bor mx;rw[hk]
   rfl
 .rintro BB C d ϒ ⟨s3,e3,UX,y,Y,Z,c3,so,rfl⟩;refine ϒ _ _ ?_;rw[ag,ql,aQ,dY,iC]at so;rw[O.doneF Jt g R so]at c3;walk_at "";exact k l d nl s3 c3
abbrev qJ(P w base)(T:Txt K L):=Cb P w K L base "least_weights" qP ["web","r"] 8 (ud T)
def De(T:Txt K L):Sp:=λf H Q E=>E6 λ(p t:Addr)(m:Int)(g:hR)(d:ix)(r:Int)=>f=[.ref p,.int r]/\θ T.Web H p m t g d/\(0<=r->r<m->∃a b,ζ m d r a b/\∀e l c,eX m d r a b r=r::e->Order m r a e->H l=none->δ H c->c l=some (.lst (Vm m (S7 m d r a b e)))->Q (.ref l) c)/\(¬(0<=r/\r<m)->∀c,δ H c->E (.ref T.NoPlace) none c)
abbrev uC:Stmt:=top 76
def Li:ε ["web","r","weights","chosen","place","front"] ["web","r"] (aA uC):=.of
def xQ:Ψ (aA uC) "reversed":=.of
def Lg(T:Txt K L)(hq:bI (τ P w))(dj:kQ P w base T)(ph:Dr P w base T)(hW:qJ P w base T):Ok P w K L base "bearers" uC ["web","r"] 9 (De T):=λ_ _ D=>by
 refine D.F.Ϻ Li λο A ac s H vs Q E hr h=>?_;obtain⟨p,t,m,ps,f,r,rfl,W,k,e⟩:=h;have g:=W.go;have m1:=g.m1;have Ζ:=g.Ζ;obtain⟨dx,ob⟩:=W.ob;refine⟨_,(aw (Κ 2 (Ξ hW hr bT (aa (γ 0) (aa (γ 1) ap)))) (aw (Κ 3 (aX oO (eK (aa qC ap)) (cu (γ 0) rfl))) (aw (gf PassesOwn.leaving rfl (uc xQ.g T.reversed (Ξ dj hr bT (aa (γ 0) (aa (γ 1) ap)))) (iH (n:=2) rfl (bQ (ϊ 4) (bQ (ϊ 5) fI))) (ay (bU (lL (Ξ ph hr bT (aa (γ 0) (aa (γ 2) (aa (γ 4) (aa (γ 5) ap)))))) (ay (jv (γ 4) (nD (γ 3) (γ 5) gI))) bE))) (ay (aY (γ 3)))))),?_⟩;walk_at "t";refine⟨p,t,m,ps,f,r,?_⟩;refine Vl rfl W (λr0 r1=>?_) e;obtain⟨c,d,R,k⟩:=k r0 r1;refine⟨c,d,R,λlw H0 nw s0 ew=>⟨bX (by simp),λl0 n0=>?_⟩⟩;have J:=δ.new (.lst [V.ξ]) n0;refine⟨T.Web,dx,_,J _ _ (s0 _ _ ob),T.Ε,T.Λ,_,eT m t,?_⟩;refine⟨l0,m,_,rfl,rfl,au,by lia,by lia,bX (by simp;lia),λl I=>?_⟩;rw[FY];have s2:=J.trans (δ.new (.lst (List.replicate m.toNat V.ξ)) I);have nl:=(s0.trans J).free I;have S:lw≠l:=λz=>by rw[<-z,J _ _ ew]at I;cases I
 have el:Vm m (λ_=>none)=List.replicate m.toNat V.ξ:=by
  unfold Vm;rw[List.map_const',b6]
  rfl
 have e1:upd (upd H0 l0 (.lst [V.ξ])) l (.lst (List.replicate m.toNat V.ξ)) l=some (.lst (Vm m (S7 m f r c d []))):=by rw[au,<-el];rfl
 generalize upd (upd H0 l0 (.lst [V.ξ])) l (.lst (List.replicate m.toNat V.ξ))=H1 at s2 e1 ⊢;have Uo:=s0.trans s2;have an:=s2 _ _ ew;refine⟨p,t,m,ps,f,r,?_⟩;refine Vl rfl (W.same Uo) (λ_ _=>⟨c,d,R,λX B y H2 ai n2 s3 e2 pa O=>?_⟩) (λz=>absurd ⟨r0,r1⟩ z);have VP:X≠l:=λz=>by rw[z,e1]at n2;cases n2
 refine⟨X,rfl,_,ι.of e2,?_⟩;have U:B.length=y.reverse.length:=Paired.length pa;have ll:((ic m f r c d).length:Int)=m:=by rw[tG];lia
 refine qY (K:=K) (xs:=B.map V.ref) (λi G j=>δ H j/\j lw=some (.lst ((ic m f r c d).map V.int))/\j X=some (.lst (B.map V.ref))/\ω j c B y.reverse/\∃(v4 v5:Option V),j l=some (.lst (Vm m (S7 m f r c d (y.take i))))/\G=[some (V.ref p),some (V.int r),some (V.ref lw),some (V.ref l),v4,v5]) ⟨Uo.trans s3,s3 _ _ an,e2,pa,_,_,s3 _ _ e1,rfl⟩ (λi G j _ z=>ι.of z.2.2.1) ?_ ?_
 .rintro i x G j N hN hx ⟨s4,w3,e3,UX,v4,v5,c3,rfl⟩;have il:=(ax.mp hx).1;rw[aQ,ag]at il;rw[aQ]at U;rw[cw (by rw[ag];exact il),ag]at hx;obtain⟨q,v,rfl,Ti,Z,eq⟩:=UX.get hx;rw[cw (by lia),show y.length-1-(B.length-1-i)=i by lia]at Z;have vm:=aP Z;have o:=O.ϓ v vm;have vn:=O.ne vm;have u:=R.up v o.1 o.2 vn;obtain⟨Y,hk,k0,k1⟩:=jB g R o.1 o.2 vn;have ek:tup f c v=Y:=by unfold tup;rw[hk];rfl
  walk_at "";refine⟨_,Α.of eq,rfl,_,_,rfl,_,_,rfl,rfl,?_⟩;refine⟨p,lw,t,m,ps,f,ic m f r c d,v,c v,Y,rfl,W.same s4,ι.of w3,ll,o,u.1,hk,k1,k0,_,rfl,?_⟩;rw[kN o.1 o.2,kN u.1.1 u.1.2];have C:y.take (i+1)=y.take i++[v]:=by rw[bg,Z];rfl
  by_cases M:ώ m f r c d v*Y=ώ m f r c d (c v)
  .rw[aj (bo M)];refine nZ c3 u.1.1 (by unfold Vm;rw[ag,b6];lia) ?_;rw[QW u.1.1 u.1.2];exact hN _ _ ⟨s4.put nl _,by rw[aM S];exact w3,by rw[aM VP];exact e3,Paired.imp' (λa b h=>by rw[aM (cZ h c3 (by nofun))];exact h) UX,_,_,by rw[au,C,Mp (by rw[ek];exact M)],rfl⟩
  .rw[ah (by rw[bM M];decide)];exact hN _ _ ⟨s4,w3,e3,UX,_,_,by rw[C,MS (by rw[ek];exact M)];exact c3,rfl⟩
 .rintro G j ⟨s4,w3,e3,UX,v4,v5,c3,rfl⟩;rw[aQ]at U;rw[ag,U,bC]at c3;walk_at "";exact k y l j ai O nl s4 c3
abbrev Fu(P w base)(T:Txt K L):=Cb P w K L base "bearers" uC ["web","r"] 9 (De T)
def vU(T:Txt K L):Sp:=λd H Q _=>∃(a:Addr)(c:fc),d=[.ref a]/\ι K H a (c.map V.int)/\c.length<=1000/\∀l b,H l=none->δ H b->b l=some (.lst ((Vp c).map V.int))->Q (.ref l) b
abbrev nN:Stmt:=top 91
def vT:ε ["values","found","row"] ["values"] (aA nN):=.of
def yw:Ug (aA nN) "row":=.of (by kernel_rfl)
def yt:Ψ (aA nN) "zip":=.of
def DB(T:Txt K L)(hq:bI (τ P w)):Ok P w K L base "differences" nN ["values"] 1 (vU T):=λ_ _ D=>by
 refine D.F.Ο vT λο A U s H vs Q E hr h=>?_;obtain⟨a,xs,rfl,ha,xl,k⟩:=h;refine⟨_,(aw (Κ 1 (eK ap)) (aw (Κ 2 (iO jN T.list (aa (γ 0) ap))) (aw (t9 PassesOwn.never (wQ (γ 2) (λ_=>rfl)) (aw (cI (TV (γ 1) (ψ bu (γ 2) aD))) (ay (tj (i:=2) vT.nd rfl yw.l rfl (l9 (Nc:=["earlier","later"]) 2 (by decide +kernel) (by decide +kernel) rfl (by decide +kernel) rfl) (Ia true true yt.g T.zip (aa (γ 2) (aa (AU DF (γ 2) (Ea aD) D8) ap))) (λ_ _ _ _=>(wr K rfl (n:=2) rfl (bQ (d6 (i:=0) (show(["earlier","later"]:hX).Nodup from by decide +kernel) rfl (Or.inl rfl)) (bQ (d6 (i:=1) (show(["earlier","later"]:hX).Nodup from by decide +kernel) rfl (Or.inl rfl)) fI)))) (λ_ _ _ _=>gj) (λ_ _ _ _=>(aX jp (pv 1) (pv 0))))))) (ay (aY (γ 1)))))),?_⟩;walk_at "s";unfold tSl F1 Tj;refine b9 λN0 h0=>?_;walk_at "";refine⟨bX (by simp),λl nl=>h0 _ _ (b9 λN1 Y=>?_)⟩;have s1:=δ.new (HO.lst []) nl;have e1:upd H l (HO.lst []) l=some (.lst (([]:fc).map V.int)):=au;generalize upd H l (HO.lst [])=H1 at s1 e1 ⊢;walk_at "";refine⟨_,.inl (s1.seq ha),λq X=>Y _ _ (b9 λN2 W=>?_)⟩;have s2:=δ.new (HO.lst (xs.map V.int)) X;have e2:upd H1 q (HO.lst (xs.map V.int)) q=some (.lst (xs.map V.int)):=au;have Uu:=s2 _ _ e1;have ϙ:=s1.trans s2;have B:q≠l:=λz=>by rw[z,e1]at X;cases X
 generalize upd H1 q (HO.lst (xs.map V.int))=H2 at ϙ e2 Uu ⊢;refine Ej (λn y j=>E3 λ(f ϵ:fc)(q:Addr)=>n=f.length/\ϵ++Vp f=Vp xs/\ϵ.length+f.length=xs.length/\q≠l/\j q=some (.lst (f.map V.int))/\j l=some (.lst (ϵ.map V.int))/\δ H j/\y=[some (V.ref a),some (V.ref l),some (V.ref q)]) _ ⟨xs,[],q,rfl,rfl,by simp,B,e2,Uu,ϙ,rfl⟩ ?_;rintro n y j NW hN Vk ⟨f,m,q,rfl,M,hl,B,e3,u,s3,rfl⟩;refine⟨_,rfl,!(f.map V.int).isEmpty,.inl ⟨_,ι.of e3,rfl⟩,?_⟩;cases f with
 | nil=>
   refine R7 (W _ _ ?_);walk_at "";have M:m=Vp xs:=by
    have:m++[]=Vp xs:=M;rw[ck]at this;exact this
   exact k l j nl s3 (by rw[u,M])
 | cons x r=>
   refine Sc ⟨NW,Vk,?_⟩;rw[aO]at hl;refine b9 λM1 k1=>?_;walk_at "";refine⟨S9 u,Γ e3 (v:=V.int x) (fR (bO 0) rfl) (oN u (d8 (by rw[ag];lia)) (k1 _ _ ?_))⟩;have e4:upd j l (HO.lst (m.map V.int++[V.int x])) l=some (.lst ((m++[x]).map V.int)):=by rw[au,aq];rfl
   have t:upd j l (HO.lst (m.map V.int++[V.int x])) q=some (.lst ((x::r).map V.int)):=by rw[aM B];exact e3
   have s4:δ H (upd j l (HO.lst (m.map V.int++[V.int x]))):=λb o e=>by rw[aM (cD e nl)];exact s3 _ _ e
   generalize upd j l (HO.lst (m.map V.int++[V.int x]))=H4 at e4 t s4 ⊢;walk_at "";refine slI (ι.of t) λp np=>?_;have O:=δ.new (HO.lst ((wE (x::r) (some 1) none).map V.int)) np;have e5:upd H4 p (HO.lst ((wE (x::r) (some 1) none).map V.int)) p=some (.lst (((x::r).drop 1).map V.int)):=by
    rw[au,<-HA,Nn _ (by decide),nj]
    rfl
   generalize upd H4 p (HO.lst ((wE (x::r) (some 1) none).map V.int))=H5 at O e5 ⊢;have G:=O _ _ t;have ZK:=O _ _ e4;have S:=s4.trans O;refine⟨q,p,⟨rfl,rfl⟩,⟨_,ι.of G⟩,⟨_,ι.of e5⟩,λpc T4=>?_⟩;refine Bh (K:=K) (c:=true) (d:=true) (a:=q) (b:=p) (xs:=(x::r).map V.int) (zs:=((x::r).drop 1).map V.int) (λi C y J=>δ H5 J/\J pc=some (.lst C)/\C=((((x::r).zip ((x::r).drop 1)).take i).map λq=>q.2-q.1).map V.int/\∃v w,y=[v,w]) ⟨δ.new _ T4,au,rfl,_,_,rfl⟩ (λi C y J z=>⟨ι.of (z.1 _ _ G),ι.of (z.1 _ _ e5)⟩) ?_ ?_
   .rintro i y1 y2 C y J qt N hN6 Y W ⟨s6,e6,rfl,v,w,rfl⟩ nqt;obtain⟨R,I,rfl⟩:=List.μ Y;obtain⟨a2,Z,rfl⟩:=List.μ W;have ez:((x::r).zip ((x::r).drop 1))[i]?=some (R,a2):=by
     rw[iX];exact⟨I,Z⟩
    have il:=(ax.mp I).1;have et:((x::r).zip ((x::r).drop 1)).take (i+1)=((x::r).zip ((x::r).drop 1)).take i++[(R,a2)]:=(by rw[bg,ez];rfl);rw[aO]at il;walk_at "";have s7:=δ.new (HO.tup [V.int R,V.int a2]) nqt;refine⟨_,Α.of au,rfl,_,_,rfl,_,_,rfl,rfl,?_⟩;walk_at "";refine⟨s7 _ _ e6,d8 (by rw[ag,ag,bq];lia),hN6 _ _ _ ⟨?_,au,?_,_,_,rfl⟩⟩
    .exact λb o e=>by rw[aM (cD e T4)];exact s7 _ _ (s6 _ _ e)
    .rw[et,aq,aq]
     rfl
   .rintro C y J ⟨s6,e6,rfl,v,w,rfl⟩;have en:((((x::r).zip ((x::r).drop 1)).take (min ((x::r).map V.int).length (((x::r).drop 1).map V.int).length)).map λq=>q.2-q.1)=Yd (x::r):=by
     unfold Yd;rw[bZ];rw[iV,ag,ag];exact aJ _
    rw[en]at e6;have ac:H5 l≠none:=(by rw[ZK];intro z;cases z);exact hN _ _ _ (by rw[Ee];simp) ⟨Yd (x::r),m++[x],pc,rfl,by rw[cj,<-M,OH];rfl,by rw[aH,Ee];simp;lia,λz=>ac (by rw[<-z];exact T4),e6,s6 _ _ ZK,S.trans s6,rfl⟩
def Az(T:Txt K L):Sp:=λe H Q _=>E3 λ(a:Addr)(b:fc)(n:Int)=>e=[.ref a,.int n]/\ι K H a (b.map V.int)/\b.length<=100/\-100<=n/\n.natAbs<Td/\(∀c∈b,c.natAbs<Td)/\(∀k,k<b.length->(Zb n k).natAbs<Td)/\∀d,δ H d->Q (.int (Zc b n 0)) d
abbrev qp:Stmt:=top 92
def Ak:ε ["found","at","value","choices","k","difference"] ["found","at"] (aA qp):=.of
def z9:Ug (aA qp) "value":=.of (by kernel_rfl)
def vS:Ψ (aA qp) "enumerate":=.of
def IT(T:Txt K L)(O:bI (τ P w)):Ok P w K L base "value_at" qp ["found","at"] 1 (Az T):=λ_ _ D=>by
 refine D.F.Ο Ak λM A p s H J Q E R h=>?_;obtain⟨a,f,n,rfl,r,I,G,nb,cb,u,k⟩:=h;refine⟨_,(aw (Κ 2 aD) (aw (Κ 3 aD) (aw (gf PassesOwn.never rfl (zI true vS.g T.enumerate (γ 0)) (iH (n:=2) rfl (bQ (ϊ 4) (bQ (ϊ 5) fI))) (aw (MO (i:=2) Ak.nd rfl (Or.inl z9.l) (aX tJ (γ 5) (γ 3)) sB) (ay (Κ 3 (aX eY (aX tJ (γ 3) (aX jp (γ 1) (γ 4))) (aX gc (γ 4) aD)))))) (ay (aY (γ 2)))))),?_⟩;walk_at "t";refine⟨⟨_,r⟩,?_⟩;refine Hm (K:=K) (c:=true) (xs:=f.map V.int) (λi e b=>δ H b/\∃o j,e=[some (V.ref a),some (V.int n),some (V.int (Zc (f.take i) n 0)),some (V.int (Zb n i)),o,j]) ⟨δ.refl _,_,_,by rw[Px,dU,D2]⟩ (λi e b z=>z.1.seq r) ?_ ?_
 .rintro i x e b q N hN hx ⟨s2,o,j,rfl⟩ nq;obtain⟨c,m,rfl⟩:=List.μ hx;have y:=(ax.mp m).1;have C:f.take (i+1)=f.take i++[c]:=by rw[bg,m];rfl
  have B:=δ.new (HO.tup [V.int (i:Int),V.int c]) nq;have t:=cb c (aP m);have d:=u i y;have v:(n-(i:Int)).natAbs<Td:=by
   have:(200:Nat)<Td:=sk (k:=8) (by decide) (by decide)
   lia
  walk_at "";refine⟨_,Α.of au,rfl,_,_,rfl,_,_,rfl,rfl,c,rfl,wc t d,(i:Int),rfl,wc d v,(i:Int),rfl,⟨by lia,by lia⟩,hN _ _ ⟨s2.trans B,some (V.int (i:Int)),some (V.int c),?_⟩⟩;rw[<-OY,Int.mul_ediv_cancel _ (show(i:Int)+1≠0 by lia),C,P2,bq,Nat.min_eq_left (by lia),Nat.zero_add]
 .rintro e b ⟨s2,o,j,rfl⟩;rw[ag,bC];walk_at "";exact k b s2
abbrev Cs(P w base)(T:Txt K L):=Cb P w K L base "value_at" qp ["found","at"] 1 (Az T)
def uY(T:Txt K L):Sp:=λe H Q _=>E3 λ(a:Addr)(b:fc)(n:Nat)=>e=[.ref a,.int n]/\ι K H a (b.map V.int)/\b.length<=100/\n<=100/\(∀c∈b,c.natAbs<Td)/\∀l d,H l=none->δ H d->d l=some (.lst (((List.range n).map λi=>Tc b i 0).map V.int))->Q (.ref l) d
abbrev pE:Stmt:=top 93
def Cz:ε ["found","many"] ["found","many"] (aA pE):=.of
def wz:Ψ (aA pE) "range":=.of
def C6(T:Txt K L)(x:bI (τ P w))(f:Cs P w base T):Ok P w K L base "first_values" pE ["found","many"] 2 (uY T):=λ_ _ D=>by
 refine D.F.Ο Cz λI A q s H C Q E y h=>?_;obtain⟨a,r,n,rfl,z,u,nb,cb,k⟩:=h;refine⟨_,(ay (aY (gG rfl (UU ["at","found"] 1 [0]) (kI wz.g T.range (aa (γ 1) ap)) (λ_ _ _ _=>(d6 (i:=0) (show(["at","found"]:hX).Nodup from by decide +kernel) rfl (Or.inl rfl))) (λ_ _ _ _=>gj) (λ_ _ _ _=>(gD f.G (y.mono (by decide)) (by rfl) f.D.m f.D.F.kp f.D.b .nil (d7 x) (aa (pv 1) (aa (pv 0) ap))))))),?_⟩;walk_at "t";refine⟨by lia,by lia,λp l=>?_⟩;rw[dJ];refine kj (lo:=0) (n:=n) (λi d j c=>δ H c/\c p=some (.lst d)/\d=((List.range i).map λi=>Tc r i 0).map V.int/\∃v,j=[v,some (V.ref a)]) ⟨δ.new _ l,au,rfl,_,rfl⟩ ?_ ?_
 .rintro i d j c N hN hi ⟨s2,e2,rfl,v,rfl⟩;walk_at "";refine⟨a,r,(i:Nat),by rw[ee],s2.seq z,u,by lia,?_,cb,λk _=>(show ch i k<Td from Rx (by lia)),λB t=>⟨t _ _ e2,d8 (by rw[ag,ag,cP];lia),hN _ _ _ ⟨?_,au,?_,_,rfl⟩⟩⟩
  .exact(show i<Td from sk (k:=7) (by lia) (by decide))
  .exact λb o e=>by rw[aM (cD e l)];exact t _ _ (s2 _ _ e)
  .rw[dZ,aq,aq]
   rfl
 .rintro d j c ⟨s2,e2,rfl,v,rfl⟩;exact k p c l s2 e2
def Ca(T:Txt K L):Sp:=λh H Q _=>E16 λ(t j w i lw d:Addr)(a:List (Str×V))(m:Int)(l:hR)(f:ix)(b:fc)(e:List V)(p k c:Int)(g:Option Int)=>h=[.ref t,.int p,.int k]/\H t=some (.ins T.Tally j a)/\a.lookup ("web":Str)=some (.ref w)/\a.lookup ("weights":Str)=some (.ref lw)/\a.lookup ("bearers":Str)=some (.ref d)/\θ T.Web H w m i l f/\H lw=some (.lst (b.map V.int))/\(b.length:Int)=m/\H d=some (.lst e)/\(0<=p/\p<m)/\(0<=k/\k<m)/\e[p.toNat]?=some (Va g)/\cL f k p=some c/\2<=c/\c<=1000000/\Q (.bl (decide (b.getD k.toNat 0*c=b.getD p.toNat 0)&&decide (g≠some k))) H
abbrev yR:Stmt:=top 100
def Ks:ε ["tally","place","kid"] ["tally","place","kid"] (aA yR):=.of
def Kx(T:Txt K L)(C:bI (τ P w))(o:Dr P w base T):Ok P w K L base "is_free" yR ["tally","place","kid"] 6 (Ca T):=λ_ _ D=>by
 refine D.F.Ο Ks λο A l s H Y Q E O h=>?_;obtain⟨t,i,w,v,lw,X,g,m,U,G,a,Z,p,k,c,d,rfl,f,J,N,B,W,x,R,S,n,M,I,u,y,r,q⟩:=h;refine⟨_,(ay (aY (vR (Θ o O C (aa (cu (γ 0) rfl) (aa (cu (γ 0) rfl) (aa (γ 2) (aa (γ 1) ap))))) (wB (jU pj (γ 2) (ψ bu (cu (γ 0) rfl) (γ 1)) (kY _)))))),?_⟩;walk_at "t";refine⟨T.Tally,i,g,f,T.Η,T.ϡ,_,J,T.Tally,i,g,f,T.Η,T.T3,_,N,w,lw,v,m,U,G,a,k,p,c,rfl,W,ι.of x,R,M,n,u,r,y,⟨_,rfl,?_⟩⟩;by_cases b:a.getD k.toNat 0*c=a.getD p.toNat 0
 .rw[aj (bo b)];refine⟨T.Tally,i,g,f,T.Η,T.yi,_,B,Γ S (fR n.1 I) ⟨?_,?_⟩⟩
  .cases d<;>rfl
  .have e:(!decide (V.int k=Va d))=(decide (a.getD k.toNat 0*c=a.getD p.toNat 0)&&decide (d≠some k)):=by
    rw[bo b,iU];cases d with
    | none=>simp[Va]
    | some j=>
      by_cases z:j=k
      .subst z;simp[Va]
      .simp[Va,z,Ne.symm z]
   rw[e];exact q
 .rw[ah (by rw[b4];exact b)];rw[bM b,gh]at q;exact q
def y3(T:Txt K L):Sp:=λg H Q _=>E5 λ(a b:Addr)(e d:fc)(n:Nat)=>g=[.ref a,.ref b,.int n]/\ι K H a (e.map V.int)/\ι K H b (d.map V.int)/\n<e.length/\n<d.length/\n<=100/\(∀c∈e,c.natAbs<Td)/\(∀c∈d,c.natAbs<Td)/\∀f,δ H f->Q (.int (Uh (λi=>e.getD i 0) (λi=>d.getD i 0) n)) f
abbrev rR:Stmt:=top 95
def Go:ε ["one","other","at"] ["one","other","at"] (aA rR):=.of
def yL:Ψ (aA rR) "range":=.of
def Gr(T:Txt K L)(R:bI (τ P w)):Ok P w K L base "parted_at" rR ["one","other","at"] 1 (y3 T):=λ_ _ D=>by
 refine D.F.Ο Go λO A r s H M Q E S h=>?_;obtain⟨a,b,d,c,n,rfl,C,y,G,I,J,B,z,k⟩:=h;refine⟨_,(ay (aY (TB (AV rfl) T.sum (aa (gG rfl (UU ["k","one","other","at"] 1 [0,1,2]) (kI yL.g T.range (aa (aX gc (Ϩ 2) aD) ap)) (λ_ _ _ _=>(d6 (i:=0) (show(["k","one","other","at"]:hX).Nodup from by decide +kernel) rfl (Or.inl rfl))) (λ_ _ _ _=>gj) (λ_ _ _ _=>(aX tJ (ψ (oW K rfl) (pv 1) (pv 0)) (ψ (oW K rfl) (pv 2) (aX jp (pv 3) (pv 0)))))) ap)))),?_⟩;walk_at "t";refine⟨by lia,by lia,λp x=>?_⟩;rw[show((n:Int)+1).toNat=n+1 by lia];refine kj (lo:=0) (n:=n+1) (λi j l f=>δ H f/\f p=some (.lst j)/\j=((List.range i).map λk=>d.getD k 0*c.getD (n-k) 0).map V.int/\∃v,l=[v,some (V.ref a),some (V.ref b),some (V.int n)]) ⟨δ.new _ x,au,rfl,_,rfl⟩ ?_ ?_
 .rintro i j l f N hN hi ⟨s2,e2,rfl,v,rfl⟩;walk_at "";have m:i<d.length:=by lia
  have q:n-i<c.length:=by lia
  have u:d.getD i 0=d[i]:=by rw[bn,az m];rfl
  have t:c.getD (n-i) 0=c[n-i]:=by rw[bn,az q];rfl
  refine⟨a,_,_,_,rfl,rfl,s2.seq C,fR (v:=V.int (d.getD i 0)) (by lia) (by rw[show((0:Int)+(i:Int)).toNat=i by lia,aN,az m,u];rfl),b,_,_,_,rfl,rfl,s2.seq y,fR (v:=V.int (c.getD (n-i) 0)) (by lia) (by rw[show((n:Int)-(0+(i:Int))).toNat=n-i by lia,aN,az q,t];rfl),d.getD i 0,rfl,c.getD (n-i) 0,rfl,wc (by rw[u];exact B _ (dh m)) (by rw[t];exact z _ (dh q)),e2,d8 (by rw[ag,ag,cP];lia),hN _ _ _ ⟨?_,au,?_,_,rfl⟩⟩
  .exact λb o e=>by rw[aM (cD e x)];exact s2 _ _ e
  .rw[dZ,aq,aq]
   rfl
 .rintro j l f ⟨s2,e2,rfl,v,rfl⟩;refine⟨p,rfl,_,.inl (ι.of e2),?_⟩;rw[JA];exact k f s2
def Fh(T:Txt K L):Sp:=λg H Q _=>E4 λ(a b:Addr)(d e:fc)=>g=[.ref a,.ref b]/\ι K H a (d.map V.int)/\ι K H b (e.map V.int)/\d.length<=e.length/\d.length<=100/\(∀c∈d,c.natAbs<Td)/\(∀c∈e,c.natAbs<Td)/\∀l f,H l=none->δ H f->f l=some (.lst (((List.range d.length).map λn=>Uh (λi=>d.getD i 0) (λi=>e.getD i 0) n).map V.int))->Q (.ref l) f
abbrev xB:Stmt:=top 94
def MD:ε ["one","other"] ["one","other"] (aA xB):=.of
def CH:Ψ (aA xB) "range":=.of
def Nd(T:Txt K L)(C:bI (τ P w))(f:Cb P w K L base "parted_at" rR ["one","other","at"] 1 (y3 T)):Ok P w K L base "parted" xB ["one","other"] 2 (Fh T):=λ_ _ D=>by
 refine D.F.Ο MD λS A r s H R Q E I h=>?_;obtain⟨a,b,q,t,rfl,x,y,O,M,B,z,k⟩:=h;refine⟨_,(ay (aY (gG rfl (UU ["at","one","other"] 1 [0,1]) (kI CH.g T.range (aa (TB gP T.len (aa (Ϩ 0) ap)) ap)) (λ_ _ _ _=>(d6 (i:=0) (show(["at","one","other"]:hX).Nodup from by decide +kernel) rfl (Or.inl rfl))) (λ_ _ _ _=>gj) (λ_ _ _ _=>(gD f.G (I.mono (by decide)) (by rfl) f.D.m f.D.F.kp f.D.b .nil (d7 C) (aa (pv 1) (aa (pv 2) (aa (pv 0) ap)))))))),?_⟩;walk_at "t";refine⟨_,.inl x,?_⟩;rw[ag];refine⟨by lia,by lia,λp l=>?_⟩;rw[dJ];refine kj (lo:=0) (n:=q.length) (λi d j c=>δ H c/\c p=some (.lst d)/\d=((List.range i).map λn=>Uh (λi=>q.getD i 0) (λi=>t.getD i 0) n).map V.int/\∃v,j=[v,some (V.ref a),some (V.ref b)]) ⟨δ.new _ l,au,rfl,_,rfl⟩ ?_ ?_
 .rintro i d j c N hN hi ⟨s2,e2,rfl,v,rfl⟩;walk_at "";refine⟨a,b,q,t,i,by rw[ee],s2.seq x,s2.seq y,hi,by lia,by lia,B,z,λJ u=>⟨u _ _ e2,d8 (by rw[ag,ag,cP];lia),hN _ _ _ ⟨?_,au,?_,_,rfl⟩⟩⟩
  .exact λb o e=>by rw[aM (cD e l)];exact u _ _ (s2 _ _ e)
  .rw[dZ,aq,aq]
   rfl
 .rintro d j c ⟨s2,e2,rfl,v,rfl⟩;exact k p c l s2 e2
def Ah(T:Txt K L):Sp:=λe H Q _=>XC λ(t d w g:Addr)(a:List (Str×V))(m:Int)(f:hR)(b:ix)(p k c:Int)(n:Nat)=>e=[.ref t,.int p,.int k,.int n]/\H t=some (.ins T.Tally d a)/\a.lookup ("web":Str)=some (.ref w)/\θ T.Web H w m g f b/\(0<=p/\p<m)/\(0<=k/\k<m)/\cL b k p=some c/\2<=c/\c<=1000000/\Q (.int (((n:Int)+1)*c-1)) H
abbrev xt:Stmt:=top 103
def IL:ε ["tally","place","kid","given"] ["tally","place","kid","given"] (aA xt):=.of
def Ja(T:Txt K L)(l:bI (τ P w))(r:mC P w base T):Ok P w K L base "held_for" xt ["tally","place","kid","given"] 4 (Ah T):=λ_ _ D=>by
 refine D.F.Ο IL λI A b s H C Q E z h=>?_;obtain⟨t,y,w,g,i,m,B,o,p,k,c,n,rfl,f,v,W,u,x,e,J,G,q⟩:=h;refine⟨_,(ay (aY (aX jp (aX j6 (aX gc (γ 3) aD) (Θ r z l (aa (cu (γ 0) rfl) (aa (γ 2) (aa (γ 1) ap))))) aD))),?_⟩;walk_at "t";refine⟨T.Tally,y,i,f,T.Η,T.ϡ,_,v,w,g,m,B,o,k,p,rfl,W,λd _ _ _ _ a=>?_,λj=>absurd ⟨x,u⟩ j,λ_ _ _ _ a=>absurd (e.symm.trans a) (by nofun)⟩;have:d=c:=bF (a.symm.trans e);subst this;exact⟨d,rfl,.inr ⟨by lia,by lia⟩,q⟩
def B9(T:Txt K L):Sp:=λi H Q _=>WZ λ(t h f b ld:Addr)(g:List (Str×V))(d pv:List V)(p:Int)(a:fc)(n:Nat)=>i=[.ref t,.int p,.int n]/\H t=some (.ins T.Tally h g)/\g.lookup ("rests":Str)=some (.ref f)/\H f=some (.lst d)/\0<=p/\d[p.toNat]?=some (.ref b)/\H b=some (.lst (.ref ld::pv))/\H ld=some (.lst (a.map V.int))/\a.length<=100/\n<Td/\(∀c∈a,c.natAbs<Td)/\(∀k,k<a.length->ch n k<Td)/\∀e,δ H e->Q (.int (Tc a n 0)) e
abbrev yQ:Stmt:=top 101
def KO:ε ["tally","place","held"] ["tally","place","held"] (aA yQ):=.of
def Kg(T:Txt K L)(j:bI (τ P w))(e:Cs P w base T):Ok P w K L base "ways_of" yQ ["tally","place","held"] 2 (B9 T):=λ_ _ D=>by
 refine D.F.Ο KO λz A a s H y Q E v h=>?_;obtain⟨t,u,C,B,ld,i,x,pv,p,f,n,rfl,b,l,g,q,m,r,o,d,nb,cb,c,k⟩:=h;refine⟨_,(ay (aY (Θ e v j (aa (ψ bu (jR bu (cu (γ 0) rfl) (γ 1) (λ_ _=>rfl)) aD) (aa (γ 2) ap))))),?_⟩;walk_at "t";refine⟨T.Tally,u,i,b,T.Η,T.Um,_,l,Γ g (fR q m) (Γ r (fR (bO 0) rfl) ?_)⟩;exact⟨ld,f,n,rfl,ι.of o,d,by lia,nb,cb,c,k⟩
abbrev EG(P w base)(T:Txt K L):=Cb P w K L base "ways_of" yQ ["tally","place","held"] 2 (B9 T)
def xJ(T:Txt K L):Sp:=λi H Q _=>E18 λ(t l w j h f ld:Addr)(b:List (Str×V))(m:Int)(o:hR)(e:ix)(d pv:List V)(p k:Int)(c n:Nat)(a:fc)=>i=[.ref t,.int p,.int k,.int n]/\H t=some (.ins T.Tally l b)/\b.lookup ("web":Str)=some (.ref w)/\b.lookup ("rests":Str)=some (.ref h)/\θ T.Web H w m j o e/\(0<=p/\p<m)/\(0<=k/\k<m)/\cL e k p=some (c:Int)/\2<=c/\c<=1000000/\H h=some (.lst d)/\d[k.toNat]?=some (.ref f)/\H f=some (.lst (.ref ld::pv))/\H ld=some (.lst (a.map V.int))/\a.length<=24/\n<=24/\(∀c∈a,c.natAbs<Td)/\∀g,δ H g->Q (.int (Tc a (Φ c n) 0)) g
abbrev uw:Stmt:=top 102
def FR:ε ["tally","place","kid","given"] ["tally","place","kid","given"] (aA uw):=.of
def FP(T:Txt K L)(g:bI (τ P w))(v:Cb P w K L base "held_for" xt ["tally","place","kid","given"] 4 (Ah T))(x:EG P w base T):Ok P w K L base "ways_given" uw ["tally","place","kid","given"] 5 (xJ T):=λ_ _ D=>by
 refine D.F.Ο FR λο A b s H vs Q E o h=>?_;obtain⟨t,l,w,G,U,R,ld,f,m,X,I,r,pv,p,k,c,n,z,rfl,d,S,J,W,M,i,N,c2,B,C,a,V,O,Y,y,cb,q⟩:=h;refine⟨_,(ay (aY (Θ x o g (aa (γ 0) (aa (γ 2) (aa (Θ v o g (aa (γ 0) (aa (γ 1) (aa (γ 2) (aa (γ 3) ap))))) ap)))))),?_⟩;walk_at "t";have e:((n:Int)+1)*(c:Int)-1=((Φ c n:Nat):Int):=by
  unfold Φ;have:1<=(n+1)*c:=eA (show 1<=n+1 by lia) (show 1<=c by lia);rw[Int.natCast_sub this,jS]
  rfl
 have u:Φ c n+1<=2^25:=by
  unfold Φ;have Z:(n+1)*c<=25*1000000:=eA (by lia) B;have h2:(2:Nat)^25=33554432:=rfl
  lia
 refine⟨t,l,w,G,f,m,X,I,p,k,c,n,rfl,d,S,W,M,i,N,by lia,by lia,?_⟩;rw[e];exact⟨t,l,U,R,ld,f,r,pv,k,z,Φ c n,rfl,d,J,C,i.1,a,V,O,by lia,sk (k:=25) (by lia) (by decide),cb,λj hj=>Kc u (by lia),q⟩
def uJ(H:Hp)(b:List Int->Nat)(f:List Int->Nat->Int)(e:hR)(a:List (List Int)):Prop:=Paired (λld d=>∃c:List Int,H ld=some (.lst (c.map V.int))/\Ϭ (b d) c (f d)) e a
structure Zj(H:Hp)(rs:ix)(m p:Int)(rv:List V)(W:Int->Nat->Int)(c d:hB)(k:Int):Prop where
 k0:0<=k
 k1:k<m
 tl:cL rs k p=some (c k:Int)
 c2:2<=c k
 c1:c k<=1000000
 wk:vH (d k) (W k)
 at_:E4 λ(lp ld:Addr)(pv:List V)(cs:fc)=>rv[k.toNat]?=some (.ref lp)/\H lp=some (.lst (.ref ld::pv))/\H ld=some (.lst (cs.map V.int))/\Ϭ 15000 cs (W k)
def XI(a:fc)(b:Option Int)(c:hB)(p k:Int):Bool:=decide (a.getD k.toNat 0*(c k:Int)=a.getD p.toNat 0)&&decide (b≠some k)
def W8(a:Option Int)(k:Int):Bool:=decide (a=some k)
def Aw(T:Txt K L):Sp:=λx H Q _=>E23 λ(t z w y lw j u v o:Addr)(a:List (Str×V))(m:Int)(A:hR)(q:ix)(f:fc)(n s i:List V)(p:Int)(b:fc)(h:Option Int)(W:Int->Nat->Int)(c d:hB)=>x=[.ref t,.int p]/\H t=some (.ins T.Tally z a)/\a.lookup ("web":Str)=some (.ref w)/\a.lookup ("weights":Str)=some (.ref lw)/\a.lookup ("bearers":Str)=some (.ref j)/\a.lookup ("kids":Str)=some (.ref u)/\a.lookup ("rests":Str)=some (.ref v)/\θ T.Web H w m y A q/\H lw=some (.lst (f.map V.int))/\(f.length:Int)=m/\H j=some (.lst n)/\H u=some (.lst s)/\H v=some (.lst i)/\(0<=p/\p<m)/\n[p.toNat]?=some (Va h)/\s[p.toNat]?=some (.ref o)/\H o=some (.lst (b.map V.int))/\(∀k∈b,Zj H q m p i W c d k)/\((b.map λk=>d k+1).sum:Int)<m/\∀l r e,H l=none->δ H e->e l=some (.lst (r.map V.ref))->uJ e (Ut d) (ϟ (XI f h c p) (W8 h) (λk g=>W k (Φ (c k) g))) r (VZ b)->Q (.ref l) e
abbrev ku:Stmt:=top 99
def si:ε ["tally","place","many","rests","kid","ways"] ["tally","place"] (aA ku):=.of
def zY:VX (aA ku) "rests":=.of (by kernel_rfl)
def Dt:VX (aA ku) "kid":=.of (by kernel_rfl)
def Bf:VX (aA ku) "ways":=.of (by kernel_rfl)
def qz:Ψ (aA ku) "reversed":=.of
def zZ:Ψ (aA ku) "range":=.of
def Bx:Ψ (aA ku) "list":=.of
def IU(T:Txt K L)(hq:bI (τ P w))(pZ:Cb P w K L base "differences" nN ["values"] 1 (vU T))(re:Cb P w K L base "first_values" pE ["found","many"] 2 (uY T))(yo:Cb P w K L base "is_free" yR ["tally","place","kid"] 6 (Ca T))(AL:Cb P w K L base "parted" xB ["one","other"] 2 (Fh T))(mI:Cb P w K L base "ways_given" uw ["tally","place","kid","given"] 5 (xJ T)):Ok P w K L base "rests_of" ku ["tally","place"] 7 (Aw T):=λ_ _ D=>by
 refine D.F.Ο si λο A dk s H vs Q E hr h=>?_;obtain⟨t,dx,w,tw,lw,lb,lk,lr,ZL,fs,m,ps,rs,xs,cv,kv,rv,p,ks,ob,W,c,d,rfl,ht,fw,fg,fb,fk,fr,WA,eg,xl,eb,ek,dn,hp,bl,dp,bm,Zd,dm,q⟩:=h;refine⟨_,(aw (Κ 2 (cu (cu (Ϩ 0) rfl) rfl)) (aw (sx (i:=3) si.nd rfl (Or.inr zY.l) (eK (aa (eK (aa aD ap)) ap))) (aw (gf PassesOwn.never rfl (uc qz.g T.reversed (ψ bu (cu (Ϩ 0) rfl) (Ϩ 1))) (d6 (i:=4) si.nd rfl (Or.inr Dt.l)) (aw (sx (i:=5) si.nd rfl (Or.inr Bf.l) (gG rfl (UU ["given","tally","place","kid"] 1 [0,1,4]) (kI zZ.g T.range (aa (γ 2) ap)) (λ_ _ _ _=>(d6 (i:=0) (show(["given","tally","place","kid"]:hX).Nodup from by decide +kernel) rfl (Or.inl rfl))) (λ_ _ _ _=>gj) (λ_ _ _ _=>(gD mI.G (hr.mono (by decide)) (by rfl) mI.D.m mI.D.F.kp mI.D.b .nil (d7 hq) (aa (pv 1) (aa (pv 2) (aa (pv 3) (aa (pv 0) ap)))))))) (ay (bU (lL (Θ yo hr hq (aa (Ϩ 0) (aa (Ϩ 1) (aa (Ϩ 4) ap))))) (ay (cI (TV (Ϩ 3) (Θ pZ hr hq (aa (Θ AL hr hq (aa (Ϩ 5) (aa (Θ re hr hq (aa (ψ bu (Ϩ 3) (lz jo aD)) (aa (γ 2) ap))) ap))) ap))))) (ay (bU (Ν cN (Ϩ 4) (ψ bu (cu (Ϩ 0) rfl) (Ϩ 1))) (ay (cI (TV (Ϩ 3) (Θ pZ hr hq (aa (gG rfl (UU ["count","rests"] 1 [3]) (iB (Ϩ 5)) (λ_ _ _ _=>(d6 (i:=0) (show(["count","rests"]:hX).Nodup from by decide +kernel) rfl (Or.inl rfl))) (λ_ _ _ _=>gj) (λ_ _ _ _=>(aX tJ (pv 0) (ψ (oW K rfl) (jR (oW K rfl) (pv 1) (lz jo aD) (λ_ _=>rfl)) aD)))) ap))))) (ay (cI (TV (Ϩ 3) (gG rfl (UU ["difference","ways"] 1 [5]) (iB (ψ bu (Ϩ 3) (lz jo aD))) (λ_ _ _ _=>(d6 (i:=0) (show(["difference","ways"]:hX).Nodup from by decide +kernel) rfl (Or.inl rfl))) (λ_ _ _ _=>gj) (λ_ _ _ _=>(aX tJ (ψ (oW K rfl) (pv 1) aD) (pv 0))))))))))))) (ay (aY (Rh rfl qz.g T.reversed Bx.g T.list (Ϩ 3))))))),?_⟩;walk_at "s";obtain⟨dw,wb⟩:=WA.ob;refine b9 λN0 h0=>?_;walk_at "";refine⟨T.Tally,dx,fs,ht,T.Η,T.ϡ,_,fw,w,rfl,T.Web,dw,_,wb,T.Ε,T.Λ,_,eT _ _,h0 _ _ (b9 λN1 h1=>?_)⟩;walk_at "";refine⟨bX (by simp),λq1 b1=>⟨bX (by simp),λl nl=>h1 _ _ (b9 λN2 h2=>?_)⟩⟩;have s1:=δ.new (HO.lst [V.int 1]) b1;have s2:=δ.new (HO.lst [V.ref q1]) nl;have ZM:H l=none:=s1.free nl;have e1:=s2 _ _ (au (H:=H) (a:=q1) (o:=HO.lst [V.int 1]));have el:upd (upd H q1 (HO.lst [V.int 1])) l (HO.lst [V.ref q1]) l=some (.lst ([q1].map V.ref)):=au;have ϙ:=s1.trans s2;generalize upd (upd H q1 (HO.lst [V.int 1])) l (HO.lst [V.ref q1])=H2 at e1 el ϙ ⊢;clear s1 s2 nl b1 h0 h1;walk_at "";have g:=WA.go;have m1:=g.m1;have Ζ:=g.Ζ;refine⟨T.Tally,dx,fs,ϙ _ _ ht,T.Η,T.Bv,_,fk,Γ (ϙ _ _ ek) (fR hp.1 dp) ⟨ZL,rfl,_,ι.of (ϙ _ _ bm),?_⟩⟩;generalize hF:ϟ (XI xs ob c p) (W8 ob) (λk g=>W k (Φ (c k) g))=F at q;have ds:∀k∈ks,vH (d k) (W k):=λk hk=>(Zd k hk).wk;have ei:∀k∈ks,1<=c k/\c k<=1000000:=λk hk=>⟨aW (by decide) (Zd k hk).c2,(Zd k hk).c1⟩;refine qY (K:=K) (xs:=ks.map V.int) (λi B Z=>δ H Z/\(∃(R:hR)(ld:Addr),Z l=some (.lst ((R++[ld]).map V.ref))/\uJ Z (Ut d) F (R++[ld]) ((List.range (i+1)).map λj=>ks.drop (ks.length-j)))/\∃v4 v5,B=[some (V.ref t),some (V.int p),some (V.int m),some (V.ref l),v4,v5]) ?_ (λi B Z _ z=>ι.of (z.1 _ _ bm)) ?_ ?_
 .refine⟨ϙ,⟨[],q1,el,.cons ⟨[1],e1,?_⟩ .nil⟩,_,_,rfl⟩;have e:ks.drop (ks.length-0)=[]:=by rw[gg,fh]
  show Ϭ (Ut d (ks.drop (ks.length-0))) [1] (F (ks.drop (ks.length-0)));rw[e,<-hF];exact Ϭ.one
 .rintro i x B Z N hN r ⟨s3,⟨R,ld,e3,ra⟩,v4,v5,rfl⟩;rw[<-eB]at r;obtain⟨k,hk,rfl⟩:=List.μ r;have il:i<ks.length:=by
   have:=(ax.mp hk).1;rw[aQ]at this;exact this
  have WY:ks[ks.length-1-i]?=some k:=by
   rw[cw il]at hk;exact hk
  have eS:ks.drop (ks.length-(i+1))=k::ks.drop (ks.length-i):=by
   rw[show ks.length-(i+1)=ks.length-1-i by lia,i7 (by lia),(ax.mp WY).2,show ks.length-1-i+1=ks.length-i by lia]
  have km:=aP WY;have C:=Zd k km;obtain⟨kp,kd,pv,cs,di,k2,k3,kc⟩:=C.at_;have a1:∀x∈k::ks.drop (ks.length-i),x∈ks:=λx r=>by
   rw[<-eS]at r;exact gC r
  have dS:((k::ks.drop (ks.length-i)).map λk=>d k+1).sum<m.toNat:=by
   rw[<-eS];have:=Gu (λk=>d k+1) ks (ks.length-(i+1))
   lia
  have er:(List.range (i+1+1)).map (λj=>ks.drop (ks.length-j))=((List.range (i+1)).map λj=>ks.drop (ks.length-j))++[k::ks.drop (ks.length-i)]:=by rw[dZ,aq,<-eS];rfl
  obtain⟨cS,ea,W9⟩:∃cS:List Int,Z ld=some (.lst (cS.map V.int))/\Ϭ (Ut d (ks.drop (ks.length-i))) cS (F (ks.drop (ks.length-i))):=by
   have:=ra;unfold uJ at this;rw[dZ,aq]at this;obtain⟨l0,a0,h2,_,h4⟩:=tf this;have h5:=(eU (List.append_inj' h2 rfl).2).1;rw[h5];exact h4
  generalize ks.drop (ks.length-i)=S at a1 dS er W9 eS;have du:∀{y:Addr}{zs:fc},zs≠[]->Z y=some (.lst (zs.map V.int))->y≠l:=λ{y zs} zn hy z=>by
   rw[z,e3]at hy;injection hy with hy
   injection hy with hy
   cases zs with
   | nil=>exact zn rfl
   | cons z0 zs=>
     cases R with
     | nil=>cases(eU hy).1
     | cons _ _=>cases(eU hy).1
  have X:∀(y:Addr)(Y:fc)(f:Hp),δ Z f->f y=some (.lst (Y.map V.int))->Ϭ (Ut d (k::S)) Y (F (k::S))->(R++[ld]).length<sizeLine->∀v5,VW K "list" (V.ref l) f/\rW (V.ref l) [V.ref y] f λ_ H6=>N [some (V.ref t),some (V.int p),some (V.int m),some (V.ref l),some (V.int k),v5] H6:=by
   intro y Y f u ey b2 sz v5;have M:=u _ _ e3;refine⟨S9 M,oN M (by rw[ag];exact sz) (hN _ _ ⟨λb o e=>?_,⟨R++[ld],y,by rw[au,aq (l₂:=[y])];rfl,?_⟩,_,_,rfl⟩)⟩
   .rw[aM (cD e ZM)];exact u _ _ (s3 _ _ e)
   .rw[er];have yl:y≠l:=λz=>by
     rw[z,M]at ey;injection ey with ey
     injection ey with ey
     cases Y with
     | nil=>exact b2.ne rfl
     | cons z0 zs=>
       cases R with
       | nil=>cases(eU ey).1
       | cons _ _=>cases(eU ey).1
    refine p4 ⟨Y,by rw[aM yl];exact ey,b2⟩ (Paired.imp' (λb kk ⟨cb,h1,h2⟩=>⟨cb,?_,h2⟩) ra);rw[aM (du h2.ne h1)];exact u _ _ h1
  have a4:(R++[ld]).length<sizeLine:=by
   have:=Paired.length ra;rw[ag,cP]at this;exact d8 (by have:=Gu (λk=>d k+1) ks 0;have:ks.length<=(ks.map λk=>d k+1).sum:=LN ks;lia)
  refine b9 λM1 k1=>?_;walk_at "";refine⟨by lia,by lia,λpw bk=>?_⟩;have J:∀{b:Nat}{z:Int},b<=15000->z.natAbs<=2^b->z.natAbs<Td:=λ{b z} hb hz=>sk hz (by lia);refine kj (lo:=0) (n:=m.toNat) (λj I B H4=>δ Z H4/\H4 pw=some (.lst I)/\I=((List.range j).map λg=>W k (Φ (c k) g)).map V.int/\∃v,B=[v,some (V.ref t),some (V.int p),some (V.int k)]) ⟨δ.new _ bk,au,rfl,_,rfl⟩ ?_ ?_
  .rintro j I B H4 N4 hN4 hj ⟨U,e4,rfl,v,rfl⟩;walk_at "";have O:=s3.trans U;refine⟨t,dx,w,tw,lr,kp,kd,fs,m,ps,rs,rv,pv,p,k,c k,j,cs,by rw[ee],O _ _ ht,fw,fr,WA.same O,hp,⟨C.k0,C.k1⟩,C.tl,C.c2,C.c1,O _ _ dn,di,O _ _ k2,O _ _ k3,kc.len,by lia,λx r=>J (aJ _) (kc.bt x r),λf u=>⟨u _ _ e4,d8 (by rw[ag,ag,cP];lia),hN4 _ _ _ ⟨?_,au,?_,_,rfl⟩⟩⟩
   .exact λb o e=>by rw[aM (cD e bk)];exact u _ _ (U _ _ e)
   .rw[dZ,aq,aq,kc.val]
    rfl
  .rintro I B H4 ⟨U,e4,rfl,v,rfl⟩;refine k1 _ _ ?_;have O:=s3.trans U;have br:∀j,j<m.toNat->(W k (Φ (c k) j)).natAbs<=2^(d k*(25+20*d k)):=λj hj=>u6 (Gj C.wk (aW (by decide) C.c2) C.c1 (by lia));have b0:d k*(25+20*d k)<=15000:=by
    have:=C9 (d:=d) (ks:=k::S) (by lia);rw[wT]at this
    lia
   have be:∀x∈(List.range m.toNat).map λg=>W k (Φ (c k) g),x.natAbs<Td:=λx r=>by
    obtain⟨j,hj,rfl⟩:=aZ.mp r;exact J b0 (br j (cY.mp hj))
   have bS:Ut d S<=15000:=C9 (by rw[aE,bf]at dS;lia);have WH:∀{f:Hp},δ H4 f->ϳ ((R++[ld]).map V.ref) (-1)=some (V.ref ld):=λ_=>by rw[aq];exact Er _ _
   have a3:∀x∈k::S,vH (d x) (W x):=λx r=>ds x (a1 x r);have Zk:∀x∈k::S,1<=c x/\c x<=1000000:=λx r=>ei x (a1 x r);walk_at "";refine⟨t,dx,w,tw,lw,lb,fs,m,ps,rs,xs,cv,p,k,c k,ob,rfl,O _ _ ht,fw,fg,fb,WA.same O,O _ _ eg,xl,O _ _ eb,hp,⟨C.k0,C.k1⟩,bl,C.tl,by have:=C.c2;lia,by have:=C.c1;lia,⟨_,rfl,?_⟩⟩;subst hF;change if XI xs ob c p k=true then _ else _;have eN:((m.toNat:Nat):Int)=m:=cB (by lia);have ar:m.toNat<=24:=(by lia);have UP:=U _ _ e3;have XJ:=U _ _ ea;have TL:((List.range m.toNat).map λg=>W k (Φ (c k) g)).length=m.toNat:=(by rw[ag,cP]);by_cases hf:XI xs ob c p k=true
   .rw[aj hf];refine⟨S9 UP,Γ UP (WH (δ.refl _)) ⟨ld,cS,m.toNat,by rw[eN],ι.of XJ,by have:=W9.len;lia,by lia,λx r=>J bS (W9.bt x r),λl5 f n5 u M=>?_⟩⟩;refine⟨pw,l5,_,_,rfl,ι.of (u _ _ e4),ι.of M,by rw[TL,ag,cP];exact aJ _,by rw[TL];lia,be,λx r=>?_,λl6 H6 n6 s6 e6=>?_⟩
    .obtain⟨j,hj,rfl⟩:=aZ.mp r;rw[W9.val];exact J (aW (D5 d S) bS) (u6 (Fc ar (λx r=>a3 x (.tail _ r)) (λx r=>Zk x (.tail _ r)) j (cY.mp hj)))
    .refine⟨l6,_,rfl,ι.of e6,by rw[ag,cP,TL];lia,λl7 H7 n7 s7 e7=>(X l7 _ H7 (U.trans (u.trans (s6.trans s7))) e7 ?_ a4 _).2⟩;refine MF ar a3 Zk dS ?_;rw[TL];refine cC λn hn=>?_;have hn:=cY.mp hn;rw[AO hf];exact MA (λi hi=>Ht (by lia)) λi hi=>by rw[Ht (by lia),W9.val]
   .rw[ah hf];refine⟨T.Tally,dx,fs,O _ _ ht,T.Η,T.yi,_,fb,Γ (O _ _ eb) (fR hp.1 bl) ⟨by cases ob<;>rfl,?_⟩⟩;obtain⟨rS,eh⟩:=W9.head;by_cases hb:ob=some k
    .rw[aj (by rw[hb];rfl)];have a2:W8 ob k=true:=bo hb;refine⟨S9 UP,⟨_,ι.of e4⟩,λpc T4=>?_⟩;refine me (K:=K) (c:=true) (a:=pw) (xs:=((List.range m.toNat).map λg=>W k (Φ (c k) g)).map V.int) (λj I B f=>δ H4 f/\f pc=some (.lst I)/\I=((((List.range m.toNat).map λg=>W k (Φ (c k) g)).take j).map λx=>x*ϟ (XI xs ob c p) (W8 ob) (λk g=>W k (Φ (c k) g)) S 0).map V.int/\∃v,B=[v,some (V.ref l)]) ⟨δ.new _ T4,au,rfl,_,rfl⟩ (λj I B f _ ⟨z,_⟩=>ι.of (z _ _ e4)) ?_ ?_
     .rintro j x I B f N5 hN5 hj ⟨u,M,rfl,v,rfl⟩;obtain⟨z,hz,rfl⟩:=List.μ hj;have et:((List.range m.toNat).map λg=>W k (Φ (c k) g)).take (j+1)=((List.range m.toNat).map λg=>W k (Φ (c k) g)).take j++[z]:=(by rw[bg,hz];rfl);walk_at "";refine Γ (u _ _ UP) (WH (δ.refl _)) (Γ (v:=V.int (ϟ (XI xs ob c p) (W8 ob) (λk g=>W k (Φ (c k) g)) S 0)) (u _ _ XJ) (fR (bO 0) (by rw[eh];rfl)) ⟨_,rfl,wc (be z (aP hz)) (J bS (W9.bt _ (by rw[eh];exact .head _))),M,d8 (by rw[ag,ag,bq,TL];lia),hN5 _ _ _ ⟨?_,au,?_,_,rfl⟩⟩)
      .exact λb o e=>by rw[aM (cD e T4)];exact u _ _ e
      .rw[et,aq,aq]
       rfl
     .rintro I B f ⟨u,M,rfl,v,rfl⟩;rw[ag,TL,bZ (by rw[TL];exact aJ _)]at M;refine⟨pc,_,rfl,ι.of M,by rw[ag,TL];lia,λl7 H7 n7 s7 e7=>(X l7 _ H7 (U.trans (u.trans s7)) e7 ?_ a4 _).2⟩;refine MF ar a3 Zk dS ?_;rw[jw];refine cC λn hn=>?_;rw[BD hf a2]
      rfl
    .rw[ah (λz=>hb (by cases ob with
      | none=>cases z
      | some j=>injection z with z;rw[z]))]
     have a2:¬W8 ob k=true:=(by unfold W8;rw[b4];exact hb);have fy:m.toNat=(m.toNat-1)+1:=(by lia);have w0:∀{f:Hp},δ H4 f->f pw=some (.lst (((List.range m.toNat).map λg=>W k (Φ (c k) g)).map V.int)):=λs=>s _ _ e4;have a0:ϳ (((List.range m.toNat).map λg=>W k (Φ (c k) g)).map V.int) 0=some (V.int (W k (Φ (c k) 0))):=fR (bO 0) (by
      show(((List.range m.toNat).map λg=>W k (Φ (c k) g)).map V.int)[0]?=_;rw[aN,aN,gM (by lia)]
      rfl)
     refine⟨S9 UP,Γ UP (WH (δ.refl _)) ⟨ld,rfl,⟨_,ι.of XJ⟩,λpc T4=>?_⟩⟩;refine me (K:=K) (c:=true) (a:=ld) (xs:=cS.map V.int) (λj I B f=>δ H4 f/\f pc=some (.lst I)/\I=((cS.take j).map λx=>W k (Φ (c k) 0)*x).map V.int/\∃v,B=[v,some (V.ref pw)]) ⟨δ.new _ T4,au,rfl,_,rfl⟩ (λj I B f _ ⟨z,_⟩=>ι.of (z _ _ XJ)) ?_ ?_
     .rintro j x I B f N5 hN5 hj ⟨u,M,rfl,v,rfl⟩;obtain⟨z,hz,rfl⟩:=List.μ hj;have et:cS.take (j+1)=cS.take j++[z]:=(by rw[bg,hz];rfl);have cl:=W9.len;walk_at "";refine Γ (w0 u) a0 ⟨_,rfl,wc (J b0 (br 0 (by lia))) (J bS (W9.bt z (aP hz))),M,d8 (by rw[ag,ag,bq];lia),hN5 _ _ _ ⟨?_,au,?_,_,rfl⟩⟩
      .exact λb o e=>by rw[aM (cD e T4)];exact u _ _ e
      .rw[et,aq,aq]
       rfl
     .rintro I B f ⟨u,M,rfl,v,rfl⟩;rw[ag,bC]at M;exact(X pc _ f (U.trans u) M (Q9 C.wk (aW (by decide) C.c2) C.c1 hf a2 W9) a4 _).2
 .rintro B Z ⟨s3,⟨R,ld,e3,ra⟩,v4,v5,rfl⟩;refine h2 _ _ ?_;unfold Qc;walk_at "";rw[ag]at ra;refine⟨_,ι.of e3,λl2 ca=>?_⟩;have U:=δ.new (HO.lst ((R++[ld]).map V.ref).reverse) ca;refine q l2 (R++[ld]).reverse _ (s3.free ca) (s3.trans U) (by rw[au,eB]) ?_;have e:VZ ks=((List.range (ks.length+1)).map λj=>ks.drop (ks.length-j)).reverse:=by rw[<-Jn,mS]
  rw[e];exact JB (Paired.imp' (λb kk ⟨cb,h1,h2⟩=>⟨cb,U _ _ h1,h2⟩) ra)
def ki(p ld lw c a b:Addr):List (Str×V):=bp "rests" (.ref b) (bp "kids" (.ref a) (bp "bearers" (.ref c) (bp "weights" (.ref lw) (bp "down" (.ref ld) (bp "web" (.ref p) [])))))
def vI(p ld lw c b a:Addr):(ki p ld lw c b a).lookup ("rests":Str)=some (.ref a):=by
 unfold ki;rw[bR,aj rfl]
def LB(p ld lw c a b:Addr):(ki p ld lw c a b).lookup ("kids":Str)=some (.ref a):=by
 unfold ki;rw[bR,ah (by decide +kernel),bR,aj rfl]
def FE(p ld lw a b c:Addr):(ki p ld lw a b c).lookup ("bearers":Str)=some (.ref a):=by
 unfold ki;rw[bR,ah (by decide +kernel),bR,ah (by decide +kernel),bR,aj rfl]
def Fw(p ld lw c a b:Addr):(ki p ld lw c a b).lookup ("weights":Str)=some (.ref lw):=by
 unfold ki;rw[bR,ah (by decide +kernel),bR,ah (by decide +kernel),bR,ah (by decide +kernel),bR,aj rfl]
def Kk(p ld lw c a b:Addr):(ki p ld lw c a b).lookup ("down":Str)=some (.ref ld):=by
 unfold ki;rw[bR,ah (by decide +kernel),bR,ah (by decide +kernel),bR,ah (by decide +kernel),bR,ah (by decide +kernel),bR,aj rfl]
def M8(p ld lw c a b:Addr):(ki p ld lw c a b).lookup ("web":Str)=some (.ref p):=by
 unfold ki;rw[bR,ah (by decide +kernel),bR,ah (by decide +kernel),bR,ah (by decide +kernel),bR,ah (by decide +kernel),bR,ah (by decide +kernel),bR,aj rfl]
structure By(C O:Addr)(H:Hp)(o p t:Addr)(m:Int)(ps:hR)(rs:ix)(r:Int)(par:fz)(dep:hB)(tl:fc)(ld lw lb lk lr:Addr)(kl:hR)(rv:List V)(S:Int->Prop):Prop where
 ob:∃dx,H o=some (.ins O dx (ki p ld lw lb lk lr))
 web:θ C H p m t ps rs
 rt:ζ m rs r par dep
 et:eX m rs r par dep r=r::tl
 or:Order m r par tl
 hd:H ld=some (.lst ((eX m rs r par dep r).map V.int))
 hw:H lw=some (.lst ((ic m rs r par dep).map V.int))
 hb:H lb=some (.lst (Vm m (S7 m rs r par dep tl)))
 hk:H lk=some (.lst (kl.map V.ref))
 kp:Paired (λa v=>H a=some (.lst ((kd m rs r par v).map V.int))) kl (b7 m.toNat)
 hr:H lr=some (.lst rv)
 rl:rv.length=m.toNat
 rn:∀x∈rv,x=.ξ\/∃a,x=.ref a
 ϵ:∀v,S v->0<=v/\∃(lp:Addr)(aT:hR),rv[v.toNat]?=some (.ref lp)/\lp≠lr/\H lp=some (.lst (aT.map V.ref))/\uJ H (Ut (Tz m rs r par dep)) (ϟ (Wv m rs r par dep tl) (Ww m rs r par dep tl) (λk g=>V2 m rs r par dep tl k (Φ (cK rs par k) g))) aT (VZ (kd m rs r par v))
def By.same{C O:Addr}{H i:Hp}{o p t:Addr}{m:Int}{n:hR}{g:ix}{r:Int}{par:fz}{c:hB}{tl:fc}{ld lw l j k:Addr}{f:hR}{d:List V}{S:Int->Prop}(e:δ H i)(h:By C O H o p t m n g r par c tl ld lw l j k f d S):By C O i o p t m n g r par c tl ld lw l j k f d S where
 ob:=let ⟨dx,q⟩:=h.ob;⟨dx,e _ _ q⟩
 web:=h.web.same e
 rt:=h.rt
 et:=h.et
 or:=h.or
 hd:=e _ _ h.hd
 hw:=e _ _ h.hw
 hb:=e _ _ h.hb
 hk:=e _ _ h.hk
 kp:=Paired.imp' (λ_ _ z=>e _ _ z) h.kp
 hr:=e _ _ h.hr
 rl:=h.rl
 rn:=h.rn
 ϵ:=λv hv=>let ⟨v0,lp,aT,h1,h2,h3,h4⟩:=h.ϵ v hv;⟨v0,lp,aT,h1,h2,e _ _ h3,Paired.imp' (λ_ _ ⟨s,a,b⟩=>⟨s,e _ _ a,b⟩) h4⟩
def θ.VQ{C O:Addr}{H c:Hp}{o p:Addr}{m:Int}{t a:Addr}{f:hR}{d:ix}(e:Ϙ o H c)(b:H o=some (.ins O a []))(h:θ C H p m t f d):θ C c p m t f d:=⟨let ⟨a,q⟩:=h.ob;⟨a,e _ _ q (cZ q b (by nofun))⟩,e _ _ h.tu (cZ h.tu b (by nofun)),Paired.imp' (λq x z=>e _ _ z (cZ z b (by nofun))) h.ro,h.go⟩
def By.put{C O:Addr}{H:Hp}{o p t:Addr}{m:Int}{Y:hR}{j:ix}{r:Int}{a:fz}{d:hB}{F:fc}{ld lw U T i:Addr}{Q:hR}{A:List V}{S:Int->Prop}(h:By C O H o p t m Y j r a d F ld lw U T i Q A S)(Φ:ld≠i)(M:lw≠i)(XM:U≠i)(N:T≠i)(Zm:∀q∈Q,q≠i){v:Int}(Z:0<=v)(v1:v<m)(hS:∀c,S c->c≠v){l:Addr}{B:hR}(nl:l≠i)(hl:H l=some (.lst (B.map V.ref)))(ra:uJ H (Ut (Tz m j r a d)) (ϟ (Wv m j r a d F) (Ww m j r a d F) (λk g=>V2 m j r a d F k (Pb.Φ (cK j a k) g))) B (VZ (kd m j r a v))):By C O (upd H i (.lst (A.set v.toNat (.ref l)))) o p t m Y j r a d F ld lw U T i Q (A.set v.toNat (.ref l)) (λc=>c=v\/S c):=by
 have vm:v.toNat<A.length:=by rw[h.rl];lia
 have ne:∀{y:Addr}{s:fc},s≠[]->H y=some (.lst (s.map V.int))->y≠i:=λ{y s} cn hy z=>by
  rw[z,h.hr]at hy;injection hy with hy
  injection hy with hy
  cases s with
  | nil=>exact cn rfl
  | cons c0 s=>
    rcases h.rn (.int c0) (by rw[hy];exact .head _)with e|⟨_,e⟩<;>cases e
 have up:∀{b:Addr}{x:HO},H b=some x->b≠i->upd H i (.lst (A.set v.toNat (.ref l))) b=some x:=λe n=>by rw[aM n];exact e
 have E:∀{B:hR}{D:List (List Int)}{b:List Int->Nat}{f:List Int->Nat->Int},uJ H b f B D->uJ (upd H i (.lst (A.set v.toNat (.ref l)))) b f B D:=λR=>Paired.imp' (λy kk ⟨s,I,G⟩=>⟨s,up I (ne G.ne I),G⟩) R;obtain⟨dx,ob⟩:=h.ob;have W:=h.web;obtain⟨dw,X⟩:=W.ob;refine⟨⟨dx,up ob (cZ ob h.hr (by nofun))⟩,⟨⟨dw,up X (cZ X h.hr (by nofun))⟩,up W.tu (cZ W.tu h.hr (by nofun)),Paired.imp' (λq x e=>up e (cZ e h.hr (by nofun))) W.ro,W.go⟩,h.rt,h.et,h.or,up h.hd Φ,up h.hw M,up h.hb XM,up h.hk N,wt (λq x hq e=>up e (Zm q hq)) h.kp,au,by rw[bN];exact h.rl,λx J=>?_,λu hu=>?_⟩
 .rcases fC J with J|rfl
  .exact h.rn x J
  .exact .inr ⟨l,rfl⟩
 .rcases hu with rfl|hu
  .exact⟨Z,l,B,da vm,nl,up hl nl,E ra⟩
  .obtain⟨u0,lp,ago,I,G,h3,h4⟩:=h.ϵ u hu;refine⟨u0,lp,ago,?_,G,up h3 G,E h4⟩;rw[cA (by have:=hS u hu;lia)];exact I
def sO(T:Txt K L):Sp:=λh H Q _=>E8 λ(o n p t:Addr)(m:Int)(f:hR)(d:ix)(r:Int)=>h=[.ref o,.ref p,.int r]/\H o=some (.ins T.Tally n [])/\θ T.Web H p m t f d/\(0<=r/\r<m)/\∃c a,ζ m d r c a/\∀j ld lw q k l i g e,By T.Web T.Tally e o p t m f d r c a j ld lw q k l i g (λv=>0<=v/\v<m)->(∀b x,H b=some x->b≠o->e b=some x)->Q .ξ e
abbrev kO:Stmt:=kM (top 98) 0
def Ad:ε ["self","web","r","place"] ["self","web","r"] (aA kO):=.of
def sA:Ψ (aA kO) "enumerate":=.of
def sM:Ψ (aA kO) "reversed":=.of
def zQ(T:Txt K L)(hq:bI (τ P w))(lH:zr P w base T)(qc:Fu P w base T)(ww:Mc P w base T)(ju:Dk P w base T)(hW:qJ P w base T)(xn:Cb P w K L base "rests_of" ku ["tally","place"] 7 (Aw T)):Vq P w K L base "__init__" "Tally.__init__" kO ["self","web","r"] 10 (sO T):=λ_ _ F=>by
 refine F.Ο Ad λο A ds s H vs Q E hr h=>?_;obtain⟨o,B,p,t,m,ps,f,r,rfl,ho,W,rr,par,d,R,k⟩:=h;have g:=W.go;have Ζ:=g.Ζ;refine⟨_,(aw (lO (γ 0) (Ϩ 1) rfl) (aw (lO (γ 0) (Θ ww hr hq (aa (Ϩ 1) (aa (γ 2) ap))) rfl) (aw (lO (γ 0) (Θ hW hr hq (aa (Ϩ 1) (aa (γ 2) ap))) rfl) (aw (lO (γ 0) (Θ qc hr hq (aa (Ϩ 1) (aa (γ 2) ap))) rfl) (aw (lO (γ 0) (gG rfl (UU ["place","front","web"] 2 [1]) (zI true sA.g T.enumerate (Θ lH hr hq (aa (Ϩ 1) (aa (γ 2) ap)))) (λ_ _ _ _=>(wr K rfl (n:=2) rfl (bQ (d6 (i:=0) (show(["place","front","web"]:hX).Nodup from by decide +kernel) rfl (Or.inl rfl)) (bQ (d6 (i:=1) (show(["place","front","web"]:hX).Nodup from by decide +kernel) rfl (Or.inl rfl)) fI)))) (λ_ _ _ _=>gj) (λ_ _ _ _=>(gD ju.G (hr.mono (by decide)) (by rfl) ju.D.m ju.D.F.kp ju.D.b .nil (d7 hq) (aa (pv 2) (aa (pv 0) (aa (pv 1) ap)))))) rfl) (aw (lO (γ 0) (aX oO (eK (aa qC ap)) (cu (Ϩ 1) rfl)) rfl) (ay (gf PassesOwn.never rfl (uc sM.g T.reversed (cu (γ 0) rfl)) (ϊ 3) (ay (jv (Θ xn hr hq (aa (γ 0) (aa (γ 3) ap))) (nD (cu (γ 0) rfl) (γ 3) gI))))))))))),?_⟩;walk_at "s";refine b9 λN1 h1=>?_;walk_at "";refine⟨T.Tally,B,[],ho,T.Η,T.ϡ,by decide,h1 _ _ (b9 λN2 h2=>?_)⟩;clear h1;have k1:Ϙ o H (upd H o (.ins T.Tally B (bp "web" (.ref p) []))):=Ϙ.refl.put _;have o1:upd H o (.ins T.Tally B (bp "web" (.ref p) [])) o=some (.ins T.Tally B (bp "web" (.ref p) [])):=au;generalize upd H o (.ins T.Tally B (bp "web" (.ref p) []))=H1 at k1 o1 ⊢;walk_at "";refine⟨p,t,m,ps,f,r,rfl,W.VQ k1 ho,λ_ _=>⟨par,d,R,λld H2 n2 s2 e2 Y3 cp=>?_⟩,λz=>absurd rr z⟩;have bl:∀{a:Addr}{G:Hp}{x:HO},G o=some x->G a=none->a≠o:=λh1 h2 z=>by rw[z,h1]at h2;cases h2
 refine⟨T.Tally,B,_,s2 _ _ o1,T.Η,T.MZ,by show 1<1000;decide,h2 _ _ (b9 λN3 h3=>?_)⟩;clear h2;have ad:ld≠o:=bl o1 n2;have k3:=(k1.then s2).put (.ins T.Tally B (bp "down" (.ref ld) (bp "web" (.ref p) [])));have o3:upd H2 o (.ins T.Tally B (bp "down" (.ref ld) (bp "web" (.ref p) []))) o=some (.ins T.Tally B (bp "down" (.ref ld) (bp "web" (.ref p) []))):=au;have e3:upd H2 o (.ins T.Tally B (bp "down" (.ref ld) (bp "web" (.ref p) []))) ld=_:=(aM ad).trans e2;generalize upd H2 o (.ins T.Tally B (bp "down" (.ref ld) (bp "web" (.ref p) [])))=H3 at k3 o3 e3 ⊢;walk_at "";refine⟨p,t,m,ps,f,r,rfl,W.VQ k3 ho,λ_ _=>⟨par,d,R,λlw H4 n4 s4 e4=>?_⟩,λz=>absurd rr z⟩;refine⟨T.Tally,B,_,s4 _ _ o3,T.Η,T.T3,by show 2<1000;decide,h3 _ _ (b9 λN4 h4=>?_)⟩;clear h3;have ar:lw≠o:=bl o3 n4;have k5:=(k3.then s4).put (.ins T.Tally B (bp "weights" (.ref lw) (bp "down" (.ref ld) (bp "web" (.ref p) []))));have o5:upd H4 o (.ins T.Tally B (bp "weights" (.ref lw) (bp "down" (.ref ld) (bp "web" (.ref p) [])))) o=some (.ins T.Tally B (bp "weights" (.ref lw) (bp "down" (.ref ld) (bp "web" (.ref p) [])))):=au;have a5:upd H4 o (.ins T.Tally B (bp "weights" (.ref lw) (bp "down" (.ref ld) (bp "web" (.ref p) [])))) ld=_:=(aM ad).trans (s4 _ _ e3);have a8:upd H4 o (.ins T.Tally B (bp "weights" (.ref lw) (bp "down" (.ref ld) (bp "web" (.ref p) [])))) lw=_:=(aM ar).trans e4;generalize upd H4 o (.ins T.Tally B (bp "weights" (.ref lw) (bp "down" (.ref ld) (bp "web" (.ref p) []))))=U at k5 o5 a5 a8 ⊢;walk_at "";refine⟨p,t,m,ps,f,r,rfl,W.VQ k5 ho,λ_ _=>⟨par,d,R,λM C H6 et Or n6 s6 e6=>?_⟩,λz=>absurd rr z⟩;refine⟨T.Tally,B,_,s6 _ _ o5,T.Η,T.yi,by show 3<1000;decide,h4 _ _ (b9 λN5 h5=>?_)⟩;clear h4;have a4:C≠o:=bl o5 n6;have k7:=(k5.then s6).put (.ins T.Tally B (bp "bearers" (.ref C) (bp "weights" (.ref lw) (bp "down" (.ref ld) (bp "web" (.ref p) [])))));have o7:upd H6 o (.ins T.Tally B (bp "bearers" (.ref C) (bp "weights" (.ref lw) (bp "down" (.ref ld) (bp "web" (.ref p) []))))) o=some (.ins T.Tally B (bp "bearers" (.ref C) (bp "weights" (.ref lw) (bp "down" (.ref ld) (bp "web" (.ref p) []))))):=au;have b2:upd H6 o (.ins T.Tally B (bp "bearers" (.ref C) (bp "weights" (.ref lw) (bp "down" (.ref ld) (bp "web" (.ref p) []))))) ld=_:=(aM ad).trans (s6 _ _ a5);have co:upd H6 o (.ins T.Tally B (bp "bearers" (.ref C) (bp "weights" (.ref lw) (bp "down" (.ref ld) (bp "web" (.ref p) []))))) lw=_:=(aM ar).trans (s6 _ _ a8);have cl:upd H6 o (.ins T.Tally B (bp "bearers" (.ref C) (bp "weights" (.ref lw) (bp "down" (.ref ld) (bp "web" (.ref p) []))))) C=_:=(aM a4).trans e6;generalize upd H6 o (.ins T.Tally B (bp "bearers" (.ref C) (bp "weights" (.ref lw) (bp "down" (.ref ld) (bp "web" (.ref p) [])))))=H7 at k7 o7 b2 co cl ⊢;have W3:=W.VQ k7 ho;clear k1 k3 k5 o1 o3 o5 e2 e3 e4 a5 a8 e6 s2 s4 s6 n2 n4 n6;walk_at "";refine⟨p,t,m,ps,f,r,rfl,W3,λ_ _=>⟨par,d,R,λla H4 n4 s4 e4=>⟨la,rfl,⟨_,ι.of e4⟩,λI Zn=>?_⟩⟩,λz=>absurd rr z⟩;have gn:=s4.free Zn;refine EA (K:=K) (c:=true) (xs:=oh m r par) (λi ys σ U=>δ H4 U/\U I=some (.lst ys)/\(∃kl:List Addr,ys=kl.map V.ref/\Paired (λa v=>U a=some (.lst ((kd m f r par v).map V.int))) kl ((b7 m.toNat).take i)/\∀q∈kl,q≠I)/\∃v w,σ=[v,w,some (V.ref p)]) ⟨δ.new _ Zn,au,⟨[],rfl,.nil,by simp⟩,_,_,rfl⟩ (λi ys σ U z=>ι.of (z.1 _ _ e4)) ?_ ?_
 .rintro i x ys σ U q N hN hx ⟨s5,e5,⟨kl,rfl,pk,Zo⟩,v,w,rfl⟩ nq;have il:i<m.toNat:=by
   have:=(ax.mp hx).1;unfold oh at this
   rwa [ag,b6]at this
  have ex:x=Pb.front r par (i:Int):=by
   have:=wY (m:=m) (r:=r) (par:=par) (v:=(i:Int)) (by lia) (by lia);rw[show((i:Int)).toNat=i from rfl,hx]at this;exact bF this
  have qe:=s5 _ _ e4;have s6:=δ.new (.tup [V.int i,x]) nq;have ei:=s5.trans s6;have et:(b7 m.toNat).take (i+1)=(b7 m.toNat).take i++[(i:Int)]:=by rw[bg,gZ il];rfl
  have ga:kl.length<=24:=by
   have:=Paired.length pk;rw[bq]at this
   lia
  walk_at "";refine⟨_,Α.of au,rfl,_,_,rfl,_,_,rfl,rfl,?_⟩;refine⟨p,t,m,ps,f,i,x,rfl,W3.same (s4.trans ei),by lia,by lia,?_,λl6 H6 n6 s7 e7=>?_⟩
  .rw[ex];unfold Pb.front;split
   .exact .inl rfl
   .exact .inr ⟨_,rfl⟩
  have Zq:=s6.trans s7;refine⟨Zq _ _ e5,d8 (by rw[ag];lia),hN _ _ _ ⟨(s5.trans Zq).put Zn _,au,⟨kl++[l6],by rw[aq];rfl,?_,λq hq=>?_⟩,_,_,rfl⟩⟩;have nk:l6≠I:=λz=>by rw[z,s6 _ _ e5]at n6;cases n6
  rotate_left
  .rcases bi.mp hq with h|h
   .exact Zo q h
   .rw[aG.mp h];exact λz=>by rw[z,s6 _ _ e5]at n6;cases n6
  rw[et];refine p4 (by rw[aM nk,e7,ex]) (wt (λq v hq h=>?_) pk);have e:q≠I:=λz=>Zo q hq z;rw[aM e];exact Zq _ _ h
 .rintro ys σ U ⟨s5,e5,⟨kl,rfl,pk,Zo⟩,v,w,rfl⟩;rw[show(oh m r par).length=m.toNat by unfold oh;rw[ag,b6],bZ (by rw[b6];exact aJ _)]at pk;have o5:=s5 _ _ (s4 _ _ o7);have k5:=(k7.then s4).then s5;have a3:=s4.trans s5;refine⟨T.Tally,B,_,o5,T.Η,T.Bv,by show 4<1000;decide,h5 _ _ (b9 λN6 h6=>?_)⟩;clear h5;have b0:I≠o:=λz=>by rw[z,o5]at e5;cases e5
  have k6:=k5.put (.ins T.Tally B (bp "kids" (.ref I) (bp "bearers" (.ref C) (bp "weights" (.ref lw) (bp "down" (.ref ld) (bp "web" (.ref p) []))))));have o6:upd U o (.ins T.Tally B (bp "kids" (.ref I) (bp "bearers" (.ref C) (bp "weights" (.ref lw) (bp "down" (.ref ld) (bp "web" (.ref p) [])))))) o=some (.ins T.Tally B (bp "kids" (.ref I) (bp "bearers" (.ref C) (bp "weights" (.ref lw) (bp "down" (.ref ld) (bp "web" (.ref p) [])))))):=au;have e6:upd U o (.ins T.Tally B (bp "kids" (.ref I) (bp "bearers" (.ref C) (bp "weights" (.ref lw) (bp "down" (.ref ld) (bp "web" (.ref p) [])))))) I=_:=(aM b0).trans e5;have al:upd U o (.ins T.Tally B (bp "kids" (.ref I) (bp "bearers" (.ref C) (bp "weights" (.ref lw) (bp "down" (.ref ld) (bp "web" (.ref p) [])))))) ld=_:=(aM ad).trans (a3 _ _ b2);have ak:upd U o (.ins T.Tally B (bp "kids" (.ref I) (bp "bearers" (.ref C) (bp "weights" (.ref lw) (bp "down" (.ref ld) (bp "web" (.ref p) [])))))) lw=_:=(aM ar).trans (a3 _ _ co);have a0:upd U o (.ins T.Tally B (bp "kids" (.ref I) (bp "bearers" (.ref C) (bp "weights" (.ref lw) (bp "down" (.ref ld) (bp "web" (.ref p) [])))))) C=_:=(aM a4).trans (a3 _ _ cl);have Yl:Paired (λa v=>upd U o (.ins T.Tally B (bp "kids" (.ref I) (bp "bearers" (.ref C) (bp "weights" (.ref lw) (bp "down" (.ref ld) (bp "web" (.ref p) [])))))) a=some (.lst ((kd m f r par v).map V.int))) kl (b7 m.toNat):=Paired.imp' (λq v h=>by rw[aM (cZ h o5 (by nofun))];exact h) pk;generalize upd U o (.ins T.Tally B (bp "kids" (.ref I) (bp "bearers" (.ref C) (bp "weights" (.ref lw) (bp "down" (.ref ld) (bp "web" (.ref p) []))))))=H6 at k6 o6 e6 al ak a0 Yl ⊢;walk_at "";refine⟨by decide,λl1 n1=>?_⟩;have s7:=δ.new (.lst [V.ξ]) n1;obtain⟨eg,cc⟩:=(W.VQ k6 ho).ob;refine⟨T.Web,eg,_,s7 _ _ cc,T.Ε,T.Λ,_,eT _ _,?_⟩;refine⟨l1,m,[V.ξ],rfl,rfl,au,by lia,by lia,bX (by simp;lia),λJ ZN=>?_⟩;rw[rm];have s8:=s7.trans (δ.new (.lst (List.replicate m.toNat V.ξ)) ZN);have i8:upd (upd H6 l1 (.lst [V.ξ])) J (.lst (List.replicate m.toNat V.ξ)) J=some (.lst (List.replicate m.toNat V.ξ)):=au;have Z:=s7.free ZN;generalize upd (upd H6 l1 (.lst [V.ξ])) J (.lst (List.replicate m.toNat V.ξ))=H8 at s8 i8 ⊢;have o8:=s8 _ _ o6;refine⟨T.Tally,B,_,o8,T.Η,T.Um,by show 5<1000;decide,h6 _ (upd H8 o (.ins T.Tally B (ki p ld lw C I J))) ?_⟩;clear h6;have k8:=(k6.then s8).put (.ins T.Tally B (ki p ld lw C I J));have ce:J≠o:=λz=>by rw[z,o6]at Z;cases Z
  have S:By T.Web T.Tally (upd H8 o (.ins T.Tally B (ki p ld lw C I J))) o p t m ps f r par d M ld lw C I J kl (List.replicate m.toNat V.ξ) (λ_=>False):=⟨⟨B,au⟩,W.VQ k8 ho,R,et,Or,(aM ad).trans (s8 _ _ al),(aM ar).trans (s8 _ _ ak),(aM a4).trans (s8 _ _ a0),(aM b0).trans (s8 _ _ e6),Paired.imp' (λq v h=>by rw[aM (cZ h o6 (by nofun))];exact s8 _ _ h) Yl,(aM ce).trans i8,by rw[b8],λx hx=>.inl (List.eq_of_mem_replicate hx),λv z=>z.elim⟩
  have Φ:ld≠J:=λz=>by rw[<-z,al]at Z;cases Z
  have dm:lw≠J:=λz=>by rw[<-z,ak]at Z;cases Z
  have XM:C≠J:=λz=>by rw[<-z,a0]at Z;cases Z
  have ej:I≠J:=λz=>by rw[<-z,e6]at Z;cases Z
  have Zm:∀q∈kl,q≠J:=λq hq z=>by
   obtain⟨v,Y⟩:=D4 Yl hq;rw[z,Z]at Y;cases Y
  have dS:H J=none:=by
   cases e:H J with
   | none=>rfl
   | some x=>rw[k6 _ _ e ce]at Z;cases Z
  have k9:=k8;have a9:upd H8 o (.ins T.Tally B (ki p ld lw C I J)) o=some (.ins T.Tally B (ki p ld lw C I J)):=au;clear k8;generalize upd H8 o (.ins T.Tally B (ki p ld lw C I J))=H9 at S k9 a9 ⊢;walk_at "";refine⟨T.Tally,B,_,a9,T.Η,T.MZ,_,Kk p ld lw C I J,ld,rfl,_,ι.of S.hd,?_⟩;clear a9 i8 s8 s7 n1 Yl e6 al ak a0 o6 k6 k5 o5 o8 cc;refine qY (K:=K) (xs:=(eX m f r par d r).map V.int) (λi σ Ve=>Ϙ o H Ve/\∃(rv:List V)(v3:Option V),By T.Web T.Tally Ve o p t m ps f r par d M ld lw C I J kl rv (λv=>v∈(eX m f r par d r).reverse.take i)/\σ=[some (V.ref o),some (V.ref p),some (V.int r),v3]) ⟨k9,List.replicate m.toNat V.ξ,none,?_,rfl⟩ (λi σ Ve _ ⟨_,rv,v3,z,_⟩=>ι.of z.hd) ?_ ?_
  .exact⟨S.ob,S.web,S.rt,S.et,S.or,S.hd,S.hw,S.hb,S.hk,S.kp,S.hr,S.rl,S.rn,λv Y=>by cases Y⟩
  .rintro i x σ Ve N hN hx ⟨k10,rv,v3,Tf,rfl⟩;rw[<-eB]at hx;obtain⟨v,Y,rfl⟩:=List.μ hx;have O:=(cp v).mp (dN.mp (aP Y));have dV:∀k∈kd m f r par v,k∈(eX m f r par d r).reverse.take i:=by
    rw[et]at Y ⊢;exact Rl g R Or Y O.1 O.2
   have ep:(b7 m.toNat)[v.toNat]?=some v:=by
    rw[gZ (by lia),cB O.1]
   obtain⟨ZL,dt,dX⟩:=F5 Tf.kp ep;obtain⟨du,ZO⟩:=Tf.ob;have b3:∀k∈kd m f r par v,XI (ic m f r par d) (S7 m f r par d M v) (cK f par) v k=Wv m f r par d M k/\W8 (S7 m f r par d M v) k=Ww m f r par d M k:=λk hk=>by
    have w:=(de g R O.1 O.2).mp hk;have ec:((cK f par k:Nat):Int)=tup f par k:=cB (by have:=(nC g R w.1.1 w.1.2 w.2.1).1;lia);unfold XI Wv W8 Ww;rw[ec,w.2.2,show(ic m f r par d).getD k.toNat 0=ώ m f r par d k from kN w.1.1 w.1.2,show(ic m f r par d).getD v.toNat 0=ώ m f r par d v from kN O.1 O.2];exact⟨rfl,rfl⟩
   walk_at "";refine⟨o,du,p,t,lw,C,I,J,ZL,_,m,ps,f,ic m f r par d,_,_,rv,v,kd m f r par v,S7 m f r par d M v,V2 m f r par d M,cK f par,Tz m f r par d,rfl,ZO,M8 _ _ _ _ _ _,Fw _ _ _ _ _ _,FE _ _ _ _ _ _,LB _ _ _ _ _ _,vI _ _ _ _ _ _,Tf.web,Tf.hw,?_,Tf.hb,Tf.hk,Tf.hr,O,?_,?_,dX,?_,?_,?_⟩
   .have:(ic m f r par d).length=m.toNat:=tG
    lia
   .exact(yH O.1).symm.trans (DI O.1 O.2)
   .rw[aN,dt]
    rfl
   .intro k hk;have w:=(de g R O.1 O.2).mp hk;obtain⟨k',tk,t2,t6⟩:=jB g R w.1.1 w.1.2 w.2.1;have ϭ:tup f par k=k':=by
     unfold tup;rw[tk]
     rfl
    have ek:((cK f par k:Nat):Int)=k':=by
     unfold cK;rw[ϭ];exact cB (by lia)
    obtain⟨_,lp,aT,h1,h2,h3,h4⟩:=Tf.ϵ k (dV k hk);have V1:=wA (fr:=Wv m f r par d M) (be:=Ww m f r par d M) (c:=cK f par) g R w.1.1 w.1.2;refine⟨w.1.1,w.1.2,by rw[ek,<-w.2.2];exact tk,by lia,by lia,Qf g R (λu u0 u1 ur=>?_) (m.toNat-d k) w.1.1 w.1.2 (aJ _),?_⟩
    .have:=nC g R u0 u1 ur;unfold cK
     lia
    .obtain⟨sr,es⟩:=G7 (kd m f r par k);rw[es]at h4;cases h4 with
     | cons e he=>
       obtain⟨cs,c1,c2⟩:=e;refine⟨lp,_,_,cs,h1,h3,c1,?_⟩;have:=c2.le (b':=15000) (C9 (by have:=rG g R w.1.1 w.1.2;have:=CA g R w.1.1 w.1.2;lia));refine⟨this.ne,this.len,this.bt,λn=>(this.val n).trans ?_⟩;show _=wy m f r par d (Wv m f r par d M) (Ww m f r par d M) (cK f par) k n;rw[V1]
       rfl
   .rw[rG g R O.1 O.2];exact CA g R O.1 O.2
   .intro l aT Up nl Ym e11 ra;have ai:=Tf.same Ym;obtain⟨el,U7⟩:=ai.ob;have VP:l≠J:=λz=>by rw[z,Tf.hr]at nl;cases nl
    have ef:uJ Up (Ut (Tz m f r par d)) (ϟ (Wv m f r par d M) (Ww m f r par d M) (λk g=>V2 m f r par d M k (Pb.Φ (cK f par k) g))) aT (VZ (kd m f r par v)):=Hk (λa VC WY ⟨cs,c1,c2⟩=>⟨cs,c1,by
     have e:=yA (fr:=XI (ic m f r par d) (S7 m f r par d M v) (cK f par) v) (be:=W8 (S7 m f r par d M v)) (ws:=λk g=>V2 m f r par d M k (Pb.Φ (cK f par k) g)) (fr':=Wv m f r par d M) (be':=Ww m f r par d M) (ws':=λk g=>V2 m f r par d M k (Pb.Φ (cK f par k) g)) (ks:=VC) λk hk=>⟨(b3 k (Dy WY k hk)).1,(b3 k (Dy WY k hk)).2,rfl⟩;rw[<-e];exact c2⟩) ra
    refine⟨T.Tally,el,_,U7,T.Η,T.Um,_,vI _ _ _ _ _ _,nZ ai.hr O.1 (by rw[ai.rl];lia) (hN _ _ ⟨?_,rv.set v.toNat (.ref l),some (V.int v),?_,rfl⟩)⟩
    .exact λb y hb nb=>by rw[aM (cD hb dS)];exact Ym _ _ (k10 b y hb nb)
    .have nv:∀u,u∈(eX m f r par d r).reverse.take i->u≠v:=λu hu z=>by
      have nd:(eX m f r par d r).reverse.Nodup:=((List.reverse_perm _).nodup_iff).mpr Y3;have il:=(ax.mp Y).1;rw[z]at hu;obtain⟨j,hj⟩:=cF hu;have jl:=(ax.mp hj).1;rw[bq]at jl;rw[gQ (by lia)]at hj;have:=(List.getElem?_inj (by lia) nd).mp (hj.trans Y.symm)
      lia
     have X:=ai.put Φ dm XM ej Zm O.1 O.2 nv VP e11 ef;refine⟨X.ob,X.web,X.rt,X.et,X.or,X.hd,X.hw,X.hb,X.hk,X.kp,X.hr,X.rl,X.rn,λu hu=>X.ϵ u ?_⟩;rw[bg,Y]at hu;rcases bi.mp hu with hu|hu
     .exact .inr hu
     .exact .inl (by simpa using hu)
  .rintro σ Ve ⟨k10,rv,v3,Tf,rfl⟩;refine k M ld lw C I J kl rv Ve ⟨Tf.ob,Tf.web,Tf.rt,Tf.et,Tf.or,Tf.hd,Tf.hw,Tf.hb,Tf.hk,Tf.kp,Tf.hr,Tf.rl,Tf.rn,λv Y=>Tf.ϵ v ?_⟩ k10;rw[ag,<-aQ,bC,dN];exact(cp v).mpr Y
def xI(T:Txt K L):Sp:=λb H Q _=>E8 λ(o d c t:Addr)(m:Int)(f:hR)(e:ix)(a:List (List Int×List Int))=>b=[.ref o]/\π T.Web T.Desk H o d c m t f e a/\Q (.int ((a.length:Int)-1)) H
abbrev tR:Stmt:=kM (top 107) 8
def Fy:ε ["self"] ["self"] (aA tR):=.of
def FQ(T:Txt K L)(l:bI (τ P w)):Vq P w K L base "deeds" "Desk.deeds" tR ["self"] 1 (xI T):=λ_ _ F=>by
 refine F.Ο Fy λi A a s H f Q E q h=>?_;obtain⟨o,g,c,t,m,r,n,p,rfl,O,k⟩:=h;obtain⟨d,ob⟩:=O.ob;obtain⟨j,b,e⟩:=O.pa;refine⟨_,(ay (aY (aX jp (TB gP T.len (aa (cu (γ 0) rfl) ap)) aD))),?_⟩;walk_at "t";refine⟨T.Desk,d,_,ob,T.η,T.S4,_,qO _ _,c,rfl,_,.inl (ι.of b),?_⟩;rw[ag,Paired.length e];exact k
def yC(T:Txt K L):Sp:=λg H Q _=>E9 λ(o d b t:Addr)(m:Int)(f:hR)(e:ix)(c:List (List Int×List Int))(s:List Int×List Int)=>g=[.ref o]/\π T.Web T.Desk H o d b m t f e (c++[s])/\c≠[]/\∀a,π T.Web T.Desk a o d b m t f e c->Ϙ b H a->Q .ξ a
abbrev vE:Stmt:=kM (top 107) 5
def HV:ε ["self"] ["self"] (aA vE):=.of
def Hw(T:Txt K L)(p:bI (τ P w))(i:Cm P w K L base (Meth K T.Desk "deeds") "deeds" "Desk.deeds" tR ["self"] 1 (xI T)):Vq P w K L base "back" "Desk.back" vE ["self"] 3 (yC T):=λ_ _ F=>by
 refine F.Ο HV λJ A l s H D Q E y h=>?_;obtain⟨o,n,e,t,m,B,r,u,s,rfl,O,ne,k⟩:=h;obtain⟨j,ob⟩:=O.ob;obtain⟨d,q,a,b,c,v,C,I,N,S⟩:=O.last;refine⟨_,(aw (bU (Ν cN (gu (γ 0) T.η i.M i.G (y.mono (by decide)) i.b .nil (d7 p)) aD) (ay kW) bE) (ay (cI (x9 dv PySem.F.slot_list_pop PySem.F.type_list_pop x6 (cu (γ 0) rfl))))),?_⟩;walk_at "t";refine⟨j,_,ob,GG (by decide +kernel) (by decide +kernel),o,n,e,t,m,B,r,_,rfl,O,rfl,?_⟩;have R:0<u.length:=jX.mpr ne;rw[ah (λz=>by
  injection z with z
  rw[aH,aO,dA]at z
  lia)]
 refine⟨T.Desk,j,_,ob,T.η,T.S4,_,qO _ _,.inl ⟨rfl,_,ι.of c⟩,?_⟩;have f:Ϙ e H (upd H e (.lst (d.map V.ref))):=Ϙ.refl.put _;have g:Q .ξ (upd H e (.lst (d.map V.ref))):=by
  refine k _ ⟨⟨j,f _ _ ob (cZ ob c (by nofun))⟩,O.web.WC f c,d,au,Paired.imp' (λq s x=>UO.UW f c x) v⟩ f
 refine⟨e,_,V.ref q,rfl,rfl,c,?_,?_⟩
 .rw[aq,aH,aE,cH,aO,dA,show(d.map V.ref).length+(0+1)-1=(d.map V.ref).length by lia,dc (aJ _),dY]
  rfl
 .rw[aq,aE,cH,jV];exact g
def yz(T:Txt K L):Sp:=λi H Q _=>WZ λ(o f d t a b:Addr)(m:Int)(h:hR)(g:ix)(e:List (List Int×List Int))(s:List Int×List Int)=>i=[.ref o,.ref a,.ref b]/\π T.Web T.Desk H o f d m t h g e/\H a=some (.tup (s.1.map V.int))/\H b=some (.tup (s.2.map V.int))/\e.length<=1000/\∀c,π T.Web T.Desk c o f d m t h g (e++[s])->Ϙ d H c->Q .ξ c
abbrev vD:Stmt:=kM (top 107) 4
def Hv:ε ["self","laying","wish"] ["self","laying","wish"] (aA vD):=.of
def F9(T:Txt K L)(M:bI (τ P w)):Vq P w K L base "keep" "Desk.keep" vD ["self","laying","wish"] 1 (yz T):=λ_ _ F=>by
 refine F.Ο Hv λI A l s H C Q E S h=>?_;obtain⟨o,G,g,t,a,b,m,U,N,R,s,rfl,O,B,v,J,k⟩:=h;obtain⟨z,ob⟩:=O.ob;obtain⟨j,e,r⟩:=O.pa;refine⟨_,(ay (cI (TV (cu (γ 0) rfl) (hV (aa (γ 1) (aa (γ 2) ap)))))),?_⟩;walk_at "t";refine⟨T.Desk,z,_,ob,T.η,T.S4,_,qO _ _,.inl ⟨rfl,_,ι.of e⟩,bX (by simp),λq u=>?_⟩;have d:=δ.new (.tup [V.ref a,V.ref b]) u;have D:=Paired.length r;refine⟨g,_,_,rfl,rfl,d _ _ e,d8 (by rw[ag];lia),?_⟩;have i:Ϙ g (upd H q (.tup [V.ref a,V.ref b])) (upd (upd H q (.tup [V.ref a,V.ref b])) g (.lst (j.map V.ref++[V.ref q]))):=Ϙ.refl.put _;have f:Ϙ g H (upd (upd H q (.tup [V.ref a,V.ref b])) g (.lst (j.map V.ref++[V.ref q]))):=λc y h n=>i c y (d _ _ h) n;have p:=O.same d;refine k _ ⟨?_,p.web.WC i (d _ _ e),j++[q],by rw[au,aq];rfl,?_⟩ f
 .obtain⟨dx',ZO⟩:=p.ob;exact⟨dx',i _ _ ZO (cZ ZO (d _ _ e) (by nofun))⟩
 .refine p4 ?_ (Paired.imp' (λq s x=>UO.UW f e x) r);exact UO.UW i (d _ _ e) ⟨a,b,au,d _ _ B,d _ _ v⟩
abbrev vk(P w base)(T:Txt K L):=Cm P w K L base (Meth K T.Desk "keep") "keep" "Desk.keep" vD ["self","laying","wish"] 1 (yz T)
def rK(T:Txt K L):Sp:=λb H Q _=>E9 λ(o d c t:Addr)(m:Int)(f:hR)(e:ix)(g:List (List Int×List Int))(s:List Int×List Int)=>b=[.ref o]/\π T.Web T.Desk H o d c m t f e (g++[s])/\∀a,H a=some (.tup (s.1.map V.int))->Q (.ref a) H
abbrev sL:Stmt:=kM (top 107) 6
def Eg:ε ["self"] ["self"] (aA sL):=.of
def Ef(T:Txt K L)(v:bI (τ P w)):Vq P w K L base "laying" "Desk.laying" sL ["self"] 1 (rK T):=λ_ _ F=>by
 refine F.Ο Eg λn A c s H j Q E z h=>?_;obtain⟨o,l,u,t,m,B,x,y,s,rfl,O,k⟩:=h;obtain⟨i,ob⟩:=O.ob;obtain⟨r,q,a,b,d,_,e,f,g,p⟩:=O.last;refine⟨_,(ay (aY (ψ eM (jR bu (cu (γ 0) rfl) (lz jo aD) (λ_ _=>rfl)) aD))),?_⟩;walk_at "t";refine⟨T.Desk,i,_,ob,T.η,T.S4,_,qO _ _,Γ d e ?_⟩;exact⟨q,_,0,_,rfl,rfl,Α.of f,rfl,k a g⟩
abbrev nI(P w base)(T:Txt K L):=Cm P w K L base (Meth K T.Desk "laying") "laying" "Desk.laying" sL ["self"] 1 (rK T)
def uq(T:Txt K L):Sp:=λb H Q _=>E9 λ(o d c t:Addr)(m:Int)(f:hR)(e:ix)(g:List (List Int×List Int))(s:List Int×List Int)=>b=[.ref o]/\π T.Web T.Desk H o d c m t f e (g++[s])/\∀a,H a=some (.tup (s.2.map V.int))->Q (.ref a) H
abbrev vK:Stmt:=kM (top 107) 7
def G1:ε ["self"] ["self"] (aA vK):=.of
def Im(T:Txt K L)(v:bI (τ P w)):Vq P w K L base "wish" "Desk.wish" vK ["self"] 1 (uq T):=λ_ _ F=>by
 refine F.Ο G1 λn A c s H j Q E z h=>?_;obtain⟨o,l,u,t,m,B,x,y,s,rfl,O,k⟩:=h;obtain⟨i,ob⟩:=O.ob;obtain⟨r,q,a,b,d,_,e,f,p,g⟩:=O.last;refine⟨_,(ay (aY (ψ eM (jR bu (cu (γ 0) rfl) (lz jo aD) (λ_ _=>rfl)) aD))),?_⟩;walk_at "t";refine⟨T.Desk,i,_,ob,T.η,T.S4,_,qO _ _,Γ d e ?_⟩;exact⟨q,_,1,_,rfl,rfl,Α.of f,rfl,k b g⟩
abbrev pN(P w base)(T:Txt K L):=Cm P w K L base (Meth K T.Desk "wish") "wish" "Desk.wish" vK ["self"] 1 (uq T)
def bA(m:Int)(a:fc):Bool:=decide ((a.length:Int)=m)&&a.all λx=>decide (0<=x)
def oS{m:Int}{a:fc}(h:(a.length:Int)=m)(c:∀x∈a,0<=x):bA m a=true:=by
 unfold bA;rw[bo h,iU,eI];exact λx b=>bo (c x b)
def iu{m:Int}{a:fc}(h:bA m a=true):(a.length:Int)=m:=by
 unfold bA at h;rw[bG]at h;exact bB h.1
def EM{m:Int}{a:fc}(h:bA m a=true):∀x∈a,0<=x:=by
 unfold bA at h;rw[bG,eI]at h;exact λx b=>bB (h.2 x b)
def xV(T:Txt K L):Sp:=λe H Q _=>E8 λ(p a t:Addr)(c:Bool)(m:Int)(f:hR)(g:ix)(b:fc)=>e=[.ref p,.ref a]/\θ T.Web H p m t f g/\Ω K c H a (b.map V.int)/\b.length<=1000/\∀d,δ H d->Q (.bl (bA m b)) d
abbrev vh:Stmt:=top 27
def Hx:ε ["web","numbers"] ["web","numbers"] (aA vh):=.of
def HJ(T:Txt K L)(G:bI (τ P w)):Ok P w K L base "is_filled" vh ["web","numbers"] 1 (xV T):=λ_ _ D=>by
 refine D.F.Ο Hx λB A n s H u Q E J h=>?_;obtain⟨p,a,t,c,m,M,I,xs,rfl,W,j,C,k⟩:=h;refine⟨_,(ay (aY (vR (jU cN (TB gP T.len (aa (γ 1) ap)) (cu (γ 0) rfl) (kY _)) (wB (TB (HF rfl) T.all (aa (gG rfl (l9 (Nc:=["number"]) 1 (by decide +kernel) (by decide +kernel) rfl (by decide +kernel) rfl) (wu c (γ 1)) (λ_ _ _ _=>(d6 (i:=0) (show(["number"]:hX).Nodup from by decide +kernel) rfl (Or.inl rfl))) (λ_ _ _ _=>gj) (λ_ _ _ _=>(jU zt (pv 0) aD (kY _)))) ap)))))),?_⟩;walk_at "t";obtain⟨r,ob⟩:=W.ob;have o:ι K H a (xs.map V.int)\/Α K H a (xs.map V.int):=by
  cases c
  .exact .inr j
  .exact .inl j
 refine⟨_,o,T.Web,r,_,ob,T.Ε,T.Λ,_,eT m t,rfl,?_⟩;rw[ag];by_cases g:(xs.length:Int)=m
 .rw[aj (by rw[g])];refine⟨⟨_,j⟩,λl nl=>?_⟩;refine me (K:=K) (c:=c) (xs:=xs.map V.int) (λi b f d=>δ H d/\d l=some (.lst b)/\b=((xs.take i).map λx=>decide (0<=x)).map V.bl/\∃v,f=[v]) ⟨δ.new _ nl,au,rfl,_,rfl⟩ (λi b f d _ z=>δ.ϫ z.1 j) ?_ ?_
  .rintro i x b f d N hN hx ⟨s2,e2,rfl,v,rfl⟩;rw[aN]at hx;obtain⟨y,q,rfl⟩:=cq.mp hx;walk_at "";refine⟨e2,d8 (by rw[ag,ag,bq];lia),hN _ _ _ ⟨s2.put nl _,au,?_,_,rfl⟩⟩;rw[bg,q,aq,aq]
   rfl
  .rintro b f d ⟨s2,e2,rfl,v,rfl⟩;refine⟨l,rfl,_,ι.of e2,?_⟩;have e:(((xs.take (xs.map V.int).length).map λx=>decide (0<=x)).all id)=bA m xs:=by
    rw[ag,bC,List.all_map];unfold bA;rw[bo g,iU]
    rfl
   rw[e];exact k _ s2
 .rw[ah (λz=>g (by injection z))];have e:bA m xs=false:=by
   unfold bA;rw[bM g,gh]
  rw[e]at k;exact k H (δ.refl _)
abbrev Ar(P w base)(T:Txt K L):=Cb P w K L base "is_filled" vh ["web","numbers"] 1 (xV T)
def yn(T:Txt K L):Sp:=λe H Q E=>E8 λ(p a t:Addr)(c:Bool)(m:Int)(f:hR)(g:ix)(d:fc)=>e=[.ref p,.ref a]/\θ T.Web H p m t f g/\Ω K c H a (d.map V.int)/\d.length<=1000/\(bA m d=true->∀l b,δ H b->(b l=some (.tup (d.map V.int))\/(c=false/\l=a))->Α K b l (d.map V.int)->Q (.ref l) b)/\(bA m d=false->∀b,δ H b->E (.ref T.BadLaying) none b)
abbrev r9:Stmt:=top 26
def HC:ε ["web","numbers"] ["web","numbers"] (aA r9):=.of
def pM:Ψ (aA r9) "BadLaying":=.of
def GR(T:Txt K L)(C:bI (τ P w))(r:Ar P w base T):Ok P w K L base "laying_of" r9 ["web","numbers"] 2 (yn T):=λ_ _ D=>by
 refine D.F.Ϻ HC λB A j s H y Q E v h=>?_;obtain⟨p,a,t,c,m,x,u,i,rfl,W,f,q,k,e⟩:=h;refine⟨_,(aw (bU (nM (lL (Ξ r v bT (aa (γ 0) (aa (γ 1) ap))))) (ay (qZ T.UM rfl tK pM.g T.S8 (aa bH ap) (hdb:=pM.d))) bE) (ay (aY (iO gi T.tuple (aa (γ 1) ap))))),?_⟩;walk_at "t";refine⟨p,a,t,c,m,x,u,i,rfl,W,f,q,λn b=>⟨_,rfl,?_⟩⟩;by_cases z:bA m i=false
 .rw[aj z];exact⟨by decide,e z n b⟩
 .rw[ah z];have o:bA m i=true:=by simpa using z
  cases c
  .exact⟨_,.inr ⟨δ.ϫ (c:=false) b f,k o a n b (.inr ⟨rfl,rfl⟩) (δ.ϫ (c:=false) b f)⟩⟩
  .exact⟨_,.inl ⟨δ.ϫ (c:=true) b f,λl nl=>k o l _ (b.trans (δ.new _ nl)) (.inl au) (Α.of au)⟩⟩
abbrev sg(P w base)(T:Txt K L):=Cb P w K L base "laying_of" r9 ["web","numbers"] 2 (yn T)
def LX(T:Txt K L):Sp:=λe H Q E=>E10 λ(p a t:Addr)(c:Bool)(m:Int)(f:hR)(g:ix)(d:fc)(v n:Int)=>e=[.ref p,.ref a,.int v,.int n]/\θ T.Web H p m t f g/\Ω K c H a (d.map V.int)/\d.length<=1000/\(bA m d=true->0<=v->v<m->0<=d.getD v.toNat 0+n->∀l b,δ H b->b l=some (.tup ((d.set v.toNat (d.getD v.toNat 0+n)).map V.int))->Q (.ref l) b)/\(bA m d=false->∀b,δ H b->E (.ref T.BadLaying) none b)/\(bA m d=true->¬(0<=v/\v<m)->∀b,δ H b->E (.ref T.NoPlace) none b)/\(bA m d=true->0<=v->v<m->d.getD v.toNat 0+n<0->∀b,δ H b->E (.ref T.BadLaying) none b)
abbrev K7:Stmt:=top 30
def RX:ε ["web","laying","place","many","counts"] ["web","laying","place","many"] (aA K7):=.of
def RI(T:Txt K L)(hq:bI (τ P w))(dH:lF P w base T)(U:sg P w base T):Ok P w K L base "put" K7 ["web","laying","place","many"] 3 (LX T):=λ_ _ D=>by
 refine D.F.Ϻ RX λο A I s H vs Q E G h=>?_;obtain⟨p,a,t,c,m,J,C,b,v,n,rfl,W,ha,hz,k,e1,e2,e3⟩:=h;have g:=W.go;have Ζ:=g.Ζ;refine⟨_,(aw (Κ 4 (iO jN T.list (aa (Ξ U G bT (aa (γ 0) (aa (γ 1) ap))) ap))) (aw (cI (Ξ dH G bT (aa (γ 0) (aa (γ 2) ap)))) (aw (rf (γ 4) (γ 2) p5 (γ 3) sB gI) (ay (aY (Ξ U G bT (aa (γ 0) (aa (γ 4) ap)))))))),?_⟩;walk_at "t";refine⟨p,a,t,c,m,J,C,b,rfl,W,ha,hz,λd l0 N O _ Y=>?_,e1⟩;have xl:(b.length:Int)=m:=by
  unfold bA at d;rw[bG]at d;exact bB d.1
 refine⟨l0,rfl,_,.inr Y,λl M=>?_⟩;have o:=O.trans (δ.new (.lst (b.map V.int)) M);have nl:=O.free M;have B:upd N l (.lst (b.map V.int)) l=some (.lst (b.map V.int)):=au;generalize upd N l (.lst (b.map V.int))=y at o B ⊢;refine⟨p,t,m,J,C,v,rfl,W.same o,λq S=>?_,λz=>e2 d z y o⟩;refine Γ B (Ϲ q (by lia)) ⟨_,rfl,nZ B q (by rw[ag];lia) ?_⟩;rw[<-cU];have r:=o.put nl (.lst ((b.set v.toNat (b.getD v.toNat 0+n)).map V.int));have f:upd y l (.lst ((b.set v.toNat (b.getD v.toNat 0+n)).map V.int)) l=some (.lst ((b.set v.toNat (b.getD v.toNat 0+n)).map V.int)):=au;generalize upd y l (.lst ((b.set v.toNat (b.getD v.toNat 0+n)).map V.int))=H2 at r f ⊢;have yl:((b.set v.toNat (b.getD v.toNat 0+n)).length:Int)=m:=by rw[bN];exact xl
 refine⟨p,l,t,true,m,J,C,_,rfl,W.same r,ι.of f,by lia,λe R j u Z _=>?_,λe j u=>?_⟩
 .have hl3:j R=some (.tup ((b.set v.toNat (b.getD v.toNat 0+n)).map V.int)):=by
   rcases Z with z|z
   .exact z
   .cases z.1
  refine k d q S ?_ R j (r.trans u) hl3;unfold bA at e;rw[bG,eI]at e;exact bB (e.2 _ (aP (i:=v.toNat) (by rw[da (by lia)])))
 .refine e3 d q S ?_ j (r.trans u);apply Classical.byContradiction;intro z;have:bA m (b.set v.toNat (b.getD v.toNat 0+n))=true:=by
   unfold bA at d;rw[bG,eI]at d;exact oS yl (RG (λx X=>bB (d.2 x X)) (by lia))
  rw[this]at e;cases e
def Jg(T:Txt K L):Sp:=λb H Q E=>E7 λ(p t:Addr)(m:Int)(d:hR)(c:ix)(v n:Int)=>b=[.ref p,.int v,.int n]/\θ T.Web H p m t d c/\(0<=v->v<m->0<=n->∀l a,δ H a->a l=some (.tup (((List.replicate m.toNat (0:Int)).set v.toNat n).map V.int))->Q (.ref l) a)/\(¬(0<=v/\v<m)->∀a,δ H a->E (.ref T.NoPlace) none a)/\(0<=v->v<m->n<0->∀a,δ H a->E (.ref T.BadLaying) none a)
abbrev GV:Stmt:=top 29
def QV:ε ["web","place","many"] ["web","place","many"] (aA GV):=.of
def QA(T:Txt K L)(hq:bI (τ P w))(R:Cb P w K L base "put" K7 ["web","laying","place","many"] 3 (LX T)):Ok P w K L base "pile" GV ["web","place","many"] 4 (Jg T):=λ_ _ D=>by
 refine D.F.Ϻ QV λο A o s H Z Q E X h=>?_;obtain⟨p,t,m,Y,N,v,n,rfl,W,k,I,O⟩:=h;have g:=W.go;have m1:=g.m1;have Ζ:=g.Ζ;obtain⟨U,ob⟩:=W.ob;refine⟨_,(ay (aY (Ξ R X bT (aa (γ 0) (aa (aX oO (eK (aa aD ap)) (cu (γ 0) rfl)) (aa (γ 1) (aa (γ 2) ap))))))),?_⟩;walk_at "t";refine⟨bX (by simp),λj C=>?_⟩;have u:=δ.new (.lst [V.int 0]) C;refine⟨T.Web,U,_,u _ _ ob,T.Ε,T.Λ,_,eT m t,?_⟩;refine⟨j,m,_,rfl,rfl,au,by lia,by lia,bX (by simp;lia),λl G=>?_⟩;rw[FY];have c:=u.trans (δ.new (.lst (List.replicate m.toNat (V.int 0))) G);have q:upd (upd H j (.lst [V.int 0])) l (.lst (List.replicate m.toNat (V.int 0))) l=some (.lst ((List.replicate m.toNat (0:Int)).map V.int)):=by rw[au,hG]
 generalize upd (upd H j (.lst [V.int 0])) l (.lst (List.replicate m.toNat (V.int 0)))=H1 at c q ⊢;have M:((List.replicate m.toNat (0:Int)).length:Int)=m:=by rw[b8];lia
 have B:∀x∈List.replicate m.toNat (0:Int),0<=x:=λx y=>by rw[(i4.mp y).2];decide
 have J:=oS M B;have r:0<=v->v<m->(List.replicate m.toNat (0:Int)).getD v.toNat 0=0:=λa b=>by
  rw[List.getD,jQ (by lia)];rfl
 refine⟨p,l,t,true,m,Y,N,_,v,n,rfl,W.same c,ι.of q,by lia,λ_ a b d S f i e=>?_,λz=>(by rw[J]at z;cases z),λ_ z f i=>I z f (c.trans i),λ_ a b d f i=>?_⟩
 .rw[r a b,ee]at d e;exact k a b d S f (c.trans i) e
 .rw[r a b,ee]at d;exact O a b d f (c.trans i)
def Aj(T:Txt K L):Sp:=λg H Q _=>WZ λ(o d b t:Addr)(m:Int)(f:hR)(e:ix)(c:List (List Int×List Int))(s:List Int×List Int)(v n:Int)=>g=[.ref o,.int v,.int n]/\π T.Web T.Desk H o d b m t f e (c++[s])/\c.length<=500/\(s.1.length:Int)=m/\(0<=v/\v<m)/\0<=n/\∀a,π T.Web T.Desk a o d b m t f e (c++[s]++[(s.1.set v.toNat (s.1.getD v.toNat 0+n),s.2)])->Ϙ b H a->Q .ξ a
abbrev sV:Stmt:=kM (top 107) 1
def Iw:ε ["self","place","many","heap"] ["self","place","many"] (aA sV):=.of
def Ct:Ψ (aA sV) "zip":=.of
def Jd(T:Txt K L)(j:bI (τ P w))(X:vk P w base T)(S:nI P w base T)(W:pN P w base T)(GS:Cb P w K L base "pile" GV ["web","place","many"] 4 (Jg T)):Vq P w K L base "put" "Desk.put" sV ["self","place","many"] 5 (Aj T):=λ_ _ F=>by
 refine F.Ο Iw λο A ab s H vs Q E J h=>?_;obtain⟨o,B,Y,t,m,D,I,ς,s,v,n,rfl,O,sl,xl,R,n0,k⟩:=h;obtain⟨dx,ob⟩:=O.ob;have Ζ:=O.web.go.Ζ;refine⟨_,(aw (Κ 3 (Θ GS J j (aa (cu (γ 0) rfl) (aa (γ 1) (aa (γ 2) ap))))) (ay (cI (nV (γ 0) T.η X.M X.G (J.mono (by decide)) X.b .nil (d7 j) (aa (iO gi T.tuple (aa (gG rfl (l9 (Nc:=["has","more"]) 2 (by decide +kernel) (by decide +kernel) rfl (by decide +kernel) rfl) (Ia false false Ct.g T.zip (aa (gu (γ 0) T.η S.M S.G (J.mono (by decide)) S.b .nil (d7 j)) (aa (γ 3) ap))) (λ_ _ _ _=>(wr K rfl (n:=2) rfl (bQ (d6 (i:=0) (show(["has","more"]:hX).Nodup from by decide +kernel) rfl (Or.inl rfl)) (bQ (d6 (i:=1) (show(["has","more"]:hX).Nodup from by decide +kernel) rfl (Or.inl rfl)) fI)))) (λ_ _ _ _=>gj) (λ_ _ _ _=>(aX gc (pv 0) (pv 1)))) ap)) (aa (gu (γ 0) T.η W.M W.G (J.mono (by decide)) W.b .nil (d7 j)) ap)))))),?_⟩;walk_at "t";refine⟨T.Desk,dx,_,ob,T.η,T.χ,_,yP _ _,?_⟩;refine⟨B,t,m,D,I,v,n,rfl,O.web,λ_ _ _ l1 H1 s1 e1=>?_,λz=>absurd R z,λ_ _ z=>by lia⟩;have l:=O.same s1;obtain⟨ar,U6⟩:=l.ob;refine l.Τ ?_;refine l.Τ ⟨o,B,Y,t,m,D,I,ς,s,rfl,l,λla ZP=>?_⟩;have a2:((List.replicate m.toNat (0:Int)).set v.toNat n).length=m.toNat:=by rw[bN,b8]
 refine⟨la,l1,⟨rfl,rfl⟩,⟨_,Α.of ZP⟩,⟨_,Α.of e1⟩,λp hp=>?_⟩;refine Bh (K:=K) (c:=false) (d:=false) (xs:=s.1.map V.int) (zs:=((List.replicate m.toNat (0:Int)).set v.toNat n).map V.int) (λi r u a=>δ H1 a/\a p=some (.lst r)/\r=(((s.1.zip ((List.replicate m.toNat (0:Int)).set v.toNat n)).take i).map λq=>q.1+q.2).map V.int/\∃v w,u=[v,w]) ⟨δ.new _ hp,au,rfl,_,_,rfl⟩ (λi r u a z=>⟨Α.of (z.1 _ _ ZP),Α.of (z.1 _ _ e1)⟩) ?_ ?_
 .rintro i x z r u a q N hN hx Yn ⟨s2,e2,rfl,v',w,rfl⟩ j;rw[aN]at hx Yn;obtain⟨x,gx,rfl⟩:=cq.mp hx;obtain⟨z,gz,rfl⟩:=cq.mp Yn;have f:=δ.new (.tup [V.int x,V.int z]) j;have a4:=(ax.mp gx).1;walk_at "";refine⟨_,Α.of au,rfl,_,_,rfl,_,_,rfl,rfl,?_⟩;walk_at "";refine⟨f _ _ e2,d8 (by simp;lia),hN _ _ _ ⟨(s2.trans f).put hp _,au,?_,_,_,rfl⟩⟩;have U:(s.1.zip ((List.replicate m.toNat (0:Int)).set v.toNat n))[i]?=some (x,z):=by rw[iX];exact⟨gx,gz⟩
  rw[bg,U,aq,aq]
  rfl
 .rintro r u a ⟨s2,e2,rfl,v',w,rfl⟩;have e:(((s.1.zip ((List.replicate m.toNat (0:Int)).set v.toNat n)).take (min (s.1.map V.int).length (((List.replicate m.toNat (0:Int)).set v.toNat n).map V.int).length)).map λq=>q.1+q.2)=s.1.set v.toNat (s.1.getD v.toNat 0+n):=by
   rw[bZ (by rw[iV,ag,ag];exact aJ _),<-OG xl R.1 R.2];unfold nA;rw[List.zip,List.map_zipWith]
  rw[e]at e2;refine⟨p,rfl,_,.inl ⟨ι.of e2,λC n3=>?_⟩⟩;have f:=s2.trans (δ.new (.tup ((s.1.set v.toNat (s.1.getD v.toNat 0+n)).map V.int)) n3);have e3:upd a C (.tup ((s.1.set v.toNat (s.1.getD v.toNat 0+n)).map V.int)) C=some (.tup ((s.1.set v.toNat (s.1.getD v.toNat 0+n)).map V.int)):=au;generalize upd a C (.tup ((s.1.set v.toNat (s.1.getD v.toNat 0+n)).map V.int))=H3 at f e3 ⊢;have Z:=l.same f;refine Z.Τ ⟨o,B,Y,t,m,D,I,ς,s,rfl,Z,λlb XM=>?_⟩;refine⟨o,B,Y,t,C,lb,m,D,I,_,(_,_),rfl,Z,e3,XM,by rw[aH];simp;lia,λH4 O4 k4=>k H4 O4 ?_⟩;exact λc y h n=>k4 c y (f _ _ (s1 _ _ h)) n
def Iq(T:Txt K L):Sp:=λb H Q _=>E7 λ(p q t:Addr)(m:Int)(c:hR)(a:ix)(s:ϻ)=>b=[.ref p,.ref q]/\θ T.Web H p m t c a/\H q=some (.tup (Xx s))/\qy m a s=true/\Q (.int (s.2.2*jH a s.1 s.2.1)) H
abbrev DH:Stmt:=top 41
def Nz:ε ["web","step"] ["web","step"] (aA DH):=.of
def PN(T:Txt K L)(f:bI (τ P w))(j:mC P w base T):Ok P w K L base "taken" DH ["web","step"] 4 (Iq T):=λ_ _ D=>by
 refine D.F.Ο Nz λu A b s H r Q E n h=>?_;obtain⟨p,q,t,m,o,i,s,rfl,W,a,is,k⟩:=h;have g:=W.go;obtain⟨v,c,d,x,l⟩:=Fg g is;have e:=(wZ is).1;refine⟨_,(ay (aY (aX j6 (ψ eM (γ 1) aD) (Θ j n f (aa (γ 0) (aa (ψ eM (γ 1) aD) (aa (ψ eM (γ 1) aD) ap))))))),?_⟩;walk_at "t";refine Tv a rfl (Tv a rfl (Tv a rfl ?_));refine⟨p,t,m,o,i,s.1,s.2.1,?_⟩;refine an5 rfl W (λy _ _ _ _ h=>?_) (λz=>absurd ⟨e,l⟩ z) (λ_ _ _ _ z=>by rw[c]at z;cases z);rw[c]at h;cases h;rw[d]at k;exact⟨_,rfl,_,rfl,.inr ⟨by lia,by lia⟩,k⟩
abbrev JR(P w base)(T:Txt K L):=Cb P w K L base "taken" DH ["web","step"] 4 (Iq T)
def EH(T:Txt K L):Sp:=λe H Q _=>E9 λ(p a q t:Addr)(m:Int)(f:hR)(d:ix)(c:fc)(s:ϻ)=>e=[.ref p,.ref a,.ref q]/\θ T.Web H p m t f d/\Α K H a (c.map V.int)/\(c.length:Int)=m/\H q=some (.tup (Xx s))/\qy m d s=true/\∀l b,H l=none->δ H b->b l=some (.tup ((pF d c s).map V.int))->Q (.ref l) b
abbrev AY:Stmt:=top 42
def LZ:ε ["web","laying","step","counts"] ["web","laying","step"] (aA AY):=.of
def LQ(T:Txt K L)(I:bI (τ P w))(C:JR P w base T):Ok P w K L base "behind" AY ["web","laying","step"] 5 (EH T):=λ_ _ D=>by
 refine D.F.Ο LZ λZ A r s H X Q E O h=>?_;obtain⟨p,a,q,t,m,S,d,b,s,rfl,W,R,xl,M,is,k⟩:=h;have g:=W.go;have Ζ:=g.Ζ;obtain⟨kk,U,Y,kr,x⟩:=Fg g is;have v:=(wZ is).1;refine⟨_,(aw (Κ 3 (iO jN T.list (aa (γ 1) ap))) (aw (rf (γ 3) (ψ eM (γ 2) aD) p5 (Θ C O I (aa (γ 0) (aa (γ 2) ap))) RE gI) (aw (rf (γ 3) (ψ eM (γ 2) aD) p5 (ψ eM (γ 2) aD) sB gI) (ay (aY (iO gi T.tuple (aa (γ 3) ap))))))),?_⟩;walk_at "t";refine⟨_,.inr R,λl nl=>?_⟩;have e:=δ.new (.lst (b.map V.int)) nl;have c:=e _ _ M;have i:upd H l (.lst (b.map V.int)) l=some (.lst (b.map V.int)):=au;generalize upd H l (.lst (b.map V.int))=G at e c i ⊢;refine Tv c rfl (Γ i (Ϲ v.1 (by lia)) ?_);refine⟨p,q,t,m,S,d,s,?_⟩;refine an5 rfl (W.same e) c is ?_;refine⟨_,rfl,_,rfl,nZ i v.1 (by rw[ag];lia) ?_⟩;rw[<-cU];have j:q≠l:=cZ c i (by nofun);have N:(b.set s.1.toNat (b.getD s.1.toNat 0-s.2.2*jH d s.1 s.2.1)).length=b.length:=by rw[bN]
 have y:pF d b s=(b.set s.1.toNat (b.getD s.1.toNat 0-s.2.2*jH d s.1 s.2.1)).set s.2.1.toNat ((b.set s.1.toNat (b.getD s.1.toNat 0-s.2.2*jH d s.1 s.2.1)).getD s.2.1.toNat 0+s.2.2):=rfl;generalize b.set s.1.toNat (b.getD s.1.toNat 0-s.2.2*jH d s.1 s.2.1)=B at N y ⊢;have u:upd G l (.lst (B.map V.int)) q=some (.tup (Xx s)):=by rw[aM j];exact c
 refine Tv u rfl (Γ au (Ϲ x.1 (by lia)) (Tv u rfl ⟨_,rfl,_,rfl,nZ au x.1 (by rw[ag];lia) ?_⟩));rw[mN,<-cU,<-y];refine⟨_,.inl ⟨ι.of au,λn f=>?_⟩⟩;have J:H n=none:=by
  have o:n≠l:=λz=>by rw[z,au]at f;cases f
  rw[aM o]at f;exact e.free f
 exact k n _ J ((e.put nl _).trans (δ.new _ f)) au
def CF(T:Txt K L):Sp:=λc H Q _=>E7 λ(p q t:Addr)(m:Int)(d:hR)(b:ix)(s:ϻ)=>c=[.ref p,.ref q]/\θ T.Web H p m t d b/\H q=some (.tup (Xx s))/\∀a,δ H a->Q (.bl (qy m b s)) a
abbrev ya:Stmt:=top 40
def KL:ε ["web","step"] ["web","step"] (aA ya):=.of
def KG(T:Txt K L)(j:bI (τ P w))(x:wL P w base T)(v:yj P w base T):Ok P w K L base "is_step" ya ["web","step"] 4 (CF T):=λ_ _ D=>by
 refine D.F.Ο KL λG A g s H C Q E o h=>?_;obtain⟨p,q,t,m,B,f,s,rfl,W,b,k⟩:=h;obtain⟨y,ob⟩:=W.ob;refine⟨_,(ay (aY (vR (Θ x o j (aa (cu (γ 0) rfl) (aa (ψ eM (γ 1) aD) ap))) (vR (jU yU (ψ eM (γ 1) aD) (Θ v o j (aa (γ 0) (aa (ψ eM (γ 1) aD) ap))) (by with_unfolding_all rfl)) (wB (jU zt (ψ eM (γ 1) aD) aD (kY _))))))),?_⟩;walk_at "t";refine⟨T.Web,y,_,ob,T.Ε,T.Λ,_,eT m t,Tv b rfl ⟨m,s.1,rfl,?_⟩⟩;refine⟨_,rfl,?_⟩;have a:∀n,δ H n->Q (.bl (decide (0<=s.1)&&decide (s.1<m)&&decide (s.2.1∈jO m f s.1)&&decide (1<=s.2.2))) n:=k;by_cases c:(decide (0<=s.1)&&decide (s.1<m))=true
 .rw[aj c];rw[c,iU]at a;have r:0<=s.1/\s.1<m:=by
   rw[bG]at c;exact⟨bB c.1,bB c.2⟩
  refine Tv b rfl (Tv b rfl ?_);refine⟨p,t,m,B,f,s.1,?_⟩;refine Vl rfl W (λl i _ _ nl e u=>?_) (λz=>absurd r z);refine inL u ⟨_,rfl,?_⟩;by_cases d:s.2.1∈jO m f s.1
  .rw[bo d,iU]at a;rw[aj (by rw[bo d];rfl)];exact Tv (e _ _ b) rfl ⟨_,rfl,a i e⟩
  .rw[bM d,gh]at a;rw[ah (by rw[bM d];decide)];exact a i e
 .rw[ah c];rw[show(decide (0<=s.1)&&decide (s.1<m))=false by simpa using c,gh,gh]at a;exact a H (δ.refl _)
def wg(T:Txt K L):Sp:=λe H Q _=>E9 λ(p a q t:Addr)(m:Int)(f:hR)(d:ix)(b:fc)(s:ϻ)=>e=[.ref p,.ref a,.ref q]/\θ T.Web H p m t f d/\Α K H a (b.map V.int)/\(b.length:Int)=m/\H q=some (.tup (Xx s))/\∀c,δ H c->Q (.bl (sS m d b s)) c
abbrev sN:Stmt:=top 39
def DQ:ε ["web","laying","step"] ["web","laying","step"] (aA sN):=.of
def DU(T:Txt K L)(i:bI (τ P w))(o:Cb P w K L base "is_step" ya ["web","step"] 4 (CF T))(n:JR P w base T):Ok P w K L base "can_be_done" sN ["web","laying","step"] 5 (wg T):=λ_ _ D=>by
 refine D.F.Ο DQ λx A f s H v Q E j h=>?_;obtain⟨p,a,q,t,m,l,d,z,s,rfl,W,u,y,e,k⟩:=h;refine⟨_,(ay (aY (vR (Θ o j i (aa (γ 0) (aa (γ 2) ap))) (wB (jU zt (ψ eM (γ 1) (jR eM (γ 2) aD (λ_ _=>rfl))) (Θ n j i (aa (γ 0) (aa (γ 2) ap))) (kY _)))))),?_⟩;walk_at "t";refine⟨p,q,t,m,l,d,s,?_⟩;refine Vl rfl W e (λg b=>⟨_,rfl,?_⟩);by_cases c:qy m d s=true
 .rw[aj c];have r:=(wZ c).1;refine Tv (b _ _ e) rfl (Et (δ.tup b u) (Ϲ r.1 (by lia)) ?_);refine⟨p,q,t,m,l,d,s,?_⟩;refine an5 rfl (W.same b) (b _ _ e) c ?_;have:=k g b;unfold sS at this;rw[c,iU]at this;exact⟨_,rfl,_,rfl,this⟩
 .rw[ah c];have:=k g b;unfold sS at this;rw[show qy m d s=false by simpa using c,gh]at this;exact this
def BQ(T:Txt K L):Sp:=λk H Q _=>XC λ(p a b t:Addr)(c d:Bool)(m:Int)(n i:hR)(h:ix)(f:fc)(e:List ϻ)=>k=[.ref p,.ref a,.ref b]/\θ T.Web H p m t n h/\VY c H a (f.map V.int)/\bA m f=true/\VY d H b (i.map V.ref)/\Δ H i e/\e.length<=1000/\Ik m h f e/\∀l j g,H l=none->δ H g->g l=some (.lst (j.map V.ref))->My g j (uR h f e)->Q (.ref l) g
abbrev uX:Stmt:=top 38
def KH:ε ["web","laying","steps","passed","at","step"] ["web","laying","steps"] (aA uX):=.of
def wM:Ψ (aA uX) "enumerate":=.of
def Kp(T:Txt K L)(hq:bI (τ P w))(AR:Cb P w K L base "behind" AY ["web","laying","step"] 5 (EH T))(sI:Cb P w K L base "can_be_done" sN ["web","laying","step"] 5 (wg T))(gU:sg P w base T):Ok P w K L base "layings" uX ["web","laying","steps"] 6 (BQ T):=λ_ _ D=>by
 refine D.F.Ο KH λο A U s H vs Q E Y h=>?_;obtain⟨p,a,b,t,c,d,m,Z,J,rs,xs,ss,rfl,W,ha,R,hb,hs,sl,ca,k⟩:=h;have g:=W.go;have Ζ:=g.Ζ;have xl:(xs.length:Int)=m:=by
  unfold bA at R;rw[bG]at R;exact bB R.1
 refine⟨_,(aw (Κ 3 (eK (aa (Θ gU Y hq (aa (γ 0) (aa (γ 1) ap))) ap))) (aw (gf PassesOwn.never rfl (zI d wM.g T.enumerate (γ 2)) (iH (n:=2) rfl (bQ (ϊ 4) (bQ (ϊ 5) fI))) (aw (bU (nM (lL (Θ sI Y hq (aa (γ 0) (aa (ψ bu (γ 3) (lz jo aD)) (aa (γ 5) ap)))))) (ay kW) bE) (ay (cI (TV (γ 3) (Θ AR Y hq (aa (γ 0) (aa (ψ bu (γ 3) (lz jo aD)) (aa (γ 5) ap))))))))) (ay (aY (γ 3))))),?_⟩;walk_at "t";refine⟨p,a,t,c,m,Z,rs,xs,?_⟩;refine an6 rfl W ha.sq (by lia) (λ_ r H1 s1 e1 _=>?_) (λz=>by rw[R]at z;cases z);have ar:H1 r=some (.tup (xs.map V.int)):=by
  rcases e1 with e|⟨hc,rfl⟩
  .exact e
  .subst hc;exact s1 _ _ ha
 refine⟨bX (by simp),λl nl=>?_⟩;have s2:=δ.new (.lst [V.ref r]) nl;have ZM:=s1.free nl;have ϙ:=s1.trans s2;have e2:=s2 _ _ ar;have el:upd H1 l (.lst [V.ref r]) l=some (.lst [V.ref r]):=au;generalize upd H1 l (.lst [V.ref r])=H2 at s2 ϙ e2 el ⊢;have ql:J.length=ss.length:=Paired.length hs;have v:∀{f:Hp},δ H f->Ω K d f b (J.map V.ref):=λ{f} s3=>VY.sq (K:=K) (show VY d f b (J.map V.ref)from s3 _ _ hb);refine⟨⟨_,v ϙ⟩,?_⟩;refine Hm (K:=K) (c:=d) (xs:=J.map V.ref) (λi M f=>δ H f/\i<=ss.length/\E3 λ(j:hR)(v4 v5:Option V)=>f l=some (.lst (j.map V.ref))/\My f j ((uR rs xs ss).take (i+1))/\M=[some (V.ref p),some (V.ref a),some (V.ref b),some (V.ref l),v4,v5]) ⟨ϙ,cg _,[r],_,_,el,?_,rfl⟩ (λi M f z=>v z.1) ?_ ?_
 .have h0:=uF (rs:=rs) (xs:=xs) (ss:=ss) (i:=0) (cg _);rw[MB]at h0;rw[bg,h0,dU];exact .cons e2 .nil
 .rintro i x M f q N hN hx ⟨s3,il,j,v4,v5,e3,ta,rfl⟩ nq;obtain⟨S,s,rfl,h1,X,h3⟩:=(Δ.same s3 hs).get hx;have ae:i<ss.length:=(ax.mp X).1;have cd:=ca i s X;have is:qy m rs s=true:=by
   unfold sS at cd;rw[bG]at cd;exact cd.1
  have I:=δ.new (.tup [V.int (i:Int),V.ref S]) nq;have tl:j.length=((uR rs xs ss).take (i+1)).length:=Paired.length ta;rw[bq,yq]at tl;have br:=NP rs xs ss i;obtain⟨u,B⟩:∃u,j[i]?=some u:=⟨_,az (by lia)⟩;obtain⟨bK,y,C⟩:=Hs ta B;rw[gQ (by lia),uF il]at y;cases y;have WK:∃t',j=t'++[u]:=by
   refine⟨j.take i,?_⟩;have:=bg (l:=j) (i:=i);rw[B,bZ (by lia)]at this;exact this
  obtain⟨t',ϭ⟩:=WK;have O:f l=some (.lst (t'.map V.ref++[V.ref u])):=by rw[e3,ϭ,aq];rfl
  walk_at "";refine⟨_,Α.of au,rfl,_,_,rfl,_,_,rfl,rfl,?_⟩;refine Γ (I _ _ O) (Bk _ _) ?_;refine⟨p,u,S,t,m,Z,rs,qQ rs xs ss i,s,rfl,W.same (s3.trans I),Α.of (I _ _ C),by lia,I _ _ h3,λH5 s5=>⟨_,rfl,?_⟩⟩;rw[cd,ah (by decide)];have o:=I.trans s5;refine⟨S9 (o _ _ O),Γ (o _ _ O) (Bk _ _) ?_⟩;refine⟨p,u,S,t,m,Z,rs,qQ rs xs ss i,s,rfl,W.same (s3.trans o),Α.of (o _ _ C),by lia,o _ _ h3,is,λtn H6 nn s6 en=>?_⟩;have G:=o.trans s6;have ad:tn≠l:=λz=>by rw[z,o _ _ O]at nn;cases nn
  refine oN (G _ _ e3) (d8 (by rw[ag];lia)) (hN _ _ ⟨(s3.trans G).put ZM _,ae,j++[tn],_,_,by rw[au,aq];rfl,?_,rfl⟩);rw[bg,uF (by lia),Ms X];exact zH (by rw[aM ad];exact en) (Paired.imp' (λa b h=>by rw[aM (cZ (G _ _ h) (G _ _ e3) (by nofun))];exact G _ _ h) ta)
 .rintro M f ⟨s3,il,j,v4,v5,e3,ta,rfl⟩;rw[ag,ql,bZ (by rw[yq];exact aJ _)]at ta;walk_at "";exact k l j f ZM s3 e3 ta
def EB(T:Txt K L):Sp:=λj H Q _=>XC λ(p a b t:Addr)(c d:Bool)(m:Int)(k i:hR)(h:ix)(f:fc)(e:List ϻ)=>j=[.ref p,.ref a,.ref b]/\θ T.Web H p m t k h/\VY c H a (f.map V.int)/\bA m f=true/\VY d H b (i.map V.ref)/\Δ H i e/\e.length<=1000/\Ik m h f e/\∀l g,δ H g->g l=some (.tup ((qQ h f e e.length).map V.int))->Q (.ref l) g
abbrev A7:Stmt:=top 37
def Mg:ε ["web","laying","steps"] ["web","laying","steps"] (aA A7):=.of
def MY(T:Txt K L)(O:bI (τ P w))(G:Cb P w K L base "layings" uX ["web","laying","steps"] 6 (BQ T)):Ok P w K L base "walked" A7 ["web","laying","steps"] 7 (EB T):=λ_ _ D=>by
 refine D.F.Ο Mg λο A q s H Z Q E V h=>?_;obtain⟨p,a,b,t,c,d,m,Y,M,x,v,f,rfl,W,X,y,B,U,I,z,k⟩:=h;refine⟨_,(ay (aY (jR bu (Θ G V O (aa (γ 0) (aa (γ 1) (aa (γ 2) ap)))) (lz jo aD) (λ_ _=>rfl)))),?_⟩;walk_at "t";refine⟨p,a,b,t,c,d,m,Y,M,x,v,f,?_⟩;refine an9 rfl W X y B U I z (λl g J nl C u r=>?_);have R:g.length=(uR x v f).length:=Paired.length r;rw[yq]at R;obtain⟨n,e⟩:∃n,g[f.length]?=some n:=⟨_,az (by lia)⟩;obtain⟨S,j,o⟩:=Hs r e;rw[uF (aJ _)]at j;cases j;have N:g=g.take f.length++[n]:=by
  have:=bg (l:=g) (i:=f.length);rw[e,bZ (by lia)]at this;exact this
 rw[N,aq]at u;exact Γ u (Bk _ _) (k n J C o)
def zd(T:Txt K L):Sp:=λi H Q _=>XC λ(o g e t:Addr)(m:Int)(h:hR)(c:ix)(f:List (List Int×List Int))(s:List Int×List Int)(a b n:Int)=>i=[.ref o,.int a,.int b,.int n]/\π T.Web T.Desk H o g e m t h c (f++[s])/\f.length<=500/\bA m s.1=true/\Ik m c s.1 [(a,b,n)]/\∀d,π T.Web T.Desk d o g e m t h c (f++[s]++[(qQ c s.1 [(a,b,n)] 1,s.2)])->Ϙ e H d->Q .ξ d
abbrev vt:Stmt:=kM (top 107) 3
def Ig:ε ["self","a","b","times"] ["self","a","b","times"] (aA vt):=.of
def HW(T:Txt K L)(j:bI (τ P w))(u:vk P w base T)(q:nI P w base T)(r:pN P w base T)(U:Cb P w K L base "walked" A7 ["web","laying","steps"] 7 (EB T)):Vq P w K L base "step" "Desk.step" vt ["self","a","b","times"] 8 (zd T):=λ_ _ F=>by
 refine F.Ο Ig λο A z s H vs Q E p h=>?_;obtain⟨o,f,v,t,m,i,l,J,s,a,b,n,rfl,O,sl,R,W,k⟩:=h;obtain⟨dx,ob⟩:=O.ob;have Ζ:=O.web.go.Ζ;refine⟨_,(ay (cI (nV (γ 0) T.η u.M u.G (p.mono (by decide)) u.b .nil (d7 j) (aa (Θ U p j (aa (cu (γ 0) rfl) (aa (gu (γ 0) T.η q.M q.G (p.mono (by decide)) q.b .nil (d7 j)) (aa (eK (aa (hV (aa (γ 1) (aa (γ 2) (aa (γ 3) ap)))) ap)) ap)))) (aa (gu (γ 0) T.η r.M r.G (p.mono (by decide)) r.b .nil (d7 j)) ap))))),?_⟩;walk_at "t";refine O.Τ ?_;refine O.V3 T.η T.χ ?_;refine O.Τ ⟨o,f,v,t,m,i,l,J,s,rfl,O,λS ZP=>⟨bX (by simp),λd n1=>⟨bX (by simp),λe n2=>?_⟩⟩⟩;have Y:=δ.new (.tup [V.int a,V.int b,V.int n]) n1;have I:=δ.new (.lst [V.ref d]) n2;have B:=I _ _ (au (H:=H) (a:=d) (o:=.tup [V.int a,V.int b,V.int n]));have D:upd (upd H d (.tup [V.int a,V.int b,V.int n])) e (.lst [V.ref d]) e=some (.lst [V.ref d]):=au;have g:=Y.trans I;generalize upd (upd H d (.tup [V.int a,V.int b,V.int n])) e (.lst [V.ref d])=H2 at B D g ⊢;have N:=O.same g;refine⟨f,S,e,t,false,true,m,i,[d],l,s.1,[(a,b,n)],rfl,N.web,g _ _ ZP,R,D,.cons B .nil,by simp,W,λl3 H3 C e3=>?_⟩;have x:=N.same C;refine x.Τ ⟨o,f,v,t,m,i,l,J,s,rfl,x,λX Z=>?_⟩;refine⟨o,f,v,t,l3,X,m,i,l,_,(_,_),rfl,x,e3,Z,by rw[aH];simp;lia,λH4 O4 k4=>k H4 O4 ?_⟩;exact λc y h n=>k4 c y (C _ _ (g _ _ h)) n
def Cc(T:Txt K L):Sp:=λe H Q E=>E8 λ(p a t:Addr)(c:Bool)(m:Int)(f:hR)(g:ix)(d:fc)=>e=[.ref p,.ref a]/\θ T.Web H p m t f g/\Ω K c H a (d.map V.int)/\d.length<=1000/\(bA m d=true->∀l b,δ H b->(b l=some (.tup (d.map V.int))\/(c=false/\l=a))->Α K b l (d.map V.int)->Q (.ref l) b)/\(bA m d=false->∀b,δ H b->E (.ref T.BadWish) none b)
abbrev uO:Stmt:=top 44
def Kv:ε ["web","numbers"] ["web","numbers"] (aA uO):=.of
def su:Ψ (aA uO) "BadWish":=.of
def Kz(T:Txt K L)(C:bI (τ P w))(r:Ar P w base T):Ok P w K L base "wish_of" uO ["web","numbers"] 2 (Cc T):=λ_ _ D=>by
 refine D.F.Ϻ Kv λB A j s H y Q E v h=>?_;obtain⟨p,a,t,c,m,x,u,i,rfl,W,f,q,k,e⟩:=h;refine⟨_,(aw (bU (nM (lL (Ξ r v bT (aa (γ 0) (aa (γ 1) ap))))) (ay (qZ T.TZ rfl tK su.g T.S3 (aa bH ap) (hdb:=su.d))) bE) (ay (aY (iO gi T.tuple (aa (γ 1) ap))))),?_⟩;walk_at "t";refine⟨p,a,t,c,m,x,u,i,rfl,W,f,q,λn b=>⟨_,rfl,?_⟩⟩;by_cases z:bA m i=false
 .rw[aj z];exact⟨by decide,e z n b⟩
 .rw[ah z];have o:bA m i=true:=by simpa using z
  cases c
  .exact⟨_,.inr ⟨δ.ϫ (c:=false) b f,k o a n b (.inr ⟨rfl,rfl⟩) (δ.ϫ (c:=false) b f)⟩⟩
  .exact⟨_,.inl ⟨δ.ϫ (c:=true) b f,λl nl=>k o l _ (b.trans (δ.new _ nl)) (.inl au) (Α.of au)⟩⟩
abbrev uN(P w base)(T:Txt K L):=Cb P w K L base "wish_of" uO ["web","numbers"] 2 (Cc T)
def yN(T:Txt K L):Sp:=λg H Q _=>WZ λ(o d b t:Addr)(m:Int)(f:hR)(e:ix)(c:List (List Int×List Int))(s:List Int×List Int)(v n:Int)=>g=[.ref o,.int v,.int n]/\π T.Web T.Desk H o d b m t f e (c++[s])/\c.length<=500/\(s.2.length:Int)=m/\(∀y∈s.2,0<=y)/\(0<=v/\v<m)/\0<=n/\∀a,π T.Web T.Desk a o d b m t f e (c++[s]++[(s.1,s.2.set v.toNat n)])->Ϙ b H a->Q .ξ a
abbrev vw:Stmt:=kM (top 107) 2
def HU:ε ["self","place","many","wanted"] ["self","place","many"] (aA vw):=.of
def GU(T:Txt K L)(f:bI (τ P w))(x:vk P w base T)(j:nI P w base T)(r:pN P w base T)(Y:lF P w base T)(je:uN P w base T):Vq P w K L base "want" "Desk.want" vw ["self","place","many"] 3 (yN T):=λ_ _ F=>by
 refine F.Ο HU λο A D s H vs Q E i h=>?_;obtain⟨o,d,C,t,m,e,g,N,s,v,n,rfl,O,sl,xl,X,I,n0,k⟩:=h;obtain⟨dx,ob⟩:=O.ob;have Ζ:=O.web.go.Ζ;refine⟨_,(aw (cI (Θ Y i f (aa (cu (γ 0) rfl) (aa (γ 1) ap)))) (aw (Κ 3 (iO jN T.list (aa (gu (γ 0) T.η r.M r.G (i.mono (by decide)) r.b .nil (d7 f)) ap))) (aw (jv (γ 2) (nD (γ 3) (γ 1) gI)) (ay (cI (nV (γ 0) T.η x.M x.G (i.mono (by decide)) x.b .nil (d7 f) (aa (gu (γ 0) T.η j.M j.G (i.mono (by decide)) j.b .nil (d7 f)) (aa (Θ je i f (aa (cu (γ 0) rfl) (aa (γ 3) ap))) ap)))))))),?_⟩;walk_at "t";refine⟨T.Desk,dx,_,ob,T.η,T.χ,_,yP _ _,?_⟩;refine⟨d,t,m,e,g,v,rfl,O.web,λ_ _=>?_,λz=>absurd I z⟩;refine O.Τ ⟨o,d,C,t,m,e,g,N,s,rfl,O,λW Z=>⟨W,rfl,_,.inr (Α.of Z),λl nl=>?_⟩⟩;refine nZ au I.1 (by rw[ag];lia) ?_;rw[<-cU,mN];have p:=δ.new (.lst ((s.2.set v.toNat n).map V.int)) nl;have J:upd H l (.lst ((s.2.set v.toNat n).map V.int)) l=some (.lst ((s.2.set v.toNat n).map V.int)):=au;generalize upd H l (.lst ((s.2.set v.toNat n).map V.int))=H1 at p J ⊢;have a:=O.same p;have U:bA m (s.2.set v.toNat n)=true:=oS (by rw[bN];exact xl) λy R=>by
  rcases fC R with q|q
  .exact X y q
  .lia
 refine a.Τ ?_;refine a.Τ ⟨o,d,C,t,m,e,g,N,s,rfl,a,λS ZP=>?_⟩;refine a.V3 T.η T.χ ?_;refine⟨d,l,t,true,m,e,g,_,rfl,a.web,ι.of J,by rw[bN];lia,λ_ l2 H2 B u _=>?_,λz=>by rw[U]at z;cases z⟩;have u:=u.resolve_right λz=>by cases z.1
 have O2:=a.same B;refine⟨o,d,C,t,S,l2,m,e,g,_,(s.1,s.2.set v.toNat n),rfl,O2,B _ _ ZP,u,by rw[aH];simp;lia,λH4 O4 k4=>k H4 O4 ?_⟩;exact λc y h n=>k4 c y (B _ _ (p _ _ h)) n
def CO(T:Txt K L):Sp:=λi H Q _=>E13 λ(o e b t f:Addr)(m:Int)(h:hR)(c:ix)(d:List (List Int×List Int))(s:List Int×List Int)(w:Str)(g:List Nat)(S:List (List Int×List Int))=>i=[.ref o,.str w,.ref f]/\π T.Web T.Desk H o e b m t h c (d++[s])/\d.length<=500/\bA m s.1=true/\bA m s.2=true/\H f=some (.lst (Yb g))/\W0 m c d s w g (.inl "done") S/\∀a,π T.Web T.Desk a o e b m t h c S->Ϙ b H a->Q .ξ a
abbrev yG:Stmt:=top 109
def Lh:ε ["desk","word","numbers"] ["desk","word","numbers"] (aA yG):=.of
def Lv(T:Txt K L)(g:bI (τ P w))(C:Cm P w K L base (Meth K T.Desk "back") "back" "Desk.back" vE ["self"] 3 (yC T))(x:Cm P w K L base (Meth K T.Desk "put") "put" "Desk.put" sV ["self","place","many"] 5 (Aj T))(u:Cm P w K L base (Meth K T.Desk "step") "step" "Desk.step" vt ["self","a","b","times"] 8 (zd T))(B:Cm P w K L base (Meth K T.Desk "want") "want" "Desk.want" vw ["self","place","many"] 3 (yN T)):Ok P w K L base "do_deed" yG ["desk","word","numbers"] 10 (CO T):=λ_ _ D=>by
 refine D.F.Ο Lh λV A I s H U Q E p h=>?_;obtain⟨o,d,f,t,R,m,q,j,l,s,w,W,S,rfl,O,y,J,N,c,r,k⟩:=h;refine⟨_,(ay (bU (Ν cN (γ 1) bH) (ay (cI (nV (γ 0) T.η x.M x.G (p.mono (by decide)) x.b .nil (d7 g) (aa (ψ bu (γ 2) aD) (aa (ψ bu (γ 2) aD) ap))))) (ay (bU (Ν cN (γ 1) bH) (ay (cI (nV (γ 0) T.η B.M B.G (p.mono (by decide)) B.b .nil (d7 g) (aa (ψ bu (γ 2) aD) (aa (ψ bu (γ 2) aD) ap))))) (ay (bU (Ν cN (γ 1) bH) (ay (cI (nV (γ 0) T.η u.M u.G (p.mono (by decide)) u.b .nil (d7 g) (aa (ψ bu (γ 2) aD) (aa (ψ bu (γ 2) aD) (aa (ψ bu (γ 2) aD) ap)))))) (ay (cI (gu (γ 0) T.η C.M C.G (p.mono (by decide)) C.b .nil (d7 g)))))))))),?_⟩;walk_at "t";cases r with
 | @put v n h=>
   rw[aj rfl];exact O.Τ (Γ c rfl (Γ c rfl ⟨o,d,f,t,m,q,j,l,s,v,n,rfl,O,y,iu J,⟨by lia,h⟩,by lia,k⟩))
 | @want v n h=>
   rw[ah (Ϣ (by decide)),aj rfl];exact O.Τ (Γ c rfl (Γ c rfl ⟨o,d,f,t,m,q,j,l,s,v,n,rfl,O,y,iu N,EM N,⟨by lia,h⟩,by lia,k⟩))
 | @step a b n h=>
   rw[ah (Ϣ (by decide)),ah (Ϣ (by decide)),aj rfl];exact O.Τ (Γ c rfl (Γ c rfl (Γ c rfl ⟨o,d,f,t,m,q,j,l,s,a,b,n,rfl,O,y,J,(λi z e=>by rcases i with _|i<;>cases e;exact h),k⟩)))
 | back h=>
   rw[ah (Ϣ (by decide)),ah (Ϣ (by decide)),ah (Ϣ (by decide))];exact O.Τ ⟨o,d,f,t,m,q,j,l,s,rfl,O,h,k⟩
def xW(T:Txt K L):Sp:=λb H Q _=>∃n:Nat,b=[.str (FS n)]/\n<10^60/\∀a,δ H a->Q (.bl true) a
abbrev se:Stmt:=top 89
def Gq:ε ["word"] ["word"] (aA se):=.of
def oF:Ψ (aA se) "MOST_FIGURES":=.of
def HR(T:Txt K L)(M:bI (τ P w)):Ok P w K L base "is_number" se ["word"] 1 (xW T):=λ_ _ D=>by
 refine D.F.Ο Gq λJ A q s H I Q E R h=>?_;obtain⟨n,rfl,nb,k⟩:=h;refine⟨_,(aw (bU (PW.pt (zy (nM (BG wV wV aD (TB HM T.len (aa (γ 0) ap)) (oU oF.g T.TC (hd:=oF.d)))) (CQ (nM (lL (TB (HF rfl) T.all (aa (gG rfl (l9 (Nc:=["sign"]) 1 (by decide +kernel) (by decide +kernel) rfl (by decide +kernel) rfl) (RM (γ 0)) (λ_ _ _ _=>(d6 (i:=0) (show(["sign"]:hX).Nodup from by decide +kernel) rfl (Or.inl rfl))) (λ_ _ _ _=>gj) (λ_ _ _ _=>(jU Mj (pv 0) (PV (by rfl) T.VO) (by with_unfolding_all rfl)))) ap))))))) (ay (aY zh)) bE) (ay (aY (Sy (jU cN (γ 0) bH (kY _)) (wB (jU pj (ψ Sa (γ 0) aD) bH (kY _))))))),?_⟩;walk_at "s";refine b9 λO x=>?_;walk_at "";have a:(gm n).length<=60:=oQ 59 n nb;have G:1<=(gm n).length:=by
  have:=zF n;cases hh:gm n with
  | nil=>exact absurd hh this
  | cons _ _=>simp
 have t:(FS n).length=(gm n).length:=by rw[iJ];rfl
 refine⟨FS n,rfl,by rw[t];exact aW a (by decide),?_⟩;rw[t,aj (by lia),ah (by lia)];refine⟨FS n,rfl,Kw n,λp u=>?_⟩;refine OT (λi f l j=>δ H j/\j p=some (.lst f)/\f=List.replicate i (V.bl true)/\∃v,l=[v]) ⟨δ.new _ u,au,rfl,_,rfl⟩ ?_ ?_
 .rintro i c f l j N hN hi ⟨s2,h2,rfl,v,rfl⟩;have hd:=q8 n c (aP hi);have C:i<(gm n).length:=(ax.mp hi).1;walk_at "";refine⟨_,rfl,_,rfl,h2,d8 (by rw[b8];lia),?_⟩;rw[Sx hd];refine hN _ _ _ ⟨?_,au,?_,_,rfl⟩
  .exact λb o e=>by rw[aM (cD e u)];exact s2 _ _ e
  .rw[mW]
 .rintro f l j ⟨s2,h2,rfl,v,rfl⟩;refine⟨p,rfl,List.replicate _ true,by rw[hG];exact ι.of h2,?_⟩;rw[ah (by simp)];refine x _ _ ?_;walk_at "";by_cases m:V.str (FS n)=V.str (Str.ofString "0")
  .rw[aj m];exact k _ s2
  .rw[ah m];obtain⟨c,r,y,B⟩:=EO n (Na m);refine ixS (i:=0) a (by rw[rp,y];rfl) ⟨rfl,?_⟩;rw[show decide (V.str ⟨#[c]⟩=V.str (Str.ofString "0"))=false from bM λz=>B (by injection z with z;exact(eU (show[c]=[48]from congrArg (λs:Str=>s.cps.toList) z)).1)];exact k _ s2
def wn(T:Txt K L):Sp:=λb H Q _=>∃(n:Nat)(i:Int),b=[.str (FS n),.int i]/\n<10^60/\∀a,δ H a->Q (.int n) a
abbrev sG:Stmt:=top 88
def Eb:ε ["word","at"] ["word","at"] (aA sG):=.of
def D7(T:Txt K L)(d:bI (τ P w))(e:Cb P w K L base "is_number" se ["word"] 1 (xW T)):Ok P w K L base "read_number" sG ["word","at"] 2 (wn T):=λ_ _ D=>by
 refine D.F.Ο Eb λl A a s H j Q E f h=>?_;obtain⟨n,i,rfl,nb,k⟩:=h;refine⟨_,(aw (bU (nM (lL (Θ e f d (aa (γ 0) ap)))) (ay kW) bE) (ay (aY (iO LL T.int (aa (γ 0) ap))))),?_⟩;walk_at "t";have b:(gm n).length<=60:=oQ 59 n nb;have g:(FS n).length=(gm n).length:=by rw[iJ];rfl
 refine⟨n,rfl,nb,λm c=>⟨true,rfl,?_⟩⟩;rw[ah (by simp)];exact⟨FS n,rfl,n,OC n nb,by lia,k _ c⟩
def xK(T:Txt K L):Sp:=λc H Q _=>E3 λ(l:Addr)(a:List Nat)(i:Int)=>c=[.ref l,.int a.length,.int i]/\H l=some (.lst ((a.map FS).map V.str))/\a.length<=100/\(∀n∈a,n<10^60)/\∀p b,H p=none->δ H b->b p=some (.lst (Yb a))->Q (.ref p) b
abbrev tZ:Stmt:=top 87
def FG:ε ["words","many","at"] ["words","many","at"] (aA tZ):=.of
def FK(T:Txt K L)(O:bI (τ P w))(r:Cb P w K L base "read_number" sG ["word","at"] 2 (wn T)):Ok P w K L base "read_words" tZ ["words","many","at"] 3 (xK T):=λ_ _ D=>by
 refine D.F.Ο FG λX A y s H W Q E R h=>?_;obtain⟨l,d,j,rfl,B,Y,nb,k⟩:=h;refine⟨_,(aw (bU (Ν pj (TB gP T.len (aa (γ 0) ap)) (γ 1)) (ay kW) bE) (ay (aY (gG rfl (UU ["word","at"] 1 [2]) (iB (γ 0)) (λ_ _ _ _=>(d6 (i:=0) (show(["word","at"]:hX).Nodup from by decide +kernel) rfl (Or.inl rfl))) (λ_ _ _ _=>gj) (λ_ _ _ _=>(gD r.G (R.mono (by decide)) (by rfl) r.D.m r.D.F.kp r.D.b .nil (d7 O) (aa (pv 0) (aa (pv 1) ap)))))))),?_⟩;walk_at "t";have C:((d.map FS).map V.str).length=d.length:=by rw[ag,ag]
 refine⟨_,.inl (ι.of B),?_⟩;rw[ah (by rw[C];exact λz=>z rfl)];refine⟨⟨_,ι.of B⟩,λp u=>?_⟩;refine me (K:=K) (c:=true) (a:=l) (xs:=(d.map FS).map V.str) (λi f q g=>δ H g/\g p=some (.lst f)/\f=Yb (d.take i)/\∃v,q=[v,some (V.int j)]) ⟨δ.new _ u,au,by simp[Yb],_,rfl⟩ (λi f q g _ ⟨z,_⟩=>ι.of (z _ _ B)) ?_ ?_
 .rintro i x f q g N hN hi ⟨s5,h2,rfl,v,rfl⟩;obtain⟨z,M,rfl⟩:=List.μ hi;obtain⟨n,t,rfl⟩:=List.μ M;have J:d.take (i+1)=d.take i++[n]:=by rw[bg,t];rfl
  have U:i<d.length:=(ax.mp t).1;walk_at "";refine⟨n,j,rfl,nb n (aP t),λS I=>⟨I _ _ h2,d8 (by unfold Yb;rw[ag,bq];lia),hN _ _ _ ⟨?_,au,?_,_,rfl⟩⟩⟩
  .exact λb o e=>by rw[aM (cD e u)];exact I _ _ (s5 _ _ e)
  .rw[J];unfold Yb;rw[aq];rfl
 .rintro f q g ⟨s5,h2,rfl,v,rfl⟩;rw[C,bC]at h2;exact k p _ u s5 h2
def GY(T:Txt K L):Sp:=λf H Q _=>E4 λ(a b:Addr)(d e:fc)=>f=[.ref a,.ref b]/\H a=some (.lst (d.map V.int))/\H b=some (.lst (e.map V.int))/\d.length<=1000/\∀l c,H l=none->δ H c->c l=some (.lst ((nA d e).map V.int))->Q (.ref l) c
abbrev zO:Stmt:=top 62
def Ps:ε ["one","other"] ["one","other"] (aA zO):=.of
def Hr:Ψ (aA zO) "zip":=.of
def Ol(T:Txt K L)(C:bI (τ P w)):Ok P w K L base "added" zO ["one","other"] 1 (GY T):=λ_ _ D=>by
 refine D.F.Ο Ps λO A t s H M Q E S h=>?_;obtain⟨a,b,xs,f,rfl,G,u,R,k⟩:=h;refine⟨_,(ay (aY (gG rfl (l9 (Nc:=["left","right"]) 2 (by decide +kernel) (by decide +kernel) rfl (by decide +kernel) rfl) (Ia true true Hr.g T.zip (aa (γ 0) (aa (γ 1) ap))) (λ_ _ _ _=>(wr K rfl (n:=2) rfl (bQ (d6 (i:=0) (show(["left","right"]:hX).Nodup from by decide +kernel) rfl (Or.inl rfl)) (bQ (d6 (i:=1) (show(["left","right"]:hX).Nodup from by decide +kernel) rfl (Or.inl rfl)) fI)))) (λ_ _ _ _=>gj) (λ_ _ _ _=>(aX gc (pv 0) (pv 1)))))),?_⟩;walk_at "t";refine⟨a,b,⟨rfl,rfl⟩,⟨_,ι.of G⟩,⟨_,ι.of u⟩,λp r=>?_⟩;refine Bh (K:=K) (c:=true) (d:=true) (xs:=xs.map V.int) (zs:=f.map V.int) (λi l m j=>δ H j/\j p=some (.lst l)/\l=(((xs.zip f).take i).map λq=>q.1+q.2).map V.int/\∃v w,m=[v,w]) ⟨δ.new _ r,au,rfl,_,_,rfl⟩ (λi l m j z=>⟨ι.of (z.1 _ _ G),ι.of (z.1 _ _ u)⟩) ?_ ?_
 .rintro i x z l m j q N hN hx Yn ⟨s2,e2,rfl,v,w,rfl⟩ C;rw[aN]at hx Yn;obtain⟨x,y,rfl⟩:=cq.mp hx;obtain⟨z,J,rfl⟩:=cq.mp Yn;have B:=δ.new (.tup [V.int x,V.int z]) C;have I:=(ax.mp y).1;walk_at "";refine⟨_,Α.of au,rfl,_,_,rfl,_,_,rfl,rfl,?_⟩;walk_at "";refine⟨B _ _ e2,d8 (by simp;lia),hN _ _ _ ⟨(s2.trans B).put r _,au,?_,_,_,rfl⟩⟩;have o:(xs.zip f)[i]?=some (x,z):=by rw[iX];exact⟨y,J⟩
  rw[bg,o,aq,aq]
  rfl
 .rintro l m j ⟨s2,e2,rfl,v,w,rfl⟩;have e:(((xs.zip f).take (min (xs.map V.int).length (f.map V.int).length)).map λq=>q.1+q.2)=nA xs f:=by
   rw[bZ (by rw[iV,ag,ag];exact aJ _)];unfold nA;rw[List.zip,List.map_zipWith]
  rw[e]at e2;exact k p j r s2 e2
abbrev zx(P w base)(T:Txt K L):=Cb P w K L base "added" zO ["one","other"] 1 (GY T)
def pA(p a c b:Addr):List (Str×V):=bp "idle" (.ref b) (bp "kids" (.ref c) (bp "needs" (.ref a) (bp "web" (.ref p) [])))
def uG(p a c b:Addr):(pA p a c b).lookup ("web":Str)=some (.ref p):=by
 unfold pA;rw[bR,ah (by decide +kernel),bR,ah (by decide +kernel),bR,ah (by decide +kernel),bR,aj rfl]
def vy(p a c b:Addr):(pA p a c b).lookup ("needs":Str)=some (.ref a):=by
 unfold pA;rw[bR,ah (by decide +kernel),bR,ah (by decide +kernel),bR,aj rfl]
def C5(p b a c:Addr):(pA p b a c).lookup ("kids":Str)=some (.ref a):=by
 unfold pA;rw[bR,ah (by decide +kernel),bR,aj rfl]
def BW(p b c a:Addr):(pA p b c a).lookup ("idle":Str)=some (.ref a):=by
 unfold pA;rw[bR,aj rfl]
structure Ϗ(C O:Addr)(H:Hp)(o p t:Addr)(m:Int)(ps:hR)(rs:ix)(r:Int)(par:fz)(dep:hB)(nd:fz)(na ka ia:Addr)(kl:hR)(bs:List V)(S:Int->Prop):Prop where
 ob:∃dx,H o=some (.ins O dx (pA p na ka ia))
 web:θ C H p m t ps rs
 rt:ζ m rs r par dep
 hn:H na=some (.lst (((b7 m.toNat).map nd).map V.int))
 hk:H ka=some (.lst (kl.map V.ref))
 kp:Paired (λa v=>H a=some (.lst ((kd m rs r par v).map V.int))) kl (b7 m.toNat)
 hi:H ia=some (.lst bs)
 done:∀c,S c->∃a,ϳ bs c=some (.ref a)/\H a=some (.lst ((Ge m rs r par dep nd c).map V.int))
 cl:∀u,0<=u->u<m->S u->∀c∈kd m rs r par u,S c
def Ϗ.same{C O:Addr}{H j:Hp}{o p t:Addr}{m:Int}{l:hR}{i:ix}{r:Int}{par:fz}{b:hB}{nd:fz}{d k f:Addr}{g:hR}{bs:List V}{S:Int->Prop}(e:δ H j)(h:Ϗ C O H o p t m l i r par b nd d k f g bs S):Ϗ C O j o p t m l i r par b nd d k f g bs S where
 ob:=let ⟨dx,q⟩:=h.ob;⟨dx,e _ _ q⟩
 web:=h.web.same e
 rt:=h.rt
 hn:=e _ _ h.hn
 hk:=e _ _ h.hk
 kp:=Paired.imp' (λq v x=>e q _ x) h.kp
 hi:=e _ _ h.hi
 done:=λc n=>let ⟨a,h1,h2⟩:=h.done c n;⟨a,h1,e _ _ h2⟩
 cl:=h.cl
def Ϗ.kids{C O:Addr}{H:Hp}{o p t:Addr}{m:Int}{u:hR}{f:ix}{r:Int}{b:fz}{c:hB}{k:fz}{g q i:Addr}{e:hR}{j:List V}{S:Int->Prop}(h:Ϗ C O H o p t m u f r b c k g q i e j S){v:Int}(d:0<=v)(n:v<m):∃a,ϳ (e.map V.ref) v=some (.ref a)/\H a=some (.lst ((kd m f r b v).map V.int)):=by
 obtain⟨a,s,l⟩:=F5 h.kp (EW d n);exact⟨a,fR d (by rw[aN,s];rfl),l⟩
def S0{m:Int}{b:ix}(g:Good m b){r:Int}{a:fz}{v:Int}:(kd m b r a v).length<=24:=by
 have d:=bP (λu=>decide (V.int u≠front r a v)) (jO m b v);have c:=bP (λq=>decide (q∈gN b v)) (b7 m.toNat);rw[b6]at c;have:=g.Ζ;show((jO m b v).filter λu=>decide (V.int u≠front r a v)).length<=24;unfold jO at d ⊢
 lia
def xT(T:Txt K L):Sp:=λh H Q _=>E18 λ(o p t:Addr)(m:Int)(s:hR)(d:ix)(r:Int)(a:fz)(b:hB)(f:fz)(g q j:Addr)(n:hR)(k:List V)(S:Int->Prop)(v:Int)(x:V)=>h=[.ref o,.int v,x]/\Ϗ T.Web T.Outlook H o p t m s d r a b f g q j n k S/\(0<=v/\v<m)/\(x=.ξ\/∃i,x=.int i)/\(∀c∈kd m d r a v,S c)/\∀l e,H l=none->δ H e->e l=some (.lst ((BV m d r a (Ge m d r a b f) v x).map V.int))->Q (.ref l) e
abbrev ve:Stmt:=top 61
def He:ε ["outlook","place","left_out","load","kid"] ["outlook","place","left_out"] (aA ve):=.of
def HH(T:Txt K L)(hq:bI (τ P w))(kK:zx P w base T):Ok P w K L base "idle_kids" ve ["outlook","place","left_out"] 2 (xT T):=λ_ _ D=>by
 refine D.F.Ο He λο A M s H vs Q E hr h=>?_;obtain⟨o,p,t,m,ps,b,r,a,n,Y,na,ka,ia,kl,bs,S,v,x,rfl,O,q,hx,hS,k⟩:=h;have g:=O.web.go;have R:=O.rt;have Ζ:=g.Ζ;obtain⟨J,ob⟩:=O.ob;obtain⟨dw,wb⟩:=O.web.ob;refine⟨_,(aw (Κ 3 (aX oO (eK (aa aD ap)) (cu (cu (γ 0) rfl) rfl))) (aw (gf PassesOwn.never rfl (iB (ψ bu (cu (γ 0) rfl) (γ 1))) (ϊ 4) (ay (bU (Ν pj (γ 4) (γ 2)) (ay (Κ 3 (Θ kK hr hq (aa (γ 3) (aa (ψ bu (cu (γ 0) rfl) (γ 4)) ap))))) bE))) (ay (aY (γ 3))))),?_⟩;walk_at "t";refine⟨by decide,λU n1=>?_⟩;have I:=δ.new (.lst [V.int 0]) n1;refine⟨T.Outlook,J,_,I _ _ ob,T.υ,T.Υ,_,uG _ _ _ _,p,rfl,?_⟩;refine⟨T.Web,dw,_,I _ _ wb,T.Ε,T.Λ,_,eT _ _,?_⟩;refine⟨U,m,[V.int 0],rfl,rfl,au,by lia,by lia,bX (by simp;lia),λe n2=>?_⟩;rw[rm,<-DV];have f:=I.trans (δ.new (.lst ((aC m).map V.int)) n2);have WD:H e=none:=I.free n2;have Z:upd (upd H U (.lst [V.int 0])) e (.lst ((aC m).map V.int)) e=some (.lst ((aC m).map V.int)):=au;generalize upd (upd H U (.lst [V.int 0])) e (.lst ((aC m).map V.int))=H2 at f Z ⊢;obtain⟨ak,W,j⟩:=O.kids q.1 q.2;refine⟨T.Outlook,J,_,f _ _ ob,T.υ,T.ϝ,_,C5 _ _ _ _,Γ (f _ _ O.hk) W ⟨ak,rfl,⟨_,ι.of (f _ _ j)⟩,?_⟩⟩;have kr:∀c∈kd m b r a v,0<=c/\c<m:=λc G=>((de g R q.1 q.2).mp G).1;refine jM (K:=K) (xs:=(kd m b r a v).map V.int) (λi B d=>δ H d/\∃(l:Addr)(X:Option V),H l=none/\d l=some (.lst ((xo m ((((kd m b r a v).take i).filter λk=>decide (V.int k≠x)).map (Ge m b r a n Y))).map V.int))/\B=[some (V.ref o),some (V.int v),some x,some (V.ref l),X]) ⟨f,e,_,WD,Z,rfl⟩ (λi B d _ z=>ι.of (z.1 _ _ j)) ?_ ?_
 .rintro i y B d N BB ϒ hN C ⟨s3,l,X,nl,el,rfl⟩;refine ϒ _ _ ?_;rw[aN]at C;obtain⟨c,G,rfl⟩:=cq.mp C;have cm:c∈kd m b r a v:=aP G;have et:(kd m b r a v).take (i+1)=(kd m b r a v).take i++[c]:=by rw[bg,G];rfl
  walk_at "";have sc:uh (V.int c) x=true:=by
   rcases hx with rfl|⟨i,rfl⟩<;>rfl
  refine⟨sc,?_⟩;by_cases u:V.int c=x
  .rw[ah (λz=>z u)];refine hN _ _ ⟨s3,l,_,nl,?_,rfl⟩;rw[et,cz]
   simpa[u]using el
  .rw[aj u];obtain⟨ai,h1,h2⟩:=O.done c (hS c cm);refine⟨T.Outlook,J,_,s3 _ _ ob,T.υ,T.Vd,_,BW _ _ _ _,Γ (s3 _ _ O.hi) h1 ?_⟩;have ll:(xo m ((((kd m b r a v).take i).filter λk=>decide (V.int k≠x)).map (Ge m b r a n Y))).length=m.toNat:=yc _ _ (zi m) λy C=>by
    obtain⟨k,hk,rfl⟩:=aZ.mp C;have:=kr k (mZ (cf.mp hk).1);exact Jm g R this.1 this.2
   refine⟨l,ai,_,_,rfl,el,s3 _ _ h2,by lia,λl4 H4 n4 s4 e4=>hN _ _ ⟨s3.trans s4,l4,_,s3.free n4,?_,rfl⟩⟩;rw[et,cz,dE (by simpa using u),fJ,aq,aE,cH,Lo];exact e4
 .rintro BB B d ϒ ⟨s3,l,X,nl,el,rfl⟩;refine ϒ _ _ ?_;rw[ag,bC]at el;walk_at "";exact k l d nl s3 el
abbrev r6(P w base)(T:Txt K L):=Cb P w K L base "idle_kids" ve ["outlook","place","left_out"] 2 (xT T)
def HE(T:Txt K L):Sp:=λb H Q _=>∃(p:Addr)(a:fc),b=[.ref p]/\(ι K H p (a.map V.int)\/Α K H p (a.map V.int))/\Q (.int a.sum) H
abbrev Es:Stmt:=top 28
def Ow:ε ["numbers"] ["numbers"] (aA Es):=.of
def NZ(T:Txt K L)(g:bI (τ P w)):Ok P w K L base "total" Es ["numbers"] 1 (HE T):=λ_ _ D=>by
 refine D.F.Ο Ow λd A a s H e Q E f h=>?_;obtain⟨p,b,rfl,c,k⟩:=h;refine⟨_,(ay (aY (TB (AV rfl) T.sum (aa (γ 0) ap)))),?_⟩;walk_at "t";exact⟨b,c,k⟩
abbrev ze(P w base)(T:Txt K L):=Cb P w K L base "total" Es ["numbers"] 1 (HE T)
def pI(T:Txt K L):Nat->Sp
 | 0=>λ_ _ _ _=>False
 | n+1=>λh H Q _=>E18 λ(o p t:Addr)(m:Int)(s:hR)(d:ix)(r:Int)(b:fz)(a:hB)(f:fz)(g q i:Addr)(k:hR)(j:List V)(S:Int->Prop)(v y:Int)=>h=[.ref o,.int v,.int y]/\Ϗ T.Web T.Outlook H o p t m s d r b a f g q i k j S/\(0<=v/\v<m)/\m.toNat<=a v+1+n/\(∀c∈kd m d r b v,S c)/\∀l e,H l=none->δ H e->e l=some (.lst ((Tp m d r b a f v y).map V.int))->Q (.ref l) e
def qa(T:Txt K L):Sp:=pI T 25
def Iy(T:Txt K L):Nat->Sp
 | 0=>λ_ _ _ _=>False
 | n+1=>λh H Q _=>E19 λ(o p t:Addr)(m:Int)(s:hR)(d:ix)(r:Int)(a:fz)(b:hB)(e:fz)(g q i:Addr)(k:hR)(j:List V)(S:Int->Prop)(v c y:Int)=>h=[.ref o,.int v,.int c,.int y]/\Ϗ T.Web T.Outlook H o p t m s d r a b e g q i k j S/\(0<=v/\v<m)/\c∈kd m d r a v/\m.toNat<=b c+1+n/\(∀c∈kd m d r a v,S c)/\∀l f,H l=none->δ H f->f l=some (.lst ((Xz m d r a e (Ge m d r a b e) (Tp m d r a b e) v y c).map V.int))->Q (.ref l) f
abbrev dy:Stmt:=top 63
def uj:ε ["outlook","place","over","room","best","kid","load"] ["outlook","place","over"] (aA dy):=.of
def HX:Ug (aA dy) "outlook":=.of (by kernel_rfl)
def IH:Ug (aA dy) "place":=.of (by kernel_rfl)
def JT:Ug (aA dy) "over":=.of (by kernel_rfl)
def JO:Ug (aA dy) "room":=.of (by kernel_rfl)
def JK:Ug (aA dy) "best":=.of (by kernel_rfl)
def Ky:Ug (aA dy) "kid":=.of (by kernel_rfl)
def JZ:Ug (aA dy) "load":=.of (by kernel_rfl)
def nK:Ψ (aA dy) "idle_kids":=.of
def oH:Ψ (aA dy) "load_by":=.of
def jG:Ψ (aA dy) "total":=.of
abbrev lU:Stmt:=top 64
def Kh:ε ["outlook","place","kid","room","given","over"] ["outlook","place","kid","room"] (aA lU):=.of
def om:Ψ (aA lU) "toll":=.of
def uk:Ψ (aA lU) "added":=.of
def oP:Ψ (aA lU) "greatest_load":=.of
def qw:Ψ (aA lU) "idle_kids":=.of
def IZ(T:Txt K L)(C:bI (τ P w)){f:Addr}{fd:FuncData}(D:Df K L "load_by" lU ["outlook","place","kid","room"] f fd)(U:zx P w base T)(M:r6 P w base T)(j:mC P w base T){iM:Addr}{ig:FuncData}(eP:Df K L "greatest_load" dy ["outlook","place","over"] iM ig){n N:Nat}(hN:3<=N)(gw:ϋ P w K L base (τ P w) N iM ig ["outlook","place","over"] (pI T n)):ϋ P w K L base (τ P w) (N+1) f fd ["outlook","place","kid","room"] (Iy T n):=by
 refine D.F.Ο Kh (λο A Z s H vs Q E x h=>?_) (λvs H Q E h=>?_)
 rotate_left
 .cases n with
  | zero=>exact h.elim
  | succ n=>
  obtain⟨o,p,t,m,B,l,r,e,q,J,na,Y,ia,V,bs,S,v,c,y,rfl,_⟩:=h
  rfl
 .cases n with
  | zero=>exact h.elim
  | succ n=>
  obtain⟨o,p,t,m,B,l,r,e,q,J,na,Y,ia,V,bs,S,v,c,y,rfl,O,u,cm,fu,hS,k⟩:=h;have g:=O.web.go;have R:=O.rt;have Ζ:=g.Ζ;obtain⟨X,ob⟩:=O.ob;obtain⟨⟨a,cn,cp⟩,_,_⟩:=mK g R u.1 u.2 cm;obtain⟨k1,i,a0,a1⟩:=tP g R a.1 a.2 cn;obtain⟨k2,I,b0,b1⟩:=jB g R a.1 a.2 cn;have e1:Wr l e c=k1:=by unfold Wr;rw[i];rfl
  have e2:Vo l e c=k2:=by unfold Vo;rw[I];rfl
  rw[cp]at i I;refine⟨_,(aw (Κ 4 (aX jp (γ 3) (aX j6 (ψ bu (cu (γ 0) rfl) (γ 2)) (gD j.G (x.mono (by lia)) om.g j.D.m j.D.F.kp j.D.b .nil (d7 C) (aa (cu (γ 0) rfl) (aa (γ 1) (aa (γ 2) ap))) (hdb:=om.d))))) (aw (Κ 5 (aX jp (aX j6 (gD j.G (x.mono (by lia)) om.g j.D.m j.D.F.kp j.D.b .nil (d7 C) (aa (cu (γ 0) rfl) (aa (γ 2) (aa (γ 1) ap))) (hdb:=om.d)) (aX gc (γ 4) aD)) aD)) (ay (aY (gD U.G (x.mono (by lia)) uk.g U.D.m U.D.F.kp U.D.b .nil (d7 C) (aa (gD gw (x.mono (by lia)) oP.g eP.m eP.F.kp eP.b .nil (d7 C) (aa (γ 0) (aa (γ 2) (aa (γ 5) ap))) (hdb:=oP.d)) (aa (gD M.G (x.mono (by lia)) qw.g M.D.m M.D.F.kp M.D.b .nil (d7 C) (aa (γ 0) (aa (γ 1) (aa (γ 2) ap))) (hdb:=qw.d)) ap)) (hdb:=uk.d)))))),?_⟩;walk_at "t";refine⟨T.Outlook,X,_,ob,T.υ,T.zC,_,vy _ _ _ _,Γ O.hn (DD J a.1 a.2) ?_⟩;have W:=O.web;refine⟨T.Outlook,X,_,ob,T.υ,T.Υ,_,uG _ _ _ _,?_⟩;refine⟨p,t,m,B,l,v,c,rfl,W,λk' _ _ _ _ h=>?_,λz=>absurd ⟨u,a⟩ z,λ_ _ _ _ z=>by rw[i]at z;cases z⟩;rw[i]at h;cases h;refine⟨_,rfl,_,rfl,.inr ⟨by lia,by lia⟩,?_⟩;refine⟨T.Outlook,X,_,ob,T.υ,T.Υ,_,uG _ _ _ _,?_⟩;refine⟨p,t,m,B,l,c,v,rfl,W,λk' _ _ _ _ h=>?_,λz=>absurd ⟨a,u⟩ z,λ_ _ _ _ z=>by rw[I]at z;cases z⟩;rw[I]at h;cases h;refine⟨_,rfl,.inl ⟨by lia,by lia⟩,?_⟩;refine⟨o,p,t,m,B,l,r,e,q,J,na,Y,ia,V,bs,S,c,_,rfl,O,a,fu,λd hd=>O.cl c a.1 a.2 (hS c cm) d hd,λl1 H1 n1 s1 h1=>?_⟩;refine⟨o,p,t,m,B,l,r,e,q,J,na,Y,ia,V,bs,S,v,_,rfl,O.same s1,u,.inr ⟨_,rfl⟩,hS,λl2 H2 n2 s2 h2=>?_⟩;refine⟨l1,l2,_,_,rfl,s2 _ _ h1,h2,by rw[JF g R a.1 a.2];lia,λl3 H3 n3 s3 h3=>?_⟩;refine k l3 H3 (s1.free (s2.free n3)) (s1.trans (s2.trans s3)) ?_;unfold Xz;rw[e1,e2];exact h3
def Aa(T:Txt K L)(W:bI (τ P w)){f:Addr}{fd:FuncData}(D:Df K L "greatest_load" dy ["outlook","place","over"] f fd){x8:Addr}{wP:FuncData}(mY:Df K L "load_by" lU ["outlook","place","kid","room"] x8 wP)(kK:zx P w base T)(J:r6 P w base T)(di:mC P w base T)(B:ze P w base T):∀n:Nat,ϋ P w K L base (τ P w) (2*n+4) f fd ["outlook","place","over"] (pI T n):=by
 intro n;have eP:=D
 induction n with
 | zero=>exact D.F.Ο uj (λο A C s H vs Q E M h=>h.elim) (λvs H Q E h=>h.elim)
 | succ n gw=>
 have Mb:=IZ T W mY kK J di eP (by lia) gw;refine D.F.Ο uj λο A C s H vs Q E M h=>?_;obtain⟨o,p,t,m,ps,e,r,a,j,u,na,ka,ia,kl,bs,S,v,y,rfl,O,x,fu,hS,k⟩:=h;have g:=O.web.go;have R:=O.rt;have Ζ:=g.Ζ;obtain⟨dx,ob⟩:=O.ob;refine⟨_,(aw (Κ 3 (aX gc (ψ bu (cu (γ 0) rfl) (γ 1)) (γ 2))) (aw (Κ 4 (gD J.G (M.mono (by lia)) nK.g J.D.m J.D.F.kp J.D.b .nil (d7 W) (aa (γ 0) (aa (γ 1) (aa qC ap))) (hdb:=nK.d))) (aw (rf (γ 4) (γ 1) p5 (γ 3) sB gI) (aw (gf PassesOwn.never rfl (iB (ψ bu (cu (γ 0) rfl) (γ 1))) (ϊ 5) (aw (Κ 6 (gD Mb (M.mono (by lia)) oH.g mY.m mY.F.kp mY.b .nil (d7 W) (aa (γ 0) (aa (γ 1) (aa (γ 5) (aa (γ 3) ap)))) (hdb:=oH.d))) (ay (bU (Ν wS (gD B.G (M.mono (by lia)) jG.g B.D.m B.D.F.kp B.D.b .nil (d7 W) (aa (γ 6) ap) (hdb:=jG.d)) (gD B.G (M.mono (by lia)) jG.g B.D.m B.D.F.kp B.D.b .nil (d7 W) (aa (γ 4) ap) (hdb:=jG.d))) (ay (Κ 4 (γ 6))) bE)))) (ay (aY (γ 4))))))),?_⟩;walk_at "t";refine⟨T.Outlook,dx,_,ob,T.υ,T.zC,_,vy _ _ _ _,Γ O.hn (DD u x.1 x.2) ⟨_,rfl,?_⟩⟩;refine⟨o,p,t,m,ps,e,r,a,j,u,na,ka,ia,kl,bs,S,v,_,rfl,O,x,.inl rfl,hS,λZ H1 n1 s1 h1=>?_⟩;have bx:(BV m e r a (Ge m e r a j u) v V.ξ).length=m.toNat:=zG λk hk=>by
  have w:=mK g R x.1 x.2 hk;exact Jm g R w.1.1.1 w.1.1.2
 refine Γ h1 (Ϲ x.1 (by lia)) ⟨_,rfl,nZ h1 x.1 (by rw[ag];lia) ?_⟩;have U:=s1.put n1 (.lst (((BV m e r a (Ge m e r a j u) v V.ξ).map V.int).set v.toNat (V.int ((BV m e r a (Ge m e r a j u) v V.ξ).getD v.toNat 0+(u v+y)))));have h2:upd H1 Z (.lst (((BV m e r a (Ge m e r a j u) v V.ξ).map V.int).set v.toNat (V.int ((BV m e r a (Ge m e r a j u) v V.ξ).getD v.toNat 0+(u v+y))))) Z=some (.lst ((vL (BV m e r a (Ge m e r a j u) v V.ξ) v (u v+y)).map V.int)):=by
  rw[au];unfold vL;rw[cU]
 generalize upd H1 Z (.lst (((BV m e r a (Ge m e r a j u) v V.ξ).map V.int).set v.toNat (V.int ((BV m e r a (Ge m e r a j u) v V.ξ).getD v.toNat 0+(u v+y)))))=H2 at U h2 ⊢;obtain⟨ak,ae,X⟩:=O.kids x.1 x.2;refine⟨T.Outlook,dx,_,U _ _ ob,T.υ,T.ϝ,_,C5 _ _ _ _,Γ (U _ _ O.hk) ae ⟨ak,rfl,⟨_,ι.of (U _ _ X)⟩,?_⟩⟩;refine jM (K:=K) (xs:=(kd m e r a v).map V.int) (λi Y I=>δ H I/\E3 λ(l:Addr)(v5 v6:Option V)=>H l=none/\I l=some (.lst (((((kd m e r a v).take i).map (Xz m e r a u (Ge m e r a j u) (Tp m e r a j u) v (u v+y))).foldl rd (vL (BV m e r a (Ge m e r a j u) v .ξ) v (u v+y))).map V.int))/\Y=[some (V.ref o),some (V.int v),some (V.int y),some (V.int (u v+y)),some (V.ref l),v5,v6]) ⟨U,Z,_,_,n1,h2,rfl⟩ (λi Y I _ z=>ι.of (z.1 _ _ X)) ?_ ?_
 .rintro i y' Y I N BB ϒ hN hy ⟨s3,l,v5,v6,nl,el,rfl⟩;refine ϒ _ _ ?_;rw[aN]at hy;obtain⟨c,hc,rfl⟩:=cq.mp hy;have cm:c∈kd m e r a v:=aP hc;have et:(kd m e r a v).take (i+1)=(kd m e r a v).take i++[c]:=by rw[bg,hc];rfl
  have w:=mK g R x.1 x.2 cm;obtain⟨n',rfl⟩:∃n',n=n'+1:=⟨n-1,by lia⟩;walk_at "";refine⟨o,p,t,m,ps,e,r,a,j,u,na,ka,ia,kl,bs,S,v,c,_,rfl,O.same s3,x,cm,by lia,hS,λl4 H4 n4 s4 h4=>?_⟩;refine⟨l4,_,rfl,.inl (ι.of h4),l,_,rfl,.inl (ι.of (s4 _ _ el)),?_⟩;refine⟨_,rfl,_,rfl,?_⟩;have ef:(((kd m e r a v).take (i+1)).map (Xz m e r a u (Ge m e r a j u) (Tp m e r a j u) v (u v+y))).foldl rd (vL (BV m e r a (Ge m e r a j u) v .ξ) v (u v+y))=rd ((((kd m e r a v).take i).map (Xz m e r a u (Ge m e r a j u) (Tp m e r a j u) v (u v+y))).foldl rd (vL (BV m e r a (Ge m e r a j u) v .ξ) v (u v+y))) (Xz m e r a u (Ge m e r a j u) (Tp m e r a j u) v (u v+y) c):=by
   rw[et,aq,lC]
   rfl
  split
  .rename_i q
   refine hN _ _ ⟨s3.trans s4,l4,_,_,s3.free n4,?_,rfl⟩;rw[ef,MN q];exact h4
  .rename_i q
   refine hN _ _ ⟨s3.trans s4,l,_,_,nl,?_,rfl⟩;rw[ef,ME q];exact s4 _ _ el
 .rintro BB Y I ϒ ⟨s3,l,v5,v6,nl,el,rfl⟩;refine ϒ _ _ ?_;rw[ag,bC]at el;walk_at "";refine k l I nl s3 ?_;rw[Bq g R x.1 x.2];exact el
def BO(T:Txt K L)(i:bI (τ P w)){f:Addr}{a:FuncData}(D:Df K L "greatest_load" dy ["outlook","place","over"] f a){e:Addr}{h:FuncData}(d:Df K L "load_by" lU ["outlook","place","kid","room"] e h)(g:zx P w base T)(c:r6 P w base T)(j:mC P w base T)(b:ze P w base T):ϋ P w K L base (τ P w) 54 f a ["outlook","place","over"] (qa T):=Aa T i D d g c j b 25
def xZ(T:Txt K L):Sp:=λh H Q _=>E17 λ(o p t:Addr)(m:Int)(q:hR)(d:ix)(r:Int)(a:fz)(b:hB)(f:fz)(g n i:Addr)(k:hR)(j:List V)(S:Int->Prop)(v:Int)=>h=[.ref o,.int v,.int (a v)]/\Ϗ T.Web T.Outlook H o p t m q d r a b f g n i k j S/\(0<=v/\v<m)/\v≠r/\(∀c∈kd m d r a v,S c)/\∀l e,H l=none->δ H e->e l=some (.lst ((Ge m d r a b f v).map V.int))->Q (.ref l) e
abbrev vG:Stmt:=top 60
def G0:ε ["outlook","place","front"] ["outlook","place","front"] (aA vG):=.of
def Ga(T:Txt K L)(j:bI (τ P w)){N:Addr}{M:FuncData}(V:Df K L "greatest_load" dy ["outlook","place","over"] N M)(gw:ϋ P w K L base (τ P w) 54 N M ["outlook","place","over"] (qa T))(fe:r6 P w base T)(Z:mC P w base T):Ok P w K L base "idle_load" vG ["outlook","place","front"] 55 (xZ T):=λ_ _ D=>by
 refine D.F.Ο G0 λο A n s H vs Q E l h=>?_;obtain⟨o,p,t,m,q,f,r,b,d,e,x,y,B,I,G,S,v,rfl,O,a,J,C,k⟩:=h;have g:=O.web.go;have R:=O.rt;have Ζ:=g.Ζ;have W:=O.web;obtain⟨U,ob⟩:=O.ob;obtain⟨Y,i,b0,b1⟩:=jB g R a.1 a.2 J;have X:Vo f b v=Y:=by unfold Vo;rw[i];rfl
 have u:=R.up v a.1 a.2 J;rw[HP g R a.1 a.2]at k;refine⟨_,(aw (bU (Ν wS (ψ bu (cu (γ 0) rfl) (γ 1)) aD) (ay (aY (Θ fe l j (aa (γ 0) (aa (γ 1) (aa qC ap)))))) bE) (ay (aY (pcq V gw l j (aa (γ 0) (aa (γ 1) (aa (aX jp (Θ Z l j (aa (cu (γ 0) rfl) (aa (γ 1) (aa (γ 2) ap)))) aD) ap))))))),?_⟩;walk_at "t";refine⟨T.Outlook,U,_,ob,T.υ,T.zC,_,vy _ _ _ _,Γ O.hn (DD e a.1 a.2) ⟨_,rfl,?_⟩⟩;by_cases c:0<e v
 .rw[aj c]at k ⊢;exact⟨o,p,t,m,q,f,r,b,d,e,x,y,B,I,G,S,v,_,rfl,O,a,.inl rfl,C,k⟩
 .rw[ah c]at k ⊢;refine⟨T.Outlook,U,_,ob,T.υ,T.Υ,_,uG _ _ _ _,?_⟩;refine⟨p,t,m,q,f,v,b v,rfl,W,λk' _ _ _ _ h=>?_,λz=>absurd ⟨a,u.1⟩ z,λ_ _ _ _ z=>by rw[i]at z;cases z⟩;rw[i]at h;cases h;refine⟨_,rfl,?_⟩;refine⟨o,p,t,m,q,f,r,b,d,e,x,y,B,I,G,S,v,_,rfl,O,a,by show m.toNat<=d v+1+24;lia,C,?_⟩;rw[<-X];exact k
def G3(T:Txt K L):Sp:=λh H Q E=>E9 λ(p a t:Addr)(c:Bool)(m:Int)(i:hR)(g:ix)(e:fc)(r:Int)=>h=[.ref p,.ref a,.int r]/\θ T.Web H p m t i g/\Ω K c H a (e.map V.int)/\e.length<=1000/\(bA m e=true->0<=r->r<m->∃d f,ζ m g r d f/\∀l b,H l=none->δ H b->b l=some (.lst ((oV m g r d f (λv=>e.getD v.toNat 0) (X8 g d)).map V.int))->Q (.ref l) b)/\(bA m e=false->∀b,δ H b->E (.ref T.BadWish) none b)/\(bA m e=true->¬(0<=r/\r<m)->∀b,δ H b->E (.ref T.NoPlace) none b)
abbrev DZ:Stmt:=top 54
def Oz:ε ["web","wish","r","found","place","front"] ["web","wish","r"] (aA DZ):=.of
def NV(T:Txt K L)(hq:bI (τ P w))(dj:kQ P w base T)(di:mC P w base T)(je:uN P w base T):Ok P w K L base "needs" DZ ["web","wish","r"] 8 (G3 T):=λ_ _ D=>by
 refine D.F.Ϻ Oz λο A U s H vs Q E X h=>?_;obtain⟨p,a,t,c,m,Y,o,xs,r,rfl,W,ha,hz,k,e,e'⟩:=h;have g:=W.go;have Ζ:=g.Ζ;refine⟨_,(aw (Κ 3 (iO jN T.list (aa (Ξ je X bT (aa (γ 0) (aa (γ 1) ap))) ap))) (aw (gf PassesOwn.leaving rfl (iB (Ξ dj X bT (aa (γ 0) (aa (γ 2) ap)))) (iH (n:=2) rfl (bQ (ϊ 4) (bQ (ϊ 5) fI))) (ay (rf (γ 3) (γ 5) p5 (aX j6 (ψ bu (γ 3) (γ 4)) (Ξ di X bT (aa (γ 0) (aa (γ 5) (aa (γ 4) ap))))) sB gI))) (ay (aY (γ 3))))),?_⟩;walk_at "t";refine⟨p,a,t,c,m,Y,o,xs,?_⟩;refine an6 rfl W ha hz (λy l0 H0 s0 _ e0=>?_) e;have xl:(xs.length:Int)=m:=by
  unfold bA at y;rw[bG]at y;exact bB y.1
 refine⟨l0,rfl,_,.inr e0,λl n1=>?_⟩;have s1:=δ.new (.lst (xs.map V.int)) n1;have J:=s0.trans s1;have nl:=s0.free n1;have Z:upd H0 l (.lst (xs.map V.int)) l=some (.lst (xs.map V.int)):=au;generalize upd H0 l (.lst (xs.map V.int))=H1 at s1 J Z ⊢;refine⟨p,t,m,Y,o,r,?_⟩;refine Vl rfl (W.same J) (λr0 r1=>?_) (λz=>e' y z H1 J);obtain⟨d,B,R,k⟩:=k y r0 r1;refine⟨d,B,R,λS G M H2 _ n2 s2 e2 pa O=>?_⟩;have VP:S≠l:=λz=>by rw[z,Z]at n2;cases n2
 refine⟨S,rfl,⟨_,ι.of e2⟩,?_⟩;have ql:G.length=M.reverse.length:=Paired.length pa;refine jM (K:=K) (xs:=G.map V.ref) (λi I f=>δ H f/\f S=some (.lst (G.map V.ref))/\ω f d G M.reverse/\E3 λ(C:fc)(v4 v5:Option V)=>f l=some (.lst (C.map V.int))/\ϖ m o r d B (λv=>xs.getD v.toNat 0) (X8 o d) (M.drop (M.length-i)) C/\I=[some (V.ref p),some (V.ref a),some (V.int r),some (V.ref l),v4,v5]) ⟨J.trans s2,e2,pa,xs,_,_,s2 _ _ Z,by rw[gg,fh];exact ϖ.nil xl,rfl⟩ (λi I f _ z=>ι.of z.2.1) ?_ ?_
 .rintro i x I f N BB ϒ hN hx ⟨s3,e3,UX,C,v4,v5,c3,so,rfl⟩;refine ϒ _ _ ?_;obtain⟨q,v,rfl,hq,hv,eq⟩:=UX.get hx;obtain⟨⟨j,vn⟩,ev,Zi⟩:=O.turn g R so hv;have u:=R.up v j.1 j.2 vn;obtain⟨kk,hk,k0,k1⟩:=tP g R j.1 j.2 vn;have cl:=so.len;walk_at "";refine⟨_,Α.of eq,rfl,_,_,rfl,_,_,rfl,rfl,?_⟩;refine Γ c3 (Ϲ u.1.1 (by lia)) (Γ c3 (Ϲ j.1 (by lia)) ?_);refine⟨p,t,m,Y,o,d v,v,rfl,W.same s3,λk' _ _ _ _ h=>?_,λz=>absurd ⟨u.1,j⟩ z,λ_ _ _ _ z=>by rw[hk]at z;cases z⟩;rw[hk]at h;cases h;refine⟨_,rfl,_,rfl,.inr ⟨by lia,by lia⟩,_,rfl,nZ c3 u.1.1 (by rw[ag];lia) (hN _ _ ⟨s3.put nl _,?_,?_,rZ d (X8 o d) C v,_,_,?_,Zi,rfl⟩)⟩
  .rw[aM VP];exact e3
  .exact Paired.imp' (λa b h=>by rw[aM (cZ h c3 (by nofun))];exact h) UX
  .rw[au,<-cU];unfold rZ X8;rw[hk]
   rfl
 .rintro BB I f ϒ ⟨s3,e3,UX,C,v4,v5,c3,so,rfl⟩;refine ϒ _ _ ?_;rw[ag,ql,aQ,dY,iC]at so;rw[O.done g R so]at c3;walk_at "";exact k l f nl s3 c3
def Ϗ.put{C O:Addr}{H:Hp}{o p t:Addr}{m:Int}{B:hR}{g:ix}{r:Int}{par:fz}{d:hB}{nd:fz}{j y b:Addr}{n:hR}{bs:List V}{S:Int->Prop}(h:Ϗ C O H o p t m B g r par d nd j y b n bs S)(i:j≠b)(k:y≠b)(E:∀q∈n,q≠b)(hd:∀c,S c->0<=c/\∀a,ϳ bs c=some (.ref a)->a≠b)(bl:bs.length=m.toNat){v:Int}(v0:0<=v)(v1:v<m)(F:∀c∈kd m g r par v,S c){l:Addr}(hl:H l=some (.lst ((Ge m g r par d nd v).map V.int)))(nl:l≠b):Ϗ C O (upd H b (.lst (bs.set v.toNat (.ref l)))) o p t m B g r par d nd j y b n (bs.set v.toNat (.ref l)) (λc=>c=v\/S c) where
 ob:=by
  obtain⟨s,q⟩:=h.ob;exact⟨s,by rw[aM (cZ q h.hi (by nofun))];exact q⟩
 web:=by
  have W:=h.web;refine⟨?_,?_,?_,W.go⟩
  .obtain⟨s,q⟩:=W.ob;exact⟨s,by rw[aM (cZ q h.hi (by nofun))];exact q⟩
  .rw[aM (cZ W.tu h.hi (by nofun))];exact W.tu
  .exact Paired.imp' (λq x e=>by rw[aM (cZ e h.hi (by nofun))];exact e) W.ro
 rt:=h.rt
 hn:=by rw[aM i];exact h.hn
 hk:=by rw[aM k];exact h.hk
 kp:=wt (λq x G e=>by rw[aM (E q G)];exact e) h.kp
 hi:=au
 done:=λc f=>by
  by_cases e:c=v
  .subst e;refine⟨l,fR v0 ?_,by rw[aM nl];exact hl⟩;rw[da (by lia)]
  .have f:=f.resolve_left e;obtain⟨a,z,I⟩:=h.done c f;obtain⟨A,D⟩:=hd c f;refine⟨a,fR A ?_,by rw[aM (D a z)];exact I⟩;rw[cA (by lia)];exact(yH A).symm.trans z
 cl:=λu u0 u1 hu c f=>by
  rcases hu with rfl|hu
  .exact .inr (F c f)
  .exact .inr (h.cl u u0 u1 hu c f)
def Ϗ.sub{C O:Addr}{H:Hp}{o p t:Addr}{m:Int}{q:hR}{e:ix}{r:Int}{a:fz}{b:hB}{l:fz}{g n i:Addr}{k:hR}{j:List V}{S:Int->Prop}{d:Int->Prop}(h:Ϗ C O H o p t m q e r a b l g n i k j S)(f:∀c,d c->S c)(s:∀u,0<=u->u<m->d u->∀c∈kd m e r a u,d c):Ϗ C O H o p t m q e r a b l g n i k j d:=⟨h.ob,h.web,h.rt,h.hn,h.hk,h.kp,h.hi,λc v=>h.done c (f c v),s⟩
def θ.UW{C O:Addr}{H c:Hp}{o p:Addr}{m:Int}{t a:Addr}{f:hR}{d:ix}(e:Ϙ o H c)(b:H o=some (.ins O a []))(h:θ C H p m t f d):θ C c p m t f d:=⟨let ⟨a,q⟩:=h.ob;⟨a,e _ _ q (cZ q b (by nofun))⟩,e _ _ h.tu (cZ h.tu b (by nofun)),Paired.imp' (λq x z=>e _ _ z (cZ z b (by nofun))) h.ro,h.go⟩
def qU(T:Txt K L):Sp:=λk H Q _=>WZ λ(o s p a t:Addr)(c:Bool)(m:Int)(i:hR)(f:ix)(g:fc)(r:Int)=>k=[.ref o,.ref p,.ref a,.int r]/\H o=some (.ins T.Outlook s [])/\θ T.Web H p m t i f/\Ω K c H a (g.map V.int)/\bA m g=true/\(0<=r/\r<m)/\∃d e,ζ m f r d e/\∀j u l q n h,Ϗ T.Web T.Outlook h o p t m i f r d e (Ϟ m f r d e (λv=>g.getD v.toNat 0) (X8 f d)) j u l q n (λv=>(0<=v/\v<m)/\v≠r)->(∀b x,H b=some x->b≠o->h b=some x)->Q .ξ h
abbrev lP:Stmt:=kM (top 59) 0
def xR:ε ["self","web","wish","r","place","front"] ["self","web","wish","r"] (aA lP):=.of
def qT:Ψ (aA lP) "enumerate":=.of
def xS(T:Txt K L)(O:bI (τ P w))(lH:zr P w base T)(vg:Cb P w K L base "idle_load" vG ["outlook","place","front"] 55 (xZ T))(dj:kQ P w base T)(ju:Dk P w base T)(DX:Cb P w K L base "needs" DZ ["web","wish","r"] 8 (G3 T)):Vq P w K L base "__init__" "Outlook.__init__" lP ["self","web","wish","r"] 56 (qU T):=λ_ _ F=>by
 refine F.Ο xR λο A b0 s H vs Q E hr h=>?_;obtain⟨o,f,p,a,t,c,m,ps,J,xs,r,rfl,ho,W,ha,fi,rr,par,I,R,k⟩:=h;have g:=W.go;have Ζ:=g.Ζ;obtain⟨dw,wb⟩:=W.ob;refine⟨_,(aw (lO (γ 0) (Ϩ 1) rfl) (aw (lO (γ 0) (Θ DX hr O (aa (Ϩ 1) (aa (γ 2) (aa (γ 3) ap)))) rfl) (aw (lO (γ 0) (gG rfl (UU ["place","front","web"] 2 [1]) (zI true qT.g T.enumerate (Θ lH hr O (aa (Ϩ 1) (aa (γ 3) ap)))) (λ_ _ _ _=>(wr K rfl (n:=2) rfl (bQ (d6 (i:=0) (show(["place","front","web"]:hX).Nodup from by decide +kernel) rfl (Or.inl rfl)) (bQ (d6 (i:=1) (show(["place","front","web"]:hX).Nodup from by decide +kernel) rfl (Or.inl rfl)) fI)))) (λ_ _ _ _=>gj) (λ_ _ _ _=>(gD ju.G (hr.mono (by decide)) (by rfl) ju.D.m ju.D.F.kp ju.D.b .nil (d7 O) (aa (pv 2) (aa (pv 0) (aa (pv 1) ap)))))) rfl) (aw (lO (γ 0) (aX oO (eK (aa qC ap)) (cu (Ϩ 1) rfl)) rfl) (ay (gf PassesOwn.never rfl (iB (Θ dj hr O (aa (Ϩ 1) (aa (γ 3) ap)))) (iH (n:=2) rfl (bQ (ϊ 4) (bQ (ϊ 5) fI))) (ay (jv (Θ vg hr O (aa (γ 0) (aa (γ 4) (aa (γ 5) ap)))) (nD (cu (γ 0) rfl) (γ 4) gI))))))))),?_⟩;walk_at "s";refine b9 λN1 h1=>?_;walk_at "";have xl:(xs.length:Int)=m:=by
  have fi:=fi;unfold bA at fi;rw[bG]at fi;exact bB fi.1
 refine⟨T.Outlook,f,[],ho,T.υ,T.Υ,by decide,h1 _ _ (b9 λN2 h2=>?_)⟩;clear h1;have k1:Ϙ o H (upd H o (.ins T.Outlook f (bp "web" (.ref p) []))):=Ϙ.refl.put _;have o1:upd H o (.ins T.Outlook f (bp "web" (.ref p) [])) o=some (.ins T.Outlook f (bp "web" (.ref p) [])):=au;generalize upd H o (.ins T.Outlook f (bp "web" (.ref p) []))=H1 at k1 o1 ⊢;walk_at "";refine⟨p,a,t,c,m,ps,J,xs,r,rfl,W.UW k1 ho,k1.ϫ ho ha,by lia,λ_ _ _=>⟨par,I,R,λj H2 n2 s2 e2=>?_⟩,λz=>(by rw[fi]at z;cases z),λ_ z=>absurd rr z⟩;have k2:=k1.then s2;refine⟨T.Outlook,f,_,s2 _ _ o1,T.υ,T.zC,by show 1<1000;decide,h2 _ _ (b9 λN3 h3=>?_)⟩;clear h2;have ad:j≠o:=λz=>by rw[z,o1]at n2;cases n2
 have k3:=k2.put (.ins T.Outlook f (bp "needs" (.ref j) (bp "web" (.ref p) [])));have o3:upd H2 o (.ins T.Outlook f (bp "needs" (.ref j) (bp "web" (.ref p) []))) o=some (.ins T.Outlook f (bp "needs" (.ref j) (bp "web" (.ref p) []))):=au;have e3:upd H2 o (.ins T.Outlook f (bp "needs" (.ref j) (bp "web" (.ref p) []))) j=_:=(aM ad).trans e2;generalize upd H2 o (.ins T.Outlook f (bp "needs" (.ref j) (bp "web" (.ref p) [])))=H3 at k3 o3 e3 ⊢;have W3:=W.UW k3 ho;walk_at "";refine⟨p,t,m,ps,J,r,rfl,W3,λ_ _=>⟨par,I,R,λla H4 n4 s4 e4=>⟨la,rfl,⟨_,ι.of e4⟩,λB Zn=>?_⟩⟩,λz=>absurd rr z⟩;have fb:=s4.free Zn;refine EA (K:=K) (c:=true) (xs:=oh m r par) (λi ys U S=>δ H4 S/\S B=some (.lst ys)/\(∃M:List Addr,ys=M.map V.ref/\Paired (λa v=>S a=some (.lst ((kd m J r par v).map V.int))) M ((b7 m.toNat).take i)/\∀q∈M,q≠B)/\∃v w,U=[v,w,some (V.ref p)]) ⟨δ.new _ Zn,au,⟨[],rfl,.nil,by simp⟩,_,_,rfl⟩ (λi ys U S z=>ι.of (z.1 _ _ e4)) ?_ ?_
 .rintro i x ys U S q N hN hx ⟨s5,e5,⟨M,rfl,pk,Zo⟩,v,w,rfl⟩ nq;have il:i<m.toNat:=by
   have:=(ax.mp hx).1;unfold oh at this
   rwa [ag,b6]at this
  have ex:x=Pb.front r par (i:Int):=by
   have:=wY (m:=m) (r:=r) (par:=par) (v:=(i:Int)) (by lia) (by lia);rw[show((i:Int)).toNat=i from rfl,hx]at this;exact bF this
  have qe:=s5 _ _ e4;have s6:=δ.new (.tup [V.int i,x]) nq;have dp:=s5.trans s6;have et:(b7 m.toNat).take (i+1)=(b7 m.toNat).take i++[(i:Int)]:=by rw[bg,gZ il];rfl
  have e9:M.length<=24:=by
   have:=Paired.length pk;rw[bq]at this
   lia
  walk_at "";refine⟨_,Α.of au,rfl,_,_,rfl,_,_,rfl,rfl,?_⟩;refine⟨p,t,m,ps,J,i,x,rfl,W3.same (s4.trans dp),by lia,by lia,?_,λl6 H6 n6 s7 e7=>?_⟩
  .rw[ex];unfold Pb.front;split
   .exact .inl rfl
   .exact .inr ⟨_,rfl⟩
  have Zq:=s6.trans s7;refine⟨Zq _ _ e5,d8 (by rw[ag];lia),hN _ _ _ ⟨(s5.trans Zq).put Zn _,au,⟨M++[l6],by rw[aq];rfl,?_,λq O=>?_⟩,_,_,rfl⟩⟩;have nk:l6≠B:=λz=>by rw[z,s6 _ _ e5]at n6;cases n6
  rotate_left
  .rcases bi.mp O with h|h
   .exact Zo q h
   .rw[aG.mp h];exact λz=>by rw[z,s6 _ _ e5]at n6;cases n6
  rw[et];refine p4 (by rw[aM nk,e7,ex]) (wt (λq v O h=>?_) pk);have e:q≠B:=λz=>Zo q O z;rw[aM e];exact Zq _ _ h
 .rintro ys U S ⟨s5,e5,⟨M,rfl,pk,Zo⟩,v,w,rfl⟩;rw[show(oh m r par).length=m.toNat by unfold oh;rw[ag,b6],bZ (by rw[b6];exact aJ _)]at pk;have o5:=s5 _ _ (s4 _ _ o3);have k5:=(k3.then s4).then s5;have bS:=s5 _ _ (s4 _ _ e3);refine⟨T.Outlook,f,_,o5,T.υ,T.ϝ,by show 2<1000;decide,h3 _ _ (b9 λN4 h4=>?_)⟩;clear h3;have ar:B≠o:=λz=>by rw[z,o5]at e5;cases e5
  have k6:=k5.put (.ins T.Outlook f (bp "kids" (.ref B) (bp "needs" (.ref j) (bp "web" (.ref p) []))));have o6:upd S o (.ins T.Outlook f (bp "kids" (.ref B) (bp "needs" (.ref j) (bp "web" (.ref p) [])))) o=some (.ins T.Outlook f (bp "kids" (.ref B) (bp "needs" (.ref j) (bp "web" (.ref p) [])))):=au;have e6:upd S o (.ins T.Outlook f (bp "kids" (.ref B) (bp "needs" (.ref j) (bp "web" (.ref p) [])))) B=_:=(aM ar).trans e5;have ai:upd S o (.ins T.Outlook f (bp "kids" (.ref B) (bp "needs" (.ref j) (bp "web" (.ref p) [])))) j=_:=(aM ad).trans bS;have Yl:Paired (λa v=>upd S o (.ins T.Outlook f (bp "kids" (.ref B) (bp "needs" (.ref j) (bp "web" (.ref p) [])))) a=some (.lst ((kd m J r par v).map V.int))) M (b7 m.toNat):=Paired.imp' (λq v h=>by rw[aM (cZ h o5 (by nofun))];exact h) pk;generalize upd S o (.ins T.Outlook f (bp "kids" (.ref B) (bp "needs" (.ref j) (bp "web" (.ref p) []))))=H6 at k6 o6 e6 ai Yl ⊢;walk_at "";refine⟨by decide,λl1 n1=>?_⟩;have s7:=δ.new (.lst [V.ξ]) n1;obtain⟨di,ct⟩:=(W.UW k6 ho).ob;refine⟨T.Web,di,_,s7 _ _ ct,T.Ε,T.Λ,_,eT _ _,?_⟩;refine⟨l1,m,[V.ξ],rfl,rfl,au,by lia,by lia,bX (by simp;lia),λC a7=>?_⟩;rw[rm];have s8:=s7.trans (δ.new (.lst (List.replicate m.toNat V.ξ)) a7);have i8:upd (upd H6 l1 (.lst [V.ξ])) C (.lst (List.replicate m.toNat V.ξ)) C=some (.lst (List.replicate m.toNat V.ξ)):=au;have X:=s7.free a7;generalize upd (upd H6 l1 (.lst [V.ξ])) C (.lst (List.replicate m.toNat V.ξ))=H8 at s8 i8 ⊢;have o8:=s8 _ _ o6;refine⟨T.Outlook,f,_,o8,T.υ,T.Vd,by show 3<1000;decide,h4 _ (upd H8 o (.ins T.Outlook f (pA p j B C))) ?_⟩;clear h4;have k8:=(k6.then s8).put (.ins T.Outlook f (pA p j B C));have a4:C≠o:=λz=>by rw[z,o6]at X;cases X
  have O9:Ϗ T.Web T.Outlook (upd H8 o (.ins T.Outlook f (pA p j B C))) o p t m ps J r par I (Ϟ m J r par I (λv=>xs.getD v.toNat 0) (X8 J par)) j B C M (List.replicate m.toNat V.ξ) (λ_=>False):=⟨⟨f,au⟩,W.UW k8 ho,R,(aM ad).trans (s8 _ _ ai),(aM ar).trans (s8 _ _ e6),Paired.imp' (λq v h=>by rw[aM (cZ h o6 (by nofun))];exact s8 _ _ h) Yl,(aM a4).trans i8,λc z=>z.elim,λu _ _ z=>z.elim⟩
  have k9:=k8;generalize upd H8 o (.ins T.Outlook f (pA p j B C))=H9 at O9 k9 ⊢;walk_at "";have b3:H C=none:=by
   cases e:H C with
   | none=>rfl
   | some x=>rw[k6 _ _ e a4]at X;cases X
  have b1:j≠C:=λz=>by rw[<-z,ai]at X;cases X
  have dr:B≠C:=λz=>by rw[<-z,e6]at X;cases X
  have Zm:∀q∈M,q≠C:=λq O z=>by
   obtain⟨v,hv⟩:=D4 Yl O;rw[z,X]at hv;cases hv
  refine⟨p,t,m,ps,J,r,rfl,O9.web,λ_ _=>⟨par,I,R,λlq qs Z Ve et aT an a8 pa Or=>⟨lq,rfl,⟨_,ι.of a8⟩,?_⟩⟩,λz=>absurd rr z⟩;have b2:lq≠C:=λz=>by rw[z,O9.hi]at aT;cases aT
  refine jM (K:=K) (xs:=qs.map V.ref) (λi U Up=>Ϙ o H Up/\Up lq=some (.lst (qs.map V.ref))/\ω Up par qs Z.reverse/\E3 λ(bs:List V)(v4 v5:Option V)=>Ϗ T.Web T.Outlook Up o p t m ps J r par I (Ϟ m J r par I (λv=>xs.getD v.toNat 0) (X8 J par)) j B C M bs (λc=>c∈Z.drop (Z.length-i))/\bs.length=m.toNat/\(∀c,c∈Z.drop (Z.length-i)->∀a,ϳ bs c=some (.ref a)->a≠C)/\U=[some (V.ref o),some (V.ref p),some (V.ref a),some (V.int r),v4,v5]) ⟨k9.then an,a8,pa,List.replicate m.toNat V.ξ,_,_,(O9.same an).sub (λc d=>?_) (λu _ _ hu=>?_),b8,λc d=>?_,rfl⟩ (λi U Up _ z=>ι.of z.2.1) ?_ ?_
  .rw[gg,fh]at d;cases d
  .rw[gg,fh]at hu;cases hu
  .rw[gg,fh]at d;cases d
  .rintro i x U Up N BB ϒ hN hx ⟨k11,e11,XN,bs,v4,v5,Zt,bl,hda,rfl⟩;refine ϒ _ _ ?_;obtain⟨q,v,rfl,O,hv,eq⟩:=XN.get hx;obtain⟨⟨vr,vn⟩,ed,_,a0,cs⟩:=Or.cut R hv;have hS:∀c∈kd m J r par v,c∈Z.drop (Z.length-i):=λc d=>by
    have w:=(de g R vr.1 vr.2).mp d;exact cs c w.1.1 w.1.2 w.2.1 w.2.2
   walk_at "";refine⟨_,Α.of eq,rfl,_,_,rfl,_,_,rfl,rfl,?_⟩;refine⟨o,p,t,m,ps,J,r,par,I,_,j,B,C,M,bs,_,v,rfl,Zt,vr,vn,hS,λl em av ϙ Uu=>?_⟩;have Y:=Zt.same ϙ;obtain⟨cc,ZO⟩:=Y.ob;have nl:l≠C:=λz=>by rw[z,Zt.hi]at av;cases av
   refine⟨T.Outlook,cc,_,ZO,T.υ,T.Vd,_,BW _ _ _ _,nZ Y.hi vr.1 (by lia) (hN _ _ ⟨?_,?_,?_,_,_,_,(Y.put b1 dr Zm (λc d=>⟨(a0 c d).1.1,hda c d⟩) bl vr.1 vr.2 hS Uu nl).sub (λc d=>?_) (λu u0 u1 hu c d=>?_),?_,?_,rfl⟩)⟩
   .exact λb y hb nb=>by rw[aM (cD hb b3)];exact ϙ _ _ (k11 b y hb nb)
   .rw[aM b2];exact ϙ _ _ e11
   .exact Paired.imp' (λa b h=>by rw[aM (cZ (ϙ _ _ h) Y.hi (by nofun))];exact ϙ _ _ h) XN
   .rw[ed]at d;exact aF.mp d
   .rw[ed];rw[ed]at hu;rcases aF.mp hu with rfl|hu
    .exact aI _ (hS c d)
    .exact aI _ (Zt.cl u u0 u1 hu c d)
   .rw[bN];exact bl
   .intro c d a' V5;rw[ed]at d;by_cases e:c=v
    .subst e;rw[yH vr.1,da (by lia)]at V5;cases V5;exact nl
    .have d:=(aF.mp d).resolve_left e;have c0:=(a0 c d).1.1;rw[yH c0,cA (by lia),<-yH c0]at V5;exact hda c d a' V5
  .rintro BB U Up ϒ ⟨k11,e11,XN,bs,v4,v5,Zt,bl,hda,rfl⟩;refine ϒ _ _ ?_;have ql:qs.length=Z.reverse.length:=Paired.length XN;rw[ag,ql,aQ,dY,iC]at Zt;walk_at "";refine k j B C M bs Up (Zt.sub (λc d=>?_) (λu u0 u1 hu c d=>?_)) k11
   .exact(Or.all c d.1.1 d.1.2).resolve_left d.2
   .have w:=(de g R u0 u1).mp d;exact⟨w.1,w.2.1⟩
def Cg(T:Txt K L):Sp:=λh H Q _=>E9 λ(p a t:Addr)(c:Bool)(m:Int)(i:hR)(e:ix)(g:fc)(r:Int)=>h=[.ref p,.ref a,.int r]/\θ T.Web H p m t i e/\Ω K c H a (g.map V.int)/\bA m g=true/\(0<=r/\r<m)/\∃b d,ζ m e r b d/\∀l f,H l=none->δ H f->f l=some (.tup ((Tp m e r b d (p3 m e r b d g) r (-1)).map V.int))->Q (.ref l) f
abbrev uI:Stmt:=top 58
def Lb:ε ["web","wish","r"] ["web","wish","r"] (aA uI):=.of
def sC:Ψ (aA uI) "Outlook":=.of
def K6(T:Txt K L)(N:bI (τ P w))(n:Cm P w K L base (Mk K T.Outlook) "__init__" "Outlook.__init__" lP ["self","web","wish","r"] 56 (qU T)){S:Addr}{J:FuncData}(Y:Df K L "greatest_load" dy ["outlook","place","over"] S J)(gw:ϋ P w K L base (τ P w) 54 S J ["outlook","place","over"] (qa T)):Ok P w K L base "failing" uI ["web","wish","r"] 58 (Cg T):=λ_ _ D=>by
 refine D.F.Ο Lb λο A v s H vs Q E V h=>?_;obtain⟨p,a,t,c,m,X,U,xs,r,rfl,W,ha,Z,i,f,e,R,k⟩:=h;have Ζ:=W.go.Ζ;refine⟨_,(ay (aY (iO gi T.tuple (aa (pcq Y gw V N (aa (vX n.M n.G (V.mono (by decide)) sC.g T.VG n.b .nil (d7 N) (aa (γ 0) (aa (γ 1) (aa (γ 2) ap))) (hdb:=sC.d)) (aa (γ 2) (aa (lz jo aD) ap)))) ap)))),?_⟩;walk_at "t";intro o j I Vr ne;have q:upd H j (.own o) o=none:=by rw[aM ne.symm];exact I
 have u:δ H (upd (upd H j (.own o)) o (.ins T.Outlook j [])):=(δ.new _ Vr).trans (δ.new _ q);refine⟨o,j,p,a,t,c,m,X,U,xs,r,rfl,au,W.same u,δ.ϫ u ha,Z,i,f,e,R,λna ka ia kl bs H1 O kp=>?_⟩;have z:δ H H1:=λb x y=>kp b x (u b x y) (cD y I);refine⟨rfl,?_⟩;refine⟨o,p,t,m,X,U,r,f,e,_,na,ka,ia,kl,bs,_,r,_,rfl,O,i,by show m.toNat<=e r+1+24;lia,λc hc=>?_,λl H2 n2 C h2=>?_⟩
 .have w:=(de W.go R i.1 i.2).mp hc;exact⟨w.1,w.2.1⟩
 .refine⟨l,rfl,_,.inl ⟨ι.of h2,λl3 B=>k l3 _ (z.free (C.free B)) ((z.trans C).trans (δ.new _ B)) au⟩⟩
def CM(T:Txt K L):Sp:=λe H Q E=>E8 λ(p a t:Addr)(c:Bool)(m:Int)(f:hR)(g:ix)(d:fc)=>e=[.ref p,.ref a]/\θ T.Web H p m t f g/\Ω K c H a (d.map V.int)/\d.length<=1000/\(bA m d=true->∀b,δ H b->Q (.bl (decide (d.sum=0))) b)/\(bA m d=false->∀b,δ H b->E (.ref T.BadWish) none b)
abbrev yJ:Stmt:=top 57
def La:ε ["web","wish"] ["web","wish"] (aA yJ):=.of
def KC(T:Txt K L)(C:bI (τ P w))(g:ze P w base T)(r:uN P w base T):Ok P w K L base "is_idle" yJ ["web","wish"] 3 (CM T):=λ_ _ D=>by
 refine D.F.Ϻ La λB A d s H y Q E f h=>?_;obtain⟨p,a,t,c,m,x,u,b,rfl,W,v,q,k,e⟩:=h;refine⟨_,(ay (aY (jU cN (Ξ g f bT (aa (Ξ r f bT (aa (γ 0) (aa (γ 1) ap))) ap)) aD (kY _)))),?_⟩;walk_at "t";refine⟨p,a,t,c,m,x,u,b,rfl,W,v,q,λi l o j _ n=>?_,e⟩;refine⟨l,_,rfl,.inr n,?_⟩;refine⟨rfl,?_⟩;rw[show decide (V.int b.sum=V.int 0)=decide (b.sum=0) by by_cases z:b.sum=0<;>simp[z]];exact k i o j
abbrev EJ(P w base)(T:Txt K L):=Cb P w K L base "is_idle" yJ ["web","wish"] 3 (CM T)
def Gd(T:Txt K L):Sp:=λh H Q E=>E8 λ(p a t:Addr)(c:Bool)(m:Int)(i:hR)(g:ix)(b:fc)=>h=[.ref p,.ref a]/\θ T.Web H p m t i g/\Ω K c H a (b.map V.int)/\b.length<=1000/\(bA m b=true->b.sum≠0->∃e f,ζ m g (fV m b) e f/\∀l d,H l=none->δ H d->d l=some (.tup ((Tp m g (fV m b) e f (p3 m g (fV m b) e f b) (fV m b) (-1)).map V.int))->Q (.ref l) d)/\(bA m b=false->∀d,δ H d->E (.ref T.BadWish) none d)/\(bA m b=true->b.sum=0->∀d,δ H d->E (.ref T.NoWorst) none d)
abbrev tM:Stmt:=top 56
def Hq:ε ["web","wish","wanted_at"] ["web","wish"] (aA tM):=.of
def zc:Ug (aA tM) "wanted_at":=.of (by kernel_rfl)
def ux:Ψ (aA tM) "NoWorst":=.of
def D9:Ψ (aA tM) "range":=.of
def Po(T:Txt K L)(hq:bI (τ P w))(yd:Cb P w K L base "failing" uI ["web","wish","r"] 58 (Cg T))(qj:EJ P w base T):Ok P w K L base "fails" tM ["web","wish"] 59 (Gd T):=λ_ _ D=>by
 refine D.F.Ϻ Hq λο A I s H vs Q E O h=>?_;obtain⟨p,a,t,c,m,S,M,b,rfl,W,G,hz,k,e,e'⟩:=h;have g:=W.go;have Ζ:=g.Ζ;obtain⟨dw,wb⟩:=W.ob;refine⟨_,(aw (bU (lL (Ξ qj O bT (aa (γ 0) (aa (Ϩ 1) ap)))) (ay (qZ T.VL rfl tK ux.g T.TY (aa bH ap) (hdb:=ux.d))) bE) (aw (tj (i:=2) Hq.nd rfl zc.l rfl (UU ["place","wish"] 1 [1]) (kI D9.g T.range (aa (cu (γ 0) rfl) ap)) (λ_ _ _ _=>(d6 (i:=0) (show(["place","wish"]:hX).Nodup from by decide +kernel) rfl (Or.inl rfl))) (λ_ _ _ _=>(DM (Ν wS (ψ (Qk c K rfl) (pv 1) (pv 0)) aD))) (λ_ _ _ _=>(pv 0))) (ay (aY (Ξ yd O bT (aa (γ 0) (aa (Ϩ 1) (aa (ψ bu (γ 2) aD) ap)))))))),?_⟩;walk_at "t";refine⟨p,a,t,c,m,S,M,b,rfl,W,G,hz,λf J j=>?_,e⟩;refine⟨_,rfl,?_⟩;by_cases z:b.sum=0
 .rw[aj (by simpa using z)];exact⟨by decide,e' f z J j⟩
 .rw[ah (by simpa using z)];obtain⟨B,x,R,k⟩:=k f z;have xl:=iu f;have nn:=EM f;obtain⟨tl,y,rr,x0⟩:=JQ xl nn z;refine⟨T.Web,dw,_,j _ _ wb,T.Ε,T.Λ,_,eT _ _,m,rfl,by lia,by lia,λU C=>?_⟩;have Z:=j.free C;refine kj (λi o u n=>δ J n/\n U=some (.lst o)/\o=((b7 i).filter λv=>decide (0<b.getD v.toNat 0)).map V.int/\∃v,u=[v,some (V.ref a)]) ⟨δ.new _ C,au,rfl,_,rfl⟩ ?_ ?_
  .rintro i o u n N hN hi ⟨s3,e3,rfl,v,rfl⟩;have ll:((b7 i).filter λv=>decide (0<b.getD v.toNat 0)).length<=24:=by
    have Y:=bP (λv=>decide (0<b.getD v.toNat 0)) (b7 i);rw[b6]at Y
    lia
   walk_at "";rw[ee];refine ixX (δ.ϫ (j.trans s3) G) (Ϲ (by lia) (by lia)) ⟨_,rfl,?_⟩;rw[show((i:Int)).toNat=i from rfl];by_cases q:0<b.getD i 0
   .rw[aj q];refine⟨e3,d8 (by rw[ag];lia),hN _ _ _ ⟨s3.put C _,au,?_,_,rfl⟩⟩;rw[qG,cz,dE (by simpa using q),fJ,aq]
    rfl
   .rw[ah q];refine hN _ _ _ ⟨s3,e3,?_,_,rfl⟩;rw[qG,cz,dD (by simpa using q),fJ,ck]
  .rintro o u n ⟨s3,e3,rfl,v,rfl⟩;rw[y]at e3;have r:=j.trans s3;refine Γ (v:=V.int (fV m b)) e3 (fR (by decide) rfl) ?_;exact⟨p,a,t,c,m,S,M,b,_,rfl,W.same r,δ.ϫ r G,f,rr,B,x,R,λl H4 n4 X h4=>k l H4 (r.free n4) (r.trans X) h4⟩
abbrev Eo(P w base)(T:Txt K L):=Cb P w K L base "fails" tM ["web","wish"] 59 (Gd T)
def E2(T:Txt K L):Sp:=λh H Q E=>E8 λ(p a t:Addr)(c:Bool)(m:Int)(i:hR)(g:ix)(b:fc)=>h=[.ref p,.ref a]/\θ T.Web H p m t i g/\Ω K c H a (b.map V.int)/\b.length<=1000/\(bA m b=true->b.sum≠0->∃e f,ζ m g (fV m b) e f/\∀d,δ H d->Q (.int ((Tp m g (fV m b) e f (p3 m g (fV m b) e f b) (fV m b) (-1)).sum+1)) d)/\(bA m b=true->b.sum=0->∀d,δ H d->Q (.int 0) d)/\(bA m b=false->∀d,δ H d->E (.ref T.BadWish) none d)
abbrev Bn:Stmt:=top 55
def Nv:ε ["web","wish"] ["web","wish"] (aA Bn):=.of
def Mx(T:Txt K L)(S:bI (τ P w))(J:Eo P w base T)(B:EJ P w base T)(v:ze P w base T):Ok P w K L base "always" Bn ["web","wish"] 60 (E2 T):=λ_ _ D=>by
 refine D.F.Ϻ Nv λO A n s H N Q E j h=>?_;obtain⟨p,a,t,c,m,u,q,g,rfl,W,r,o,k,e,I⟩:=h;refine⟨_,(aw (bU (lL (Ξ B j bT (aa (γ 0) (aa (γ 1) ap)))) (ay (aY aD)) bE) (ay (aY (aX gc (Ξ v j bT (aa (Ξ J j bT (aa (γ 0) (aa (γ 1) ap))) ap)) aD)))),?_⟩;walk_at "t";refine⟨p,a,t,c,m,u,q,g,rfl,W,r,o,λd x b=>?_,I⟩;refine⟨_,rfl,?_⟩;by_cases z:g.sum=0
 .rw[aj (by simpa using z)];exact e d z x b
 .rw[ah (by simpa using z)];obtain⟨i,f,R,k⟩:=k d z;refine⟨p,a,t,c,m,u,q,g,rfl,W.same b,δ.ϫ b r,o,λ_ _=>⟨i,f,R,λl y U C M=>?_⟩,λz=>(by rw[d]at z;cases z),λ_ G=>absurd G z⟩;refine⟨l,_,rfl,.inr (Α.of M),_,rfl,k y (b.trans C)⟩
abbrev Gi(P w base)(T:Txt K L):=Cb P w K L base "always" Bn ["web","wish"] 60 (E2 T)
def Ae(T:Txt K L):Sp:=λh H Q E=>E9 λ(p a t:Addr)(c:Bool)(m:Int)(i:hR)(g:ix)(e:fc)(r:Int)=>h=[.ref p,.ref a,.int r]/\θ T.Web H p m t i g/\Ω K c H a (e.map V.int)/\e.length<=1000/\(bA m e=true->0<=r->r<m->∃d f,ζ m g r d f/\∀l b,H l=none->δ H b->b l=some (.lst ((oV m g r d f (λv=>e.getD v.toNat 0) (ϯ g d)).map V.int))->Q (.ref l) b)/\(bA m e=false->∀b,δ H b->E (.ref T.BadLaying) none b)/\(bA m e=true->¬(0<=r/\r<m)->∀b,δ H b->E (.ref T.NoPlace) none b)
abbrev wG:Stmt:=top 66
def IJ:ε ["web","laying","r","counts","place","front"] ["web","laying","r"] (aA wG):=.of
def IC(T:Txt K L)(hq:bI (τ P w))(dj:kQ P w base T)(gU:sg P w base T)(di:mC P w base T):Ok P w K L base "gathered" wG ["web","laying","r"] 8 (Ae T):=λ_ _ D=>by
 refine D.F.Ϻ IJ λο A U s H vs Q E X h=>?_;obtain⟨p,a,t,c,m,Y,o,xs,r,rfl,W,ha,hz,k,e,e'⟩:=h;have g:=W.go;have Ζ:=g.Ζ;refine⟨_,(aw (Κ 3 (iO jN T.list (aa (Ξ gU X bT (aa (γ 0) (aa (γ 1) ap))) ap))) (aw (gf PassesOwn.leaving rfl (iB (Ξ dj X bT (aa (γ 0) (aa (γ 2) ap)))) (iH (n:=2) rfl (bQ (ϊ 4) (bQ (ϊ 5) fI))) (ay (rf (γ 3) (γ 5) p5 (aX eY (ψ bu (γ 3) (γ 4)) (Ξ di X bT (aa (γ 0) (aa (γ 4) (aa (γ 5) ap))))) sB gI))) (ay (aY (γ 3))))),?_⟩;walk_at "t";refine⟨p,a,t,c,m,Y,o,xs,?_⟩;refine an6 rfl W ha hz (λy l0 H0 s0 _ e0=>?_) e;have xl:(xs.length:Int)=m:=by
  unfold bA at y;rw[bG]at y;exact bB y.1
 refine⟨l0,rfl,_,.inr e0,λl n1=>?_⟩;have s1:=δ.new (.lst (xs.map V.int)) n1;have J:=s0.trans s1;have nl:=s0.free n1;have Z:upd H0 l (.lst (xs.map V.int)) l=some (.lst (xs.map V.int)):=au;generalize upd H0 l (.lst (xs.map V.int))=H1 at s1 J Z ⊢;refine⟨p,t,m,Y,o,r,?_⟩;refine Vl rfl (W.same J) (λr0 r1=>?_) (λz=>e' y z H1 J);obtain⟨d,B,R,k⟩:=k y r0 r1;refine⟨d,B,R,λS G M H2 _ n2 s2 e2 pa O=>?_⟩;have VP:S≠l:=λz=>by rw[z,Z]at n2;cases n2
 refine⟨S,rfl,⟨_,ι.of e2⟩,?_⟩;have ql:G.length=M.reverse.length:=Paired.length pa;refine jM (K:=K) (xs:=G.map V.ref) (λi I f=>δ H f/\f S=some (.lst (G.map V.ref))/\ω f d G M.reverse/\E3 λ(C:fc)(v4 v5:Option V)=>f l=some (.lst (C.map V.int))/\ϖ m o r d B (λv=>xs.getD v.toNat 0) (ϯ o d) (M.drop (M.length-i)) C/\I=[some (V.ref p),some (V.ref a),some (V.int r),some (V.ref l),v4,v5]) ⟨J.trans s2,e2,pa,xs,_,_,s2 _ _ Z,by rw[gg,fh];exact ϖ.nil xl,rfl⟩ (λi I f _ z=>ι.of z.2.1) ?_ ?_
 .rintro i x I f N BB ϒ hN hx ⟨s3,e3,UX,C,v4,v5,c3,so,rfl⟩;refine ϒ _ _ ?_;obtain⟨q,v,rfl,hq,hv,eq⟩:=UX.get hx;obtain⟨⟨j,vn⟩,ev,Zi⟩:=O.turn g R so hv;have u:=R.up v j.1 j.2 vn;obtain⟨kk,hk,k0,k1⟩:=jB g R j.1 j.2 vn;have cl:=so.len;walk_at "";refine⟨_,Α.of eq,rfl,_,_,rfl,_,_,rfl,rfl,?_⟩;refine Γ c3 (Ϲ u.1.1 (by lia)) (Γ c3 (Ϲ j.1 (by lia)) ?_);refine⟨p,t,m,Y,o,v,d v,rfl,W.same s3,λk' _ _ _ _ h=>?_,λz=>absurd ⟨j,u.1⟩ z,λ_ _ _ _ z=>by rw[hk]at z;cases z⟩;rw[hk]at h;cases h;refine⟨_,rfl,_,rfl,⟨by lia,by lia⟩,_,rfl,nZ c3 u.1.1 (by rw[ag];lia) (hN _ _ ⟨s3.put nl _,?_,?_,rZ d (ϯ o d) C v,_,_,?_,Zi,rfl⟩)⟩
  .rw[aM VP];exact e3
  .exact Paired.imp' (λa b h=>by rw[aM (cZ h c3 (by nofun))];exact h) UX
  .rw[au,<-cU];unfold rZ ϯ;rw[hk]
   rfl
 .rintro BB I f ϒ ⟨s3,e3,UX,C,v4,v5,c3,so,rfl⟩;refine ϒ _ _ ?_;rw[ag,ql,aQ,dY,iC]at so;rw[O.done g R so]at c3;walk_at "";exact k l f nl s3 c3
abbrev Ck(P w base)(T:Txt K L):=Cb P w K L base "gathered" wG ["web","laying","r"] 8 (Ae T)
def GZ(T:Txt K L):Sp:=λj H Q E=>E9 λ(p a t:Addr)(c:Bool)(m:Int)(k:hR)(g:ix)(f:fc)(r:Int)=>j=[.ref p,.ref a,.int r]/\θ T.Web H p m t k g/\Ω K c H a (f.map V.int)/\f.length<=1000/\(bA m f=true->0<=r->r<m->∃b e,ζ m g r b e/\∀l i h d,eX m g r b e r=r::h->H l=none->δ H d->d l=some (.lst (i.map V.ref))->Ϡ d m g r b e (λv=>f.getD v.toNat 0) i (lR m g r b e (λv=>f.getD v.toNat 0) h.reverse)->Order m r b h->Q (.ref l) d)/\(bA m f=false->∀d,δ H d->E (.ref T.BadLaying) none d)/\(bA m f=true->¬(0<=r/\r<m)->∀d,δ H d->E (.ref T.NoPlace) none d)
abbrev DN:Stmt:=top 68
def Ov:ε ["web","laying","r","counts","steps","place","front","times"] ["web","laying","r"] (aA DN):=.of
def Oa(T:Txt K L)(hq:bI (τ P w))(pf:Ck P w base T)(dj:kQ P w base T)(di:mC P w base T):Ok P w K L base "bring" DN ["web","laying","r"] 9 (GZ T):=λ_ _ D=>by
 refine D.F.Ϻ Ov λο A Z s H vs Q E hr h=>?_;obtain⟨p,a,t,c,m,ps,j,xs,r,rfl,W,ha,hz,k,e,e'⟩:=h;have g:=W.go;have Ζ:=g.Ζ;refine⟨_,(aw (Κ 3 (Ξ pf hr bT (aa (γ 0) (aa (γ 1) (aa (γ 2) ap))))) (aw (Κ 4 (eK ap)) (aw (gf PassesOwn.leaving rfl (iB (Ξ dj hr bT (aa (γ 0) (aa (γ 2) ap)))) (iH (n:=2) rfl (bQ (ϊ 5) (bQ (ϊ 6) fI))) (aw (Κ 7 (aX eY (ψ bu (γ 3) (γ 5)) (Ξ di hr bT (aa (γ 0) (aa (γ 5) (aa (γ 6) ap)))))) (ay (bU (Ν wS (γ 7) aD) (ay (cI (TV (γ 4) (hV (aa (γ 5) (aa (γ 6) (aa (γ 7) ap))))))) bE)))) (ay (aY (γ 4)))))),?_⟩;walk_at "s";refine b9 λN1 g1=>?_;walk_at "";refine⟨p,a,t,c,m,ps,j,xs,r,?_⟩;refine an7 rfl W ha hz (λfi r0 Y=>?_) e e';obtain⟨d,f,R,k⟩:=k fi r0 Y;refine⟨d,f,R,λlc H1 nc s1 ec=>g1 _ _ (b9 λN2 g2=>?_)⟩;clear g1;walk_at "";refine⟨bX (by simp),λB M=>g2 _ _ (b9 λN3 g3=>?_)⟩;clear g2;have s2:=δ.new (.lst []) M;have Yp:=s1.free M;have ϙ:=s1.trans s2;have S:upd H1 B (.lst []) B=some (.lst []):=au;have Yq:=s2 _ _ ec;generalize upd H1 B (.lst [])=H2 at s2 ϙ S Yq ⊢;walk_at "";refine⟨p,t,m,ps,j,r,?_⟩;refine Vl rfl (W.same ϙ) (λ_ _=>⟨d,f,R,λX I l H3 et n2 s3 e3 pa O=>?_⟩) (λz=>absurd ⟨r0,Y⟩ z);refine⟨X,rfl,⟨_,ι.of e3⟩,?_⟩;have ql:I.length=l.reverse.length:=Paired.length pa;have ll:=p8 g R r0 Y;rw[et,aO]at ll;have aT:X≠B:=λz=>by rw[z,S]at n2;cases n2
 have ai:lc≠B:=λz=>by rw[<-z,ec]at M;cases M
 have T5:=ϙ.trans s3;refine jM (K:=K) (xs:=I.map V.ref) (λi J o=>δ H o/\o X=some (.lst (I.map V.ref))/\o lc=some (.lst ((oV m j r d f (λv=>xs.getD v.toNat 0) (ϯ j d)).map V.int))/\ω o d I l.reverse/\E4 λ(C:hR)(v5 v6 v7:Option V)=>o B=some (.lst (C.map V.ref))/\Ϡ o m j r d f (λv=>xs.getD v.toNat 0) C (lR m j r d f (λv=>xs.getD v.toNat 0) (l.reverse.take i))/\J=[some (V.ref p),some (V.ref a),some (V.int r),some (V.ref lc),some (V.ref B),v5,v6,v7]) ⟨T5,e3,s3 _ _ Yq,pa,[],_,_,_,s3 _ _ S,.nil,rfl⟩ (λi J o _ z=>ι.of z.2.1) ?_ ?_
 .rintro i x J o N BB ϒ hN hx ⟨s4,e4,c4,Vu,C,v5,v6,v7,u4,ba,rfl⟩;refine ϒ _ _ ?_;obtain⟨q,v,rfl,hq,hv,eq⟩:=Vu.get hx;have vm:v∈l:=dN.mp (aP hv);obtain⟨G,vn⟩:=O.places v vm;have u:=R.up v G.1 G.2 vn;obtain⟨kk,hk,k0,k1⟩:=jB g R G.1 G.2 vn;have ϭ:l.reverse.take (i+1)=l.reverse.take i++[v]:=by rw[bg,hv];rfl
  have ul:C.length=(lR m j r d f (λv=>xs.getD v.toNat 0) (l.reverse.take i)).length:=Paired.length ba;have bK:C.length<=24:=by
   rw[ul];refine aW (bP _ _) ?_;rw[bq,aQ]
   lia
  walk_at "";refine⟨_,Α.of eq,rfl,_,_,rfl,_,_,rfl,rfl,?_⟩;refine Γ c4 (Ϲ G.1 (by unfold oV;rw[ag,b6];lia)) ?_;rw[ut G.1 G.2];refine⟨p,t,m,ps,j,v,d v,rfl,W.same s4,λk' _ _ _ _ h=>?_,λz=>absurd ⟨G,u.1⟩ z,λ_ _ _ _ z=>by rw[hk]at z;cases z⟩;rw[hk]at h;cases h;refine⟨_,rfl,_,rfl,⟨by lia,by lia⟩,?_⟩;have U:Ϟ m j r d f (λv=>xs.getD v.toNat 0) (ϯ j d) v/kk=VA m j r d f (λv=>xs.getD v.toNat 0) v:=by
   unfold VA ϯ;rw[hk]
   rfl
  rw[U];by_cases c:0<VA m j r d f (λv=>xs.getD v.toNat 0) v
  .rw[aj c];refine⟨S9 u4,bX (by simp),λq5 n5=>?_⟩;have y:=δ.new (.tup (K1 m j r d f (λv=>xs.getD v.toNat 0) v)) n5;refine oN (y _ _ u4) (d8 (by rw[ag];lia)) (hN _ _ ⟨(s4.trans y).put Yp _,?_,?_,?_,C++[q5],_,_,_,?_,?_,rfl⟩)
   .rw[aM aT];exact y _ _ e4
   .rw[aM ai];exact y _ _ c4
   .exact Paired.imp' (λa b h=>by rw[aM (cZ (y _ _ h) (y _ _ u4) (by nofun))];exact y _ _ h) Vu
   .rw[au,aq];rfl
   .have n5s:q5≠B:=λz=>by rw[z,u4]at n5;cases n5
    have eb:lR m j r d f (λv=>xs.getD v.toNat 0) (l.reverse.take (i+1))=lR m j r d f (λv=>xs.getD v.toNat 0) (l.reverse.take i)++[v]:=by
     rw[ϭ,KB c]
    rw[eb];refine Ϡ.snoc (by rw[aM n5s,au];rfl) ?_;exact Paired.imp' (λa b h=>by rw[aM (cZ (y _ _ h) (y _ _ u4) (by nofun))];exact y _ _ h) ba
  .rw[ah c];have eb:lR m j r d f (λv=>xs.getD v.toNat 0) (l.reverse.take (i+1))=lR m j r d f (λv=>xs.getD v.toNat 0) (l.reverse.take i):=by
    rw[ϭ,Kt c]
   exact hN _ _ ⟨s4,e4,c4,Vu,C,_,_,_,u4,by rw[eb];exact ba,rfl⟩
 .rintro BB J o ϒ ⟨s4,e4,c4,Vu,C,v5,v6,v7,u4,ba,rfl⟩;refine ϒ _ _ (g3 _ _ ?_);rw[ag,ql,bC]at ba;walk_at "";exact k B C l o et Yp s4 u4 ba O
abbrev Jo(P w base)(T:Txt K L):=Cb P w K L base "bring" DN ["web","laying","r"] 9 (GZ T)
def yX(T:Txt K L):Sp:=λd H Q _=>E10 λ(p t:Addr)(m:Int)(e:hR)(c:ix)(x v u a b:Int)=>d=[.ref p,.int x,.int v,.int u]/\θ T.Web H p m t e c/\(0<=v/\v<m)/\(0<=u/\u<m)/\cL c v u=some a/\cL c u v=some b/\(2<=a/\a<=1000000)/\(2<=b/\b<=1000000)/\Q (.int (if 0<=x then x/a else x*b)) H
abbrev vz:Stmt:=top 46
def HL:ε ["web","over","place","front"] ["web","over","place","front"] (aA vz):=.of
def GD(T:Txt K L)(G:bI (τ P w))(g:mC P w base T):Ok P w K L base "handed_on" vz ["web","over","place","front"] 4 (yX T):=λ_ _ D=>by
 refine D.F.Ϻ HL λy A a s H r Q E i h=>?_;obtain⟨p,t,m,l,f,x,v,u,B,C,rfl,W,b,e,d,j,o,n,k⟩:=h;refine⟨_,(aw (bU (Ν zt (γ 1) aD) (ay (aY (aX eY (γ 1) (Ξ g i bT (aa (γ 0) (aa (γ 2) (aa (γ 3) ap))))))) bE) (ay (aY (aX j6 (γ 1) (Ξ g i bT (aa (γ 0) (aa (γ 3) (aa (γ 2) ap)))))))),?_⟩;walk_at "t";by_cases c:0<=x
 .rw[aj c]at k ⊢;refine⟨p,t,m,l,f,v,u,rfl,W,λq _ _ _ _ h=>?_,λz=>absurd ⟨b,e⟩ z,λ_ _ _ _ z=>by rw[d]at z;cases z⟩;rw[d]at h;cases h;exact⟨_,rfl,⟨by lia,by lia⟩,k⟩
 .rw[ah c]at k ⊢;refine⟨p,t,m,l,f,u,v,rfl,W,λq _ _ _ _ h=>?_,λz=>absurd ⟨e,b⟩ z,λ_ _ _ _ z=>by rw[j]at z;cases z⟩;rw[j]at h;cases h;exact⟨_,rfl,.inr ⟨by lia,by lia⟩,k⟩
abbrev AI(P w base)(T:Txt K L):=Cb P w K L base "handed_on" vz ["web","over","place","front"] 4 (yX T)
def yB(T:Txt K L):Sp:=λk H Q E=>XC λ(p a b t:Addr)(c d:Bool)(m:Int)(n:hR)(j:ix)(g h:fc)(r:Int)=>k=[.ref p,.ref a,.ref b,.int r]/\θ T.Web H p m t n j/\Ω K c H a (g.map V.int)/\g.length<=1000/\Ω K d H b (h.map V.int)/\h.length<=1000/\(bA m g=true->bA m h=true->0<=r->r<m->∃f i,ζ m j r f i/\∀l e,H l=none->δ H e->e l=some (.lst ((oV m j r f i (λv=>(lK m g h).getD v.toNat 0) (Tx j f)).map V.int))->Q (.ref l) e)/\(bA m g=false->∀e,δ H e->E (.ref T.BadLaying) none e)/\(bA m g=true->bA m h=false->∀e,δ H e->E (.ref T.BadWish) none e)/\(bA m g=true->bA m h=true->¬(0<=r/\r<m)->∀e,δ H e->E (.ref T.NoPlace) none e)
abbrev mf:Stmt:=top 45
def qS:ε ["web","laying","wish","r","has","wanted","over","place","front"] ["web","laying","wish","r"] (aA mf):=.of
def Bj:VX (aA mf) "has":=.of (by kernel_rfl)
def xP:VX (aA mf) "wanted":=.of (by kernel_rfl)
def zP:Ug (aA mf) "over":=.of (by kernel_rfl)
def za:Ψ (aA mf) "range":=.of
def HY(T:Txt K L)(hq:bI (τ P w))(nR:AI P w base T)(dj:kQ P w base T)(gU:sg P w base T)(je:uN P w base T):Ok P w K L base "standings" mf ["web","laying","wish","r"] 8 (yB T):=λ_ _ D=>by
 refine D.F.Ϻ qS λο A al s H vs Q E Z h=>?_;obtain⟨p,a,b,t,c,d,m,ps,C,xs,G,r,rfl,W,ha,hz,hb,hy,k,e1,e2,e3⟩:=h;have g:=W.go;have m1:=g.m1;have Ζ:=g.Ζ;refine⟨_,(aw (sx (i:=4) qS.nd rfl (Or.inr Bj.l) (Ξ gU Z bT (aa (γ 0) (aa (γ 1) ap)))) (aw (sx (i:=5) qS.nd rfl (Or.inr xP.l) (Ξ je Z bT (aa (γ 0) (aa (γ 2) ap)))) (aw (tj (i:=6) qS.nd rfl zP.l rfl (UU ["place","has","wanted"] 1 [4,5]) (kI za.g T.range (aa (cu (γ 0) rfl) ap)) (λ_ _ _ _=>(d6 (i:=0) (show(["place","has","wanted"]:hX).Nodup from by decide +kernel) rfl (Or.inl rfl))) (λ_ _ _ _=>gj) (λ_ _ _ _=>(aX jp (ψ (Jw K rfl) (pv 1) (pv 0)) (ψ (Jw K rfl) (pv 2) (pv 0))))) (aw (gf PassesOwn.leaving rfl (iB (Ξ dj Z bT (aa (γ 0) (aa (γ 3) ap)))) (iH (n:=2) rfl (bQ (ϊ 7) (bQ (ϊ 8) fI))) (ay (rf (γ 6) (γ 8) p5 (Ξ nR Z bT (aa (γ 0) (aa (ψ bu (γ 6) (γ 7)) (aa (γ 7) (aa (γ 8) ap))))) sB gI))) (ay (aY (γ 6))))))),?_⟩;walk_at "s";refine b9 λN1 g1=>?_;walk_at "";refine⟨p,a,t,c,m,ps,C,xs,rfl,W,ha,hz,λfi la H1 s1 _ ea=>g1 _ _ (b9 λN2 g2=>?_),e1⟩;clear g1;walk_at "";refine⟨p,b,t,d,m,ps,C,G,rfl,W.same s1,δ.ϫ s1 hb,hy,λU lb H2 s2 _ eb=>g2 _ _ (b9 λN3 g3=>?_),λU H2 s2=>e2 fi U H2 (s1.trans s2)⟩;clear g2;walk_at "";have J:∀{B:fc},bA m B=true->(B.length:Int)=m:=λ{B} f=>by
  unfold bA at f;rw[bG]at f;exact bB f.1
 have xl:=J fi;have yl:=J U;have ϙ:=s1.trans s2;have W2:=W.same ϙ;obtain⟨dx,ob⟩:=W2.ob;refine⟨T.Web,dx,_,ob,T.Ε,T.Λ,_,eT m t,m,rfl,by lia,by lia,λlo no=>?_⟩;have a1:=δ.tup s2 ea;refine kj (λi B o I=>δ H2 I/\I lo=some (.lst B)/\B=((List.range i).map λi=>xs.getD i 0-G.getD i 0).map V.int/\∃v,o=[v,some (V.ref la),some (V.ref lb)]) ⟨δ.new _ no,au,rfl,_,rfl⟩ ?_ ?_
 .rintro i B o I N hN hi ⟨s3,UP,rfl,v,rfl⟩;rw[ee];have i0:(0:Int)<=(i:Int):=by lia
  have ga:=Ϲ (xs:=xs) i0 (by lia);have gb:=Ϲ (xs:=G) i0 (by lia);rw[dJ]at ga gb;walk_at "";refine Et (δ.tup s3 a1) ga (Et (δ.tup s3 eb) gb ⟨_,rfl,_,rfl,UP,d8 (by simp;lia),hN _ _ _ ⟨s3.put no _,au,?_,_,rfl⟩⟩);rw[dZ,aq,aq]
  rfl
 .rintro B o I ⟨s3,UP,rfl,v,rfl⟩;have X:=ϙ.free no;refine g3 _ _ (b9 λN4 g4=>?_);clear g3;walk_at "";have T5:=ϙ.trans s3;have ol:=MP (m:=m) (by lia) xs G;change I lo=some (.lst ((lK m xs G).map V.int))at UP;refine⟨p,t,m,ps,C,r,rfl,W.same T5,λr0 r1=>?_,λz=>e3 fi U z I T5⟩;obtain⟨e,M,R,k⟩:=k fi U r0 r1;refine⟨e,M,R,λl2 Y tl H4 _ n2 s4 e4 pa O=>?_⟩;have VP:l2≠lo:=λz=>by rw[z,UP]at n2;cases n2
  refine⟨l2,rfl,⟨_,ι.of e4⟩,?_⟩;have ql:Y.length=tl.reverse.length:=Paired.length pa;refine uV (K:=K) (xs:=Y.map V.ref) (λi o y=>δ H y/\y l2=some (.lst (Y.map V.ref))/\ω y e Y tl.reverse/\E3 λ(S:fc)(v4 v5:Option V)=>y lo=some (.lst (S.map V.int))/\ϖ m C r e M (λv=>(lK m xs G).getD v.toNat 0) (Tx C e) (tl.drop (tl.length-i)) S/\o=[some (V.ref p),some (V.ref a),some (V.ref b),some (V.int r),some (V.ref la),some (V.ref lb),some (V.ref lo),v4,v5]) ⟨T5.trans s4,e4,pa,lK m xs G,_,_,s4 _ _ UP,by rw[gg,fh];exact ϖ.nil ol,rfl⟩ (λi o y _ z=>ι.of z.2.1) ?_ ?_
  .rintro i x o y N hN hx ⟨s5,e5,Zu,S,v4,v5,c5,so,rfl⟩;obtain⟨q,v,rfl,hq,hv,eq⟩:=Zu.get hx;obtain⟨⟨j,vn⟩,ev,Zi⟩:=O.turn g R so hv;have u:=R.up v j.1 j.2 vn;obtain⟨kk,hk,k0,k1⟩:=jB g R j.1 j.2 vn;obtain⟨kd,hd,d0,d1⟩:=tP g R j.1 j.2 vn;have cl:=so.len;walk_at "";refine⟨_,Α.of eq,rfl,_,_,rfl,_,_,rfl,rfl,?_⟩;refine Γ c5 (Ϲ u.1.1 (by lia)) (Γ c5 (Ϲ j.1 (by lia)) ?_);refine⟨p,t,m,ps,C,_,v,e v,kk,kd,rfl,W.same s5,j,u.1,hk,hd,⟨k0,k1⟩,⟨d0,d1⟩,?_⟩;refine⟨_,rfl,_,rfl,nZ c5 u.1.1 (by rw[ag];lia) (hN _ _ ⟨s5.put X _,?_,?_,rZ e (Tx C e) S v,_,_,?_,Zi,rfl⟩)⟩
   .rw[aM VP];exact e5
   .exact Paired.imp' (λa b h=>by rw[aM (cZ h c5 (by nofun))];exact h) Zu
   .rw[au,<-cU];unfold rZ Tx;rw[hk,hd]
    rfl
  .rintro o y ⟨s5,e5,Zu,S,v4,v5,c5,so,rfl⟩;refine g4 _ _ ?_;rw[ag,ql,aQ,dY,iC]at so;rw[O.done g R so]at c5;walk_at "";exact k lo y X s5 c5
abbrev vx(P w base)(T:Txt K L):=Cb P w K L base "standings" mf ["web","laying","wish","r"] 8 (yB T)
def Ao(T:Txt K L):Sp:=λk H Q E=>XC λ(p a b t:Addr)(c d:Bool)(m:Int)(l:hR)(j:ix)(g h:fc)(r:Int)=>k=[.ref p,.ref a,.ref b,.int r]/\θ T.Web H p m t l j/\Ω K c H a (g.map V.int)/\g.length<=1000/\Ω K d H b (h.map V.int)/\h.length<=1000/\(bA m g=true->bA m h=true->0<=r->r<m->∃f i,ζ m j r f i/\∀e,δ H e->Q (.int (Ϟ m j r f i (λv=>(lK m g h).getD v.toNat 0) (Tx j f) r)) e)/\(bA m g=false->∀e,δ H e->E (.ref T.BadLaying) none e)/\(bA m g=true->bA m h=false->∀e,δ H e->E (.ref T.BadWish) none e)/\(bA m g=true->bA m h=true->¬(0<=r/\r<m)->∀e,δ H e->E (.ref T.NoPlace) none e)
abbrev xA:Stmt:=top 47
def IP:ε ["web","laying","wish","r"] ["web","laying","wish","r"] (aA xA):=.of
def IQ(T:Txt K L)(Y:bI (τ P w))(M:vx P w base T):Ok P w K L base "standing" xA ["web","laying","wish","r"] 9 (Ao T):=λ_ _ D=>by
 refine D.F.Ϻ IP λX A j s H V Q E N h=>?_;obtain⟨p,a,b,t,c,d,m,S,I,G,q,r,rfl,W,O,C,v,u,k,g,y,J⟩:=h;refine⟨_,(ay (aY (jR bu (Ξ M N bT (aa (γ 0) (aa (γ 1) (aa (γ 2) (aa (γ 3) ap))))) (γ 3) (λ_ _=>rfl)))),?_⟩;walk_at "t";refine⟨p,a,b,t,c,d,m,S,I,G,q,r,rfl,W,O,C,v,u,λo z e n=>?_,g,y,J⟩;obtain⟨i,f,R,k⟩:=k o z e n;refine⟨i,f,R,λl B U x g=>?_⟩;refine Γ g (Ϲ e ?_) ?_
 .unfold oV;rw[ag,b6];lia
 .rw[ut e n];exact k B x
abbrev tp(P w base)(T:Txt K L):=Cb P w K L base "standing" xA ["web","laying","wish","r"] 9 (Ao T)
def Ft(T:Txt K L):Sp:=λk H Q E=>WZ λ(p a b t:Addr)(c d:Bool)(m:Int)(l:hR)(j:ix)(g h:fc)=>k=[.ref p,.ref a,.ref b]/\θ T.Web H p m t l j/\Ω K c H a (g.map V.int)/\g.length<=1000/\Ω K d H b (h.map V.int)/\h.length<=1000/\(bA m g=true->bA m h=true->∃f i,ζ m j 0 f i/\∀e,δ H e->Q (.bl (decide (0<=Ϟ m j 0 f i (λv=>(lK m g h).getD v.toNat 0) (Tx j f) 0))) e)/\(bA m g=false->∀e,δ H e->E (.ref T.BadLaying) none e)/\(bA m g=true->bA m h=false->∀e,δ H e->E (.ref T.BadWish) none e)
abbrev Bg:Stmt:=top 48
def Nr:ε ["web","laying","wish"] ["web","laying","wish"] (aA Bg):=.of
def MV(T:Txt K L)(O:bI (τ P w))(v:tp P w base T):Ok P w K L base "is_met" Bg ["web","laying","wish"] 10 (Ft T):=λ_ _ D=>by
 refine D.F.Ϻ Nr λN A g s H M Q E G h=>?_;obtain⟨p,a,b,t,c,d,m,J,B,y,l,rfl,W,I,x,o,j,k,q,r⟩:=h;have m1:=W.go.m1;refine⟨_,(ay (aY (jU zt (Ξ v G bT (aa (γ 0) (aa (γ 1) (aa (γ 2) (aa aD ap))))) aD (kY _)))),?_⟩;walk_at "t";refine⟨p,a,b,t,c,d,m,J,B,y,l,0,rfl,W,I,x,o,j,λi u _ _=>?_,q,r,λ_ _ z=>absurd ⟨bO _,by lia⟩ z⟩;obtain⟨f,e,R,k⟩:=k i u;exact⟨f,e,R,λC n=>⟨_,rfl,k C n⟩⟩
def LI{m:Int}{b:ix}{a:iv}{c:Int->Int->Nat}{e d:fc}{i:Nat}:wO m b a c e d (i+1)=wO m b a c e d i++[Ϟ m b i (a i) (c i) (λv=>(lK m e d).getD v.toNat 0) (Tx b (a i)) i]:=by
 unfold wO;rw[qG,aq]
 rfl
def Av(T:Txt K L):Sp:=λk H Q _=>E13 λ(p a b t:Addr)(c d:Bool)(m:Int)(n:hR)(g:ix)(f e:fc)(i:iv)(j:Int->Int->Nat)=>k=[.ref p,.ref a,.ref b]/\θ T.Web H p m t n g/\Ω K c H a (f.map V.int)/\bA m f=true/\Ω K d H b (e.map V.int)/\bA m e=true/\(∀r,0<=r->r<m->ζ m g r (i r) (j r))/\∀l h,H l=none->δ H h->h l=some (.tup (((wO m g i j f e m.toNat).map λx=>-x).map V.int))->Q (.ref l) h
abbrev sW:Stmt:=top 52
def IW:ε ["web","laying","wish"] ["web","laying","wish"] (aA sW):=.of
def zU:Ψ (aA sW) "range":=.of
def IX(T:Txt K L)(Y:bI (τ P w))(j:tp P w base T):Ok P w K L base "lacks_of" sW ["web","laying","wish"] 10 (Av T):=λ_ _ D=>by
 refine D.F.Ο IW λο A o s H vs Q E hr h=>?_;obtain⟨p,a,b,t,c,d,m,ps,R,M,u,C,S,rfl,W,ha,J,X,B,U,k⟩:=h;have g:=W.go;have Ζ:=g.Ζ;have m1:=g.m1;have xl:=iu J;have yl:=iu B;obtain⟨Z,ob⟩:=W.ob;refine⟨_,(ay (aY (iO gi T.tuple (aa (gG rfl (UU ["r","web","laying","wish"] 1 [0,1,2]) (kI zU.g T.range (aa (cu (Ϩ 0) rfl) ap)) (λ_ _ _ _=>(d6 (i:=0) (show(["r","web","laying","wish"]:hX).Nodup from by decide +kernel) rfl (Or.inl rfl))) (λ_ _ _ _=>gj) (λ_ _ _ _=>(lz jo (gD j.G (hr.mono (by decide)) (by rfl) j.D.m j.D.F.kp j.D.b .nil (d7 Y) (aa (pv 1) (aa (pv 2) (aa (pv 3) (aa (pv 0) ap)))))))) ap)))),?_⟩;walk_at "t";refine⟨T.Web,Z,_,ob,T.Ε,T.Λ,_,eT m t,m,rfl,by lia,by lia,λq y=>?_⟩;refine kj (λi f n e=>δ H e/\e q=some (.lst f)/\f=((wO m R C S M u i).map λx=>-x).map V.int/\∃v,n=[v,some (V.ref p),some (V.ref a),some (V.ref b)]) ⟨δ.new _ y,au,rfl,_,rfl⟩ ?_ ?_
 .rintro i f n e N hN hi ⟨s3,e3,rfl,v,rfl⟩;rw[ee];have O:(0:Int)<=(i:Int):=by lia
  have I:(i:Int)<m:=by lia
  walk_at "";refine⟨p,a,b,t,c,d,m,ps,R,M,u,(i:Int),rfl,W.same s3,δ.ϫ s3 ha,by lia,δ.ϫ s3 X,by lia,λ_ _ _ _=>⟨C i,S i,U i O I,λH4 r=>?_⟩,(λz=>by rw[J]at z;cases z),(λ_ z=>by rw[B]at z;cases z),λ_ _ z=>absurd ⟨O,I⟩ z⟩;refine⟨_,rfl,r _ _ e3,d8 (by rw[ag,ag,HG];lia),hN _ _ _ ⟨(s3.trans r).put y _,au,?_,_,rfl⟩⟩;rw[LI,aq,aq]
  rfl
 .rintro f n e ⟨s3,e3,rfl,v,rfl⟩;refine⟨q,rfl,_,.inl ⟨ι.of e3,λl nl=>?_⟩⟩;exact k l _ (s3.free nl) (s3.trans (δ.new _ nl)) au
def Ap(T:Txt K L):Sp:=λo H Q _=>E14 λ(p a b t:Addr)(c d:Bool)(m:Int)(q:hR)(g:ix)(j i:fc)(r:Int)(e:fz)(f:hB)=>o=[.ref p,.ref a,.ref b,.int r]/\θ T.Web H p m t q g/\Ω K c H a (j.map V.int)/\bA m j=true/\Ω K d H b (i.map V.int)/\bA m i=true/\(0<=r/\r<m)/\ζ m g r e f/\∀l n k h,eX m g r e f r=r::k->H l=none->δ H h->h l=some (.lst (n.map V.ref))->Δ h n (qI g e (iN m g r e f i j) k.reverse)->Order m r e k->Q (.ref l) h
abbrev xp:Stmt:=top 50
def Iu:ε ["web","laying","wish","r","over","steps","place","front","times"] ["web","laying","wish","r"] (aA xp):=.of
def IE(T:Txt K L)(U:bI (τ P w))(nR:AI P w base T)(dj:kQ P w base T)(jI:vx P w base T):Ok P w K L base "steps_in" xp ["web","laying","wish","r"] 9 (Ap T):=λ_ _ D=>by
 refine D.F.Ο Iu λο A ac s H vs Q E hr h=>?_;obtain⟨p,a,b,t,c,d,m,ps,j,xs,o,r,e,f,rfl,W,ha,fx,hb,fy,rr,R,k⟩:=h;obtain⟨r0,r1⟩:=rr;have g:=W.go;have Ζ:=g.Ζ;have xl:=iu fx;have yl:=iu fy;refine⟨_,(aw (Κ 4 (Θ jI hr U (aa (γ 0) (aa (γ 1) (aa (γ 2) (aa (γ 3) ap)))))) (aw (Κ 5 (eK ap)) (aw (gf PassesOwn.never rfl (iB (Θ dj hr U (aa (γ 0) (aa (γ 3) ap)))) (iH (n:=2) rfl (bQ (ϊ 6) (bQ (ϊ 7) fI))) (aw (Κ 8 (Θ nR hr U (aa (γ 0) (aa (ψ bu (γ 4) (γ 6)) (aa (γ 6) (aa (γ 7) ap)))))) (ay (bU (Ν wS (γ 8) aD) (ay (cI (TV (γ 5) (hV (aa (γ 6) (aa (γ 7) (aa (γ 8) ap))))))) bE)))) (ay (aY (γ 5)))))),?_⟩;walk_at "s";refine b9 λN1 g1=>?_;walk_at "";refine⟨p,a,b,t,c,d,m,ps,j,xs,o,r,rfl,W,ha,by lia,hb,by lia,λ_ _ _ _=>⟨e,f,R,λlc H1 nc s1 ec=>g1 _ _ (b9 λN2 g2=>?_)⟩,(λz=>by rw[fx]at z;cases z),(λ_ z=>by rw[fy]at z;cases z),λ_ _ z=>absurd ⟨r0,r1⟩ z⟩;clear g1;walk_at "";refine⟨bX (by simp),λC S=>g2 _ _ (b9 λN3 g3=>?_)⟩;clear g2;have s2:=δ.new (.lst []) S;have Yp:=s1.free S;have ϙ:=s1.trans s2;have Y:upd H1 C (.lst []) C=some (.lst []):=au;have Yq:=s2 _ _ ec;generalize upd H1 C (.lst [])=H2 at s2 ϙ Y Yq ⊢;walk_at "";refine⟨p,t,m,ps,j,r,?_⟩;refine Vl rfl (W.same ϙ) (λ_ _=>⟨e,f,R,λZ J I H3 et n2 s3 e3 pa O=>?_⟩) (λz=>absurd ⟨r0,r1⟩ z);refine⟨Z,rfl,⟨_,ι.of e3⟩,?_⟩;have ql:J.length=I.reverse.length:=Paired.length pa;have ll:=p8 g R r0 r1;rw[et,aO]at ll;have a0:Z≠C:=λz=>by rw[z,Y]at n2;cases n2
 have al:lc≠C:=λz=>by rw[<-z,ec]at S;cases S
 have T5:=ϙ.trans s3;refine jM (K:=K) (xs:=J.map V.ref) (λi M y=>δ H y/\y Z=some (.lst (J.map V.ref))/\y lc=some (.lst ((oV m j r e f (λv=>(lK m xs o).getD v.toNat 0) (Tx j e)).map V.int))/\ω y e J I.reverse/\E4 λ(G:hR)(v5 v6 v7:Option V)=>y C=some (.lst (G.map V.ref))/\Δ y G (qI j e (iN m j r e f o xs) (I.reverse.take i))/\M=[some (V.ref p),some (V.ref a),some (V.ref b),some (V.int r),some (V.ref lc),some (V.ref C),v5,v6,v7]) ⟨T5,e3,s3 _ _ Yq,pa,[],_,_,_,s3 _ _ Y,.nil,rfl⟩ (λi M y _ z=>ι.of z.2.1) ?_ ?_
 .rintro i x M y N BB ϒ hN hx ⟨s4,e4,c4,Vu,G,v5,v6,v7,u4,ba,rfl⟩;refine ϒ _ _ ?_;obtain⟨q,v,rfl,U,hv,eq⟩:=Vu.get hx;have vm:v∈I:=dN.mp (aP hv);obtain⟨l,X⟩:=O.places v vm;have u:=R.up v l.1 l.2 X;obtain⟨kk,hk,k0,k1⟩:=jB g R l.1 l.2 X;obtain⟨kd,hd,d0,d1⟩:=tP g R l.1 l.2 X;have ϭ:I.reverse.take (i+1)=I.reverse.take i++[v]:=by rw[bg,hv];rfl
  have ul:G.length=(qI j e (iN m j r e f o xs) (I.reverse.take i)).length:=Paired.length ba;have b1:G.length<=24:=by
   rw[ul];unfold qI;rw[ag];refine aW (bP _ _) ?_;rw[bq,aQ]
   lia
  walk_at "";refine⟨_,Α.of eq,rfl,_,_,rfl,_,_,rfl,rfl,?_⟩;refine Γ c4 (Ϲ l.1 (by unfold oV;rw[ag,b6];lia)) ?_;rw[ut l.1 l.2];refine⟨p,t,m,ps,j,_,v,e v,kk,kd,rfl,W.same s4,l,u.1,hk,hd,⟨k0,k1⟩,⟨d0,d1⟩,?_⟩;have eh:(if 0<=iN m j r e f o xs v then iN m j r e f o xs v/kk else iN m j r e f o xs v*kd)=Tx j e v (iN m j r e f o xs v):=by
   unfold Tx;rw[hk,hd]
   rfl
  rw[eh];refine⟨_,rfl,?_⟩;obtain⟨i1,i2⟩:=Ri g R (iN m j r e f o xs) l.1 l.2 X;by_cases z:0<Tx j e v (iN m j r e f o xs v)
  .rw[aj z,i1 z];rw[i1 z]at z;refine⟨S9 u4,bX (by simp),λq5 n5=>?_⟩;have B:=δ.new (.tup (Xx (Pw j e (iN m j r e f o xs) v))) n5;refine oN (B _ _ u4) (d8 (by rw[ag];lia)) (hN _ _ ⟨(s4.trans B).put Yp _,?_,?_,?_,G++[q5],_,_,_,?_,?_,rfl⟩)
   .rw[aM a0];exact B _ _ e4
   .rw[aM al];exact B _ _ c4
   .exact Paired.imp' (λa b h=>by rw[aM (cZ (B _ _ h) (B _ _ u4) (by nofun))];exact B _ _ h) Vu
   .rw[au,aq];rfl
   .have n5s:q5≠C:=λz=>by rw[z,u4]at n5;cases n5
    rw[ϭ,Ox (bo z)];refine zH (by rw[aM n5s,au];rfl) ?_;exact Paired.imp' (λa b h=>by rw[aM (cZ (B _ _ h) (B _ _ u4) (by nofun))];exact B _ _ h) ba
  .rw[ah z];exact hN _ _ ⟨s4,e4,c4,Vu,G,_,_,_,u4,by rw[ϭ,NY (by unfold Gk;rw[b4];exact i2 z)];exact ba,rfl⟩
 .rintro BB M y ϒ ⟨s4,e4,c4,Vu,G,v5,v6,v7,u4,ba,rfl⟩;refine ϒ _ _ (g3 _ _ ?_);rw[ag,ql,bC]at ba;walk_at "";exact k C G I y et Yp s4 u4 ba O
def y4(T:Txt K L):Sp:=λo H Q _=>E14 λ(p a b t:Addr)(c d:Bool)(m:Int)(q:hR)(g:ix)(j i:fc)(r:Int)(e:fz)(f:hB)=>o=[.ref p,.ref a,.ref b,.int r]/\θ T.Web H p m t q g/\Ω K c H a (j.map V.int)/\bA m j=true/\Ω K d H b (i.map V.int)/\bA m i=true/\(0<=r/\r<m)/\ζ m g r e f/\∀l n k h,eX m g r e f r=r::k->H l=none->δ H h->h l=some (.lst (n.map V.ref))->Δ h n (qR e (iN m g r e f i j) k)->Order m r e k->Q (.ref l) h
abbrev rV:Stmt:=top 51
def F4:ε ["web","laying","wish","r","over","steps","place","front"] ["web","laying","wish","r"] (aA rV):=.of
def wm:Ψ (aA rV) "reversed":=.of
def Gm(T:Txt K L)(hq:bI (τ P w))(dj:kQ P w base T)(jI:vx P w base T):Ok P w K L base "steps_out" rV ["web","laying","wish","r"] 9 (y4 T):=λ_ _ D=>by
 refine D.F.Ο F4 λο A Z s H vs Q E hr h=>?_;obtain⟨p,a,b,t,c,d,m,ps,j,xs,C,r,e,f,rfl,W,ha,fx,hb,fy,rr,R,k⟩:=h;obtain⟨r0,Y⟩:=rr;have g:=W.go;have Ζ:=g.Ζ;have xl:=iu fx;have yl:=iu fy;refine⟨_,(aw (Κ 4 (Θ jI hr hq (aa (γ 0) (aa (γ 1) (aa (γ 2) (aa (γ 3) ap)))))) (aw (Κ 5 (eK ap)) (aw (gf PassesOwn.never rfl (uc wm.g T.reversed (Θ dj hr hq (aa (γ 0) (aa (γ 3) ap)))) (iH (n:=2) rfl (bQ (ϊ 6) (bQ (ϊ 7) fI))) (ay (bU (Ν uM (ψ bu (γ 4) (γ 6)) aD) (ay (cI (TV (γ 5) (hV (aa (γ 7) (aa (γ 6) (aa (lz jo (ψ bu (γ 4) (γ 6))) ap))))))) bE))) (ay (aY (γ 5)))))),?_⟩;walk_at "t";refine⟨p,a,b,t,c,d,m,ps,j,xs,C,r,rfl,W,ha,by lia,hb,by lia,λ_ _ _ _=>⟨e,f,R,λlc H1 nc s1 ec=>⟨bX (by simp),λu J=>?_⟩⟩,(λz=>by rw[fx]at z;cases z),(λ_ z=>by rw[fy]at z;cases z),λ_ _ z=>absurd ⟨r0,Y⟩ z⟩;have s2:=δ.new (.lst []) J;have Yp:=s1.free J;have ϙ:=s1.trans s2;have S:upd H1 u (.lst []) u=some (.lst []):=au;have Yq:=s2 _ _ ec;generalize upd H1 u (.lst [])=H2 at s2 ϙ S Yq ⊢;refine⟨p,t,m,ps,j,r,?_⟩;refine Vl rfl (W.same ϙ) (λ_ _=>⟨e,f,R,λU G B H3 et n2 s3 e3 pa O=>?_⟩) (λz=>absurd ⟨r0,Y⟩ z);have ql:G.length=B.reverse.length:=Paired.length pa;rw[aQ]at ql;have ll:=p8 g R r0 Y;rw[et,aO]at ll;have am:U≠u:=λz=>by rw[z,S]at n2;cases n2
 have ad:lc≠u:=λz=>by rw[<-z,ec]at J;cases J
 have T5:=ϙ.trans s3;refine⟨U,rfl,_,ι.of e3,?_⟩;refine qY (K:=K) (xs:=G.map V.ref) (λi I l=>δ H l/\l U=some (.lst (G.map V.ref))/\l lc=some (.lst ((oV m j r e f (λv=>(lK m xs C).getD v.toNat 0) (Tx j e)).map V.int))/\ω l e G B.reverse/\E3 λ(y:hR)(v5 v6:Option V)=>l u=some (.lst (y.map V.ref))/\Δ l y (qR e (iN m j r e f C xs) (B.take i))/\I=[some (V.ref p),some (V.ref a),some (V.ref b),some (V.int r),some (V.ref lc),some (V.ref u),v5,v6]) ⟨T5,e3,s3 _ _ Yq,pa,[],_,_,s3 _ _ S,.nil,rfl⟩ (λi I l _ z=>ι.of z.2.1) ?_ ?_
 .rintro i x I l N hN hx ⟨s4,e4,c4,Vu,y,v5,v6,u4,ba,rfl⟩;have il:=(ax.mp hx).1;rw[aQ,ag]at il;rw[cw (by rw[ag];exact il),ag]at hx;obtain⟨q,v,rfl,Ti,X,eq⟩:=Vu.get hx;rw[cw (by lia),show B.length-1-(G.length-1-i)=i by lia]at X;have vm:=aP X;have M:=O.ϓ v vm;have ϭ:B.take (i+1)=B.take i++[v]:=by rw[bg,X];rfl
  have ul:y.length=(qR e (iN m j r e f C xs) (B.take i)).length:=Paired.length ba;have bt:y.length<=24:=by
   rw[ul];unfold qR;rw[ag];refine aW (bP _ _) ?_;rw[bq]
   lia
  have gv:ϳ ((oV m j r e f (λv=>(lK m xs C).getD v.toNat 0) (Tx j e)).map V.int) v=some (V.int (iN m j r e f C xs v)):=by
   rw[Ϲ M.1 (by unfold oV;rw[ag,b6];lia),ut M.1 M.2]
  walk_at "";refine⟨_,Α.of eq,rfl,_,_,rfl,_,_,rfl,rfl,?_⟩;refine Γ c4 gv ⟨_,rfl,?_⟩;by_cases z:iN m j r e f C xs v<0
  .rw[aj z];refine⟨S9 u4,Γ c4 gv ⟨_,rfl,bX (by simp),λq5 n5=>?_⟩⟩;have o:=δ.new (.tup (Xx (NC e (iN m j r e f C xs) v))) n5;refine oN (o _ _ u4) (d8 (by rw[ag];lia)) (hN _ _ ⟨(s4.trans o).put Yp _,?_,?_,?_,y++[q5],_,_,?_,?_,rfl⟩)
   .rw[aM am];exact o _ _ e4
   .rw[aM ad];exact o _ _ c4
   .exact Paired.imp' (λa b h=>by rw[aM (cZ (o _ _ h) (o _ _ u4) (by nofun))];exact o _ _ h) Vu
   .rw[au,aq];rfl
   .have n5s:q5≠u:=λz=>by rw[z,u4]at n5;cases n5
    rw[ϭ,OF (bo z)];refine zH (by rw[aM n5s,au];rfl) ?_;exact Paired.imp' (λa b h=>by rw[aM (cZ (o _ _ h) (o _ _ u4) (by nofun))];exact o _ _ h) ba
  .rw[ah z];exact hN _ _ ⟨s4,e4,c4,Vu,y,_,_,u4,by rw[ϭ,PU (by unfold Ip;rw[b4];exact z)];exact ba,rfl⟩
 .rintro I l ⟨s4,e4,c4,Vu,y,v5,v6,u4,ba,rfl⟩;rw[ag,ql,bC]at ba;walk_at "";exact k u y B l et Yp s4 u4 ba O
def Dm(T:Txt K L):Sp:=λq H Q E=>WZ λ(p a b t:Addr)(c d:Bool)(m:Int)(s:hR)(i:ix)(g h:fc)=>q=[.ref p,.ref a,.ref b]/\θ T.Web H p m t s i/\Ω K c H a (g.map V.int)/\g.length<=1000/\Ω K d H b (h.map V.int)/\h.length<=1000/\(bA m g=true->bA m h=true->∃f j,(∀r,0<=r->r<m->ζ m i r (f r) (j r))/\(0<=iN m i 0 (f 0) (j 0) h g 0->∀l n o k e,eX m i 0 (f 0) (j 0) 0=0::k->Order m 0 (f 0) k->H n=none->H l=none->δ H e->e l=some (.tup [.str "steps",.ref n])->e n=some (.lst (o.map V.ref))->Δ e o (qI i (f 0) (iN m i 0 (f 0) (j 0) h g) k.reverse++qR (f 0) (iN m i 0 (f 0) (j 0) h g) k)->Q (.ref l) e)/\(¬0<=iN m i 0 (f 0) (j 0) h g 0->∀l lt e,H lt=none->H l=none->δ H e->e l=some (.tup [.str "lack",.ref lt])->e lt=some (.tup (((wO m i f j g h m.toNat).map λx=>-x).map V.int))->Q (.ref l) e))/\(bA m g=false->∀e,δ H e->E (.ref T.BadLaying) none e)/\(bA m g=true->bA m h=false->∀e,δ H e->E (.ref T.BadWish) none e)
abbrev yO:Stmt:=top 49
def Kj:ε ["web","laying","wish"] ["web","laying","wish"] (aA yO):=.of
def Ly(T:Txt K L)(hq:bI (τ P w))(Bm:Cb P w K L base "is_met" Bg ["web","laying","wish"] 10 (Ft T))(xi:Cb P w K L base "lacks_of" sW ["web","laying","wish"] 10 (Av T))(xh:Cb P w K L base "steps_in" xp ["web","laying","wish","r"] 9 (Ap T))(vo:Cb P w K L base "steps_out" rV ["web","laying","wish","r"] 9 (y4 T)):Ok P w K L base "meeting" yO ["web","laying","wish"] 11 (Dm T):=λ_ _ D=>by
 refine D.F.Ϻ Kj λο A M s H vs Q E u h=>?_;obtain⟨p,a,b,t,c,d,m,v,o,n,q,rfl,W,G,hz,x,hy,k,e1,e2⟩:=h;have m1:=W.go.m1;have Ζ:=W.go.Ζ;have g:=W.go;refine⟨_,(aw (bU (lL (Ξ Bm u bT (aa (γ 0) (aa (γ 1) (aa (γ 2) ap))))) (ay (aY (hV (aa bH (aa (aX Ir (Ξ xh u bT (aa (γ 0) (aa (γ 1) (aa (γ 2) (aa aD ap))))) (Ξ vo u bT (aa (γ 0) (aa (γ 1) (aa (γ 2) (aa aD ap)))))) ap))))) bE) (ay (aY (hV (aa bH (aa (Ξ xi u bT (aa (γ 0) (aa (γ 1) (aa (γ 2) ap)))) ap)))))),?_⟩;walk_at "t";refine⟨p,a,b,t,c,d,m,v,o,n,q,rfl,W,G,hz,x,hy,λI y=>?_,e1,e2⟩;obtain⟨i,l,RR,k1,k2⟩:=k I y;have r:=RR 0 (bO _) (by lia);refine⟨i 0,l 0,r,λH1 e=>⟨_,rfl,?_⟩⟩;by_cases z:0<=iN m o 0 (i 0) (l 0) q n 0
 .rw[aj (bo z)];refine⟨p,a,b,t,c,d,m,v,o,n,q,0,i 0,l 0,rfl,W.same e,δ.ϫ e G,I,δ.ϫ e x,y,⟨bO _,by lia⟩,r,λl1 U tl H2 et n1 C N Zw O=>?_⟩;have B:=e.trans C;refine⟨p,a,b,t,c,d,m,v,o,n,q,0,i 0,l 0,rfl,W.same B,δ.ϫ B G,I,δ.ϫ B x,y,⟨bO _,by lia⟩,r,λJ X Xb H3 ϭ n2 Z h3 UQ _=>?_⟩;have R:Xb=tl:=by rw[et]at ϭ;cases ϭ;rfl
  subst R;have ll:=p8 g r (bO _) (by lia);rw[et,aO]at ll;have b1:U.length<=24:=by
   rw[Paired.length Zw];unfold qI;rw[ag];refine aW (bP _ _) ?_;rw[aQ]
   lia
  have b2:X.length<=24:=by
   rw[Paired.length UQ];unfold qR;rw[ag];refine aW (bP _ _) ?_
   lia
  have T5:=B.trans Z;refine Oe (Z _ _ N) h3 (bX (by rw[ag,ag];lia)) λl3 n3=>⟨bX (by simp),λS j=>?_⟩;have Y:=δ.new (.lst (U.map V.ref++X.map V.ref)) n3;have f:=δ.new (.tup [V.str (Str.ofString "steps"),V.ref l3]) j;have Zh:=T5.free n3;have ad:=(T5.trans Y).free j;refine k1 z S l3 (U++X) Xb _ et O Zh ad (T5.trans (Y.trans f)) au (by rw[f _ _ au,aq]) (Δ.same (Y.trans f) ?_);exact Nb UQ (Δ.same Z Zw)
 .rw[ah (by rw[b4];exact z)];refine⟨p,a,b,t,c,d,m,v,o,n,q,i,l,rfl,W.same e,δ.ϫ e G,I,δ.ϫ e x,y,RR,λJ H2 n2 C N=>⟨bX (by simp),λS j=>?_⟩⟩;have f:=δ.new (.tup [V.str (Str.ofString "lack"),V.ref J]) j;exact k2 z S J _ (e.free n2) ((e.trans C).free j) (e.trans (C.trans f)) au (f _ _ N)
abbrev Fk(P w base)(T:Txt K L):=Cb P w K L base "meeting" yO ["web","laying","wish"] 11 (Dm T)
def vQ(T:Txt K L):Sp:=λb H Q _=>∃z:Int,b=[.int z]/\Bt z/\∀a,δ H a->Q (.str (tI z)) a
abbrev lI:Stmt:=top 84
def DT:ε ["number","pieces"] ["number"] (aA lI):=.of
def iw:Ψ (aA lI) "PIECE":=.of
def mF:Ψ (aA lI) "PIECE_FIGURES":=.of
def uB:Ψ (aA lI) "reversed":=.of
def DA(T:Txt K L)(B:bI (τ P w)):Ok P w K L base "number_text" lI ["number"] 1 (vQ T):=λ_ _ D=>by
 refine D.F.Ο DT λx A i s H v Q E G h=>?_;obtain⟨z,rfl,nb,k⟩:=h;refine⟨_,(aw (Κ 1 (eK ap)) (aw (t9 PassesOwn.never (Ν zt (γ 0) (oU iw.g T.Ul (hd:=iw.d))) (aw (cI (TV (γ 1) (sU PySem.F.plainAttrs_str PySem.F.slot_str_zfill PySem.F.type_str_zfill NF (iO gO T.str (aa (aX eE (γ 0) (oU iw.g T.Ul (hd:=iw.d))) ap)) (aa (oU mF.g T.Te (hd:=mF.d)) ap)))) (ay (Κ 0 (aX Gv (γ 0) (oU iw.g T.Ul (hd:=iw.d))))))) (aw (cI (TV (γ 1) (iO gO T.str (aa (γ 0) ap)))) (ay (aY (PH rfl uB.g T.reversed (γ 1))))))),?_⟩;walk_at "s";refine b9 λC m=>?_;walk_at "";refine⟨bX (by simp),λl nl=>m _ _ (b9 λI u=>?_)⟩;refine Dw (λk j t=>∃q:Int,k=q.toNat/\∃b,t=upd H l (.lst (b.map V.str))/\Np z q b/\j=[some (V.int q),some (V.ref l)]) z.toNat ⟨z,rfl,[],rfl,.start nb,rfl⟩ ?_;rintro _ j _ N y n o r ⟨q,rfl,b,rfl,a,rfl⟩;have f:=a.cnt;have f:(b.map V.str).length<sizeLine:=d8 (by rw[ag];lia);refine n _ _ _ ?_;walk_at "";by_cases c:(1000000000000000000:Int)<=q
 .rw[aj c];obtain⟨p,e⟩:=a.step c;refine⟨N,r,S9 au,by decide,p,by simp[VW],_,rfl,by decide,oN au f ⟨⟨by decide,by decide⟩,o _ _ _ (by lia) ⟨_,rfl,_,?_,e,rfl⟩⟩⟩;rw[aq];exact mN
 .rw[ah c];refine u _ _ ?_;walk_at "";refine⟨S9 au,a.big.log,oN au f ⟨b++[tI q],?_,a.sum,?_⟩⟩
  .rw[mN,aq];exact ι.of au
  .rw[show Str.ofString ""=("":Str)from rfl,a.done];refine k _ ?_;rw[mN];exact δ.new _ nl
abbrev pX(P w base)(T:Txt K L):=Cb P w K L base "number_text" lI ["number"] 1 (vQ T)
def u8(T:Txt K L):Sp:=λe H Q _=>E3 λ(a:Addr)(c:Bool)(b:fc)=>e=[.ref a]/\VY c H a (b.map V.int)/\b.length<=100/\(∀z∈b,Bt z)/\∀d,δ H d->Q (.str (VD b)) d
abbrev qX:Stmt:=top 85
def Dh:ε ["numbers"] ["numbers"] (aA qX):=.of
def Dq(T:Txt K L)(u:bI (τ P w))(g:pX P w base T):Ok P w K L base "numbers_text" qX ["numbers"] 2 (u8 T):=λ_ _ D=>by
 refine D.F.Ο Dh λM A o s H J Q E y h=>?_;obtain⟨a,c,j,rfl,t,B,nb,k⟩:=h;refine⟨_,(ay (aY (sU PySem.F.plainAttrs_str PySem.F.slot_str_join PySem.F.type_str_join zm bH (aa (gG rfl (l9 (Nc:=["number"]) 1 (by decide +kernel) (by decide +kernel) rfl (by decide +kernel) rfl) (wu c (γ 0)) (λ_ _ _ _=>(d6 (i:=0) (show(["number"]:hX).Nodup from by decide +kernel) rfl (Or.inl rfl))) (λ_ _ _ _=>gj) (λ_ _ _ _=>(gD g.G (y.mono (by decide)) (by rfl) g.D.m g.D.F.kp g.D.b .nil (d7 u) (aa (pv 0) ap)))) ap)))),?_⟩;walk_at "t";refine⟨by simp[VW],⟨_,t.sq⟩,λp r=>?_⟩;refine me (K:=K) (xs:=j.map V.int) (λi d f e=>δ H e/\e p=some (.lst d)/\d=((j.take i).map tI).map V.str/\∃v,f=[v]) ⟨δ.new _ r,au,rfl,_,rfl⟩ (λi d f e _ ⟨z,_⟩=>δ.ϫ z t.sq) ?_ ?_
 .rintro i x d f e N hN hi ⟨s2,h2,rfl,v,rfl⟩;obtain⟨n,l,rfl⟩:=List.μ hi;have I:i<j.length:=(ax.mp l).1;walk_at "";refine⟨n,rfl,nb n (aP l),λC q=>⟨q _ _ h2,d8 (by rw[ag,ag,bq];lia),hN _ _ _ ⟨(s2.trans q).put r _,au,?_,_,rfl⟩⟩⟩;rw[bg,l,aq,aq]
  rfl
 .rintro d f e ⟨s2,h2,rfl,v,rfl⟩;rw[ag,bC]at h2;exact⟨_,p,_,rfl,rfl,ι.of h2,LJ nb B,k _ s2⟩
abbrev o0(P w base)(T:Txt K L):=Cb P w K L base "numbers_text" qX ["numbers"] 2 (u8 T)
def xD(T:Txt K L):Sp:=λe H Q _=>E4 λ(a:Addr)(c:Bool)(as:hR)(b:List ϻ)=>e=[.ref a]/\VY c H a (as.map V.ref)/\Δ H as b/\b.length<=200/\(∀s∈b,Ye s)/\∀d,δ H d->Q (.str (XD b)) d
abbrev tV:Stmt:=top 86
def FD:ε ["steps"] ["steps"] (aA tV):=.of
def FL(T:Txt K L)(I:bI (τ P w))(j:o0 P w base T):Ok P w K L base "steps_text" tV ["steps"] 3 (xD T):=λ_ _ D=>by
 refine D.F.Ο FD λW A t s H U Q E J h=>?_;obtain⟨a,c,as,o,rfl,l,e,M,nb,k⟩:=h;refine⟨_,(aw (bU (Ν cN (TB gP T.len (aa (γ 0) ap)) aD) (ay (aY bH)) bE) (ay (aY (sU PySem.F.plainAttrs_str PySem.F.slot_str_join PySem.F.type_str_join zm bH (aa (gG rfl (l9 (Nc:=["step"]) 1 (by decide +kernel) (by decide +kernel) rfl (by decide +kernel) rfl) (wu c (γ 0)) (λ_ _ _ _=>(d6 (i:=0) (show(["step"]:hX).Nodup from by decide +kernel) rfl (Or.inl rfl))) (λ_ _ _ _=>gj) (λ_ _ _ _=>(gD j.G (J.mono (by decide)) (by rfl) j.D.m j.D.F.kp j.D.b .nil (d7 I) (aa (pv 0) ap)))) ap))))),?_⟩;walk_at "t";have y:as.length=o.length:=Paired.length e;refine⟨as.map V.ref,by cases c;exact .inr (Α.of l);exact .inl (ι.of l),?_⟩;rw[ag];unfold XD at k;by_cases r:((as.length:Nat):Int)=0
 .rw[aj (lM.mp (by lia))]at k;rw[aj r];exact k H (δ.refl _)
 .rw[ah λz=>r (by rw[y,z];rfl)]at k;rw[ah r];refine⟨by simp[VW],⟨_,l.sq⟩,λp B=>?_⟩;refine me (K:=K) (xs:=as.map V.ref) (λi d g f=>δ H f/\f p=some (.lst d)/\d=((o.take i).map V1).map V.str/\∃v,g=[v]) ⟨δ.new _ B,au,rfl,_,rfl⟩ (λi d g f _ ⟨z,_⟩=>δ.ϫ z l.sq) ?_ ?_
  .rintro i x d g f N hN hi ⟨s2,h2,rfl,v,rfl⟩;obtain⟨q,s,rfl,S,n,C⟩:=Ed e hi;have R:i<o.length:=(ax.mp n).1;walk_at "";refine⟨q,false,[s.1,s.2.1,s.2.2],rfl,s2 _ _ C,ir rfl,nb s (aP n),λO u=>⟨u _ _ h2,d8 (by rw[ag,ag,bq];lia),hN _ _ _ ⟨(s2.trans u).put B _,au,?_,_,rfl⟩⟩⟩;rw[bg,n,aq,aq]
   rfl
  .rintro d g f ⟨s2,h2,rfl,v,rfl⟩;rw[ag,y,bC]at h2;exact⟨_,p,_,rfl,rfl,ι.of h2,Nm nb M,k _ s2⟩
abbrev yf(P w base)(T:Txt K L):=Cb P w K L base "steps_text" tV ["steps"] 3 (xD T)
def uE(T:Txt K L):Sp:=λf H Q _=>E3 λ(p a:Addr)(w:Str)=>f=[.ref p]/\H p=some (.tup [.str w,.ref a])/\((∃(e:hR)(d:List ϻ),w="steps"/\H a=some (.lst (e.map V.ref))/\Δ H e d/\d.length<=48/\(∀s∈d,Ye s)/\∀b,δ H b->Q (.str (Str.ofString "steps " ++ XD d)) b)\/∃c:List Int,w="lack"/\H a=some (.tup (c.map V.int))/\c.length<=24/\(∀z∈c,Bt z)/\∀b,δ H b->Q (.str (Str.ofString "lack " ++ VD c)) b)
abbrev q9:Stmt:=top 113
def Dl:ε ["found"] ["found"] (aA q9):=.of
def Ce(T:Txt K L)(g:bI (τ P w))(m:o0 P w base T)(j:yf P w base T):Ok P w K L base "meeting_text" q9 ["found"] 4 (uE T):=λ_ _ D=>by
 refine D.F.Ο Dl λo A f s H n Q E i h=>?_;obtain⟨p,a,w,rfl,e,h⟩:=h;refine⟨_,(aw (bU (Ν cN (ψ eM (γ 0) aD) bH) (ay (aY (aX gK bH (Θ j i g (aa (ψ eM (γ 0) aD) ap))))) bE) (ay (aY (aX gK bH (Θ m i g (aa (ψ eM (γ 0) aD) ap)))))),?_⟩;walk_at "t";refine Et (Α.of e) rfl ?_;rcases h with⟨qs,ss,rfl,ha,st,l,b,k⟩|⟨zs,rfl,ha,l,b,k⟩
 .rw[aj rfl];have:=JD b l;exact⟨rfl,Et (Α.of e) rfl ⟨a,true,qs,ss,rfl,ha,st,by lia,b,λd c=>⟨_,rfl,_,rfl,bX (by rw[show(Str.ofString "steps ").length=6 from rfl];lia),k d c⟩⟩⟩
 .rw[ah (Ϣ (by decide))];have:=zw b;exact⟨rfl,Et (Α.of e) rfl ⟨a,false,zs,rfl,ha,by lia,b,λd c=>⟨_,rfl,_,rfl,bX (by rw[show(Str.ofString "lack ").length=5 from rfl];lia),k d c⟩⟩⟩
def Jx(T:Txt K L):Sp:=λh H Q E=>E9 λ(p a t:Addr)(c:Bool)(m:Int)(i:hR)(g:ix)(e:fc)(r:Int)=>h=[.ref p,.ref a,.int r]/\θ T.Web H p m t i g/\Ω K c H a (e.map V.int)/\e.length<=1000/\(bA m e=true->0<=r->r<m->∃d f,ζ m g r d f/\∀b,δ H b->Q (.int (Ϟ m g r d f (λv=>e.getD v.toNat 0) (ϯ g d) r)) b)/\(bA m e=false->∀b,δ H b->E (.ref T.BadLaying) none b)/\(bA m e=true->¬(0<=r/\r<m)->∀b,δ H b->E (.ref T.NoPlace) none b)
abbrev G6:Stmt:=top 67
def Q3:ε ["web","laying","r"] ["web","laying","r"] (aA G6):=.of
def Qj(T:Txt K L)(N:bI (τ P w))(z:Ck P w base T):Ok P w K L base "most" G6 ["web","laying","r"] 9 (Jx T):=λ_ _ D=>by
 refine D.F.Ϻ Q3 λM A g s H J Q E B h=>?_;obtain⟨p,a,t,c,m,G,y,v,r,rfl,W,C,u,k,e,x⟩:=h;refine⟨_,(ay (aY (jR bu (Ξ z B bT (aa (γ 0) (aa (γ 1) (aa (γ 2) ap)))) (γ 2) (λ_ _=>rfl)))),?_⟩;walk_at "t";refine⟨p,a,t,c,m,G,y,v,r,?_⟩;refine an7 rfl W C u (λj b i=>?_) e x;obtain⟨f,d,R,k⟩:=k j b i;refine⟨f,d,R,λl q I n o=>?_⟩;refine Γ o (Ϲ b ?_) ?_
 .unfold oV;rw[ag,b6];lia
 .rw[ut b i];exact k q n
abbrev Mh(P w base)(T:Txt K L):=Cb P w K L base "most" G6 ["web","laying","r"] 9 (Jx T)
def ui(T:Txt K L):Sp:=λb H Q _=>∃z:Int,b=[.int z]/\Bt z/\∀a,δ H a->Q (.str (tI z)) a
abbrev qK:Stmt:=top 112
def Bw:ε ["number"] ["number"] (aA qK):=.of
def BH(T:Txt K L)(e:bI (τ P w))(d:pX P w base T):Ok P w K L base "standing_text" qK ["number"] 2 (ui T):=λ_ _ D=>by
 refine D.F.Ο Bw λl A b s H j Q E f h=>?_;obtain⟨z,rfl,nb,k⟩:=h;refine⟨_,(aw (bU (Ν uM (γ 0) aD) (ay (aY (aX gK bH (Θ d f e (aa (lz jo (γ 0)) ap))))) bE) (ay (aY (Θ d f e (aa (γ 0) ap))))),?_⟩;walk_at "t";by_cases c:z<0
 .rw[aj c];have a:Bt (-z):=by show(-z).natAbs<_;rw[Int.natAbs_neg];exact nb
  refine⟨-z,rfl,a,λi g=>⟨_,rfl,_,rfl,?_,?_⟩⟩
  .have:=CG a;exact bX (by rw[show(Str.ofString "-").length=1 from rfl];lia)
  .rw[MX c];exact k i g
 .rw[ah c];exact⟨z,rfl,nb,k⟩
def uD(T:Txt K L):Sp:=λa H Q E=>E7 λ(p t:Addr)(m:Int)(c:hR)(b:ix)(r x:Int)=>a=[.ref p,.int r,.int x]/\θ T.Web H p m t c b/\(0<=r->r<m->1<=x->Q .ξ H)/\(¬(0<=r/\r<m)->E (.ref T.NoPlace) none H)/\(0<=r->r<m->x<1->E (.ref T.BadWish) none H)
abbrev pi:Stmt:=top 72
def BX:ε ["web","r","wanted"] ["web","r","wanted"] (aA pi):=.of
def pG:Ψ (aA pi) "BadWish":=.of
def Dp(T:Txt K L)(u:bI (τ P w))(f:lF P w base T):Ok P w K L base "check_wanted" pi ["web","r","wanted"] 3 (uD T):=λ_ _ D=>by
 refine D.F.Ϻ BX λq A a s H o Q E l h=>?_;obtain⟨p,t,m,n,j,r,x,rfl,W,k,e,i⟩:=h;refine⟨_,(aw (cI (Ξ f l bT (aa (γ 0) (aa (γ 1) ap)))) (ay (bU (Ν uM (γ 2) aD) (ay (qZ T.TZ rfl tK pG.g T.S3 (aa bH ap) (hdb:=pG.d))) bE))),?_⟩;walk_at "t";refine⟨p,t,m,n,j,r,rfl,W,λb c=>?_,e⟩;show if x<1 then _ else _;by_cases z:x<1
 .rw[aj z];exact⟨by decide,i b c z⟩
 .rw[ah z];exact k b c (by lia)
abbrev rL(P w base)(T:Txt K L):=Cb P w K L base "check_wanted" pi ["web","r","wanted"] 3 (uD T)
def AG(T:Txt K L):Sp:=λh H Q E=>E10 λ(p b t:Addr)(c:Bool)(m:Int)(i:hR)(f:ix)(d:fc)(r w:Int)=>h=[.ref p,.int r,.int w,.ref b]/\θ T.Web H p m t i f/\Ω K c H b (d.map V.int)/\(d.length:Int)=m/\(∀x∈d,x.natAbs<2^4000)/\(w-1).natAbs<2^4000/\(0<=r->r<m->1<=w->∃a e,ζ m f r a e/\∀g,δ H g->Q (.int (UJ m f r a d w)) g)/\(¬(0<=r/\r<m)->E (.ref T.NoPlace) none H)/\(0<=r->r<m->w<1->E (.ref T.BadWish) none H)
abbrev sZ:Stmt:=top 71
def AA:ε ["web","r","wanted","weights","bound","place","front"] ["web","r","wanted","weights"] (aA sZ):=.of
def zS:Ug (aA sZ) "bound":=.of (by kernel_rfl)
def IA(T:Txt K L)(hq:bI (τ P w))(iA:rL P w base T)(dj:kQ P w base T)(di:mC P w base T):Ok P w K L base "bound_by" sZ ["web","r","wanted","weights"] 8 (AG T):=λ_ _ D=>by
 refine D.F.Ϻ AA λο A U s H vs Q E S h=>?_;obtain⟨p,b,t,c,m,X,o,xs,r,w,rfl,W,Y,xl,xb,wb,k,e,e'⟩:=h;have g:=W.go;refine⟨_,(aw (cI (Ξ iA S bT (aa (γ 0) (aa (γ 1) (aa (γ 2) ap))))) (aw (Κ 4 (aX tJ (ψ (Cn c) (γ 3) (γ 1)) (aX jp (γ 2) aD))) (aw (gf PassesOwn.leaving rfl (iB (Ξ dj S bT (aa (γ 0) (aa (γ 1) ap)))) (iH (n:=2) rfl (bQ (ϊ 5) (bQ (ϊ 6) fI))) (ay (MO (i:=4) AA.nd rfl (Or.inl zS.l) (aX j6 (ψ (Cn c) (γ 3) (γ 5)) (aX jp (Ξ di S bT (aa (γ 0) (aa (γ 5) (aa (γ 6) ap)))) aD)) sB))) (ay (aY (γ 4)))))),?_⟩;walk_at "t";refine⟨p,t,m,X,o,r,w,rfl,W,λy r1 w1=>?_,e,e'⟩;obtain⟨a,B,R,k⟩:=k y r1 w1;have gr:=Ϲ (xs:=xs) y (by lia);have hm:=QX (cs:=xs) (i:=r.toNat) (by lia);refine ixX Y gr ⟨_,rfl,Ru (xb _ hm) wb,?_⟩;refine⟨p,t,m,X,o,r,?_⟩;refine Vl rfl W (λ_ _=>⟨a,B,R,λl2 qs tl H2 _ n2 I Z pa O=>?_⟩) (λz=>absurd ⟨y,r1⟩ z);refine⟨l2,rfl,⟨_,ι.of Z⟩,?_⟩;have ql:qs.length=tl.reverse.length:=Paired.length pa;refine jM (K:=K) (xs:=qs.map V.ref) (λi j f=>f=H2/\∃(G C:Option V),j=[some (V.ref p),some (V.int r),some (V.int w),some (V.ref b),some (V.int (xs.getD r.toNat 0*(w-1)+((tl.reverse.take i).map (X9 o a xs)).sum)),G,C]) ⟨rfl,_,_,by rw[dU,cH,List.sum_nil,Int.add_zero]⟩ (λi j f _ z=>by rw[z.1];exact ι.of Z) ?_ ?_
 .rintro i x j f N BB ϒ hN hx ⟨rfl,G,C,rfl⟩;refine ϒ _ _ ?_;obtain⟨q,v,rfl,hq,hv,eq⟩:=pa.get hx;have J:=dN.mp (aP hv);have d:=O.ϓ v J;have u:=R.up v d.1 d.2 (O.ne J);obtain⟨kk,M,k0,k1⟩:=jB g R d.1 d.2 (O.ne J);walk_at "";refine⟨_,Α.of eq,rfl,_,_,rfl,_,_,rfl,rfl,?_⟩;refine ixX (δ.ϫ I Y) (Ϲ d.1 (by lia)) ?_;refine⟨p,t,m,X,o,v,a v,rfl,W.same I,λk' _ _ _ _ h=>?_,λz=>absurd ⟨d,u.1⟩ z,λ_ _ _ _ z=>by rw[M]at z;cases z⟩;rw[M]at h;cases h;refine⟨_,rfl,_,rfl,.inr ⟨by lia,by lia⟩,hN _ _ ⟨rfl,some (V.int v),some (V.int (a v)),?_⟩⟩;rw[Pc hv];unfold X9;rw[M,Int.add_assoc]
  rfl
 .rintro BB j f ϒ ⟨rfl,G,C,rfl⟩;refine ϒ _ _ ?_;rw[ag,ql,bC,eB,List.sum_reverse,O.sums];walk_at "";exact k _ I
def ES(T:Txt K L):Sp:=λe H Q E=>E7 λ(p t:Addr)(m:Int)(f:hR)(d:ix)(r w:Int)=>e=[.ref p,.int r,.int w]/\θ T.Web H p m t f d/\w<=10^60/\-(10^60)<=w/\(0<=r->r<m->1<=w->∃b c,ζ m d r b c/\∀a,δ H a->Q (.int (UJ m d r b (ic m d r b c) w+1)) a)/\(¬(0<=r/\r<m)->∀a,δ H a->E (.ref T.NoPlace) none a)/\(0<=r->r<m->w<1->∀a,δ H a->E (.ref T.BadWish) none a)
abbrev AX:Stmt:=top 74
def MK:ε ["web","r","wanted"] ["web","r","wanted"] (aA AX):=.of
def Mn(T:Txt K L)(O:bI (τ P w))(x:Cb P w K L base "bound_by" sZ ["web","r","wanted","weights"] 8 (AG T))(y:qJ P w base T):Ok P w K L base "enough" AX ["web","r","wanted"] 9 (ES T):=λ_ _ D=>by
 refine D.F.Ϻ MK λN A n s H M Q E v h=>?_;obtain⟨p,t,m,o,a,r,w,rfl,W,B,J,k,e,I⟩:=h;have g:=W.go;have m1:=g.m1;refine⟨_,(ay (aY (aX gc (Ξ x v bT (aa (γ 0) (aa (γ 1) (aa (γ 2) (aa (Ξ y v bT (aa (γ 0) (aa (γ 1) ap))) ap))))) aD))),?_⟩;walk_at "t";refine⟨p,t,m,o,a,r,rfl,W,λb d=>?_,e⟩;have q:(w-1).natAbs<2^4000:=KS J B;by_cases f:1<=w
 .obtain⟨par,dep,R,k⟩:=k b d f;refine⟨par,dep,R,λl u nl c i=>?_⟩;have j:((ic m a r par dep).length:Int)=m:=by rw[tG];lia
  exact⟨p,l,t,true,m,o,a,ic m a r par dep,r,w,rfl,W.same c,ι.of i,j,ED g R,q,λ_ _ _=>⟨par,dep,R,λC G=>⟨_,rfl,k C (c.trans G)⟩⟩,λz=>absurd ⟨b,d⟩ z,λ_ _ z=>absurd f (by lia)⟩
 .obtain⟨par,dep,R⟩:=sy g b d;refine⟨par,dep,R,λl u nl c i=>?_⟩;have j:((ic m a r par dep).length:Int)=m:=by rw[tG];lia
  exact⟨p,l,t,true,m,o,a,ic m a r par dep,r,w,rfl,W.same c,ι.of i,j,ED g R,q,λ_ _ z=>absurd z f,λz=>absurd ⟨b,d⟩ z,λ_ _ z=>I b d z u c⟩
abbrev BI(P w base)(T:Txt K L):=Cb P w K L base "enough" AX ["web","r","wanted"] 9 (ES T)
def B6(T:Txt K L):Sp:=λe H Q E=>E7 λ(p t:Addr)(m:Int)(g:hR)(c:ix)(w:Int)(f:fz)=>e=[.ref p,.int w]/\θ T.Web H p m t g c/\w<=10^60/\1<=w/\(∀r,0<=r->r<m->∃a b,ζ m c r a b/\UJ m c r a (ic m c r a b) w+1=f r)/\∀l y j d,H l=none->δ H d->d l=some (.tup [.int y,.int j])->VB ((b7 m.toNat).map f) y j->Q (.ref l) d
abbrev sv:Stmt:=top 78
def CY:ε ["web","wanted","numbers","greatest"] ["web","wanted"] (aA sv):=.of
def y7:Ug (aA sv) "numbers":=.of (by kernel_rfl)
def AQ:Ψ (aA sv) "range":=.of
def KP(T:Txt K L)(Y:bI (τ P w))(d:BI P w base T):Ok P w K L base "hardest" sv ["web","wanted"] 10 (B6 T):=λ_ _ D=>by
 refine D.F.Ϻ CY λο A r s H vs Q E hr h=>?_;obtain⟨p,t,m,ps,Z,w,f,rfl,W,U,w1,O,k⟩:=h;have g:=W.go;have m1:=g.m1;have Ζ:=g.Ζ;obtain⟨dx,ob⟩:=W.ob;refine⟨_,(aw (tj (i:=2) CY.nd rfl y7.l rfl (UU ["r","web","wanted"] 1 [0,1]) (kI AQ.g T.range (aa (cu (Ϩ 0) rfl) ap)) (λ_ _ _ _=>(d6 (i:=0) (show(["r","web","wanted"]:hX).Nodup from by decide +kernel) rfl (Or.inl rfl))) (λ_ _ _ _=>gj) (λ_ _ _ _=>(gD d.G (hr.mono (by decide)) (by rfl) d.D.m d.D.F.kp d.D.b .nil (d7 Y) (aa (pv 1) (aa (pv 0) (aa (pv 2) ap)))))) (aw (Κ 3 (TB (ML rfl) T.max (aa (γ 2) ap))) (ay (aY (hV (aa (γ 3) (aa (sU dv PySem.F.slot_list_index PySem.F.type_list_index Pz (γ 2) (aa (γ 3) ap)) ap))))))),?_⟩;walk_at "t";refine⟨T.Web,dx,_,ob,T.Ε,T.Λ,_,eT m t,m,rfl,by lia,by lia,λlo I=>?_⟩;refine kj (λi c e a=>δ H a/\a lo=some (.lst c)/\c=((b7 i).map f).map V.int/\∃v,e=[v,some (V.ref p),some (V.int w)]) ⟨δ.new _ I,au,rfl,_,rfl⟩ ?_ ?_
 .rintro i c e a N hN hi ⟨s3,e3,rfl,v,rfl⟩;rw[ee];obtain⟨o,n,R,S⟩:=O (i:Int) (by lia) (by lia);walk_at "";refine⟨p,t,m,ps,Z,(i:Int),w,rfl,W.same s3,U,by lia,λ_ _ _=>⟨o,n,R,λH4 x=>⟨x _ _ e3,d8 (by rw[ag,ag,b6];lia),hN _ _ _ ⟨(s3.trans x).put I _,au,?_,_,rfl⟩⟩⟩,λz=>absurd ⟨by lia,by lia⟩ z,λ_ _ z=>absurd z (by lia)⟩;rw[qG,aq,aq,S]
  rfl
 .rintro c e a ⟨s3,e3,rfl,v,rfl⟩;walk_at "";have C:((b7 m.toNat).map f).length=m.toNat:=by rw[ag,b6]
  have ne:(b7 m.toNat).map f≠[]:=λz=>by rw[z]at C;simp at C;lia
  exact⟨(b7 m.toNat).map f,ι.of e3,ne,λy B M=>⟨S9 e3,lo,(b7 m.toNat).map f,y,rfl,rfl,e3,B,by lia,λj X J=>⟨bX (by simp),λq u=>k q y j _ (s3.free u) (s3.trans (δ.new _ u)) au ⟨B,M,j,rfl,X,J⟩⟩⟩⟩
abbrev Fi(P w base)(T:Txt K L):=Cb P w K L base "hardest" sv ["web","wanted"] 10 (B6 T)
def HN(T:Txt K L):Sp:=λg H Q E=>E7 λ(p t:Addr)(m:Int)(h:hR)(c:ix)(r w:Int)=>g=[.ref p,.int r,.int w]/\θ T.Web H p m t h c/\(0<=r->r<m->1<=w->∃a b,ζ m c r a b/\∀f d l e,eX m c r a b r=r::d->Order m r a d->To m c r a (S7 m c r a b d) w f->H l=none->δ H e->e l=some (.tup (((b7 m.toNat).map (lies (S7 m c r a b d) f)).map V.int))->Q (.ref l) e)/\(¬(0<=r/\r<m)->E (.ref T.NoPlace) none H)/\(0<=r->r<m->w<1->E (.ref T.BadWish) none H)
abbrev rC:Stmt:=top 75
def AW:ε ["web","r","wanted","chosen","counts","place","front","given"] ["web","r","wanted"] (aA rC):=.of
def CK:VX (aA rC) "chosen":=.of (by kernel_rfl)
def Dc:VX (aA rC) "counts":=.of (by kernel_rfl)
def zW:Ψ (aA rC) "reversed":=.of
def DP:Ψ (aA rC) "range":=.of
def Od(T:Txt K L)(hq:bI (τ P w))(qc:Fu P w base T)(iA:rL P w base T)(dj:kQ P w base T)(di:mC P w base T):Ok P w K L base "worst" rC ["web","r","wanted"] 10 (HN T):=λ_ _ D=>by
 refine D.F.Ϻ AW λο A a6 s H vs Q E hr h=>?_;obtain⟨p,t,m,ps,B,r,w,rfl,W,k,e,e'⟩:=h;have g:=W.go;have m1:=g.m1;have Ζ:=g.Ζ;obtain⟨dx,ob⟩:=W.ob;refine⟨_,(aw (cI (Ξ iA hr bT (aa (γ 0) (aa (γ 1) (aa (γ 2) ap))))) (aw (sx (i:=3) AW.nd rfl (Or.inr CK.l) (Ξ qc hr bT (aa (γ 0) (aa (γ 1) ap)))) (aw (sx (i:=4) AW.nd rfl (Or.inr Dc.l) (aX oO (eK (aa aD ap)) (cu (γ 0) rfl))) (aw (jv (aX jp (γ 2) aD) (nD (Ϩ 4) (γ 1) gI)) (aw (gf PassesOwn.leaving rfl (uc zW.g T.reversed (Ξ dj hr bT (aa (γ 0) (aa (γ 1) ap)))) (iH (n:=2) rfl (bQ (ϊ 5) (bQ (ϊ 6) fI))) (aw (Κ 7 (Hu (Ν cN (ψ bu (Ϩ 3) (γ 6)) (γ 5)) (ψ bu (Ϩ 4) (γ 6)) aD)) (ay (jv (aX jp (aX j6 (aX gc (γ 7) aD) (Ξ di hr bT (aa (γ 0) (aa (γ 5) (aa (γ 6) ap))))) aD) (nD (Ϩ 4) (γ 5) gI))))) (ay (aY (iO gi T.tuple (aa (gG rfl (UU ["place","counts","chosen"] 1 [4,3]) (kI DP.g T.range (aa (cu (γ 0) rfl) ap)) (λ_ _ _ _=>(d6 (i:=0) (show(["place","counts","chosen"]:hX).Nodup from by decide +kernel) rfl (Or.inl rfl))) (λ_ _ _ _=>gj) (λ_ _ _ _=>(Hu (Dn (MJ (ψ (oW K rfl) (pv 2) (pv 0)))) (ψ (oW K rfl) (pv 1) (pv 0)) aD))) ap))))))))),?_⟩;walk_at "s";refine b9 λN1 h1=>?_;walk_at "";refine⟨p,t,m,ps,B,r,w,rfl,W,λr0 r1 w1=>?_,e,e'⟩;obtain⟨c,I,R,k⟩:=k r0 r1 w1;refine h1 _ _ (b9 λN2 h2=>?_);clear h1;walk_at "";refine⟨p,t,m,ps,B,r,rfl,W,λ_ _=>⟨c,I,R,λU J H0 et O nc s0 ec=>?_⟩,λz=>absurd ⟨r0,r1⟩ z⟩;refine h2 _ _ (b9 λN3 h3=>?_);clear h2;walk_at "";generalize Vv:S7 m B r c I U=ch at ec k;refine⟨bX (by simp),λl0 n0=>?_⟩;have s1:=δ.new (.lst [V.int 0]) n0;refine⟨T.Web,dx,_,s1 _ _ (s0 _ _ ob),T.Ε,T.Λ,_,eT m t,?_⟩;refine⟨l0,m,_,rfl,rfl,au,by lia,by lia,bX (by simp;lia),λl n1=>?_⟩;rw[FY];refine h3 _ _ (b9 λN4 h4=>?_);clear h3;have s2:=s1.trans (δ.new (.lst (List.replicate m.toNat (V.int 0))) n1);have nl:=(s0.trans s1).free n1;have af:J≠l:=λz=>by rw[<-z,s1 _ _ ec]at n1;cases n1
 have e1:upd (upd H0 l0 (.lst [V.int 0])) l (.lst (List.replicate m.toNat (V.int 0))) l=some (.lst ((List.replicate m.toNat (0:Int)).map V.int)):=by rw[au,hG]
 generalize upd (upd H0 l0 (.lst [V.int 0])) l (.lst (List.replicate m.toNat (V.int 0)))=H1 at s2 e1 ⊢;walk_at "";refine nZ e1 r0 (by rw[ag,b8];lia) ?_;rw[<-cU];refine h4 _ _ (b9 λN5 h5=>?_);clear h4;have st:Y6 m B r c ch w [] ((List.replicate m.toNat (0:Int)).set r.toNat (w-1)):=⟨by rw[bN,b8];lia,by rw[Be _ _ _ _ (by rw[b8];lia),aj rfl],λv Y=>by cases Y⟩;have Uo:=(s0.trans s2).put nl (.lst (((List.replicate m.toNat (0:Int)).set r.toNat (w-1)).map V.int));have e3:upd H1 l (.lst (((List.replicate m.toNat (0:Int)).set r.toNat (w-1)).map V.int)) l=some (.lst (((List.replicate m.toNat (0:Int)).set r.toNat (w-1)).map V.int)):=au;have ab:upd H1 l (.lst (((List.replicate m.toNat (0:Int)).set r.toNat (w-1)).map V.int)) J=some (.lst (Vm m ch)):=by rw[aM af];exact s2 _ _ ec
 generalize upd H1 l (.lst (((List.replicate m.toNat (0:Int)).set r.toNat (w-1)).map V.int))=H3 at Uo e3 ab ⊢;generalize (List.replicate m.toNat (0:Int)).set r.toNat (w-1)=a9 at st e3;walk_at "";refine⟨p,t,m,ps,B,r,?_⟩;refine Vl rfl (W.same Uo) (λ_ _=>⟨c,I,R,λl2 Z dH H4 o n2 s4 e4 pa _=>?_⟩) (λz=>absurd ⟨r0,r1⟩ z);rw[et]at o;injection o with _ o
 subst o;have VP:l2≠l:=λz=>by rw[z,e3]at n2;cases n2
 have ql:Z.length=U.reverse.length:=Paired.length pa;rw[aQ]at ql;refine⟨l2,rfl,_,ι.of e4,?_⟩;refine qY (K:=K) (xs:=Z.map V.ref) (λi C j=>δ H j/\j J=some (.lst (Vm m ch))/\j l2=some (.lst (Z.map V.ref))/\ω j c Z U.reverse/\E4 λ(f:fc)(v5 v6 M:Option V)=>j l=some (.lst (f.map V.int))/\Y6 m B r c ch w (U.take i) f/\C=[some (V.ref p),some (V.int r),some (V.int w),some (V.ref J),some (V.ref l),v5,v6,M]) ⟨Uo.trans s4,s4 _ _ ab,e4,pa,a9,_,_,_,s4 _ _ e3,by rw[dU];exact st,rfl⟩ (λi C j _ z=>ι.of z.2.2.1) ?_ ?_
 .rintro i x C j N hN hx ⟨s5,ec5,e5,Zu,f,v5,v6,M,c5,S,rfl⟩;have il:=(ax.mp hx).1;rw[aQ,ag]at il;rw[cw (by rw[ag];exact il),ag]at hx;obtain⟨q,v,rfl,Ti,Y,eq⟩:=Zu.get hx;rw[cw (by lia),show U.length-1-(Z.length-1-i)=i by lia]at Y;have vm:=aP Y;have G:=O.ϓ v vm;have vn:=O.ne vm;have u:=R.up v G.1 G.2 vn;obtain⟨kk,hk,k0,k1⟩:=jB g R G.1 G.2 vn;have ek:tup B c v=kk:=by unfold tup;rw[hk];rfl
  have sl:=S.len;walk_at "";refine⟨_,Α.of eq,rfl,_,_,rfl,_,_,rfl,rfl,?_⟩;have sc:uh (Va (ch (c v))) (V.int v)=true:=by cases ch (c v)<;>rfl
  have d:∀(gv:Int)(M:Option V),gv=(if ch (c v)=some v then f.getD (c v).toNat 0 else 0)->Wf (V.ref l) (V.int v) (V.int ((gv+1)*kk-1)) j λH3=>N [some (V.ref p),some (V.int r),some (V.int w),some (V.ref J),some (V.ref l),some (V.int v),some (V.int (c v)),M] H3:=λgv M hg=>by
   refine nZ c5 G.1 (by rw[ag];lia) (hN _ _ ⟨s5.put nl _,by rw[aM af];exact ec5,by rw[aM VP];exact e5,Paired.imp' (λa b h=>by rw[aM (cZ h c5 (by nofun))];exact h) Zu,_,_,_,_,by rw[au,<-cU],S.step R O r0 Y (by rw[ek,hg]),rfl⟩)
  refine Γ ec5 (DI u.1.1 u.1.2) ⟨sc,?_⟩;by_cases z:ch (c v)=some v
  .rw[z]at d ⊢;refine TF (show Va (some v)=V.int v from rfl) ?_;refine Γ c5 (Ϲ u.1.1 (by lia)) ⟨_,rfl,p,t,m,ps,B,v,c v,rfl,W.same s5,λk' _ _ _ _ h=>?_,λz=>absurd ⟨G,u.1⟩ z,λ_ _ _ _ z=>by rw[hk]at z;cases z⟩;rw[hk]at h;cases h;exact⟨_,rfl,.inr ⟨by lia,by lia⟩,d _ _ (by rw[aj rfl])⟩
  .rw[ah (λy=>z (by cases e:ch (c v)with|none=>rw[e]at y;cases y|some b=>rw[e]at y;cases y;rfl))];refine⟨p,t,m,ps,B,v,c v,rfl,W.same s5,λk' _ _ _ _ h=>?_,λz=>absurd ⟨G,u.1⟩ z,λ_ _ _ _ z=>by rw[hk]at z;cases z⟩;rw[hk]at h;cases h;exact⟨_,rfl,.inr ⟨by lia,by lia⟩,d 0 _ (by rw[ah z])⟩
 .rintro C j ⟨s5,ec5,e5,Zu,f,v5,v6,M,c5,S,rfl⟩;refine h5 _ _ ?_;rw[ag,ql,bC]at S;have N:=S.done O;have sl:=S.len;have W5:=W.same s5;obtain⟨a0,a1⟩:=W5.ob;walk_at "";refine⟨T.Web,a0,_,a1,T.Ε,T.Λ,_,eT m t,m,rfl,by lia,by lia,λpc T4=>?_⟩;refine kj (λi zs C X=>δ j X/\X pc=some (.lst zs)/\zs=((b7 i).map (lies ch λv=>f.getD v.toNat 0)).map V.int/\∃v,C=[v,some (V.ref l),some (V.ref J)]) ⟨δ.new _ T4,au,rfl,_,rfl⟩ ?_ ?_
  .rintro i zs C X N2 hN hi ⟨s6,e6,rfl,v,rfl⟩;rw[ee];have i0:(0:Int)<=(i:Int):=(by lia);have i1:(i:Int)<m:=(by lia);walk_at "";refine Γ (s6 _ _ ec5) (DI i0 i1) ?_;have d:∀y:Int,y=lies ch (λv=>f.getD v.toNat 0) (i:Int)->X pc=some (.lst (((b7 i).map (lies ch λv=>f.getD v.toNat 0)).map V.int))/\(((b7 i).map (lies ch λv=>f.getD v.toNat 0)).map V.int).length<sizeLine/\N2 (((b7 i).map (lies ch λv=>f.getD v.toNat 0)).map V.int++[V.int y]) [some (V.int (i:Int)),some (V.ref l),some (V.ref J)] (upd X pc (.lst (((b7 i).map (lies ch λv=>f.getD v.toNat 0)).map V.int++[V.int y]))):=λy hy=>by
    refine⟨e6,d8 (by rw[ag,ag,b6];lia),hN _ _ _ ⟨s6.put T4 _,au,?_,_,rfl⟩⟩;rw[qG,aq,aq,hy]
    rfl
   cases e:ch (i:Int)with
   | none=>
     rw[aj (show Va none=V.ξ from rfl)];exact Γ (s6 _ _ c5) (Ϲ i0 (by lia)) (d _ (by unfold lies;rw[aj e]))
   | some b=>
     rw[ah (show ¬Va (some b)=V.ξ from by intro z;cases z)];exact d 0 (by unfold lies;rw[ah (by rw[e];intro z;cases z)])
  .rintro zs C X ⟨s6,e6,rfl,v,rfl⟩;refine⟨pc,rfl,_,.inl ⟨ι.of e6,λlr nr=>?_⟩⟩;have ac:=s5.trans s6;exact k _ U lr _ et O (by rw[Vv];exact N) (ac.free nr) (ac.trans (δ.new _ nr)) (by rw[au,Vv])
abbrev Ka(P w base)(T:Txt K L):=Cb P w K L base "worst" rC ["web","r","wanted"] 10 (HN T)
def xG(T:Txt K L):Sp:=λf H Q _=>E7 λ(p t:Addr)(m:Int)(g:hR)(c:ix)(r:Int)(n:Nat)=>f=[.ref p,.int r,.int (n+1:Nat)]/\θ T.Web H p m t g c/\(0<=r/\r<m)/\n+1<=2^4000/\∃a b,ζ m c r a b/\∀d e,Order m r a d->eX m c r a b r=r::d->δ H e->Q (.int (V2 m c r a b d r n)) e
abbrev qu:Stmt:=top 97
def FI:ε ["web","r","wanted"] ["web","r","wanted"] (aA qu):=.of
def qV:Ψ (aA qu) "Tally":=.of
def Fv(T:Txt K L)(B:bI (τ P w))(N:Cm P w K L base (Mk K T.Tally) "__init__" "Tally.__init__" kO ["self","web","r"] 10 (sO T))(iA:rL P w base T)(qk:EG P w base T):Ok P w K L base "worst_many" qu ["web","r","wanted"] 12 (xG T):=λ_ _ D=>by
 refine D.F.Ο FI λο A v s H vs Q E hr h=>?_;obtain⟨p,t,m,U,l,r,n,rfl,W,f,nb,a,i,R,k⟩:=h;have g:=W.go;refine⟨_,(aw (cI (Θ iA hr B (aa (γ 0) (aa (γ 1) (aa (γ 2) ap))))) (ay (aY (Θ qk hr B (aa (vX N.M N.G (hr.mono (by decide)) qV.g T.XE N.b .nil (d7 B) (aa (γ 0) (aa (γ 1) ap)) (hdb:=qV.d)) (aa (γ 1) (aa (aX jp (γ 2) aD) ap))))))),?_⟩;walk_at "t";refine⟨p,t,m,U,l,r,((n+1:Nat):Int),rfl,W,λ_ _ _=>?_,λz=>absurd f z,λ_ _ z=>absurd z (by lia)⟩;dsimp only;intro x q V y ne;have u:upd H q (.own x) x=none:=by rw[aM ne.symm];exact V
 have S:δ H (upd (upd H q (.own x)) x (.ins T.Tally q [])):=(δ.new _ y).trans (δ.new _ u);refine⟨x,q,p,t,m,U,l,r,rfl,au,W.same S,f,a,i,R,λI ld lw lb lk lr kl rv H2 TA kp=>⟨rfl,?_⟩⟩;have s2:δ H H2:=λb o e=>kp b o (S b o e) (cD e V);obtain⟨_,lp,aT,h1,h2,Y,O⟩:=TA.ϵ r f;obtain⟨sr,X⟩:=G7 (kd m l r a r);rw[X]at O;obtain⟨J,ob⟩:=TA.ob;have V1:=wA (fr:=Wv m l r a i I) (be:=Ww m l r a i I) (c:=cK l a) g R f.1 f.2;have e1:((n+1:Nat):Int)-1=(n:Int):=by lia
 have e4:(2:Nat)^4000<=2^4000:=aJ _;cases O with
 | cons e he=>
   obtain⟨cs,c1,Z⟩:=e;have C:=Z.le (b':=15000) (C9 (by have:=rG g R f.1 f.2;have:=CA g R f.1 f.2;have:=g.Ζ;lia));have cl:=C.len;rw[e1];refine⟨x,J,lr,lp,_,_,rv,_,r,cs,n,rfl,ob,vI _ _ _ _ _ _,TA.hr,f.1,h1,Y,c1,by lia,sk (k:=4000) (by lia) (by decide),λc hc=>sk (C.bt c hc) (by decide),λj hj=>Kc (x:=4000) nb (by lia),λH3 s3=>?_⟩;rw[C.val];have:=k I H3 TA.or TA.et (s2.trans s3);unfold V2 at this;rw[V1]at this;exact this
abbrev yh(P w base)(T:Txt K L):=Cb P w K L base "worst_many" qu ["web","r","wanted"] 12 (xG T)
def wj(T:Txt K L):Sp:=λf H Q _=>E9 λ(p t c:Addr)(m:Int)(g:hR)(e:ix)(w:Str)(d:List Nat)(a:Str)=>f=[.ref p,.str w,.ref c]/\θ T.Web H p m t g e/\H c=some (.lst (Yb d))/\iS m e w d a/\∀b,δ H b->Q (.str a) b
abbrev sJ:Stmt:=top 111
def Dx:ε ["web","word","numbers"] ["web","word","numbers"] (aA sJ):=.of
def DL(T:Txt K L)(c:bI (τ P w))(V:BI P w base T)(X:Fi P w base T)(M:pX P w base T)(O:o0 P w base T)(U:Ka P w base T)(Y:yh P w base T):Ok P w K L base "told_of_web" sJ ["web","word","numbers"] 13 (wj T):=λ_ _ D=>by
 refine D.F.Ο Dx λο A J s H vs Q E d h=>?_;obtain⟨p,t,ln,m,G,C,w,ns,a,rfl,W,u,r,k⟩:=h;refine⟨_,(aw (bU (Ν cN (γ 1) bH) (ay (aY (Θ M d c (aa (Θ V d c (aa (γ 0) (aa (ψ bu (γ 2) aD) (aa (ψ bu (γ 2) aD) ap)))) ap)))) bE) (aw (bU (Ν cN (γ 1) bH) (ay (aY (Θ O d c (aa (Θ X d c (aa (γ 0) (aa (ψ bu (γ 2) aD) ap))) ap)))) bE) (aw (bU (Ν cN (γ 1) bH) (ay (aY (Θ O d c (aa (Θ U d c (aa (γ 0) (aa (ψ bu (γ 2) aD) (aa (ψ bu (γ 2) aD) ap)))) ap)))) bE) (ay (aY (Θ M d c (aa (Θ Y d c (aa (γ 0) (aa (ψ bu (γ 2) aD) (aa (ψ bu (γ 2) aD) ap)))) ap))))))),?_⟩;walk_at "t"
 induction r with
 | @enough v w par dep h w1 w2 R b=>
   rw[aj rfl];exact Γ u rfl (Γ u rfl ⟨p,t,m,G,C,v,w,rfl,W,by lia,by lia,λ_ _ _=>⟨par,dep,R,λI g=>⟨_,rfl,b,λi o=>k i (g.trans o)⟩⟩,λz=>absurd ⟨by lia,h⟩ z,λ_ _ z=>absurd z (by lia)⟩)
 | @hardest w f zs w1 w2 hf hz l b=>
   rw[ah (Ϣ (by decide)),aj rfl];exact Γ u rfl ⟨p,t,m,G,C,w,f,rfl,W,by lia,by lia,hf,λq y j I _ g e B=>by
    have:=hz y j B;subst this;exact⟨q,false,[y,j],rfl,e,by lia,b,λi o=>k i (g.trans o)⟩⟩
 | @worst v w par dep tl zs h w1 w2 R et hz l b=>
   rw[ah (Ϣ (by decide)),ah (Ϣ (by decide)),aj rfl];exact Γ u rfl (Γ u rfl ⟨p,t,m,G,C,v,w,rfl,W,λ_ _ _=>⟨par,dep,R,λS Z q I x _ N _ g e=>by
    rw[et]at x;cases x;have:=hz S N;subst this;exact⟨q,false,_,rfl,e,by lia,b,λi o=>k i (g.trans o)⟩⟩,λz=>absurd ⟨by lia,h⟩ z,λ_ _ z=>absurd z (by lia)⟩)
 | @many v w par dep tl h w1 w2 R et b=>
   rw[ah (Ϣ (by decide)),ah (Ϣ (by decide)),ah (Ϣ (by decide))];obtain⟨n,rfl⟩:∃n,w=n+1:=⟨w-1,by lia⟩;exact Γ u rfl (Γ u rfl ⟨p,t,m,G,C,v,n,rfl,W,⟨by lia,h⟩,Qa w2,par,dep,R,λZ I _ x g=>by
    rw[et]at x;cases x;exact⟨_,rfl,b,λi o=>k i (g.trans o)⟩⟩)
def uS(T:Txt K L):Sp:=λf H Q E=>E13 λ(o g h t c:Addr)(m:Int)(j:hR)(e:ix)(i:List (List Int×List Int))(s:List Int×List Int)(w:Str)(d:List Nat)(r:Sum Str Nat)=>f=[.ref o,.str w,.ref c]/\π T.Web T.Desk H o g h m t j e (i++[s])/\bA m s.1=true/\bA m s.2=true/\H c=some (.lst (Yb d))/\Ln m e s.1 s.2 w d r/\(∀a,r=.inl a->∀b,δ H b->Q (.str a) b)/\(r=.inr 4->∀x b,δ H b->E (.ref T.NoWorst) x b)
abbrev rM:Stmt:=top 110
def B8:ε ["desk","word","numbers"] ["desk","word","numbers"] (aA rM):=.of
def Ch(T:Txt K L)(hq:bI (τ P w))(f:nI P w base T)(i:pN P w base T)(rD:Gi P w base T)(tD:Jo P w base T)(pC:Eo P w base T)(qm:Fk P w base T)(qW:Cb P w K L base "meeting_text" q9 ["found"] 4 (uE T))(wq:Mh P w base T)(dX:pX P w base T)(dz:o0 P w base T)(gL:tp P w base T)(qH:Cb P w K L base "standing_text" qK ["number"] 2 (ui T))(mz:yf P w base T)(sE:Cb P w K L base "told_of_web" sJ ["web","word","numbers"] 13 (wj T)):Ok P w K L base "told_of_desk" rM ["desk","word","numbers"] 61 (uS T):=λ_ _ D=>by
 refine D.F.Ϻ B8 λο A ae s H vs Q E c h=>?_;obtain⟨o,u,pl,t,ln,m,B,y,ς,s,w,ns,r,rfl,O,S,J,Z,r,k,e4⟩:=h;have g:=O.web.go;refine⟨_,(aw (bU (Ν cN (γ 1) bH) (ay (aY (Ξ dz c bT (aa (gu (γ 0) T.η f.M f.G (c.mono (by decide)) f.b .nil bT) ap)))) bE) (aw (bU (Ν cN (γ 1) bH) (ay (aY (Ξ dz c bT (aa (gu (γ 0) T.η i.M i.G (c.mono (by decide)) i.b .nil bT) ap)))) bE) (aw (bU (Ν cN (γ 1) bH) (ay (aY (Ξ dX c bT (aa (Ξ wq c bT (aa (cu (γ 0) rfl) (aa (gu (γ 0) T.η f.M f.G (c.mono (by decide)) f.b .nil bT) (aa (ψ bu (γ 2) aD) ap)))) ap)))) bE) (aw (bU (Ν cN (γ 1) bH) (ay (aY (Ξ mz c bT (aa (Ξ tD c bT (aa (cu (γ 0) rfl) (aa (gu (γ 0) T.η f.M f.G (c.mono (by decide)) f.b .nil bT) (aa (ψ bu (γ 2) aD) ap)))) ap)))) bE) (aw (bU (Ν cN (γ 1) bH) (ay (aY (Ξ qH c bT (aa (Ξ gL c bT (aa (cu (γ 0) rfl) (aa (gu (γ 0) T.η f.M f.G (c.mono (by decide)) f.b .nil bT) (aa (gu (γ 0) T.η i.M i.G (c.mono (by decide)) i.b .nil bT) (aa (ψ bu (γ 2) aD) ap))))) ap)))) bE) (aw (bU (Ν cN (γ 1) bH) (ay (aY (Ξ qW c bT (aa (Ξ qm c bT (aa (cu (γ 0) rfl) (aa (gu (γ 0) T.η f.M f.G (c.mono (by decide)) f.b .nil bT) (aa (gu (γ 0) T.η i.M i.G (c.mono (by decide)) i.b .nil bT) ap)))) ap)))) bE) (aw (bU (Ν cN (γ 1) bH) (ay (aY (Ξ dX c bT (aa (Ξ rD c bT (aa (cu (γ 0) rfl) (aa (gu (γ 0) T.η i.M i.G (c.mono (by decide)) i.b .nil bT) ap))) ap)))) bE) (aw (bU (Ν cN (γ 1) bH) (ay (aY (Ξ dz c bT (aa (Ξ pC c bT (aa (cu (γ 0) rfl) (aa (gu (γ 0) T.η i.M i.G (c.mono (by decide)) i.b .nil bT) ap))) ap)))) bE) (ay (aY (Ξ sE c bT (aa (cu (γ 0) rfl) (aa (γ 1) (aa (γ 2) ap)))))))))))))),?_⟩;walk_at "s";have Ζ:=g.Ζ;have xl:=iu S;have yl:=iu J;have x:∀{P:Prop}{z:fc},bA m z=true->bA m z=false->P:=λa b=>by rw[a]at b;cases b
 walk_at "";have U:∀{R:V->Hp->Prop},(∀a,H a=some (.tup (s.1.map V.int))->R (.ref a) H)->rK T [.ref o] H R E:=λh=>⟨o,u,pl,t,m,B,y,ς,s,rfl,O,h⟩;have I:∀{R:V->Hp->Prop},(∀a,H a=some (.tup (s.2.map V.int))->R (.ref a) H)->uq T [.ref o] H R E:=λh=>⟨o,u,pl,t,m,B,y,ς,s,rfl,O,h⟩;rcases r with⟨r,n0⟩|⟨a,rfl,r⟩
 .induction r with
  | laying l b=>
    refine TF rfl ?_;exact O.Τ (U λa d=>⟨a,false,_,rfl,d,by lia,b,k _ rfl⟩)
  | wish l b=>
    refine As (Ϣ (by decide)) (TF rfl ?_);exact O.Τ (I λa d=>⟨a,false,_,rfl,d,by lia,b,k _ rfl⟩)
  | @most v par dep h R b=>
    repeat refine As (Ϣ (by decide)) ?_
    refine TF rfl ?_;exact O.V3 T.η T.χ (O.Τ (U λa d=>Γ Z rfl ⟨u,a,t,false,m,B,y,s.1,v,rfl,O.web,Α.of d,by lia,λ_ _ _=>⟨par,dep,R,λC e=>⟨_,rfl,b,λj n=>k _ rfl j (e.trans n)⟩⟩,x S,λ_ z=>absurd ⟨by lia,h⟩ z⟩))
  | Ws h=>exact absurd rfl n0
  | @bring v par dep tl ss h R et es l b=>
    repeat refine As (Ϣ (by decide)) ?_
    refine TF rfl ?_;refine O.V3 T.η T.χ (O.Τ (U λa d=>Γ Z rfl ⟨u,a,t,false,m,B,y,s.1,v,rfl,O.web,Α.of d,by lia,λ_ _ _=>⟨par,dep,R,λp qs Xb C Y n1 e N ba _=>?_⟩,x S,λ_ z=>absurd ⟨by lia,h⟩ z⟩));rw[et]at Y;cases Y;subst es;exact⟨p,true,qs,_,rfl,N,GN ba,by lia,b,λj n=>k _ rfl j (e.trans n)⟩
  | Vb h=>exact absurd rfl n0
  | @stands v par dep h R b=>
    repeat refine As (Ϣ (by decide)) ?_
    refine TF rfl ?_;exact O.V3 T.η T.χ (O.Τ (U λa d=>O.Τ (I λX W=>Γ Z rfl ⟨u,a,X,t,false,false,m,B,y,s.1,s.2,v,rfl,O.web,Α.of d,by lia,Α.of W,by lia,λ_ _ _ _=>⟨par,dep,R,λC e=>⟨_,rfl,b,λj n=>k _ rfl j (e.trans n)⟩⟩,x S,λ_=>x J,λ_ _ z=>absurd ⟨by lia,h⟩ z⟩)))
  | Ui h=>exact absurd rfl n0
  | @Wt ύ Ϛ tl ss RR et h es l b=>
    repeat refine As (Ϣ (by decide)) ?_
    refine TF rfl ?_;refine O.V3 T.η T.χ (O.Τ (U λa d=>O.Τ (I λX W=>⟨u,a,X,t,false,false,m,B,y,s.1,s.2,rfl,O.web,Α.of d,by lia,Α.of W,by lia,λ_ _=>⟨ύ,Ϛ,RR,λ_ p q qs Xb C Y _ _ _ e N e2 st=>?_,λz=>absurd h z⟩,x S,λ_=>x J⟩)));rw[et]at Y;cases Y;subst es;exact⟨p,q,_,rfl,N,.inl ⟨qs,_,rfl,e2,st,l,b,λj n=>k _ rfl j (e.trans n)⟩⟩
  | @Wu ύ Ϛ zs RR h es l b=>
    repeat refine As (Ϣ (by decide)) ?_
    refine TF rfl ?_;subst es;exact O.V3 T.η T.χ (O.Τ (U λa d=>O.Τ (I λX W=>⟨u,a,X,t,false,false,m,B,y,s.1,s.2,rfl,O.web,Α.of d,by lia,Α.of W,by lia,λ_ _=>⟨ύ,Ϛ,RR,λz=>absurd z h,λ_ p q C _ _ e N e2=>⟨p,q,_,rfl,N,.inr ⟨_,rfl,e2,l,b,λj n=>k _ rfl j (e.trans n)⟩⟩⟩,x S,λ_=>x J⟩)))
  | Uj h=>
    repeat refine As (Ϣ (by decide)) ?_
    refine TF rfl ?_;exact O.V3 T.η T.χ (O.Τ (I λa d=>⟨u,a,t,false,m,B,y,s.2,rfl,O.web,Α.of d,by lia,λ_ z=>absurd h z,λ_ _ C e=>⟨0,rfl,by decide,λj n=>k _ rfl j (e.trans n)⟩,x J⟩))
  | @always par dep h R b=>
    repeat refine As (Ϣ (by decide)) ?_
    refine TF rfl ?_;exact O.V3 T.η T.χ (O.Τ (I λa d=>⟨u,a,t,false,m,B,y,s.2,rfl,O.web,Α.of d,by lia,λ_ _=>⟨par,dep,R,λC e=>⟨_,rfl,b,λj n=>k _ rfl j (e.trans n)⟩⟩,λ_ z=>absurd z h,x J⟩))
  | Vc h=>
    repeat refine As (Ϣ (by decide)) ?_
    refine TF rfl ?_;exact O.V3 T.η T.χ (O.Τ (I λa d=>⟨u,a,t,false,m,B,y,s.2,rfl,O.web,Α.of d,by lia,λ_ z=>absurd h z,x J,λ_ _=>e4 rfl none⟩))
  | @fails par dep zs h R es l b=>
    repeat refine As (Ϣ (by decide)) ?_
    refine TF rfl ?_;subst es;exact O.V3 T.η T.χ (O.Τ (I λa d=>⟨u,a,t,false,m,B,y,s.2,rfl,O.web,Α.of d,by lia,λ_ _=>⟨par,dep,R,λp C _ e N=>⟨p,false,_,rfl,N,by lia,b,λj n=>k _ rfl j (e.trans n)⟩⟩,x J,λ_ z=>absurd z h⟩))
 .repeat refine As (Ϣ (Q7 r (by decide))) ?_
  exact O.V3 T.η T.χ ⟨u,t,ln,m,B,y,w,ns,a,rfl,O.web,Z,r,λC e=>k _ rfl C e⟩
def y8(T:Txt K L):Sp:=λh H Q E=>XC λ(o f c t:Addr)(m:Int)(g:hR)(d:ix)(e:List (List Int×List Int))(s:List Int×List Int)(z:Str)(r:Sum Str Nat)(S:List (List Int×List Int))=>h=[.ref o,.str z]/\π T.Web T.Desk H o f c m t g d (e++[s])/\e.length<=500/\bA m s.1=true/\bA m s.2=true/\TJ m d e s z r S/\(∀a,r=.inl a->∀b,π T.Web T.Desk b o f c m t g d S->Ϙ c H b->Q (.str a) b)/\(r=.inr 4->∀x b,δ H b->E (.ref T.NoWorst) x b)
abbrev vc:Stmt:=top 108
def G4:ε ["desk","row","words","numbers"] ["desk","row"] (aA vc):=.of
def Gg(T:Txt K L)(hq:bI (τ P w))(xY:Cb P w K L base "do_deed" yG ["desk","word","numbers"] 10 (CO T))(ub:Cb P w K L base "read_words" tZ ["words","many","at"] 3 (xK T))(rq:Cb P w K L base "told_of_desk" rM ["desk","word","numbers"] 61 (uS T))(R:DK w K T.NUMBERS_BEHIND nbK):Ok P w K L base "answer_of" vc ["desk","row"] 62 (y8 T):=λ_ _ D=>by
 refine D.F.Ϻ G4 λο A G s H vs Q E J h=>?_;obtain⟨o,wb,U,t,m,X,Z,W,s,z,r,S,rfl,O,sl,fi,fj,⟨zl,d,b,ez,N,C,ra⟩,k,e4⟩:=h;refine⟨_,(aw (Κ 2 (sU PySem.F.plainAttrs_str PySem.F.slot_str_split PySem.F.type_str_split OQ (γ 1) (aa bH ap))) (aw (bU (tF (Ql w K rfl rfl R) (ψ bu (γ 2) aD) (pgl T.ϥ) (by with_unfolding_all rfl)) (ay kW) bE) (aw (Κ 3 (Ξ ub J bT (aa (AU DF (γ 2) (Ea aD) D8) (aa (PP w K rfl rfl R (pgl T.ϥ) (ψ bu (γ 2) aD) (λ_ _=>rfl)) (aa aD ap))))) (aw (bU (tF yU (ψ bu (γ 2) aD) (pgl T.XF) (by with_unfolding_all rfl)) (aw (cI (Ξ xY J bT (aa (γ 0) (aa (ψ bu (γ 2) aD) (aa (γ 3) ap))))) (ay (aY bH))) bE) (ay (aY (Ξ rq J bT (aa (γ 0) (aa (ψ bu (γ 2) aD) (aa (γ 3) ap)))))))))),?_⟩;walk_at "s";unfold tSl F1 Tj;refine b9 λN1 h1=>?_;walk_at "";refine⟨by simp[VW],z,rfl,_,rfl,rfl,zl,λl nl=>h1 _ _ (b9 λN2 h2=>?_)⟩;have s1:=δ.new (HO.lst ((Txt.split z (Str.ofString " ")).map V.str)) nl;have e:upd H l (HO.lst ((Txt.split z (Str.ofString " ")).map V.str)) l=some (.lst ((d::b.map FS).map V.str)):=by rw[au,<-ez];rfl
 generalize upd H l (HO.lst ((Txt.split z (Str.ofString " ")).map V.str))=H1 at s1 e ⊢;have f:ϳ ((d::b.map FS).map V.str) 0=some (.str d):=fR (by decide) rfl;walk_at "";refine Γ e f ⟨d,rfl,rfl,_,rfl,?_⟩;rw[Mt,C,ah (by exact bj)];refine h2 _ _ (b9 λN3 h3=>?_);walk_at "";refine⟨l,_,rfl,ι.of e,λu n2=>?_⟩;rw[Nn _ (by decide)];have Y:=s1.trans (δ.new (HO.lst (((d::b.map FS).map V.str).drop (1:Int).toNat)) n2);have I:=δ.new (HO.lst (((d::b.map FS).map V.str).drop (1:Int).toNat)) n2 _ _ e;have i:upd H1 u (HO.lst (((d::b.map FS).map V.str).drop (1:Int).toNat)) u=some (.lst ((b.map FS).map V.str)):=au;generalize upd H1 u (HO.lst (((d::b.map FS).map V.str).drop (1:Int).toNat))=H2 at Y I i ⊢;refine Γ I f ⟨d,.int b.length,rfl,rfl,by rw[Mt,C];rfl,?_⟩;refine⟨u,b,1,rfl,i,aW (Lr C) (by decide),N,λp H3 np s3 j=>?_⟩;refine h3 _ _ ?_;have q:=Y.trans s3;have M:=O.same q;have B:=s3 _ _ I;walk_at "";refine Γ B f ⟨T.DEEDS,_,rfl,.inr T.XG.sq,rfl,rfl,_,rfl,?_⟩;rcases ra with⟨er,h⟩|⟨eS,h⟩
 .refine TF (Rt h) ?_;exact Γ B f ⟨o,wb,U,t,p,m,X,Z,W,s,d,b,S,rfl,M,sl,fi,fj,j,h,λg O4 k4=>k _ er g O4 λc y h n=>k4 c y (q _ _ h) n⟩
 .refine As (QT h) ?_;exact Γ B f ⟨o,wb,U,t,p,m,X,Z,W,s,d,b,r,rfl,M,fi,fj,j,h,λa ea g v=>k a ea g (eS▸M.same v) λc y h n=>v _ _ (q _ _ h),λz x g v=>e4 z x g (q.trans v)⟩
def TU{K:hO}{C b:Addr}(c:Ta K b C){a:Addr}{d R2:Prop}(ne:a≠b)(n:a≠C)(h:R2):∃D,Value.ref C=Value.ref D/\∃x,PySem.W.mroIn K D (Value.ref a)=some x/\if x=true then d else R2:=⟨C,rfl,false,by rw[c.mr,bM ne,oj,bM n],h⟩
def hit{K:hO}{C c:Addr}(b:Ta K c C){a R2:Prop}(h:a):∃D,Value.ref C=Value.ref D/\∃x,PySem.W.mroIn K D (Value.ref C)=some x/\if x=true then a else R2:=⟨C,rfl,true,by rw[b.mr];simp,h⟩
def rF(T:Txt K L):Sp:=λg H Q _=>XC λ(o e b t:Addr)(m:Int)(f:hR)(c:ix)(d:List (List Int×List Int))(s:List Int×List Int)(z:Str)(r:Sum Str Nat)(S:List (List Int×List Int))=>g=[.ref o,.str z]/\π T.Web T.Desk H o e b m t f c (d++[s])/\d.length<=500/\bA m s.1=true/\bA m s.2=true/\TJ m c d s z r S/\∀a,π T.Web T.Desk a o e b m t f c S->Ϙ b H a->Q (.str (BE r)) a
abbrev ip:Stmt:=kM (top 107) 9
def Ec:ε ["self","row"] ["self","row"] (aA ip):=.of
def pL:Ψ (aA ip) "BadText":=.of
def pS:Ψ (aA ip) "NoPlace":=.of
def oZ:Ψ (aA ip) "BadLaying":=.of
def pW:Ψ (aA ip) "BadWish":=.of
def pK:Ψ (aA ip) "BadStep":=.of
def qf:Ψ (aA ip) "NoDeed":=.of
def pT:Ψ (aA ip) "NoWorst":=.of
def Ei(T:Txt K L)(U:bI (τ P w))(I:Cb P w K L base "answer_of" vc ["desk","row"] 62 (y8 T)):Vq P w K L base "answer" "Desk.answer" ip ["self","row"] 63 (rF T):=λ_ _ F=>by
 refine F.Ο Ec λR A j s H N Q E J h=>?_;obtain⟨o,q,C,t,m,M,D,G,s,z,r,S,rfl,O,v,n,y,l,k⟩:=h;refine⟨_,(ay (Sb rfl rfl rfl (OA (Qg (pyb I J (aa (γ 0) (aa (γ 1) ap))))) (xk T.VN.x pL.g T.VF (λ_=>(ay (aY bH))) (xk T.VH.x pS.g T.TX (λ_=>(ay (aY bH))) (xk T.UL.x oZ.g T.S8 (λ_=>(ay (aY bH))) (xk T.VJ.x pW.g T.S3 (λ_=>(ay (aY bH))) (xk T.VM.x pK.g T.VE (λ_=>(ay (aY bH))) (xk T.WB.x qf.g T.Wy (λ_=>(ay (aY bH))) (xk T.Χ.x pT.g T.TY (λ_=>(ay (aY bH))) R3 (hdb:=pT.d)) (hdb:=qf.d)) (hdb:=pK.d)) (hdb:=pW.d)) (hdb:=oZ.d)) (hdb:=pS.d)) (hdb:=pL.d)))),?_⟩;walk_at "s";unfold OD Da;walk_at "";have B:∀{c:Nat},r=.inr c->∀f,δ H f->Q (.str (RO c)) f:=λe f i=>by
  have:=k f;rw[e]at this;exact this (by rw[l.same e];exact O.same i) λb x h _=>i b x h
 exact⟨o,q,C,t,m,M,D,G,s,z,r,S,rfl,O,v,n,y,l,(λa e f p u=>by have:=k f p u;rw[e]at this;exact this),(λe x f i=>TU T.Χ (V0 T.Vr 9 0) (V0 T.Vr 9 6) (TU T.Χ (V0 T.Vr 2 0) (V0 T.Vr 2 6) (TU T.Χ (V0 T.Vr 4 0) (V0 T.Vr 4 6) (TU T.Χ (V0 T.Vr 5 0) (V0 T.Vr 5 6) (TU T.Χ (V0 T.Vr 8 0) (V0 T.Vr 8 6) (TU T.Χ (V0 T.Vr 7 0) (V0 T.Vr 7 6) (hit T.Χ (B e _ i))))))))⟩
def yE(T:Txt K L):Sp:=λe H Q _=>E5 λ(l:Addr)(d:hR)(c:ix)(a b:Int)=>e=[.ref l,.int a,.int b]/\H l=some (.lst (d.map V.ref))/\ν H d c/\(∀k,cL c a b=some k->Q (.int k) H)/\(cL c a b=none->Q .ξ H)
abbrev vN:Stmt:=top 119
def Gp:ε ["roads","a","b","one","other","there","back"] ["roads","a","b"] (aA vN):=.of
def HS(T:Txt K L)(Z:bI (τ P w)):Ok P w K L base "_law_price" vN ["roads","a","b"] 1 (yE T):=λ_ _ D=>by
 refine D.F.Ο Gp λY A G s H X Q E hr h=>?_;obtain⟨l,M,d,a,b,rfl,J,I,k,S⟩:=h;refine⟨_,(aw (gf PassesOwn.never rfl (iB (γ 0)) (iH (n:=4) rfl (bQ (ϊ 3) (bQ (ϊ 4) (bQ (ϊ 5) (bQ (ϊ 6) fI))))) (aw (bU (PW.pt (tU (Ν cN (γ 3) (γ 1)) (rB (Ν cN (γ 4) (γ 2))))) (ay (aY (γ 5))) bE) (ay (bU (PW.pt (tU (Ν cN (γ 3) (γ 2)) (rB (Ν cN (γ 4) (γ 1))))) (ay (aY (γ 6))) bE)))) (ay (aY qC))),?_⟩;walk_at "t";have j:M.length=d.length:=Paired.length I;refine⟨⟨_,ι.of J⟩,?_⟩;refine uV (K:=K) (xs:=M.map V.ref) (λi m g=>g=H/\cL (d.take i) a b=none/\∃C y p B,m=[some (V.ref l),some (V.int a),some (V.int b),C,y,p,B]) ⟨rfl,rfl,_,_,_,_,rfl⟩ (λi m g _ z=>by rw[z.1];exact ι.of J) ?_ ?_
 .rintro i x m g N hN hx ⟨rfl,Us,C,y,p,B,rfl⟩;obtain⟨q,r,rfl,W,o,R⟩:=I.get hx;have U:d.take (i+1)=d.take i++[r]:=by rw[bg,o];rfl
  have split:cL d a b=(cL (d.take i) a b).or ((i9 a b r).or (cL (d.drop (i+1)) a b)):=by
   have:d=d.take i++r::d.drop (i+1):=by
    have O:i<d.length:=(ax.mp o).1;have e:d[i]=r:=(by rw[az O]at o;exact bF o);rw[<-e,jg,dg]
   conv=>lhs;rw[this]
   unfold cL;rw[gB,hZ];cases i9 a b r<;>rfl
  rw[Us,Option.none_or]at split;walk_at "";refine⟨_,Α.of R,rfl,_,_,rfl,_,_,rfl,_,_,rfl,_,_,rfl,rfl,?_⟩;walk_at "";have c:i9 a b r=none->N [some (V.ref l),some (V.int a),some (V.int b),some (V.int r.a),some (V.int r.b),some (V.int r.t),some (V.int r.u)] g:=λz=>hN _ _ ⟨rfl,by
   rw[U];unfold cL at Us ⊢;rw[gB,Us,hZ,z]
   rfl,_,_,_,_,rfl⟩
  have f:∀v,i9 a b r=some v->cL d a b=some v:=λv z=>by rw[split,z];rfl
  unfold i9 at c f;split
  .rename_i c1
   split
   .rename_i c2
    exact k _ (f _ (by rw[aj ⟨c1,c2⟩]))
   .rename_i c2
    split
    .rename_i c3
     split
     .rename_i c4
      exact k _ (f _ (by rw[ah (λz=>c2 z.2),aj ⟨c3,c4⟩]))
     .rename_i c4
      exact c (by rw[ah (λz=>c2 z.2),ah (λz=>c4 z.2)])
    .rename_i c3
     exact c (by rw[ah (λz=>c2 z.2),ah (λz=>c3 z.1)])
  .rename_i c1
   split
   .rename_i c3
    split
    .rename_i c4
     exact k _ (f _ (by rw[ah (λz=>c1 z.1),aj ⟨c3,c4⟩]))
    .rename_i c4
     exact c (by rw[ah (λz=>c1 z.1),ah (λz=>c4 z.2)])
   .rename_i c3
    exact c (by rw[ah (λz=>c1 z.1),ah (λz=>c3 z.1)])
 .rintro m g ⟨rfl,Us,C,y,p,B,rfl⟩;rw[ag,j,bC]at Us;walk_at "";exact S Us
def xH(T:Txt K L):Sp:=λj H Q _=>E9 λ(l f h g:Addr)(i:hR)(d:ix)(m:Int)(s:List Int×List Int)(D:Dd)=>j=[.ref l,.ref f,.ref h,.str D.wd,.ref g]/\H l=some (.lst (i.map V.ref))/\ν H i d/\Good m d/\H f=some (.lst (s.1.map V.int))/\H h=some (.lst (s.2.map V.int))/\H g=some (.lst (D.ns.map V.int))/\(s.1.length:Int)=m/\(s.2.length:Int)=m/\D.Ok m d/\(∀v n,D≠.back v n)/\(Za d s D=none->∀c,δ H c->Q .ξ c)/\(∀e,Za d s D=some e->∀q a b c,δ H c->H a=none->H b=none->c q=some (.tup [.ref a,.ref b])->c a=some (.lst (e.1.map V.int))->c b=some (.lst (e.2.map V.int))->Q (.ref q) c)
abbrev t7:Stmt:=top 121
def FH:ε ["roads","held","wish","deed","numbers","now","wants","each"] ["roads","held","wish","deed","numbers"] (aA t7):=.of
def FW(T:Txt K L)(hq:bI (τ P w))(vC:Cb P w K L base "_law_price" vN ["roads","a","b"] 1 (yE T)):Ok P w K L base "_law_behind" t7 ["roads","held","wish","deed","numbers"] 2 (xH T):=λ_ _ D=>by
 refine D.F.Ο FH λο A ai s H vs Q E hr h=>?_;obtain⟨l,la,lb,ln,ps,r,m,s,D',rfl,hl,ro,g,ha,hb,hn,xl,yl,ok,nb,kn,ks⟩:=h;have Ζ:=g.Ζ;refine⟨_,(aw (Κ 5 (iO jN T.list (aa (γ 1) ap))) (aw (Κ 6 (iO jN T.list (aa (γ 2) ap))) (aw (bU (Ν cN (γ 3) bH) (ay (jv (aX gc (ψ bu (γ 5) (jR bu (γ 4) aD (λ_ _=>rfl))) (ψ bu (γ 4) aD)) (nD (γ 5) (ψ bu (γ 4) aD) gI))) bE) (aw (bU (Ν cN (γ 3) bH) (ay (jv (ψ bu (γ 4) aD) (nD (γ 6) (ψ bu (γ 4) aD) gI))) bE) (aw (bU (Ν cN (γ 3) bH) (aw (Κ 7 (Θ vC hr hq (aa (γ 0) (aa (ψ bu (γ 4) aD) (aa (ψ bu (γ 4) aD) ap))))) (aw (bU (PW.pt (zy (Dn (MJ (γ 7))) (zy (Ν uM (ψ bu (γ 4) aD) aD) (CQ (Ν uM (ψ bu (γ 5) (jR bu (γ 4) aD (λ_ _=>rfl))) (aX j6 (γ 7) (ψ bu (γ 4) aD))))))) (ay (aY qC)) bE) (aw (jv (aX jp (ψ bu (γ 5) (jR bu (γ 4) aD (λ_ _=>rfl))) (aX j6 (γ 7) (ψ bu (γ 4) aD))) (nD (γ 5) (ψ bu (γ 4) aD) gI)) (ay (jv (aX gc (ψ bu (γ 5) (jR bu (γ 4) aD (λ_ _=>rfl))) (ψ bu (γ 4) aD)) (nD (γ 5) (ψ bu (γ 4) aD) gI)))))) bE) (ay (aY (hV (aa (γ 5) (aa (γ 6) ap)))))))))),?_⟩;walk_at "s";refine b9 λN1 h1=>?_;walk_at "";refine⟨_,.inl (ι.of ha),λe J=>h1 _ _ (b9 λN2 I=>?_)⟩;have X:=δ.new (.lst (s.1.map V.int)) J;have e1:upd H e (.lst (s.1.map V.int)) e=some (.lst (s.1.map V.int)):=au;generalize upd H e (.lst (s.1.map V.int))=H1 at X e1 ⊢;walk_at "";refine⟨_,.inl (ι.of (X _ _ hb)),λj Y=>?_⟩;have s2:=δ.new (.lst (s.2.map V.int)) Y;have W:upd H1 j (.lst (s.2.map V.int)) j=some (.lst (s.2.map V.int)):=au;have x:=s2 _ _ e1;have t:=X.trans s2;have WD:=X.free Y;have Z:e≠j:=λz=>by rw[<-z,e1]at Y;cases Y
 generalize upd H1 j (.lst (s.2.map V.int))=U at W x t ⊢;have f:=t _ _ hn;have i:∀(C:Hp)(N:List Int×List Int),δ H C->Za r s D'=some N->C e=some (.lst (N.1.map V.int))->C j=some (.lst (N.2.map V.int))->[V.ref e,V.ref j].length<=sizeLine/\∀(p:Addr),C p=none->Q (V.ref p) (upd C p (HO.tup [V.ref e,V.ref j])):=λC N O es f1 f2=>⟨bX (by simp),λp np=>by
  have s4:=δ.new (.tup [V.ref e,V.ref j]) np;exact ks N es p e j _ (O.trans s4) J WD au (s4 _ _ f1) (s4 _ _ f2)⟩
 clear h1;cases D' with
 | put v n=>
   obtain⟨R,n0⟩:=ok;refine I _ _ (b9 λN3 k=>lJ λA B d c=>?_);simp only[Dd.wd];walk_at "";refine d _ _ ?_;walk_at "";refine Γ f rfl (Γ x (Ϲ R.1 (by lia)) (Γ f rfl ⟨_,rfl,_,rfl,Γ f rfl (nZ x R.1 (by rw[ag];lia) (k _ _ (b9 λN4 o=>lJ λA B d c=>?_)))⟩));clear I k;walk_at "";refine As (XA (by decide +kernel)) (c _ _ (o _ _ (b9 λN5 G=>lJ λA B d c=>?_)));clear o;walk_at "";refine As (XA (by decide +kernel)) (c _ _ (G _ _ ?_));walk_at "";exact i _ _ (t.put J _) rfl (by rw[au,<-cU]) (by rw[aM Z.symm];exact W)
 | want v n=>
   obtain⟨R,n0⟩:=ok;refine I _ _ (b9 λN3 k=>lJ λA B d c=>?_);simp only[Dd.wd];walk_at "";refine As (XA (by decide +kernel)) (c _ _ (k _ _ (b9 λN4 o=>lJ λA B d c=>?_)));clear I k;walk_at "";refine d _ _ ?_;walk_at "";refine Γ f rfl (Γ f rfl (nZ W R.1 (by rw[ag];lia) (o _ _ (b9 λN5 G=>lJ λA B d c=>?_))));clear o;walk_at "";refine As (XA (by decide +kernel)) (c _ _ (G _ _ ?_));walk_at "";exact i _ _ (t.put WD _) rfl (by rw[aM Z];exact x) (by rw[au,<-cU])
 | back v n=>exact absurd rfl (nb v n)
 | step a b n=>
   obtain⟨ad,nr⟩:=ok;obtain⟨S,ek,kr⟩:=BL g ad;obtain⟨ar,br,bk⟩:=g.WW ad;have td:jH r a b=S:=by unfold jH;rw[ek];rfl
   refine I _ _ (b9 λN3 k=>lJ λA B d c=>?_);simp only[Dd.wd];walk_at "";refine As (XA (by decide +kernel)) (c _ _ (k _ _ (b9 λN4 o=>lJ λA B d c=>?_)));clear I k;walk_at "";refine As (XA (by decide +kernel)) (c _ _ (o _ _ (b9 λN5 G=>lJ λA B d c=>?_)));clear o;walk_at "";refine d _ _ (b9 λM1 k1=>?_);clear d c;walk_at "";refine Γ f rfl (Γ f rfl ⟨l,ps,r,a,b,rfl,t _ _ hl,ν.same t ro,λk' WY=>k1 _ _ (b9 λM2 k2=>lJ λA B d c=>?_),λz=>by rw[ek]at z;cases z⟩);rw[ek]at WY;cases WY;clear k1;walk_at "";refine As (by nofun) (Γ f rfl ⟨_,rfl,As (by lia) ?_⟩);refine Γ f rfl (Γ x (Ϲ ar.1 (by lia)) (Γ f rfl ⟨_,rfl,.inl ⟨by lia,by lia⟩,_,rfl,?_⟩));by_cases z:s.1.getD a.toNat 0<S*n
   .refine TF z (d _ _ ?_);walk_at "";refine kn ?_ U t;show(if n*jH r a b<=s.1.getD a.toNat 0 then _ else none)=none;rw[td,ah (by rw[fS];lia)]
   .refine As z (c _ _ (k2 _ _ (b9 λM3 k3=>?_)));clear d c k2;have z':n*jH r a b<=s.1.getD a.toNat 0:=(by rw[td,fS];lia);have es:Za r s (.step a b n)=some (pF r s.1 (a,b,n),s.2):=aj z';walk_at "";refine Γ f rfl (Γ x (Ϲ ar.1 (by lia)) (Γ f rfl ⟨_,rfl,.inl ⟨by lia,by lia⟩,_,rfl,Γ f rfl (nZ x ar.1 (by rw[ag];lia) (k3 _ _ ?_))⟩));rw[<-cU];obtain⟨q,u⟩:∃q,q=s.1.set a.toNat (s.1.getD a.toNat 0-S*n):=⟨_,rfl⟩;rw[<-u];have bl:(q.length:Int)=m:=(by rw[u,bN];exact xl);have O:=t.put J (.lst (q.map V.int));have W7:upd U e (.lst (q.map V.int)) e=some (.lst (q.map V.int)):=au;have M:upd U e (.lst (q.map V.int)) j=some (.lst (s.2.map V.int)):=(by rw[aM Z.symm];exact W);generalize upd U e (.lst (q.map V.int))=C at O W7 M ⊢;have y:=O _ _ hn;clear k3;walk_at "";refine Γ y rfl (Γ W7 (Ϲ br.1 (by lia)) (Γ y rfl ⟨_,rfl,_,rfl,Γ y rfl (nZ W7 br.1 (by rw[ag];lia) (G _ _ ?_))⟩));clear G;walk_at "";refine i _ _ (O.put J _) es ?_ (by rw[aM Z.symm];exact M);rw[au,<-cU];show _=some (HO.lst ((pF r s.1 (a,b,n)).map V.int));unfold pF;rw[td,u,fS S n]
def Aq(T:Txt K L):Sp:=λf H Q _=>E5 λ(l:Addr)(c m:Int)(e:hR)(d:ix)=>f=[.int c,.int m,.ref l]/\H l=some (.lst (e.map V.ref))/\ν H e d/\Good m d/\∀q b a (D:Dd),D.Ok m d->(∀y∈D.ns,0<=y/\y<10^60)->H b=none->δ H a->a q=some (.tup [.str D.wd,.ref b])->a b=some (.lst (D.ns.map V.int))->Q (.ref q) a
abbrev qL:Stmt:=top 120
def AB:ε ["cell","many","roads","place","amount","one","other","there","back"] ["cell","many","roads"] (aA qL):=.of
def Db:Ug (aA qL) "one":=.of (by kernel_rfl)
def zV:Ug (aA qL) "other":=.of (by kernel_rfl)
def Jf(T:Txt K L)(hq:bI (τ P w)):Ok P w K L base "_law_deed" qL ["cell","many","roads"] 1 (Aq T):=λ_ _ D=>by
 refine D.F.Ο AB λο A N s H vs Q E hr h=>?_;obtain⟨l,c,m,I,rs,rfl,R,ro,g,k⟩:=h;have m1:=g.m1;have Ζ:=g.Ζ;have mp:0<m:=by lia
 have o:∀(x n:Int),0<n->0<=x%n/\x%n<n:=λx n h=>⟨cM x (lV h),cQ x h⟩;refine⟨_,(aw (Κ 3 (aX eE (aX eY (γ 0) aD) (γ 1))) (aw (Κ 4 (aX eE (aX eY (γ 0) aD) aD)) (aw (bU (Ν cN (aX eE (aX eY (γ 0) aD) aD) aD) (ay (Κ 4 (aX eE (aX eY (γ 0) aD) (aX CW aD aD)))) bE) (aw (bU (Ν cN (aX eE (aX eY (γ 0) aD) aD) aD) (ay (Κ 4 (aX jp (aX jp (aX CW aD aD) aD) (aX eE (aX eY (γ 0) aD) aD)))) bE) (aw (bU (PW.pt (tU (Ν cN (aX eE (γ 0) aD) aD) (rB (Ν wS (TB gP T.len (aa (γ 2) ap)) aD)))) (aw (jv (ψ bu (γ 2) (aX eE (aX eY (γ 0) aD) (TB gP T.len (aa (γ 2) ap)))) (iH (n:=4) rfl (bQ (ϊ 5) (bQ (ϊ 6) (bQ (ϊ 7) (bQ (ϊ 8) fI)))))) (aw (bU (Ν cN (aX eE (aX eY (γ 0) aD) aD) aD) (ay (Q1 (i:=5) (j:=6) rfl AB.nd rfl rfl (by decide) Db.l zV.l (aa (γ 6) (aa (γ 5) ap)) (by kernel_rfl))) bE) (ay (aY (hV (aa bH (aa (eK (aa (γ 5) (aa (γ 6) (aa (aX gc aD (aX eE (aX eY (γ 0) aD) aD)) ap)))) ap))))))) bE) (ay (aY (hV (aa (jR bu (eK (aa bH (aa bH (aa bH (aa bH (aa bH ap)))))) (aX eE (γ 0) aD) (λ_ _=>rfl)) (aa (eK (aa (γ 3) (aa (γ 4) ap))) ap)))))))))),?_⟩;walk_at "s";refine b9 λN1 h1=>?_;walk_at "";refine⟨⟨by decide,by decide⟩,mp,h1 _ _ (b9 λN2 h2=>?_)⟩;have q:=o (c/5) m mp;generalize c/5%m=v at q ⊢;walk_at "";refine⟨⟨by decide,by decide⟩,by decide,h2 _ _ (b9 λN3 U=>?_)⟩;have d:=o (c/120) 13 (by decide);replace d:0<=c/120%13/\c/120%13<10^60:=by lia
 generalize c/120%13=n at d ⊢;have k3:∀n,0<=n/\n<10^60->N3 [some (V.int c),some (V.int m),some (V.ref l),some (V.int v),some (V.int n),none,none,none,none] H:=λn d=>by
  refine U _ _ (b9 λN4 h4=>?_);have k4:∀n,0<=n/\n<10^60->N4 [some (V.int c),some (V.int m),some (V.ref l),some (V.int v),some (V.int n),none,none,none,none] H:=λn d=>by
   refine h4 _ _ (b9 λN5 h5=>?_);have e:N5 [some (V.int c),some (V.int m),some (V.ref l),some (V.int v),some (V.int n),none,none,none,none] H:=by
    refine h5 _ _ ?_;walk_at "";refine⟨bX (by simp),λq1 n1=>⟨by decide,?_⟩⟩;have M:=δ.new (.lst [V.str "put",V.str "put",V.str "want",V.str "put",V.str "back"]) n1;have bd:∀y∈[v,n],0<=y/\y<10^60:=λy u=>by
     simp only[aF,fP,or_false]at u;rcases u with rfl|rfl<;>lia
    obtain⟨D,hD,ok,X⟩:∃D:Dd,ϳ [V.str "put",V.str "put",V.str "want",V.str "put",V.str "back"] (c%5)=some (.str D.wd)/\D.Ok m rs/\D.ns=[v,n]:=by
     have h5:=o c 5 (by decide);rcases(show c%5=0\/c%5=1\/c%5=2\/c%5=3\/c%5=4 by lia)with z|z|z|z|z<;>rw[z]
     .exact⟨.put v n,rfl,⟨q,d.1⟩,rfl⟩
     .exact⟨.put v n,rfl,⟨q,d.1⟩,rfl⟩
     .exact⟨.want v n,rfl,⟨q,d.1⟩,rfl⟩
     .exact⟨.put v n,rfl,⟨q,d.1⟩,rfl⟩
     .exact⟨.back v n,rfl,trivial,rfl⟩
    refine Γ au hD ⟨bX (by simp),λq2 n2=>⟨bX (by simp),λq3 Y=>?_⟩⟩;have J:=M.trans (δ.new (.lst [V.int v,V.int n]) n2);have s3:=δ.new (.tup [V.str D.wd,V.ref q2]) Y;refine k q3 q2 _ D ok (by rw[X];exact bd) (M.free n2) (J.trans s3) au ?_;rw[X];exact s3 _ _ au
   refine lJ λA B C r=>?_;walk_at "";refine⟨by decide,?_⟩;by_cases z3:c%5=3
   .refine TF z3 ⟨_,.inl (ι.of R),?_⟩;rw[ag];by_cases G:(0:Int)<I.length
    .refine TF G (C _ _ (b9 λM1 W=>?_));clear C r;walk_at "";refine⟨⟨by decide,by decide⟩,_,.inl (ι.of R),?_⟩;rw[ag];have jr:=o (c/5) (I.length:Int) G;refine⟨G,?_⟩;generalize c/5%(I.length:Int)=j at jr ⊢;obtain⟨p,hp⟩:∃p,I[j.toNat]?=some p:=⟨_,az (by lia)⟩;obtain⟨p',x,S,bv,hx,ex⟩:=ro.get (i:=j.toNat) (x:=V.ref p) (by rw[aN,hp];rfl);injection S with S
     subst S;have xm:=aP hx;refine Γ (v:=V.ref p) R (fR jr.1 (by rw[aN,hp];rfl)) ⟨p,rfl,_,Α.of ex,rfl,_,_,rfl,_,_,rfl,_,_,rfl,_,_,rfl,rfl,W _ _ (b9 λM2 j2=>lJ λA B C r=>?_)⟩;clear W;have Y:=o (c/240) 3 (by decide);have t:∀a b,U8 rs a b->∀p,H p=none->[V.str "step",V.ref p].length<=sizeLine/\∀f,upd H p (.lst [V.int a,V.int b,V.int (1+c/240%3)]) f=none->Q (V.ref f) (upd (upd H p (.lst [V.int a,V.int b,V.int (1+c/240%3)])) f (.tup [V.str "step",V.ref p])):=λa b ad p np=>⟨bX (by simp),λp1 O=>by
      have M:=δ.new (.lst [V.int a,V.int b,V.int (1+c/240%3)]) np;have J:=δ.new (.tup [V.str "step",V.ref p]) O;exact k p1 p _ (.step a b (1+c/240%3)) ⟨ad,by lia,by lia⟩ (λy u=>by
       obtain⟨ar,br,_⟩:=g.WW ad;simp only[Dd.ns,aF,fP,or_false]at u;rcases u with rfl|rfl|rfl<;>lia) np (M.trans J) au (J _ _ au)⟩
     walk_at "";refine⟨⟨by decide,by decide⟩,by decide,?_⟩;by_cases Z:c/120%2=1
     .refine TF Z (C _ _ ?_);walk_at "";refine⟨_,_,⟨rfl,rfl⟩,j2 _ _ ?_⟩;walk_at "";exact⟨⟨by decide,by decide⟩,by decide,bX (by simp),t _ _ ⟨x,xm,.inr ⟨rfl,rfl⟩⟩⟩
     .refine As Z (r _ _ (j2 _ _ ?_));walk_at "";exact⟨⟨by decide,by decide⟩,by decide,bX (by simp),t _ _ ⟨x,xm,.inl ⟨rfl,rfl⟩⟩⟩
    .exact As G (r _ _ e)
   .exact As z3 (r _ _ e)
  walk_at "";refine⟨⟨by decide,by decide⟩,by decide,?_⟩;split
  .have U:=o (c/10920) 3 (by decide);have:(2:Int)<=10^Int.toNat 60-1:=(by decide);exact⟨⟨by decide,by decide,by decide⟩,⟨by decide,by decide⟩,by decide,k4 _ (by rw[show(10:Int)^Int.toNat 60=10^60 from rfl];lia)⟩
  .exact k4 n d
 walk_at "";refine⟨⟨by decide,by decide⟩,by decide,?_⟩;split
 .exact⟨⟨by decide,by decide⟩,⟨by decide,by decide,by decide⟩,p60,k3 _ (o _ _ p60)⟩
 .exact k3 n d
def yW(T:Txt K L):Sp:=λe H Q _=>E3 λ(a:Addr)(c:Bool)(b:fc)=>e=[.ref a]/\VY c H a (b.map V.int)/\b.length<=100/\(∀z∈b,Bt z)/\∀d,δ H d->Q (.str (VD b)) d
abbrev vd:Stmt:=top 122
def Gw:ε ["numbers"] ["numbers"] (aA vd):=.of
def Hy(T:Txt K L)(u:bI (τ P w)):Ok P w K L base "_law_words" vd ["numbers"] 1 (yW T):=λ_ _ D=>by
 refine D.F.Ο Gw λt A j s H r Q E y h=>?_;obtain⟨a,c,f,rfl,m,o,nb,k⟩:=h;refine⟨_,(ay (aY (sU PySem.F.plainAttrs_str PySem.F.slot_str_join PySem.F.type_str_join zm bH (aa (gG rfl (l9 (Nc:=["number"]) 1 (by decide +kernel) (by decide +kernel) rfl (by decide +kernel) rfl) (wu c (γ 0)) (λ_ _ _ _=>(d6 (i:=0) (show(["number"]:hX).Nodup from by decide +kernel) rfl (Or.inl rfl))) (λ_ _ _ _=>gj) (λ_ _ _ _=>(y6 gO (by rfl) T.str Mr (aa (pv 0) ap)))) ap)))),?_⟩;walk_at "t";refine⟨by simp[VW],⟨_,m.sq⟩,λp l=>?_⟩;refine me (K:=K) (xs:=f.map V.int) (λi b e d=>δ H d/\d p=some (.lst b)/\b=((f.take i).map tI).map V.str/\∃v,e=[v]) ⟨δ.new _ l,au,rfl,_,rfl⟩ (λi b e d _ ⟨z,_⟩=>δ.ϫ z m.sq) ?_ ?_
 .rintro i x b e d N hN hi ⟨s2,h2,rfl,v,rfl⟩;obtain⟨n,g,rfl⟩:=List.μ hi;have q:i<f.length:=(ax.mp g).1;walk_at "";refine⟨(nb n (aP g)).log,h2,d8 (by rw[ag,ag,bq];lia),hN _ _ _ ⟨s2.put l _,au,?_,_,rfl⟩⟩;rw[bg,g,aq,aq]
  rfl
 .rintro b e d ⟨s2,h2,rfl,v,rfl⟩;rw[ag,bC]at h2;exact⟨_,p,_,rfl,rfl,ι.of h2,LJ nb o,k _ s2⟩
abbrev sd(P w base)(T:Txt K L):=Cb P w K L base "_law_words" vd ["numbers"] 1 (yW T)
def xF(T:Txt K L):Sp:=λd H Q _=>E9 λ(p t:Addr)(m:Int)(e:hR)(b:ix)(w:Str)(v n:Nat)(a:Str)=>d=[.ref p,.str w,.int v,.int n]/\θ T.Web H p m t e b/\(iS m b w [v,n] a\/iS m b w [n] a)/\∀c,δ H c->Q (.str a) c
abbrev uf:Stmt:=top 125
def FV:ε ["web","word","place","wanted"] ["web","word","place","wanted"] (aA uf):=.of
def FN(T:Txt K L)(d:bI (τ P w))(I:sd P w base T)(O:BI P w base T)(U:Fi P w base T)(M:Ka P w base T)(V:yh P w base T):Ok P w K L base "_law_of_one" uf ["web","word","place","wanted"] 13 (xF T):=λ_ _ D=>by
 refine D.F.Ο FV λZ A G s H Y Q E f h=>?_;obtain⟨p,t,m,u,o,w,v,n,a,rfl,W,r,k⟩:=h;refine⟨_,(aw (bU (Ν cN (γ 1) bH) (ay (aY (iO gO T.str (aa (Θ O f d (aa (γ 0) (aa (γ 2) (aa (γ 3) ap)))) ap)))) bE) (aw (bU (Ν cN (γ 1) bH) (ay (aY (Θ I f d (aa (Θ U f d (aa (γ 0) (aa (γ 3) ap))) ap)))) bE) (aw (bU (Ν cN (γ 1) bH) (ay (aY (Θ I f d (aa (Θ M f d (aa (γ 0) (aa (γ 2) (aa (γ 3) ap)))) ap)))) bE) (ay (aY (iO gO T.str (aa (Θ V f d (aa (γ 0) (aa (γ 2) (aa (γ 3) ap)))) ap))))))),?_⟩;walk_at "t";rcases r with r|r
 .cases r with
  | enough h w1 w2 R b=>
    rw[aj rfl];exact⟨p,t,m,u,o,_,_,rfl,W,by lia,by lia,λ_ _ _=>⟨_,_,R,λg c=>⟨_,rfl,b.log,k g c⟩⟩,λz=>absurd ⟨by lia,h⟩ z,λ_ _ z=>absurd z (by lia)⟩
  | worst h w1 w2 R et hz l b=>
    rw[ah (Ϣ (by decide)),ah (Ϣ (by decide)),aj rfl];exact⟨p,t,m,u,o,_,_,rfl,W,λ_ _ _=>⟨_,_,R,λJ X q g i _ N _ c e=>by
     rw[et]at i;cases i;have:=hz J N;subst this;exact⟨q,false,_,rfl,e,by lia,b,λx C=>k x (c.trans C)⟩⟩,λz=>absurd ⟨by lia,h⟩ z,λ_ _ z=>absurd z (by lia)⟩
  | many h w1 w2 R et b=>
    rw[ah (Ϣ (by decide)),ah (Ϣ (by decide)),ah (Ϣ (by decide))];obtain⟨n,rfl⟩:∃S,n=S+1:=⟨n-1,by lia⟩;exact⟨p,t,m,u,o,_,n,rfl,W,⟨by lia,h⟩,Qa w2,_,_,R,λX g _ i c=>by
     rw[et]at i;cases i;exact⟨_,rfl,b.log,k g c⟩⟩
 .cases r with
  | hardest w1 w2 hf hz l b=>
    rw[ah (Ϣ (by decide)),aj rfl];exact⟨p,t,m,u,o,_,_,rfl,W,by lia,by lia,hf,λq y j g _ c e B=>by
     have:=hz y j B;subst this;exact⟨q,false,[y,j],rfl,e,by lia,b,λx C=>k x (c.trans C)⟩⟩
def sP(T:Txt K L):Sp:=λe H Q _=>E4 λ(a:Addr)(c:Bool)(as:hR)(b:List ϻ)=>e=[.ref a]/\VY c H a (as.map V.ref)/\Δ H as b/\b.length<=200/\(∀s∈b,Ye s)/\∀d,δ H d->Q (.str (XD b)) d
abbrev p7:Stmt:=top 123
def zX:ε ["steps"] ["steps"] (aA p7):=.of
def zT(T:Txt K L)(I:bI (τ P w))(g:sd P w base T):Ok P w K L base "_law_steps_text" p7 ["steps"] 2 (sP T):=λ_ _ D=>by
 refine D.F.Ο zX λW A t s H U Q E J h=>?_;obtain⟨a,c,as,o,rfl,l,e,M,nb,k⟩:=h;refine⟨_,(aw (bU (Ν cN (TB gP T.len (aa (γ 0) ap)) aD) (ay (aY bH)) bE) (ay (aY (sU PySem.F.plainAttrs_str PySem.F.slot_str_join PySem.F.type_str_join zm bH (aa (gG rfl (l9 (Nc:=["step"]) 1 (by decide +kernel) (by decide +kernel) rfl (by decide +kernel) rfl) (wu c (γ 0)) (λ_ _ _ _=>(d6 (i:=0) (show(["step"]:hX).Nodup from by decide +kernel) rfl (Or.inl rfl))) (λ_ _ _ _=>gj) (λ_ _ _ _=>(gD g.G (J.mono (by decide)) (by rfl) g.D.m g.D.F.kp g.D.b .nil (d7 I) (aa (pv 0) ap)))) ap))))),?_⟩;walk_at "t";have y:as.length=o.length:=Paired.length e;refine⟨as.map V.ref,by cases c;exact .inr (Α.of l);exact .inl (ι.of l),?_⟩;rw[ag];unfold XD at k;by_cases r:((as.length:Nat):Int)=0
 .rw[aj (lM.mp (by lia))]at k;rw[aj r];exact k H (δ.refl _)
 .rw[ah λz=>r (by rw[y,z];rfl)]at k;rw[ah r];refine⟨by simp[VW],⟨_,l.sq⟩,λp B=>?_⟩;refine me (K:=K) (xs:=as.map V.ref) (λi d j f=>δ H f/\f p=some (.lst d)/\d=((o.take i).map V1).map V.str/\∃v,j=[v]) ⟨δ.new _ B,au,rfl,_,rfl⟩ (λi d j f _ ⟨z,_⟩=>δ.ϫ z l.sq) ?_ ?_
  .rintro i x d j f N hN hi ⟨s2,h2,rfl,v,rfl⟩;obtain⟨q,s,rfl,S,n,C⟩:=Ed e hi;have R:i<o.length:=(ax.mp n).1;walk_at "";refine⟨q,false,[s.1,s.2.1,s.2.2],rfl,s2 _ _ C,ir rfl,nb s (aP n),λO u=>⟨u _ _ h2,d8 (by rw[ag,ag,bq];lia),hN _ _ _ ⟨(s2.trans u).put B _,au,?_,_,rfl⟩⟩⟩;rw[bg,n,aq,aq]
   rfl
  .rintro d j f ⟨s2,h2,rfl,v,rfl⟩;rw[ag,y,bC]at h2;exact⟨_,p,_,rfl,rfl,ι.of h2,Nm nb M,k _ s2⟩
def qM(T:Txt K L):Sp:=λf H Q _=>E13 λ(p c e t:Addr)(m:Int)(g:hR)(d:ix)(x y:fc)(w:Str)(v:Nat)(a:List Nat)(o:Sum Str Nat)=>f=[.ref p,.ref c,.ref e,.str w,.int v]/\θ T.Web H p m t g d/\H c=some (.lst (x.map V.int))/\H e=some (.lst (y.map V.int))/\bA m x=true/\bA m y=true/\(v:Int)<m/\(a=[]\/a=[v])/\Ac m d x y w a o/\∀b,δ H b->Q (.str (BE o)) b
abbrev rH:Stmt:=top 124
def C2:ε ["web","held","wish","word","place","told","found"] ["web","held","wish","word","place"] (aA rH):=.of
def CS(T:Txt K L)(e:bI (τ P w))(nh:Cb P w K L base "_law_steps_text" p7 ["steps"] 2 (sP T))(Z:sd P w base T)(rD:Gi P w base T)(tD:Jo P w base T)(pC:Eo P w base T)(qm:Fk P w base T)(wq:Mh P w base T)(gL:tp P w base T):Ok P w K L base "_law_of_state" rH ["web","held","wish","word","place"] 61 (qM T):=λ_ _ D=>by
 refine D.F.Ο C2 λο A ad s H vs Q E f h=>?_;obtain⟨p,U,I,t,m,C,G,x,y,w,v,ns,o,rfl,W,X,B,S,M,vm,V,r,k⟩:=h;refine⟨_,(aw (bU (Ν cN (γ 3) bH) (ay (aY (Θ Z f e (aa (γ 1) ap)))) bE) (aw (bU (Ν cN (γ 3) bH) (ay (aY (Θ Z f e (aa (γ 2) ap)))) bE) (aw (bU (Ν cN (γ 3) bH) (ay (aY (iO gO T.str (aa (Θ wq f e (aa (γ 0) (aa (γ 1) (aa (γ 4) ap)))) ap)))) bE) (aw (bU (Ν cN (γ 3) bH) (ay (aY (Θ nh f e (aa (Θ tD f e (aa (γ 0) (aa (γ 1) (aa (γ 4) ap)))) ap)))) bE) (aw (bU (Ν cN (γ 3) bH) (ay (aY (iO gO T.str (aa (Θ gL f e (aa (γ 0) (aa (γ 1) (aa (γ 2) (aa (γ 4) ap))))) ap)))) bE) (aw (bU (Ν cN (γ 3) bH) (ay (aY (iO gO T.str (aa (Θ rD f e (aa (γ 0) (aa (γ 2) ap))) ap)))) bE) (aw (bU (Ν cN (γ 3) bH) (aw (bU (Ν cN (TB (AV rfl) T.sum (aa (γ 2) ap)) aD) (ay (aY bH)) bE) (ay (aY (Θ Z f e (aa (Θ pC f e (aa (γ 0) (aa (γ 2) ap))) ap))))) bE) (aw (jv (Θ qm f e (aa (γ 0) (aa (γ 1) (aa (γ 2) ap)))) (iH (n:=2) rfl (bQ (ϊ 5) (bQ (ϊ 6) fI)))) (aw (bU (Ν cN (γ 5) bH) (ay (aY (aX gK bH (Θ nh f e (aa (γ 6) ap))))) bE) (ay (aY (aX gK bH (Θ Z f e (aa (γ 6) ap)))))))))))))),?_⟩;walk_at "s";have g:=W.go;have Ζ:=g.Ζ;have xl:=iu S;have yl:=iu M;have j:∀{P:Prop}{z:fc},bA m z=true->bA m z=false->P:=λa b=>by rw[a]at b;cases b
 have d:∀{u:Nat},([u]=([]:List Nat)\/[u]=[v])->u=v:=λh=>by rcases h with h|h<;>cases h;rfl
 walk_at ""
 induction r with
 | laying l b=>
   rw[aj rfl];exact⟨U,true,x,rfl,X,by lia,b,k⟩
 | wish l b=>
   rw[ah (Ϣ (by decide)),aj rfl];exact⟨I,true,y,rfl,B,by lia,b,k⟩
 | @most u par dep h R b=>
   obtain rfl:=d V
   repeat rw[ah (Ϣ (by decide))]
   rw[aj rfl];exact⟨p,U,t,true,m,C,G,x,u,rfl,W,ι.of X,by lia,λ_ _ _=>⟨par,dep,R,λi c=>⟨_,rfl,b.log,k i c⟩⟩,j S,λ_ z=>absurd ⟨by lia,h⟩ z⟩
 | @Ws u h=>exact absurd (d V) (by lia)
 | @bring u par dep tl ss h R et es l b=>
   obtain rfl:=d V
   repeat rw[ah (Ϣ (by decide))]
   rw[aj rfl];refine⟨p,U,t,true,m,C,G,x,u,rfl,W,ι.of X,by lia,λ_ _ _=>⟨par,dep,R,λq qs Xb i Y n1 c J ba _=>?_⟩,j S,λ_ z=>absurd ⟨by lia,h⟩ z⟩;rw[et]at Y;cases Y;subst es;exact⟨q,true,qs,_,rfl,J,GN ba,by lia,b,λN O=>k N (c.trans O)⟩
 | @Vb u h=>exact absurd (d V) (by lia)
 | @stands u par dep h R b=>
   obtain rfl:=d V
   repeat rw[ah (Ϣ (by decide))]
   rw[aj rfl];exact⟨p,U,I,t,true,true,m,C,G,x,y,u,rfl,W,ι.of X,by lia,ι.of B,by lia,λ_ _ _ _=>⟨par,dep,R,λi c=>⟨_,rfl,b.log,k i c⟩⟩,j S,λ_=>j M,λ_ _ z=>absurd ⟨by lia,h⟩ z⟩
 | @Ui u h=>exact absurd (d V) (by lia)
 | Uj h=>
   repeat rw[ah (Ϣ (by decide))]
   rw[aj rfl];exact⟨p,I,t,true,m,C,G,y,rfl,W,ι.of B,by lia,λ_ z=>absurd h z,λ_ _ i c=>⟨_,rfl,(show Bt 0 by decide).log,k i c⟩,j M⟩
 | @always par dep h R b=>
   repeat rw[ah (Ϣ (by decide))]
   rw[aj rfl];exact⟨p,I,t,true,m,C,G,y,rfl,W,ι.of B,by lia,λ_ _=>⟨par,dep,R,λi c=>⟨_,rfl,b.log,k i c⟩⟩,λ_ z=>absurd z h,j M⟩
 | Vc h=>
   repeat rw[ah (Ϣ (by decide))]
   rw[aj rfl];refine⟨y,.inl (ι.of B),?_⟩;rw[aj h];exact k H (δ.refl _)
 | @fails par dep zs h R es l b=>
   repeat rw[ah (Ϣ (by decide))]
   rw[aj rfl];subst es;refine⟨y,.inl (ι.of B),?_⟩;rw[ah h];exact⟨p,I,t,true,m,C,G,y,rfl,W,ι.of B,by lia,λ_ _=>⟨par,dep,R,λu i _ c J=>⟨u,false,_,rfl,J,by lia,b,λN O=>k N (c.trans O)⟩⟩,j M,λ_ z=>absurd z h⟩
 | @Wt ύ Ϛ tl ss RR et h es l b=>
   repeat rw[ah (Ϣ (by decide))]
   refine⟨p,U,I,t,true,true,m,C,G,x,y,rfl,W,ι.of X,by lia,ι.of B,by lia,λ_ _=>⟨ύ,Ϛ,RR,λ_ u q qs Xb i Y _ _ _ c J e2 st=>?_,λz=>absurd h z⟩,j S,λ_=>j M⟩;rw[et]at Y;cases Y;subst es;refine⟨u,rfl,_,Α.of J,rfl,_,_,rfl,_,_,rfl,rfl,rfl,?_⟩;rw[aj rfl];have:=JD b l;exact⟨q,true,qs,_,rfl,e2,st,by lia,b,λN O=>⟨_,rfl,_,rfl,bX (by show 6+_<=_;lia),k N (c.trans O)⟩⟩
 | @Wu ύ Ϛ zs RR h es l b=>
   repeat rw[ah (Ϣ (by decide))]
   subst es;refine⟨p,U,I,t,true,true,m,C,G,x,y,rfl,W,ι.of X,by lia,ι.of B,by lia,λ_ _=>⟨ύ,Ϛ,RR,λz=>absurd z h,λ_ u q i _ _ c J e2=>?_⟩,j S,λ_=>j M⟩;refine⟨u,rfl,_,Α.of J,rfl,_,_,rfl,_,_,rfl,rfl,rfl,?_⟩;rw[ah (Ϣ (by decide))];have:=zw b;exact⟨q,false,_,rfl,e2,by lia,b,λN O=>⟨_,rfl,_,rfl,bX (by show 5+_<=_;lia),k N (c.trans O)⟩⟩
def uT(T:Txt K L):Sp:=λg H Q _=>WZ λ(p b f t:Addr)(m:Int)(h:hR)(d:ix)(x y:fc)(c:Int)(n:Nat)=>g=[.ref p,.ref b,.ref f,.int c]/\θ T.Web H p m t h d/\m<=5/\H b=some (.lst (x.map V.int))/\H f=some (.lst (y.map V.int))/\Sz m n (x,y)/\n<=1000/\∀q z o a,δ H a->a q=some (.tup [.str z,.str (BE o)])->(∀e,TJ m d e (x,y) z o (e++[(x,y)]))->Q (.ref q) a
abbrev rE:Stmt:=top 126
def C1:ε ["web","held","wish","cell","place","wanted","words","word","due"] ["web","held","wish","cell"] (aA rE):=.of
def Di(T:Txt K L)(hq:bI (τ P w))(uv:Cb P w K L base "_law_of_one" uf ["web","word","place","wanted"] 13 (xF T))(pD:Cb P w K L base "_law_of_state" rH ["web","held","wish","word","place"] 61 (qM T)):Ok P w K L base "_law_question" rE ["web","held","wish","cell"] 62 (uT T):=λ_ _ D=>by
 refine D.F.Ο C1 λο A ae s H vs Q E hr h=>?_;obtain⟨p,la,lb,t,m,ps,N,x,y,c,n,rfl,W,m5,ha,hb,S,hn,k⟩:=h;refine⟨_,(aw (Κ 4 (aX eE (aX eY (γ 3) aD) (cu (γ 0) rfl))) (aw (Κ 5 (aX gc aD (aX eE (aX eY (γ 3) aD) aD))) (aw (bU (Ν cN (aX eE (aX eY (γ 3) aD) aD) aD) (ay (Κ 5 (aX gc aD (aX eE (aX eY (γ 3) aD) (aX CW aD aD))))) bE) (aw (Κ 6 (eK (aa bH (aa bH (aa bH (aa bH (aa bH (aa bH (aa bH (aa bH (aa bH (aa bH (aa bH ap))))))))))))) (aw (Κ 7 (ψ bu (aX Ir (γ 6) (eK (aa bH ap))) (aX eE (γ 3) aD))) (aw (bU (tF yU (γ 7) (hV (aa bH (aa bH (aa bH ap)))) (by with_unfolding_all rfl)) (ay (aY (hV (aa (aX gK (aX gK (γ 7) bH) (iO gO T.str (aa (γ 4) ap))) (aa (Θ pD hr hq (aa (γ 0) (aa (γ 1) (aa (γ 2) (aa (γ 7) (aa (γ 4) ap)))))) ap))))) bE) (aw (bU (Ν uM (aX eE (γ 3) aD) aD) (ay (aY (hV (aa (γ 7) (aa (Θ pD hr hq (aa (γ 0) (aa (γ 1) (aa (γ 2) (aa (γ 7) (aa (γ 4) ap)))))) ap))))) bE) (aw (Κ 8 (Θ uv hr hq (aa (γ 0) (aa (γ 7) (aa (γ 4) (aa (γ 5) ap)))))) (aw (bU (Ν cN (γ 7) bH) (ay (aY (hV (aa (aX gK (aX gK (γ 7) bH) (iO gO T.str (aa (γ 5) ap))) (aa (γ 8) ap))))) bE) (ay (aY (hV (aa (aX gK (aX gK (aX gK (aX gK (γ 7) bH) (iO gO T.str (aa (γ 4) ap))) bH) (iO gO T.str (aa (γ 5) ap))) (aa (γ 8) ap)))))))))))))),?_⟩;walk_at "s";have g:=W.go;have m1:=g.m1;have Ζ:=g.Ζ;have l1:=S.l1;have ff:=S.fil;obtain⟨dx,ob⟩:=W.ob;refine b9 λN1 h1=>?_;walk_at "";have v0:=cM (c/12) (show m≠0 by lia);have v1:=cQ (c/12) (show 0<m by lia);obtain⟨v,ev⟩:=cJ v0;rw[ev]at v1;refine⟨⟨by decide,by decide⟩,T.Web,dx,_,ob,T.Ε,T.Λ,_,eT m t,m,rfl,by lia,?_⟩;rw[ev];refine h1 _ _ (b9 λN2 h2=>?_);walk_at "";refine⟨⟨by decide,by decide⟩,by decide,h2 _ _ (b9 λN3 h3=>?_)⟩;have nx:∀k:Nat,1<=k->k<=10^20->N3 [some (V.ref p),some (V.ref la),some (V.ref lb),some (V.int c),some (V.int v),some (V.int k),none,none,none] H:=λU k1 k2=>by
  refine h3 _ _ (b9 λN4 h4=>?_);walk_at "";refine⟨bX (by simp),λa na=>h4 _ _ (b9 λN5 h5=>?_)⟩;walk_at "";refine⟨bX (by simp),λb nb=>SA (A:=Lj.take 11) (B:=["many"]) (δ.new _ nb _ _ au) au (by decide) λd H3 s3 e3=>⟨by decide,?_⟩⟩;have s3:=(δ.new _ na).trans ((δ.new _ nb).trans s3);have i0:=cM c (show(12:Int)≠0 by decide);have i1:=cQ c (show(0:Int)<12 by decide);obtain⟨z,hz⟩:∃z,Lj[(c%12).toNat]?=some z:=⟨_,az (show(c%12).toNat<12 by lia)⟩;obtain⟨Y,as⟩:=SF g S hn m5 v1 k1 k2 hz;have Yn:=congrArg (Option.map V.str) hz;rw[<-aN]at Yn;refine Γ (v:=V.str z) e3 (fR i0 Yn) (h5 _ _ (b9 λN6 h6=>?_));clear e3 h5 h4 nb na;have zl:=(K5 Y).1.1;have J:∀{j:Nat},j<10^60->∀i∈[j],i<10^60:=λh i hi=>by rw[aG.mp hi];exact h
  have an:∀i∈[v,U],i<10^60:=λi hi=>by
   rcases aF.mp hi with rfl|hi
   .lia
   .rw[aG.mp hi];lia
  have X:v<10^60:=by lia
  have kb:U<10^60:=by lia
  have fv:=fsL X;have fk:=fsL kb;have Z:∀{j:Nat},j<10^60->((j:Nat):Int).natAbs.log2<1920:=λh=>(o9 (z:=_) (n:=200) (by lia) (by decide)).log;have l1:(Str.ofString " ").length<=1:=aJ _;have f:∀{zz:Str}{o:Sum Str Nat}{C:Hp},δ H C->(∀ς,TJ m N ς (x,y) zz o (ς++[(x,y)]))->[V.str zz,V.str (BE o)].length<=sizeLine/\∀p,C p=none->Q (.ref p) (upd C p (.tup [.str zz,.str (BE o)])):=λI h=>⟨bX (by simp),λp np=>k p _ _ _ (I.trans (δ.new _ np)) au h⟩;have st:∀{C:Hp}{M:List Nat}{o:Sum Str Nat}{Q':VK},δ H C->(M=[]\/M=[v])->Ac m N x y z M o->(∀O,δ H O->Q' (.str (BE o)) O)->qM T [.ref p,.ref la,.ref lb,.str z,.int v] C Q' E0:=λ{C M o Q'} I hs r q=>⟨p,la,lb,t,m,ps,N,x,y,z,v,M,o,rfl,W.same I,I _ _ ha,I _ _ hb,oS S.l1 ff.1,oS S.l2 ff.2,v1,hs,r,λO s2=>q O (I.trans s2)⟩;walk_at "";refine⟨bX (by simp),λe ne=>⟨e,_,rfl,.inr (Α.of au),rfl,rfl,_,rfl,?_⟩⟩;have l:=s3.trans (δ.new (HO.tup [V.str (Str.ofString "most"),V.str (Str.ofString "bring"),V.str (Str.ofString "stands")]) ne);generalize upd H3 e (HO.tup [V.str (Str.ofString "most"),V.str (Str.ofString "bring"),V.str (Str.ofString "stands")])=H4 at l ⊢;rcases as with⟨iz,nz,o,r,r0⟩|⟨iz,as⟩
  .rw[iz,aj (by rfl)];refine⟨_,rfl,_,rfl,lnA zl l1,Z X,_,rfl,_,rfl,bX (by rw[nP,qA];lia),st l (.inr rfl) r λH5 G=>?_⟩;rw[qA,Rv rfl];exact f G (KQ rfl (J X) (.inl ⟨r,r0⟩) · Y nz)
  .rw[iz,ah (by exact bj)];refine h6 _ _ (b9 λN7 h7=>?_);walk_at "";refine⟨by decide,?_⟩;rcases as with⟨j8,nz,o,r,r0⟩|⟨j8,as⟩
   .rw[aj (by lia)];refine st l (.inl rfl) r λH5 G=>f G ?_;rw[<-JU z];exact(KQ rfl (λk hk=>by cases hk) (.inl ⟨r,r0⟩) · Y nz)
   .rw[ah (by lia)];refine h7 _ _ (b9 λN8 h8=>?_);walk_at "";rcases as with⟨rfl,a,r⟩|⟨zn,nz,a,r⟩
    .refine⟨p,t,m,ps,N,_,v,U,a,rfl,W.same l,.inr r,λH5 G=>h8 _ _ (b9 λN9 h9=>?_)⟩;walk_at "";refine⟨_,rfl,_,rfl,lnA zl l1,Z kb,_,rfl,_,rfl,bX (by rw[nP,qA];lia),?_⟩;rw[qA,Rv rfl];exact f (o:=.inl a) (l.trans G) (KQ (k:=1) rfl (J kb) (.inr ⟨a,rfl,r⟩))
    .refine⟨p,t,m,ps,N,z,v,U,a,rfl,W.same l,.inl r,λH5 G=>h8 _ _ (b9 λN9 h9=>?_)⟩;walk_at "";rw[ah (Ϣ zn)];refine h9 _ _ ?_;walk_at "";refine⟨_,rfl,_,rfl,lnA zl l1,Z X,_,rfl,_,rfl,bX (by rw[nP,qA];lia),_,rfl,_,rfl,bX (by rw[nP,nP,qA];lia),Z kb,_,rfl,_,rfl,bX (by rw[nP,nP,nP,qA,qA];lia),?_⟩;rw[qA,qA,SX];exact f (o:=.inl a) (l.trans G) (KQ rfl an (.inr ⟨a,rfl,r⟩) · Y nz)
 clear h1 h2;walk_at "";refine⟨⟨by decide,by decide⟩,by decide,?_⟩;split
 .have p20:(0:Int)<10^Int.toNat 20:=by decide
  have u0:=cM (c/3240) (lV p20);have R:=cQ (c/3240) p20;obtain⟨u,eu⟩:=cJ u0;refine⟨⟨by decide,by decide⟩,⟨by decide,by decide,by decide⟩,p20,?_⟩;rw[eu]at R ⊢;rw[show(1:Int)+(u:Nat)=((1+u:Nat):Int) by lia];rw[show(10:Int)^Int.toNat 20=10^20 from rfl]at R;exact nx _ (by lia) (by lia)
 .have u0:=cM (c/60) (show(6:Int)≠0 by decide);have R:=cQ (c/60) (show(0:Int)<6 by decide);obtain⟨u,eu⟩:=cJ u0;rw[eu]at R ⊢;rw[show(1:Int)+(u:Nat)=((1+u:Nat):Int) by lia];exact nx _ (by lia) (by lia)
def Am(T:Txt K L):Sp:=λb H Q _=>E3 λ(a:Addr)(c:fc)(k:Int)=>b=[.ref a,.int k]/\ι K H a (c.map V.int)/\0<=k/\∀v,Q (.int v) H
abbrev xg:Stmt:=top 115
def Iz:ε ["script","k"] ["script","k"] (aA xg):=.of
def IM(T:Txt K L)(m:bI (τ P w)):Ok P w K L base "_law_cell" xg ["script","k"] 1 (Am T):=λ_ _ D=>by
 refine D.F.Ο Iz λl A d s H j Q E n h=>?_;obtain⟨a,b,i,rfl,e,g,k⟩:=h;refine⟨_,(aw (bU (Ν uM (γ 1) (TB gP T.len (aa (γ 0) ap))) (ay (aY (ψ bu (γ 0) (γ 1)))) bE) (ay (aY aD))),?_⟩;walk_at "t";refine⟨_,.inl e,?_⟩;rw[ag];by_cases c:i<(b.length:Int)
 .rw[aj c];have f:i.toNat<b.length:=by lia
  exact ixS e (fR g (v:=.int b[i.toNat]) (by rw[aN,az f];rfl)) (k _)
 .rw[ah c];exact k 0
def Du(T:Txt K L):Sp:=λe H Q _=>E4 λ(c o m b:Int)=>e=[.int c,.int o,.int m,.int b]/\0<=m/\m<=1000/\0<b/\b<1000000000000000000/\∀(l:Addr)(d:fc)(a:Hp),H l=none->δ H a->a l=some (.lst (d.map V.int))->(d.length:Int)=m->(∀x∈d,0<=x)->Q (.ref l) a
abbrev uK:Stmt:=top 116
def LC:ε ["cell","mode","many","base","found","rest","k","m"] ["cell","mode","many","base"] (aA uK):=.of
def Bo:Ψ (aA uK) "range":=.of
def Ll(T:Txt K L)(hq:bI (τ P w)):Ok P w K L base "_law_row" uK ["cell","mode","many","base"] 1 (Du T):=λ_ _ D=>by
 refine D.F.Ο LC λY A v s H W Q E hr h=>?_;obtain⟨c,o,m,b,rfl,Z,m1,C,b1,k⟩:=h;refine⟨_,(aw (Κ 4 (eK ap)) (aw (Κ 5 (γ 0)) (aw (gf PassesOwn.never rfl (kI Bo.g T.range (aa (γ 2) ap)) (ϊ 6) (ay (bU (Ν cN (γ 1) aD) (aw (cI (TV (γ 4) (aX eE (γ 5) (γ 3)))) (ay (Κ 5 (aX Gv (γ 5) (γ 3))))) (aw (Κ 7 (aX eE (aX j6 (aX gc (aX gc (aX eE (γ 0) aD) (aX j6 aD (γ 6))) aD) aD) aD)) (aw (Κ 7 (aX eE (aX j6 (aX eE (aX j6 (γ 7) (γ 7)) aD) aD) aD)) (ay (cI (TV (γ 4) (aX eY (γ 7) aD))))))))) (ay (aY (γ 4)))))),?_⟩;walk_at "t";refine⟨by decide,λl j=>?_⟩;refine⟨by lia,by lia,?_⟩;refine Cv (λi p f=>δ H f/\E4 λ(a:fc)(r:Int)(q u:Option V)=>f l=some (.lst (a.map V.int))/\a.length=i/\(∀x∈a,0<=x)/\p=[some (V.int c),some (V.int o),some (V.int m),some (V.int b),some (V.ref l),some (V.int r),q,u]) ⟨δ.new _ j,[],c,_,_,au,rfl,(λx n=>absurd n fP),rfl⟩ ?_ ?_
 .rintro i p f N hN hi ⟨s2,a,r,q,u,e2,xl,x0,rfl⟩;have J:(0:Int)+(i:Int)=(i:Int):=by lia
  rw[J];walk_at "";have G:(a.map V.int).length<sizeLine:=d8 (by rw[ag];lia);have d:∀y:Int,0<=y->∀x∈a++[y],0<=x:=λy I x n=>by
   rcases bi.mp n with h|h
   .exact x0 x h
   .rw[aG.mp h];exact I
  by_cases z:o=0
  .rw[aj z];refine⟨S9 e2,C,oN e2 G ⟨⟨C,by lia⟩,hN _ _ ⟨s2.put j _,a++[r%b],_,_,_,?_,by rw[aH,xl];rfl,d _ (cM _ (by lia)),rfl⟩⟩⟩;rw[au,aq]
   rfl
  .rw[ah z];have M:=cM c (show(998244353:Int)≠0 by decide);have U:=cQ c (show(0:Int)<998244353 by decide);generalize c%998244353=t at M U ⊢;have O:=cM ((t+7919*(i:Int)+11)*48271) (show(2147483647:Int)≠0 by decide);have R:=cQ ((t+7919*(i:Int)+11)*48271) (show(0:Int)<2147483647 by decide);refine⟨by decide,.inl ⟨by decide,by decide⟩,.inr ⟨by decide,by decide⟩,by decide,?_⟩;generalize (t+7919*(i:Int)+11)*48271%2147483647=e at O R ⊢;have X:=cM (e*e) (show(2147483629:Int)≠0 by decide);refine⟨.inl ⟨by lia,by lia⟩,by decide,.inr ⟨by decide,by decide⟩,by decide,?_⟩;have B:=cM (e*e%2147483629*40692) (show(2147483399:Int)≠0 by decide);generalize e*e%2147483629*40692%2147483399=S at B ⊢;refine⟨S9 e2,⟨by decide,by decide⟩,oN e2 G (hN _ _ ⟨s2.put j _,a++[S/7],_,_,_,?_,by rw[aH,xl];rfl,d _ (my B (by decide)),rfl⟩)⟩;rw[au,aq]
   rfl
 .rintro p f ⟨s2,a,r,q,u,e2,xl,x0,rfl⟩;exact⟨_,rfl,k l a f j s2 e2 (by lia) x0⟩
theorem AH{d c:Type}{R:d->c->Prop}:∀(n:Nat){b:List d}{a:List c},Paired R b a->Paired R (b.take n) (a.take n)
 | 0,_,_,_=>by rw[dU,dU];exact .nil
 | _+1,_,_,.nil=>.nil
 | n+1,_,_,.cons x xs=>.cons x (AH n xs)
theorem Ag{d c:Type}{R:d->c->Prop}:∀(n:Nat){b:List d}{a:List c},Paired R b a->Paired R (b.drop n) (a.drop n)
 | 0,_,_,h=>h
 | _+1,_,_,.nil=>.nil
 | n+1,_,_,.cons x xs=>Ag n xs
theorem Cr{f e:Type}{R:f->e->Prop}{a:List f}{c:List e}(h:Paired R a c):∀{d:List f}{b:List e},Paired R d b->Paired R (d++a) (b++c)
 | _,_,.nil=>h
 | _,_,.cons x xs=>.cons x (Cr h xs)
def ν.ins{H:Hp}{b:hR}{a:ix}{q:Addr}{r:Road}(n:Nat)(h:ν H b a)(e:H q=some (.tup (tm r))):ν H (b.take n++q::b.drop n) (a.take n++r::a.drop n):=Cr (R:=λp r=>H p=some (.tup (tm r))) (.cons e (Ag n h)) (AH n h)
def Il{H:Hp}{p:Addr}(o:HO):∀b u,H b=some u->b≠p->upd H p o b=some u:=λb u h n=>by rw[aM n];exact h
def oz(m s:Int):List Int:=(b7 m.toNat).map λv=>(v+s)%m
def Fn{m s v:Int}(a:0<=v)(b:v<m):(oz m s).getD v.toNat 0=(v+s)%m:=by
 unfold oz;rw[List.getD,aN,gZ (by lia),cB a]
 rfl
def Ny{m s a b:Int}(l:0<=a)(h:a<m)(g:0<=b)(i:b<m)(e:(a+s)%m=(b+s)%m):a=b:=by
 have j:=Int.emod_emod_of_dvd (a+s) (Int.dvd_refl m);have d:(a-b)%m=0:=by
  have:=Int.emod_eq_emod_iff_emod_sub_eq_zero.mp e
  rwa [show a+s-(b+s)=a-b by lia]at this
 obtain⟨k,c⟩:=Int.dvd_of_emod_eq_zero d;have f:0<m:=by lia
 have:k=0:=by
  rcases Int.lt_trichotomy k 0 with z|z|z
  .have:m*k<=m*(-1):=bL (by lia) (by lia)
   lia
  .exact z
  .have:m*1<=m*k:=bL (by lia) (by lia)
   lia
 rw[this]at c
 lia
def Ph{m s:Int}(f:1<=m):Ts m.toNat (oz m s) where
 len:=by unfold oz;rw[ag,b6]
 nd:=by
  unfold oz;refine List.pairwise_map.mpr ((jE m.toNat).imp_of_mem λ{a b} ha hb h e=>h ?_);obtain⟨a0,a1⟩:=fH.mp ha;obtain⟨b0,b1⟩:=fH.mp hb;exact Ny a0 (by lia) b0 (by lia) e
 all:=λv c d=>by
  unfold oz;refine aZ.mpr ⟨(v-s)%m,fH.mpr ⟨cM _ (by lia),?_⟩,?_⟩
  .have:=cQ (v-s) (show 0<m by lia)
   lia
  .rw[Int.emod_add_emod,show v-s+s=v by lia,Int.emod_eq_of_lt c (by lia)]
 ϓ:=λv hv=>by
  unfold oz at hv;obtain⟨u,_,rfl⟩:=aZ.mp hv;have d:=cM (u+s) (show m≠0 by lia);have g:=cQ (u+s) (show 0<m by lia)
  lia
def yY(T:Txt K L):Sp:=λe H Q _=>∃(a:Addr)(f:fc),e=[.ref a]/\ι K H a (f.map V.int)/\∀(t l:Addr)(m:Int)(d:hR)(c:ix)(b:Hp),H t=none->H l=none->δ H b->b t=some (.tup [.int m,.ref l])->b l=some (.lst (d.map V.ref))->ν b d c->Good m c->m<=5->Q (.ref t) b
abbrev rT:Stmt:=top 118
def F6:ε ["script","mode","shape","tolls","many","roads","k","one","other","there","back","road"] ["script"] (aA rT):=.of
def y9:Ψ (aA rT) "range":=.of
def Hb(T:Txt K L)(J:bI (τ P w))(qr:Cb P w K L base "_law_cell" xg ["script","k"] 1 (Am T))(uZ:Cb P w K L base "_law_row" uK ["cell","mode","many","base"] 1 (Du T))(vA:Cb P w K L base "_law_tolls" vf ["t"] 1 (yF T)):Ok P w K L base "_law_roads" rT ["script"] 2 (yY T):=λ_ _ D=>by
 refine D.F.Ο F6 λο A a5 s H vs Q E Z h=>?_;obtain⟨a,ns,rfl,ha,k⟩:=h;refine⟨_,(aw (Κ 1 (aX eE (Θ qr Z J (aa (γ 0) (aa aD ap))) aD)) (aw (Κ 2 (Θ uZ Z J (aa (aX eY (Θ qr Z J (aa (γ 0) (aa aD ap))) aD) (aa (γ 1) (aa aD (aa aD ap)))))) (aw (Κ 3 (Θ uZ Z J (aa (Θ qr Z J (aa (γ 0) (aa aD ap))) (aa (γ 1) (aa aD (aa (aX j6 aD (aX CW aD aD)) ap)))))) (aw (Κ 4 (aX gc aD (aX eE (ψ bu (γ 2) aD) aD))) (aw (Κ 5 (eK ap)) (aw (gf PassesOwn.never rfl (Ma y9.g T.range (aa aD (aa (γ 4) ap))) (ϊ 6) (aw (Κ 7 (aX eE (aX gc (aX eE (ψ bu (γ 2) (aX gc (γ 6) aD)) (γ 6)) (ψ bu (γ 2) aD)) (γ 4))) (aw (Κ 8 (aX eE (aX gc (γ 6) (ψ bu (γ 2) aD)) (γ 4))) (aw (jv (Θ vA Z J (aa (ψ bu (γ 3) (γ 6)) ap)) (iH (n:=2) rfl (bQ (ϊ 9) (bQ (ϊ 10) fI)))) (aw (Κ 11 (hV (aa (γ 7) (aa (γ 8) (aa (γ 9) (aa (γ 10) ap)))))) (aw (bU (tF cN (aX eE (aX eY (ψ bu (γ 2) (aX gc (γ 6) aD)) aD) aD) aD (kY _)) (ay (Κ 11 (hV (aa (γ 8) (aa (γ 7) (aa (γ 10) (aa (γ 9) ap))))))) bE) (ay (cI (sU dv lA PySem.F.type_list_insert Nh (γ 5) (aa (aX eE (aX eY (ψ bu (γ 2) (aX gc (γ 6) aD)) aD) (aX gc (TB gP T.len (aa (γ 5) ap)) aD)) (aa (γ 11) ap))))))))))) (ay (aY (hV (aa (γ 4) (aa (γ 5) ap))))))))))),?_⟩;walk_at "s";have em:∀(x n:Int),0<n->0<=x%n/\x%n<n:=λx n h=>⟨cM x (lV h),cQ x h⟩;have cd:∀x n:Int,0<n->n<1073741824->Ob x n:=λx n h1 h2=>⟨h1,h2⟩;refine b9 λN1 h1=>?_;walk_at "";refine⟨a,ns,0,rfl,ha,by decide,λc0=>⟨c0,rfl,by decide,h1 _ _ (b9 λN2 h2=>?_)⟩⟩;walk_at "";refine⟨a,ns,0,rfl,ha,by decide,λc1=>⟨c1,rfl,cd _ _ (by decide) (by decide),?_⟩⟩;refine⟨_,_,8,9600,rfl,by decide,by decide,by decide,by decide,λls M H1 n1 s1 e1 dk ab=>h2 _ _ (b9 λN3 h3=>?_)⟩;walk_at "";refine⟨a,ns,1,rfl,δ.seq s1 ha,by decide,λc2=>⟨⟨by decide,by decide,by decide⟩,.inl ⟨by decide,by decide⟩,?_⟩⟩;refine⟨_,_,8,_,rfl,by decide,by decide,by decide,by decide,λlt ts H2 n2 s2 e2 tl t0=>h3 _ _ (b9 λN4 h4=>?_)⟩;walk_at "";have af:=s2 _ _ e1;have Uo:=s1.trans s2;have g0:=Ϲ (xs:=M) (i:=0) (by decide) (by lia);have g1:=Ϲ (xs:=M) (i:=1) (by decide) (by lia);have p1:0<=M.getD (1:Int).toNat 0:=J9 ab _;generalize M.getD (0:Int).toNat 0=w0 at g0 ⊢;generalize M.getD (1:Int).toNat 0=e at g1 p1 ⊢;refine Γ af g0 ⟨w0,rfl,by decide,?_⟩;have mm:=em w0 5 (by decide);obtain⟨m,ak⟩:∃m,m=1+w0%5:=⟨_,rfl⟩;rw[<-ak];have m1:1<=m:=by lia
 have Ζ:m<=5:=by lia
 clear ak mm;refine h4 _ _ (b9 λN6 h6=>?_);walk_at "";refine⟨by decide,λlo U=>h6 _ _ (b9 λN7 h7=>?_)⟩;walk_at "";refine⟨1,m,⟨rfl,rfl⟩,⟨by decide,by decide,by lia,by lia⟩,?_⟩;have ZM:H lo=none:=Uo.free U;refine Kr (λi σ S=>E9 λ(v:hR)(O:ix)(b:List Row)(v6 Y W X l o:Option V)=>σ=[some (V.ref a),some (V.int (c0%2)),some (V.ref ls),some (V.ref lt),some (V.int m),some (V.ref lo),v6,Y,W,X,l,o]/\δ H2 S/\S lo=some (.lst (v.map V.ref))/\ν S v O/\Rows i b/\X6 (oz m e) b O) ⟨[],[],[],_,_,_,_,_,_,rfl,δ.new _ U,au,.nil,⟨rfl,λi r h=>by cases h⟩,X6.nil _⟩ ?_ ?_
 .rintro i σ S N BB ϒ hN hi ⟨v,O,b,v6,Y,W,X,l,o,rfl,s3,hl3,ro3,R,P⟩;refine ϒ _ _ ?_;have k0:(1:Int)<=1+(i:Int):=by lia
  have k1:1+(i:Int)<m:=by lia
  generalize hk:(1:Int)+(i:Int)=d at k0 k1 ⊢;have dx:v.length=O.length:=Paired.length ro3;have rl:=R.len;have pl:=P.len;have gk:=Ϲ (xs:=M) (i:=d+1) (by lia) (by lia);have pk:0<=M.getD (d+1).toNat 0:=J9 ab _;generalize M.getD (d+1).toNat 0=B at gk pk;have gt:=Ϲ (xs:=ts) (i:=d) (by lia) (by lia);generalize ts.getD d.toNat 0=tk at gt;have C:=s3 _ _ af;have bK:=s3 _ _ e2;have hg:=em B d (by lia);obtain⟨u,bs⟩:∃u,u=B%d:=⟨_,rfl⟩;have u0:0<=u:=by lia
  have u1:u<d:=by lia
  refine b9 λM2 b3=>?_;walk_at "";refine Γ C gk ⟨B,rfl,by lia,Γ C g1 ⟨e,rfl,by lia,b3 _ _ (b9 λM3 a4=>?_)⟩⟩;rw[<-bs];walk_at "";refine Γ C g1 ⟨e,rfl,by lia,a4 _ _ (b9 λM4 a7=>?_)⟩;walk_at "";refine Γ bK gt ?_;refine⟨tk,rfl,λq2 G I a1 ac t1 b0 b1=>?_⟩;have s5:=δ.new (.tup [.int G,.int I]) a1;refine⟨q2,rfl,_,Α.of au,rfl,_,_,rfl,_,_,rfl,rfl,a7 _ _ (b9 λM5 a2=>?_)⟩;walk_at "";refine⟨bX (by simp),λq3 cl=>a2 _ _ (b9 λM6 ad=>?_)⟩;walk_at "";have s6:=δ.new (.tup [.int ((u+e)%m),.int ((d+e)%m),.int G,.int I]) cl;have Xa:=s5.trans s6;have ai:upd (upd S q2 (.tup [.int G,.int I])) q3 (.tup [.int ((u+e)%m),.int ((d+e)%m),.int G,.int I]) q3=some (.tup [.int ((u+e)%m),.int ((d+e)%m),.int G,.int I]):=au;generalize upd (upd S q2 (.tup [.int G,.int I])) q3 (.tup [.int ((u+e)%m),.int ((d+e)%m),.int G,.int I])=H6 at Xa ai ⊢;have bV:=Xa _ _ C;have lu:=Fn (s:=e) u0 (show u<m by lia);have lk:=Fn (s:=e) (show 0<=d by lia) k1;have put:∀(H7:Hp)(q:Addr)(f:Row)(Y W X l o:Option V),δ S H7->f.k=d->X5 f->H7 q=some (.tup (tm (qE (oz m e) f)))->VW K "list" (V.ref lo) H7/\DC K (V.ref ls) (V.int (d+1)) H7 λx H1=>∃i,x=V.int i/\Ob i 48/\∃y,(ι K H1 lo y\/Α K H1 lo y)/\0<(y.length:Int)+1/\Ua (V.ref lo) [V.int (i/48%((y.length:Int)+1)),V.ref q] H1 λ_ H2=>N [some (V.ref a),some (V.int (c0%2)),some (V.ref ls),some (V.ref lt),some (V.int m),some (V.ref lo),some (V.int d),Y,W,X,l,o] H2:=by
   intro H7 q f Y W X l o s7 rk br J;have z:=s7 _ _ hl3;have sp:=em (B/48) ((v.length:Int)+1) (by lia);refine⟨S9 z,Γ (s7 _ _ C) gk ⟨B,rfl,cd _ _ (by decide) (by decide),_,.inl (ι.of z),by lia,?_⟩⟩;rw[ag];refine SW z sp.1 (by rw[ag];lia) (d8 (by rw[ag];lia)) (hN _ _ ⟨v.take (B/48%((v.length:Int)+1)).toNat++q::v.drop (B/48%((v.length:Int)+1)).toNat,O.take (B/48%((v.length:Int)+1)).toNat++qE (oz m e) f::O.drop (B/48%((v.length:Int)+1)).toNat,b++[f],_,_,_,_,_,_,rfl,?_,?_,?_,?_,P.step f _⟩)
   .exact(s3.trans s7).put U _
   .rw[au,aq,aE,List.map_take,nj]
   .exact ν.ins _ (Paired.imp' (λp r h=>Il _ _ _ h (cZ h z (by nofun))) (ν.same s7 ro3)) (Il _ _ _ J (cZ J z (by nofun)))
   .refine⟨by rw[aH,rl];rfl,λj r hj=>?_⟩;by_cases WX:j<b.length
    .rw[eJ WX]at hj;exact R.ok j r hj
    .have hj2:j=b.length:=by
      have:=(ax.mp hj).1;rw[aH]at this;simp at this
      lia
     rw[hj2,dc (aJ _),dY]at hj;cases hj;exact⟨by lia,br⟩
  refine Γ bV gk ⟨B,rfl,cd _ _ (by decide) (by decide),by decide,?_⟩;by_cases c:B/24%2=1
  .rw[aj c];refine⟨bX (by simp),λq4 a8=>ad _ _ ?_⟩;walk_at "";refine put _ q4 ⟨d,u,I,G,0,0⟩ _ _ _ _ _ (Xa.trans (δ.new _ a8)) rfl ⟨u0,u1,b0,b1,ac,t1,bO _,by show(0:Int)<d;lia⟩ ?_;rw[au];unfold qE;rw[ah (show ¬(0:Int)=1 by decide)];show _=some (HO.tup [V.int ((oz m e).getD d.toNat 0),V.int ((oz m e).getD u.toNat 0),V.int I,V.int G]);rw[lu,lk]
  .rw[ah c];refine ad _ _ ?_;walk_at "";refine put _ q3 ⟨d,u,G,I,1,0⟩ _ _ _ _ _ Xa rfl ⟨u0,u1,ac,t1,b0,b1,bO _,by show(0:Int)<d;lia⟩ ?_;rw[ai];unfold qE;rw[aj rfl];show _=some (HO.tup [V.int ((oz m e).getD u.toNat 0),V.int ((oz m e).getD d.toNat 0),V.int G,V.int I]);rw[lu,lk]
 .rintro BB σ S ϒ ⟨v,O,b,v6,Y,W,X,l,o,rfl,s3,hl3,ro3,R,P⟩;refine ϒ _ _ ?_;have g:=Q4 (n:=m.toNat) (by lia) (by lia) (Ph m1) (by rw[show m.toNat-1=(m-1).toNat by lia];exact R) P;rw[cB (by lia)]at g;walk_at "";refine h7 _ _ ?_;walk_at "";refine⟨bX (by simp),λt nt=>?_⟩;have s4:=δ.new (.tup [.int m,.ref lo]) nt;exact k t lo m v O _ ((Uo.trans s3).free nt) ZM (Uo.trans (s3.trans s4)) au (s4 _ _ hl3) (ν.same s4 ro3) g Ζ
def K0(K:hO):Sp:=λd H Q _=>∃(a:Addr)(b:fc),d=[.ref a]/\ι K H a (b.map V.int)/\b.length<=63/\∀c,Q (.bl true) c
def Rq(T:Txt K L):Sp:=K0 K
def V6(d c:Addr)(H:Hp)(q:Addr)(s:List Int×List Int):Prop:=∃a b,H q=some (.tup [.ref a,.ref b])/\H a=some (.lst (s.1.map V.int))/\H b=some (.lst (s.2.map V.int))/\(a≠d/\a≠c)/\b≠d/\b≠c
def V6.UW{d f l:Addr}{H g:Hp}{q:Addr}{s:List Int×List Int}{k:List V}(i:l=d\/l=f)(e:Ϙ l H g)(j:H l=some (.lst k))(h:V6 d f H q s):V6 d f g q s:=by
 obtain⟨a,b,x,y,z,c,nb⟩:=h;refine⟨a,b,e _ _ x (cZ x j (by nofun)),e _ _ y ?_,e _ _ z ?_,c,nb⟩
 .rcases i with rfl|rfl
  .exact c.1
  .exact c.2
 .rcases i with rfl|rfl
  .exact nb.1
  .exact nb.2
structure Iv(C O:Addr)(H:Hp)(l lr o wb pl t1 x tw sl:Addr)(m:Int)(ps:hR)(rs:ix)(cs:fc)(D S:List (List Int×List Int)):Prop where
 hl:H l=some (.lst (ps.map V.ref))
 hr:H lr=some (.lst (cs.map V.int))
 ro:ν H ps rs
 we:θ C H x m tw ps rs
 dk:π C O H o wb pl m t1 ps rs D
 st:∃qs:List Addr,H sl=some (.lst (qs.map V.ref))/\Paired (V6 sl pl H) qs S
 ne:sl≠pl/\(l≠sl/\l≠pl)/\lr≠sl/\lr≠pl
section
variable{C O:Addr}{H g:Hp}{l u o j f i x t c:Addr}{m:Int}{p:hR}{k:ix}{r:fc}{D w S v:List (List Int×List Int)}{s:List Int×List Int}
def Iv.same(e:δ H g)(h:Iv C O H l u o j f i x t c m p k r D S):Iv C O g l u o j f i x t c m p k r D S:=⟨e _ _ h.hl,e _ _ h.hr,ν.same e h.ro,h.we.same e,h.dk.same e,let ⟨qs,h1,h2⟩:=h.st;⟨qs,e _ _ h1,Paired.imp' (λq s ⟨a,b,x,y,z,n⟩=>⟨a,b,e _ _ x,e _ _ y,e _ _ z,n⟩) h2⟩,h.ne⟩
def Iv.kS{qs:hR}(h:Iv C O H l u o j f i x t c m p k r D S)(e:Ϙ c H g)(n:g c=some (.lst (qs.map V.ref)))(d:Paired (V6 c f g) qs v):Iv C O g l u o j f i x t c m p k r D v:=by
 obtain⟨b,a,y⟩:=h.st;exact⟨e _ _ h.hl h.ne.2.1.1,e _ _ h.hr h.ne.2.2.1,Paired.imp' (λq x z=>e _ _ z (cZ z a (by nofun))) h.ro,h.we.WC e a,h.dk.UW e a (Ne.symm h.ne.1),⟨qs,n,d⟩,h.ne⟩
def Iv.kD(h:Iv C O H l u o j f i x t c m p k r D S)(e:Ϙ f H g)(d:π C O g o j f m i p k w):Iv C O g l u o j f i x t c m p k r w S:=by
 obtain⟨b,a,B⟩:=h.dk.pa;obtain⟨n,A,y⟩:=h.st;exact⟨e _ _ h.hl h.ne.2.1.2,e _ _ h.hr h.ne.2.2.2,Paired.imp' (λq x z=>e _ _ z (cZ z a (by nofun))) h.ro,h.we.WC e a,d,⟨n,e _ _ A h.ne.1,Paired.imp' (λq s x=>V6.UW (.inr rfl) e a x) y⟩,h.ne⟩
def Iv.last(h:Iv C O H l u o j f i x t c m p k r D (S++[s])):E4 λ(d:hR)(q a b:Addr)=>H c=some (.lst ((d++[q]).map V.ref))/\Paired (V6 c f H) d S/\ϳ ((d++[q]).map V.ref) (-1)=some (.ref q)/\H q=some (.tup [.ref a,.ref b])/\H a=some (.lst (s.1.map V.int))/\H b=some (.lst (s.2.map V.int))/\d.length=S.length:=by
 obtain⟨d,E,z⟩:=h.st;obtain⟨e,q,rfl,n,a,b,A,B,y,_⟩:=tf z;refine⟨e,q,a,b,E,n,?_,A,B,y,Paired.length n⟩;rw[aq];exact Er _ _
end
abbrev zK:Stmt:=top 127
def Ry:ε ["script","many","roads","web","desk","states","cell","deed","numbers","behind_v","row","due","found"] ["script"] (aA zK):=.of
def CB:Ψ (aA zK) "Web":=.of
def Ay:Ψ (aA zK) "Desk":=.of
def wX:Ψ (aA zK) "str":=.of
def RD(T:Txt K L)(hq:bI (τ P w)){f:Addr}{fd:FuncData}(D:Df K L "law" zK ["script"] f fd)(lS:Cm P w K L base (Mk K T.Desk) "__init__" "Desk.__init__" oA ["self","web"] 5 (qb T))(fq:Cm P w K L base (Meth K T.Desk "answer") "answer" "Desk.answer" ip ["self","row"] 63 (rF T))(bK:nI P w base T)(ce:pN P w base T)(gW:wa P w base T)(tS:Cb P w K L base "_law_behind" t7 ["roads","held","wish","deed","numbers"] 2 (xH T))(xw:Cb P w K L base "_law_deed" qL ["cell","many","roads"] 1 (Aq T))(rP:Cb P w K L base "_law_question" rE ["web","held","wish","cell"] 62 (uT T))(vP:Cb P w K L base "_law_roads" rT ["script"] 2 (yY T))(eG:sd P w base T):ϋ P w K L base (τ P w) 65 f fd ["script"] (Rq T):=by
 refine D.F.Ο Ry λο A fj s H vs Q E hr h=>?_;obtain⟨a,ns,rfl,ha,hn,k⟩:=h;have hv:=hr.units;refine⟨_,(aw (jv (Θ vP hr hq (aa (γ 0) ap)) (iH (n:=2) rfl (bQ (ϊ 1) (bQ (ϊ 2) fI)))) (aw (Κ 3 (vX gW.M gW.G (hr.mono (by decide)) CB.g T.Yh gW.b .nil (d7 hq) (aa (γ 1) (aa (γ 2) ap)) (hdb:=CB.d))) (aw (Κ 4 (vX lS.M lS.G (hr.mono (by decide)) Ay.g T.Ze lS.b .nil (d7 hq) (aa (γ 3) ap) (hdb:=Ay.d))) (aw (Κ 5 (eK (aa (hV (aa (aX oO (eK (aa aD ap)) (γ 1)) (aa (aX oO (eK (aa aD ap)) (γ 1)) ap))) ap))) (aw (gf PassesOwn.never rfl (iB (aX Ir (AU DF (γ 0) D8 (Ea aD)) (eK (aa aD (aa aD ap))))) (ϊ 6) (aw (jv (Θ xw hr hq (aa (γ 6) (aa (γ 1) (aa (γ 2) ap)))) (iH (n:=2) rfl (bQ (ϊ 7) (bQ (ϊ 8) fI)))) (aw (Κ 9 qC) (aw (bU (Ν pj (γ 7) bH) (ay (Κ 9 (Θ tS hr hq (aa (γ 2) (aa (ψ eM (jR bu (γ 5) (lz jo aD) (λ_ _=>rfl)) aD) (aa (ψ eM (jR bu (γ 5) (lz jo aD) (λ_ _=>rfl)) aD) (aa (γ 7) (aa (γ 8) ap)))))))) bE) (aw (bU (Dn (QP (γ 9))) (aw (cI (TV (γ 5) (γ 9))) (ay (bU (tF pj (nV (γ 4) T.η fq.M fq.G (hr.mono (by decide)) fq.b .nil (d7 hq) (aa (aX gK (aX gK (γ 7) bH) (Θ eG hr hq (aa (γ 8) ap))) ap)) bH (kY _)) (ay (aY zh)) bE))) (ay (bU (PW.pt (tU (Ν cN (γ 7) bH) (rB (Ν wS (TB gP T.len (aa (γ 5) ap)) aD)))) (aw (cI (x9 dv PySem.F.slot_list_pop PySem.F.type_list_pop x6 (γ 5))) (ay (bU (Ν pj (nV (γ 4) T.η fq.M fq.G (hr.mono (by decide)) fq.b .nil (d7 hq) (aa bH ap)) bH) (ay (aY zh)) bE))) bE))) (aw (jv (Θ rP hr hq (aa (γ 3) (aa (ψ eM (jR bu (γ 5) (lz jo aD) (λ_ _=>rfl)) aD) (aa (ψ eM (jR bu (γ 5) (lz jo aD) (λ_ _=>rfl)) aD) (aa (aX eY (γ 6) aD) ap))))) (iH (n:=2) rfl (bQ (ϊ 10) (bQ (ϊ 11) fI)))) (aw (Κ 12 (nV (γ 4) T.η fq.M fq.G (hr.mono (by decide)) fq.b .nil (d7 hq) (aa (γ 10) ap))) (ay (bU (PW.pt (zy (nM (lL (TB I0 T.isinstance (aa (γ 12) (aa (Qi (v:=.ty "str") wX.g T.str Mr rfl (hn:=wX.n) (hd:=wX.d)) ap))))) (zy (Ν pj (γ 12) (γ 11)) (CQ (Ν pj (nV (γ 4) T.η fq.M fq.G (hr.mono (by decide)) fq.b .nil (d7 hq) (aa (γ 10) ap)) (γ 11)))))) (ay (aY zh)) bE))))))))) (ay (aY (vR (jU (Nu hv) (gu (γ 4) T.η bK.M bK.G (hr.mono (by decide)) bK.b .nil (d7 hq)) (iO gi T.tuple (aa (ψ eM (jR bu (γ 5) (lz jo aD) (λ_ _=>rfl)) aD) ap)) (kY _)) (wB (jU (Nu hv) (gu (γ 4) T.η ce.M ce.G (hr.mono (by decide)) ce.b .nil (d7 hq)) (iO gi T.tuple (aa (ψ eM (jR bu (γ 5) (lz jo aD) (λ_ _=>rfl)) aD) ap)) (kY _))))))))))),?_⟩;walk_at "s";unfold tSl F1 Tj;refine b9 λN1 h1=>?_;walk_at "";refine⟨a,ns,rfl,ha,λt l m Y rs H1 nt nl s1 et el ro g m5=>?_⟩;have m1:=g.m1;have Ζ:=g.Ζ;have mp:0<m:=by lia
 refine⟨t,rfl,_,Α.of et,rfl,_,_,rfl,_,_,rfl,rfl,h1 _ _ (b9 λN2 h2=>?_)⟩;walk_at "";refine Mu T (c:=true) (ι.of el) ro g λx tw H2 hx iy s2 W=>h2 _ _ (b9 λN3 h3=>?_);walk_at "";refine Qq T W λo wb O t1 H4 no dS s3 D1=>h3 _ _ (b9 λN5 h5=>?_);have eo:l≠O:=λz=>by rw[<-z,s2 _ _ el]at dS;cases dS
 have du:=s1.trans (s2.trans s3);have ct:=(s2.trans s3) _ _ el;have ew:=ν.same (s2.trans s3) ro;have W4:=W.same s3;clear W s2 s3 el ro et;have bv:∀{C:Hp}{Q':VK},(∀p Z,C p=none->δ C Z->Z p=some (.lst ((aC m).map V.int))->Q' (.ref p) Z)->[V.int 0].length<=sizeLine/\∀(p:Addr),C p=none->aah (V.ref p) (V.int m) (upd C p (.lst [V.int 0])) Q':=λ{C Q'} q=>⟨by decide,λp np=>by
  have v1:=δ.new (.lst [V.int 0]) np;refine⟨p,m,[V.int 0],rfl,rfl,au,by lia,by lia,bX (by simp;lia),λp2 ex=>?_⟩;rw[rm,<-DV];exact q p2 _ (v1.free ex) (v1.trans (δ.new _ ex)) au⟩
 walk_at "";refine bv λz1 H5 b3 s5 e5=>bv λz2 H6 b0 s6 e6=>⟨bX (by simp),λB dV=>⟨bX (by simp),λj bV=>?_⟩⟩;have s7:=δ.new (.tup [V.ref z1,V.ref z2]) dV;have s8:=δ.new (.lst [V.ref B]) bV;have cx:=s8 _ _ (au (H:=H6) (a:=B) (o:=.tup [V.ref z1,V.ref z2]));have a7:upd (upd H6 B (.tup [V.ref z1,V.ref z2])) j (.lst [V.ref B]) j=some (.lst [V.ref B]):=au;have a0:=s7.trans s8;have Ys:=s5.trans (s6.trans a0);have VR:=s7.free bV;have ea:=(s5.trans s6).free VR;generalize upd (upd H6 B (.tup [V.ref z1,V.ref z2])) j (.lst [V.ref B])=H7 at cx a7 a0 Ys ⊢;obtain⟨qd,gd,_⟩:=D1.pa;have bS:∀{p:Addr}{y:HO},H4 p=some y->p≠j:=λh z=>by rw[z,ea]at h;cases h
 have ei:=Ys _ _ gd;refine h5 _ _ (b9 λN6 h6=>?_);walk_at "";refine slI (δ.seq (du.trans Ys) ha) λp np=>⟨bX (by simp),λq nq=>?_⟩;have cl:=Pq ns none (some 24);generalize wE ns none (some 24)=J at cl np nq ⊢;have s8:=δ.new (HO.lst (J.map V.int)) np;have s9:=δ.new (HO.lst [V.int 4,V.int 6]) nq;refine Oe (s9 _ _ au) au (bX (by rw[ag];simp;lia)) λlr ZN=>?_;have Xd:=(s8.trans s9).trans (δ.new (HO.lst (J.map V.int++[V.int 4,V.int 6])) ZN);have bx:upd (upd (upd H7 p (.lst (J.map V.int))) q (.lst [V.int 4,V.int 6])) lr (.lst (J.map V.int++[V.int 4,V.int 6])) lr=some (.lst ((J++[4,6]).map V.int)):=by rw[au,aq];rfl
 have WL:=(s8.trans s9).free ZN;generalize upd (upd (upd H7 p (.lst (J.map V.int))) q (.lst [V.int 4,V.int 6])) lr (.lst (J.map V.int++[V.int 4,V.int 6]))=H8 at Xd bx ⊢;have I8:Iv T.Web T.Desk H8 l lr o wb O t1 x tw j m Y rs (J++[4,6]) [(aC m,aC m)] [(aC m,aC m)]:=by
  refine Iv.same (H:=H8) (δ.refl _) ⟨Xd _ _ (Ys _ _ ct),bx,ν.same (Ys.trans Xd) ew,W4.same (Ys.trans Xd),D1.same (Ys.trans Xd),⟨[B],Xd _ _ a7,.cons ⟨z1,z2,Xd _ _ cx,Xd _ _ (a0 _ _ (s6 _ _ e5)),Xd _ _ (a0 _ _ e6),⟨?_,?_⟩,?_,?_⟩ .nil⟩,(bS gd).symm,⟨bS ct,eo⟩,?_,?_⟩
  .exact λz=>by rw[<-z,s6 _ _ e5]at VR;cases VR
  .exact λz=>by rw[z,gd]at b3;cases b3
  .exact λz=>by rw[<-z,e6]at VR;cases VR
  .exact λz=>by rw[z,s5 _ _ gd]at b0;cases b0
  .exact λz=>by rw[z,a7]at WL;cases WL
  .exact λz=>by rw[z,ei]at WL;cases WL
 clear Xd bx WL ZN s8 s9 np nq ei gd bS ea VR Ys a0 a7 cx s7 bV dV e5 e6 s5 s6 b3 b0 D1 W4 ew ct du eo bv h1 h2 h3 h5;refine⟨lr,rfl,⟨_,ι.of I8.hr⟩,?_⟩;have ln:(J++[4,6]).length<=65:=by rw[aH];show _+2<=_;lia
 generalize J++[4,6]=J at I8 ln ⊢;have gx:∀{C:Hp}{D S:List (List Int×List Int)}{s:List Int×List Int}{R:VK},Iv T.Web T.Desk C l lr o wb O t1 x tw j m Y rs J D (S++[s])->(∀y Z,Iv T.Web T.Desk Z l lr o wb O t1 x tw j m Y rs J D S->R y Z)->YM (V.ref j) [] C R:=λ{C D S s R} I q=>by
  obtain⟨qs,B,a',b',g1,g2,g3,g4,g5,g6,g7⟩:=I.last;have kp:Ϙ j C (upd C j (.lst (qs.map V.ref))):=Ϙ.refl.put _;refine⟨j,_,V.ref B,rfl,rfl,g1,?_,?_⟩
  .rw[aq,aH,aE,cH,aO,dA,show(qs.map V.ref).length+(0+1)-1=(qs.map V.ref).length by lia,dc (aJ _),dY]
   rfl
  .rw[aq,aE,cH,jV];exact q _ _ (I.kS kp au (Paired.imp' (λq s x=>V6.UW (.inl rfl) kp g1 x) g2))
 have gw:∀{C:Hp}{D S:List (List Int×List Int)}{s:List Int×List Int}{B:Addr}{R:VK},Iv T.Web T.Desk C l lr o wb O t1 x tw j m Y rs J D S->V6 j O C B s->S.length<=1000->(∀y Z,Iv T.Web T.Desk Z l lr o wb O t1 x tw j m Y rs J D (S++[s])->Ϙ j C Z->R y Z)->rW (V.ref j) [V.ref B] C R:=λ{C D S s B R} I st sl' q=>by
  obtain⟨qs,g1,g2⟩:=I.st;have kp:Ϙ j C (upd C j (.lst (qs.map V.ref++[V.ref B]))):=Ϙ.refl.put _;refine⟨j,_,_,rfl,rfl,g1,d8 (by rw[ag,Paired.length g2];lia),?_⟩;exact q _ _ (I.kS (qs:=qs++[B]) kp (by rw[au,aq];rfl) (p4 (V6.UW (.inl rfl) kp g1 st) (Paired.imp' (λq s x=>V6.UW (.inl rfl) kp g1 x) g2))) kp
 have a5:∀{C:Hp}{D:List (List Int×List Int)}{S S':List (List Int×List Int)}{s:List Int×List Int}{z:Str}{r:Sum Str Nat}{n:Nat}{Q':VK},Iv T.Web T.Desk C l lr o wb O t1 x tw j m Y rs J (S++[s]) D->S.length<=500->Sz m n s->TJ m rs S s z r S'->(∀Z,Iv T.Web T.Desk Z l lr o wb O t1 x tw j m Y rs J S' D->Ϙ O C Z->Q' (.str (BE r)) Z)->rF T [.ref o,.str z] C Q' E0:=λ{C D S S' s z r n Q'} I j sz ra q=>by
  have ff:=sz.fil;exact⟨o,wb,O,t1,m,Y,rs,S,s,z,r,S',rfl,I.dk,j,oS sz.l1 ff.1,oS sz.l2 ff.2,ra,λZ e8 kp=>q Z (I.kD kp e8) kp⟩
 refine jM (K:=K) (xs:=J.map V.int) (λi σ H8=>E8 λ(U:List (List Int×List Int))(v6 v7 v8 v9 am an ar:Option V)=>Iv T.Web T.Desk H8 l lr o wb O t1 x tw j m Y rs J U U/\(∀s∈U,Sz m i s)/\U≠[]/\U.length<=i+1/\σ=[some (V.ref a),some (V.int m),some (V.ref l),some (V.ref x),some (V.ref o),some (V.ref j),v6,v7,v8,v9,am,an,ar]) ⟨_,_,_,_,_,_,_,_,I8,Rb (by lia),by simp,by simp,rfl⟩ (λi σ H8 _ ⟨_,_,_,_,_,_,_,_,z,_⟩=>ι.of z.hr) ?_ ?_
 .rintro i y σ H8 N BB ϒ hN hy ⟨U,v6,v7,v8,v9,am,an,ar,I8,ok8,ne8,XQ,rfl⟩;have il:=(ax.mp hy).1;rw[ag]at il;obtain⟨c,_,rfl⟩:=List.μ hy;refine ϒ _ _ (b9 λM1 k1=>?_);walk_at "";refine⟨l,c,m,Y,rs,rfl,I8.hl,I8.ro,g,λq b H9 X ej bd nb s9 eq eb=>⟨q,rfl,_,Α.of eq,rfl,_,_,rfl,_,_,rfl,rfl,k1 _ _ (b9 λM2 k2=>?_)⟩⟩;have I9:=I8.same s9;obtain⟨iA,g8,_⟩:=I8.st;obtain⟨im,gr,_⟩:=I8.dk.pa;have e9:b≠j:=λz=>by rw[z,g8]at nb;cases nb
  walk_at "";refine k2 _ _ (b9 λM3 k3=>lJ λA3 B3 ef dt=>?_);obtain⟨S,s,e⟩:=(fG U).resolve_left ne8;rw[fK]at e;subst e;have sz:=ok8 s (by simp);have hH:S.length<=i:=by rw[aH]at XQ;simp at XQ;lia
  have ey:S.length<=500:=by lia
  have mono:∀z∈S++[s],Sz m (i+1) z:=λz hz=>(ok8 z hz).mono (by lia);have Zx:∀(Ve:Hp)(v9:V),Iv T.Web T.Desk Ve l lr o wb O t1 x tw j m Y rs J (S++[s]) (S++[s])->Ve b=some (.lst (X.ns.map V.int))->(v9=.ξ\/∃q s',v9=.ref q/\Za rs s X=some s'/\V6 j O Ve q s'/\∀v n,X≠.back v n)->M3 [some (V.ref a),some (V.int m),some (V.ref l),some (V.ref x),some (V.ref o),some (V.ref j),some (V.int c),some (V.str X.wd),some (V.ref b),some v9,am,an,ar] Ve:=λVe v9 ZQ fl hc=>by
   refine k3 _ _ (b9 λM4 k4=>lJ λA4 B4 ca cn=>?_);have nx:∀(Up:Hp)(U:List (List Int×List Int)),Iv T.Web T.Desk Up l lr o wb O t1 x tw j m Y rs J U U->(∀s∈U,Sz m (i+1) s)->U≠[]->U.length<=i+2->M4 [some (V.ref a),some (V.int m),some (V.ref l),some (V.ref x),some (V.ref o),some (V.ref j),some (V.int c),some (V.str X.wd),some (V.ref b),some v9,am,an,ar] Up:=λUp U ZR eh ds WM=>by
    obtain⟨S,s,e⟩:=(fG U).resolve_left ds;rw[fK]at e;subst e;have sz:=eh s (by simp);have dw:S.length<=500:=(by rw[aH]at WM;simp at WM;lia);refine k4 _ _ (b9 λM5 k5=>?_);obtain⟨qs,B,a',b',g1,g2,g3,g4,g5,g6,g7⟩:=ZR.last;walk_at "";refine Γ g1 g3 ⟨B,_,0,_,rfl,rfl,Α.of g4,rfl,Γ g1 g3 ⟨B,_,1,_,rfl,rfl,Α.of g4,rfl,⟨by decide,by decide⟩,?_⟩⟩;refine⟨x,a',b',tw,m,Y,rs,s.1,s.2,_,i+1,rfl,ZR.we,m5,g5,g6,sz,by lia,λq z r br ϙ eq ra=>⟨q,rfl,_,Α.of eq,rfl,_,_,rfl,_,_,rfl,rfl,k5 _ _ (b9 λM6 k6=>?_)⟩⟩;have Zv:=ZR.same ϙ;walk_at "";refine Zv.dk.Τ (a5 Zv dw sz (ra S) λgy ep _=>k6 _ _ ?_);walk_at "";refine⟨_,_,_,true,rfl,.str _,λcv r=>by cases(show cv=.type "str" from r);rfl,true,rfl,?_⟩;rw[ah (by decide),ah (λz=>z trivial)];refine ep.dk.Τ (a5 ep dw sz (ra S) λed bs _=>⟨rfl,?_⟩);rw[ah λz=>z rfl];exact hN _ _ ⟨_,_,_,_,_,_,_,_,bs,eh,ds,WM,rfl⟩
   rcases hc with rfl|⟨q,s',rfl,gn,Uz,ba⟩
   .walk_at "";refine cn _ _ (lJ λA5 B5 fa eu=>?_);clear ca cn k3;walk_at "";by_cases av:∃v n,X=.back v n
    .obtain⟨v,n,eD⟩:=av;obtain⟨ia,g9,p9⟩:=ZQ.st;refine TF (by rw[eD];rfl) ⟨_,.inl (ι.of g9),?_⟩;rw[ag,Paired.length p9];by_cases z1:(1:Int)<(S++[s]).length
     .refine TF z1 (fa _ _ ?_);walk_at "";have es:S≠[]:=λz=>by rw[z]at z1;simp at z1
      have ev:=LG (m:=m) (rs:=rs) (k:=0) rfl (λk hk=>by cases hk) (.back (s:=s) es);rw[JU]at ev;refine⟨.inl ⟨rfl,_,ι.of g9⟩,gx ZQ λ_ Up ZR=>ZR.dk.Τ (a5 ZR ey sz ev λbr Zv _=>⟨rfl,?_⟩)⟩;rw[ah λz=>z rfl];exact nx br S Zv (λz hz=>mono z (bJ _ hz)) es (by lia)
     .exact As z1 (eu _ _ (nx Ve _ ZQ mono (by simp) (by lia)))
    .exact As (J8 λv n z=>av ⟨v,n,z⟩) (eu _ _ (nx Ve _ ZQ mono (by simp) (by lia)))
   .obtain⟨qs2,h2',_⟩:=ZQ.st;have dx:=Sr g ej bd gn sz S;walk_at "";refine ca _ _ ?_;clear ca cn k3;walk_at "";refine⟨.inl ⟨rfl,_,ι.of h2'⟩,gw ZQ Uz (by lia) λ_ br Zv fk=>?_⟩;have fv:=fk _ _ fl e9;have l3:X.ns.length<=3/\X.ns≠[]:=Sn X;have bt:∀y∈X.ns,Bt y:=λy hy=>o9 (n:=200) (by have:=bd y hy;lia) (by decide);have wl:=zw bt;have dl:X.wd.length<=20:=Ss X;have l1:(Str.ofString " ").length=1:=rfl;refine Zv.dk.Τ ⟨_,rfl,_,rfl,bX (by lia),b,true,X.ns,rfl,fv,by lia,bt,λgy T5=>⟨_,rfl,_,rfl,bX (by rw[nP];lia),?_⟩⟩;rw[MM l3.2 λy hy=>(bd y hy).1];refine a5 (Zv.same T5) ey sz dx.1 λed bs _=>⟨rfl,?_⟩;rw[ah λz=>z rfl];exact nx ed _ bs (Pg ok8 dx.2) (by simp) (by rw[aH];simp at XQ ⊢;lia)
  by_cases av:∃v n,X=.back v n
  .obtain⟨v,n,eD⟩:=av;walk_at "";exact As (λz=>z (by rw[eD];rfl)) (dt _ _ (Zx H9 .ξ I9 eb (.inl rfl)))
  .have ba:∀v n,X≠.back v n:=λv n z=>av ⟨v,n,z⟩;walk_at "";refine TF (J8 ba) (ef _ _ ?_);clear ef dt k2;walk_at "";obtain⟨qs,B,a',b',g1,g2,g3,g4,g5,g6,g7⟩:=I9.last;have fr:∀{p:Addr},H9 p=none->p≠j/\p≠O:=λhp=>⟨λz=>(by rw[z,s9 _ _ g8]at hp;cases hp),λz=>(by rw[z,s9 _ _ gr]at hp;cases hp)⟩;refine Γ g1 g3 ⟨B,_,0,_,rfl,rfl,Α.of g4,rfl,Γ g1 g3 ⟨B,_,1,_,rfl,rfl,Α.of g4,rfl,?_⟩⟩;exact⟨l,a',b',b,Y,rs,m,s,X,rfl,I9.hl,I9.ro,g,g5,g6,eb,sz.l1,sz.l2,ej,ba,λ_ Up Ym=>Zx Up .ξ (I9.same Ym) (Ym _ _ eb) (.inl rfl),λs' Z2 q a2 b2 Up Ym fb gs e1 e2 e3=>Zx Up (.ref q) (I9.same Ym) (Ym _ _ eb) (.inr ⟨q,s',rfl,Z2,⟨a2,b2,e1,e2,e3,fr fb,fr gs⟩,ba⟩)⟩
 .rintro BB σ H8 ϒ ⟨U,v6,v7,v8,v9,am,an,ar,I8,ok8,ne8,XQ,rfl⟩;refine ϒ _ _ (h6 _ _ ?_);walk_at "";obtain⟨S,s,e⟩:=(fG U).resolve_left ne8;rw[fK]at e;subst e;obtain⟨qs,B,a',b',g1,g2,g3,g4,g5,g6,g7⟩:=I8.last;refine I8.dk.Τ ⟨o,wb,O,t1,m,Y,rs,S,s,rfl,I8.dk,λd1 e1=>Γ g1 g3 ⟨B,_,0,_,rfl,rfl,Α.of g4,rfl,a',rfl,_,.inl ⟨ι.of g5,λu nu=>?_⟩⟩⟩;have u1:=δ.new (HO.tup (s.1.map V.int)) nu;refine Hi (u1 _ _ e1) au ⟨_,rfl,?_⟩;rw[aj (bo rfl)];have I9:=I8.same u1;refine I9.dk.Τ ⟨o,wb,O,t1,m,Y,rs,S,s,rfl,I9.dk,λd2 e2=>Γ (u1 _ _ g1) g3 ⟨B,_,1,_,rfl,rfl,Α.of (u1 _ _ g4),rfl,b',rfl,_,.inl ⟨ι.of (u1 _ _ g6),λu2 fW=>Hi (δ.new _ fW _ _ e2) au ?_⟩⟩⟩;rw[bo rfl];exact k _
end
def walk{l:PySem.W.OpenLaw}{q:Program}{c:hX}{XP:(Str->Option Value)->Heap->Prop}{m:World->Heap->Prop}{d:DefRec}{K:Params->PySem.W.Frag}(y:l.most=some 63)(g:d.params.defaults=[])(p:∀(w:World) (h:Heap),m w h->(K w.params).In h)(F:∀(w:World) (e:hU) (j:Addr) (h:Heap),(K w.params).In h->h.Ns mainGlobals e->e d.name=some (.ref j)->∃i:FuncData,(∀(s:Shared) (u:Value),BindsTo s i ⟨[u],[]⟩ [("script",u)])/\∀b:Heap,(K w.params).In b->b.Ns mainGlobals e->ϋ l.prog w (K w.params) e b (τ l.prog w) 65 j i ["script"] (K0 (K w.params))):PySem.W.WalkO q c XP m l.row.toRowW d [] (λf r=>PySem.call f r):=L2.Xp (n:=63) (k:=65) (x:="script") (CX:=λw=>τ l.prog w) (sp:=λw=>K0 (K w.params)) y (by decide) g ⟨rfl,by decide,by decide⟩ p F (λ_ _ a t o _ v=>⟨a,t,rfl,v,o,λ_=>rfl⟩) λ_ _ _ _ _ z=>bz _ _ _ _ _ z
end Pk
open L2
open PySem PySem.W PyProof.Rows
set_option maxRecDepth 100000 in
set_option maxHeartbeats 0 in
theorem PySem.Challenge.cw_pebbletoll_k63_questions_answered_holds : PySem.Challenge.rw_pebbletoll_k63_questions_answered.Holds := by
 w_on;refine PySem.W.holds_law Hd.ws λamv=>?_
 refine PySem.W.holds_open (q:=Hd.qq) (loose:=["NUMBERS_BEHIND"]) (Xt:=(λs=>PySem.W.xlAt Hd.qq [] s&&PySem.W.recOk (PySem.W.RowW.records (PySem.W.OpenRow.toRowW (PySem.Challenge.rw_pebbletoll_k63_questions_answered).row)) s)) (XP:=PySem.W.XL Hd.qq []) (Yf:=PySem.W.Hook.obs (PySem.W.kHook Hd.KK Hd.VU Hd.ϛ)) (Ya:=PySem.W.Hook.val (PySem.W.kHook Hd.KK Hd.VU Hd.ϛ)) (YP:=PySem.W.Hook.says (PySem.W.kHook Hd.KK Hd.VU Hd.ϛ)) (N:=13356) Hd.left (PySem.W.Hook.of (PySem.W.kHook Hd.KK Hd.VU Hd.ϛ)) (PySem.W.Hook.keeps (PySem.W.kHook Hd.KK Hd.VU Hd.ϛ)) (λs e=>PySem.W.xl_of s (oE.mp e).1) PySem.W.XL.keeps (by rfl) (by rfl) (by rfl) (λs e=>PySem.W.recFacts_of (oE.mp e).2) (by rfl) (by assumption) (by decide +kernel) ⟨rfl,rfl,rfl,rfl,rfl,by decide +kernel⟩ ?hw ?hc
 (case hw=>w_witness2)
 k_fill
 refine Pk.walk (l:=PySem.Challenge.rw_pebbletoll_k63_questions_answered) rfl rfl (λw h Y=>PySem.W.kIn_of Y) λw mg fa h X G hmg=>?_
 let T:Pk.Txt (Hd.KK w.params) mg:=by
  constructor
  all_goals first|exact kF X G (by k_is)|exact PySem.W.mg_none_of X G (by k_is)|exact⟨_,kF X G (by k_is)⟩|k_is|exact Pb.afJ (by k_is)|exact⟨by k_is,by k_is,by k_is,by k_is⟩|exact⟨by k_is,by k_is,by k_is⟩|decide|exact QG (by k_is) (by k_is) (by k_is) (by k_is) (by k_is) (by k_is) (by k_is) (by k_is) (by rfl)|exact Rk (by k_is) (by k_is) (by k_is) (by k_is) (by k_is) (by k_is) (by k_is) (by k_is) (by rfl)|exact QS _ _ _ _ _ _ _ _ _ _ _ _ _ _ _ _ (by k_is) (by rfl) (by kernel_rfl) (by k_is) (by kernel_rfl)|exact acN (by k_is) (by rfl) (by k_is) (by k_is) (by k_is)|exact⟨_,_,_,by k_is,rfl,rfl,by show 4<=sizeLine;decide,.cons ⟨_,rfl⟩ (.cons ⟨_,rfl⟩ (.cons ⟨_,rfl⟩ (.cons ⟨_,rfl⟩ (.nil))))⟩
 refine Pb.lw (st:=Pk.zK) X G hmg λbase _ _ D=>?_;have C:=@Pb.cd PySem.Challenge.rw_pebbletoll_k63_questions_answered.prog w _ _ _ base X G;have M:=@Pb.cm PySem.Challenge.rw_pebbletoll_k63_questions_answered.prog w (Hd.KK w.params) mg base;have S6:=Pb.dkN (w:=w) (K:=(Hd.KK w.params)) "NUMBERS_BEHIND" Hd.ϣ (by decide +kernel);have mY:=Pb.df (x:="load_by") (st:=Pk.lU) (ps:=["outlook","place","kid","room"]) X G;have eP:=Pb.df (x:="greatest_load") (st:=Pk.dy) (ps:=["outlook","place","over"]) X G;have rh:=C (Pk.Cw T bz);have jC:=C (Pk.Ix T bz);have tT:=C (Pk.FU T bz jC);have mO:=C (Pk.FF T bz);have rQ:=C (Pk.CL T bz mO);have sK:=C (Pk.DG T bz);have gW:=M "Web" (R:=Mk) (Pk.Cf T bz rh tT rQ sK);have vA:=C (Pk.Gc T bz);have lS:=M "Desk" (R:=Mk) (Pk.Bz T bz gW);have dH:=C (Pk.Eh T bz jC);have mH:=C (Pk.Fx T bz dH mO);have ju:=C (Pk.Qp T bz mH);have lH:=C (Pk.NM T bz dH ju);have ww:=C (Pk.QN T bz lH ju);have dj:=C (Pk.Mz T bz lH ww);have di:=C (Pk.QB T bz dH);have tE:=C (Pk.PL T bz di);have ph:=C (Pk.Jb T bz tE);have hW:=C (Pk.BJ T bz tE dj);have qc:=C (Pk.Lg T bz dj ph hW);have pZ:=C (Pk.DB T bz);have kz:=C (Pk.IT T bz);have re:=C (Pk.C6 T bz kz);have yo:=C (Pk.Kx T bz ph);have nS:=C (Pk.Gr T bz);have AL:=C (Pk.Nd T bz nS);have xc:=C (Pk.Ja T bz di);have qk:=C (Pk.Kg T bz kz);have mI:=C (Pk.FP T bz xc qk);have xn:=C (Pk.IU T bz pZ re yo AL mI);have kZ:=M "Tally" (R:=Mk) (Pk.zQ T bz lH qc ww ju hW xn);have oJ:=M "Desk" (R:=(Meth · · "deeds")) (Pk.FQ T bz);have pP:=M "Desk" (R:=(Meth · · "back")) (Pk.Hw T bz oJ);have fW:=M "Desk" (R:=(Meth · · "keep")) (Pk.F9 T bz);have bK:=M "Desk" (R:=(Meth · · "laying")) (Pk.Ef T bz);have ce:=M "Desk" (R:=(Meth · · "wish")) (Pk.Im T bz);have nU:=C (Pk.HJ T bz);have gU:=C (Pk.GR T bz nU);have Ld:=C (Pk.RI T bz dH gU);have GS:=C (Pk.QA T bz Ld);have qB:=M "Desk" (R:=(Meth · · "put")) (Pk.Jd T bz fW bK ce GS);have tL:=C (Pk.PN T bz di);have AR:=C (Pk.LQ T bz tL);have yK:=C (Pk.KG T bz jC mH);have sI:=C (Pk.DU T bz yK tL);have yI:=C (Pk.Kp T bz AR sI gU);have BF:=C (Pk.MY T bz yI);have pV:=M "Desk" (R:=(Meth · · "step")) (Pk.HW T bz fW bK ce BF);have je:=C (Pk.Kz T bz nU);have pQ:=M "Desk" (R:=(Meth · · "want")) (Pk.GU T bz fW bK ce dH je);have xY:=C (Pk.Lv T bz pP qB pV pQ);have vB:=C (Pk.HR T bz);have lG:=C (Pk.D7 T bz vB);have ub:=C (Pk.FK T bz lG);have kK:=C (Pk.Ol T bz);have fe:=C (Pk.HH T bz kK);have iR:=C (Pk.NZ T bz);have gw:=Pk.BO (P:=PySem.Challenge.rw_pebbletoll_k63_questions_answered.prog) (w:=w) (base:=base) T bz eP mY kK fe di iR;have vg:=C (Pk.Ga T bz eP gw fe di);have DX:=C (Pk.NV T bz dj di je);have jP:=M "Outlook" (R:=Mk) (Pk.xS T bz lH vg dj ju DX);have yd:=C (Pk.K6 T bz jP eP gw);have qj:=C (Pk.KC T bz iR je);have pC:=C (Pk.Po T bz yd qj);have rD:=C (Pk.Mx T bz pC qj iR);have pf:=C (Pk.IC T bz dj gU di);have tD:=C (Pk.Oa T bz pf dj di);have nR:=C (Pk.GD T bz di);have jI:=C (Pk.HY T bz nR dj gU je);have gL:=C (Pk.IQ T bz jI);have Bm:=C (Pk.MV T bz gL);have xi:=C (Pk.IX T bz gL);have xh:=C (Pk.IE T bz nR dj jI);have vo:=C (Pk.Gm T bz dj jI);have qm:=C (Pk.Ly T bz Bm xi xh vo);have dX:=C (Pk.DA T bz);have dz:=C (Pk.Dq T bz dX);have mz:=C (Pk.FL T bz dz);have qW:=C (Pk.Ce T bz dz mz);have wq:=C (Pk.Qj T bz pf);have qH:=C (Pk.BH T bz dX);have iA:=C (Pk.Dp T bz dH);have wN:=C (Pk.IA T bz iA dj di);have j5:=C (Pk.Mn T bz wN hW);have qh:=C (Pk.KP T bz j5);have tN:=C (Pk.Od T bz qc iA dj di);have mL:=C (Pk.Fv T bz kZ iA qk);have sE:=C (Pk.DL T bz j5 qh dX dz tN mL);have rq:=C (Pk.Ch T bz bK ce rD tD pC qm qW wq dX dz gL qH mz sE);have vM:=C (Pk.Gg T bz xY ub rq S6);have fq:=M "Desk" (R:=(Meth · · "answer")) (Pk.Ei T bz vM);have vC:=C (Pk.HS T bz);have tS:=C (Pk.FW T bz vC);have xw:=C (Pk.Jf T bz);have eG:=C (Pk.Hy T bz);have uv:=C (Pk.FN T bz eG j5 qh tN mL);have nh:=C (Pk.zT T bz eG);have pD:=C (Pk.CS T bz nh eG rD tD pC qm wq gL);have rP:=C (Pk.Di T bz uv pD);have qr:=C (Pk.IM T bz);have uZ:=C (Pk.Ll T bz);have vP:=C (Pk.Hb T bz qr uZ vA);exact Pk.RD T bz D lS fq bK ce gW tS xw rP vP eG
#print axioms PySem.Challenge.cw_pebbletoll_k63_questions_answered_holds