import PyProof.Rows.All
import Wide.All
import OpenK.AllK
import Wide.FinOn
import Lean
import PyProof.EqAt
import PyProof.EqKinds
import PyProof.TupleCall
import PyProof.P3Eq
import PyProof.NeData
import PyProof.FitsBits
import PyProof.ZipIter
import PyProof.TupleIter
import KE.KRevIter
import PyProof.TupleOfGen
import PyProof.ListRange
import KE.KIsAll
import PyProof.ExcArgsOwn
import OpenK.KDescr
import PyProof.StationsW
import PyProof.ExcBaseAll.ValueError
import OpenK.KOwn
import PyProof.RulesAs
import PyProof.RulesDel
import PyProof.Rows.SortWalk
import PyProof.CompUse
import KE.KDictSum
import PyProof.WalkInts
import KE.KSortTup
import PyProof.Rows.TupDisplay
import KE.KIntText
import PyProof.JoinWalk
import PyProof.ExcInit
import PyProof.ExcClass2
import KE.KRevSl
import KE.KSetAt
import PyProof.DictUpdate
import KE.KTryMore
import PySem.Challenge.RW_pebbletoll_k66_whole_answers_walked
set_option Elab.async false
set_option linter.all false
set_option maxRecDepth 100000
def gN:=@Array.getElem?_eq_some_iff
def fP:=@Array.getElem?_toList
def oJ:=@Array.length_toList
def oh:=@Array.mem_toList_iff
def ni:=@Array.size_push
def bB:=@Bool.and_eq_true
def ou:=@Bool.and_eq_true_iff
def ip:=@Bool.eq_iff_iff
def nX:=@Bool.false_and
def cZ:=@Bool.false_eq_true
def bq:=@Bool.false_ne_true
def nY:=@Bool.false_or
def iq:=@Bool.not_eq_true'
def nZ:=@Bool.or_false
def lX:=@Bool.or_true
def k7:=@Bool.true_and
def kK:=@PySem.Calls.Name_function_global
def jD:=@PySem.Calls.callWith_builtin
def j4:=@PySem.Calls.evalArgs_plain
def fB:=@PySem.Calls.spliced_cons
def gB:=@PySem.Calls.spliced_nil
def kI:=@PySem.F.args_str_split_2
def j9:=@PySem.F.args_tuple_iterator_next_1
def lF:=@PySem.F.entry_str_split
def kD:=@PySem.F.entry_tuple_iterator_next
def mR:=@PySem.F.slot_str_join
def l7:=@PySem.F.slot_str_split
def gF:=@PySem.F.slot_tuple_iterator_next
def jX:=@PySem.F.slot_zip_next
def aI:=@PySem.Heap.get?_push_of_some
def bd:=@PySem.Heap.get?_push_size
def eC:=@PySem.Heap.get?_update_other
def gq:=@PySem.Heap.get?_update_self
def aO:=@PySem.Heap.lt_size
def eK:=@PySem.Heap.size_push
def ir:=@Int.add_mul
def ii:=@Int.add_mul_ediv_right
def lK:=@Int.add_zero
def gg:=@Int.ediv_eq_zero_of_lt
def l9:=@Int.ediv_le_ediv
def jG:=@Int.ediv_le_self
def iR:=@Int.ediv_nonneg
def cM:=@Int.emod_lt_of_pos
def cC:=@Int.emod_nonneg
def d5:=@Int.eq_ofNat_of_zero_le
def kM:=@Int.fdiv_eq_ediv_of_nonneg
def bF:=@Int.le_refl
def dN:=@Int.le_trans
def kO:=@Int.lt_of_le_of_lt
def mw:=@Int.mul_add
def lW:=@Int.mul_comm
def gG:=@Int.mul_le_mul
def b3:=@Int.mul_le_mul_of_nonneg_left
def cN:=@Int.mul_le_mul_of_nonneg_right
def jY:=@Int.mul_le_mul_of_nonpos_left
def fR:=@Int.mul_nonneg
def gH:=@Int.mul_nonpos_of_nonpos_of_nonneg
def mB:=@Int.mul_one
def pK:=@Int.mul_sub
def o9:=@Int.ne_of_gt
def j6:=@Int.neg_mul
def jh:=@Int.pow_pos
def lY:=@Int.sub_zero
def bM:=@Int.toNat_natCast
def bJ:=@Int.toNat_of_nonneg
def ce:=@Int.zero_add
def jL:=@Int.zero_mul
def nh:=@List.Perm.append_left
def dW:=@List.all_eq_true
def jw:=@List.any_cons
def bO:=@List.append_assoc
def bX:=@List.append_nil
def jQ:=@List.concat_eq_append
def fC:=@List.cons.inj
def ft:=@List.contains_cons
def eM:=@List.drop_eq_getElem_cons
def dE:=@List.drop_length
def ie:=@List.drop_of_length_le
def eI:=@List.drop_zero
def hJ:=@List.eq_nil_iff_forall_not_mem
def jW:=@List.eq_nil_of_length_eq_zero
def jO:=@List.eq_nil_or_concat
def kU:=@List.exists_cons_of_ne_nil
def fK:=@List.ext_getElem?
def iW:=@List.filterMap_cons
def b7:=@List.filter_append
def b8:=@List.filter_cons_of_neg
def bZ:=@List.filter_cons_of_pos
def mV:=@List.filter_eq_nil_iff
def fH:=@List.filter_nil
def fI:=@List.find?_cons
def gn:=@List.findSome?_append
def gX:=@List.findSome?_cons
def oj:=@List.flatMap_append
def dj:=@List.flatMap_cons
def gD:=@List.flatten_cons
def jr:=@List.foldl_append
def gZ:=@List.foldl_cons
def mQ:=@List.forIn_cons
def km:=@List.getD_cons_succ
def bc:=@List.getD_eq_getElem?_getD
def dH:=@List.getElem?_append_left
def db:=@List.getElem?_append_right
def i7:=@List.getElem?_cons_succ
def kh:=@List.getElem?_drop
def aB:=@List.getElem?_eq_getElem
def bP:=@List.getElem?_eq_none
def aD:=@List.getElem?_eq_some_iff
def aP:=@List.getElem?_map
def cF:=@List.getElem?_of_mem
def iK:=@List.getElem?_range
def i6:=@List.getElem?_replicate
def jU:=@List.getElem?_replicate_of_lt
def cL:=@List.getElem?_reverse
def cG:=@List.getElem?_set_ne
def dg:=@List.getElem?_set_self
def lA:=@List.getElem?_take_of_lt
def kP:=@List.getElem?_zip_eq_some
def jo:=@List.getElem_cons_drop
def jv:=@List.getElem_map
def dL:=@List.getElem_mem
def j1:=@List.getElem_of_mem
def ay:=@List.length_append
def aR:=@List.length_cons
def d8:=@List.length_drop
def bW:=@List.length_filter_le
def aa:=@List.length_map
def eL:=@List.length_nil
def nJ:=@List.length_pos_iff
def cK:=@List.length_range
def cf:=@List.length_replicate
def bi:=@List.length_reverse
def bz:=@List.length_set
def eD:=@List.length_singleton
def bA:=@List.length_take
def da:=@List.lookup_cons
def au:=@List.map_append
def b5:=@List.map_congr_left
def aF:=@List.map_cons
def kt:=@List.map_drop
def nK:=@List.map_eq_nil_iff
def fD:=@List.map_map
def dB:=@List.map_nil
def gW:=@List.map_replicate
def gA:=@List.map_reverse
def dh:=@List.map_set
def nu:=@List.map_take
def aX:=@List.mem_append
def bS:=@List.mem_append_left
def bo:=@List.mem_append_right
def aA:=@List.mem_cons
def aw:=@List.mem_cons_of_mem
def aL:=@List.mem_cons_self
def mZ:=@List.mem_erase_of_ne
def bG:=@List.mem_filter
def kC:=@List.mem_filterMap
def d9:=@List.mem_flatMap
def jS:=@List.mem_iff_getElem
def aE:=@List.mem_map
def d7:=@List.mem_nil_iff
def aQ:=@List.mem_of_getElem?
def gu:=@List.mem_of_mem_drop
def jJ:=@List.mem_of_mem_take
def iL:=@List.mem_or_eq_of_mem_set
def de:=@List.mem_range
def fW:=@List.mem_replicate
def dq:=@List.mem_reverse
def aG:=@List.mem_singleton
def mj:=@List.nil_append
def cw:=@List.nodup_append
def aZ:=@List.nodup_cons
def fM:=@List.not_mem_nil
def me:=@List.of_mem_zip
def fm:=@List.pairwise_iff_getElem
def kE:=@List.perm_append_singleton
def gQ:=@List.range_succ
def cS:=@List.replicate_succ
def jT:=@List.replicate_succ'
def gL:=@List.reverse_append
def kJ:=@List.reverse_cons
def iy:=@List.reverse_reverse
def aY:=@List.size_toArray
def cU:=@List.sum_append
def aN:=@List.sum_cons
def dP:=@List.take_append_drop
def bx:=@List.take_length
def cH:=@List.take_of_length_le
def kQ:=@List.take_sublist
def bj:=@List.take_succ
def nI:=@List.take_succ_cons
def eO:=@List.take_zero
def jt:=@Nat.le_add_right
def cT:=@Nat.le_of_ble_eq_true
def kZ:=@Nat.le_of_eq
def iH:=@Nat.le_of_lt
def jq:=@Nat.le_of_not_lt
def aU:=@Nat.le_refl
def iT:=@Nat.le_succ
def aV:=@Nat.le_trans
def lP:=@Nat.log2_lt
def di:=@Nat.lt_irrefl
def fX:=@Nat.lt_of_le_of_lt
def be:=@Nat.lt_of_lt_of_le
def gh:=@Nat.lt_succ_of_lt
def fN:=@Nat.lt_succ_self
def j8:=@Nat.mod_lt
def ke:=@Nat.mul_assoc
def n9:=@Nat.mul_succ
def fZ:=@Nat.ne_of_gt
def bf:=@Nat.ne_of_lt
def fE:=@Nat.pow_le_pow_right
def fY:=@Nat.pow_succ
def eT:=@Nat.sub_self
def gc:=@Nat.sub_zero
def cI:=@Nat.zero_le
def eW:=@PySem.Obj.data_mapFields
def ic:=@PySem.Obj.isFreed_of_fields
def gM:=@Option.isSome_iff_exists
def b9:=@Option.map_eq_some_iff
def bN:=@Option.some.inj
def dy:=@PyProof.Rows.callWith_type1
def eP:=@PySem.F.plainAttrs_list
def lh:=@PySem.F.slot_list_insert
def lC:=@PySem.W.any_some
def iX:=@PySem.W.callWith_K
def ms:=@PySem.W.cellsFrom_some
def nN:=@PySem.W.looks_mroIn
def mH:=@PySem.W.methodCall_KW
def kz:=@PySem.W.mg_of
def j3:=@PySem.W.plainGet_of
def dZ:=@PySem.mem_of_lookup
def jp:=@PySem.Str.ofString_eq_toList
def jd:=@beq_iff_eq
def jA:=@PySem.codeAny_mono
def b4:=@decide_eq_false
def bD:=@decide_eq_true
def bw:=@decide_eq_true_eq
def ah:=@if_neg
def aj:=@if_pos
def bu:=@of_decide_eq_true
def gY:=@PySem.wpAny_Call_Name_kw
def ao:=@PySem.wpAny_bind
def my:=@PySem.wpAny_call
def ju:=@PySem.wpAny_call_entry
def lD:=@PySem.wpAny_execs_cons
def gR:=@PySem.wpAny_execs_nil
def cY:=@PySem.wpAny_field
def gV:=@PySem.wpAny_getItem_str_slice
def eV:=@PySem.wpAny_holding
def gO:=@PySem.wpAny_ite_split
def cP:=@PySem.wpAny_mono
def fg:=@PySem.wpAny_newObj_type
def kf:=@PySem.wpAny_onRaise
def fS:=@PySem.wpAny_passesOwn
def bh:=@PySem.wpAny_pure
def gj:=@PySem.wpAny_pyIter_list
def iw:=@PySem.wpAny_pyIter_revIter
def kc:=@PySem.wpAny_pyIter_tuple
def fG:=@PySem.wpAny_seqItems
def iV:=@PySem.wpAny_setField
def fV:=@PySem.wpAny_setField_rec
def jI:=@PySem.wpAny_specialOf
def i5:=@PySem.wpAny_standAt
def dD:=@PySem.wpAny_truthy_bool
def jR:=@PySem.wpAny_updateSeq_pair
set_option compiler.extract_closed false
namespace Hd
open PySem
def top(i:Nat):Stmt:=PySem.Challenge.pw_pebbletoll_k66_whole_answers_walked.main.body.getD i (.Pass ⟨0,0,0,0⟩)
def inC(s:Stmt)(j:Nat):Stmt:=match s with
 | .ClassDef _ _ _ b _ _ _ _ _ _ _=>b.getD j (.Pass ⟨0,0,0,0⟩)
 | _=>.Pass ⟨0,0,0,0⟩
def kA(s:Stmt):Arguments:=match s with
 | .FunctionDef _ a _ _ _ _ _ _ _ _=>a
 | _=>{ posonlyargs:=[],args:=[],vararg:=none,kwonlyargs:=[],kw_defaults:=[],kwarg:=none,defaults:=[] }
def kB(s:Stmt):List Stmt:=match s with
 | .FunctionDef _ _ b _ _ _ _ _ _ _=>b
 | _=>[]
def kS(s:Stmt):Scope:=match s with
 | .FunctionDef _ _ _ _ _ _ sc _ _ _=>sc
 | _=>{ kind:=.function,names:=[],isGenerator:=false,isCoroutine:=false }
theorem wsA:(PySem.Challenge.rw_pebbletoll_k66_whole_answers_walked).row.wellSaid=true:=by kernel_rfl
theorem ws:(PySem.Challenge.rw_pebbletoll_k66_whole_answers_walked).wellSaid=true:=by unfold PySem.W.OpenLaw.wellSaid;rw[wsA];kernel_rfl
open PySem.W PySem.Calls PyProof.Rows
def en(P:Params)(s:Str)(t:Tok)(v:Value):DictEntry:=.mk (PyData.keyHash P s) (.str s t) v
def tO(a:List Value):Obj:=.mk (.type "tuple") none (.seq ⟨a⟩ 0) #[]
def pO(a:List Value):Obj:=.mk .none none (.fields ⟨a⟩) #[]
def fO(s:String)(a:List Value):Obj:=.mk (.type s) none (.fields ⟨a⟩) #[]
def dO(a:List DictEntry)(n:Nat):Obj:=.mk (.type "dict") none (.dict ⟨a⟩ n) #[]
def cO(n q:Str)(t l c g a:Nat)(b:Bool)(d f e:Value)(z:Nat):Obj:=fO "code" [.str n t,.str q (t+1),.str "/claim/cut.py" (t+2),.int (.ofNat l) 0,.int (.ofNat c) 0,.int 0 0,.int 0 0,.int (.ofNat g) 0,.ref a,.bool b,.int 181 0,.ref (a+1),.none,d,f,e,.int (.ofNat z) 0,.int (.ofNat l) 0,.str "/claim/cut.py" (z+1)]
def rO(c l:Nat)(m:Value):Obj:=.mk (.type "frame") none .plain #[some (.ref c),some (.ref 3),some (.ref l),none,some m,none,some (.ref 0)]
def sT(t:Nat):List Str->List Value
 | []=>[]
 | s::l=>.str s t::sT (t+1) l
structure It where
 o:List Obj
 e:DictEntry
 r:List Value
structure FT where
 m:Value
 n:Str
 q:Str
 s:Stmt
 a:Nat
 t:Nat
 k:Nat
 b:Bool
def FT.c(f:FT):Nat:=f.a+cond f.b 5 3
def FT.C(f:FT):Obj:=cO f.n f.q f.t f.s.pos.line (kA f.s).args.length 3 f.a true (cond f.b (.ref (f.a+2)) .none) (cond f.b (.ref (f.a+3)) .none) (.ref (f.a+cond f.b 4 2)) (f.t+3+f.k)
def FT.D(f:FT):Obj:=.mk (.type "function") none (.func (PySem.W.fnOf f.n f.q (kA f.s) (kB f.s) (kS f.s) .none .none .none f.m none (.ref f.c) .none)) #[]
def FT.R(f:FT):Obj:=.mk .none none (.func (.mk f.n f.q (kA f.s) (.stmts (kB f.s)) (kS f.s) 0 [] .none .none .none .none none .none .none 0)) #[]
def FT.o(f:FT):List Obj:=tO []::pO []::cond f.b [tO (sT (f.t+3) (((kS f.s).names.filter (·.2==.local)).map (·.1))),tO [],f.R,f.C,f.D] [f.R,f.C,f.D]
def FT.e(P:Params)(f:FT):DictEntry:=en P f.n (f.t+5+f.k) (.ref (f.c+1))
def FT.r(j:Nat)(f:FT):List Value:=[.int (.ofNat f.s.pos.line) 0,.int (.ofNat j) 0,.ref f.c]
def FT.i(P:Params)(f:FT):It:=⟨f.o,f.e P,f.r 0⟩
def fT(m:Value)(n:Str)(i a t k:Nat):FT:=⟨m,n,n,top i,a,t,k,true⟩
def fU(m:Value)(n:Str)(i a t:Nat):FT:=⟨m,n,n,top i,a,t,0,false⟩
def mT(m:Value)(n q:Str)(i j a t k:Nat):FT:=⟨m,n,q,inC (top i) j,a,t,k,true⟩
def mU(m:Value)(n q:Str)(i j a t:Nat):FT:=⟨m,n,q,inC (top i) j,a,t,0,false⟩
structure CT where
 m:Value
 n:Str
 a:Nat
 t:Nat
 l:Nat
 x:Nat
 y:Nat
 b:List Value
 u:List Value
 w:String
 f:List FT
 v:List Str
 d:Nat
 z:List Value
def CT.g(c:CT)(j:Nat):Obj:=cond (j==1) (fO "getset_descriptor" [.str "__weakref__" (c.y+c.v.length+2*c.d-1),.ref (c.x+2),.builtin "ExceptionGroup.__weakref__",.none]) (fO "getset_descriptor" [.str "__dict__" (c.y+c.v.length+1),.ref (c.x+2),.builtin "function.__dict__",.builtin "function.__dict__#set"])
def CT.k(P:Params)(c:CT):List DictEntry:=en P "__firstlineno__" (c.t+11) (.int (.ofNat c.l) (c.t+10))::c.f.map (·.e P)++[en P "__static_attributes__" (c.y+c.v.length) (.ref c.x)]
def CT.D(P:Params)(c:CT):Obj:=dO (en P "__module__" (c.t+7) c.m::c.k P++cond (c.d==2) [en P "__dict__" (c.y+c.v.length+2) (.ref (c.x+3))] []++cond (c.d==0) [] [en P "__weakref__" (c.y+c.v.length+2*c.d) (.ref (c.x+2+c.d))]++[en P "__doc__" (c.y+c.v.length+2*c.d+1) .none]) (2+c.d)
def CT.T(c:CT):Obj:=.mk (.type "type") none (.cls (.mk c.n (cond (c.d==2) [.type "object"] c.b) (.ref (c.x+2)::c.u) (c.x+1) c.n true [] c.z false none false)) #[cond (c.d==2) none (some (.ref (c.a-1))),none,some (.str c.n c.t),some (.str c.n (c.t+8)),some (.builtin c.w),some (.bool true)]
def CT.o(P:Params)(c:CT):List Obj:=tO c.b::fO "builtin_function_or_method" [.builtin "type.__prepare__",.type "type"]::dO (en P "__module__" (c.t+7) c.m::en P "__qualname__" (c.t+9) (.str c.n (c.t+8))::c.k P) (4+c.f.length)::tO []::pO (c.f.flatMap (·.r 4))::cO c.n c.n (c.t+2) c.l 0 0 (c.a+2) false .none .none .none (c.t+5)::rO (c.a+4) (c.a+1) c.m::c.f.flatMap (·.o)++tO (sT c.y c.v)::c.D P::c.T::cond (c.d==2) [c.g 0] []++cond (c.d==0) [] [c.g 1]++[fO "super" [.ref (c.x+2),.ref (c.x+2),.ref (c.x+2)],fO "builtin_function_or_method" [.builtin "object.__init_subclass__",.ref (c.x+2)]]
def CT.i(P:Params)(c:CT):It:=⟨c.o P,en P c.n (c.y+c.v.length+2*c.d+3) (.ref (c.x+2)),[.int (.ofNat c.l) 0,.int 0 0,.ref (c.a+4)]⟩
def kT(P:Params)(n:Str)(t:Tok)(v:Value)(o:List Obj:=[]):It:=⟨o,en P n t v,[]⟩
def dM(P:Params)(m:Value)(l:List It):Obj:=dO (en P "__name__" 165 m::en P "__doc__" 166 .none::en P "__package__" 167 .none::en P "__loader__" 168 (.builtin "__main__.__loader__#opaque")::en P "__spec__" 169 .none::en P "__annotations__" 170 (.ref 6)::en P "__builtins__" 171 (.ref 4)::en P "__file__" 173 (.str "/claim/cut.py" 172)::en P "__cached__" 174 .none::l.map (·.e)) (9+l.length)
def m0:Value:=.str "pebbletoll.errors" 187
def m1:Value:=.str "pebbletoll.webs" 369
def m2:Value:=.str "pebbletoll.layings" 488
def m3:Value:=.str "pebbletoll.ways" 531
def m4:Value:=.str "pebbletoll.steps" 571
def m5:Value:=.str "pebbletoll.wishes" 629
def m6:Value:=.str "pebbletoll.always" 718
def m7:Value:=.str "pebbletoll.bringing" 844
def m8:Value:=.str "pebbletoll.enough" 881
def m9:Value:=.str "pebbletoll.texts" 969
def Zy:Value:=.str "pebbletoll.polynomials" 1044
def XE:Value:=.str "pebbletoll.worsts" 1082
def Ul:Value:=.str "pebbletoll.desk" 1169
def UP:Value:=.str "law_pebbletoll_k66_whole_answers_walked" 1391
def f0:FT:=mT m0 "__init__" "BadStep.__init__" 9 0 119 331 2
def f1:FT:=mT m0 "__init__" "BadText.__init__" 10 0 138 356 2
def f2:FT:=mU m1 "__init__" "Web.__init__" 15 0 157 389
def f3:FT:=fT m1 "toll" 16 169 405 7
def f4:FT:=fT m1 "neighbours" 17 176 418 2
def f5:FT:=fT m1 "check_place" 18 183 426 2
def f6:FT:=fT m1 "is_place" 19 190 434 2
def f7:FT:=fT m1 "check_counts" 20 197 442 2
def f8:FT:=fT m1 "check_ends" 21 204 450 2
def f9:FT:=fT m1 "check_tolls" 22 211 458 2
def f10:FT:=fT m1 "check_joined" 23 218 466 6
def f11:FT:=fT m1 "other_ends" 24 225 478 4
def f12:FT:=fT m2 "laying_of" 26 232 490 2
def f13:FT:=fU m2 "is_filled" 27 239 498
def f14:FT:=fT m2 "total" 28 244 504 1
def f15:FT:=fT m2 "pile" 29 251 511 3
def f16:FT:=fT m2 "put" 30 258 520 5
def f17:FT:=fT m3 "ahead" 32 265 533 7
def f18:FT:=fT m3 "down" 33 272 546 7
def f19:FT:=fU m3 "kids" 34 279 559
def f20:FT:=fU m3 "inward" 35 284 565
def f21:FT:=fT m4 "walked" 37 289 573 3
def f22:FT:=fT m4 "layings" 38 296 582 6
def f23:FT:=fT m4 "can_be_done" 39 303 594 3
def f24:FT:=fT m4 "is_step" 40 310 603 2
def f25:FT:=fT m4 "taken" 41 317 611 2
def f26:FT:=fT m4 "behind" 42 324 619 4
def f27:FT:=fT m5 "wish_of" 44 331 631 2
def f28:FT:=fU m5 "standings" 45 338 639
def f29:FT:=fT m5 "handed_on" 46 343 645 4
def f30:FT:=fT m5 "standing" 47 350 655 4
def f31:FT:=fT m5 "is_met" 48 357 665 3
def f32:FT:=fT m5 "meeting" 49 364 674 3
def f33:FT:=fT m5 "steps_in" 50 371 683 9
def f34:FT:=fT m5 "steps_out" 51 378 698 8
def f35:FT:=fU m5 "lacks_of" 52 385 712
def f36:FT:=fT m6 "needs" 54 390 720 6
def f37:FT:=fT m6 "always" 55 397 732 2
def f38:FT:=fU m6 "fails" 56 404 740
def f39:FT:=fT m6 "is_idle" 57 409 746 2
def f40:FT:=fT m6 "failing" 58 416 754 3
def f41:FT:=mU m6 "__init__" "Outlook.__init__" 59 0 430 775
def f42:FT:=fT m6 "idle_load" 60 442 793 3
def f43:FT:=fT m6 "idle_kids" 61 449 802 5
def f44:FT:=fU m6 "added" 62 456 813
def f45:FT:=fT m6 "greatest_load" 63 461 819 7
def f46:FT:=fT m6 "load_by" 64 468 832 6
def f47:FT:=fT m7 "gathered" 66 475 846 6
def f48:FT:=fT m7 "most" 67 482 858 3
def f49:FT:=fT m7 "bring" 68 489 867 8
def f50:FT:=fT m8 "borne" 70 496 883 4
def f51:FT:=fT m8 "bound_by" 71 503 893 7
def f52:FT:=fT m8 "check_wanted" 72 510 906 3
def f53:FT:=fT m8 "least_weights" 73 517 915 5
def f54:FT:=fT m8 "enough" 74 524 926 3
def f55:FT:=fU m8 "worst" 75 531 935
def f56:FT:=fT m8 "bearers" 76 536 941 6
def f57:FT:=fT m8 "is_heavy" 77 543 953 4
def f58:FT:=fU m8 "hardest" 78 550 963
def f59:FT:=fT m9 "number_text" 84 555 979 2
def f60:FT:=fU m9 "numbers_text" 85 562 987
def f61:FT:=fU m9 "steps_text" 86 567 993
def f62:FT:=fU m9 "read_web" 87 572 999
def f63:FT:=fT m9 "read_row" 88 577 1005 5
def f64:FT:=fU m9 "read_words" 89 584 1016
def f65:FT:=fT m9 "read_number" 90 589 1022 2
def f66:FT:=fU m9 "is_number" 91 596 1030
def f67:FT:=fT m9 "check_end" 92 601 1036 2
def f68:FT:=fU Zy "differences" 94 608 1046
def f69:FT:=fT Zy "value_at" 95 613 1052 6
def f70:FT:=fU Zy "first_values" 96 620 1064
def f71:FT:=fU Zy "parted" 97 625 1070
def f72:FT:=fU Zy "parted_at" 98 630 1076
def f73:FT:=fT XE "worst_many" 100 635 1084 3
def f74:FT:=mU XE "__init__" "Tally.__init__" 101 0 649 1105
def f75:FT:=fU XE "rests_of" 102 661 1125
def f76:FT:=fT XE "is_free" 103 666 1131 3
def f77:FT:=fT XE "ways_of" 104 673 1140 3
def f78:FT:=fT XE "ways_given" 105 680 1149 4
def f79:FT:=fT XE "held_for" 106 687 1159 4
def f80:FT:=mT Ul "__init__" "Desk.__init__" 110 0 703 1237 3
def f81:FT:=mU Ul "put" "Desk.put" 110 1 710 1246
def f82:FT:=mT Ul "want" "Desk.want" 110 2 715 1252 4
def f83:FT:=mT Ul "step" "Desk.step" 110 3 722 1262 4
def f84:FT:=mT Ul "keep" "Desk.keep" 110 4 729 1272 3
def f85:FT:=mT Ul "back" "Desk.back" 110 5 736 1281 1
def f86:FT:=mT Ul "laying" "Desk.laying" 110 6 743 1288 1
def f87:FT:=mT Ul "wish" "Desk.wish" 110 7 750 1295 1
def f88:FT:=mT Ul "deeds" "Desk.deeds" 110 8 757 1302 1
def f89:FT:=mT Ul "answer" "Desk.answer" 110 9 764 1309 2
def f90:FT:=fT Ul "answer_of" 111 778 1327 4
def f91:FT:=fT Ul "do_deed" 112 785 1337 3
def f92:FT:=fT Ul "told_of_desk" 113 792 1346 3
def f93:FT:=fT Ul "told_of_web" 114 799 1355 3
def f94:FT:=fT Ul "standing_text" 115 806 1364 1
def f95:FT:=fT Ul "meeting_text" 116 813 1371 1
def f96:FT:=fT Ul "run" 117 820 1378 7
def f97:FT:=fT UP "_law_cell" 119 827 1393 2
def f98:FT:=fT UP "_law_last" 120 834 1401 1
def f99:FT:=fT UP "_law_row" 121 841 1408 8
def No:FT:=fT UP "_law_tolls" 122 848 1422 3
def OA:FT:=fT UP "_law_roads" 123 855 1431 12
def Ol:FT:=fT UP "_law_price" 124 862 1449 7
def Og:FT:=fU UP "_law_web_rows" 125 869 1462
def Ow:FT:=fT UP "_law_folded" 126 874 1468 4
def Pf:FT:=fT UP "_law_rows" 127 881 1478 8
def Ot:FT:=fT UP "_law_numbers" 128 888 1492 3
def NN:FT:=fT UP "_law_walked" 129 895 1501 9
def Pj:FT:=fT UP "_law_asked" 130 902 1516 4
def Pt:FT:=fU UP "_law_laid" 131 909 1526
def OS:FT:=fU UP "_law_meets" 132 914 1532
def Py:FT:=fT UP "_law_brings" 133 919 1538 7
def NX:FT:=fU UP "_law_fails" 134 926 1551
def OT:FT:=fT UP "law" 135 931 1557 10
def cX(m:Value)(n:Str)(a t l x y:Nat)(f:List FT:=[])(v:List Str:=[]):CT:=⟨m,n,a,t,l,x,y,[(.ref 24)],[(.ref 24),(.type "ValueError"),(.type "Exception"),(.type "BaseException"),(.type "object")],"ValueError.__new__",f,v,0,[]⟩
def c0:CT:=⟨m0,"TollError",16,189,2,22,201,[(.type "ValueError")],[(.type "ValueError"),(.type "Exception"),(.type "BaseException"),(.type "object")],"ValueError.__new__",[],[],1,[(.ref 37),(.ref 49),(.ref 61),(.ref 73),(.ref 85),(.ref 97),(.ref 109),(.ref 128),(.ref 147)]⟩
def c1:CT:=cX m0 "BadWeb" 29 207 4 35 219
def c2:CT:=cX m0 "NoPlace" 41 223 6 47 235
def c3:CT:=cX m0 "NoRoad" 53 239 8 59 251
def c4:CT:=cX m0 "BadLaying" 65 255 10 71 267
def c5:CT:=cX m0 "BadWish" 77 271 12 83 283
def c6:CT:=cX m0 "NoWorst" 89 287 14 95 299
def c7:CT:=cX m0 "NoDeed" 101 303 16 107 315
def c8:CT:=cX m0 "BadStep" 113 319 18 126 339 [f0] ["at"]
def c9:CT:=cX m0 "BadText" 132 344 23 145 364 [f1] ["at"]
def Zz:CT:=⟨m1,"Web",151,377,32,162,395,[],[(.type "object")],"object.__new__",[f2],["many","roads"],2,[]⟩
def ZA:CT:=⟨m6,"Outlook",424,763,217,435,781,[],[(.type "object")],"object.__new__",[f41],["idle","kids","needs","web"],2,[]⟩
def ZC:CT:=⟨XE,"Tally",643,1093,381,654,1111,[],[(.type "object")],"object.__new__",[f74],["bearers","down","kids","rests","web","weights"],2,[]⟩
def ZD:CT:=⟨Ul,"Desk",697,1225,415,771,1317,[],[(.type "object")],"object.__new__",[f80,f81,f82,f83,f84,f85,f86,f87,f88,f89],["past","web"],2,[]⟩
def SI:Obj:=(tO (sT 1171 ["put","want","step","back"]))
def Ϥ:List (Str×Tok×Int×Tok):=[("put",1176,2,1177),("want",1179,2,1180),("step",1182,3,1183),("back",1185,0,1186),("laying",1188,0,1189),("wish",1191,0,1192),("most",1194,1,1195),("bring",1197,1,1198),("stands",1200,1,1201),("meet",1203,0,1204),("enough",1206,2,1207),("hardest",1209,1,1210),("worst",1212,2,1213),("many",1215,2,1216),("always",1218,0,1219),("fails",1221,0,1222)]
def R4(P:Params):Obj:=dO (Ϥ.map λp=>en P p.1 p.2.1 (.int p.2.2.1 p.2.2.2)) 16
def s0(P:Params)(a:CT):List It:=[a.i P,c1.i P,c2.i P,c3.i P,c4.i P,c5.i P,c6.i P,c7.i P,c8.i P]
def s1(P:Params):List It:=[c9.i P,kT P "MOST_PLACES" 372 (.int 24 371),kT P "LEAST_TOLL" 374 (.int 2 373),kT P "MOST_TOLL" 376 (.int 1000000 375),Zz.i P,f3.i P,f4.i P,f5.i P,f6.i P,f7.i P,f8.i P,f9.i P,f10.i P,f11.i P,f12.i P,f13.i P,f14.i P,f15.i P,f16.i P,f17.i P,f18.i P,f19.i P,f20.i P,f21.i P,f22.i P,f23.i P,f24.i P,f25.i P,f26.i P,f27.i P,f28.i P,f29.i P,f30.i P,f31.i P,f32.i P,f33.i P,f34.i P,f35.i P,f36.i P,f37.i P,f38.i P,f39.i P,f40.i P,ZA.i P,f42.i P]
def s2(P:Params):List It:=[f43.i P,f44.i P,f45.i P,f46.i P,f47.i P,f48.i P,f49.i P,f50.i P,f51.i P,f52.i P,f53.i P,f54.i P,f55.i P,f56.i P,f57.i P,f58.i P,kT P "FIGURES" 972 (.str "0123456789" 971),kT P "MOST_FIGURES" 974 (.int 60 973),kT P "PIECE" 976 (.int 1000000000000000000 975),kT P "PIECE_FIGURES" 978 (.int 18 977),f59.i P,f60.i P,f61.i P,f62.i P,f63.i P,f64.i P,f65.i P,f66.i P,f67.i P,f68.i P,f69.i P,f70.i P,f71.i P,f72.i P,f73.i P,ZC.i P,f75.i P,f76.i P,f77.i P,f78.i P,f79.i P,kT P "DEEDS" 1175 (.ref 694) [SI]]
def s3(P:Params):List It:=[kT P "NUMBERS_BEHIND" 1224 (.ref 695) [R4 P]]
def s4(P:Params):List It:=[ZD.i P,f90.i P,f91.i P,f92.i P,f93.i P,f94.i P,f95.i P,f96.i P,f97.i P,f98.i P,f99.i P,No.i P,OA.i P,Ol.i P,Og.i P,Ow.i P,Pf.i P,Ot.i P,NN.i P,Pj.i P,Pt.i P,OS.i P,Py.i P,NX.i P,OT.i P]
noncomputable def hM(P:Params)(d:Obj)(l:List It):Heap:=.mk (.mk (boot_o_0 P::boot_o_1 P::boot_o_2 P::d::boot_o_4 P::boot_o_5 P::boot_o_6 P::boot_o_7 P::boot_o_8 P::boot_o_9 P::boot_o_10 P::tO []::pO (l.flatMap (·.r))::cO "<module>" "<module>" 182 1 0 0 11 false .none .none .none 185::rO 13 3 (.str "__main__" 164)::l.flatMap (·.o))) (.mk [] [] [] 0 [] [] false #[] [] 0 false false false 0 [2000,10,10] false 0 true [] [] 0 false)
def l0(P:Params):List It:=s0 P ({c0 with z:=[(.ref 37),(.ref 49),(.ref 61),(.ref 73),(.ref 85),(.ref 97),(.ref 109),(.ref 128)]})
def d0(P:Params):Obj:=dM P m0 (l0 P)
def l1(P:Params):List It:=s0 P c0++s1 P
def d1(P:Params):Obj:=dM P m6 (l1 P)
def l2(P:Params):List It:=s0 P c0++(s1 P++s2 P)
def d2(P:Params):Obj:=dM P Ul (l2 P)
def l3(P:Params):List It:=s0 P c0++(s1 P++(s2 P++s3 P))
def d3(P:Params):Obj:=dM P Ul (l3 P)
def l4(P:Params):List It:=s0 P c0++(s1 P++(s2 P++(s3 P++s4 P)))
def d4(P:Params):Obj:=dM P UP (l4 P)
noncomputable abbrev ha(P:Params):Heap:=hM P (boot_o_3 P) []
noncomputable abbrev hb(P:Params):Heap:=ha P
abbrev st0:List Stmt:=(List.range' 0 10).map top
abbrev Zc:List Stmt:=(List.range' 10 51).map top
abbrev Vc:List Stmt:=(List.range' 61 48).map top
abbrev V4:List Stmt:=[top 109]
abbrev st4:List Stmt:=(List.range' 110 26).map top
abbrev bb:List Stmt:=st0++(Zc++(Vc++(V4++(st4++([])))))
def env:Env:={ scope:=PySem.Challenge.pw_pebbletoll_k66_whole_answers_walked.main.scope,locals:=mainNs,globals:=mainNs,cells:=[],code:=(.ref 13),frame:=some 14 }
abbrev cE:Code:=.body bb env
theorem TB(w:World)(os:OsState):topGo treeTable PySem.Challenge.pw_pebbletoll_k66_whole_answers_walked w 11 (some (.ref 6)) 12 (Shared.mk (boot_heap w.params) (.mk []) boot_drawn boot_toks os) (topStub PySem.Challenge.pw_pebbletoll_k66_whole_answers_walked)=some ((Shared.mk (ha w.params) (.mk []) (.mk 0 0 0 0) 187 os),Thread.mk (denote treeTable cE) cE (.mk 0 0 0 0) [topFrame (.mk 0 0 0 0)]):=by kernel_rfl
theorem Tj(w:World)(os:OsState):segRun treeTable PySem.Challenge.pw_pebbletoll_k66_whole_answers_walked w 11 (some (.ref 6)) 1 1 (Shared.mk (ha w.params) (.mk []) (.mk 0 0 0 0) 187 os) (blockOf bb env cE (.mk 0 0 0 0) [topFrame (.mk 0 0 0 0)])=some (.next,(Shared.mk (hb w.params) (.mk []) (.mk 0 0 0 0) 187 os),cE,(.mk 0 0 0 0)):=by kernel_rfl
noncomputable def h0(P:Params):Heap:=hM P (d0 P) (l0 P)
theorem Tr(w:World)(os:OsState):segRun treeTable PySem.Challenge.pw_pebbletoll_k66_whole_answers_walked w 11 (some (.ref 6)) 1 1932 (Shared.mk (hb w.params) (.mk []) (.mk 0 0 0 0) 187 os) (piecesOf st0 env cE (.mk 0 0 0 0) [topFrame (.mk 0 0 0 0)])=some (.next,(Shared.mk (h0 w.params) (.mk []) (.mk 0 0 0 0) 344 os),cE,(.mk 18 0 22 20)):=by kernel_rfl
noncomputable def h1(P:Params):Heap:=hM P (d1 P) (l1 P)
theorem Tg(w:World)(os:OsState):segRun treeTable PySem.Challenge.pw_pebbletoll_k66_whole_answers_walked w 11 (some (.ref 6)) 1 1970 (Shared.mk (h0 w.params) (.mk []) (.mk 0 0 0 0) 344 os) (piecesOf Zc env cE (.mk 18 0 22 20) [topFrame (.mk 0 0 0 0)])=some (.next,(Shared.mk (h1 w.params) (.mk []) (.mk 0 0 0 0) 802 os),cE,(.mk 226 0 229 77)):=by kernel_rfl
noncomputable def h2(P:Params):Heap:=hM P (d2 P) (l2 P)
theorem Tv(w:World)(os:OsState):segRun treeTable PySem.Challenge.pw_pebbletoll_k66_whole_answers_walked w 11 (some (.ref 6)) 1 1411 (Shared.mk (h1 w.params) (.mk []) (.mk 0 0 0 0) 802 os) (piecesOf Vc env cE (.mk 226 0 229 77) [topFrame (.mk 0 0 0 0)])=some (.next,(Shared.mk (h2 w.params) (.mk []) (.mk 0 0 0 0) 1176 os),cE,(.mk 413 0 413 5)):=by kernel_rfl
noncomputable def h3(P:Params):Heap:=hM P (d3 P) (l3 P)
theorem To(w:World)(os:OsState):segRun treeTable PySem.Challenge.pw_pebbletoll_k66_whole_answers_walked w 11 (some (.ref 6)) 1 252 (Shared.mk (h2 w.params) (.mk []) (.mk 0 0 0 0) 1176 os) (piecesOf V4 env cE (.mk 413 0 413 5) [topFrame (.mk 0 0 0 0)])=some (.next,(Shared.mk (h3 w.params) (.mk []) (.mk 0 0 0 0) 1225 os),cE,(.mk 414 0 414 14)):=by
 have a:∀(b:Bool)(v:World),v=w.withFollow "special-get-raises" b->(segRun treeTable PySem.Challenge.pw_pebbletoll_k66_whole_answers_walked v 11 (some (.ref 6)) 1 252 (Shared.mk (h2 v.params) (.mk []) (.mk 0 0 0 0) 1176 os) (piecesOf V4 env cE (.mk 413 0 413 5) [topFrame (.mk 0 0 0 0)])=some (.next,(Shared.mk (h3 v.params) (.mk []) (.mk 0 0 0 0) 1225 os),cE,(.mk 414 0 414 14))):=λb v e=>by subst e;cases b<;>kernel_rfl
 exact a (w.params.followText "special-get-raises") w (World.withFollow_self w "special-get-raises").symm
noncomputable def h4(P:Params):Heap:=hM P (d4 P) (l4 P)
theorem Tf(w:World)(os:OsState):segRun treeTable PySem.Challenge.pw_pebbletoll_k66_whole_answers_walked w 11 (some (.ref 6)) 1 1283 (Shared.mk (h3 w.params) (.mk []) (.mk 0 0 0 0) 1225 os) (piecesOf st4 env cE (.mk 414 0 414 14) [topFrame (.mk 0 0 0 0)])=some (.next,(Shared.mk (h4 w.params) (.mk []) (.mk 0 0 0 0) 1573 os),cE,(.mk 676 0 689 82)):=by kernel_rfl
noncomputable abbrev hf(P:Params):Heap:=h4 P
theorem Tz(w:World)(os:OsState):topRun treeTable PySem.Challenge.pw_pebbletoll_k66_whole_answers_walked w 11 (some (.ref 6)) 2 (Shared.mk (h4 w.params) (.mk []) (.mk 0 0 0 0) 1573 os) (restOf [] env cE (.mk 676 0 689 82) [topFrame (.mk 0 0 0 0)])=some (Shared.mk (hf w.params) (.mk []) (.mk 0 0 0 0) 1573 os):=by kernel_rfl
theorem run(w:World)(os:OsState):topRun treeTable PySem.Challenge.pw_pebbletoll_k66_whole_answers_walked w 11 (some (.ref 6)) (12+(1+(1932+(1970+(1411+(252+(1283+(2)))))))) (Shared.mk (boot_heap w.params) (.mk []) boot_drawn boot_toks os) (topStub PySem.Challenge.pw_pebbletoll_k66_whole_answers_walked)=some (Shared.mk (hf w.params) (.mk []) (.mk 0 0 0 0) 1573 os):=go_top (TB w os) (piece_block (Tj w os) (piece_app (Tr w os) (piece_app (Tg w os) (piece_app (Tv w os) (piece_app (To w os) (piece_app (Tf w os) (Tz w os)))))))
theorem opn:∀w:World,(fencedOpening treeTable PySem.Challenge.pw_pebbletoll_k66_whole_answers_walked w 13812).map (λs=>(s.heap,s.gens,s.drawn,s.toks))=some (boot_heap w.params,Array.mk [],boot_drawn,boot_toks):=boot_open (by kernel_rfl) (by decide) λs=>by kernel_rfl
theorem siz(w:World):((boot_heap w.params).isNs mainGlobals&&(Array.mk ([]:List GenState)).size==0,(boot_heap w.params).objs.size,(boot_heap w.params).nsMap mainGlobals "__annotations__")=(true,11,(some (.ref 6))):=by kernel_rfl
noncomputable def KK:Params->Frag:=λP=>
 (nat_lit 2,boot_o_2 P)::(nat_lit 3,d4 P)::(nat_lit 23,c0.D P)::(nat_lit 24,c0.T)::(nat_lit 25,c0.g 1)::(nat_lit 36,c1.D P)::(nat_lit 37,c1.T)::(nat_lit 48,c2.D P)::(nat_lit 49,c2.T)::(nat_lit 60,c3.D P)::(nat_lit 61,c3.T)::(nat_lit 72,c4.D P)::(nat_lit 73,c4.T)::(nat_lit 84,c5.D P)::(nat_lit 85,c5.T)::(nat_lit 96,c6.D P)::(nat_lit 97,c6.T)::(nat_lit 108,c7.D P)::(nat_lit 109,c7.T)::(nat_lit 124,f0.C)::(nat_lit 125,f0.D)::(nat_lit 127,c8.D P)::(nat_lit 128,c8.T)::(nat_lit 143,f1.C)::(nat_lit 144,f1.D)::(nat_lit 146,c9.D P)::(nat_lit 147,c9.T)::(nat_lit 160,f2.C)::(nat_lit 161,f2.D)::(nat_lit 163,Zz.D P)::(nat_lit 164,Zz.T)::(nat_lit 165,Zz.g 0)::(nat_lit 166,Zz.g 1)::(nat_lit 174,f3.C)::(nat_lit 175,f3.D)::(nat_lit 181,f4.C)::(nat_lit 182,f4.D)::(nat_lit 188,f5.C)::(nat_lit 189,f5.D)::(nat_lit 195,f6.C)::(nat_lit 196,f6.D)::(nat_lit 202,f7.C)::(nat_lit 203,f7.D)::(nat_lit 209,f8.C)::(nat_lit 210,f8.D)::(nat_lit 216,f9.C)::(nat_lit 217,f9.D)::(nat_lit 223,f10.C)::(nat_lit 224,f10.D)::(nat_lit 230,f11.C)::(nat_lit 231,f11.D)::(nat_lit 237,f12.C)::(nat_lit 238,f12.D)::(nat_lit 242,f13.C)::(nat_lit 243,f13.D)::(nat_lit 249,f14.C)::(nat_lit 250,f14.D)::(nat_lit 256,f15.C)::(nat_lit 257,f15.D)::(nat_lit 263,f16.C)::(nat_lit 264,f16.D)::(nat_lit 270,f17.C)::(nat_lit 271,f17.D)::(nat_lit 277,f18.C)::(nat_lit 278,f18.D)::(nat_lit 282,f19.C)::(nat_lit 283,f19.D)::(nat_lit 287,f20.C)::(nat_lit 288,f20.D)::(nat_lit 294,f21.C)::(nat_lit 295,f21.D)::(nat_lit 301,f22.C)::(nat_lit 302,f22.D)::(nat_lit 308,f23.C)::(nat_lit 309,f23.D)::(nat_lit 315,f24.C)::(nat_lit 316,f24.D)::(nat_lit 322,f25.C)::(nat_lit 323,f25.D)::(nat_lit 329,f26.C)::(nat_lit 330,f26.D)::(nat_lit 336,f27.C)::(nat_lit 337,f27.D)::(nat_lit 341,f28.C)::(nat_lit 342,f28.D)::(nat_lit 348,f29.C)::(nat_lit 349,f29.D)::(nat_lit 355,f30.C)::(nat_lit 356,f30.D)::(nat_lit 362,f31.C)::(nat_lit 363,f31.D)::(nat_lit 369,f32.C)::(nat_lit 370,f32.D)::(nat_lit 376,f33.C)::(nat_lit 377,f33.D)::(nat_lit 383,f34.C)::(nat_lit 384,f34.D)::(nat_lit 388,f35.C)::(nat_lit 389,f35.D)::(nat_lit 395,f36.C)::(nat_lit 396,f36.D)::(nat_lit 402,f37.C)::(nat_lit 403,f37.D)::(nat_lit 407,f38.C)::(nat_lit 408,f38.D)::(nat_lit 414,f39.C)::(nat_lit 415,f39.D)::(nat_lit 421,f40.C)::(nat_lit 422,f40.D)::(nat_lit 433,f41.C)::(nat_lit 434,f41.D)::(nat_lit 436,ZA.D P)::(nat_lit 437,ZA.T)::(nat_lit 438,ZA.g 0)::(nat_lit 439,ZA.g 1)::(nat_lit 447,f42.C)::(nat_lit 448,f42.D)::(nat_lit 454,f43.C)::(nat_lit 455,f43.D)::(nat_lit 459,f44.C)::(nat_lit 460,f44.D)::(nat_lit 466,f45.C)::(nat_lit 467,f45.D)::(nat_lit 473,f46.C)::(nat_lit 474,f46.D)::(nat_lit 480,f47.C)::(nat_lit 481,f47.D)::(nat_lit 487,f48.C)::(nat_lit 488,f48.D)::(nat_lit 494,f49.C)::(nat_lit 495,f49.D)::(nat_lit 501,f50.C)::(nat_lit 502,f50.D)::(nat_lit 508,f51.C)::(nat_lit 509,f51.D)::(nat_lit 515,f52.C)::(nat_lit 516,f52.D)::(nat_lit 522,f53.C)::(nat_lit 523,f53.D)::(nat_lit 529,f54.C)::(nat_lit 530,f54.D)::(nat_lit 534,f55.C)::(nat_lit 535,f55.D)::(nat_lit 541,f56.C)::(nat_lit 542,f56.D)::(nat_lit 548,f57.C)::(nat_lit 549,f57.D)::(nat_lit 553,f58.C)::(nat_lit 554,f58.D)::(nat_lit 560,f59.C)::(nat_lit 561,f59.D)::(nat_lit 565,f60.C)::(nat_lit 566,f60.D)::(nat_lit 570,f61.C)::(nat_lit 571,f61.D)::(nat_lit 575,f62.C)::(nat_lit 576,f62.D)::(nat_lit 582,f63.C)::(nat_lit 583,f63.D)::(nat_lit 587,f64.C)::(nat_lit 588,f64.D)::(nat_lit 594,f65.C)::(nat_lit 595,f65.D)::(nat_lit 599,f66.C)::(nat_lit 600,f66.D)::(nat_lit 606,f67.C)::(nat_lit 607,f67.D)::(nat_lit 611,f68.C)::(nat_lit 612,f68.D)::(nat_lit 618,f69.C)::(nat_lit 619,f69.D)::(nat_lit 623,f70.C)::(nat_lit 624,f70.D)::(nat_lit 628,f71.C)::(nat_lit 629,f71.D)::(nat_lit 633,f72.C)::(nat_lit 634,f72.D)::(nat_lit 640,f73.C)::(nat_lit 641,f73.D)::(nat_lit 652,f74.C)::(nat_lit 653,f74.D)::(nat_lit 655,ZC.D P)::(nat_lit 656,ZC.T)::(nat_lit 657,ZC.g 0)::(nat_lit 658,ZC.g 1)::(nat_lit 664,f75.C)::(nat_lit 665,f75.D)::(nat_lit 671,f76.C)::(nat_lit 672,f76.D)::(nat_lit 678,f77.C)::(nat_lit 679,f77.D)::(nat_lit 685,f78.C)::(nat_lit 686,f78.D)::(nat_lit 692,f79.C)::(nat_lit 693,f79.D)::(nat_lit 694,SI)::(nat_lit 695,R4 P)::(nat_lit 708,f80.C)::(nat_lit 709,f80.D)::(nat_lit 713,f81.C)::(nat_lit 714,f81.D)::(nat_lit 720,f82.C)::(nat_lit 721,f82.D)::(nat_lit 727,f83.C)::(nat_lit 728,f83.D)::(nat_lit 734,f84.C)::(nat_lit 735,f84.D)::(nat_lit 741,f85.C)::(nat_lit 742,f85.D)::(nat_lit 748,f86.C)::(nat_lit 749,f86.D)::(nat_lit 755,f87.C)::(nat_lit 756,f87.D)::(nat_lit 762,f88.C)::(nat_lit 763,f88.D)::(nat_lit 769,f89.C)::(nat_lit 770,f89.D)::(nat_lit 772,ZD.D P)::(nat_lit 773,ZD.T)::(nat_lit 774,ZD.g 0)::(nat_lit 775,ZD.g 1)::(nat_lit 783,f90.C)::(nat_lit 784,f90.D)::(nat_lit 790,f91.C)::(nat_lit 791,f91.D)::(nat_lit 797,f92.C)::(nat_lit 798,f92.D)::(nat_lit 804,f93.C)::(nat_lit 805,f93.D)::(nat_lit 811,f94.C)::(nat_lit 812,f94.D)::(nat_lit 818,f95.C)::(nat_lit 819,f95.D)::(nat_lit 825,f96.C)::(nat_lit 826,f96.D)::(nat_lit 832,f97.C)::(nat_lit 833,f97.D)::(nat_lit 839,f98.C)::(nat_lit 840,f98.D)::(nat_lit 846,f99.C)::(nat_lit 847,f99.D)::(nat_lit 853,No.C)::(nat_lit 854,No.D)::(nat_lit 860,OA.C)::(nat_lit 861,OA.D)::(nat_lit 867,Ol.C)::(nat_lit 868,Ol.D)::(nat_lit 872,Og.C)::(nat_lit 873,Og.D)::(nat_lit 879,Ow.C)::(nat_lit 880,Ow.D)::(nat_lit 886,Pf.C)::(nat_lit 887,Pf.D)::(nat_lit 893,Ot.C)::(nat_lit 894,Ot.D)::(nat_lit 900,NN.C)::(nat_lit 901,NN.D)::(nat_lit 907,Pj.C)::(nat_lit 908,Pj.D)::(nat_lit 912,Pt.C)::(nat_lit 913,Pt.D)::(nat_lit 917,OS.C)::(nat_lit 918,OS.D)::(nat_lit 924,Py.C)::(nat_lit 925,Py.D)::(nat_lit 929,NX.C)::(nat_lit 930,NX.D)::(nat_lit 936,OT.C)::(nat_lit 937,OT.D)::[]
abbrev qq:Program:=PySem.W.view PySem.Challenge.pw_pebbletoll_k66_whole_answers_walked [1,2,3,4,5,6,7,8,9,10,12,13,14,15,16,17,18,19,20,21,22,23,24,26,27,28,29,30,32,33,34,35,37,38,39,40,41,42,44,45,46,47,48,49,50,51,52,54,55,56,57,58,59,60,61,62,63,64,66,67,68,70,71,72,73,74,75,76,77,78,80,81,82,83,84,85,86,87,88,89,90,91,92,94,95,96,97,98,100,101,102,103,104,105,106,108,109,110,111,112,113,114,115,116,117,119,120,121,122,123,124,125,126,127,128,129,130,131,132,133,134,135]
abbrev V5:List Addr:=[2,3,23,24,25,36,37,48,49,60,61,72,73,84,85,96,97,108,109,124,125,127,128,143,144,146,147,160,161,163,164,165,166,174,175,181,182,188,189,195,196,202,203,209,210,216,217,223,224,230,231,237,238,242,243,249,250,256,257,263,264,270,271,277,278,282,283,287,288,294,295,301,302,308,309,315,316,322,323,329,330,336,337,341,342,348,349,355,356,362,363,369,370,376,377,383,384,388,389,395,396,402,403,407,408,414,415,421,422,433,434,436,437,438,439,447,448,454,455,459,460,466,467,473,474,480,481,487,488,494,495,501,502,508,509,515,516,522,523,529,530,534,535,541,542,548,549,553,554,560,561,565,566,570,571,575,576,582,583,587,588,594,595,599,600,606,607,611,612,618,619,623,624,628,629,633,634,640,641,652,653,655,656,657,658,664,665,671,672,678,679,685,686,692,693,694,695,708,709,713,714,720,721,727,728,734,735,741,742,748,749,755,756,762,763,769,770,772,773,774,775,783,784,790,791,797,798,804,805,811,812,818,819,825,826,832,833,839,840,846,847,853,854,860,861,867,868,872,873,879,880,886,887,893,894,900,901,907,908,912,913,917,918,924,925,929,930,936,937]
theorem Ϝ:∀P,V5=(KK P).map (·.1):=λ_=>by kernel_rfl
theorem lk0(w:World):(λos=>seen ((recsOf qq).map (·.name)) (ownsOf qq) [] { (Shared.mk (Hd.hf w.params) (.mk []) (.mk 0 0 0 0) 1573 os)with gens:=#[] })=λ_=>expectedOf qq:=by kernel_rfl
theorem lk1(w:World):(λos=>((Shared.mk (Hd.hf w.params) (.mk []) (.mk 0 0 0 0) 1573 os)).heap.bltView)=λ_=>bltViewBooted:=by kernel_rfl
theorem lk2(w:World):(λos=>(((Shared.mk (Hd.hf w.params) (.mk []) (.mk 0 0 0 0) 1573 os)).heap.keysOk (looseW qq ["NUMBERS_BEHIND"]) ((recsOf qq).map (·.name)) ((litsOf qq).map (·.1)) ((clssOf qq (looseW qq ["NUMBERS_BEHIND"])).map (·.name))&&((Shared.mk (Hd.hf w.params) (.mk []) (.mk 0 0 0 0) 1573 os)).heap.accountedOkI (importedModules PySem.Challenge.pw_pebbletoll_k66_whole_answers_walked.main.body)&&((Shared.mk (Hd.hf w.params) (.mk []) (.mk 0 0 0 0) 1573 os)).heap.isNs mainGlobals&&((Shared.mk (Hd.hf w.params) (.mk []) (.mk 0 0 0 0) 1573 os)).heap.isNs builtinsNs&&tablesOk qq ((Shared.mk (Hd.hf w.params) (.mk []) (.mk 0 0 0 0) 1573 os)).heap&&(λs=>PySem.W.xlAt Hd.qq [] s&&PySem.W.recOk (PySem.W.RowW.records (PySem.W.OpenRow.toRowW (PySem.Challenge.rw_pebbletoll_k66_whole_answers_walked).row)) s) (Shared.mk (Hd.hf w.params) (.mk []) (.mk 0 0 0 0) 1573 os)&&(if true then((Shared.mk (Hd.hf w.params) (.mk []) (.mk 0 0 0 0) 1573 os)).gens.size==0 else !leftWithCleanup ((Shared.mk (Hd.hf w.params) (.mk []) (.mk 0 0 0 0) 1573 os)).gens)))=λ_=>true:=by kernel_rfl
theorem lk3(w:World):(λos=>tabsOk qq (Shared.mk (Hd.hf w.params) (.mk []) (.mk 0 0 0 0) 1573 os))=λ_=>true:=by kernel_rfl
theorem lk4(w:World):(λos=>pinSeenD qq (drecsOf qq) (Shared.mk (Hd.hf w.params) (.mk []) (.mk 0 0 0 0) 1573 os))=λ_=>pinGoodD (drecsOf qq):=by kernel_rfl
theorem lk5(w:World):(λos=>plainSeenE qq (looseW qq ["NUMBERS_BEHIND"]) (Shared.mk (Hd.hf w.params) (.mk []) (.mk 0 0 0 0) 1573 os))=λ_=>plainGoodE qq (looseW qq ["NUMBERS_BEHIND"]):=by kernel_rfl
theorem lk6(w:World):(λos=>plainSeenD qq ["NUMBERS_BEHIND"] (Shared.mk (Hd.hf w.params) (.mk []) (.mk 0 0 0 0) 1573 os))=λ_=>plainGoodD qq ["NUMBERS_BEHIND"]:=by kernel_rfl
theorem lk7(w:World):(λos=>wideSeen qq (Shared.mk (Hd.hf w.params) (.mk []) (.mk 0 0 0 0) 1573 os))=λ_=>wideGood qq:=by kernel_rfl
theorem lk8(w:World):(λos=>clsSeenW qq ["NUMBERS_BEHIND"] (Shared.mk (Hd.hf w.params) (.mk []) (.mk 0 0 0 0) 1573 os))=λ_=>clsGoodW qq ["NUMBERS_BEHIND"]:=by kernel_rfl
theorem SY(w:World):(λos=>(staticsOk (importedModules PySem.Challenge.pw_pebbletoll_k66_whole_answers_walked.main.body) (boot_heap w.params) (hf w.params)&&namesBound PySem.Challenge.pw_pebbletoll_k66_whole_answers_walked (hf w.params)&&gensDone (Shared.mk (Hd.hf w.params) (.mk []) (.mk 0 0 0 0) 1573 os)&&laidKept (boot_heap w.params) (hf w.params)))=λ_=>true:=by kernel_rfl
theorem S6(w:World):(λos=>openSeen qq ["NUMBERS_BEHIND"] (importedModules PySem.Challenge.pw_pebbletoll_k66_whole_answers_walked.main.body) (λs=>PySem.W.xlAt Hd.qq [] s&&PySem.W.recOk (PySem.W.RowW.records (PySem.W.OpenRow.toRowW (PySem.Challenge.rw_pebbletoll_k66_whole_answers_walked).row)) s) true (Shared.mk (Hd.hf w.params) (.mk []) (.mk 0 0 0 0) 1573 os))=λ_=>openGood qq ["NUMBERS_BEHIND"]:=funext λos=>congr (congrArg Prod.mk (congrFun (lk0 w) os)) (congr (congrArg Prod.mk (congrFun (lk1 w) os)) (congr (congrArg Prod.mk (congrFun (lk2 w) os)) (congr (congrArg Prod.mk (congrFun (lk3 w) os)) (congr (congrArg Prod.mk (congrFun (lk4 w) os)) (congr (congrArg Prod.mk (congrFun (lk5 w) os)) (congr (congrArg Prod.mk (congrFun (lk6 w) os)) (congr (congrArg Prod.mk (congrFun (lk7 w) os)) (congrFun (lk8 w) os))))))))
theorem Tc(w:World):(λos=>Hook.obs (PySem.W.kHook Hd.KK Hd.V5 Hd.Ϝ) (Shared.mk (Hd.hf w.params) (.mk []) (.mk 0 0 0 0) 1573 os))=λ_=>Hook.val (PySem.W.kHook Hd.KK Hd.V5 Hd.Ϝ) w:=by kernel_rfl
theorem SO(w:World):(λos=>((staticsOk (importedModules PySem.Challenge.pw_pebbletoll_k66_whole_answers_walked.main.body) (boot_heap w.params) (hf w.params)&&namesBound PySem.Challenge.pw_pebbletoll_k66_whole_answers_walked (hf w.params)&&gensDone (Shared.mk (Hd.hf w.params) (.mk []) (.mk 0 0 0 0) 1573 os)&&laidKept (boot_heap w.params) (hf w.params)),openSeen qq ["NUMBERS_BEHIND"] (importedModules PySem.Challenge.pw_pebbletoll_k66_whole_answers_walked.main.body) (λs=>PySem.W.xlAt Hd.qq [] s&&PySem.W.recOk (PySem.W.RowW.records (PySem.W.OpenRow.toRowW (PySem.Challenge.rw_pebbletoll_k66_whole_answers_walked).row)) s) true (Shared.mk (Hd.hf w.params) (.mk []) (.mk 0 0 0 0) 1573 os),Hook.obs (PySem.W.kHook Hd.KK Hd.V5 Hd.Ϝ) (Shared.mk (Hd.hf w.params) (.mk []) (.mk 0 0 0 0) 1573 os)))=λ_=>(true,openGood qq ["NUMBERS_BEHIND"],Hook.val (PySem.W.kHook Hd.KK Hd.V5 Hd.Ϝ) w):=funext λos=>congr (congrArg Prod.mk (congrFun (SY w) os)) (congr (congrArg Prod.mk (congrFun (S6 w) os)) (congrFun (Tc w) os))
theorem left:PySem.W.LeftO (PySem.Challenge.rw_pebbletoll_k66_whole_answers_walked).row.prog qq ["NUMBERS_BEHIND"] (λs=>PySem.W.xlAt Hd.qq [] s&&PySem.W.recOk (PySem.W.RowW.records (PySem.W.OpenRow.toRowW (PySem.Challenge.rw_pebbletoll_k66_whole_answers_walked).row)) s) (PySem.W.Hook.obs (PySem.W.kHook Hd.KK Hd.V5 Hd.Ϝ)) (PySem.W.Hook.val (PySem.W.kHook Hd.KK Hd.V5 Hd.Ϝ)) 13812:=LeftO.of_pieces opn siz run (by decide) SO
end Hd
abbrev hP:=Int->Int->Int
abbrev hG:=List PySem.Str
abbrev hF:=PySem.Str->Option PySem.Value
abbrev hE:=List PySem.Value
abbrev hD:=List PySem.Addr
abbrev g8:=List (PySem.Addr×PySem.Obj)
abbrev gy:=PySem.W.Frag
abbrev fz:=PySem.Value->PySem.Shared->Prop
abbrev fb:=Int->Nat
abbrev eX:=Int->Int
abbrev ej:=List Int
set_option autoImplicit true
set_option relaxedAutoImplicit true
namespace L2
open PySem PySem.Spec PyProof.Rows
abbrev Key:=Sum Int Str
def Ah:Key->Value->Bool
 | .inl k,v=>Value.isInt k v
 | .inr x,v=>Value.isStrOf x v
def Po(w:World):Key->Int
 | .inl k=>hashInt k
 | .inr x=>hashStr w x
def jE:∀{k:Key}{v:Value},Ah k v=true->(∃i t,k=Sum.inl i/\v=Value.int i t)\/(∃x t,k=Sum.inr x/\v=Value.str x t)
 | .inl i,v,h=>by
   obtain⟨t,e⟩:=Value.isInt_shape (k:=i) (v:=v) h;exact .inl ⟨i,t,rfl,e⟩
 | .inr x,v,h=>by
   obtain⟨t,e⟩:=Value.isStrOf_shape (x:=x) (v:=v) h;exact .inr ⟨x,t,rfl,e⟩
def Na(i:Int)(t:Tok):Ah (.inl i) (.int i t)=true:=by simp[Ah,Value.isInt]
def Mh(x:Str)(t:Tok):Ah (.inr x) (.str x t)=true:=by simp[Ah,Value.isStrOf]
def Sr(a b:Int):decide ((Sum.inl a:Key)=Sum.inl b)=(a==b):=by
 by_cases e:a=b
 .subst e;simp
 .have h:¬(Sum.inl a:Key)=Sum.inl b:=λq=>e (Sum.inl.inj q);rw[b4 h];exact(beq_eq_false_iff_ne.mpr e).symm
def R5(a b:Str):decide ((Sum.inr a:Key)=Sum.inr b)=decide (a=b):=by
 by_cases e:a=b
 .subst e;simp
 .have h:¬(Sum.inr a:Key)=Sum.inr b:=λq=>e (Sum.inr.inj q);rw[b4 h,b4 e]
def RI(a:Int)(b:Str):decide ((Sum.inl a:Key)=Sum.inr b)=false:=b4 (λq=>nomatch q)
def So(a:Str)(b:Int):decide ((Sum.inr a:Key)=Sum.inl b)=false:=b4 (λq=>nomatch q)
def iC(prog:Program)(w:World):PySem.KeyKind prog w Key where
 is:=Ah
 hash:=Po w
 inj:=λv a b d c=>by
  rcases jE d with⟨i,t,rfl,rfl⟩|⟨x,t,rfl,rfl⟩
  .rcases jE c with⟨j,u,rfl,e⟩|⟨y,u,rfl,e⟩
   .injection e with e1 _;rw[e1]
   .exact nomatch e
  .rcases jE c with⟨j,u,rfl,e⟩|⟨y,u,rfl,e⟩
   .exact nomatch e
   .injection e with e1 _;rw[e1]
 byValue:=λk v h=>by
  rcases jE h with⟨i,t,rfl,rfl⟩|⟨x,t,rfl,rfl⟩<;>rfl
 pyHash:=λhv h=>by
  rcases jE hv with⟨i,t,rfl,rfl⟩|⟨x,t,rfl,rfl⟩
  .exact wpAny_pyHash_int h
  .exact wpAny_pyHash_str h
 eqBool:=λf hv h=>by
  rcases jE f with⟨i,t,rfl,rfl⟩|⟨x,t,rfl,rfl⟩
  .rcases jE hv with⟨j,u,rfl,rfl⟩|⟨y,u,rfl,rfl⟩
   .rw[Sr]at h;exact wpAny_eqBool_int h
   .rw[RI]at h;exact SeqAt.EqAt.int_str i t y u _ _ _ _ h
  .rcases jE hv with⟨j,u,rfl,rfl⟩|⟨y,u,rfl,rfl⟩
   .rw[So]at h;exact SeqAt.EqAt.str_int x t j u _ _ _ _ h
   .rw[R5]at h;exact wpAny_eqBool_str h
 «strs»:=λk x t v h=>by
  rcases jE h with⟨i,u,rfl,e⟩|⟨y,u,rfl,e⟩
  .exact nomatch e
  .injection e with e1 _
   subst e1;cases v<;>rfl
def Iu(a:Program)(w:World)(i:Int)(t:Tok):(iC a w).is (.inl i) (.int i t)=true:=Na i t
def vf(a:Program)(w:World)(x:Str)(t:Tok):(iC a w).is (.inr x) (.str x t)=true:=Mh x t
inductive V where
 | ο|bl (b:Bool)|int (i:Int)|str (x:Str)|Vh (b:Array UInt8)|ZE (b:UInt64)|ref (a:Addr)|ty (n:String)
 deriving DecidableEq
def RelV:V->Value->Prop
 | .ο,u=>u=Value.none
 | .bl b,u=>u=Value.bool b
 | .int i,u=>∃t,u=Value.int i t
 | .str x,u=>∃t,u=Value.str x t
 | .Vh b,u=>∃t,u=Value.bytes b t
 | .ZE b,u=>∃t,u=Value.float b t
 | .ref a,u=>u=Value.ref a
 | .ty n,u=>u=Value.type n
abbrev Vals:List V->List Value->Prop:=Paired RelV
def Vals.length(r:Vals b a):b.length=a.length:=Paired.length r
theorem Vals.get:∀{a:List V}{b:hE}{i:Nat}{x:V},Vals a b->a[i]?=some x->∃u,b[i]?=some u/\RelV x u
 | _,_,_,_,.nil,e=>by simp at e
 | _,_,0,_,.cons r _,e=>by simp at e;subst e;exact⟨_,rfl,r⟩
 | _,_,i+1,x,.cons _ t,e=>by
   obtain⟨u,d,c⟩:=Vals.get (i:=i) (x:=x) t (by simpa using e);exact⟨u,by simpa using d,c⟩
theorem Vals.set(r:RelV a b):∀{c:List V}{d:hE}(i:Nat),Vals c d->Vals (c.set i a) (d.set i b)
 | _,_,_,.nil=>.nil
 | _,_,0,.cons _ t=>.cons r t
 | _,_,i+1,.cons q t=>.cons q (Vals.set r i t)
theorem Vals.append:∀{a b:List V}{d c:hE},Vals a d->Vals b c->Vals (a++b) (d++c)
 | _,_,_,_,.nil,s=>s
 | _,_,_,_,.cons r t,s=>.cons r (Vals.append t s)
theorem Vals.take:∀{a:List V}{b:hE}(n:Nat),Vals a b->Vals (a.take n) (b.take n)
 | _,_,0,_=>.nil
 | _,_,_+1,.nil=>.nil
 | _,_,n+1,.cons r t=>.cons r (Vals.take n t)
theorem Vals.drop:∀{a:List V}{b:hE}(n:Nat),Vals a b->Vals (a.drop n) (b.drop n)
 | _,_,0,r=>r
 | _,_,_+1,.nil=>.nil
 | _,_,n+1,.cons _ t=>Vals.drop n t
def aC:Option V->Option Value->Prop
 | some v,some u=>RelV v u
 | none,none=>True
 | _,_=>False
def KV :List (a×V)->List (a×Value)->Prop:=Paired λ(p:a×V)(q:a×Value)=>p.1=q.1/\RelV p.2 q.2
def kV:Key->V
 | .inl i=>.int i
 | .inr x=>.str x
inductive HO where
 /-- a list -/
 | lst (xs:List V)
 /-- a tuple (never changes) -/
 | tup (xs:List V)
 /-- a dict ZF keys are ints and texts;one ZF keys are tuples of ints and texts (Uh empty one is both) -/
 | dK (π:List (Key×V))|dT (π:List (List Key×V))
 /-- a set of ints: its members,its size -/
 | set (S:Int->Bool) (n:Nat)
 /-- an instance of Uh class at C,its dict at dx,its attributes -/
 | ins (C dx:Addr) (fs:List (Str×V))
 /-- Uh dict of Uh instance at x -/
 | own (x:Addr)
 /-- Uh dict of an exception -/
 | xd (fs:List (Str×V))
 /-- a bound method,f of x -/
 | met (f x:Addr)
 /-- a range object lo,lo+1,.. cj hi -/
 | Μ (lo hi:Int)
 /-- a thing ZG is known to Uh object (Uh script;a dict while a loop walks it): read,never written while it is so -/
 | Wi (o:Obj) (u:HO)
 /-- a code ZH table -/
 | XF (ps:Array Value)
 /-- any other thing,by ZI is true of its one object (a def of agj own: aim a S n:=HO.ext λh=>..) -/
 | ext (φ:Heap->Prop)
abbrev Hp:=Addr->Option HO
def upd(H:Hp)(a:Addr)(o:HO):Hp:=λb=>if b=a then some o else H b
def az :upd c a b a=some b:=by unfold upd;rw[aj rfl]
def aW(h:a≠c):upd b c d a=b a:=by unfold upd;rw[ah h]
def nS :upd (upd c a e) a d=upd c a d:=by
 funext b;unfold upd;split<;>rfl
def eG{H:Hp}(h:H c=some f)(g:H b=some a)(d:f≠a):c≠b:=by
 intro e;subst e;rw[h]at g;exact d (bN g)
def dX{H:Hp}(h:H b=some o)(c:H a=none):b≠a:=by
 intro e;subst e;rw[h]at c;cases c
section
variable(P:Program)(w:World)
def Φ(H:Hp)(h:Heap)(a:Addr):HO->Prop
 | .lst c=>c.length<=sizeLine/\∃(b:hE)(n:Nat),Vals c b/\h.get? a=some { cls:=.type "list",data:=.seq b.toArray n }
 | .tup c=>c.length<=sizeLine/\∃b:List Value,Vals c b/\IsTup h a b.toArray
 | .dK π=>π.length<=sizeLine/\(a==sysModules)=false/\∃g,KV π g/\h.DictOf (iC P w) a g
 | .dT π=>π.length<=sizeLine/\(a==sysModules)=false/\∃c:List (List Key×Addr×Value),Paired (λ(p:List Key×V)(q:List Key×Addr×Value)=>p.1=q.1/\H q.2.1=some (.tup (p.1.map kV))/\RelV p.2 q.2.2) π c/\∃o i k,h.get? a=some o/\o.ExactDict/\o.data=.dict i k/\i.toList=c.map (entryOfKey (tupleKind (iC P w)))/\(c.map (·.1)).Nodup
 | .set S n=>h.SetOf (intKind P w) a S n
 | .ins C dx fs=>H dx=some (.own a)/\fs.length<=1000/\dx≠a/\h.get? a=some (PySem.W.instObj C dx)/\∃d,h.Ns1 dx d/\(∀f,aC (fs.lookup f) (d f))/\PySem.Within d (fs.map (·.1))
 | .own _=>∃o,h.get? a=some o
 | .xd fs=>∃d,h.Ns1 a d/\∀f,aC (fs.lookup f) (d f)
 | .Μ lo hi=>∃t u v,h.get? a=some { cls:=.type "range",data:=.fields #[.int lo t,.int hi u,.int 1 v] }
 | .Wi o u=>h.get? a=some o/\Φ H h a u
 | .XF ps=>h.get? a=some { cls:=.none,data:=.fields ps }
 | .met f x=>h.get? a=some (PySem.W.methodObj (.ref f) (.ref x))
 | .ext φ=>φ h/\(∃o,h.get? a=some o)/\∀e j:Heap,φ e->(∀o,e.get? a=some o->j.get? a=some o)->φ j
def ϱ(H:Hp)(h:Heap):Prop:=∀a o,H a=some o->Φ P w H h a o
end
def Φ.lt(x:Φ d g h c b a):b<c.objs.size:=by
 cases a with
 | lst xs=>obtain⟨_,_,_,_,e⟩:=x;exact aO e
 | tup xs=>obtain⟨_,_,_,p⟩:=x;exact p.lt
 | dK π=>obtain⟨_,_,_,_,a,_,_,e,_⟩:=x;exact aO e
 | dT π=>obtain⟨_,_,_,_,a,_,_,e,_⟩:=x;exact aO e
 | set S n=>obtain⟨a,_,_,_,e,_⟩:=x;exact aO e
 | ins C dx fs=>obtain⟨_,_,_,e,_⟩:=x;exact aO e
 | own y=>obtain⟨_,e⟩:=x;exact aO e
 | xd fs=>obtain⟨_,⟨_,_,_,e,_⟩,_⟩:=x;exact aO e
 | Μ lo hi=>obtain⟨_,_,_,e⟩:=x;exact aO e
 | Wi ob u=>obtain⟨e,_⟩:=x;exact aO e
 | XF ps=>exact aO (show c.get? b=some _ from x)
 | met f y=>exact aO (show c.get? b=some _ from x)
 | ext φ=>obtain⟨_,⟨_,e⟩,_⟩:=x;exact aO e
theorem Paired.Xg{G:c->d->Prop}:∀{h:List c}{g:List d},Paired e h g->(∀a b,e a b->G a b)->Paired G h g
 | _,_,.nil,_=>.nil
 | _,_,.cons r t,f=>.cons (f _ _ r) (Paired.Xg t f)
def Paired.imp'{e g:Type}{F G:e->g->Prop}(f:∀a b,F a b->G a b){d:List e}{c:List g}(r:Paired F d c):Paired G d c:=Paired.Xg r f
def Φ.lT{E:Hp}{B:Heap}(x:Φ l j i h a g)(k:∀b u,(b=a\/i b=some (.own a))->h.get? b=some u->B.get? b=some u)(J:∀b,i b=some (.own a)->E b=some (.own a))(H:∀b A,i b=some (.tup A)->E b=some (.tup A)):Φ l j E B a g:=by
 induction g with
 | lst A=>obtain⟨z,w,n,r,e⟩:=x;exact⟨z,w,n,r,k _ _ (.inl rfl) e⟩
 | tup A=>obtain⟨z,w,r,m,e,c⟩:=x;exact⟨z,w,r,m,k _ _ (.inl rfl) e,c⟩
 | dK π=>obtain⟨z,y,I,r,m,s,o,e,c⟩:=x;exact⟨z,y,I,r,m,s,o,k _ _ (.inl rfl) e,c⟩
 | dT π=>
   obtain⟨z,y,A,r,m,s,o,e,c⟩:=x;exact⟨z,y,A,Paired.Xg r λp q z=>⟨z.1,H _ _ z.2.1,z.2.2⟩,m,s,o,k _ _ (.inl rfl) e,c⟩
 | set S n=>obtain⟨m,s,o,t,e,c⟩:=x;exact⟨m,s,o,t,k _ _ (.inl rfl) e,c⟩
 | ins C dx fs=>
   obtain⟨d,z,ne,e,D,⟨F,s,o,G,c⟩,r⟩:=x;exact⟨J _ d,z,ne,k _ _ (.inl rfl) e,D,⟨F,s,o,k _ _ (.inr d) G,c⟩,r⟩
 | own y=>obtain⟨m,e⟩:=x;exact⟨m,k _ _ (.inl rfl) e⟩
 | xd fs=>obtain⟨D,⟨F,s,o,e,c⟩,r⟩:=x;exact⟨D,⟨F,s,o,k _ _ (.inl rfl) e,c⟩,r⟩
 | Μ lo hi=>obtain⟨t,u,v,e⟩:=x;exact⟨t,u,v,k _ _ (.inl rfl) e⟩
 | Wi m u ih=>obtain⟨e,q⟩:=x;exact⟨k _ _ (.inl rfl) e,ih q⟩
 | XF ps=>
   have e:h.get? a=some { cls:=.none,data:=.fields ps }:=x;show B.get? a=some { cls:=.none,data:=.fields ps };exact k a _ (.inl rfl) e
 | met f y=>
   have e:h.get? a=some (PySem.W.methodObj (.ref f) (.ref y)):=x;show B.get? a=some (PySem.W.methodObj (.ref f) (.ref y));exact k a _ (.inl rfl) e
 | ext φ=>obtain⟨p,⟨g,e⟩,st⟩:=x;exact⟨st _ _ p λg q=>k _ _ (.inl rfl) q,⟨g,k _ _ (.inl rfl) e⟩,st⟩
def ϱ.lt(x:ϱ f g c b)(e:c a=some d):a<b.objs.size:=(x a d e).lt
def ϱ.fresh(x:ϱ d f a c)(e:c.objs.size<=b):a b=none:=by
 cases q:a b with
 | none=>rfl
 | some u=>exact absurd (be (x.lt q) e) (di _)
def ϱ.kept{h:Heap}(x:ϱ c g f d)(k:∀b u,d.get? b=some u->h.get? b=some u):ϱ c g f h:=λa o e=>
 (x a o e).lT (λb u _ q=>k b u q) (λ_ q=>q) λ_ _ q=>q
def ϱ.laid{h':Heap}(x:ϱ d h g f)(k:∀b u,f.get? b=some u->h'.get? b=some u)(m:f.objs.size<=a)(i:Φ d h (upd g a o) h' a o):ϱ d h (upd g a o) h':=λb u e=>by
 have j:=x.fresh m;by_cases l:b=a
 .subst l;rw[az]at e;cases e;exact i
 .rw[aW l]at e;exact(x b u e).lT (λc v _ q=>k c v q) (λc q=>by rw[aW (dX q j)];exact q) λc n q=>by rw[aW (dX q j)];exact q
def Rd(H:Hp)(a:Addr)(u:HO):Prop:=H a=some u\/∃o,H a=some (.Wi o u)
def Rd.ok(r:Rd c a b)(x:ϱ d f c e):Φ d f c e a b:=by
 rcases r with r|⟨o,r⟩
 .exact x a b r
 .obtain⟨_,q⟩:=x a _ r;exact q
def ZJ:Option HO->Prop
 | some (.lst _)=>True
 | some (.dK _)=>True
 | some (.dT _)=>True
 | some (.set _ _)=>True
 | some (.ins _ _ _)=>True
 | some (.ext _)=>True
 | _=>False
def ϱ.write{l:Heap}(A:ϱ g f a h)(i:ZJ (a x))(t:e=x\/a e=some (.own x))(k:∀b u,b≠e->h.get? b=some u->l.get? b=some u)(w:∃u,l.get? e=some u)(o:Φ g f (upd a x d) l x d):ϱ g f (upd a x d) l:=λb u q=>by
 have s:∀c y,a c=some (.own y)->c≠x:=λc y r z=>by subst z;rw[r]at i;exact i
 have p:∀c j,a c=some (.tup j)->c≠x:=λc j r z=>by subst z;rw[r]at i;exact i
 by_cases n:b=x
 .subst n;rw[az]at q;cases q;exact o
 .rw[aW n]at q;by_cases m:b=e
  .have q':a b=some (.own x):=by
    rcases t with z|z
    .exact absurd (m.trans z) n
    .rw[m];exact z
   rw[q]at q';cases q';obtain⟨v,B⟩:=w;exact⟨v,by rw[m];exact B⟩
  .refine(A b u q).lT (λc v hc r=>k c v ?_ r) (λc r=>by rw[aW (s c b r)];exact r) λc j r=>by rw[aW (p c j r)];exact r
   rcases hc with rfl|hc
   .exact m
   .rintro rfl;rcases t with z|z
    .exact s c b hc z
    .rw[hc]at z;cases z;exact n rfl
structure Un(fs ex:hD)(H H':Hp)(h h':Heap):Prop where
 keep:∀b o,h.get? b=some o->H b=none->b∉fs->b∉ex->h'.get? b=some o
 slot:∀b o,h.get? b=some o->H b=none->b∈fs->b∉ex->∃sl,h'.get? b=some { o with slots:=sl }
 free:∀b o,h.get? b=some o->H b=none->b∉ex->H' b=none
 there:∀b o,h.get? b=some o->b∉ex->∃o',h'.get? b=some o'
 nE:∀b xs,H b=some (.tup xs)->H' b=some (.tup xs)
 iD:∀b o u,H b=some (.Wi o u)->H' b=some (.Wi o u)
 oK:∀b ps,H b=some (.XF ps)->∃more,H' b=some (.XF (ps++more))
def Un.any(u:Un e d g h f c)(q:f.get? b=some a)(n:g b=none)(i:b∉d):∃k,c.get? b=some { a with slots:=k }:=by
 by_cases j:b∈e
 .exact u.slot b a q n j i
 .exact⟨a.slots,u.keep b a q n j i⟩
def Un.kept{h:Heap}{f:Heap}(k:∀b u,h.get? b=some u->f.get? b=some u):Un d c a a h f:=⟨λb e q _ _ _=>k b e q,λb e q _ _ _=>⟨e.slots,k b e q⟩,λ_ _ _ n _=>n,λb e q _=>⟨e,k b e q⟩,λ_ _ q=>q,λ_ _ _ q=>q,λ_ g q=>⟨#[],by rw[q];simp⟩⟩
def Un.refl:Un c d a a b b:=Un.kept λ_ _ q=>q
def Un.laid{H:Hp}{h:Heap}{h':Heap}(k:∀b u,h.get? b=some u->h'.get? b=some u)(f:h.objs.size<=a)(hn:H a=none):Un d c H (upd H a o) h h' where
 keep:=λb u q _ _ _=>k b u q
 slot:=λb u q _ _ _=>⟨u.slots,k b u q⟩
 free:=λb u q n _=>by rw[aW (bf (be (aO q) f))];exact n
 there:=λb u q _=>⟨u,k b u q⟩
 nE:=λb e q=>by rw[aW (dX q hn)];exact q
 iD:=λb u e q=>by rw[aW (dX q hn)];exact q
 oK:=λb g q=>⟨#[],by rw[aW (dX q hn),q];simp⟩
def Un.write{H:Hp}{h:Heap}{i:Heap}(f:ZJ (H x))(t:e=x\/H e=some (.own x))(k:∀b u,b≠e->h.get? b=some u->i.get? b=some u)(s:∃u,i.get? e=some u):Un a c H (upd H x d) h i:=by
 have j:∀b,H b=none->b≠x:=λb n z=>by subst z;rw[n]at f;exact f
 have m:∀b,H b=none->b≠e:=λb n z=>by
  subst z;rcases t with r|r
  .exact j b n r
  .rw[n]at r;cases r
 have g:∀b u,H b=some u->¬ZJ (some u)->b≠x:=λb u q o z=>by subst z;rw[q]at f;exact o f
 refine⟨λb u q n _ _=>k b u (m b n) q,λb u q n _ _=>⟨u.slots,k b u (m b n) q⟩,λb u q n _=>by rw[aW (j b n)];exact n,λb u q _=>?_,λb p q=>by rw[aW (g b _ q λz=>z)];exact q,λb u p q=>by rw[aW (g b _ q λz=>z)];exact q,λb v q=>⟨#[],by rw[aW (g b _ q λz=>z),q];simp⟩⟩
 by_cases l:b=e
 .subst l;exact s
 .exact⟨u,k b u l q⟩
def trk(h:Heap)(H:Hp):List Addr:=(List.range h.objs.size).filter λa=>(H a).isSome
def xO(h:Heap)(H:Hp):Heap:=PySem.W.hideAll h (trk h H)
def Ng(h:Heap)(H:Hp):(xO h H).objs.size=h.objs.size:=PySem.W.hideAll_size _ _
def Pe{h:Heap}{H:Hp}(e:h.get? a=some b)(n:H a=none):(xO h H).get? a=some b:=PySem.W.hideAll_get _ e λc=>by
 have q:(H a).isSome=true:=(bG.mp c).2;rw[n]at q;simp at q
def QZ(e:(xO b c).get? a=some d):b.get? a=some d/\c a=none:=by
 have f:b.get? a=some d:=PySem.W.of_hideAll (trk b c) e;refine⟨f,?_⟩;cases q:c a with
 | none=>rfl
 | some x=>
   have g:a∈trk b c:=bG.mpr ⟨de.mpr (aO f),by simp[q]⟩;have z:(xO b c).get? a=none:=PySem.W.hideAll_none (trk b c) g;rw[z]at e;cases e
def Rn(g h:Heap)(L:Addr):List (Addr×Obj):=(List.range h.objs.size).filterMap λa=>if a=L\/(g.get? a).isSome=true then none else(h.get? a).map λo=>(a,o)
def rest(g h:Heap)(L d:Addr):List (Addr×Obj):=(Rn g h L).filter λp=>decide (p.1≠d)
structure Mod(K:gy)(mg:hF)(base:Heap):Prop where
 Yh:K.In base
 glob:base.Ns mainGlobals mg
 blt:∃mb,base.Ns builtinsNs mb/\∀x:Str,x≠"__name__"->mb x=bootBuiltins x
 nolimit:base.NoLimit
structure Cx where
 prog:Program
 w:World
 K:PySem.W.Frag
 mg:Str->Option Value
 base:Heap
 A:Around
 N:List Str
 s₀:Shared
 H₀:Hp
 env:Env
 outer:List Env
 stack:List Env
 ex:List Addr
 fn:Str->Bool
 calm:Bool
 pn:List (Addr×Obj)
 xe:Value->Shared->Prop
def ϥ(l:List Env):List Addr:=l.filterMap (·.frame)
abbrev Cx.fs(X:Cx):List Addr:=ϥ X.outer
def Vis(a:Scope)(x:Str):Prop:=a.names.lookup x=some .local\/a.names.lookup x=some .cell\/a.names.lookup x=some .free
def Loc(a:Scope)(x:Str):Prop:=a.names.lookup x=some .local\/a.names.lookup x=some .cell
def Th(a:Env)(h:Heap)(m:hF)(x:Str)(u:Value):Prop:=(a.kindOf x=some .local/\m x=some u)\/((a.kindOf x=some .cell\/a.kindOf x=some .free)/\∃c,a.cells.lookup x=some c/\h.IsCell c (some u))
structure Cx.Ok(X:Cx):Prop where
 mod:Mod X.K X.mg X.base
 kind:X.env.scope.kind=.function
 glob:X.env.globals=mainGlobals
 blt:X.env.builtins=builtinsNs
 above:X.s₀.heap.objs.size<=X.env.locals
 inj:∀x y c,X.env.cells.lookup x=some c->X.env.cells.lookup y=some c->x=y
 has:∀x,(X.env.kindOf x=some .cell\/X.env.kindOf x=some .free)->∃c,X.env.cells.lookup x=some c
 XG:∀x c,X.fn x=true->X.env.cells.lookup x=some c->X.s₀.heap.objs.size<=c
 hd:X.calm=true->X.A.handled=none
 frames:X.A.frames=some X.stack
 Yi:X.stack=X.outer\/(X.stack=X.env::X.outer/\X.env.frame=some X.env.locals)
 ZL:∀b∈X.ex,b≠X.env.locals/\∀x c,X.env.cells.lookup x=some c->c≠b
 bs:∀b o,X.base.get? b=some o->X.s₀.heap.get? b=some o/\X.H₀ b=none
 Wj:X.base.objs.size<=X.s₀.heap.objs.size
 UT:∀b o,X.base.get? b=some o->b∉X.ex
 Uy:∀b∈X.ex,b∉X.fs
 aS:X.s₀.heap.FunFrames X.base X.outer
 WT:∀b∈X.fs,X.H₀ b=none
structure Inv(X:Cx)(pins:g8)(σ:List (Option V))(H:Hp)(s:Shared):Prop where
 ok:X.Ok
 os:s.os=X.s₀.os
 bare:AllBare s.gens
 base:Un X.fs X.ex X.H₀ H X.s₀.heap s.heap
 loc:∃m,s.heap.Ns X.env.locals m/\∀(i:Nat)(x:Str)(v:V),X.N[i]?=some x->σ[i]?=some (some v)->Vis X.env.scope x->∃u,RelV v u/\Th X.env s.heap m x u
 cell:∀x c,X.env.cells.lookup x=some c->∃v,s.heap.IsCell c v
 free:H X.env.locals=none
 ϝ:∀x c,X.env.cells.lookup x=some c->H c=none
 pin:∀p∈X.pn++pins,s.heap.get? p.1=some p.2/\H p.1=none/\p.1≠X.env.locals/\p.1∉X.fs/\∀v,p.2.data≠.cell v
 Α:ϱ X.prog X.w H s.heap
 len:σ.length=X.N.length
def Cx.Ok.aec{X:Cx}(c:X.Ok)(e:X.base.get? a=some b):a∉X.fs:=λd=>by
 have:=(c.aS.mem d).1;rw[e]at this;cases this
def Inv.bs(I:Inv f a g d c):∀b o,f.base.get? b=some o->c.heap.get? b=some o/\d b=none:=λb o e=>
 ⟨I.base.keep b o (I.ok.bs b o e).1 (I.ok.bs b o e).2 (I.ok.aec e) (I.ok.UT b o e),I.base.free b o (I.ok.bs b o e).1 (I.ok.bs b o e).2 (I.ok.UT b o e)⟩
def Inv.bk(I:Inv d a f g c):∀b o,d.base.get? b=some o->c.heap.get? b=some o:=λb o e=>(I.bs b o e).1
def Inv.mod(I:Inv a b c d e):Mod a.K a.mg a.base:=I.ok.mod
def Inv.Uz(I:Inv b a d e c):b.K.In c.heap:=I.ok.mod.Yh.keeps I.bk
def Inv.lt(I:Inv b a d e c):b.env.locals<c.heap.objs.size:=let ⟨_,hn,_⟩:=I.loc;hn.lt
def Inv.sz(I:Inv b a d e c):b.s₀.heap.objs.size<=c.heap.objs.size:=aV I.ok.above (iH I.lt)
def Inv.aed(I:Inv d a e f c)(h:c.heap.objs.size<=b):b∉d.fs:=λi=>by
 obtain⟨_,o,g,_⟩:=I.ok.aS.mem i;exact absurd (be (aO g) (aV I.sz h)) (di _)
def Inv.Yj(I:Inv a b d g f):∀x c,a.env.cells.lookup x=some c->c≠a.env.locals:=λx c e z=>by
 obtain⟨v,o,j,i⟩:=I.cell x c e;obtain⟨m,⟨p,n,l,k,h,_⟩,_⟩:=I.loc;rw[z,k]at j;cases j;rw[h]at i;cases i
def Inv.aS(I:Inv a d f g c):c.heap.FunFrames a.base a.outer:=by
 have i:∀(l:List Env),(∀b∈ϥ l,b∈a.fs)->a.s₀.heap.FunFrames a.base l->c.heap.FunFrames a.base l:=by
  intro l
  induction l with
  | nil=>intro _ _;trivial
  | cons env r ih=>
    intro m n;obtain⟨s,⟨L,o,h,p,t,q⟩,u⟩:=n;have j:L∈a.fs:=m L (by unfold ϥ;rw[iW,h];exact aL);obtain⟨v,e⟩:=I.base.slot L o t (I.ok.WT L j) j λz=>I.ok.Uy L z j;exact⟨s,⟨L,_,h,p,e,q⟩,ih (λb k=>m b (by unfold ϥ;rw[iW,h];exact aw _ k)) u⟩
 exact i a.outer (λ_ k=>k) I.ok.aS
def Inv.stack(I:Inv a b c d s):s.heap.FunFrames a.base a.stack:=by
 rcases I.ok.Yi with e|⟨e,g⟩
 .rw[e];exact I.aS
 .rw[e];obtain⟨m,f,_⟩:=I.loc;refine .cons (by rw[I.ok.kind];decide) g f ?_ I.aS;exact Heap.get?_none_of_le (aV I.ok.Wj I.ok.above)
def Inv.UA(I:Inv a c d g f):∀b∈ϥ a.stack,b∈a.env.locals::a.fs:=λb h=>by
 rcases I.ok.Yi with e|⟨e,i⟩
 .rw[e]at h;exact aw _ h
 .rw[e]at h;unfold ϥ at h;rw[iW,i]at h;exact h
def Inv.iF(I:Inv d a f c g):∀b∈ϥ d.stack,c b=none:=λb hb=>by
 rcases aA.mp (I.UA b hb)with e|hb
 .rw[e];exact I.free
 .obtain⟨_,o,ho,_⟩:=I.ok.aS.mem hb;exact I.base.free b o ho (I.ok.WT b hb) λz=>I.ok.Uy b z hb
def Inv.step{j:g8}{R:List (Option V)}{D:Hp}{B:Heap}{t':Nat}{ch:hD}(I:Inv a j R g f)(F:∀b∈ch,(b∈a.ex\/a.s₀.heap.objs.size<=b)/\b≠a.env.locals/\(∀x c,a.env.cells.lookup x=some c->c≠b)/\∀p∈a.pn++j,p.1≠b)(keep:∀b o,b≠a.env.locals->b∉a.fs->b∉ch->f.heap.get? b=some o->g b=none->B.get? b=some o)(slot:∀b o,b≠a.env.locals->b∈a.fs->b∉ch->f.heap.get? b=some o->g b=none->∃N,B.get? b=some { o with slots:=N })(free:∀b o,b∉ch->f.heap.get? b=some o->g b=none->D b=none)(there:∀b o,b∉ch->f.heap.get? b=some o->∃L,B.get? b=some L)(nE:∀b A,g b=some (.tup A)->D b=some (.tup A))(iD:∀b o u,g b=some (.Wi o u)->D b=some (.Wi o u))(oK:∀b M,g b=some (.XF M)->∃G,D b=some (.XF (M++G)))(Y:∀m,f.heap.Ns a.env.locals m->B.Ns a.env.locals m)(S:ϱ a.prog a.w D B)(W:AllBare g'):Inv a j R D { f with heap:=B,gens:=g',drawn:=d',toks:=t' }:=by
 have K:∀b o,a.s₀.heap.get? b=some o->b≠a.env.locals:=λb o e=>bf (be (aO e) I.ok.above);have y:∀b o,a.s₀.heap.get? b=some o->b∉a.ex->b∉ch:=λb o e h C=>by
  rcases(F b C).1 with z|z
  .exact h z
  .exact absurd (be (aO e) z) (di _)
 have s:∀x c,a.env.cells.lookup x=some c->∀v,f.heap.IsCell c v->B.IsCell c v:=λx c e v ⟨o,E,O⟩=>by
  have J:c∉ch:=λz=>(F c z).2.2.1 x c e rfl;by_cases Q:c∈a.fs
  .obtain⟨N,q⟩:=slot c o (I.Yj x c e) Q J E (I.ϝ x c e);exact⟨_,q,O⟩
  .exact⟨o,keep c o (I.Yj x c e) Q J E (I.ϝ x c e),O⟩
 refine⟨I.ok,I.os,W,⟨λb o e n C h=>?_,λb o e n C h=>?_,λb o e n h=>?_,λb o e h=>?_,λb A e=>nE b A (I.base.nE b A e),λb o A e=>iD b o A (I.base.iD b o A e),λb M e=>?_⟩,?_,λx c e=>?_,?_,λx c e=>?_,λp P=>?_,S,I.len⟩
 .exact keep b o (K b o e) C (y b o e h) (I.base.keep b o e n C h) (I.base.free b o e n h)
 .obtain⟨N,t⟩:=I.base.slot b o e n C h;obtain⟨U,H⟩:=slot b _ (K b o e) C (y b o e h) t (I.base.free b o e n h);exact⟨U,H⟩
 .obtain⟨L,t⟩:=I.base.there b o e h;exact free b L (y b o e h) t (I.base.free b o e n h)
 .obtain⟨L,t⟩:=I.base.there b o e h;exact there b L (y b o e h) t
 .obtain⟨m1,t⟩:=I.base.oK b M e;obtain⟨X,H⟩:=oK b _ t;exact⟨m1++X,by rw[H,Array.append_assoc]⟩
 .obtain⟨m,hn,hl⟩:=I.loc;refine⟨m,Y m hn,λi x v t H T=>?_⟩;obtain⟨u,r,l⟩:=hl i x v t H T;refine⟨u,r,?_⟩;rcases l with l|⟨k,c,e,z⟩
  .exact .inl l
  .exact .inr ⟨k,c,e,s x c e _ z⟩
 .obtain⟨v,z⟩:=I.cell x c e;exact⟨v,s x c e v z⟩
 .obtain⟨m,⟨o,_,_,E,_⟩,_⟩:=I.loc;exact free _ o (λz=>(F _ z).2.1 rfl) E I.free
 .obtain⟨v,o,E,O⟩:=I.cell x c e;exact free c o (λz=>(F c z).2.2.1 x c e rfl) E (I.ϝ x c e)
 .obtain⟨e,n,ne,nf,d⟩:=I.pin p P;have J:p.1∉ch:=λz=>(F p.1 z).2.2.2 p P rfl;exact⟨keep p.1 p.2 ne nf J e n,free p.1 p.2 J e n,ne,nf,d⟩
def Inv.un{g:g8}{l:List (Option V)}{t':Nat}(I:Inv c g l f a)(u:Un c.fs [] f d a.heap h')(q:ϱ c.prog c.w d h'):Inv c g l d { a with heap:=h',toks:=t' }:=by
 obtain⟨m,⟨o,B,x,k,r⟩,_⟩:=id I.loc;obtain⟨y,v⟩:=u.any k I.free (by simp);exact I.step (g':=a.gens) (d':=a.drawn) (ch:=[]) (λ_ z=>nomatch z) (λb o _ j _ e n=>u.keep b o e n j (by simp)) (λb o _ j _ e n=>u.slot b o e n j (by simp)) (λb o _ e n=>u.free b o e n (by simp)) (λb o _ e=>u.there b o e (by simp)) u.nE u.iD u.oK (λA s=>by
  obtain⟨C,i,h,p,t⟩:=s;rw[k]at p;cases p;exact⟨_,i,h,v,t⟩) q I.bare
def Inv.call{h:g8}{t:List (Option V)}{t':Nat}{ch:hD}(I:Inv a h t g f)(u:Un (ϥ a.stack) ch g d f.heap h')(y:ϱ a.prog a.w d h')(B:AllBare g')(q:∀b∈ch,(b∈a.ex\/a.s₀.heap.objs.size<=b)/\b≠a.env.locals/\(∀x c,a.env.cells.lookup x=some c->c≠b)/\∀p∈a.pn++h,p.1≠b):Inv a h t d { f with heap:=h',gens:=g',drawn:=d',toks:=t' }:=by
 obtain⟨m,⟨o,H,E,s,r⟩,_⟩:=id I.loc;obtain⟨F,l⟩:=u.any s I.free λz=>(q _ z).2.1 rfl;exact I.step (ch:=ch) q (λb o l D i e n=>u.keep b o e n (λz=>(aA.mp (I.UA b z)).elim l D) i) (λb o _ _ i e n=>u.any e n i) (λb o i e n=>u.free b o e n i) (λb o i e=>u.there b o e i) u.nE u.iD u.oK (λG A=>by
  obtain⟨J,k,j,v,C⟩:=A;rw[s]at v;cases v;exact⟨_,k,j,l,C⟩) y B
def Inv.turned{g:g8}{l:List (Option V)}{j:Heap}{t':Nat}(I:Inv a g l f d)(k:∀b o,b≠it->d.heap.get? b=some o->j.get? b=some o)(y:f it=none)(s:it≠a.env.locals)(A:it∈a.ex\/a.s₀.heap.objs.size<=it)(B:∀x c,a.env.cells.lookup x=some c->c≠it)(w:∀p∈a.pn++g,p.1≠it):Inv a g l f { d with heap:=j,toks:=t' }:=by
 have i:∀b u,f b=some u->b≠it:=λb u e z=>by rw[z,y]at e;cases e
 refine I.step (g':=d.gens) (d':=d.drawn) (ch:=[it]) (λb C=>?_) (λb o _ _ h e _=>k b o (λz=>h (by simp[z])) e) (λb o _ _ h e _=>⟨o.slots,k b o (λz=>h (by simp[z])) e⟩) (λ_ _ _ _ n=>n)
  (λb o h e=>⟨o,k b o (λz=>h (by simp[z])) e⟩) (λ_ _ e=>e) (λ_ _ _ e=>e) (λb D e=>⟨#[],by rw[e];simp⟩) (λm t=>?_) (λb u e=>?_) I.bare
 .have e:b=it:=by simpa using C
  subst e;exact⟨A,s,B,w⟩
 .obtain⟨o,es,ep,ho,r⟩:=t;exact⟨o,es,ep,k _ o (Ne.symm s) ho,r⟩
 .refine(I.Α b u e).lT (λc v h q=>k c v ?_ q) (λ_ q=>q) λ_ _ q=>q;rcases h with z|z
  .rw[z];exact i b u e
  .exact i c _ z
def Inv.tok(I:Inv e a c d b)(t:Nat):Inv e a c d { b with toks:=t }:=I.un (h':=b.heap) (t':=t) Un.refl I.Α
def Inv.kept{g:Heap}{t':Nat}(I:Inv f a d e c)(k:∀b u,c.heap.get? b=some u->g.get? b=some u):Inv f a d e { c with heap:=g,toks:=t' }:=I.un (Un.kept k) (I.Α.kept k)
def Inv.laid{h':Heap}{t':Nat}(I:Inv e c f g d)(k:∀b u,d.heap.get? b=some u->h'.get? b=some u)(i:d.heap.objs.size<=a)(h:Φ e.prog e.w (upd g a o) h' a o):Inv e c f (upd g a o) { d with heap:=h',toks:=t' }:=I.un (Un.laid k i (I.Α.fresh i)) (I.Α.laid k i h)
def Inv.write{i:Heap}{o:Nat}(I:Inv d a g c f)(l:ZJ (c x))(n:e=x\/c e=some (.own x))(k:∀b u,b≠e->f.heap.get? b=some u->i.get? b=some u)(m:∃u,i.get? e=some u)(j:Φ d.prog d.w (upd c x h) i x h):Inv d a g (upd c x h) { f with heap:=i,toks:=o }:=I.un (Un.write l n k m) (I.Α.write l n k m j)
def Inv.Vw(I:Inv b f d e c)(h:∀p∈a,c.heap.get? p.1=some p.2/\e p.1=none/\p.1≠b.env.locals/\p.1∉b.fs/\∀v,p.2.data≠.cell v):Inv b a d e c:=⟨I.ok,I.os,I.bare,I.base,I.loc,I.cell,I.free,I.ϝ,λp g=>(aX.mp g).elim (λz=>I.pin p (bS _ z)) (h p),I.Α,I.len⟩
def Hb{N:hG}(e:N.Nodup){i j:Nat}{x:Str}(a:N[i]?=some x)(b:N[j]?=some x):i=j:=by
 obtain⟨g,d⟩:=aD.mp a;obtain⟨f,c⟩:=aD.mp b;exact(List.getElem_inj e).mp (d.trans c.symm)
def Ev{G:g8}{Z:List (Option V)}{E:fz}{i:Nat}{x:Str}{Q:Unit->Shared->Prop}(I:Inv f G Z s g)(hN:f.N.Nodup)(K:f.N[i]?=some x)(D:Loc f.env.scope x)(r:RelV v l)(h:∀O,Inv f G (Z.set i (some v)) s O->(∃a,Heap.SameBut a g.heap O.heap/\(a=f.env.locals\/f.env.cells.lookup x=some a))->Q () O)(hf:f.fn x=true\/f.env.scope.names.lookup x=some .local:=by first|exact .inl rfl|exact .inr rfl|assumption):wpAny u t (storeName f.env x l) Q E g:=by
 obtain⟨m,U,hl⟩:=id I.loc;have X:(f.env.scope.kind==.class||(f.env.scope.kind==.module&&f.env.locals != f.env.globals))=false:=by rw[I.ok.kind];rfl
 have ZN:i<Z.length:=by rw[I.len];exact(aD.mp K).1
 have Yj:=I.Yj;have C:∀{a:Addr}{J:Heap},(∃o,g.heap.get? a=some o/\s a=none)->Heap.SameBut a g.heap J->ϱ f.prog f.w s J:=λ{a J} ha A b ob e=>by
  obtain⟨_,_,UW⟩:=ha;refine(I.Α b ob e).lT (λc L hc q=>(A.2 c ?_).trans q) (λ_ q=>q) λ_ _ q=>q;rintro rfl;rcases hc with rfl|hc
  .rw[UW]at e;cases e
  .rw[UW]at hc;cases hc
 rcases D with hk|hk
 .refine wpAny_storeName_local hk U (λJ ZO A=>?_) X;obtain⟨oL,_,_,S,_⟩:=id U;refine h _ ⟨I.ok,I.os,I.bare,⟨λb o e n H D=>?_,λb o e n H D=>?_,I.base.free,λb o e D=>?_,I.base.nE,I.base.iD,I.base.oK⟩,⟨_,ZO,λj y W B F R=>?_⟩,λy c e=>?_,I.free,I.ϝ,λp Y=>?_,C ⟨oL,S,I.free⟩ A,by simpa using I.len⟩ ⟨_,A,.inl rfl⟩
  .exact(A.2 b (bf (be (aO e) I.ok.above))).trans (I.base.keep b o e n H D)
  .obtain⟨sl,B⟩:=I.base.slot b o e n H D;exact⟨sl,(A.2 b (bf (be (aO e) I.ok.above))).trans B⟩
  .obtain⟨o',B⟩:=I.base.there b o e D;exact⟨o',(A.2 b (bf (be (aO e) I.ok.above))).trans B⟩
  .by_cases hj:j=i
   .subst hj;rw[K]at B;cases B;rw[dg ZN]at F;cases F;exact⟨l,r,.inl ⟨hk,by simp⟩⟩
   .rw[cG (Ne.symm hj)]at F;obtain⟨P,r',q⟩:=hl j y W B F R;refine⟨P,r',?_⟩;rcases q with⟨k,e⟩|⟨k,c,e,z⟩
    .refine .inl ⟨k,?_⟩;have:y≠x:=λe=>hj (Hb hN B (e▸K));simp[this,e]
    .exact .inr ⟨k,c,e,z.sameBut A (Yj y c e)⟩
  .obtain⟨L,z⟩:=I.cell y c e;exact⟨L,z.sameBut A (Yj y c e)⟩
  .obtain⟨e,n,ne,nf,d⟩:=I.pin p Y;exact⟨(A.2 p.1 ne).trans e,n,ne,nf,d⟩
 .have hfn:f.fn x=true:=by
   rcases hf with z|z
   .exact z
   .rw[z]at hk;cases hk
  obtain⟨c,hc⟩:=I.ok.has x (.inl hk);obtain⟨L,z⟩:=I.cell x c hc;refine wpAny_storeName_cell I.ok.kind hk hc z (λJ Zf A=>?_);obtain⟨oc,ZP,T⟩:=id z;refine h { g with heap:=J } ⟨I.ok,I.os,I.bare,⟨λb o e n H D=>?_,λb o e n H D=>?_,I.base.free,λb o e D=>?_,I.base.nE,I.base.iD,I.base.oK⟩,⟨m,U.sameBut A (Ne.symm (Yj x c hc)),λj y W B F R=>?_⟩,λy M e=>?_,I.free,I.ϝ,λp Y=>?_,C ⟨oc,ZP,I.ϝ x c hc⟩ A,by simpa using I.len⟩ ⟨c,A,.inr hc⟩
  .exact(A.2 b (bf (be (aO e) (I.ok.XG x c hfn hc)))).trans (I.base.keep b o e n H D)
  .obtain⟨sl,B⟩:=I.base.slot b o e n H D;exact⟨sl,(A.2 b (bf (be (aO e) (I.ok.XG x c hfn hc)))).trans B⟩
  .obtain⟨o',B⟩:=I.base.there b o e D;exact⟨o',(A.2 b (bf (be (aO e) (I.ok.XG x c hfn hc)))).trans B⟩
  .by_cases hj:j=i
   .subst hj;rw[K]at B;cases B;rw[dg ZN]at F;cases F;exact⟨l,r,.inr ⟨.inl hk,c,hc,Zf⟩⟩
   .rw[cG (Ne.symm hj)]at F;obtain⟨P,r',q⟩:=hl j y W B F R;refine⟨P,r',?_⟩;rcases q with q|⟨k,M,e,z'⟩
    .exact .inl q
    .refine .inr ⟨k,M,e,z'.sameBut A ?_⟩;rintro rfl;exact hj (Hb hN B (I.ok.inj _ _ _ e hc▸K))
  .by_cases hcc:M=c
   .subst hcc;exact⟨_,Zf⟩
   .obtain⟨w2,z2⟩:=I.cell y M e;exact⟨w2,z2.sameBut A hcc⟩
  .obtain⟨e,n,ne,nf,d⟩:=I.pin p Y;refine⟨(A.2 p.1 ?_).trans e,n,ne,nf,d⟩;intro q;rw[q,ZP]at e;have q':oc=p.2:=bN e;exact d L (by rw[<-q'];exact T)
def xP{Q:Unit->Shared->Prop}(I:Inv a b d i f)(p:a.N.Nodup)(t:a.N[e]?=some c)(o:Loc a.env.scope c)(r:RelV g j)(h:∀n,Inv a b (d.set e (some g)) i n->Q () n)(s:a.fn c=true\/a.env.scope.names.lookup c=some .local:=by first|exact .inl rfl|exact .inr rfl|assumption):wpAny l m (storeName a.env c j) Q k f:=Ev I p t o r (λn q _=>h n q) s
def Inv.Wk{s':Shared}(I:Inv a d h i g)(l:s'.os=g.os)(u:Un (ϥ a.stack) ch i f g.heap s'.heap)(j:ϱ a.prog a.w f s'.heap)(k:AllBare s'.gens)(m:∀b∈ch,(b∈a.ex\/a.s₀.heap.objs.size<=b)/\b≠a.env.locals/\(∀x c,a.env.cells.lookup x=some c->c≠b)/\∀p∈a.pn++d,p.1≠b):Inv a d h f s':=by
 obtain⟨o,g',d',t',n⟩:=s';have e:n=g.os:=l;subst e;exact I.call (g':=g') (t':=t') (d':=d') u j k m
abbrev XK:=Value->Option Addr->Hp->Prop
abbrev St:=List (Option V)
abbrev VK:=V->Hp->Prop
abbrev TE:=St->Hp->VK->Prop
abbrev TT:=St->Hp->(Bool->Hp->Prop)->Prop
abbrev TA:=St->Hp->(List V->Hp->Prop)->Prop
structure Ends where
 nx:St->Hp->Prop
 rt:VK
 bk:St->Hp->Prop:=λ_ _=>False
 ct:St->Hp->Prop:=λ_ _=>False
abbrev TS:=Ends->St->Hp->Prop
def EP(X:Cx)(a:g8)(c:St)(Q:VK)(u:Value)(d:Shared):Prop:=∃v b,Inv X a c b d/\RelV v u/\Q v b
def TP(X:Cx)(a:g8)(d:St)(Q:Bool->Hp->Prop)(b:Bool)(e:Shared):Prop:=∃c,Inv X a d c e/\Q b c
def AP(X:Cx)(a:g8)(d:St)(Q:List V->Hp->Prop)(e:hE)(f:Shared):Prop:=∃b c,Inv X a d c f/\Vals b e/\Q b c
def SP(X:Cx)(b:g8)(D:Ends)(f:Flow)(d:Shared):Prop:=match f with
 | .next=>∃a c,Inv X b a c d/\D.nx a c
 | .brk=>∃a c,Inv X b a c d/\D.bk a c
 | .cont=>∃a c,Inv X b a c d/\D.ct a c
 | .ret u=>∃v a c,Inv X b a c d/\RelV v u/\D.rt v c
def PE(X:Cx)(e:Expr)(t:TE):Prop:=∀(a:g8)(s:Shared)(b:St)(H:Hp)(Q:VK),Inv X a b H s->t b H Q->wpAny (model X.prog X.w) X.A (eval e X.env) (EP X a b Q) X.xe s
def PT(X:Cx)(e:Expr)(t:TT):Prop:=∀(a:g8)(s:Shared)(b:St)(H:Hp)(Q:Bool->Hp->Prop),Inv X a b H s->t b H Q->wpAny (model X.prog X.w) X.A (isTrue e X.env (eval e X.env)) (TP X a b Q) X.xe s
def PW(X:Cx)(e:Expr)(t:TT):Prop:=∀(b:Sem Value)(a:g8)(s:Shared)(c:St)(H:Hp)(Q:Bool->Hp->Prop),Inv X a c H s->t c H Q->wpAny (model X.prog X.w) X.A (isTrue e X.env b) (TP X a c Q) X.xe s
def PW.pt(h:PW a b c):PT a b c:=h _
def PA(X:Cx)(d:List Expr)(t:TA):Prop:=∀(c:Pos)(a:g8)(s:Shared)(b:St)(H:Hp)(Q:List V->Hp->Prop),Inv X a b H s->t b H Q->wpAny (model X.prog X.w) X.A (spliced (backTo c (starEach d X.env))) (AP X a b Q) X.xe s
def PS(X:Cx)(st:Stmt)(t:TS):Prop:=∀(a:g8)(s:Shared)(b:St)(H:Hp)(D:Ends),Inv X a b H s->t D b H->wpAny (model X.prog X.w) X.A (exec st X.env) (SP X a D) X.xe s
def UX(X:Cx)(st:List Stmt)(t:TS):Prop:=∀(a:g8)(s:Shared)(b:St)(H:Hp)(D:Ends),Inv X a b H s->t D b H->wpAny (model X.prog X.w) X.A (execs st X.env) (SP X a D) X.xe s
def ϙ{c:Type}{t:Sem c}{Q b:c->Shared->Prop}{M:Model}{A:Around}{E:fz}{s:Shared}(h:wpAny M A t Q E s)(d:∀a s,Q a s->b a s):wpAny M A t b E s:=cP h d λ_ _ x=>x
def eA(h:wpAny i k j (EP f b c e) g a)(l:∀u a v H,Inv f b c H a->RelV v u->e v H->d u a):wpAny i k j d g a:=ϙ h λu a ⟨v,H,I,r,q⟩=>l u a v H I r q
def uw(h:wpAny i k j (AP f b c e) g a)(l:∀u a v H,Inv f b c H a->Vals v u->e v H->d u a):wpAny i k j d g a:=ϙ h λu a ⟨v,H,I,r,q⟩=>l u a v H I r q
def B0(h:wpAny i k j (TP e b d f) g a)(l:∀u a H,Inv e b d H a->f u H->c u a):wpAny i k j c g a:=ϙ h λu a ⟨H,I,q⟩=>l u a H I q
def BH(i:Nat):TE:=λa H Q=>∃v,a[i]?=some (some v)/\Q v H
def tC(v:V):TE:=λ_ H Q=>Q v H
def HL{X:Cx}(j:X.N[b]?=some a)(q:Vis X.env.scope a)(i:(a==("__debug__":Str))=false:=by decide)(n:(a==("__classdict__":Str))=false:=by decide):PE X (.Name a d) (BH b):=by
 intro g s p H Q I h;obtain⟨v,e,h⟩:=h;obtain⟨m,o,k⟩:=I.loc;obtain⟨u,r,l⟩:=k b a v j e q;have f:EP X g p Q u s:=⟨v,H,I,r,h⟩;rcases l with⟨hk,hm⟩|⟨hk,c,hc,Ϲ⟩
 .exact wpAny_Name (wpAny_loadName_local I.ok.kind hk o hm f) i
 .rcases hk with hk|hk
  .exact wpAny_Name (wpAny_loadName_cell I.ok.kind hk hc Ϲ f) i
  .exact wpAny_Name (wpAny_loadName_free I.ok.kind hk hc Ϲ f n) i
def aM{i j pos}:PE a (.Constant (.int i) j pos) (tC (.int i)):=λ_ _ _ H _ I h=>wpAny_Constant_int ⟨.int i,H,I.tok _,⟨_,rfl⟩,h⟩
def qI{b j pos}:PE a (.Constant (.bool b) j pos) (tC (.bl b)):=λ_ _ _ H _ I h=>Constant_bool ⟨.bl b,H,I,rfl,h⟩
def tY{j pos}:PE a (.Constant .none j pos) (tC .ο):=λ_ _ _ H _ I h=>Constant_none ⟨.ο,H,I,rfl,h⟩
def bE{x j pos}:PE a (.Constant (.str x) j pos) (tC (.str x)):=λ_ _ _ H _ I h=>Calls.Constant_str ⟨.str x,H,I.tok _,⟨_,rfl⟩,h⟩
def Gl(X:Cx)(x:Str):Prop:=X.env.kindOf x=some .globalImplicit
def qo{Q:fz}(I:Inv X c f g b)(l:Gl X a)(j:X.mg a=some e)(h:Q e b)(k:(a==("__debug__":Str))=false:=by decide):wpAny (model X.prog X.w) X.A (eval (.Name a d) X.env) Q i b:=kK I.ok.kind l (Calls.loadGlobal_global (by rw[I.ok.glob];exact I.mod.glob.keeps I.bk) j h) k
def rR{Q:fz}(I:Inv b d g i c)(n:Gl b a)(o:b.mg a=none)(q:bootBuiltins a=some f)(h:Q f c)(k:a≠"__name__":=by decide)(l:(a==("__debug__":Str))=false:=by decide):wpAny (model b.prog b.w) b.A (eval (.Name a e) b.env) Q j c:=by
 obtain⟨r,m,p⟩:=I.mod.blt;exact kK I.ok.kind n (Calls.loadGlobal_builtin (by rw[I.ok.glob];exact I.mod.glob.keeps I.bk) o (by rw[I.ok.blt];exact m.keeps I.bk) ((p a k).trans q) h) l
def DL(i:Gl c a)(f:c.mg a=some e)(r:RelV b e)(g:(a==("__debug__":Str))=false:=by decide):PE c (.Name a d) (tC b):=λ_ _ _ H _ I h=>qo I i f ⟨b,H,I,r,h⟩ g
def PC(X:Cx)(g:CmpOp)(a b:Expr)(t:TE):Prop:=∀(c:g8)(s:Shared)(f:St)(H:Hp)(Q:VK),Inv X c f H s->t f H Q->wpAny (model X.prog X.w) X.A (eval a X.env) (λv e=>wpAny (model X.prog X.w) X.A (eval b X.env) (λu d=>wpAny (model X.prog X.w) X.A (compareOp g v u) (EP X c f Q) X.xe d) X.xe e) X.xe s
def Hi(b:Expr)(h:a≠.In)(e:a≠.NotIn):behindInMarks a b=false:=by
 have d:(a==CmpOp.In)=false:=by cases a<;>first|rfl|exact absurd rfl h
 have c:(a==CmpOp.NotIn)=false:=by cases a<;>first|rfl|exact absurd rfl e
 cases b<;>simp[behindInMarks,d,c]
def SM(b:TE):TE:=λa H Q=>b a H λx c=>Q (.bl (decide (x=.ο))) c
def P6(b:TE):TE:=λa H Q=>b a H λx c=>Q (.bl (!decide (x=.ο))) c
def RelV.UY(r:RelV a b):(b==Value.none)=decide (a=.ο):=by
 cases a with
 | ο=>cases r;rfl
 | bl _=>cases r;rfl
 | int _=>obtain⟨t,rfl⟩:=r;rfl
 | str _=>obtain⟨t,rfl⟩:=r;rfl
 | Vh _=>obtain⟨t,rfl⟩:=r;rfl
 | ZE _=>obtain⟨t,rfl⟩:=r;rfl
 | ref _=>cases r;rfl
 | ty _=>cases r;rfl
def Mp{X:Cx}{a:Expr}{c:TE}{j pos'}(ha:PE X a c):PC X .Is a (.Constant .none j pos') (SM c):=by
 intro b s f H Q I h;refine eA (ha b s f H _ I h) λv k x i g e d=>?_;exact Constant_none (is_none_gen ⟨.bl _,i,g,by rw[e.UY];rfl,d⟩)
def JQ{X:Cx}{a:Expr}{c:TE}{j pos'}(ha:PE X a c):PC X .IsNot a (.Constant .none j pos') (P6 c):=by
 intro b s f H Q I h;refine eA (ha b s f H _ I h) λv k x i g e d=>?_;exact Constant_none (isnot_none_gen ⟨.bl _,i,g,by rw[e.UY];rfl,d⟩)
def tB(t:TE):TT:=λa H Q=>t a H λx b=>∃c,x=.bl c/\Q c b
def MO(h:PC e a d b f)(k:behindInMarks a b=false:=by first|exact Hi _ (by decide) (by decide)|rfl):PE e (.Compare d [a] [b] c) f:=λg s i H Q I j=>wpAny_Compare1 (h g s i H Q I j) k
def HK{X:Cx}{a:Expr}{b:Expr}{f:Pos}{i:CmpOp}{t:TE}(h:PC X i a b t)(g:behindInMarks i b=false:=by first|exact Hi _ (by decide) (by decide)|rfl):PT X (.Compare a [i] [b] f) (tB t):=by
 intro e s o H Q I k;refine wpAny_isTrue_Compare1 (ϙ (h e s o H _ I k) λv y g=>ϙ g λu w p=>ϙ p λc r ⟨x,m,l,j,n⟩=>?_) g;obtain⟨d,rfl,q⟩:=n;cases j;exact dD ⟨m,l,q⟩
def mW{X:Cx}{e:Expr}{t:TE}(h:PE X e t)(f:∀a,isTrue e X.env a=(do let v <-a;standAt e.pos;holding [v] (truthy v)):=by intro _;rfl):PT X e (tB t):=by
 intro b s l H Q I g;refine isTrue_plain (eA (h b s l H _ I g) λv m x j i c k=>?_) (f _);obtain⟨d,rfl,q⟩:=k;cases c;exact dD ⟨j,i,q⟩
def R7(t u:TT):TT:=λa H Q=>t a H λc b=>if c=true then u a b Q else Q false b
def tOr(t u:TT):TT:=λa H Q=>t a H λc b=>if c=true then Q true b else u a b Q
def RM(t:TT):TT:=λa H Q=>t a H λc b=>Q (!c) b
def wG{X:Cx}{a:Expr}{d:Pos}{f:TT}(i:PT X a f):PW X (.BoolOp .And [a] d) f:=by
 intro j b s g H Q I h;refine isTrue_and (ϙ (i b s g H Q I h) λc k e=>?_);cases c with
 | true=>exact isTrue_and_nil e
 | false=>exact e
def wm{X:Cx}{a:Expr}{d:Pos}{f:TT}(i:PT X a f):PW X (.BoolOp .Or [a] d) f:=by
 intro j b s g H Q I h;refine isTrue_or (ϙ (i b s g H Q I h) λc k e=>?_);cases c with
 | false=>exact isTrue_or_nil e
 | true=>exact e
def zh{X:Cx}{a:Expr}{b:Expr}{e:Pos}{i:TT}{f:TT}{rest:List Expr}(m:PT X a i)(p:PW X (.BoolOp .And (b::rest) e) f):PW X (.BoolOp .And (a::b::rest) e) (R7 i f):=by
 intro n d s l H Q I h;refine isTrue_and (B0 (m d s l H _ I h) λc o j g k=>?_);cases c with
 | true=>exact p n d o l j Q g k
 | false=>exact⟨j,g,k⟩
def uM{X:Cx}{a:Expr}{b:Expr}{e:Pos}{i:TT}{f:TT}{rest:List Expr}(m:PT X a i)(p:PW X (.BoolOp .Or (b::rest) e) f):PW X (.BoolOp .Or (a::b::rest) e) (tOr i f):=by
 intro n d s l H Q I h;refine isTrue_or (B0 (m d s l H _ I h) λc o j g k=>?_);cases c with
 | true=>exact⟨j,g,k⟩
 | false=>exact p n d o l j Q g k
def nF(i:PT e d a):PT e (.UnaryOp .Not d b) (RM a):=by
 intro f s g H Q I h;exact isTrue_not (i f s g H (λc j=>Q (!c) j) I h)
def P2(e d:TE):TE:=λa H Q=>e a H λx b=>∃c,x=.bl c/\if c=true then d a b Q else Q (.bl false) b
def RF(e d:TE):TE:=λa H Q=>e a H λx b=>∃c,x=.bl c/\if c=true then Q (.bl true) b else d a b Q
def wO{op}(h:PE c b d):PE c (.BoolOp op [b] a) d:=λe s f H Q I g=>BoolOp_one (h e s f H Q I g)
def wT{X:Cx}{a:Expr}{b:Expr}{g:TE}{l:TE}{e:Pos}{rest:List Expr}(m:PE X a g)(p:PE X (.BoolOp .And (b::rest) e) l):PE X (.BoolOp .And (a::b::rest) e) (P2 g l):=by
 intro d s k H Q I h;refine BoolOp_and (eA (m d s k H _ I h) λv o x j i n f=>?_);obtain⟨c,rfl,f⟩:=f;cases n;refine dD ?_;cases c with
 | true=>exact p d o k j Q i f
 | false=>exact⟨.bl false,j,i,rfl,f⟩
def S8{X:Cx}{a:Expr}{b:Expr}{g:TE}{l:TE}{e:Pos}{rest:List Expr}(m:PE X a g)(p:PE X (.BoolOp .Or (b::rest) e) l):PE X (.BoolOp .Or (a::b::rest) e) (RF g l):=by
 intro d s k H Q I h;refine BoolOp_or (eA (m d s k H _ I h) λv o x j i n f=>?_);obtain⟨c,rfl,f⟩:=f;cases n;refine dD ?_;cases c with
 | false=>exact p d o k j Q i f
 | true=>exact⟨.bl true,j,i,rfl,f⟩
def tIf(t:TT)(e d:TE):TE:=λa H Q=>t a H λc b=>if c=true then e a b Q else d a b Q
def BN{X:Cx}{a:Expr}{b:Expr}{i:TE}{n:TE}{f:Pos}{k:TT}{c:Expr}(q:PT X c k)(p:PE X a i)(r:PE X b n):PE X (.IfExp c a b f) (tIf k i n):=by
 intro e s g H Q I h;refine wpAny_IfExp (B0 (q e s g H _ I h) λd o l j m=>?_);cases d with
 | true=>exact p e o g l Q j m
 | false=>exact r e o g l Q j m
def ν(K:gy)(H:Hp)(a:Addr)(xs:List V):Prop:=Rd H a (.lst xs)\/∃(o:Obj)(b:Array Value)(n:Nat),K.lookup a=some o/\o.cls=.type "list"/\o.dict=none/\o.data=.seq b n/\b.size<=sizeLine/\Vals xs b.toList
def Δ(K:gy)(H:Hp)(a:Addr)(xs:List V):Prop:=Rd H a (.tup xs)\/∃(o:Obj)(b:Array Value)(n:Nat),K.lookup a=some o/\o.cls=.type "tuple"/\o.data=.seq b n/\b.size<=sizeLine/\Vals xs b.toList
def Tp:Value->Option V
 | .none=>some .ο
 | .bool b=>some (.bl b)
 | .int i _=>some (.int i)
 | .str x _=>some (.str x)
 | .bytes b _=>some (.Vh b)
 | .float b _=>some (.ZE b)
 | .ref a=>some (.ref a)
 | .type n=>some (.ty n)
 | _=>none
def RelV.abs(r:RelV a b):Tp b=some a:=by
 cases a with
 | ο=>cases r;rfl
 | bl _=>cases r;rfl
 | int _=>obtain⟨t,rfl⟩:=r;rfl
 | str _=>obtain⟨t,rfl⟩:=r;rfl
 | Vh _=>obtain⟨t,rfl⟩:=r;rfl
 | ZE _=>obtain⟨t,rfl⟩:=r;rfl
 | ref _=>cases r;rfl
 | ty _=>cases r;rfl
def RelV.inj(r:RelV a b)(q:RelV c b):a=c:=bN (r.abs.symm.trans q.abs)
def Vals.inj(h:Vals c b)(d:Vals a b):c=a:=by
 induction h generalizing a with
 | nil=>cases d;rfl
 | cons r _ ih=>cases d with|cons r2 t2=>rw[r.inj r2,ih t2]
def ν.of{H:Hp}{a:Addr}{xs:List V}{K:gy}(h:H a=some (.lst xs)):ν K H a xs:=.inl (.inl h)
def Δ.of{H:Hp}{a:Addr}{xs:List V}{K:gy}(h:H a=some (.tup xs)):Δ K H a xs:=.inl (.inl h)
def Inv.list(I:Inv g c i f d)(h:ν g.K f b a):∃its:List Value,Vals a its/\PlainL d.heap b its.toArray/\a.length<=sizeLine:=by
 rcases h with h|⟨o,its,n,l,k,j,m,p,r⟩
 .obtain⟨z,its,n,r,e⟩:=h.ok I.Α;exact⟨its,r,⟨_,n,e,rfl,rfl,rfl⟩,z⟩
 .refine⟨its.toList,r,⟨o,n,I.Uz b o l,k,j,by simpa using m⟩,?_⟩;have e:=r.length;simp only[oJ]at e
  lia
def Inv.tuple(I:Inv g c i f d)(h:Δ g.K f b a):∃j:List Value,Vals a j/\IsTup d.heap b j.toArray/\a.length<=sizeLine:=by
 rcases h with h|⟨o,j,n,m,l,k,q,r⟩
 .obtain⟨z,j,r,p⟩:=h.ok I.Α;exact⟨j,r,p,z⟩
 .refine⟨j.toList,r,⟨o,I.Uz b o m,l,n,by simpa using k⟩,?_⟩;have e:=r.length;simp only[oJ]at e
  lia
def Inv.iN(I:Inv f g j c k)(h:ν f.K c i b)(t:ν f.K c i a):b=a:=by
 obtain⟨m,r,⟨o,n,e,_,_,d⟩,_⟩:=I.list h;obtain⟨l,s,⟨u,v,p,_,_,q⟩,_⟩:=I.list t;rw[e]at p;cases p;rw[d]at q;injection q with d1 _
 have:m=l:=by simpa using congrArg Array.toList d1
 subst this;exact r.inj s
def Inv.Um(I:Inv f g j c k)(h:Δ f.K c i b)(t:Δ f.K c i a):b=a:=by
 obtain⟨m,r,⟨o,e,_,n,d⟩,_⟩:=I.tuple h;obtain⟨l,s,⟨u,p,_,v,q⟩,_⟩:=I.tuple t;rw[e]at p;cases p;rw[d]at q;injection q with d1 _
 have:m=l:=by simpa using congrArg Array.toList d1
 subst this;exact r.inj s
abbrev Cx.wish(X:Cx)(E:fz):Cx:={ X with xe:=E }
abbrev Cx.Wl(X:Cx):Cx:=X.wish λ_ _=>False
def Cx.Ok.wish{X:Cx}(a:X.Ok)(E:fz):(X.wish E).Ok:=⟨a.mod,a.kind,a.glob,a.blt,a.above,a.inj,a.has,a.XG,a.hd,a.frames,a.Yi,a.ZL,a.bs,a.Wj,a.UT,a.Uy,a.aS,a.WT⟩
def Cx.Ok.Ϙ{X:Cx}(b:(X.wish a).Ok):X.Ok:=⟨b.mod,b.kind,b.glob,b.blt,b.above,b.inj,b.has,b.XG,b.hd,b.frames,b.Yi,b.ZL,b.bs,b.Wj,b.UT,b.Uy,b.aS,b.WT⟩
def Inv.wish(I:Inv d a b c e)(E:fz):Inv (d.wish E) a b c e:=⟨I.ok.wish E,I.os,I.bare,I.base,I.loc,I.cell,I.free,I.ϝ,I.pin,I.Α,I.len⟩
def Inv.Ϙ{X:Cx}(I:Inv (X.wish e) a b c d):Inv X a b c d:=⟨I.ok.Ϙ,I.os,I.bare,I.base,I.loc,I.cell,I.free,I.ϝ,I.pin,I.Α,I.len⟩
def SP.Ϙ{X:Cx}(h:SP (X.wish e) a d b c):SP X a d b c:=by
 cases b with
 | next=>obtain⟨f,g,I,q⟩:=h;exact⟨f,g,I.Ϙ,q⟩
 | brk=>obtain⟨f,g,I,q⟩:=h;exact⟨f,g,I.Ϙ,q⟩
 | cont=>obtain⟨f,g,I,q⟩:=h;exact⟨f,g,I.Ϙ,q⟩
 | ret u=>obtain⟨v,f,g,I,r,q⟩:=h;exact⟨v,f,g,I.Ϙ,r,q⟩
def UX.Wl{X:Cx}{st:List Stmt}(h:UX X.Wl st a):UX X st a:=λb s c H D I d=>
 cP (h b s c H D (I.wish _) d) (λ_ _ q=>q.Ϙ) λ_ _ z=>False.elim z
def XH:TS:=λD a H=>D.nx a H
def OI(t u:TS):TS:=λD a H=>t { D with nx:=u D } a H
def bR:UX a [] XH:=λ_ _ b H _ I h=>gR ⟨b,H,I,h⟩
def ax{X:Cx}{st:Stmt}{rest:List Stmt}{t:TS}{u:TS}(d:PS X st t)(i:UX X rest u):UX X (st::rest) (OI t u):=by
 intro a s e H D I h;refine lD (ϙ (d a s e H { D with nx:=u D } I h) λf j q=>?_);cases f with
 | next=>
   obtain⟨b,c,g,q⟩:=q;exact i a j b c D g q
 | ret v=>exact q
 | brk=>exact q
 | cont=>exact q
def aJ{X:Cx}{st:Stmt}{t:TS}(c:PS X st t):UX X [st] t:=by
 intro a s b H D I h;refine lD (ϙ (c a s b H D I h) λf d q=>?_);cases f with
 | next=>exact gR q
 | ret v=>exact q
 | brk=>exact q
 | cont=>exact q
def Inv.quiet(I:Inv b a c d e):interactive b.env=false:=by simp[interactive,I.ok.kind]
def Qb(b:TE):TS:=λD a H=>b a H λ_ c=>D.nx a c
def cV{X:Cx}{e:Expr}{d:TE}{a:Pos}(f:PE X e d)(g:swapsWith e none a.line X.env=pure false:=by rfl):PS X (.Expr e a) (Qb d):=by
 intro b s c H D I h;exact wpAny_Expr_any (eA (f b s c H _ I h) λv m x j i l k=>⟨c,j,i,k⟩) I.quiet g
def Rx(b:TE):TS:=λD a H=>b a H D.rt
def bn{X:Cx}{e:Expr}{d:TE}{b:Pos}(g:PE X e d):PS X (.Return (some e) b) (Rx d):=by
 intro a s c H D I h;exact wpAny_Return_some (eA (g a s c H _ I h) λv l x j i f k=>⟨x,c,j,i,f,k⟩)
def KC(c:TT)(t u:TS):TS:=λD a H=>c a H λb d=>if b=true then t D a d else u D a d
def cg{X:Cx}{t:TS}{u:TS}{f:Pos}{c:Expr}{a b:List Stmt}{l:TT}(o:PT X c l)(n:UX X a t)(p:UX X b u):PS X (.If c a b f) (KC l t u):=by
 intro e s g H D I h;refine wpAny_If (B0 (o e s g H _ I h) λd m j i k=>?_);cases d with
 | true=>exact n e m g j D i k
 | false=>exact p e m g j D i k
def Wm:TS:=λ_ _ _=>False
def j0{X:Cx}{st:Stmt} :PS X st Wm:=λ_ _ _ _ _ _ h=>h.elim
abbrev TG:=V->St->Hp->(St->Hp->Prop)->Prop
abbrev XI:=List V->St->Hp->(St->Hp->Prop)->Prop
def PG(X:Cx)(a:Expr)(t:TG):Prop:=∀(b:g8)(s:Shared)(d:St)(H:Hp)(v:V)(u:Value)(Q:St->Hp->Prop),Inv X b d H s->RelV v u->t v d H Q->wpAny (model X.prog X.w) X.A (assign a X.env u) (λ_ f=>∃c e,Inv X b c e f/\Q c e) X.xe s
def Yk(X:Cx)(g:List Expr)(t:XI):Prop:=∀(a:g8)(s:Shared)(d:St)(H:Hp)(c:List V)(e:hE)(Q:St->Hp->Prop),Inv X a d H s->Vals c e->t c d H Q->wpAny (model X.prog X.w) X.A (assignInOrder ((assignEach g X.env).map (·.2)) e) (λ_ h=>∃b f,Inv X a b f h/\Q b f) X.xe s
abbrev Ku:=V->V->V->Hp->(Hp->Prop)->Prop
def OZ(X:Cx)(t:Ku):Prop:=∀(a:g8)(s:Shared)(c:St)(H:Hp)(o i v:V)(d b u:Value)(Q:Hp->Prop),Inv X a c H s->RelV o d->RelV i b->RelV v u->t o i v H Q->wpAny (model X.prog X.w) X.A (setItem d b u) (λ_ f=>∃e,Inv X a c e f/\Q e) X.xe s
abbrev TIp:=V->V->Hp->VK->Prop
def PIp(X:Cx)(c:Operator)(t:TIp):Prop:=∀(a:g8)(s:Shared)(b:St)(H:Hp)(x y:V)(v u:Value)(Q:VK),Inv X a b H s->RelV x v->RelV y u->t x y H Q->wpAny (model X.prog X.w) X.A (inplaceOp c v u) (EP X a b Q) X.xe s
def zQ(i:Nat):TG:=λv a H Q=>Q (a.set i (some v)) H
def fF{X:Cx}(e:X.N.Nodup)(j:X.N[i]?=some a)(d:Loc X.env.scope a)(g:X.fn a=true\/X.env.scope.names.lookup a=some .local:=by first|exact .inl rfl|exact .inr rfl|assumption):PG X (.Name a b) (zQ i):=by
 intro c s l H v u Q I r h;exact wpAny_assign_Name (xP I e j d r (λk f=>⟨_,H,f,h⟩) g)
def ZR:XI:=λa b H Q=>a=[]/\Q b H
def P8(t:TG)(u:XI):XI:=λb c H Q=>∃v r,b=v::r/\t v c H λa d=>u r a d Q
def g6:Yk a [] ZR:=by
 intro b s c H d f Q I r h;obtain⟨e,h⟩:=h;subst e;cases r;exact assignInOrder_nil ⟨c,H,I,h⟩
def ci{X:Cx}{e:Expr}{b:List Expr}{t:TG}{u:XI}(k:PG X e t)(m:Yk X b u)(d:(assignEach (e::b) X.env).map (·.2)=assign e X.env::(assignEach b X.env).map (·.2):=by rfl):Yk X (e::b) (P8 t u):=by
 intro a s l H q o Q I r h;obtain⟨v,p,j,h⟩:=h;subst j;cases r with
 | cons r rr=>
   rw[d];refine assignInOrder_cons (ϙ (k a s l H _ _ _ I r h) λ_ n ⟨c,g,f,i⟩=>?_);exact m a n c g _ _ Q f rr i
def OH(K:gy)(n:Nat)(t:XI):TG:=λv c H Q=>∃a b,v=.ref a/\Δ K H a b/\b.length=n/\t b c H Q
def jK{X:Cx}{n:Nat}(C:X.calm=true)(h:Yk X c f)(y:(assignEach c X.env).length=n:=by rfl)(D:(assignEach c X.env).findIdx? (·.1)=none:=by rfl):PG X (.Tuple c g d) (OH X.K n f):=by
 intro i s k H v u Q I r j;obtain⟨a,p,A,m,q,j⟩:=j;subst A;cases r;obtain⟨x,l,z,E⟩:=I.tuple m;refine assign_Tuple_tuple (I.ok.hd C) z (by simp[y,<-q,l.length]) D λt B=>?_;have w:Inv X i k H { s with heap:=t }:=I.kept (t':=s.toks) λb o e=>B b o (bf (aO e)) e;exact h i _ k H p _ Q w (by simpa using l) j
def Rt(d b:TE)(t:Ku):TG:=λv a H Q=>d a H λo e=>b a e λi c=>t o i v c λf=>Q a f
def nO{X:Cx}{b:Pos}{o i:Expr}{g f:TE}{t:Ku}(D:PE X o g)(F:PE X i f)(q:OZ X t)(j:∀v,assign (.Subscript o i b) X.env v=(do
 let c <-holding [v] (eval o X.env)
 let d <-holding [v,c] (eval i X.env)
 standAt b
 holding [v,c,d] (setItem c d v)
 release [v,c,d] []):=by intro _;rfl):PG X (.Subscript o i b) (Rt g f t):=by
 intro a s e H v u Q I r h;rw[j];refine ao (eV (eA (D a s e H _ I h) λc J x A z n B=>?_));refine ao (eV (eA (F a J e A _ z B) λd C y E l k p=>?_));refine ao (i5 (ao (eV (ϙ (q a C e E x y v c d u _ l n k r p) λ_ K ⟨m,w,G⟩=>?_))));exact wpAny_release ⟨e,m,w,G⟩
def HR(b:TE)(g:TG):TS:=λD a H=>b a H λx c=>g x a c D.nx
def j7{g:Pos}(k:PE b c d)(t:PG b a e)(m:swapsWithSole [a] c g.line b.env=pure false:=by rfl)(l:swappedStores [a] c b.env=pure none:=by rfl)(r:(assignEach [a] b.env).map (·.2)=[assign a b.env]:=by rfl):PS b (.Assign [a] c g) (HR d e):=by
 intro f s i H D I h;refine wpAny_Assign_stores (eA (k f s i H _ I h) λv u x o n j p=>?_) m l;rw[r];exact ϙ (t f u i o x v _ n j p) λ_ w q=>q
def se{X:Cx}{d:Pos}{i:Nat}{x:Str}(g:X.N.Nodup)(t:X.N[i]?=some x)(q:Loc X.env.scope x)(k:PE X b c)(l:swapsWith b (some (.Name x a)) d.line X.env=pure false:=by rfl)(m:X.fn x=true\/X.env.scope.names.lookup x=some .local:=by first|exact .inl rfl|exact .inr rfl|assumption):PS X (.Assign [.Name x a] b d) (HR c (zQ i)):=by
 intro e s r H D I h;refine wpAny_Assign_Name (eA (k e s r H _ I h) λv w y o n j p=>?_) l;exact xP n g t q j (λu f=>⟨_,o,f,p⟩) m
def RE(i:Nat)(d:TE)(b:TIp):TS:=λD a H=>∃x,a[i]?=some (some x)/\d a H λy e=>b x y e λz c=>D.nx (a.set i (some z)) c
def Rs{X:Cx}{i:Nat}{x:Str}(F:X.N.Nodup)(C:X.N[i]?=some x)(p:Loc X.env.scope x)(L:PE X d e)(V:PIp X a b)(P:X.fn x=true\/X.env.scope.names.lookup x=some .local:=by first|exact .inl rfl|exact .inr rfl|assumption):PS X (.AugAssign (.Name x f) a d g) (RE i e b):=by
 intro j s B H D I h;obtain⟨v,U,h⟩:=h;obtain⟨m,T,M⟩:=I.loc;have q:Vis X.env.scope x:=by rcases p with k|k;exact .inl k;exact .inr (.inl k)
 obtain⟨u,r,l⟩:=M i x v C U q;refine wpAny_AugAssign_Name ?_;have t:wpAny (model X.prog X.w) X.A (eval d X.env) (λw n=>wpAny (model X.prog X.w) X.A (inplaceOp a u w) (λr o=>wpAny (model X.prog X.w) X.A (storeName X.env x r) (λ_=>SP X j D .next) X.xe o) X.xe n) X.xe s:=by
  refine ϙ (L j s B H _ I h) λw Y ⟨y,R,Q,J,S⟩=>?_;refine ϙ (V j Y B R v y u w _ Q r J S) λz s2 ⟨zv,W,G,E,K⟩=>?_;exact xP G F C p E (λZ O=>⟨_,W,O,K⟩) P
 rcases l with⟨hk,hm⟩|⟨hk,c,hc,Ϲ⟩
 .exact wpAny_loadName_local I.ok.kind hk T hm t
 .rcases hk with hk|hk
  .exact wpAny_loadName_cell I.ok.kind hk hc Ϲ t
  .rcases p with k|k
   .have:X.env.scope.names.lookup x=some .free:=hk;rw[k]at this;cases this
   .have:X.env.scope.names.lookup x=some .free:=hk;rw[k]at this;cases this
def PZ(l g n:TE)(h:V->V->Hp->VK->Prop)(b:TIp)(c:Ku):TS:=λD a H=>l a H λo f=>g a f λi k=>h o i k λx d=>n a d λy m=>b x y m λz j=>c o i z j λe=>D.nx a e
def Se(X:Cx)(t:V->V->Hp->VK->Prop):Prop:=∀(a:g8)(s:Shared)(c:St)(H:Hp)(o i:V)(d b:Value)(Q:VK),Inv X a c H s->RelV o d->RelV i b->t o i H Q->wpAny (model X.prog X.w) X.A (getItem d b) (EP X a c Q) X.xe s
def wM{y:V->V->Hp->VK->Prop}(ho:PE a m i)(hi:PE a g d)(hg:Se a y)(N:PE a k f)(hp:PIp a e c)(P:OZ a b)(B:∀p q o,augStore g p q o=(do holding [o,p,q] (setItem p q o);release [o,p,q] [];pure .next):=by intros;rfl):PS a (.AugAssign (.Subscript m g j) e k l) (PZ i d f y c b):=by
 intro n s r H D I h;refine wpAny_AugAssign_SubscriptAny (eA (ho n s r H _ I h) λp s1 z U R w X=>?_) B;refine eA (hi n s1 r U _ R X) λq s2 x H2 G u M=>?_;refine ϙ (hg n s2 r H2 z x p q _ G w u M) λt A ⟨K,J,Q,r3,q3⟩=>?_;refine eA (N n A r J _ Q q3) λv s4 E H4 Z W L=>?_;refine ϙ (hp n s4 r H4 K E t v _ Z r3 W L) λo Y ⟨x5,H5,I5,O,F⟩=>?_;exact ϙ (P n Y r H5 z x x5 p q o _ I5 w u O F) λ_ s6 ⟨S,T,C⟩=>⟨r,S,T,C⟩
def ipI(f:hP):TIp:=λx y H Q=>∃i j,x=.int i/\y=.int j/\Q (.int (f i j)) H
def wI:PIp a .Add (ipI λi j=>i+j):=by
 intro b s k H x y v u Q I d c h;obtain⟨i,j,f,e,q⟩:=h;subst f;subst e;obtain⟨t,rfl⟩:=d;obtain⟨g,rfl⟩:=c;exact iadd_int ⟨.int _,H,I.tok _,⟨_,rfl⟩,q⟩
def Gz(c:TT)(h:TS):TS:=λD a H=>∃W:Nat->St->Hp->Prop,(∃m,W m a H)/\∀m a H,W m a H->c a H λb f=>if b=true then ∃N:St->Hp->Prop,(∀d g,N d g->∃e,e<m/\W e d g)/\h { D with nx:=N,ct:=N,bk:=D.nx } a f else D.nx a f
def xE{X:Cx}{k:List Stmt}(F:PassesOwn (model X.prog X.w) X.A X.env X.xe)(Q:PT X e a)(T:UX X k c):PS X (.While e k [] d) (Gz a c):=by
 intro g s R H D I h;obtain⟨W,⟨O,K⟩,m⟩:=h;refine wpAny_While (codeAny_whileLoop (λn J=>∃o C,Inv X g o C J/\W n o C) ?_ O ⟨R,H,I,K⟩);rintro n S ⟨j,E,L,M⟩;refine fS F (B0 (Q g S j E _ L (m n j E M)) λb P G z p=>?_);cases b with
 | true=>
   obtain⟨N,B,p⟩:=p;rw[aj rfl];refine fS F (ϙ (T g P j G _ z p) λf U q=>?_);cases f with
   | next=>
     obtain⟨i,l,u,y⟩:=q;obtain⟨x,r,t⟩:=B i l y;exact⟨x,r,i,l,u,t⟩
   | cont=>
     obtain⟨i,l,u,y⟩:=q;obtain⟨x,r,t⟩:=B i l y;exact⟨x,r,i,l,u,t⟩
   | brk=>exact q
   | ret v=>exact q
 | false=>
   rw[ah bq];exact gR ⟨j,G,z,p⟩
structure It where
 go:Nat->Hp->Prop
 XJ:Nat->Hp->V->Hp->Prop
 stop:Nat->Hp->Prop
def qg(X:Cx)(a:g8)(H:Hp)(b:Addr):Prop:=H b=none/\b≠X.env.locals/\b∉X.fs/\(b∈X.ex\/X.s₀.heap.objs.size<=b)/\(∀x c,X.env.cells.lookup x=some c->c≠b)/\∀p∈X.pn++a,p.1≠b
def Inv.Vi{j:Hp}(I:Inv f a g h d)(i:d.heap.objs.size<=b)(k:j b=none):qg f a j b:=by
 refine⟨k,fZ (be I.lt i),I.aed i,.inr (aV I.sz i),λx c e z=>?_,λp l z=>?_⟩
 .obtain⟨v,q⟩:=I.cell x c e;exact absurd (be q.lt (by rw[z];exact i)) (di _)
 .exact absurd (be (aO (I.pin p l).1) (by rw[z];exact i)) (di _)
structure Turn(P:Program)(w:World)(K:gy)(tg:Expr)(J:It)(fp:hD)(it:Addr)(tn:Nat->Heap->Prop):Prop where
 mem:it∈fp
 obj:∀i h,tn i h->∀b∈fp,∃o,h.get? b=some o/\∀v,o.data≠.cell v
 keep:∀i h h',tn i h->(∀b∈fp,∀o,h.get? b=some o->h'.get? b=some o)->tn i h'
 item:∀(X:Cx),X.prog=P->X.w=w->X.K=K->X.calm=true->∀(i:Nat)(pins:g8)(s:Shared)(σ:St)(H:Hp)(E:fz),Inv X pins σ H s->(∀b∈fp,qg X pins H b)->tn i s.heap->J.go i H->wpAny (model P w) X.A (pyNext (.ref it)) (λr s1=>∃u,r=some u/\wpAny (model P w) X.A (letOwnedTupleGo tg (.ref it) u) (λ_ s2=>∃x H',Inv X pins σ H' s2/\RelV x u/\J.XJ i H x H'/\tn (i+1) s2.heap/\∀b∈fp,H' b=none) E s1) E s
 done:∀(X:Cx),X.prog=P->X.w=w->X.K=K->X.calm=true->∀(i:Nat)(pins:g8)(s:Shared)(σ:St)(H:Hp)(E:fz),Inv X pins σ H s->(∀b∈fp,qg X pins H b)->tn i s.heap->J.stop i H->wpAny (model P w) X.A (pyNext (.ref it)) (λr s1=>r=none/\Inv X pins σ H s1) E s
 self:∀(A:Around)(i:Nat)(s:Shared)(Q:fz)(E:fz),tn i s.heap->Q (.ref it) s->wpAny (model P w) A (pyIter (.ref it)) Q E s
abbrev TI:=St->Hp->(It->Hp->Prop)->Prop
def PIE(X:Cx)(a:g8)(i:St)(j:Expr)(R:It->Hp->Prop)(c:Value)(e:Shared):Prop:=∃(f:Addr)(g:hD)(h:Nat->Heap->Prop)(J:It)(d:Hp),c=.ref f/\Inv X a i d e/\Turn X.prog X.w X.K j J g f h/\h 0 e.heap/\(∀b∈g,qg X a d b)/\R J d
def PI(X:Cx)(d b:Expr)(e:TI):Prop:=∀(a:g8)(s:Shared)(c:St)(H:Hp)(R:It->Hp->Prop),Inv X a c H s->e c H R->wpAny (model X.prog X.w) X.A (eval b X.env) (λv f=>wpAny (model X.prog X.w) X.A (pyIter v) (PIE X a c d R) X.xe f) X.xe s
def C6{s:Shared}{Q:Unit->Shared->Prop}(k:s.heap.get? c=some d)(o:d.cls=.type n)(m:d.data=.fields a)(l:["enumerate","zip","dict_itemiterator","dict_reverseitemiterator","odict_iterator","itertools.zip_longest","itertools.pairwise"].contains n=false)(j:Q () s):wpAny g e (letOwnedTupleGo b (.ref c) i) Q f s:=by
 unfold letOwnedTupleGo;cases b<;>first
  | exact bh j
  | (cases i<;>first
   | exact bh j
   | (refine ao (wpAny_load k ?_)
      rw[o,m];show wpAny g e (if(["enumerate","zip","dict_itemiterator","dict_reverseitemiterator","odict_iterator","itertools.zip_longest","itertools.pairwise"].contains n&&a[0]?==some (rawInt _))=true then _ else _) Q f s;rw[ah (by intro h;rw[l,nX]at h;cases h)];exact bh j))
def XM(K:gy)(a:Addr):It:=⟨λi H=>∃b x,ν K H a b/\b[i]?=some x,λi H x c=>c=H/\∀b,ν K H a b->b[i]?=some x,λi H=>∃b,ν K H a b/\b.length<=i⟩
def Yl(K:gy)(a:Addr):It:=⟨λi H=>∃b x,Δ K H a b/\b[i]?=some x,λi H x c=>c=H/\∀b,Δ K H a b->b[i]?=some x,λi H=>∃b,Δ K H a b/\b.length<=i⟩
def WV(lo:Int)(n:Nat):It:=⟨λi _=>i<n,λi H x a=>a=H/\x=.int (lo+i),λi _=>n<=i⟩
def LD{P:Program}{w:World}{K:gy}{S:Expr}(a g:Addr):Turn P w K S (XM K a) [g] g (λi h=>h.IsListIter g a i) where
 mem:=by simp
 obj:=λi h st b j=>by
  have e:b=g:=by simpa using j
  subst e;obtain⟨o,e,c,d⟩:=st;exact⟨o,e,λv z=>by rw[d]at z;cases z⟩
 keep:=λi h m st k=>st.at λo e=>k g (by simp) o e
 item:=by
  intro X A y J M i f s N H E I n st G;subst A y J;obtain⟨R,x,l,F⟩:=G;obtain⟨B,L,p,V⟩:=I.list l;obtain⟨u,hu,Q⟩:=L.get F;obtain⟨D,t,Y,r,C,q⟩:=n g (by simp);refine wpAny_pyNext_list_item st p.isList (x:=u) (by simpa using hu) λm O Z=>?_;have U:Inv X f N H { s with heap:=m }:=I.turned (t':=s.toks) (λb o j e=>(Z.2 b j).trans e) D t r C q;obtain⟨o,e,c,d⟩:=id O;exact⟨u,rfl,C6 (s:={ s with heap:=m }) e c d (by decide) ⟨x,H,U,Q,⟨rfl,λys T=>by rw[I.iN T l];exact F⟩,O,λb j=>(n b j).1⟩⟩
 done:=by
  intro X A y J M i f s N H E I n st G;subst A y J;obtain⟨R,l,F⟩:=G;obtain⟨B,L,p,V⟩:=I.list l;obtain⟨D,t,Y,r,C,q⟩:=n g (by simp);have hl:=L.length;exact wpAny_pyNext_list_end (I.ok.hd M) st p.isList (by simp;lia) λm eb=>⟨rfl,I.turned (t':=s.toks) (λb o j e=>eb b o j e) D t r C q⟩
 self:=λ_ _ _ _ _ st h=>wpAny_pyIter_listiter st h
def Ll{P:Program}{w:World}{K:gy}{S:Expr}(a j:Addr):Turn P w K S (Yl K a) [j] j (λi h=>h.IsTupleIter j a i) where
 mem:=by simp
 obj:=λi h st b l=>by
  have e:b=j:=by simpa using l
  subst e;obtain⟨o,e,c,d⟩:=st;exact⟨o,e,λv z=>by rw[d]at z;cases z⟩
 keep:=λi h n st k=>st.at λo e=>k j (by simp) o e
 item:=by
  intro X B A J M i f s N H E I q st G;subst B A J;obtain⟨R,x,m,F⟩:=G;obtain⟨g,L,p,V⟩:=I.tuple m;obtain⟨u,hu,Q⟩:=L.get F;obtain⟨D,y,Y,t,C,r⟩:=q j (by simp);refine wpAny_pyNext_tuple_item st (show s.heap.IsTuple a g.toArray from p) (x:=u) (by simpa using hu) λn O Z=>?_;have U:Inv X f N H { s with heap:=n }:=I.turned (t':=s.toks) (λb o l e=>(Z.2 b l).trans e) D y t C r;obtain⟨o,e,c,d⟩:=id O;exact⟨u,rfl,C6 (s:={ s with heap:=n }) e c d (by decide) ⟨x,H,U,Q,⟨rfl,λys T=>by rw[I.Um T m];exact F⟩,O,λb l=>(q b l).1⟩⟩
 done:=by
  intro X B A J M i f s N H E I q st G;subst B A J;obtain⟨R,m,F⟩:=G;obtain⟨g,L,p,V⟩:=I.tuple m;obtain⟨D,y,Y,t,C,r⟩:=q j (by simp);have hl:=L.length;exact wpAny_pyNext_tuple_end (I.ok.hd M) st (show s.heap.IsTuple a g.toArray from p) (by simp;lia) λn eb=>⟨rfl,I.turned (t':=s.toks) (λb o l e=>eb b o l e) D y t C r⟩
 self:=λ_ _ _ _ _ st h=>wpAny_pyIter_tupleiter st h
def KY{P:Program}{w:World}{K:gy}{D:Expr}(a:Addr)(lo:Int)(n:Nat):Turn P w K D (WV lo n) [a] a (λi h=>IsRangeIter h a (lo+(i:Nat)*1) ((n:Int)-(i:Nat)) 1) where
 mem:=by simp
 obj:=λi h st b d=>by
  have e:b=a:=by simpa using d
  subst e;exact⟨_,st,λv z=>by
   have J:Data.fields _=Data.cell v:=z;cases J⟩
 keep:=λi h f st k=>k a (by simp) _ st
 item:=by
  intro X q p A x i c s B H E I g st y;subst q p A;obtain⟨u,m,L,l,r,j⟩:=g a (by simp);have W:=Walks.range (prog:=X.prog) (w:=X.w) (I.ok.hd x) a lo 1 n;refine W.item i s _ _ y st λv f tk hv C F=>?_;obtain⟨t,rfl⟩:=hv;have G:Inv X c B H { s with heap:=f,toks:=tk }:=I.turned (λb o d e=>F b o (by simpa using d) e) u m l r j;refine⟨_,rfl,C6 (s:={ s with heap:=f,toks:=tk }) (n:="range_iterator") C rfl rfl (by decide) ⟨.int (lo+i),H,G,⟨t,?_⟩,⟨rfl,rfl⟩,C,λb d=>(g b d).1⟩⟩;rw[mB]
 done:=by
  intro X q p A x i c s B H E I g st y;subst q p A;obtain⟨u,m,L,l,r,j⟩:=g a (by simp);exact wpAny_pyNext_range_end (I.ok.hd x) st (by have:n<=i:=y;lia) λf M=>⟨rfl,I.turned (t':=s.toks) (λb o d e=>M b o d e) u m l r j⟩
 self:=λ_ _ _ _ _ st h=>wpAny_pyIter_rangeiter st h
def PU(K:gy)(e:TE):TI:=λd H R=>e d H λx b=>∃a,x=.ref a/\(∃c,ν K b a c)/\R (XM K a) b
def RX(K:gy)(e:TE):TI:=λd H R=>e d H λx b=>∃a,x=.ref a/\(∃c,Δ K b a c)/\R (Yl K a) b
def gC{X:Cx}{k:Expr}{l:Expr}{g:TE}(m:PE X l g):PI X k l (PU X.K g):=by
 intro c s u H R I h;refine eA (m c s u H _ I h) λv f x r d i t=>?_;obtain⟨a,e,⟨y,j⟩,q⟩:=t;subst e;cases i;obtain⟨n,A,p,z⟩:=d.list j;refine gj p.isList ?_;refine⟨f.heap.objs.size,[f.heap.objs.size],_,_,r,rfl,d.kept (t':=f.toks) λb o e=>aI _ e,LD a _,⟨_,bd _ rfl,rfl,rfl⟩,λb w=>?_,q⟩;have e:b=f.heap.objs.size:=by simpa using w
 subst e;exact d.Vi (aU _) (d.Α.fresh (aU _))
def wL{X:Cx}{m:Expr}{l:Expr}{i:TE}(n:PE X l i):PI X m l (RX X.K i):=by
 intro c s u H R I h;refine eA (n c s u H _ I h) λv d x r f j t=>?_;obtain⟨a,e,⟨y,k⟩,q⟩:=t;subst e;cases j;obtain⟨g,A,p,z⟩:=f.tuple k;refine kc (show d.heap.IsTuple a g.toArray from p) ?_;refine⟨d.heap.objs.size,[d.heap.objs.size],_,_,r,rfl,f.kept (t':=d.toks) λb o e=>aI _ e,Ll a _,⟨_,bd _ rfl,rfl,rfl⟩,λb w=>?_,q⟩;have e:b=d.heap.objs.size:=by simpa using w
 subst e;exact f.Vi (aU _) (f.Α.fresh (aU _))
def GY{R:It->Hp->Prop}{lo m:Int}{n:Nat}(I:Inv d c i j a)(s:-(2^62)<=lo)(u:lo<2^62)(t:-(2^62)<=m)(v:m<2^62)(q:R (WV lo (m-lo).toNat) j):wpAny (model d.prog d.w) d.A (pyIter (.ref a.heap.objs.size)) (PIE d c i k R) l { a with heap:=a.heap.push { cls:=.type "range",data:=.fields #[.int lo g,.int m h,.int 1 f] },toks:=n }:=by
 refine wpAny_pyIter_range (IsRange.new ..) (small_one s u t v) ?_;have p:Inv d c i j { a with heap:=a.heap.push { cls:=.type "range",data:=.fields #[.int lo g,.int m h,.int 1 f] },toks:=n }:=I.kept λb o e=>aI _ e;refine⟨(a.heap.push { cls:=.type "range",data:=.fields #[.int lo g,.int m h,.int 1 f] }).objs.size,[(a.heap.push { cls:=.type "range",data:=.fields #[.int lo g,.int m h,.int 1 f] }).objs.size],_,_,j,rfl,p.kept (t':=n) λb o e=>aI _ e,KY _ lo (m-lo).toNat,?_,λb x=>?_,q⟩
 .have e1:lo+((0:Nat):Int)*1=lo:=by simp
  have r:(((m-lo).toNat:Nat):Int)-((0:Nat):Int)=Builtin.Range.rangeSize lo m 1:=by rw[rangeSize_one];split<;>lia
  show IsRangeIter _ _ (lo+((0:Nat):Int)*1) ((((m-lo).toNat:Nat):Int)-((0:Nat):Int)) 1;rw[e1,r];exact bd _ rfl
 .have e:b=(a.heap.push { cls:=.type "range",data:=.fields #[.int lo g,.int m h,.int 1 f] }).objs.size:=by simpa using x
  subst e;exact p.Vi (aU _) (p.Α.fresh (aU _))
def PX(c:TA):TI:=λb H R=>c b H λa d=>∃j:Int,a=[.int j]/\-(2^62)<=j/\j<2^62/\R (WV 0 j.toNat) d
def P4(c:TA):TI:=λb H R=>c b H λa d=>∃i j:Int,a=[.int i,.int j]/\(-(2^62)<=i/\i<2^62/\-(2^62)<=j/\j<2^62)/\R (WV i (j-i).toNat) d
def jk(v:Gl a "range")(o:a.mg "range"=none)(l:PA a [b] d)(p:starEach [b] a.env=[(false,eval b a.env)]:=by rfl):PI a f (.Call (.Name "range" g) [b] [] c) (PX d):=by
 intro i s w H R I h;refine Call_ (rR I v o boot_range (dy (uw (l c i s w H _ I h) λx A z y u m k=>?_) p rfl));obtain⟨j,e,k,n,q⟩:=k;subst e;cases m with
 | cons r rr=>
   cases rr;obtain⟨t,rfl⟩:=r;exact call_range_1 (GY u (by lia) (by lia) k n (by simpa using q))
def Es(z:Gl a "range")(w:a.mg "range"=none)(o:PA a [c,b] f)(x:starEach [c,b] a.env=[(false,eval c a.env),(false,eval b a.env)]:=by rfl)(n:starEach [b] a.env=[(false,eval b a.env)]:=by rfl):PI a g (.Call (.Name "range" k) [c,b] [] d) (P4 f):=by
 intro l s A H R I h;refine Call_ (rR I z w boot_range (dy (uw (o d l s A H _ I h) λC G F D y p m=>?_) (by rw[x,n]) (by rw[n];rfl)));obtain⟨i,j,e,⟨m,v,B,u⟩,q⟩:=m;subst e;cases p with
 | cons r rr=>
   cases rr with
   | cons r' rr=>
     cases rr;obtain⟨t,rfl⟩:=r;obtain⟨E,rfl⟩:=r';exact call_range_2 (GY y m v B u q)
def RL(j:TI)(g:TG)(f:TS):TS:=λD a H=>j a H λJ k=>∃W:Nat->Nat->St->Hp->Prop,(∃m,W 0 m a k)/\∀i m a H,W i m a H->(J.stop i H/\D.nx a H)\/(J.go i H/\∃N:St->Hp->Prop,(∀b c,N b c->∃e,e<m/\W (i+1) e b c)/\∀x c,J.XJ i H x c->g x a c λd h=>f { D with nx:=N,ct:=N,bk:=D.nx } d h)
def wE(a:hD)(h:Heap):List (Addr×Obj):=a.filterMap λb=>(h.get? b).map λo=>(b,o)
def pj{h:Heap}(d:a∈b)(e:h.get? a=some c):(a,c)∈wE b h:=kC.mpr ⟨a,d,by rw[e];rfl⟩
def Mb(g:a∈wE c d):a.1∈c/\d.get? a.1=some a.2:=by
 obtain⟨b,h,e⟩:=kC.mp g;cases q:d.get? b with
 | none=>rw[q]at e;cases e
 | some o=>
   rw[q]at e;have f:(b,o)=a:=bN e;subst f;exact⟨h,q⟩
def Inv.pinned(I:Inv i a g h f)(s:∀b∈c,qg i a h b)(q:∀b∈c,∃o,f.heap.get? b=some o/\∀v,o.data≠.cell v):Inv i (a++wE c f.heap) g h f:=I.Vw λp m=>(aX.mp m).elim (λz=>I.pin p (bo _ z)) λz=>by
 obtain⟨k,e⟩:=Mb z;obtain⟨l,r,n,_⟩:=s p.1 k;obtain⟨o,j,d⟩:=q p.1 k;rw[e]at j;cases j;exact⟨e,l,r,n,d⟩
def Inv.ϲ(I:Inv e (a++f) b d c):Inv e a b d c:=I.Vw λp g=>I.pin p (bo _ (bS _ g))
def fh{X:Cx}{K:List Stmt}(P:PassesOwn (model X.prog X.w) X.A X.env X.xe)(hc:X.calm=true)(hi:PI X c a j)(hg:PG X c k)(E:UX X K g)(hs:∀x,foldedSetIterable a X.env x=pure x:=by intro _;rfl):PS X (.For c a K [] l) (RL j k g):=by
 intro q s σ H D I h;refine wpAny_For (ϙ (hi q s σ H _ I h) λv s1 h1=>ϙ h1 λa7 s2 h2=>?_) hs;obtain⟨it,O,tn,J,H2,e,I2,T,Vc,f2,W,⟨m0,w0⟩,M⟩:=h2;subst e;have B:∀{G:Hp},(∀b∈O,G b=none)->∀b∈O,qg X q G b:=λhn b E=>⟨hn b E,(f2 b E).2⟩;refine codeAny_forLoop_any (λn s'=>∃i t G,Inv X q t G s'/\tn i s'.heap/\(∀b∈O,G b=none)/\W i n t G) ?_ m0 ⟨0,σ,H2,I2,Vc,λb E=>(f2 b E).1,w0⟩;rintro n Z ⟨i,F,R,I3,V4,XN,w3⟩;rcases M i n F R w3 with⟨stop,qn⟩|⟨go,N,hN,step⟩
 .refine fS P (ϙ (T.done X rfl rfl rfl hc i q Z F R X.xe I3 (B XN) V4 stop) λr s4 ⟨Y,I4⟩=>?_);subst Y;exact gR ⟨F,R,I4,qn⟩
 .refine fS P (ϙ (T.item X rfl rfl rfl hc i q Z F R X.xe I3 (B XN) V4 go) λr s4 ⟨u,Y,h4⟩=>?_);subst Y;refine fS P (ϙ h4 λ_ s5 ⟨x,H5,I5,r5,y5,S,ZS⟩=>?_);have ZT:=I5.pinned (B ZS) (T.obj _ _ S);refine fS P (ϙ (hg _ s5 F H5 x u _ ZT r5 (step x H5 y5)) λ_ s6 ⟨V,H6,I6,q6⟩=>?_);refine fS P (ϙ (E _ s6 V H6 _ I6 q6) λf U L=>?_);have C:∀{p:St}{y:Hp},Inv X (q++wE O s5.heap) p y U->N p y->∃m,m<n/\∃i t G,Inv X q t G U/\tn i U.heap/\(∀b∈O,G b=none)/\W i m t G:=λ{p y} z Q=>by
   obtain⟨m',hm,w7⟩:=hN p y Q;refine⟨m',hm,i+1,p,y,z.ϲ,T.keep _ _ _ S λb E o e=>(z.pin (b,o) (bo _ (bo _ (pj E e)))).1,λb E=>?_,w7⟩;obtain⟨o,e,d⟩:=T.obj _ _ S b E;exact(z.pin (b,o) (bo _ (bo _ (pj E e)))).2.1
  cases f with
  | next=>obtain⟨p,y,z,Q⟩:=L;exact C z Q
  | cont=>obtain⟨p,y,z,Q⟩:=L;exact C z Q
  | brk=>obtain⟨p,y,z,L⟩:=L;exact⟨p,y,z.ϲ,L⟩
  | ret v=>obtain⟨x7,p,y,z,r7,L⟩:=L;exact⟨x7,p,y,z.ϲ,r7,L⟩
def OO{K:gy}{a:Addr}{c:List V}{g:TG}{o:TS}{D:Ends}{b:St}{H:Hp}(d:Nat->St->Hp->Prop)(r:d 0 b H)(t:∀i b H,i<=c.length->d i b H->ν K H a c)(s:∀i x b H,c[i]?=some x->d i b H->g x b H λj k=>o { D with nx:=d (i+1),ct:=d (i+1),bk:=D.nx } j k)(u:∀b H,d c.length b H->D.nx b H):∃W:Nat->Nat->St->Hp->Prop,(∃m,W 0 m b H)/\∀i m b H,W i m b H->((XM K a).stop i H/\D.nx b H)\/((XM K a).go i H/\∃N:St->Hp->Prop,(∀h f,N h f->∃l,l<m/\W (i+1) l h f)/\∀x f,(XM K a).XJ i H x f->g x b f λj k=>o { D with nx:=N,ct:=N,bk:=D.nx } j k):=by
 refine⟨λi m b H=>m=c.length-i/\i<=c.length/\d i b H,⟨c.length,by simp,cI _,r⟩,?_⟩;rintro i m b H ⟨rfl,w,p⟩;have q:=t i b H w p;by_cases n:i<c.length
 .refine .inr ⟨⟨c,c[i],q,by simp[n]⟩,d (i+1),λh f v=>⟨c.length-(i+1),by lia,rfl,n,v⟩,λx f y=>?_⟩;obtain⟨e,y⟩:=y;subst e;exact s i x b _ (y c q) p
 .have e:i=c.length:=by lia
  subst e;exact .inl ⟨⟨c,q,aU _⟩,u b H p⟩
def Dx{K:gy}{a:Addr}{xs:List V}{g:TG}{n:TS}{D:Ends}{b:St}{H:Hp}(c:Nat->St->Hp->Prop)(o:c 0 b H)(s:∀i b H,i<=xs.length->c i b H->Δ K H a xs)(r:∀i x b H,xs[i]?=some x->c i b H->g x b H λh j=>n { D with nx:=c (i+1),ct:=c (i+1),bk:=D.nx } h j)(t:∀b H,c xs.length b H->D.nx b H):∃W:Nat->Nat->St->Hp->Prop,(∃m,W 0 m b H)/\∀i m b H,W i m b H->((Yl K a).stop i H/\D.nx b H)\/((Yl K a).go i H/\∃N:St->Hp->Prop,(∀f d,N f d->∃k,k<m/\W (i+1) k f d)/\∀x d,(Yl K a).XJ i H x d->g x b d λh j=>n { D with nx:=N,ct:=N,bk:=D.nx } h j):=by
 refine⟨λi m b H=>m=xs.length-i/\i<=xs.length/\c i b H,⟨xs.length,by simp,cI _,o⟩,?_⟩;rintro i m b H ⟨rfl,v,p⟩;have q:=s i b H v p;by_cases l:i<xs.length
 .refine .inr ⟨⟨xs,xs[i],q,by simp[l]⟩,c (i+1),λf d u=>⟨xs.length-(i+1),by lia,rfl,l,u⟩,λx d y=>?_⟩;obtain⟨e,y⟩:=y;subst e;exact r i x b _ (y xs q) p
 .have e:i=xs.length:=by lia
  subst e;exact .inl ⟨⟨xs,q,aU _⟩,t b H p⟩
def LV{lo:Int}{n:Nat}{g:TG}{l:TS}{D:Ends}{a:St}{H:Hp}(d:Nat->St->Hp->Prop)(o:d 0 a H)(q:∀i a H,i<n->d i a H->g (.int (lo+i)) a H λf j=>l { D with nx:=d (i+1),ct:=d (i+1),bk:=D.nx } f j)(r:∀a H,d n a H->D.nx a H):∃W:Nat->Nat->St->Hp->Prop,(∃m,W 0 m a H)/\∀i m a H,W i m a H->((WV lo n).stop i H/\D.nx a H)\/((WV lo n).go i H/\∃N:St->Hp->Prop,(∀c b,N c b->∃k,k<m/\W (i+1) k c b)/\∀x b,(WV lo n).XJ i H x b->g x a b λf j=>l { D with nx:=N,ct:=N,bk:=D.nx } f j):=by
 refine⟨λi m a H=>m=n-i/\i<=n/\d i a H,⟨n,by simp,cI _,o⟩,?_⟩;rintro i m a H ⟨rfl,t,p⟩;by_cases h:i<n
 .refine .inr ⟨h,d (i+1),λc b s=>⟨n-(i+1),by lia,rfl,h,s⟩,λx b y=>?_⟩;obtain⟨e,y⟩:=y;subst e y;exact q i a _ h p
 .have e:i=n:=by lia
  subst e;exact .inl ⟨aU _,r a H p⟩
abbrev R2:=V->V->Hp->VK->Prop
def ϸ(X:Cx)(f:Value->Value->Sem Value)(r:R2):Prop:=∀(a:g8)(s:Shared)(b:St)(H:Hp)(x y:V)(v u:Value)(Q:VK),Inv X a b H s->RelV x v->RelV y u->r x y H Q->wpAny (model X.prog X.w) X.A (f v u) (EP X a b Q) X.xe s
def UnR(X:Cx)(f:Value->Sem Value)(r:V->Hp->VK->Prop):Prop:=∀(a:g8)(s:Shared)(b:St)(H:Hp)(x:V)(v:Value)(Q:VK),Inv X a b H s->RelV x v->r x H Q->wpAny (model X.prog X.w) X.A (f v) (EP X a b Q) X.xe s
def lS(X:Cx)(f:Value)(r:List V->Hp->VK->Prop):Prop:=∀(a:g8)(s:Shared)(c:St)(H:Hp)(b:List V)(d:hE)(Q:VK),Inv X a c H s->Vals b d->r b H Q->wpAny (model X.prog X.w) X.A (call f d) (EP X a c Q) X.xe s
def Tq(X:Cx)(r:V->Hp->(Bool->Hp->Prop)->Prop):Prop:=∀(a:g8)(s:Shared)(b:St)(H:Hp)(x:V)(v:Value)(Q:Bool->Hp->Prop),Inv X a b H s->RelV x v->r x H Q->wpAny (model X.prog X.w) X.A (truthy v) (TP X a b Q) X.xe s
def XO(r:R2)(c b:TE):TE:=λa H Q=>c a H λx e=>b a e λy d=>r x y d Q
def tUn(r:V->Hp->VK->Prop)(b:TE):TE:=λa H Q=>b a H λx c=>r x c Q
def rI(C:Int->Int->Prop)(g:Int->Int->V):R2:=λx y H Q=>∃i j,x=.int i/\y=.int j/\C i j/\Q (g i j) H
def Xi(g:Int->Int->V):R2:=λx y H Q=>∃i j,x=.int i/\y=.int j/\Q (g i j) H
def rU(g:Int->V):V->Hp->VK->Prop:=λx H Q=>∃i,x=.int i/\Q (g i) H
def Nx(r:PE a j d)(G:PE a l e){R:V->V->Hp->Prop}(I:Inv a b c i g)(h:d c i λx q=>e c q λy m=>R x y m){f:Value->Value->Sem Value}(C:∀v u p x y m,Inv a b c m p->RelV x v->RelV y u->R x y m->wpAny (model a.prog a.w) a.A (f v u) k a.xe p):wpAny (model a.prog a.w) a.A (eval j a.env) (λv o=>wpAny (model a.prog a.w) a.A (eval l a.env) (λu n=>wpAny (model a.prog a.w) a.A (f v u) k a.xe n) a.xe o) a.xe g:=by
 refine eA (r b g c i _ I h) λv F x q D z E=>?_;refine eA (G b F c q _ D E) λu p y m t s B=>?_;exact C v u p x y m t z s B
def bg(n:ϸ a (binaryOp b) g)(k:PE a e c)(w:PE a i d):PE a (.BinOp e b i f) (XO g c d):=by
 intro j s o H Q I h;exact wpAny_BinOp (Nx k w I h λv u m x y r l p t q=>n j m o r x y v u Q l p t q)
def uK(m:UnR c (unaryOp a) e)(k:PE c d b):PE c (.UnaryOp a d f) (tUn e b):=by
 intro g s i H Q I h;exact UnaryOp_ (eA (k g s i H _ I h) λv n x p o l j=>m g n i p x v Q o l j)
def Zg{X:Cx}{f:Value->Value->Sem Value}{C:Int->Int->Prop}{g:hP}(a:∀(i j:Int) (t u:Tok) (s:Shared) (Q:fz) (E:fz),C i j->Q (.int (g i j) s.toks) { s with toks:=s.toks+1 }->wpAny (model X.prog X.w) X.A (f (.int i t) (.int j u)) Q E s):ϸ X f (rI C λi j=>.int (g i j)):=by
 intro b s l H x y v u Q I e k h;obtain⟨i,j,rfl,rfl,d,q⟩:=h;obtain⟨t,rfl⟩:=e;obtain⟨c,rfl⟩:=k;exact a i j t c s _ _ d ⟨.int (g i j),H,I.tok _,⟨_,rfl⟩,q⟩
def Rp{X:Cx}{f:Value->Value->Sem Value}{g:hP}(a:∀(i j:Int) (t u:Tok) (s:Shared) (Q:fz) (E:fz),Q (.int (g i j) s.toks) { s with toks:=s.toks+1 }->wpAny (model X.prog X.w) X.A (f (.int i t) (.int j u)) Q E s):ϸ X f (Xi λi j=>.int (g i j)):=by
 intro b s k H x y v u Q I d e h;obtain⟨i,j,rfl,rfl,q⟩:=h;obtain⟨t,rfl⟩:=d;obtain⟨c,rfl⟩:=e;exact a i j t c s _ _ ⟨.int (g i j),H,I.tok _,⟨_,rfl⟩,q⟩
def Ko{X:Cx}{f:Value->Value->Sem Value}{g:Int->Int->Bool}(a:∀(i j:Int) (t u:Tok) (s:Shared) (Q:fz) (E:fz),Q (.bool (g i j)) s->wpAny (model X.prog X.w) X.A (f (.int i t) (.int j u)) Q E s):ϸ X f (Xi λi j=>.bl (g i j)):=by
 intro b s k H x y v u Q I d e h;obtain⟨i,j,rfl,rfl,q⟩:=h;obtain⟨t,rfl⟩:=d;obtain⟨c,rfl⟩:=e;exact a i j t c s _ _ ⟨.bl (g i j),H,I,rfl,q⟩
def Bl(i j:Int):Prop:=0<j/\j<1073741824
def TC(i j:Int):Prop:=0<=j/\j<=1000000/\i.natAbs<2^64
def Ym(i j:Int):Prop:=(-(2^64)<i/\i<2^64)\/(-(2^64)<j/\j<2^64)
def Ym.ok(h:Ym a b):IntMulOk a b:=by
 rcases h with⟨h1,h2⟩|⟨h1,h2⟩
 .exact .of_left (intBits_le_64 h1 h2)
 .exact .of_right (intBits_le_64 h1 h2)
def gm:ϸ a (binaryOp .Add) (Xi λi j=>.int (i+j)):=Rp λ_ _ _ _ _ _ _ q=>add_int q
def j5:ϸ a (binaryOp .Sub) (Xi λi j=>.int (i-j)):=Rp λ_ _ _ _ _ _ _ q=>sub_int q
def kR:ϸ a (binaryOp .Mult) (rI Ym λi j=>.int (i*j)):=Zg λ_ _ _ _ _ _ _ b q=>mul_int q b.ok
def iB:ϸ a (binaryOp .FloorDiv) (rI Bl λi j=>.int (i/j)):=Zg λi j _ _ _ _ _ b q=>by
 have d:(0:Int)<j:=b.1;have c:j<1073741824:=b.2;exact floordiv_int (by lia) (by rw[kM i (by lia)];exact q) (.inl (PyProof.noPylong_small (by lia)))
def fk:ϸ a (binaryOp .Mod) (rI (λ_ j=>0<j) λi j=>.int (i%j)):=Zg λi j _ _ _ _ _ b q=>by
 have c:(0:Int)<j:=b;exact mod_int' (by lia) (by rw[Int.fmod_eq_emod_of_nonneg i (by lia)];exact q)
def Mg:ϸ a (binaryOp .Pow) (rI TC λi j=>.int (i^j.toNat)):=Zg λ_ _ _ _ _ _ _ b q=>pow_int_small b.1 b.2.1 b.2.2 q
def unI{X:Cx}{f:Value->Sem Value}{g:eX}(a:∀(i:Int) (t:Tok) (s:Shared) (Q:fz) (E:fz),Q (.int (g i) s.toks) { s with toks:=s.toks+1 }->wpAny (model X.prog X.w) X.A (f (.int i t)) Q E s):UnR X f (rU λi=>.int (g i)):=by
 intro b s d H x v Q I c h;obtain⟨i,rfl,q⟩:=h;obtain⟨t,rfl⟩:=c;exact a i t s _ _ ⟨.int (g i),H,I.tok _,⟨_,rfl⟩,q⟩
def rX:UnR a (unaryOp .USub) (rU λi=>.int (-i)):=unI λ_ _ _ _ _ q=>neg_int q
def sB:V->V->Bool
 | .ο,.ο=>true|.ο,.int _=>true|.int _,.ο=>true|.ο,.bl _=>true|.bl _,.ο=>true|.ο,.str _=>true|.str _,.ο=>true
 | .int _,.int _=>true|.bl _,.bl _=>true|.str _,.str _=>true|.Vh _,.Vh _=>true
 | .int _,.str _=>true|.str _,.int _=>true|.bl _,.str _=>true|.str _,.bl _=>true
 | _,_=>false
def rEq:R2:=λx y H Q=>sB x y=true/\Q (.bl (decide (x=y))) H
def rNe:R2:=λx y H Q=>sB x y=true/\Q (.bl (!decide (x=y))) H
def JI{i:Int}:decide (V.int i=V.int a)=(i==a):=by
 rw[ip];simp
def MM :decide (V.bl b=V.bl a)=(b==a):=by
 rw[ip];simp
def Jr :decide (V.str b=V.str a)=(b==a):=by
 rw[ip];simp
def Je :decide (V.Vh b=V.Vh a)=(b.toList==a.toList):=by
 rw[ip];cases b;cases a;simp
def fA{Q:VK}(I:Inv h a c d g)(q:Q (.bl b) d)(e:b=f):EP h a c Q (.bool f) g:=by
 subst e;exact⟨.bl b,d,I,rfl,q⟩
def dJ:ϸ a (compareOp .Eq) rEq:=by
 intro f s g H x y v u Q I e b h;obtain⟨d,q⟩:=h;cases x with
 | ο=>
   cases e;cases y with
   | ο=>cases b;exact PySem.EqNone.eq_none_none (fA I q (by simp))
   | bl j=>cases b;exact PySem.EqNone.eq_none_bool (fA I q (by simp))
   | int j=>obtain⟨c,rfl⟩:=b;exact PySem.EqNone.eq_none_int (fA I q (by simp))
   | str j=>obtain⟨c,rfl⟩:=b;exact PySem.EqNone.eq_none_str (fA I q (by simp))
   | _=>exact absurd (show false=true from d) bq
 | bl i=>
   cases e;cases y with
   | ο=>cases b;exact PySem.EqNone.eq_bool_none (fA I q (by simp))
   | bl j=>cases b;exact eq_bool (fA I q MM)
   | str j=>obtain⟨c,rfl⟩:=b;exact PySem.EqMixed.eq_bool_str (fA I q (by simp))
   | _=>exact absurd (show false=true from d) bq
 | int i=>
   obtain⟨t,rfl⟩:=e;cases y with
   | ο=>cases b;exact PySem.EqNone.eq_int_none (fA I q (by simp))
   | int j=>obtain⟨c,rfl⟩:=b;exact eq_int (fA I q JI)
   | str j=>obtain⟨c,rfl⟩:=b;exact PySem.EqMixed.eq_int_str (fA I q (by simp))
   | _=>exact absurd (show false=true from d) bq
 | str i=>
   obtain⟨t,rfl⟩:=e;cases y with
   | ο=>cases b;exact PySem.EqNone.eq_str_none (fA I q (by simp))
   | bl j=>cases b;exact PySem.EqMixed.eq_str_bool (fA I q (by simp))
   | int j=>obtain⟨c,rfl⟩:=b;exact PySem.EqMixed.eq_str_int (fA I q (by simp))
   | str j=>obtain⟨c,rfl⟩:=b;exact eq_str (fA I q Jr)
   | _=>exact absurd (show false=true from d) bq
 | Vh i=>
   obtain⟨t,rfl⟩:=e;cases y with
   | Vh j=>obtain⟨c,rfl⟩:=b;exact PySem.W.eq_bytes (fA I q Je)
   | _=>exact absurd (show false=true from d) bq
 | _=>cases y<;>exact absurd (show false=true from d) bq
def p9:ϸ a (compareOp .NotEq) rNe:=by
 intro f s g H x y v u Q I e b h;obtain⟨d,q⟩:=h;cases x with
 | ο=>
   cases e;cases y with
   | ο=>cases b;exact PySem.EqNone.ne_none_none (fA I q (by simp))
   | bl j=>cases b;exact PySem.EqNone.ne_none_bool (fA I q (by simp))
   | int j=>obtain⟨c,rfl⟩:=b;exact PySem.EqNone.ne_none_int (fA I q (by simp))
   | str j=>obtain⟨c,rfl⟩:=b;exact PySem.EqNone.ne_none_str (fA I q (by simp))
   | _=>exact absurd (show false=true from d) bq
 | bl i=>
   cases e;cases y with
   | ο=>cases b;exact PySem.EqNone.ne_bool_none (fA I q (by simp))
   | bl j=>cases b;exact ne_bool (fA I q (congrArg not MM))
   | str j=>obtain⟨c,rfl⟩:=b;exact PySem.EqMixed.ne_bool_str (fA I q (by simp))
   | _=>exact absurd (show false=true from d) bq
 | int i=>
   obtain⟨t,rfl⟩:=e;cases y with
   | ο=>cases b;exact PySem.EqNone.ne_int_none (fA I q (by simp))
   | int j=>obtain⟨c,rfl⟩:=b;exact ne_int (fA I q (congrArg not JI))
   | str j=>obtain⟨c,rfl⟩:=b;exact PySem.EqMixed.ne_int_str (fA I q (by simp))
   | _=>exact absurd (show false=true from d) bq
 | str i=>
   obtain⟨t,rfl⟩:=e;cases y with
   | ο=>cases b;exact PySem.EqNone.ne_str_none (fA I q (by simp))
   | bl j=>cases b;exact PySem.EqMixed.ne_str_bool (fA I q (by simp))
   | int j=>obtain⟨c,rfl⟩:=b;exact PySem.EqMixed.ne_str_int (fA I q (by simp))
   | str j=>obtain⟨c,rfl⟩:=b;exact ne_str (fA I q (congrArg not Jr))
   | _=>exact absurd (show false=true from d) bq
 | Vh i=>
   obtain⟨t,rfl⟩:=e;cases y with
   | Vh j=>obtain⟨c,rfl⟩:=b;exact PySem.W.ne_bytes (fA I q (congrArg not Je))
   | _=>exact absurd (show false=true from d) bq
 | _=>cases y<;>exact absurd (show false=true from d) bq
def sE:ϸ a (compareOp .Lt) (Xi λi j=>.bl (decide (i<j))):=Ko λ_ _ _ _ _ _ _ q=>lt_int q
def sK:ϸ a (compareOp .LtE) (Xi λi j=>.bl (decide (i<=j))):=Ko λ_ _ _ _ _ _ _ q=>le_int q
def xB:ϸ a (compareOp .Gt) (Xi λi j=>.bl (decide (j<i))):=Ko λ_ _ _ _ _ _ _ q=>gt_int q
def wY:ϸ a (compareOp .GtE) (Xi λi j=>.bl (decide (j<=i))):=Ko λ_ _ _ _ _ _ _ q=>ge_int q
def MJ:ϸ a (compareOp .In) (λx y H Q=>∃i j,x=.str i/\y=.str j/\Q (.bl (!(Builtin.Str.occurrences j i 0 j.length 1).isEmpty)) H):=by
 intro b s f H x y v u Q I c d h;obtain⟨i,j,rfl,rfl,q⟩:=h;obtain⟨t,rfl⟩:=c;obtain⟨e,rfl⟩:=d;exact in_str (fA I q rfl)
def i9(b:Expr)(h:a≠.In:=by decide)(e:a≠.NotIn:=by decide):behindInMarks a b=false:=by
 have d:(a==CmpOp.In)=false:=by cases a<;>first|rfl|exact absurd rfl h
 have c:(a==CmpOp.NotIn)=false:=by cases a<;>first|rfl|exact absurd rfl e
 cases b<;>simp[behindInMarks,d,c]
def jB(o:ϸ b (compareOp a) i)(k:PE b f c)(z:PE b e d)(m:behindInMarks a e=false):PE b (.Compare f [a] [e] g) (XO i c d):=by
 intro j s p H Q I h;exact wpAny_Compare1 (Nx k z I h λv u n x y t l r w q=>o j n p t x y v u Q l r w q) m
def FF(t:TE):TT:=λa H Q=>t a H λx b=>∃k,x=.bl k/\Q k b
def qm(G:ϸ b (compareOp a) l)(o:PE b i d)(N:PE b g f)(A:behindInMarks a g=false):PT b (.Compare i [a] [g] j) (FF (XO l d f)):=by
 intro m s n H Q I h;refine wpAny_isTrue_Compare1 (eA (o m s n H _ I h) λv M x D C t E=>eA (N m M n D _ C E) λu F y K q p w=>
  eA (G m F n K x y v u _ q t p w) λc O z r B J ⟨k,e,L⟩=>?_) A
 subst e;cases J;exact dD ⟨r,B,L⟩
def GW(r g:R2)(f e c:TE):TE:=λa H Q=>f a H λx j=>e a j λy h=>r x y h λz b=>∃k,z=.bl k/\(if k=true then c a b λd i=>g y d i Q else Q (.bl false) b)
def Pa(V:ϸ b (compareOp c) p)(X:ϸ b (compareOp a) m)(D:PE b n g)(hb:PE b j i)(U:PE b l f)(K:lastMarks [c,a] [j,l]=false:=by with_unfolding_all rfl):PE b (.Compare n [c,a] [j,l] o) (GW p m g i f):=by
 intro q s r H Q I h;refine Compare_chain (eA (D q s r H _ I h) λv s1 x M L F P=>chain_link (eA (hb q s1 r M _ L P) λu S y Z E t J=>
  eA (V q S r Z x y v u _ E F t J) λd C z w A Y ⟨k,e,B⟩=>?_)) K
 subst e;cases Y;refine dD ?_;cases k with
 | false=>exact ite_ff ⟨.bl false,w,A,rfl,B⟩
 | true=>exact ite_tt (chain_last (ϙ (U q C r w _ A B) λN W ⟨T,H4,R,O,G⟩=>X q W r H4 y T u N Q R t O G))
def xQ(ho:ϸ b (compareOp c) p)(UU:ϸ b (compareOp a) m)(E:PE b n g)(hb:PE b j i)(Z:PE b l f)(M:lastMarks [c,a] [j,l]=false:=by with_unfolding_all rfl):PT b (.Compare n [c,a] [j,l] o) (FF (GW p m g i f)):=by
 intro q s r H Q I h;refine isTrue_chain (eA (E q s r H _ I h) λv s1 x P O J T=>test_link (eA (hb q s1 r P _ O T) λu W y H2 G t L=>
  eA (ho q W r H2 x y v u _ G J t L) λd C z w A r3 ⟨k,e,B⟩=>?_)) M
 subst e;cases r3;refine dD ?_;cases k with
 | false=>
   obtain⟨k',X,D⟩:=B;cases X;exact ite_ff ⟨w,A,D⟩
 | true=>
   refine ite_tt (test_last (ϙ (Z q C r w _ A B) λR s4 ⟨Y,H4,U,S,K⟩=>ϙ (UU q s4 r H4 y Y u R _ U t S K) λd' s5 ⟨z2,H5,I5,N,k2,V,F⟩=>?_));subst V;cases N;exact dD ⟨H5,I5,F⟩
def RQ(K:gy)(x:V)(H:Hp)(k:Bool):Prop:=match x with
 | .ο=>k=false
 | .bl b=>k=b
 | .int i=>k=(i != 0)
 | .str y=>y.length<=sizeLine/\k=((y.length:Int) != 0)
 | .Vh y=>y.size<=sizeLine/\k=((y.size:Int) != 0)
 | .ref p=>(∃a,ν K H p a/\k=!a.isEmpty)\/(∃a,Δ K H p a/\k=!a.isEmpty)\/∃c,H p=some (.dK c)/\k=!c.isEmpty
 | _=>False
def K6(r:KV a b):(!b.isEmpty)=!a.isEmpty:=by
 cases r<;>rfl
def C8(r:Vals b a):(!a.toArray.isEmpty)=!b.isEmpty:=by
 cases r<;>simp
def qx:(sizeLine:Nat)<2^63:=by rw[sizeLine_eq];decide
section
variable{X:Cx}
def Sk:Tq X (λx H Q=>∃k,RQ X.K x H k/\Q k H):=by
 intro u s D H x v Q I g h;obtain⟨k,e,q⟩:=h;have C:=qx;have B:sizeLine=16777216:=sizeLine_eq;cases x with
 | ο=>
   cases g;have a:k=false:=e;subst a;exact truthy_none ⟨H,I,q⟩
 | bl b=>
   cases g;have a:k=b:=e;subst a;exact dD ⟨H,I,q⟩
 | int i=>
   obtain⟨t,rfl⟩:=g;have a:k=(i != 0):=e;subst a;exact PySem.P.truthy_int ⟨H,I,q⟩
 | str y=>
   obtain⟨t,rfl⟩:=g;obtain⟨z,a⟩:y.length<=sizeLine/\k=((y.length:Int) != 0):=e;subst a;exact PySem.P.truthy_str (by lia) ⟨H,I.tok _,q⟩
 | Vh y=>
   obtain⟨t,rfl⟩:=g;obtain⟨z,a⟩:y.size<=sizeLine/\k=((y.size:Int) != 0):=e;subst a;exact PySem.W.truthy_bytes (by lia) ⟨H,I.tok _,q⟩
 | ref p=>
   cases g;have a:(∃d,ν X.K H p d/\k=!d.isEmpty)\/(∃d,Δ X.K H p d/\k=!d.isEmpty)\/∃f,H p=some (.dK f)/\k=!f.isEmpty:=e;rcases a with⟨d,hx,a⟩|⟨d,hx,a⟩|⟨f,hx,a⟩
   .subst a;obtain⟨n,r,l,o⟩:=I.list hx;have c:=r.length;exact wpAny_truthy_list l.isList (by simp only[aY];lia) ⟨H,I.tok _,by rw[C8 r];exact q⟩
   .subst a;obtain⟨n,r,l,o⟩:=I.tuple hx;have c:=r.length;exact truthy_tuple l (by simp only[aY];lia) ⟨H,I.tok _,by rw[C8 r];exact q⟩
   .subst a;obtain⟨o,A,j,r,m⟩:f.length<=sizeLine/\(p==sysModules)=false/\∃j,KV f j/\s.heap.DictOf (iC X.prog X.w) p j:=I.Α p _ hx;have c:f.length=j.length:=Paired.length r;exact wpAny_truthy_dict A m (by lia) ⟨H,I.tok _,by rw[K6 r];exact q⟩
 | _=>exact(show False from e).elim
end
def BG(i:PE b a c)(l:∀d,isTrue a b.env d=(do let v <-d;standAt a.pos;holding [v] (truthy v))):PT b a (λf H Q=>c f H λx g=>∃k,RQ b.K x g k/\Q k g):=by
 intro e s f H Q I h;exact isTrue_plain (eA (i e s f H _ I h) λv m x o n j p=>Sk e m f o x v Q n j p) (l _)
def cJ:ϸ a (binaryOp .Add) (λx y H Q=>∃i j,x=.str i/\y=.str j/\i.length+j.length<=sizeLine/\Q (.str (i++j)) H):=by
 intro b s k H x y v u Q I e f h;obtain⟨i,j,rfl,rfl,c,q⟩:=h;obtain⟨t,rfl⟩:=e;obtain⟨d,rfl⟩:=f;exact add_str (λd g=>⟨.str (i++j),H,I.tok _,⟨_,rfl⟩,q⟩) c
def oE(r:Vals [b] a):∃u,a=[u]/\RelV b u:=by
 cases r with
 | cons r1 r2=>cases r2;exact⟨_,rfl,r1⟩
def PR(r:Vals [c,b] a):∃u d,a=[u,d]/\RelV c u/\RelV b d:=by
 cases r with
 | cons r1 r2=>
   cases r2 with
   | cons r3 r4=>cases r4;exact⟨_,_,rfl,r1,r3⟩
def MP{X:Cx}(d:X.calm=true):lS X (.builtin "max") (λb H Q=>∃i j,b=[.int i,.int j]/\Q (.int (if j>i then j else i)) H):=by
 intro c s n H b f Q I r h;obtain⟨i,j,rfl,q⟩:=h;obtain⟨u,l,rfl,⟨t,rfl⟩,⟨m,rfl⟩⟩:=PR r;refine max_two_ints (I.ok.hd d) λg e k=>⟨_,H,I.kept k,?_,q⟩;by_cases a:j>i
 .rw[aj a,aj a];exact⟨_,rfl⟩
 .rw[ah a,ah a];exact⟨_,rfl⟩
def dQ:lS a (.type "str") (λb H Q=>∃i,b=[.int i]/\i.natAbs.log2<1920/\Q (.str (toString i)) H):=by
 intro c s e H b f Q I r h;obtain⟨i,rfl,d,q⟩:=h;obtain⟨u,rfl,t,rfl⟩:=oE r;exact PySem.P.str_of_int d ⟨.str _,H,I.tok _,⟨_,rfl⟩,q⟩
structure Vk(h:Heap)(x dx C:Addr)(mA:hF):Prop where
 obj:h.get? x=some (PySem.W.instObj C dx)
 ns:h.Ns1 dx mA
 ne:dx≠x
def M9{h:Heap}(n:h.Ns1 c b):∃i,h.get? c=some i/\∀d,PySem.W.lookIn d i=some (b d):=by
 obtain⟨o,g,s,r,m,p,_,j⟩:=n;refine⟨o,r,λd=>?_⟩;have e:=j d;unfold nsFind findBy at e;rw[<-Array.find?_toList]at e;unfold PySem.W.lookIn;rw[m];dsimp only;split
 .rename_i y q
  rw[q]at e;exact congrArg some e
 .rename_i q
  rw[q]at e;have a:g.toList.any (·.refKey)=false:=by
   rw[List.any_eq_false];intro y l;obtain⟨z,t,f⟩:=p y (oh.mp l);simp[DictEntry.refKey,f]
  have k:¬g.toList.any (·.refKey)=true:=by rw[a];exact bq
  rw[ah k];exact congrArg some e
def Vk.look(I:Vk d e a b c):∃g,PySem.W.InstAt d e (PySem.W.instObj b a) b (some g)/\∀f,PySem.W.lookIn f g=some (c f):=let ⟨g,ho,hl⟩:=M9 I.ns
 ⟨g,⟨I.obj,rfl,rfl,ho⟩,hl⟩
def Qg{s:Shared}{K:gy}{Q:fz}(X:K.In s.heap)(I:Vk s.heap g i b c)(o:PySem.W.plainGet K b a=true)(p:PySem.W.hasDictIn K b=true)(n:PySem.W.findIn K (.ref b) a=some none)(r:c a=some d)(m:PySem.W.handedIn d=true)(h:Q d { s with toks:=s.toks+1 }):wpAny (model e j) l (getAttr (.ref g) a f) Q k s:=by
 obtain⟨t,J,q⟩:=I.look;exact PySem.W.get_value X J (j3 o).1 (PySem.W.findObj_own p n rfl (by rw[q,r])) m h
def ND{s:Shared}{K:gy}{Q:Value×List Value->Shared->Prop}(X:K.In s.heap)(I:Vk s.heap d g e b)(m:PySem.W.plainGet K e a=true)(p:PySem.W.findIn K (.ref e) a=some (some (.ref c)))(n:PySem.W.isFn K (.ref c)=true)(r:b a=none)(h:Q (.ref c,[.ref d]) s):wpAny (model f j) l (getMethod (.ref d) a i) Q k s:=by
 obtain⟨q,J,o⟩:=I.look;exact PySem.W.method_fn X J (j3 m).1 (j3 m).2 p (jd.mp n) (by show(PySem.W.lookIn a q).map (·.isSome)=some false;rw[o,r];rfl) h
def QR{s:Shared}{K:gy}{Q:Unit->Shared->Prop}(X:K.In s.heap)(I:Vk s.heap g d e f)(D:PySem.W.findIn K (.ref e) "__setattr__"=some (some (.builtin "object.__setattr__")))(F:PySem.W.plainOver K e=true)(E:PySem.W.takerIn K e c=some none)(B:PySem.W.hasDictIn K e=true)(C:PySem.Within f i)(z:i.length<=sizeLine)(h:∀p,Vk p g d e (λy=>if y=c then some j else f y)->Heap.SameBut d s.heap p->Q () { s with heap:=p,toks:=s.toks+2 }):wpAny (model k l) n (setAttr (.ref g) c j) Q m s:=by
 obtain⟨N,J,M⟩:=I.look;refine PySem.W.set_plain X J D (PySem.W.osa_open (s:={ s with toks:=s.toks+1 }) (r:=none) X J F E λb=>?_);obtain⟨cd,H,t⟩:=lC B;have G:s.heap.get? g=some ⟨.ref e,some d,.plain,#[]⟩:=I.obj;refine ao (bh (ao (ao (wpAny_loadPart G (ao (PySem.W.Looks.here (s:={ s with toks:=s.toks+1 }) (PySem.W.looks_clsIn X H) ?_))))));rw[t];refine bh (a:=some d) (ao (bh (ao ?_)));refine wpAny_nsSet1 (s:={ s with toks:=s.toks+1 }) I.ns λp o w=>?_;obtain⟨L,A,x,u,q,v⟩:=o.count (PySem.Within.cons c j C);refine ao (wpAny_lookBehind u (by rw[q];exact pastItsLine_dict (aV v (by rw[aR];lia))) ?_);exact bh (h _ ⟨(w.2 _ (Ne.symm I.ne)).trans I.obj,o,I.ne⟩ w)
def Pq{A:Around}{s:Shared}{K:gy}(X:K.In s.heap)(l:PySem.W.makesIn K b=true)(n:PySem.W.findIn K (.ref b) "__init__"=some (some (.ref f)))(m:PySem.W.typeIn K (.ref f)=some (.type "function"))(h:codeAny (model a i) (A.under (.builtin "type.__call__" ⟨.ref b::c,e⟩)) (.call (.ref f) ⟨.ref (s.heap.objs.size+1)::c,e⟩) (PySem.W.InitBack (s.heap.objs.size+1) j)
 { s with heap:=(s.heap.push PySem.W.emptyDict).push (PySem.W.instObj b s.heap.objs.size) }):codeAny (model a i) A (.call (.ref b) ⟨c,e⟩) j s:=by
 obtain⟨o,g,d,t,os⟩:=s;exact PySem.W.make_core (PySem.W.makes_of X l) (PySem.W.looks_findIn X n) (λk=>PySem.W.bind_fn X k m) (.inl rfl) h
def dz(f:Str)(v:V):List (Str×V)->List (Str×V)
 | []=>[(f,v)]
 | (g,x)::r=>if g=f then(g,v)::r else(g,x)::dz f v r
theorem d6(f g:Str)(v:V):∀b:List (Str×V),(dz f v b).lookup g=if g=f then some v else b.lookup g
 | []=>by
   show List.lookup g [(f,v)]=_;by_cases h:g=f
   .have hb:(g==f)=true:=jd.mpr h;simp only[List.lookup,hb,aj h]
   .have hb:(g==f)=false:=beq_eq_false_iff_ne.mpr h;simp only[List.lookup,hb,ah h]
 | (k,x)::r=>by
   have c:=d6 f g v r;rw[show dz f v ((k,x)::r)=(if k=f then(k,v)::r else(k,x)::dz f v r)from rfl];by_cases a:k=f
   .rw[aj a];by_cases h:g=k
    .have hb:(g==k)=true:=jd.mpr h;simp only[List.lookup,hb,aj (h.trans a)]
    .have hb:(g==k)=false:=beq_eq_false_iff_ne.mpr h;simp only[List.lookup,hb,ah (λe:g=f=>h (e.trans a.symm))]
   .rw[ah a];by_cases h:g=k
    .have hb:(g==k)=true:=jd.mpr h;simp only[List.lookup,hb,ah (λe:g=f=>a (h.symm.trans e))]
    .have hb:(g==k)=false:=beq_eq_false_iff_ne.mpr h;simp only[List.lookup,hb];exact c
theorem yO(f:Str)(v:V):∀a:List (Str×V),f∈(dz f v a).map (·.1)/\∀g,g∈a.map (·.1)->g∈(dz f v a).map (·.1)
 | []=>⟨by simp[dz],λg h=>by simp at h⟩
 | (k,x)::r=>by
   obtain⟨d,c⟩:=yO f v r;rw[show dz f v ((k,x)::r)=(if k=f then(k,v)::r else(k,x)::dz f v r)from rfl];by_cases b:k=f
   .rw[aj b];subst b;exact⟨by simp,λg h=>by simpa using h⟩
   .rw[ah b];refine⟨?_,λg h=>?_⟩
    .rw[aF];exact aw _ d
    .rw[aF]at h ⊢;rcases aA.mp h with e|e
     .exact aA.mpr (.inl e)
     .exact aw _ (c g e)
theorem AI(f:Str)(v:V):∀a:List (Str×V),(dz f v a).length<=a.length+1
 | []=>by simp[dz]
 | (k,x)::r=>by
   have c:=AI f v r;rw[show dz f v ((k,x)::r)=(if k=f then(k,v)::r else(k,x)::dz f v r)from rfl];by_cases b:k=f
   .rw[aj b,aR,aR];lia
   .rw[ah b,aR,aR];lia
def aC.some_of(r:aC (some v) o):∃u,o=some u/\RelV v u:=by
 cases o with
 | none=>exact(show False from r).elim
 | some u=>exact⟨u,rfl,r⟩
def aC.none_of(r:aC none a):a=none:=by
 cases a with
 | none=>rfl
 | some u=>exact(show False from r).elim
def Nb(r:RelV d c):PySem.W.handedIn c=true:=by
 cases d with
 | ο=>cases(show c=Value.none from r);rfl
 | bl b=>cases(show c=Value.bool b from r);rfl
 | int i=>obtain⟨t,e⟩:=(show ∃t,c=Value.int i t from r);cases e;rfl
 | str x=>obtain⟨t,e⟩:=(show ∃t,c=Value.str x t from r);cases e;rfl
 | Vh b=>obtain⟨t,e⟩:=(show ∃t,c=Value.bytes b t from r);cases e;rfl
 | ZE b=>obtain⟨t,e⟩:=(show ∃t,c=Value.float b t from r);cases e;rfl
 | ref a=>cases(show c=Value.ref a from r);rfl
 | ty n=>cases(show c=Value.type n from r);rfl
def DU(o:ϱ k j g h)(e:g c=some (.ins i b a)):∃l,Vk h c b i l/\(∀f,aC (a.lookup f) (l f))/\PySem.Within l (a.map (·.1))/\a.length<=1000/\g b=some (.own c):=by
 obtain⟨d,z,ne,m,l,n,r,q⟩:=(show Φ k j g h c (.ins i b a)from o c _ e);exact⟨l,⟨m,n,ne⟩,r,q,z,d⟩
structure Vx(K:gy)(C:Addr):Prop where
 pg:PySem.W.plainGet K C Str.empty=true
 hd:PySem.W.hasDictIn K C=true
 po:PySem.W.plainOver K C=true
 sa:PySem.W.findIn K (.ref C) "__setattr__"=some (some (.builtin "object.__setattr__"))
def Vx.get{K:gy}{C:Addr}(c:Vx K C)(f:Str):PySem.W.plainGet K C f=true:=c.pg
def Ο(K:gy)(C:Addr)(f:Str):Prop:=PySem.W.findIn K (.ref C) f=some none
def Ο.ZU{K:gy}{C:Addr}{f:Str}(n:Ο K C f):PySem.W.takerIn K C f=some none:=by
 unfold PySem.W.takerIn;rw[show PySem.W.findIn K (.ref C) f=some none from n]
 rfl
structure Meth(K:gy)(C:Addr)(m:Str)(f:Addr):Prop where
 at_:PySem.W.findIn K (.ref C) m=some (some (.ref f))
 fn:PySem.W.isFn K (.ref f)=true
 kp:PySem.W.keepIn K (.ref f)=true
def Lh{Q:fz}(I:Inv b d f k p)(e:k m=some (.ins i q g))(c:Vx b.K i)(n:Ο b.K i a)(l:g.lookup a=some j)(h:∀u y,Inv b d f k y->RelV j u->Q u y):wpAny (model b.prog b.w) x (getAttr (.ref m) a s) Q t p:=by
 obtain⟨A,O,r,_,_,_⟩:=DU I.Α e;obtain⟨u,B,z⟩:=aC.some_of (v:=j) (o:=A a) (by rw[<-l];exact r a);exact Qg I.Uz O (c.get a) c.hd n B (Nb z) (h u _ (I.tok _) z)
def Cz{Q:Value×List Value->Shared->Prop}(I:Inv b j p n i)(e:n d=some (.ins g o f))(c:Vx b.K g)(k:Meth b.K g a m)(l:f.lookup a=none)(h:Q (.ref m,[.ref d]) i):wpAny (model b.prog b.w) t (getMethod (.ref d) a q) Q s i:=by
 obtain⟨v,O,r,_,_,_⟩:=DU I.Α e;have u:v a=none:=aC.none_of (by rw[<-l];exact r a);exact ND I.Uz O (c.get a) k.at_ k.fn u h
def Ks{Q:Unit->Shared->Prop}(I:Inv j k s t u)(e:t l=some (.ins m f a))(c:Vx j.K m)(n:Ο j.K m d)(N:a.length<1000)(L:RelV i p)(h:∀B,Inv j k s (upd t l (.ins m f (dz d i a))) B->Q () B):wpAny (model j.prog j.w) y (setAttr (.ref l) d p) Q v u:=by
 obtain⟨C,O,r,D,_,E⟩:=DU I.Α e;have G:(a.map (·.1)).length<=sizeLine:=by rw[aa,sizeLine_eq];lia
 refine QR I.Uz O c.sa c.po n.ZU c.hd D G λF A J=>h _ ?_;have hd:∃o,F.get? f=some o:=let ⟨o,_,_,e',_⟩:=A.ns;⟨o,e'⟩;refine I.write (x:=l) (e:=f) (by rw[e];exact True.intro) (.inr E) (λb q M z=>(J.2 b M).trans z) hd ?_;refine⟨by rw[aW O.ne];exact E,?_,O.ne,A.obj,_,A.ns,λg=>?_,λg H=>?_⟩
 .have:=AI d i a;lia
 .show aC ((dz d i a).lookup g) (if g=d then some p else C g);rw[d6];by_cases q:g=d
  .rw[aj q,aj q];exact L
  .rw[ah q,ah q];exact r g
 .by_cases q:g=d
  .rw[q];exact(yO d i a).1
  .refine(yO d i a).2 g (D g λz=>H ?_);show(if g=d then some p else C g)=none;rw[ah q];exact z
def Inv.made(I:Inv h d f g c):Inv h d f (upd (upd g c.heap.objs.size (.own (c.heap.objs.size+1))) (c.heap.objs.size+1) (.ins C c.heap.objs.size []))
 { c with heap:=(c.heap.push PySem.W.emptyDict).push (PySem.W.instObj C c.heap.objs.size) }:=by
 have i:(c.heap.push PySem.W.emptyDict).get? c.heap.objs.size=some PySem.W.emptyDict:=bd c.heap rfl;have j:((c.heap.push PySem.W.emptyDict).push (PySem.W.instObj C c.heap.objs.size)).get? (c.heap.objs.size+1)=some (PySem.W.instObj C c.heap.objs.size):=by
  have:=bd (c.heap.push PySem.W.emptyDict) (o:=PySem.W.instObj C c.heap.objs.size) rfl
  rwa [eK]at this
 have k:(c.heap.push PySem.W.emptyDict).Ns c.heap.objs.size (λ_=>none):=⟨PySem.W.emptyDict,#[],_,i,rfl,(λe n=>absurd n (by simp)),λ_=>rfl⟩;have m:=I.laid (a:=c.heap.objs.size) (o:=.own (c.heap.objs.size+1)) (h':=c.heap.push PySem.W.emptyDict) (t':=c.toks) (λb u q=>aI _ q) (aU _) ⟨_,i⟩;refine m.laid (a:=c.heap.objs.size+1) (o:=.ins C c.heap.objs.size []) (t':=c.toks) (λb u q=>aI _ q) (kZ (eK _ _)) ?_;have ne:c.heap.objs.size≠c.heap.objs.size+1:=bf (fN _);refine⟨by rw[aW ne,az],cI _,ne,j,λ_=>none,(Heap.Ns1.of_empty k).at λo q=>aI _ q,λ_=>True.intro,λy l=>absurd rfl l⟩
def Q5(m:attributeBase c d a (eval c a)=eval c a)(h:wpAny (model b e) f (eval c a) (λo l=>wpAny (model b e) f (getAttr o d true) k g l) g j):wpAny (model b e) f (eval (.Attribute c d i) a) k g j:=Attribute_any_ h (by rw[arm_eval_Attribute,m])
def RO(K:gy)(e:TE)(f:Str):TE:=λd H Q=>e d H λx c=>∃a C g b v,x=.ref a/\c a=some (.ins C g b)/\Vx K C/\Ο K C f/\b.lookup f=some v/\Q v c
def Ss(K:gy)(h g:TE)(f:Str):TS:=λD b H=>g b H λy i=>h b i λx d=>∃a C e c,x=.ref a/\d a=some (.ins C e c)/\Vx K C/\Ο K C f/\c.length<1000/\D.nx b (upd d a (.ins C e (dz f y c)))
def dG(y:PE b d f)(z:attributeBase d e b.env (eval d b.env)=eval d b.env):PE b (.Attribute d e g) (RO b.K f e):=by
 intro i s t H Q I h;refine Q5 z (eA (y i s t H _ I h) λu B x r p w ⟨a,C,D,F,v,j,k,c,n,l,q⟩=>?_);subst j;obtain rfl:u=Value.ref a:=w;exact Lh p k c n l λA E o m=>⟨v,r,o,m,q⟩
def rY{m:Pos}(t:PE e g i)(J:PE e b j)(A:swapsWith b (some (.Attribute g f d)) m.line e.env=pure false):PS e (.Assign [.Attribute g f d] b m) (Ss e.K i j f):=by
 intro k s o H D I h;refine plainObj_wpAny_Assign_Attribute (eA (J k s o H _ I h) λu M y F E L q=>eA (t k M o F _ E q) λv P x R w G ⟨a,C,O,Q,p,r,c,n,l,z⟩=>?_) A;subst p;obtain rfl:v=Value.ref a:=G;exact Ks w r c n l L λN B=>⟨o,_,B,z⟩
structure Χ(k:Nat)(A:Around):Prop where
 hd:A.handled=none
 dp:A.depth+3*k+5<recursionLimit
 un:A.units+16*k+200<cLine
def Χ.mono{j:Nat}(r:Χ a b)(h:j<=a):Χ j b:=⟨r.hd,by have:=r.dp;lia,by have:=r.un;lia⟩
def Χ.deeper{k:Nat}(r:Χ (k+1) a)(b:Env):Χ k (a.deeper b):=⟨r.hd,by have:=r.dp;show a.depth+1+3*k+5<_;lia,by have:=r.un;show a.units+3+16*k+200<_;lia⟩
def Lf{A:Around} :(A.under (.builtin "type.__call__" ⟨.ref c::a,b⟩)).depth=A.depth+1:=by
 first|rfl|simp[Around.under,Code.weight,Code.isCreation,Code.isGuard,Code.isCaller,Code.frames,Code.isFrame,guardIds]
def Lj{A:Around} :(A.under (.builtin "type.__call__" ⟨.ref c::a,b⟩)).units=A.units+1:=by
 first|rfl|simp[Around.under,Code.cUnits,Code.frames,Code.isFrame]
def Χ.make{k:Nat}(r:Χ (k+1) a)(C:Addr)(b:hE)(c:List (Str×Value)):Χ k (a.under (.builtin "type.__call__" ⟨.ref C::b,c⟩)):=⟨r.hd,by have:=r.dp;rw[Lf];lia,by have:=r.un;rw[Lj];lia⟩
def Χ.depth(r:Χ b a):a.depth<recursionLimit:=by have:=r.dp;lia
def Χ.units(r:Χ b a):a.units+64<cLine:=by have:=r.un;lia
def Xj:TA:=λ_ H Q=>Q [] H
def J9(c:TE)(f:TA):TA:=λa H Q=>c a H λx e=>f a e λb d=>Q (x::b) d
def aq:PA a [] Xj:=λ_ _ _ _ H Q I h=>gB ⟨[],H,I,.nil,h⟩
def ag(j:PE a c d)(v:PA a b e)(p:starEach (c::b) a.env=(false,eval c a.env)::starEach b a.env:=by rfl):PA a (c::b) (J9 d e):=by
 intro g f s i H Q I h;rw[p];show wpAny _ _ (spliced ((false,eval c a.env)::backTo g (starEach b a.env))) _ _ s;refine fB (eA (j f s i H _ I h) λu y x r q m t=>?_);exact uw (v g f y i r _ q t) λz A n w l k o=>⟨x::n,w,l,.cons m k,o⟩
def SG(t:TA):TE:=λc H Q=>t c H λa b=>a.length<=sizeLine/\∀p,b p=none->Q (.ref p) (upd b p (.tup a))
def Sx(t:TA):TE:=λc H Q=>t c H λa b=>a.length<=sizeLine/\∀p,b p=none->Q (.ref p) (upd b p (.lst a))
def lN{x1}(h:PA f c d):PE f (.Tuple c x1 a) (SG d):=by
 intro g s p H Q I l;refine wpAny_Tuple_spliced (uw (h a g s p H _ I l) λn i m k j r ⟨z,q⟩=>⟨by rw[<-r.length];exact z,?_⟩);have o:k i.heap.objs.size=none:=j.Α.fresh (aU _);refine⟨.ref i.heap.objs.size,upd k i.heap.objs.size (.tup m),j.laid (t':=i.toks) (λb u e=>aI _ e) (aU _) ?_,rfl,q _ o⟩;exact⟨z,n,r,⟨_,bd _ rfl,rfl,_,rfl⟩⟩
def ee(h:PA f c d):PE f (.List c a) (Sx d):=by
 intro g s p H Q I l;refine wpAny_List_spliced (uw (h a g s p H _ I l) λn i m k j r ⟨z,q⟩=>⟨by rw[<-r.length];exact z,?_⟩);have o:k i.heap.objs.size=none:=j.Α.fresh (aU _);refine⟨.ref i.heap.objs.size,upd k i.heap.objs.size (.lst m),j.laid (t':=i.toks) (λb u e=>aI _ e) (aU _) ?_,rfl,q _ o⟩;exact⟨z,n,0,r,bd _ rfl⟩
abbrev Sp:=List V->Hp->VK->XK->Prop
abbrev TK:=List Env->Hp->Shared->XK->Value->Shared->Prop
structure Vl(P:Program)(w:World)(K:gy)(mg:hF)(base:Heap)(A:Around)(outer:List Env)(s:Shared)(H:Hp):Prop where
 frames:A.frames=some outer
 mod:Mod K mg base
 bs:∀b o,base.get? b=some o->s.heap.get? b=some o/\H b=none
 Wj:base.objs.size<=s.heap.objs.size
 aS:s.heap.FunFrames base outer
 WT:∀b∈ϥ outer,H b=none
 Α:ϱ P w H s.heap
 bare:AllBare s.gens
def CE(a:List Env)(P:Program)(w:World)(H:Hp)(s:Shared)(Q:VK)(u:Value)(b:Shared):Prop:=∃v c,b.os=s.os/\AllBare b.gens/\Un (ϥ a) [] H c s.heap b.heap/\ϱ P w c b.heap/\RelV v u/\Q v c
def CR(c:TK)(a:List Env)(P:Program)(w:World)(H:Hp)(s:Shared)(Q:VK)(E:XK)(r:Result)(b:Shared):Prop:=match r with
 | .ok (.ret u)=>CE a P w H s Q u b
 | .ok _=>False
 | .error e=>c a H s E e b
structure ύ(P:Program)(w:World)(K:gy)(mg:hF)(base:Heap)(CX:TK)(k:Nat)(f:Addr)(fd:FuncData)(ps:hG)(sp:Sp):Prop where
 len:∀vs H Q E,sp vs H Q E->vs.length=ps.length
 run:∀(A:Around)(outer:List Env)(s:Shared)(H:Hp)(args:Args)(us:hE)(vs:List V)(Q:VK)(E:XK),Χ k A->Vl P w K mg base A outer s H->BindsTo s fd args (ps.zip us)->Vals vs us->sp vs H Q E->codeAny (model P w) A (.call (.ref f) args) (CR CX outer P w H s Q E) s
def Vl.make{P:Program}{w:World}{K:gy}{c:hF}{b:Heap}{A:Around}{a:List Env}{s:Shared}{H:Hp}(e:Vl P w K c b A a s H)(C:Addr)(d:hE)(f:List (Str×Value)):Vl P w K c b (A.under (.builtin "type.__call__" ⟨.ref C::d,f⟩)) a s H:=⟨by first|exact e.frames|(simpa[Around.under,Code.envs,Code.isFrame,pushEnvs]using e.frames),e.mod,e.bs,e.Wj,e.aS,e.WT,e.Α,e.bare⟩
def Inv.Yn(I:Inv a b e c d):Vl a.prog a.w a.K a.mg a.base a.A a.stack d c:=⟨I.ok.frames,I.ok.mod,I.bs,aV I.ok.Wj I.sz,I.stack,I.iF,I.Α,I.bare⟩
def Inv.after(I:Inv c a f k i)(h:CE c.stack c.prog c.w k i j l e):EP c a f j l e:=by
 obtain⟨v,u,os,m,p,o,r,q⟩:=h;obtain⟨s,g,d,t,n⟩:=e;obtain rfl:n=i.os:=os;exact⟨v,u,I.call (h':=s) (g':=g) (d':=d) (t':=t) (ch:=[]) p o m (λb z=>absurd z (by simp)),r,q⟩
def sO(c:Sp)(d:List V)(E:XK)(t:TA):TE:=λb H Q=>t b H λa e=>c (a++d) e Q E
def Kw(C:Addr)(m:Str)(f:Sp)(h:List V)(E:XK)(g:TE)(t:TA):TE:=λb H Q=>g b H λx d=>∃a i c,x=.ref a/\d a=some (.ins C i c)/\c.lookup m=none/\t b d λe j=>f (x::(e++h)) j Q E
def P9(C:Addr)(e:Sp)(f:List V)(E:XK)(t:TA):TE:=λd H Q=>t d H λc b=>∀x a,b x=none->b a=none->a≠x->e (.ref x::(c++f)) (upd (upd b a (.own x)) x (.ins C a [])) (λv g=>v=.ο/\Q (.ref x) g) E
def Binds(K:gy)(d:FuncData)(c:hG)(b:hE):Prop:=∀(s:Shared)(a:hE),K.In s.heap->(a++b).length=c.length->BindsTo s d ⟨a,[]⟩ (c.zip (a++b))
def Binds.all{K:gy}{d:FuncData}{b:hG}(h:∀a:List Value,a.length=b.length->bindArgs d ⟨a,[]⟩=pure (b.zip a)):Binds K d b []:=λs a _ c=>by
 rw[bX]at c ⊢;exact .of_eq (h a c)
def pT(c:TK)(X:Cx)(E:XK):Prop:=∀(a:g8)(d:St)(H:Hp)(s:Shared)(e:Value)(b:Shared),Inv X a d H s->c X.stack H s E e b->X.xe e b
def G9{X:Cx}(F:ύ X.prog X.w X.K X.mg X.base l p o n g j)(z:Χ p X.A)(B:Binds X.K n g b)(v:Vals a b)(x:pT l X m)(I:Inv X c f i d)(r:Vals vs us)(h:j (vs++a) i k m):wpAny (model X.prog X.w) X.A (call (.ref o) us) (EP X c f k) X.xe d:=by
 have s:Vals (vs++a) (us++b):=r.append v;have y:(us++b).length=g.length:=by rw[<-s.length];exact F.len _ _ _ _ h
 refine my (jA (F.run X.A X.stack d i ⟨us,[]⟩ (us++b) (vs++a) k m z I.Yn (B d us I.Uz y) s h) λr t q=>?_);cases r with
 | error e=>exact x c f i d e t I q
 | ok fl=>
   cases fl with
   | ret u=>exact I.after q
   | next=>exact False.elim q
   | brk=>exact False.elim q
   | cont=>exact False.elim q
def iU{X:Cx}(F:ύ X.prog X.w X.K X.mg X.base j m g l k i)(J:Χ m X.A)(D:Gl X e)(x:X.mg e=some (.ref g))(E:PySem.W.keepIn X.K (.ref g)=true)(L:Binds X.K l k f)(B:Vals d f)(C:pT j X n)(v:PA X (c::a) o)(hdb:(e==("__debug__":Str))=false:=by decide)(y:starEach (c::a) X.env=(false,eval c X.env)::starEach a X.env:=by rfl)(z:(backTo b (starEach a X.env)).any (·.1)=false:=by rfl):PE X (.Call (.Name e p) (c::a) [] b) (sO i d n o):=by
 intro t s G H Q I h;refine gY (qo I D x ?_ hdb);refine iX (h₀:=X.base) I.ok.mod.Yh E (uw (v b t s G H _ I h) λM P O N u r q=>⟨u.Uz,?_⟩) y z;exact G9 F J L B C u r q
def sW(U:PE b k p)(c:Vx b.K o)(M:Meth b.K o i j)(F:ύ b.prog b.w b.K b.mg b.base y C j B z t)(hr:Χ C b.A)(hb:Binds b.K B z n)(X:Vals m n)(Z:pT y b D)(S:PA b (g::e) E)(WU:starEach (g::e) b.env=(false,eval g b.env)::starEach e b.env:=by rfl)(W:(backTo d (starEach e b.env)).any (·.1)=false:=by rfl)(Y:eval (.Call (.Attribute k i f) (g::e) [] d) b.env=(do
 let J <-eval k b.env
 standAt f.atName
 let (j,first) <-holding [J] (getMethod J i v)
 callWith d j first (backTo d (starEach (g::e) b.env)) (backToKw d (keywordEach [] b.env))):=by rfl):PE b (.Call (.Attribute k i f) (g::e) [] d) (Kw o i t m D p E):=by
 intro G s O H Q I h;refine mH (pl:=v) (eA (U G s O H _ I h) λu s1 x V N rx ⟨a,dx,fs,P,R,l,q⟩=>?_) Y;subst P;obtain rfl:u=Value.ref a:=rx;refine Cz N R c M l ?_;refine iX (first:=[.ref a]) (h₀:=b.base) I.ok.mod.Yh M.kp (uw (S d G s1 O V _ N q) λus s2 vs H2 L r T=>⟨L.Uz,?_⟩) WU W;exact G9 (us:=.ref a::us) (vs:=.ref a::vs) F hr hb X Z L (.cons rfl r) T
def iM(L:PE b i n)(c:Vx b.K m)(E:Meth b.K m f g)(F:ύ b.prog b.w b.K b.mg b.base r y g v t o)(S:Χ y b.A)(T:Binds b.K v t k)(M:Vals j k)(O:pT r b z)(N:eval (.Call (.Attribute i f e) [] [] d) b.env=(do
 let D <-eval i b.env
 standAt e.atName
 let (g,first) <-holding [D] (getMethod D f p)
 callWith d g first (backTo d (starEach [] b.env)) (backToKw d (keywordEach [] b.env))):=by rfl):PE b (.Call (.Attribute i f e) [] [] d) (Kw m f o j z n Xj):=by
 intro B s P H Q I h;refine mH (pl:=p) (eA (L B s P H _ I h) λu Y x U C R ⟨a,V,X,G,J,l,q⟩=>?_) N;subst G;obtain rfl:u=Value.ref a:=R;refine Cz C J c E l ?_;exact PySem.W.callWith_K0 (first:=[.ref a]) C.Uz E.kp (G9 (us:=[.ref a]) (vs:=[.ref a]) F S T M O C (.cons rfl .nil) q)
section
variable{f C:Addr}
structure Mk(K:gy)(C f:Addr):Prop where
 makes:PySem.W.makesIn K C=true
 init:PySem.W.findIn K (.ref C) "__init__"=some (some (.ref f))
 fn:PySem.W.isFn K (.ref f)=true
 kp:PySem.W.keepIn K (.ref C)=true
end
def On{X:Cx}{Q:VK}(M:Mk X.K g n)(F:ύ X.prog X.w X.K X.mg X.base q t n s l p)(S:Χ (t+1) X.A)(W:Binds X.K s l c)(O:Vals i c)(P:pT q X o)(I:Inv X d k m b)(r:Vals j a)(h:∀x B,m x=none->m B=none->B≠x->p (.ref x::(j++i)) (upd (upd m B (.own x)) x (.ins g B [])) (λv T=>v=.ο/\Q (.ref x) T) o):wpAny (model X.prog X.w) X.A (call (.ref g) a) (EP X d k Q) X.xe b:=by
 have E:=h (b.heap.objs.size+1) b.heap.objs.size (I.Α.fresh (iT _)) (I.Α.fresh (aU _)) (bf (fN _));have z:=Inv.made (C:=g) I;have D:Vals (V.ref (b.heap.objs.size+1)::(j++i)) (Value.ref (b.heap.objs.size+1)::(a++c)):=.cons rfl (r.append O);have J:(Value.ref (b.heap.objs.size+1)::a++c).length=l.length:=by
  have e:=D.length;rw[F.len _ _ _ _ E]at e;exact e.symm
 refine my (Pq (f:=n) I.Uz M.makes M.init (jd.mp M.fn) (jA (F.run _ X.stack _ _ ⟨Value.ref (b.heap.objs.size+1)::a,[]⟩ (Value.ref (b.heap.objs.size+1)::(a++c)) _ _ o (S.make g a [])
  (z.Yn.make g a []) (W _ (Value.ref (b.heap.objs.size+1)::a) z.Uz J) D E) λr G y=>?_))
 cases r with
 | error e=>exact P d k _ _ e G z y
 | ok fl=>
   cases fl with
   | ret u=>
     obtain⟨v,H,N,R,L,U⟩:=z.after y;subst L;exact⟨R,⟨V.ref (b.heap.objs.size+1),H,N,rfl,U⟩⟩
   | next=>exact False.elim y
   | brk=>exact False.elim y
   | cont=>exact False.elim y
def zR{X:Cx}(M:Mk X.K g m)(F:ύ X.prog X.w X.K X.mg X.base j n m l k i)(J:Χ (n+1) X.A)(E:Gl X e)(y:X.mg e=some (.ref g))(L:Binds X.K l k f)(C:Vals d f)(D:pT j X o)(x:PA X (c::a) p)(hdb:(e==("__debug__":Str))=false:=by decide)(z:starEach (c::a) X.env=(false,eval c X.env)::starEach a X.env:=by rfl)(B:(backTo b (starEach a X.env)).any (·.1)=false:=by rfl):PE X (.Call (.Name e t) (c::a) [] b) (P9 g i d o p):=by
 intro u s G H Q I h;refine gY (qo I E y ?_ hdb);refine iX (h₀:=X.base) I.ok.mod.Yh M.kp (uw (x b u s G H _ I h) λN R P O v r q=>⟨v.Uz,?_⟩) z B;exact On M F J L C D v r q
structure ζ(N P:hG)(sc:Scope):Prop where
 kind:sc.kind=.function
 co:sc.isCoroutine=false
 gen:sc.isGenerator=false
 nd:N.Nodup
 pre:N.take P.length=P
 par:∀x∈P,sc.names.lookup x=some .local\/sc.names.lookup x=some .cell
 Yo:∀y∈sc.names,y.2≠.free
theorem EV{b:Str->Option NameKind}{x:Str}:∀{a:List (Str×Value)}{m:hF},(∀v,(x,v)∉a)->bindL b a m x=m x
 | [],_,_=>rfl
 | (n,v)::r,m,h=>by
   unfold bindL;rw[EV λw c=>h w (aw _ c)];split
   .have:x≠n:=(by rintro rfl;exact h v aL);simp[this]
   .rfl
theorem EX{b:Str->Option NameKind}{x:Str}:∀{a:List (Str×Value)}{m:hF},(∀v,(x,v)∉a)->bindC b a m x=m x
 | [],_,_=>rfl
 | (n,v)::r,m,h=>by
   unfold bindC;rw[EX λw c=>h w (aw _ c)];split
   .rfl
   .have:x≠n:=(by rintro rfl;exact h v aL);simp[this]
theorem EN{c:Str->Option NameKind} :∀{P:hG}{d:hE}{i:Nat}{m:hF},P.Nodup->P[i]?=some a->d[i]?=some b->c a=some .local->bindL c (P.zip d) m a=some b
 | [],_,_,_,_,h,_,_=>by simp at h
 | _::_,[],_,_,_,_,h,_=>by simp at h
 | p::P,w::d,0,m,nd,h1,h2,hk=>by
   simp at h1 h2;subst h1;subst h2;show bindL c ((p,w)::P.zip d) m p=_;unfold bindL;rw[EV λb e=>(aZ.mp nd).1 (me e).1,aj hk];simp
 | p::P,w::d,i+1,m,nd,h1,h2,hk=>by
   show bindL c ((p,w)::P.zip d) m a=_;unfold bindL;exact EN (i:=i) (aZ.mp nd).2 (by simpa using h1) (by simpa using h2) hk
theorem EJ{c:Str->Option NameKind} :∀{P:hG}{d:hE}{i:Nat}{m:hF},P.Nodup->P[i]?=some a->d[i]?=some b->c a≠some .local->bindC c (P.zip d) m a=some b
 | [],_,_,_,_,h,_,_=>by simp at h
 | _::_,[],_,_,_,_,h,_=>by simp at h
 | p::P,w::d,0,m,nd,h1,h2,hk=>by
   simp at h1 h2;subst h1;subst h2;show bindC c ((p,w)::P.zip d) m p=_;unfold bindC;rw[EX λb e=>(aZ.mp nd).1 (me e).1,ah hk];simp
 | p::P,w::d,i+1,m,nd,h1,h2,hk=>by
   show bindC c ((p,w)::P.zip d) m a=_;unfold bindC;exact EJ (i:=i) (aZ.mp nd).2 (by simpa using h1) (by simpa using h2) hk
def start(N:hG)(a:List V):St:=a.map some++List.replicate (N.length-a.length) none
def sk(d:TK)(P:Program)(w:World)(K:gy)(mg:hF)(base:Heap)(N:hG)(b:Str)(a:Scope)(f:Addr)(cd:Value)(A:Around)(outer:List Env)(s:Shared)(H:Hp)(E:XK):Cx where
 prog:=P
 w:=w
 K:=K
 mg:=mg
 base:=base
 A:=A.deeper (envOfC b a s.heap.objs.size f cd)
 N:=N
 s₀:=s
 H₀:=H
 env:=envOfC b a s.heap.objs.size f cd
 outer:=outer
 stack:=envOfC b a s.heap.objs.size f cd::outer
 ex:=[]
 calm:=true
 fn:=λ_=>true
 pn:=[]
 xe:=λe g=>wpAny (model P w) (A.deeper (envOfC b a s.heap.objs.size f cd)) (leaving (envOfC b a s.heap.objs.size f cd) e) (λ_ c=>d outer H s E e c) (λh c=>d outer H s E h c) g
def Bo{b:Scope}(h:b.names.lookup a=some .cell):∃c,(cellsFrom n b.names []).lookup a=some c:=by
 have q:=ms b.names n [] (.inl h);exact gM.mp q
def Mx{M:TK}{P:Program}{w:World}{K:gy}{L:hF}{m:Heap}{N B:hG}{j:Str}{d:Scope}{f:Addr}{cd:Value}{A:Around}{g:List Env}{s Q:Shared}{H:Hp}{E:XK}{I:hE}{t:List V}(S:ζ N B d)(U:A.handled=none)(o:Vl P w K L m A g s H)(hl:t.length=B.length)(r:Vals t I)(x:InCallC s s.heap.objs.size (bindL (envOfC j d s.heap.objs.size f cd).kindOf (B.zip I) λ_=>none) (cellsFrom (s.heap.objs.size+1) d.names []) (bindC (envOfC j d s.heap.objs.size f cd).kindOf (B.zip I) λ_=>none) Q):Inv (sk M P w K L m N j d f cd A g s H E) [] (start N t) H Q:=by
 have ϳ:B.length<=N.length:=by have:=congrArg List.length S.pre;rw[bA]at this;lia
 obtain⟨F,Y,rfl,O⟩:=x.done;have J:∀b:Addr,b∉(sk M P w K L m N j d f cd A g s H E).ex:=λb z=>absurd (show b∈([]:hD)from z) (by simp);refine⟨⟨o.mod,S.kind,rfl,rfl,aU _,λy z c F l=>?_,λy hy=>?_,λy c _ h=>?_,λ_=>U,Around.frames_deeper o.frames,.inr ⟨rfl,rfl⟩,λb z=>absurd z (J b),o.bs,o.Wj,λb _ _=>J b,λb z=>absurd z (J b),o.aS,o.WT⟩,rfl,o.bare,Un.kept O,⟨_,x.toInCall.ns,λi y v F l Z=>?_⟩,λy c h=>⟨_,x.cell y c h⟩,o.Α.fresh (aU _),λy c h=>?_,λp C=>absurd (show p∈([]:g8)from C) (by simp),o.Α.kept O,?_⟩
 .exact name_of_addr x.apart (dZ F) (dZ l)
 .have hy:d.names.lookup y=some .cell\/d.names.lookup y=some .free:=hy;rcases hy with hy|hy
  .exact Bo hy
  .exact absurd rfl (S.Yo _ (dZ hy))
 .exact iH (x.above y c (dZ h))
 .have G:i<t.length:=by
   unfold start at l;by_cases G:i<t.length
   .exact G
   .rw[db (by simpa using G)]at l;rw[i6]at l;split at l<;>cases l
  have T:t[i]?=some v:=by
   unfold start at l;rw[dH (by simpa using G),aP]at l;cases e:t[i]? with
   | none=>rw[e]at l;cases l
   | some a=>rw[e]at l;cases l;rfl
  obtain⟨u,R,X⟩:=r.get T;have C:B[i]?=some y:=by
   rw[<-S.pre,lA (by lia)];exact F
  have D:B.Nodup:=by rw[<-S.pre];exact S.nd.sublist (kQ _ _)
  refine⟨u,X,?_⟩;rcases S.par y (aQ C)with k|k
  .exact .inl ⟨k,EN D C R k⟩
  .obtain⟨c,e⟩:=Bo (n:=s.heap.objs.size+1) k;refine .inr ⟨.inl k,c,e,?_⟩;have q:=x.cell y c e;rw[EJ D C R (by show d.names.lookup y≠_;rw[k];decide)]at q;exact q
 .exact o.Α.fresh (iH (x.above y c (dZ h)))
 .unfold start;show _=N.length;rw[ay,aa,cf]
  lia
def PY{G:TK}{P:Program}{w:World}{K:gy}{L:hF}{base:Heap}{k:Nat}{f:Addr}{m d:Str}{g:Arguments}{h:List Stmt}{a:Scope}{dV kV B Z p Y oc:Value}{an od:Option Addr}{UZ:Array (Option Value)}{N M:hG}{U:Sp}(lk:K.lookup f=some ⟨oc,od,.func (PySem.W.fnOf m d g h a dV kV B Z an p Y),UZ⟩)(VL:PySem.W.codeIn K p d=true)(S:ζ N M a)(F:∀j H Q E,U j H Q E->j.length=M.length)(U0:∀(A:Around) (c:List Env) (s:Shared) (H:Hp) (j:List V) (Q:VK) (E:XK),Χ k (A.deeper (envOfC d a s.heap.objs.size f p))->U j H Q E->∃t,UX (sk G P w K L base N d a f p A c s H E) h t/\t { nx:=λ_ l=>Q .ο l,rt:=Q } (start N j) H):ύ P w K L base G (k+1) f (PySem.W.fnOf m d g h a dV kV B Z an p Y) M U:=by
 refine⟨F,λA c s H ai us j Q E X C hb r WZ=>?_⟩;have hl:=F _ _ _ _ WZ;have KX:K.In s.heap:=C.mod.Yh.keeps λb o e=>(C.bs b o e).1;have R:s.heap.NoLimit:=C.mod.nolimit.keeps λb o e=>(C.bs b o e).1;have ZX:∀y∈M.zip us,a.names.lookup y.1=some .local\/(a.names.lookup y.1=some .cell/\((cellsFrom (s.heap.objs.size+1) a.names []).lookup y.1).isSome=true):=λ⟨n,v⟩ hy=>by
  rcases S.par n (me hy).1 with q|q
  .exact .inl q
  .exact .inr ⟨q,ms _ _ _ (.inl q)⟩
 refine codeAny_call_function X.depth (KX _ _ lk) rfl S.co S.gen rfl (PySem.W.codeRec_of KX VL) (hb _ _ _ _ ?_);refine wpAny_newFunctionEnv_cells S.kind ZX λar he s1 x=>?_;subst he;refine⟨R.keeps x.toInCall.keep,codeAny_func ?_⟩;obtain⟨t,ht,hq⟩:=U0 A c s H j Q E (X.deeper _) WZ;have I:Inv (sk G P w K L base N d a f p A c s H E) [] (start N j) H s1:=Mx S X.hd C hl r x;refine cP (ht [] s1 (start N j) H _ I hq) (λfl O z=>?_) λe O z=>z;have D:∀{i:St}{l:Hp}{v:V}{u:Value},Inv (sk G P w K L base N d a f p A c s H E) [] i l O->RelV v u->Q v l->CE c P w H s Q u O:=λ{i l v u} J T q=>⟨v,l,J.os,J.bare,J.base,J.Α,T,q⟩
 cases fl with
 | ret u=>
   obtain⟨v,i,l,J,T,q⟩:=z;exact D J T q
 | next=>
   obtain⟨i,l,J,q⟩:=z;exact D (v:=V.ο) (u:=Value.none) J rfl q
 | brk=>
   obtain⟨_,_,_,q⟩:=z;exact False.elim q
 | cont=>
   obtain⟨_,_,_,q⟩:=z;exact False.elim q
def ZY(r:List V->Hp->VK->Prop)(t:TA):TE:=λb H Q=>t b H λa c=>r a c Q
def Oc{X:Cx}{x:Str}{p:Pos}{b:Pos}{e:Expr}{c:List Expr}{t:TA}{id:String}{r:List V->Hp->VK->Prop}(v:lS X (.builtin id) r)(w:Gl X x)(j:X.mg x=none)(z:bootBuiltins x=some (.builtin id))(g:PA X (e::c) t)(q:x≠"__name__":=by decide)(d:(x==("__debug__":Str))=false:=by decide)(A:starEach (e::c) X.env=(false,eval e X.env)::starEach c X.env:=by rfl)(u:(backTo b (starEach c X.env)).any (·.1)=false:=by rfl):PE X (.Call (.Name x p) (e::c) [] b) (ZY r t):=by
 intro a s f H Q I h;refine gY (rR I w j z ?_ q d);exact PyProof.Rows.callWith_builtin1 (uw (g b a s f H _ I h) λk l y n m i o=>v a l f n y k Q m i o) A u
def lM(x:lS a (.type f) i)(y:Gl a d)(o:a.mg d=none)(A:bootBuiltins d=some (.type f))(m:PA a (e::b) g)(v:d≠"__name__":=by decide)(hdb:(d==("__debug__":Str))=false:=by decide)(q:starEach (e::b) a.env=(false,eval e a.env)::starEach b a.env:=by rfl)(w:(backTo c (starEach b a.env)).any (·.1)=false:=by rfl):PE a (.Call (.Name d j) (e::b) [] c) (ZY i g):=by
 intro k s l H Q I h;refine gY (rR I y o A ?_ v hdb);exact dy (uw (m c k s l H _ I h) λp B z t r n u=>x k B l t z p Q r n u) q w
end L2
namespace HT
open PySem PyProof.Rows
def Ue(n d:Nat):Option Int->Nat
 | none=>d
 | some v=>if v<0 then(v+(n:Int)).toNat else min v.toNat n
end HT
namespace L2
open PySem PySem.Spec PyProof.Rows
abbrev TO:=St->Hp->(Option Int->Hp->Prop)->Prop
def PO(X:Cx)(e:Option Expr)(t:TO):Prop:=∀(a:g8)(s:Shared)(b:St)(H:Hp)(Q:Option Int->Hp->Prop),Inv X a b H s->t b H Q->wpAny (model X.prog X.w) X.A (evalPart e X.env) (λu d=>∃o c,Inv X a b c d/\IsPart u o/\Q o c) X.xe s
def ϛ:TO:=λ_ H Q=>Q none H
def sU(t:TE):TO:=λa H Q=>t a H λx b=>∃i,x=.int i/\Q (some i) b
def je:PO a none ϛ:=by
 intro b s c H Q I h;rw[evalPart_none];exact bh ⟨none,H,I,.none,h⟩
def jf(h:PE c b a):PO c (some b) (sU a):=by
 intro d s g H Q I j;rw[evalPart_some];refine eA (h d s g H _ I j) λu m x l k f e=>?_;obtain⟨i,rfl,q⟩:=e;obtain⟨t,rfl⟩:=f;exact⟨some i,l,k,.int i t,q⟩
def SlR(X:Cx)(r:V->Option Int->Option Int->Hp->VK->Prop):Prop:=∀(a:g8)(s:Shared)(c:St)(H:Hp)(x:V)(v d f:Value)(lo e:Option Int)(b:Addr)(Q:VK),Inv X a c H s->RelV x v->s.heap.IsSliceOf b d f .none->IsPart d lo->IsPart f e->r x lo e H Q->∃T id,typeLookup (.type T) "__getitem__"=pure (some (.builtin id))/\s.TypeIs v T/\wpAny (model X.prog X.w) X.A (getItem v (.ref b)) (EP X a c Q) X.xe s
def Xk(r:V->Option Int->Option Int->Hp->VK->Prop)(c:TE)(e d:TO):TE:=λa H Q=>c a H λx f=>e a f λl b=>d a b λu g=>r x l u g Q
def iu{lo:Option Expr}{p:Option Expr}{r:V->Option Int->Option Int->Hp->VK->Prop}(S:SlR a r)(D:PE a c f)(F:PO a lo g)(Y:PO a p e):PE a (.Subscript c (.Slice lo p none d) i) (Xk r f g e):=by
 intro j s m H Q I h;refine Subscript_ (eA (D j s m H _ I h) λv X x L J z M=>?_);refine wpAny_Slice (ϙ (F j X m L _ J M) λo P ⟨l,U,y,K,C⟩=>ϙ (Y j P m U _ y C) λn k ⟨u,t,G,B,W⟩=>?_);rw[evalPart_none];refine bh ?_;have N:Inv a j m t { k with heap:=k.heap.push { cls:=.type "slice",data:=.fields #[o,n,.none] } }:=G.kept (t':=k.toks) λb Z q=>aI _ q;obtain⟨T,id,E,O,R⟩:=S j { k with heap:=k.heap.push { cls:=.type "slice",data:=.fields #[o,n,.none] } } m t x v o n l u k.heap.objs.size Q N z (Heap.IsSliceOf.new ..) K B W;show wpAny (model a.prog a.w) a.A (subscriptTail c (.Slice lo p none d) v (.ref k.heap.objs.size)) (EP a j m Q) a.xe { k with heap:=k.heap.push { cls:=.type "slice",data:=.fields #[o,n,.none] } };exact tail_any (ops:=[.ref k.heap.objs.size,v]) O E R (by with_unfolding_all rfl)
def vC(a:List V)(lo b:Option Int):List V:=(a.drop (HT.Ue a.length 0 lo)).take (HT.Ue a.length a.length b-HT.Ue a.length 0 lo)
def IC(a:List V)(lo b:Option Int):(vC a lo b).length<=a.length:=by
 unfold vC;rw[bA,d8]
 lia
def Wo(n:Nat)(i:Int):Option Nat:=if 0<=i then(if i<n then some i.toNat else none)else if -(n:Int)<=i then some (i+n).toNat else none
def aT(b:List a)(i:Int):Option a:=(Wo b.length i).bind λj=>b[j]?
def JC{i:Int}(h:Wo a i=some b):seqIndex? i a=some b/\b<a/\-(a:Int)<=i/\i<a:=by
 unfold Wo at h;by_cases d:0<=i
 .rw[aj d]at h;by_cases c:i<a
  .rw[aj c]at h;have e:i.toNat=b:=bN h;exact⟨by rw[seqIndex_of d c,e],by lia,by lia,c⟩
  .rw[ah c]at h;cases h
 .rw[ah d]at h;by_cases c:-(a:Int)<=i
  .rw[aj c]at h;have e:(i+a).toNat=b:=bN h;exact⟨by rw[seqIndex_neg (by lia) c,e],by lia,c,by lia⟩
  .rw[ah c]at h;cases h
def Ag{i:Int}(h:aT a i=some b):∃j,seqIndex? i a.length=some j/\a[j]?=some b/\j<a.length/\-(a.length:Int)<=i/\i<a.length:=by
 unfold aT at h;cases e:Wo a.length i with
 | none=>rw[e]at h;cases h
 | some j=>
   rw[e]at h;obtain⟨g,f,c,d⟩:=JC e;exact⟨j,g,h,f,c,d⟩
def Js{b:Type}{a:List b}{j:Nat}{v:b}(h:a[j]?=some v):aT a (j:Int)=some v:=by
 have c:j<a.length:=(aD.mp h).1;have e:Wo a.length (j:Int)=some j:=by
  unfold Wo;rw[aj (by lia),aj (by lia)];simp
 unfold aT;rw[e];exact h
def JE(b:Expr):Prop:=∀o i,subscripted b false o i=operate [o,i] (getItem o i)
def Xl(X:Cx)(r:R2):Prop:=∀(c a:Expr)(b:g8)(s:Shared)(d:St)(H:Hp)(x y:V)(v u:Value)(Q:VK),Inv X b d H s->RelV x v->RelV y u->r x y H Q->subscripted a false v u=operate [v,u] (getItem v u)->wpAny (model X.prog X.w) X.A (subscriptTail c a v u) (EP X b d Q) X.xe s
def MtR(X:Cx)(id:String)(r:V->List V->Hp->VK->Prop):Prop:=∀(a:g8)(s:Shared)(c:St)(H:Hp)(x:V)(b:List V)(v:Value)(d:hE)(Q:VK),Inv X a c H s->RelV x v->Vals b d->r x b H Q->wpAny (model X.prog X.w) X.A (call (.builtin id) (v::d)) (EP X a c Q) X.xe s
def rP(p:Xl b g)(j:PE b c d)(w:PE b a e)(l:JE a):PE b (.Subscript c a f) (XO g d e):=by
 intro i s n H Q I h;exact Subscript_ (Nx j w I h λv u m x y r k o t q=>p c a i m n r x y v u Q k o t q (l _ _))
def D9(K:gy):R2:=λx y H Q=>∃p a i v,x=.ref p/\y=.int i/\ν K H p a/\aT a i=some v/\Q v H
def Kz(K:gy):R2:=λx y H Q=>∃p a i v,x=.ref p/\y=.int i/\Δ K H p a/\aT a i=some v/\Q v H
def ZZ:R2:=λx y H Q=>∃z i c,x=.str z/\y=.int i/\z.length<=sizeLine/\aT z.cps.toList i=some c/\Q (.str ⟨#[c]⟩) H
section
variable{X:Cx}
def bC:Xl X (D9 X.K):=by
 intro d g a s n H x y v u Q I G L h m;obtain⟨p,M,i,z,rfl,rfl,B,C,q⟩:=h;cases G;obtain⟨t,rfl⟩:=L;obtain⟨f,r,e,O⟩:=I.list B;obtain⟨j,c,J,N,E,A⟩:=Ag C;obtain⟨w,l,F⟩:=r.get J;have D:=r.length;have P:=qx;have b:EP X a n Q w s:=⟨z,H,I,F,q⟩;by_cases k:0<=i
 .have hj:i.toNat=j:=by
   rw[seqIndex_of k A]at c;exact bN c
  exact item_listR e.isList k (by lia) (by rw[hj];simpa using l) b m
 .have hj:(i+(f.toArray.size:Int)).toNat=j:=by
   rw[seqIndex_neg (by lia) E]at c;rw[aY,<-D];exact bN c
  exact subscriptTail_builtinR (x:=w) e.isList.typeIs slot_list_getitem.lookup
   (wpAny_getItem_list_neg (Q:=λr o=>r=w/\EP X a n Q r o) e.isList (by lia) (by rw[aY]<;>lia) (by lia) (by rw[hj];simpa using l) ⟨rfl,b⟩) m
end
section
variable{X:Cx}
def jM:Xl X (Kz X.K):=by
 intro b c a s f H x y v u Q I D F h n;obtain⟨p,J,i,z,rfl,rfl,k,l,q⟩:=h;cases D;obtain⟨t,rfl⟩:=F;obtain⟨A,r,e,N⟩:=I.tuple k;obtain⟨j,C,E,L,M,G⟩:=Ag l;obtain⟨w,m,B⟩:=r.get E;have o:=r.length;have O:=qx;have d:EP X a f Q w s:=⟨z,H,I,B,q⟩;exact subscriptTail_builtinR (x:=w) e.typeIs slot_tuple_getitem.lookup
  (getItem_tuple (j:=j) (Q:=λr g=>r=w/\EP X a f Q r g) e (by lia) (by lia) (by rw[aY,<-o];exact C) (by simpa using m) ⟨rfl,d⟩) n
end
section
variable{X:Cx}
def RY:Xl X ZZ:=by
 intro a b d s E H x y v u Q I p w h k;obtain⟨z,i,c,rfl,rfl,B,g,q⟩:=h;obtain⟨t,rfl⟩:=p;obtain⟨D,rfl⟩:=w;obtain⟨j,e,r,A,m,f⟩:=Ag g;have l:z.cps.toList.length=z.length:=by simp[Str.length]
 rw[l]at e m f;have C:=qx;exact tail_any (typeIs_str s z t) slot_str_getitem.lookup (getItem_str (c:=c) (by
  have o:decide (i < -(2^63:Int))=false:=b4 (by lia);have n:decide (i ≥ 2^63)=false:=b4 (by lia);rw[o,n,nZ]) (by rw[e];simpa using r) ⟨.str ⟨#[c]⟩,H,I.tok _,⟨_,rfl⟩,q⟩) k
end
def K3(a:hE)(n j:Nat)(u:Value):Obj.mapSeq (·.setIfInBounds j u) { cls:=.type "list",data:=.seq a.toArray n }={ cls:=.type "list",data:=.seq (a.set j u).toArray n }:=by
 simp[Obj.mapSeq]
def Inv.lst(I:Inv i c g f d)(h:f b=some (.lst a)):∃(j:hE)(n:Nat),Vals a j/\d.heap.get? b=some { cls:=.type "list",data:=.seq j.toArray n }/\a.length<=sizeLine:=by
 obtain⟨z,j,n,r,e⟩:=I.Α b _ h;exact⟨j,n,r,e,z⟩
def Inv.Yq{p o:hE}(I:Inv m c j k d)(h:k a=some (.lst n))(v:d.heap.get? a=some { cls:=.type "list",data:=.seq p.toArray l })(s:i { cls:=.type "list",data:=.seq p.toArray l }={ cls:=.type "list",data:=.seq o.toArray g })(r:Vals f o)(w:f.length<=sizeLine)(t:Nat):Inv m c j (upd k a (.lst f)) { d with heap:=d.heap.update a i,toks:=t }:=by
 have e:(d.heap.update a i).get? a=some { cls:=.type "list",data:=.seq o.toArray g }:=by
  rw[gq i v (by rw[s]<;>rfl),s]
 refine I.write (x:=a) (e:=a) (by rw[h];trivial) (.inl rfl) (λb u y q=>(eC _ _ (Ne.symm y)).trans q) ⟨_,e⟩ ?_;exact⟨w,o,g,r,e⟩
def Wq:V->V->V->Hp->(Hp->Prop)->Prop:=λo i v H Q=>∃p a k j,o=.ref p/\i=.int k/\H p=some (.lst a)/\Wo a.length k=some j/\Q (upd H p (.lst (a.set j v)))
def hW:OZ a Wq:=by
 intro c s C H o i v F J u Q I E y D h;obtain⟨p,z,k,j,rfl,rfl,w,A,q⟩:=h;cases E;obtain⟨t,rfl⟩:=y;obtain⟨b,n,r,f,B⟩:=I.lst w;obtain⟨d,K,l,m⟩:=JC A;have e:=r.length;have G:=qx;have x:Inv a c C (upd H p (.lst (z.set j v))) { s with heap:=s.heap.update p (Obj.mapSeq (·.setIfInBounds j u)) }:=I.Yq w f (K3 b n j u) (r.set D j) (by rw[bz];exact B) s.toks
 by_cases g:0<=k
 .have hk:k.toNat=j:=by
   rw[seqIndex_of g m]at d;exact bN d
  exact PySem.W.ki_setAt f g (by lia) (by rw[aY,<-e];exact m) (by rw[hk];exact⟨_,x,q⟩)
 .have hk:(k+(b.toArray.size:Int)).toNat=j:=by
   rw[seqIndex_neg (by lia) l]at d;rw[aY,<-e];exact bN d
  exact PySem.W.ki_setBack f (by lia) (by rw[aY,<-e];exact l) (by lia) (by rw[hk];exact⟨_,x,q⟩)
def Gq(lo a:Option Int)(n:Nat):(sliceBounds lo a none n).1=((HT.Ue n 0 lo:Nat):Int)/\(sliceBounds lo a none n).2.1=((HT.Ue n n a:Nat):Int)/\(sliceBounds lo a none n).2.2=1:=by
 refine⟨?_,?_,rfl⟩
 .cases lo with
  | none=>simp[sliceBounds,HT.Ue]
  | some i=>
    simp only[sliceBounds,HT.Ue,Option.getD_none,show(1:Int)>0 by decide,if_true];by_cases h:i<0
    .simp only[h,if_true]<;>lia
    .simp only[h,if_false]<;>lia
 .cases a with
  | none=>simp[sliceBounds,HT.Ue]
  | some i=>
    simp only[sliceBounds,HT.Ue,Option.getD_none,show(1:Int)>0 by decide,if_true];by_cases h:i<0
    .simp only[h,if_true]<;>lia
    .simp only[h,if_false]<;>lia
def Fo(a:hE)(lo b:Option Int):slicePick a.toArray lo b none=((a.drop (HT.Ue a.length 0 lo)).take (HT.Ue a.length a.length b-HT.Ue a.length 0 lo)).toArray:=by
 obtain⟨e,d,c⟩:=Gq lo b a.toArray.size;unfold slicePick;rw[e,d,c];simp only[sliceRange_one,pick_run,aY]<;>rfl
def KM(K:gy):V->Option Int->Option Int->Hp->VK->Prop:=λx lo c H Q=>∃a b,x=.ref a/\ν K H a b/\∀p,H p=none->Q (.ref p) (upd H p (.lst (vC b lo c)))
def rp:SlR c (KM c.K):=by
 intro i s z H x v A w lo f y Q I t k l j h;obtain⟨a,d,rfl,p,q⟩:=h;cases t;obtain⟨m,r,g,n⟩:=I.list p;have e:=r.length;refine⟨"list",_,slot_list_getitem.lookup,g.isList.typeIs,?_⟩;refine wpAny_getItem_list_slice g.isList k l j .none (by simp) ?_ (by rw[aY]<;>lia);rw[Fo,<-e];refine⟨.ref s.heap.objs.size,_,I.laid (t':=s.toks) (o:=.lst (vC d lo f)) (λb u q=>aI _ q) (aU _) ?_,rfl,q _ (I.Α.fresh (aU _))⟩;exact⟨aV (IC d lo f) n,_,0,(r.drop (HT.Ue d.length 0 lo)).take (HT.Ue d.length d.length f-HT.Ue d.length 0 lo),bd _ rfl⟩
def sN:V->Bool
 | .ο=>true
 | .bl _=>true
 | .int _=>true
 | .str _=>true
 | _=>false
def W0:V->V->Bool
 | .ο,.ο=>true
 | .bl a,.bl b=>a==b
 | .bl a,.int b=>(if a then 1 else 0)==b
 | .int a,.bl b=>a==(if b then 1 else 0)
 | .int a,.int b=>a==b
 | .str a,.str b=>a==b
 | _,_=>false
def SN(k:RelV d f)(i:RelV c e)(m:sN d=true)(l:sN c=true):SeqAt.EqAt h g f e (W0 d c):=by
 cases d with
 | ο=>
   cases k;cases c with
   | ο=>cases i;exact SeqAt.EqAt.same _
   | bl b=>cases i;exact SeqAt.EqAt.none_bool b
   | int b=>obtain⟨t,rfl⟩:=i;exact SeqAt.EqAt.none_int b t
   | str b=>obtain⟨t,rfl⟩:=i;exact SeqAt.EqAt.none_str b t
   | _=>exact absurd (show false=true from l) bq
 | bl a=>
   cases k;cases c with
   | ο=>cases i;exact SeqAt.EqAt.bool_none a
   | bl b=>cases i;exact SeqAt.EqAt.bool_bool a b
   | int b=>obtain⟨t,rfl⟩:=i;exact SeqAt.EqAt.bool_int a b t
   | str b=>obtain⟨t,rfl⟩:=i;exact SeqAt.EqAt.bool_str a b t
   | _=>exact absurd (show false=true from l) bq
 | int a=>
   obtain⟨j,rfl⟩:=k;cases c with
   | ο=>cases i;exact SeqAt.EqAt.int_none a j
   | bl b=>cases i;exact SeqAt.EqAt.int_bool a j b
   | int b=>obtain⟨t,rfl⟩:=i;exact SeqAt.EqAt.int_int a j b t
   | str b=>obtain⟨t,rfl⟩:=i;exact SeqAt.EqAt.int_str a j b t
   | _=>exact absurd (show false=true from l) bq
 | str a=>
   obtain⟨j,rfl⟩:=k;cases c with
   | ο=>cases i;exact SeqAt.EqAt.str_none a j
   | bl b=>cases i;exact SeqAt.EqAt.str_bool a j b
   | int b=>obtain⟨t,rfl⟩:=i;exact SeqAt.EqAt.str_int a j b t
   | str b=>obtain⟨t,rfl⟩:=i;exact SeqAt.EqAt.str_str a j b t
   | _=>exact absurd (show false=true from l) bq
 | _=>exact absurd (show false=true from m) bq
def Vm(x:V)(u:Value):Bool:=match u with
 | .none=>W0 .ο x
 | .bool b=>W0 (.bl b) x
 | .int i _=>W0 (.int i) x
 | .str z _=>W0 (.str z) x
 | _=>false
def Mj(r:RelV a d)(f:sN a=true):Vm c d=W0 a c:=by
 cases a with
 | ο=>cases r;rfl
 | bl b=>cases r;rfl
 | int i=>obtain⟨t,rfl⟩:=r;rfl
 | str z=>obtain⟨t,rfl⟩:=r;rfl
 | _=>exact absurd (show false=true from f) bq
theorem wp :∀{b:List V}{c:hE},Vals b c->b.all sN=true->c.any (Vm a)=b.any λy=>W0 y a
 | _,_,.nil,_=>rfl
 | y::b,u::c,.cons r t,f=>by
   rw[List.all_cons,bB]at f;rw[jw,jw,Mj r f.1,wp t f.2]
theorem uA(h:RelV a b)(i:sN a=true):∀{e:List V}{g:hE},Vals e g->e.all sN=true->∀u∈g,SeqAt.EqAt d c u b (Vm a u)
 | _,_,.nil,_=>λu hu=>by cases hu
 | y::e,u::g,.cons r t,f=>λj hu=>by
   rw[List.all_cons,bB]at f;rcases aA.mp hu with rfl|hu
   .rw[Mj r f.1];exact SN r h f.1 i
   .exact uA h i t f.2 j hu
def Zh(x:V)(a:List V):Bool:=a.any λy=>W0 y x
def rIn(K:gy)(b:Bool):R2:=λx y H Q=>∃p a,y=.ref p/\(ν K H p a\/Δ K H p a)/\sN x=true/\a.all sN=true/\Q (.bl (if b then !Zh x a else Zh x a)) H
def LM:ϸ a (compareOp .In) (rIn a.K false):=by
 intro e s j H x y v u Q I f g h;obtain⟨p,i,rfl,hq,d,b,q⟩:=h;cases g;rcases hq with hq|hq
 .obtain⟨its,r,pl,hz⟩:=I.list hq;refine SeqAt.in_listAt (Vm x) pl.isList (λw c=>uA f d r b w (by simpa using c)) ⟨.bl _,H,I,rfl,?_⟩;rw[show its.toArray.any (Vm x)=its.any (Vm x) by simp,wp r b];exact q
 .obtain⟨its,r,pl,hz⟩:=I.tuple hq;refine SeqAt.in_tupleAt (Vm x) pl (λw c=>uA f d r b w (by simpa using c)) ⟨.bl _,H,I,rfl,?_⟩;rw[show its.toArray.any (Vm x)=its.any (Vm x) by simp,wp r b];exact q
def HM:ϸ a (compareOp .NotIn) (rIn a.K true):=by
 intro e s j H x y v u Q I f g h;obtain⟨p,i,rfl,hq,d,b,q⟩:=h;cases g;rcases hq with hq|hq
 .obtain⟨its,r,pl,hz⟩:=I.list hq;refine SeqAt.notIn_listAt (Vm x) pl.isList (λw c=>uA f d r b w (by simpa using c)) ⟨.bl _,H,I,rfl,?_⟩;rw[show its.toArray.any (Vm x)=its.any (Vm x) by simp,wp r b];exact q
 .obtain⟨its,r,pl,hz⟩:=I.tuple hq;refine SeqAt.notIn_tupleAt (Vm x) pl (λw c=>uA f d r b w (by simpa using c)) ⟨.bl _,H,I,rfl,?_⟩;rw[show its.toArray.any (Vm x)=its.any (Vm x) by simp,wp r b];exact q
def fq:lS a (.builtin "len") (λe H Q=>∃p c,e=[.ref p]/\(ν a.K H p c\/Δ a.K H p c)/\Q (.int c.length) H):=by
 intro d s i H e j Q I r h;obtain⟨p,c,rfl,hq,q⟩:=h;obtain⟨u,rfl,f⟩:=oE r;cases f;have g:=qx;rcases hq with hq|hq
 .obtain⟨its,r',pl,hz⟩:=I.list hq;have b:=r'.length;exact Calls.call_len_list pl.isList (by simp only[aY]<;>lia) ⟨.int c.length,H,I.tok _,⟨s.toks+1,by rw[aY,b]⟩,q⟩
 .obtain⟨its,r',pl,hz⟩:=I.tuple hq;have b:=r'.length;exact len_tuple pl (by simp only[aY]<;>lia) ⟨.int c.length,H,I.tok _,⟨s.toks+1,by rw[aY,b]⟩,q⟩
def Ga:lS a (.builtin "len") (λb H Q=>∃z,b=[.str z]/\z.length<=sizeLine/\Q (.int z.length) H):=by
 intro c s d H b e Q I r h;obtain⟨z,rfl,g,q⟩:=h;obtain⟨u,rfl,t,rfl⟩:=oE r;have f:=qx;exact len_str (by lia) ⟨.int z.length,H,I.tok _,⟨_,rfl⟩,q⟩
def oX:lS a (.type "list") (λA H Q=>∃p f,A=[.ref p]/\(ν a.K H p f\/Δ a.K H p f)/\∀l,H l=none->Q (.ref l) (upd H l (.lst f))):=by
 intro t s C H A E Q I r h;obtain⟨p,f,rfl,hq,q⟩:=h;obtain⟨u,rfl,D⟩:=oE r;cases D;have v:∀(c:hE),Vals f c->f.length<=sizeLine->∀(d:Heap)(g:Nat),(∀b B,s.heap.get? b=some B->d.get? b=some B)->d.get? s.heap.objs.size=some { cls:=.type "list",dict:=none,data:=.seq c.toArray g,slots:=#[] }->EP a t C Q (.ref s.heap.objs.size) { s with heap:=d }:=λc i m d g j e=>
  ⟨.ref s.heap.objs.size,_,I.laid (t':=s.toks) j (aU _) (show Φ a.prog a.w _ d _ (.lst f)from⟨m,c,g,i,e⟩),rfl,q _ (I.Α.fresh (aU _))⟩
 rcases hq with hq|hq
 .obtain⟨c,i,pl,m⟩:=I.list hq;have k:=i.length;obtain⟨o,z,y,n,x⟩:=pl.isList;exact call_list_seq p (.inl rfl) z y x (λd g j e=>v c i m d g j e) (by simp only[aY]<;>lia)
 .obtain⟨c,i,pl,m⟩:=I.tuple hq;have k:=i.length;obtain⟨o,z,y,n,x⟩:=pl;exact call_list_seq p (.inr rfl) z y x (λd g j e=>v c i m d g j e) (by simp only[aY]<;>lia)
def iI:lS a (.type "tuple") (λg H Q=>∃p d,g=[.ref p]/\((ν a.K H p d/\∀l,H l=none->Q (.ref l) (upd H l (.tup d)))\/(Δ a.K H p d/\Q (.ref p) H))):=by
 intro c s k H g v Q I r h;obtain⟨p,d,rfl,h⟩:=h;obtain⟨u,rfl,t⟩:=oE r;cases t;rcases h with⟨hq,q⟩|⟨hq,q⟩
 .obtain⟨its,r',pl,hz⟩:=I.list hq;have i:=r'.length;refine call_tuple_list pl.isList (λf m=>?_) (by simp only[aY]<;>lia);have j:Inv a c k H { s with heap:=f }:=I.kept (t':=s.toks) m;have n:Inv a c k (upd H f.objs.size (.tup d)) { s with heap:=f.push { cls:=.type "tuple",data:=.seq its.toArray } }:=j.laid (t':=s.toks) (λb o e=>aI _ e) (aU _) (show Φ a.prog a.w _ _ _ (.tup d)from⟨hz,its,r',IsTup.new _ _⟩)
  exact⟨.ref f.objs.size,_,n,rfl,q _ (j.Α.fresh (aU _))⟩
 .obtain⟨its,r',pl,hz⟩:=I.tuple hq;exact call_tuple_same pl ⟨.ref p,H,I,rfl,q⟩
def Uo(K:gy)(T:String)(x:V)(H:Hp):Prop:=match x with
 | .str _=>T="str"
 | .int _=>T="int"
 | .ref p=>(T="list"/\∃b,ν K H p b)\/(T="tuple"/\∃o,K.lookup p=some o/\o.cls=.type "tuple"/\o.dict=none)\/(T="dict"/\((∃a,H p=some (.dK a))\/∃a,H p=some (.dT a)))\/(T="set"/\∃S n,H p=some (.set S n))
 | _=>False
def LK(I:Inv k h l j b)(r:RelV f g)(q:Uo k.K d f j):b.TypeIs g d/\∀a,g=.ref a->∃v,b.heap.get? a=some v/\v.dict=none:=by
 cases f with
 | str z=>
   obtain⟨t,rfl⟩:=r;cases(show d="str" from q);exact⟨typeIs_str b z t,λ_ e=>nomatch e⟩
 | int i=>
   obtain⟨t,rfl⟩:=r;cases(show d="int" from q);exact⟨typeIs_int b i t,λ_ e=>nomatch e⟩
 | ref p=>
   cases r;rcases q with⟨rfl,xs,hq⟩|⟨rfl,o,hk,hc,u⟩|⟨rfl,hk⟩|⟨rfl,S,n,hk⟩
   .obtain⟨its,_,pl,_⟩:=I.list hq;refine⟨pl.isList.typeIs,λa e=>?_⟩;cases e;obtain⟨o,n,e,c,u,_⟩:=pl;exact⟨o,e,u⟩
   .refine⟨⟨o,I.Uz p o hk,hc⟩,λa e=>?_⟩;cases e;exact⟨o,I.Uz _ o hk,u⟩
   .have z:∃o,b.heap.get? p=some o/\o.ExactDict:=by
     rcases hk with⟨π,hk⟩|⟨π,hk⟩
     .obtain⟨_,_,_,_,o,_,_,e,m,_⟩:=I.Α p _ hk;exact⟨o,e,m⟩
     .obtain⟨_,_,_,_,o,_,_,e,m,_⟩:=I.Α p _ hk;exact⟨o,e,m⟩
    obtain⟨o,e,m⟩:=z;refine⟨⟨o,e,m.1⟩,λa s=>?_⟩;cases s;exact⟨o,e,m.2.1⟩
   .obtain⟨o,_,_,_,e,m,_⟩:=I.Α p _ hk;refine⟨⟨o,e,m.1⟩,λa s=>?_⟩;cases s;exact⟨o,e,m.2.1⟩
 | _=>exact False.elim q
def SL(K:gy)(T:String)(r:V->List V->Hp->VK->Prop)(c:TE):TE:=λb H Q=>c b H λx a=>Uo K T x a/\r x [] a Q
def tBM(K:gy)(T:String)(r:V->List V->Hp->VK->Prop)(e:TE)(t:TA):TE:=λa H Q=>e a H λx b=>Uo K T x b/\t a b λc d=>r x c d Q
def Gj{X:Cx}{o:Expr}{l:TE}{a:Str}{b:Pos}{k:Pos}{T:String}{id:String}{r:V->List V->Hp->VK->Prop}(y:PlainAttrs T)(e:Slot T a id)(f:typeOf (.builtin id)=pure (.type "method_descriptor"))(n:MtR X id r)(w:PE X o l)(t:attributeBase o a X.env (eval o X.env)=eval o X.env:=by rfl)(d:(b.endLine==k.line)=true:=by rfl):PE X (.Call (.Attribute o a b) [] [] k) (SL X.K T r l):=by
 intro c s j H Q I h;refine wpAny_Call_method0_late t d (eA (w c s j H _ I h) λv A x p i g ⟨m,q⟩=>?_);obtain⟨u,z⟩:=LK i g m;exact⟨T,id,y,e,f,u,z,jD rfl (PySem.evalArgs_none (n c A j p x [] v [] Q i g .nil q))⟩
def kX{X:Cx}{o:Expr}{e:Expr}{d:List Expr}{p:TE}{t:TA}{b:Str}{c:Pos}{g:Pos}{T:String}{id:String}{r:V->List V->Hp->VK->Prop}(P:PlainAttrs T)(i:Slot T b id)(j:typeOf (.builtin id)=pure (.type "method_descriptor"))(C:MtR X id r)(O:PE X o p)(y:PA X (e::d) t)(J:attributeBase o b X.env (eval o X.env)=eval o X.env:=by rfl)(q:((backTo g (starEach (e::d) X.env)).all (λx=>!x.1)&&(backToKw g (keywordEach [] X.env)).all (λx=>x.1.isSome)
 && decide ((e::d).length+([]:List Keyword).length+(if([]:List Keyword).isEmpty then 0 else 1)<30))=true:=by rfl)(f:(c.endLine==g.line)=true:=by rfl)(E:starEach (e::d) X.env=(false,eval e X.env)::starEach d X.env:=by rfl)(w:(backTo g (starEach d X.env)).any (·.1)=false:=by rfl):PE X (.Call (.Attribute o b c) (e::d) [] g) (tBM X.K T r p t):=by
 intro a s k H Q I h;refine wpAny_Call_method_late J q f rfl (eA (O a s k H _ I h) λv U x F n l ⟨u,G⟩=>?_);obtain⟨M,S⟩:=LK n l u;refine⟨T,id,P,i,j,M,S,?_⟩;have m:=y g a U k F _ n G;rw[E]at m ⊢;refine jD (by show(false||(backTo g (starEach d X.env)).any (·.1))=false;rw[w]<;>rfl) (j4 ?_);exact ϙ m λD L ⟨N,R,A,z,B⟩=>C a L k R x N v D Q A l z B
def Yt(X:Cx)(id:String)(r:V->List V->Hp->VK->Prop):Prop:=∀(a:g8)(s:Shared)(c:St)(H:Hp)(x:V)(b:List V)(v:Value)(d:hE)(Q:VK),Inv X a c H s->RelV x v->Vals b d->r x b H Q->wpAny (model X.prog X.w) X.A (call (.builtin id) (v::d)) (EP X a c Q) X.xe s
def Vals.one(h:Vals [b] a):∃u,a=[u]/\RelV b u:=by
 cases h with
 | cons r t=>cases t;exact⟨_,rfl,r⟩
def Vals.two(h:Vals [b,c] a):∃u v,a=[u,v]/\RelV b u/\RelV c v:=by
 cases h with
 | cons r t=>
   obtain⟨v,e,q⟩:=Vals.one t;subst e;exact⟨_,v,rfl,r,q⟩
def Vals.zero:∀{a:hE},Vals [] a->a=[]
 | _,.nil=>rfl
def Vals.dropLast(h:Vals b a):Vals b.dropLast a.dropLast:=by
 induction h with
 | nil=>exact .nil
 | cons r t ih=>
   cases t with
   | nil=>exact .nil
   | cons q t'=>exact .cons r ih
theorem Vals.rep(h:Vals b a):∀k:Nat,Vals (List.replicate k b).flatten (List.replicate k a).flatten
 | 0=>.nil
 | k+1=>by
   rw[cS,cS,gD,gD];exact Vals.append h (Vals.rep h k)
def K9(l:List c):l.eraseIdx (l.length-1)=l.dropLast:=by
 induction l with
 | nil=>rfl
 | cons a r ih=>
   cases r with
   | nil=>rfl
   | cons b r=>
     have e:(a::b::r).length-1=((b::r).length-1)+1:=by
      have f:(a::b::r).length=r.length+2:=rfl;have d:(b::r).length=r.length+1:=rfl
      lia
     rw[e,List.eraseIdx_cons_succ,ih]
     all_goals rfl
theorem EE(b:hE):∀(k:Nat)(a:hE),List.foldl (λf d=>f++d) a.toArray (List.replicate k b.toArray)=(a++(List.replicate k b).flatten).toArray
 | 0,a=>by simp
 | k+1,a=>by
   have e:a.toArray++b.toArray=(a++b).toArray:=by simp
   have c:(a++b)++(List.replicate k b).flatten=a++(List.replicate (k+1) b).flatten:=by
    rw[cS,gD,bO]
   rw[<-c,<-EE b k (a++b),<-e,cS,gZ]
def Inv.Yu{l its':hE}{f:Array Value->Array Value}{m:Nat}(I:Inv i b g h c)(n:h a=some (.lst j))(e:c.heap.get? a=some { cls:=.type "list",data:=.seq l.toArray k })(p:f l.toArray=its'.toArray)(r:Vals d its')(o:d.length<=sizeLine):Inv i b g (upd h a (.lst d)) { c with heap:=c.heap.update a (Obj.mapSeq f),toks:=m }:=by
 have q:=PySem.IsL.update e f;rw[p]at q;refine I.write (x:=a) (e:=a) (by rw[n];exact trivial) (.inl rfl) (λv u t s=>(eC c.heap (Obj.mapSeq f) (Ne.symm t)).trans s) ⟨_,q⟩ ?_;exact⟨o,its',_,r,q⟩
def Inv.Z0{t':Nat}(I:Inv g b e f d)(h:Vals c a)(i:c.length<=sizeLine):Inv g b e (upd f d.heap.objs.size (.lst c)) { d with heap:=d.heap.push { cls:=.type "list",data:=.seq a.toArray },toks:=t' }:=I.laid (λ_ _ q=>aI _ q) (aU _) ⟨i,a,0,h,bd _ rfl⟩
def Inv.fresh(I:Inv e a d b c):b c.heap.objs.size=none:=I.Α.fresh (aU _)
def Inv.Vn(I:Inv h c g f d)(j:f b=some (.lst a)):a.length<=sizeLine/\∃(i:hE)(n:Nat),Vals a i/\a.length=i.length/\d.heap.get? b=some { cls:=.type "list",data:=.seq i.toArray n }:=by
 obtain⟨z,i,n,r,e⟩:=I.Α b _ j;exact⟨z,i,n,r,r.length,e⟩
def ON{n:Nat}(h:n<=sizeLine):Builtin.List.listTooLong n=false:=by
 unfold Builtin.List.listTooLong;exact b4 (by lia)
def TU:V->List V->Hp->VK->Prop:=λx b H Q=>∃l a y,x=.ref l/\b=[y]/\H l=some (.lst a)/\a.length<sizeLine/\Q .ο (upd H l (.lst (a++[y])))
def y9:Yt a "list.append" TU:=by
 intro d s t H x p v k Q I i g h;obtain⟨l,j,y,rfl,rfl,c,o,q⟩:=h;cases i;obtain⟨u,rfl,f⟩:=g.one;obtain⟨z,b,n,r,m,e⟩:=I.Vn c;refine call_meets F.slot_list_append ⟨_,e,rfl⟩ F.entry_list_append (F.args_list_append_2 _ _) (PySem.list_append l b.toArray n u (by rw[aY];lia)) ⟨e,?_⟩;refine⟨.ο,_,I.Yu (its':=b++[u]) c e (by simp) (r.append (.cons f .nil)) ?_,rfl,q⟩;rw[ay,eD]
 lia
def Z1:V->List V->Hp->VK->Prop:=λx b H Q=>∃l a y,x=.ref l/\b=[]/\H l=some (.lst a)/\a[a.length-1]?=some y/\Q y (upd H l (.lst a.dropLast))
def Gb:Yt a "list.pop" Z1:=by
 intro g s B H x A v w Q I o m h;obtain⟨l,t,y,rfl,rfl,f,j,q⟩:=h;cases o;have d:=m.zero;subst d;obtain⟨z,b,n,r,k,e⟩:=I.Vn f;obtain⟨u,p,i⟩:=r.get j;have c:b.toArray[b.toArray.size-1]?=some u:=by
  show b.toArray[b.length-1]?=some u;rw[<-fP,<-k];exact p
 refine call_meets F.slot_list_pop ⟨_,e,rfl⟩ F.entry_list_pop (F.args_list_pop_1 _) (MeetsSeq.list_pop_last l b.toArray n u c (by rw[aY];lia)) ⟨e,?_⟩;refine⟨y,_,I.Yu (its':=b.dropLast) f e ?_ r.dropLast ?_,i,q⟩
 .show b.toArray.eraseIdxIfInBounds (b.toArray.size-1)=b.dropLast.toArray;rw[aY,List.eraseIdxIfInBounds_toArray,K9]
 .rw[List.length_dropLast]
  lia
def Yv:R2:=λx y H Q=>∃l b a c,x=.ref l/\y=.ref b/\H l=some (.lst a)/\H b=some (.lst c)/\a.length+c.length<=sizeLine/\∀p,H p=none->Q (.ref p) (upd H p (.lst (a++c)))
def wD:ϸ a (binaryOp .Add) Yv:=by
 intro d s F H x y v u Q I p t h;obtain⟨l,b,A,B,rfl,rfl,j,k,E,q⟩:=h;cases p;cases t;obtain⟨z,c,n,r,C,e⟩:=I.Vn j;obtain⟨D,f,w,i,m,o⟩:=I.Vn k;refine PySem.P.add_list e o ?_ (by rw[aY,aY];lia);have g:c.toArray++f.toArray=(c++f).toArray:=by simp
 rw[g];exact⟨.ref _,_,I.Z0 (t':=s.toks) (r.append i) (by rw[ay];lia),rfl,q _ I.fresh⟩
def Z3:R2:=λx y H Q=>∃l k a,x=.ref l/\y=.int k/\H l=some (.lst a)/\-(2^63)<=k/\k<2^63/\a.length*k.toNat<=sizeLine/\∀p,H p=none->Q (.ref p) (upd H p (.lst (List.replicate k.toNat a).flatten))
def Qe(b:List a)(k:Nat):(List.replicate k b).flatten.length=k*b.length:=by
 induction k with
 | zero=>simp
 | succ k ih=>rw[cS,gD,ay,ih,Nat.succ_mul,Nat.add_comm]
def pN:ϸ b (binaryOp .Mult) Z3:=by
 intro w s N H x y v u Q I G L h;obtain⟨l,k,M,rfl,rfl,B,E,K,p,q⟩:=h;cases G;obtain⟨t,rfl⟩:=L;obtain⟨z,c,n,r,C,e⟩:=I.Vn B;have d:c.toArray.size*k.toNat<=sizeLine:=by rw[aY,<-C];exact p
 have f:¬c.toArray.size*k.toNat>(2^63-1)/8:=by
  have:(sizeLine:Nat)<=(2^63-1)/8:=by decide
  lia
 have i:¬(!Builtin.List.listFitsIndex k)=true:=by
  rw[fitsIndex_both E K];exact bq
 have J:¬Builtin.List.listTooLong (c.toArray.size*k.toNat)=true:=by
  rw[ON d];exact bq
 have g:List.foldl (λo j=>o++j) #[] (List.replicate (if c.toArray.isEmpty=true then 0 else k.toNat) c.toArray)=(List.replicate k.toNat c).flatten.toArray:=by
  have D:∀m:Nat,List.foldl (λo j=>o++j) #[] (List.replicate m c.toArray)=(List.replicate m c).flatten.toArray:=λm=>by
   have:=EE c m [];rw[mj]at this;exact this
  rw[D];cases c with
  | nil=>simp
  | cons a r'=>rw[ah (by simp)]
 refine wpAny_binaryOp_repeat_ref (T:="list") (U:="int") (by decide) ⟨_,e,rfl⟩ (λA=>typeIs_int A k t) noFill_list_mul F.fills_int_mul F.slot_int_rmul repeat_list F.slot_int_index.lookup
  (call_meets F.slot_int_rmul (typeIs_int s k t) F.entry_int_rmul (F.args_int_rmul_2 _ _) (int___rmul___int_list k t l c.toArray n)
   ⟨e,rfl,⟨_,e,rfl⟩,call_meets F.slot_list_mul ⟨_,e,rfl⟩ F.entry_list_mul (F.args_list_mul_2 _ _) (AutoListH.list___mul___list_int_3 l c.toArray n k t i f J) ⟨e,?_⟩⟩)
 rw[g];exact⟨.ref _,_,I.Z0 (t':=s.toks) (r.rep k.toNat) (by rw[Qe,Nat.mul_comm];exact p),rfl,q _ I.fresh⟩
section
variable{a:Type}[DecidableEq a]
def og(b:List (a×V))(k:a):Option V:=(b.find? λc=>decide (c.1=k)).map (·.2)
def nW(c:List (a×V))(k:a)(v:V):List (a×V):=if(c.any λb=>decide (b.1=k))=true then c.map (λb=>if b.1=k then(b.1,v)else b)else c++[(k,v)]
def xA{p:a×V}{r:List (a×V)}{k:a}(e:p.1=k):og (p::r) k=some p.2:=by simp[og,fI,e]
def xU{p:a×V}{r:List (a×V)}{k:a}(e:¬p.1=k):og (p::r) k=og r k:=by simp[og,fI,e]
theorem Bf(k:a):∀b:List (a×V),(b.any λc=>decide (c.1=k))=(og b k).isSome
 | []=>rfl
 | p::r=>by
   rw[jw];by_cases e:p.1=k
   .simp only[xA e,bD e,Bool.true_or,Option.isSome_some]
   .rw[xU e,b4 e,nY];exact Bf k r
def vV(b:List (a×V))(k:a)(v:V):(nW b k v).length<=b.length+1:=by
 unfold nW;split
 .rw[aa];lia
 .rw[ay,aR,eL];lia
def Nn{b:List (a×V)}{k:a}(v:V)(h:og b k=none):nW b k v=b++[(k,v)]:=by
 unfold nW;rw[Bf,h];exact ah (by decide)
def aC.ϴ(r:aC c b):c.isSome=b.isSome:=by
 cases c with
 | none=>cases b with
   | none=>rfl
   | some _=>exact(show False from r).elim
 | some _=>cases b with
   | none=>exact(show False from r).elim
   | some _=>rfl
def KV.val{d:List (a×V)}{c:List (a×Value)}(r:KV d c)(k:a):aC (og d k) (valueAt c k):=by
 unfold KV at r
 induction r with
 | nil=>exact True.intro
 | @cons p q ps qs h t ih=>
   obtain⟨f,g⟩:=h;by_cases e:p.1=k
   .have e':q.1=k:=f.symm.trans e;have b:valueAt (q::qs) k=some q.2:=(by simp[valueAt,fI,e']);rw[xA e,b];exact g
   .have e':¬q.1=k:=λz=>e (f.trans z);have b:valueAt (q::qs) k=valueAt qs k:=(by simp[valueAt,fI,e']);rw[xU e,b];exact ih
def KV.any(r:KV b c)(k:a):(b.any λd=>decide (d.1=k))=c.any λd=>decide (d.1=k):=by
 unfold KV at r
 induction r with
 | nil=>rfl
 | cons h t ih=>rw[jw,jw,ih,h.1]
def KV.repl(r:KV b c)(k:a)(l:RelV d f):KV (b.map λg=>if g.1=k then(g.1,d)else g) (c.map λg=>if g.1=k then(g.1,f)else g):=by
 unfold KV at r ⊢
 induction r with
 | nil=>exact .nil
 | @cons p q ps qs h t ih=>
   rw[aF,aF];refine .cons ?_ ih;obtain⟨i,j⟩:=h;by_cases e:p.1=k
   .rw[aj e,aj (i.symm.trans e)];exact⟨i,l⟩
   .rw[ah e,ah (λz=>e (i.trans z))];exact⟨i,j⟩
def KV.put(r:KV c b)(k:a)(g:RelV d f):KV (nW c k d) (stored b k f):=by
 unfold nW stored;rw[r.any k];by_cases e:(b.any λh=>decide (h.1=k))=true
 .rw[aj e,aj e];exact r.repl k g
 .rw[ah e,ah e];exact Paired.snoc r ⟨rfl,g⟩
def KV.length(r:KV b c):b.length=c.length:=Paired.length r
end
def zN(r:RelV (kV k) a):(iC b c).is k a=true:=by
 cases k with
 | inl i=>obtain⟨t,e⟩:=(show ∃t,a=Value.int i t from r);subst e;exact Iu b c i t
 | inr x=>obtain⟨t,e⟩:=(show ∃t,a=Value.str x t from r);subst e;exact vf b c x t
theorem EA :∀{c:List Key}{d:hE},Vals (c.map kV) d->ItemsAre (iC a b) c d
 | [],_,r=>by rw[dB]at r;cases r;exact .nil
 | k::c,_,r=>by
   rw[aF]at r;cases r with
   | cons h t=>exact .cons (zN h) (EA t)
abbrev KT(H:Hp):List (List Key×V)->List (List Key×Addr×Value)->Prop:=Paired λp q=>p.1=q.1/\H q.2.1=some (.tup (p.1.map kV))/\RelV p.2 q.2.2
def KT.val{H:Hp}{c:List (List Key×V)}{a:List (List Key×Addr×Value)}(r:KT H c a)(k:List Key):aC (og c k) ((atKey a k).map (·.2)):=by
 induction r with
 | nil=>exact True.intro
 | @cons p q ps qs h t ih=>
   obtain⟨d,_,f⟩:=h;by_cases e:p.1=k
   .have e':q.1=k:=d.symm.trans e;have b:atKey (q::qs) k=some q.2:=(by simp[atKey,fI,e']);rw[xA e,b];exact f
   .have e':¬q.1=k:=λz=>e (d.trans z);have b:atKey (q::qs) k=atKey qs k:=(by simp[atKey,fI,e']);rw[xU e,b];exact ih
def KT.repl(r:KT d a b)(k:List Key)(m:RelV c f):KT d (a.map λi=>if i.1=k then(i.1,c)else i) (b.map (putAt k f)):=by
 induction r with
 | nil=>exact .nil
 | @cons p q ps qs h t ih=>
   rw[aF,aF];refine .cons ?_ ih;obtain⟨g,j,l⟩:=h;unfold putAt;by_cases e:p.1=k
   .rw[aj e,aj (g.symm.trans e)];exact⟨g,j,m⟩
   .rw[ah e,ah (λz=>e (g.trans z))];exact⟨g,j,l⟩
def KT.put(r:KT c b a)(k:List Key)(j:c d=some (.tup (k.map kV)))(h:RelV f g):KT c (nW b k f) (storedH a k d g):=by
 have e:(b.any λi=>decide (i.1=k))=(atKey a k).isSome:=by
  rw[Bf,(r.val k).ϴ,Option.isSome_map]
 unfold nW storedH;rw[e];by_cases q:(atKey a k).isSome=true
 .rw[aj q,aj q];exact r.repl k h
 .rw[ah q,ah q];exact Paired.snoc r ⟨rfl,j,h⟩
def KT.keeps{f:Hp}(r:KT d a c)(g:∀b e,d b=some (.tup e)->f b=some (.tup e)):KT f a c:=Paired.Xg r λ_ _ z=>⟨z.1,g _ _ z.2.1,z.2.2⟩
def PN(ok:ϱ b f a d)(e:Rd a c g):Φ b f a d c g:=e.ok ok
def KN(i:ϱ c f g d)(e:Rd g b (.dK a)):a.length<=sizeLine/\(b==sysModules)=false/\∃h,KV a h/\d.DictOf (iC c f) b h:=show Φ c f g d b (.dK a)from PN i e
def P5(i:ϱ c f g d)(e:g b=some (.dK a)):a.length<=sizeLine/\(b==sysModules)=false/\∃h,KV a h/\d.DictOf (iC c f) b h:=KN i (.inl e)
def He{h:List Key}(l:ϱ b d f c)(e:f a=some (.tup (h.map kV))):(tupleKind (iC b d)).is c h a:=by
 obtain⟨_,g,r,o,k,j,n,i⟩:=(show Φ b d f c a (.tup (h.map kV))from l a _ e);exact⟨o,g.toArray,n,k,j,i,by simpa using EA r⟩
def PP(j:ϱ g f b d)(e:Rd b c (.dT a)):a.length<=sizeLine/\(c==sysModules)=false/\∃h,KT b a h/\d.DictOfH (tupleKind (iC g f)) c h:=by
 obtain⟨z,y,h,r,o,w,k,v,A,s,u,n⟩:=(show Φ g f b d c (.dT a)from PN j e);refine⟨z,y,h,r,o,w,k,v,A,s,u,λx hx=>?_,n⟩;have i:∀{l:List (List Key×V)}{m:List (List Key×Addr×Value)},KT b l m->∀x∈m,(tupleKind (iC g f)).is d x.1 x.2.1:=by
  intro l m q
  induction q with
  | nil=>intro x hx;exact nomatch hx
  | @cons p q ps qs hq t ih=>
    intro x hx;rcases aA.mp hx with e|hx
    .subst e;exact He j (by rw[<-hq.1];exact hq.2.1)
    .exact ih x hx
 exact i r x hx
def S5(i:ϱ d g c f)(e:c b=some (.dT a)):a.length<=sizeLine/\(b==sysModules)=false/\∃h,KT c a h/\f.DictOfH (tupleKind (iC d g)) b h:=PP i (.inl e)
def Wr(H:Hp)(a:Addr)(y:V)(r:Option V):Prop:=(∃c k,Rd H a (.dK c)/\y=kV k/\r=og c k)\/∃c k b,Rd H a (.dT c)/\y=.ref b/\H b=some (.tup (k.map kV))/\r=og c k
def Ws(H:Hp)(a:Addr)(y v:V)(d:Hp):Prop:=(∃c k,H a=some (.dK c)/\y=kV k/\c.length<sizeLine/\d=upd H a (.dK (nW c k v)))\/∃c k b,H a=some (.dT c)/\y=.ref b/\H b=some (.tup (k.map kV))/\c.length<sizeLine/\d=upd H a (.dT (nW c k v))
def Wr.k{H:Hp}{a:Addr}{b:List (Key×V)}{k:Key}(e:H a=some (.dK b)):Wr H a (kV k) (og b k):=.inl ⟨b,k,.inl e,rfl,rfl⟩
def Ws.k{H:Hp}{a:Addr}{b:List (Key×V)}{k:Key}{v:V}(e:H a=some (.dK b))(c:b.length<sizeLine):Ws H a (kV k) v (upd H a (.dK (nW b k v))):=.inl ⟨b,k,e,rfl,c,rfl⟩
def Inv.big(I:Inv e b c d a):sysModules<a.heap.objs.size:=by
 have h:mainGlobals<a.heap.objs.size:=(I.mod.glob.keeps I.bk).lt;exact Nat.lt_trans (by decide) h
def QO{A:Around}{Q:fz}(x:A.units+1<cLine)(I:Inv c a d f o)(g:Wr f j m n)(v:RelV m i)(h:∀u,Inv c a d f u->Q (.bool (!n.isSome)) u):wpAny (model c.prog c.w) A (compareOp .NotIn i (.ref j)) Q p o:=by
 rcases g with⟨π,k,e,ey,l⟩|⟨π,k,b,e,ey,eb,l⟩
 .subst ey;obtain⟨z,s,y,r,t⟩:=KN I.Α e;refine wpAny_notIn_of (zN v) s t.mapOf ?_;rw[<-(r.val k).ϴ,<-l];exact h _ (I.tok _)
 .subst ey;cases(show i=Value.ref b from v);obtain⟨z,s,B,r,t⟩:=PP I.Α e;refine wpAny_notIn_heap (tupleKind_room_in1 x) (He I.Α eb) s t ?_;have q:=(r.val k).ϴ;rw[Option.isSome_map]at q;rw[<-q,<-l];exact h _ (I.tok _)
def DX{m:Nat}(I:Inv h d j g i)(l:ZJ (g a))(n:Heap.SameBut a i.heap c)(o:∃q,c.get? a=some q)(k:Φ h.prog h.w (upd g a f) c a f):Inv h d j (upd g a f) { i with heap:=c,toks:=m }:=I.write (x:=a) (e:=a) l (.inl rfl) (λb q p z=>(n.2 b p).trans z) o k
def LR{h:Heap}{g:List (Key×V)}(z:g.length<=sizeLine)(i:(b==sysModules)=false)(f:KV g a)(j:h.DictOf (iC c d) b a):Φ c d e h b (.dK g):=⟨z,i,a,f,j⟩
section
variable{X:Cx}{d:g8}{f:St}{H:Hp}{s:Shared}{a:Addr}{y:V}{v:V}{u:Value}{r:Value}{A:Around}{E:fz}
def Ma{D:Hp}{Q:Unit->Shared->Prop}(U:A.units+1<cLine)(I:Inv X d f H s)(g:Ws H a y v D)(J:RelV y u)(G:RelV v r)(h:∀B,Inv X d f D B->Q () B):wpAny (model X.prog X.w) A (setItem (.ref a) u r) Q E s:=by
 rcases g with⟨π,k,e,ey,l,eH⟩|⟨π,k,b,e,ey,eb,l,eH⟩
 .subst ey eH;obtain⟨z,t,R,i,x⟩:=P5 I.Α e;have p:R.length<=sizeLine:=by rw[<-i.length];exact z
  have o:(nW π k v).length<=sizeLine:=by have:=vV π k v;lia
  refine wpAny_setItem_pairs (hsz:=p) (zN J) x λF m n=>h _ ?_;have N:∃q,F.get? a=some q:=let ⟨q,_,_,j,_⟩:=m;⟨q,j⟩;exact DX I (by rw[e];exact True.intro) n N (LR o t (i.put k G) m)
 .subst ey eH;cases(show u=Value.ref b from J);obtain⟨z,t,M,i,x⟩:=S5 I.Α e;have p:M.length<=sizeLine:=by rw[<-Paired.length i];exact z
  have o:(nW π k v).length<=sizeLine:=by have:=vV π k v;lia
  refine wpAny_setItem_heap (hsz:=p) (tupleKind_room_in1 U) (He I.Α eb) x λF m n=>h _ ?_;obtain⟨q,S,K,j,T,O,P,_,L⟩:=m;refine DX I (by rw[e];exact True.intro) n ⟨q,j⟩ ⟨o,t,_,(i.put k eb G).keeps λc V C=>?_,q,S,K,j,T,O,P,L⟩;rw[aW (eG C e (λz=>nomatch z))];exact C
end
section
variable{X:Cx}{b:g8}{c:St}{H:Hp}{s:Shared}{a:Addr}{d:List (Key×V)}{A:Around}{E:fz}
def S7{Q:fz}(I:Inv X b c H s)(e:Rd H a (.dK d))(h:∀t g,Inv X b c H g->Q (.int d.length t) g):wpAny (model X.prog X.w) A (call (.builtin "len") [.ref a]) Q E s:=by
 obtain⟨z,i,k,f,j⟩:=KN I.Α e;refine call_len_dict i j (by rw[<-f.length];rw[sizeLine_eq]at z;lia) ?_;rw[<-f.length];exact h _ _ (I.tok _)
end
def Sj(i:Expr):Prop:=∀b a,subscripted i false b a=operate [b,a] (getItem b a)
def QU{a:Program}{w:World}{A:Around}{E:fz}{s:Shared}{j:Env}{c b:Expr}{n:Pos}{T id:String}{Q:fz}(t:typeLookup (.type T) "__getitem__"=pure (some (.builtin id)))(q:Sj b)(h:wpAny (model a w) A (eval c j) (λo f=>wpAny (model a w) A (eval b j) (λi d=>d.TypeIs o T/\wpAny (model a w) A (getItem o i) Q E d) E f) E s):wpAny (model a w) A (eval (.Subscript c b n) j) Q E s:=by
 refine Subscript_ (cP h (λo f l=>cP l (λi d e=>?_) λ_ _ x=>x) λ_ _ x=>x);obtain⟨p,e⟩:=e;unfold subscriptTail;refine ao ?_;rw[getitemInPython_of_ne p.not_modules];refine ao (jI p t ?_);have k:wpAny (model a w) A (subscripted b false o i) (λr g=>wpAny (model a w) A (letTemporaryGo c o r>>=λ_=>pure r) Q E g) E d:=by
  rw[q o i];exact wpAny_operating (cP e (λr g m=>ao (wpAny_letTemporaryGo (bh m))) λ_ _ x=>x)
 first
  | exact bh (ao k)
  | exact ao (bh (ao k))
  | exact ao k
def Jn(d e:TE):TE:=λb H Q=>d b H λy f=>e b f λx c=>∃a o,x=.ref a/\Wr c a y o/\Q (.bl (!o.isSome)) c
def PV(f d e:TE):TS:=λD b H=>e b H λv h=>f b h λx g=>d b g λy i=>∃a c,x=.ref a/\Ws i a y v c/\D.nx b c
def MQ{X:Cx}(C:X.A.units+1<cLine)(w:PE X e c)(r:PE X d b):PC X .NotIn e d (Jn c b):=by
 intro f s i H Q I h;refine eA (w f s i H _ I h) λF B y p o z q=>eA (r f B i p _ o q) λu E x v l t ⟨a,k,j,g,m⟩=>?_;subst j;obtain rfl:u=Value.ref a:=t;exact QO C l g z λD n=>⟨.bl (!k.isSome),v,n,rfl,m⟩
def QT{X:Cx}{l:Pos}(R:X.A.units+1<cLine)(F:PE X d f)(L:PE X j i)(O:PE X b e)(q:swapsWith b (some (.Subscript d j c)) l.line X.env=pure false):PS X (.Assign [.Subscript d j c] b l) (PV f i e):=by
 intro k s m H D I h;refine wpAny_Assign_Subscript (eA (O k s m H _ I h) λr Q v z w G B=>eA (F k Q m z _ w B) λu E x K o J p=>eA (L k E m K _ o p) λU S y T t P ⟨a,M,n,g,N⟩=>?_) q;subst n;obtain rfl:u=Value.ref a:=J;exact Ma R t g P G λV C=>⟨m,M,C,N⟩
def Oe(h:Heap)(d:sysModules<h.objs.size):Φ b c a (h.push { cls:=.type "dict",data:=.dict #[] }) h.objs.size (.dK []):=⟨cI _,beq_eq_false_iff_ne.mpr (Ne.symm (bf d)),[],.nil,Heap.DictOf.new h⟩
def CO:List (TE×TE)->St->Hp->(List (V×V)->Hp->Prop)->Prop
 | [],_,H,Q=>Q [] H
 | (tk,tv)::r,σ,H,Q=>tk σ H λx c=>tv σ c λy b=>CO r σ b λa d=>Q ((x,y)::a) d
abbrev VV:List (V×V)->List (Value×Value)->Prop:=Paired λp q=>RelV p.1 q.1/\RelV p.2 q.2
def Z5(X:Cx)(e:Pos)(c:List (Option Expr))(a:List Expr)(f:List (TE×TE)):Prop:=∀(b:g8)(s:Shared)(d:St)(H:Hp)(Q:List (V×V)->Hp->Prop),Inv X b d H s->CO f d H Q->wpAny (model X.prog X.w) X.A (evalPairs (pairTrees c a X.env e)) (λi j=>∃h g,Inv X b d g j/\VV h i/\Q h g) X.xe s
def Q2 :Z5 b a [] [] []:=λc s d H Q I h=>pairTrees_nil_walk ⟨[],H,I,.nil,h⟩
def Nj(z:PE c i g)(F:PE c j f)(B:Z5 c a d e b):Z5 c a (some i::d) (j::e) ((g,f)::b):=λk s m H Q I h=>
 pairTrees_cons_walk (eA (z k s m H _ I h) λu J x t r A v=>eA (F k J m t _ r v) λM w y C n G p=>
  ϙ (B k w m C _ n p) λL K ⟨D,o,q,l,E⟩=>⟨(x,y)::D,o,q,.cons ⟨A,G⟩ l,E⟩)
def wx(d a:List (Key×V)):List (Key×V):=a.foldl (λb c=>nW b c.1 c.2) d
def KV.merge:∀{a:List (Key×V)}{d:List (Key×Value)}{c:List (Key×V)}{b:List (Key×Value)},KV a d->KV c b->KV (wx c a) (merged b d):=by
 intro a d c b r;unfold KV at r
 induction r generalizing c b with
 | nil=>intro q;exact q
 | @cons p q ps qs h t ih=>
   intro f;have e:KV (nW c p.1 p.2) (stored b q.1 q.2):=by
    have:=f.put p.1 h.2;rw[<-h.1];exact this
   exact ih e
theorem x9:∀(b a:List (Key×V)),(wx a b).length<=a.length+b.length
 | [],a=>by show a.length<=a.length+0;lia
 | p::r,a=>by
   have c:=x9 r (nW a p.1 p.2);have d:=vV a p.1 p.2;show(wx (nW a p.1 p.2) r).length<=_;rw[aR];lia
theorem Ci :∀{e:List (Key×V)}{g:List (Value×Value)},VV (e.map λf=>(kV f.1,f.2)) g->∃d,Carries (iC P w) g d/\KV e d
 | [],_,r=>by rw[dB]at r;cases r;exact⟨[],True.intro,.nil⟩
 | p::e,_,r=>by
   rw[aF]at r;cases r with
   | @cons a b as bs h t=>
     obtain⟨d,c,q⟩:=Ci (P:=P) (w:=w) t;obtain⟨j,i⟩:=b;exact⟨(p.1,i)::d,⟨zN h.1,rfl,c⟩,.cons ⟨rfl,h.2⟩ q⟩
def PM(b:List (TE×TE)):TE:=λe H Q=>∀p,H p=none->CO b e (upd H p (.dK [])) λf d=>d p=some (.dK [])/\∃a:List (Key×V),f=a.map (λc=>(kV c.1,c.2))/\a.length<=15/\Q (.ref p) (upd d p (.dK (wx [] a)))
def Rc(h:Z5 f g b d i)(F:b.all (·.isSome)=true)(A:b.length=d.length)(t:b≠[])(l:b.length<=15):PE f (.Dict b d g) (PM i):=by
 intro j s M H Q I q;have E:=I.Α.fresh (aU s.heap.objs.size);have C:=I.laid (a:=s.heap.objs.size) (o:=.dK []) (h':=s.heap.push { cls:=.type "dict",data:=.dict #[] }) (t':=s.toks) (λ_ _ q=>aI _ q) (aU _) (Oe s.heap I.big);refine wpAny_Dict_walk (knd:=iC f.prog f.w) F A t l (ϙ (h j _ M _ _ C (q _ E)) λO R ⟨S,T,m,k,e,n,r,U,v⟩=>?_);subst r;obtain⟨J,c,u⟩:=Ci (P:=f.prog) (w:=f.w) k;obtain⟨z,G,B,N,K⟩:=P5 m.Α e;cases N;refine⟨J,c,K,λh' p y=>⟨.ref s.heap.objs.size,_,?_,rfl,v⟩⟩;have D:(wx [] n).length<=sizeLine:=by
  have L:=x9 n [];rw[eL]at L;rw[sizeLine_eq];lia
 have x:∃q,h'.get? s.heap.objs.size=some q:=let ⟨q,_,_,hq,_⟩:=p;⟨q,hq⟩;exact DX m (by rw[e];exact True.intro) y x (LR D G (u.merge .nil) p)
end L2
namespace Att
open PySem PySem.W PySem.Calls PyProof.Rows
def B7 :∀(e:ej)(f:hE),WellAll c d f (e.map WData.int)->IntsAre f e:=by
 intro e
 induction e with
 | nil=>
   intro f w;rw[dB]at w;cases w;exact .nil
 | cons n e ih=>
   intro f w;rw[aF]at w;cases w with
   | cons a b=>
     cases a;exact .cons _ _ (ih _ b)
def Nh{l:OpenLaw}(v:l.most=some e)(o:l.row.toRowW.claim.pre b=true)(n:WellAll g f c b):∃a s h,c=[Value.ref a]/\b=[WData.list (h.map WData.int)]/\f.get? a=some { cls:=.type "list",data:=.seq s.toArray }/\IntsAre s h/\h.length<=e:=by
 have m:WShape.hasAll [] b [.list .int]=true:=(pre_splitW o).1;have p:l.pre.holds [] { args:=b }=true:=(pre_splitW o).2;obtain⟨d,r,rfl,w,x⟩:=hasAllW_cons m;obtain rfl:=hasAllW_nil x;obtain⟨y,rfl,u⟩:=hasW_list w;obtain⟨h,rfl⟩:=items_int u;have i:h.length<=e:=by
  unfold OpenLaw.pre at p;have k:(WTm.not (.lt (.lit (.int (e:Int))) (.len (.arg 0)))).holds [] { args:=[.list (h.map .int)] }=true:=by
   have k:=(holds_andW p).1;rw[v]at k;exact k
  have j:=condW_of k (w_not (w_lt w_lit (w_len_list (w_arg rfl))));rw[aa]at j;refine jq λq=>?_;have t:(e:Int)<((h.length:Nat):Int):=by lia
  first
   | (rw[bD t]at j;exact absurd j (by decide))
   | (simp at j;lia)
 cases n with
 | cons w1 w2=>
   cases w2;cases w1 with
   | list ho Wt=>exact⟨_,_,h,rfl,rfl,ho,B7 h _ Wt,i⟩
def Lx(l:OpenLaw)(a:List WData):l.row.toRowW.claim.post a (.bool true) a=true:=postW_of (r:=l.row.toRowW) (X:=(true==true))
 (show WShape.has [] (.bool true) .bool=true by first|rfl|decide|simp[WShape.has,WShape.arms,WShape.armsAll])
 (show(WTm.eq .res (.lit (.bool true))).value [] { args:=a,res:=some (.bool true),after:=a }=some (.bool (true==true))from w_eq_bool (w_res rfl) w_lit) rfl
def U2{l:OpenLaw}{z:World->Heap->Prop}{d:DefRec}(M:l.most=some g)(T:d.params.defaults=[])(call:∀(w:World) (i h:Shared) (s x:hF) (n:Addr) (o:Obj) (u cd j:Value) (a:Addr) (m:hE) (t:ej),Ground e b [] c w i s x h.heap->z w h.heap->h.heap.get? n=some o->o.data=.func (docDef d.name d.params d.body d.scope u cd j)->h.heap.CodeRec cd d.name->s d.name=some (.ref n)->h.heap.get? a=some { cls:=.type "list",data:=.seq m.toArray }->IntsAre m t->t.length<=g->h.gens=#[]->codeAny (model l.prog w) callerA (.call (.ref n) ⟨[.ref a],[]⟩) (λr q=>r=.ok (.ret (.bool true))/\OldK h.heap q.heap/\q.os=h.os/\AllBare q.gens) h):WalkO e b c z l.row.toRowW d [] (λf m=>PySem.call f m):=by
 intro w i h s x G Y n o u cd j R kV Q N L y H P B A as O E U v I;obtain rfl:R=.none:=Dflts.none y T;obtain rfl:kV=.none:=Dflts.noKw y;obtain⟨a,m,t,rfl,rfl,K,k,p⟩:=Nh M O v;refine enter_call (jA (call w i h s x n o u cd j a m t G Y Q (fd_plain N) L H K k p P) λr q C=>?_);obtain⟨rfl,S,F,J⟩:=C;exact⟨.inl ⟨.bool true,.bool true,[],rfl,λ_=>rfl,.bool true,Lx l _,λ_=>⟨List.Pairwise.nil,λ_ D=>(nomatch D)⟩⟩,S,F,J⟩
end Att
namespace L2
open PySem PySem.Spec PyProof.Rows
theorem Ez:∀{a:hE}{b:ej},IntsAre a b->Vals (b.map V.int) a
 | _,_,.nil=>.nil
 | _,_,.cons n t h=>.cons ⟨t,rfl⟩ (Ez h)
def O6(H:Hp):Prop:=∀b,H b=none\/∃o a,H b=some (.Wi o (.lst a))
def O0{K:gy}{y:Shared}{G:hE}(KX:K.In y.heap)(J:y.heap.Ns mainGlobals f)(A:y.heap.Ns builtinsNs k)(S:∀g:Str,g≠"__name__"->k g=bootBuiltins g)(R:y.heap.NoLimit)(hg:y.gens=#[])(P:y.heap.get? a=some { cls:=.type "list",data:=.seq G.toArray })(hi:IntsAre G c)(hl:c.length<=sizeLine)(hr:Χ x callerA)(F:∀C:Heap,K.In C->C.Ns mainGlobals f->ύ j i K f C t x l w [g] p)(Z8:∀(s:Shared) (u:Value),BindsTo s w ⟨[u],[]⟩ [(g,u)])(WZ:∀H:Hp,O6 H->ν K H a (c.map V.int)->p [.ref a] H (λv _=>v=.bl true) λ_ _ _=>False)(Q:∀H e B,t [] H y (λ_ _ _=>False) e B->False):codeAny (model j i) callerA (.call (.ref l) ⟨[.ref a],[]⟩) (λr B=>r=.ok (.ret (.bool true))/\OldK y.heap B.heap/\B.os=y.os/\AllBare B.gens) y:=by
 have rv:=Ez hi;have T:=hi.length;have E:∀H:Hp,O6 H->ν K H a (c.map V.int)->ϱ j i H y.heap->(∀b,H b≠none->b=a)->(H a≠none->K.lookup a=none)->codeAny (model j i) callerA (.call (.ref l) ⟨[.ref a],[]⟩) (λr B=>r=.ok (.ret (.bool true))/\OldK y.heap B.heap/\B.os=y.os/\AllBare B.gens) y:=by
  intro H hO hS X Z hK;have Vy:∀{b:Addr}{o:Obj},y.heap.get? b=some o->H b=none->(xO y.heap H).get? b=some o:=λe n=>Pe e n;have ZW:∀{b:Addr}{o:Obj}{O:Array DictEntry}{L:Nat},y.heap.get? b=some o->o.data=.dict O L->H b=none:=λ{b o O L} e d=>by
   cases q:H b with
   | none=>rfl
   | some u=>
     have U:b=a:=Z b (by rw[q];simp);subst U;rw[P]at e;cases e;have d':Data.seq G.toArray _=Data.dict O L:=d;cases d'
  have D:∀{b:Addr}{m:hF},y.heap.Ns b m->(xO y.heap H).Ns b m:=λ{b m} ⟨o,O,L,e,d,r⟩=>⟨o,O,L,Vy e (ZW e d),d,r⟩;have M:K.In (xO y.heap H):=λb o e=>Vy (KX b o e) (by
   cases q:H b with
   | none=>rfl
   | some u=>
     have U:b=a:=Z b (by rw[q];simp);subst U;rw[hK (by rw[q];simp)]at e;cases e)
  have hM:Mod K f (xO y.heap H):=⟨M,D J,⟨k,D A,S⟩,let ⟨mc,h1,h2⟩:=R;⟨mc,D h1,h2⟩⟩;have e0:Vl j i K f (xO y.heap H) callerA [] y H:=⟨rfl,hM,λb o e=>QZ e,kZ (Ng _ _),trivial,λb A=>absurd (show b∈([]:hD)from A) (by simp),X,.of_eq hg⟩;refine jA ((F _ M (D J)).run callerA [] y H ⟨[.ref a],[]⟩ [.ref a] [.ref a] _ _ hr e0 (Z8 y (.ref a)) (.cons rfl .nil) (WZ H hO hS)) λr B h=>?_;cases r with
  | error e=>exact(Q H e B h).elim
  | ok fl=>
    cases fl with
    | next=>exact False.elim h
    | brk=>exact False.elim h
    | cont=>exact False.elim h
    | ret u=>
      obtain⟨v,H',os,I,Y,U3,r',q⟩:=h;have q':v=.bl true:=q;subst q';obtain rfl:u=Value.bool true:=r';refine⟨rfl,OldK.of_keep λb o e=>?_,os,I⟩;cases q:H b with
      | none=>exact Y.keep b o e q (by intro z;exact absurd (show b∈([]:hD)from z) (by simp)) (by simp)
      | some u=>
        rcases hO b with z|⟨ob,xs,z⟩
        .rw[q]at z;cases z
        .have z2:=Y.iD b ob _ z;obtain⟨e1,_⟩:=X b _ z;obtain⟨e2,_⟩:=U3 b _ z2;rw[e]at e1;cases e1;exact e2
 cases hk:K.lookup a with
 | some o=>
   have e:=KX a o hk;rw[P]at e;cases e;refine E (λ_=>none) (λ_=>.inl rfl) (.inr ⟨_,G.toArray,_,hk,rfl,rfl,rfl,by rw[aY,T];exact hl,by simpa using rv⟩) (λb u z=>by have N:(none:Option HO)=some u:=z;cases N) (λb z=>absurd rfl z) λz=>absurd rfl z
 | none=>
   refine E (λb=>if b=a then some (.Wi { cls:=.type "list",data:=.seq G.toArray } (.lst (c.map V.int)))else none) (λb=>?_) (.inl (.inr ⟨{ cls:=.type "list",data:=.seq G.toArray },aj rfl⟩)) (λb u z=>?_) (λb z=>?_) λ_=>hk
   .by_cases A:b=a
    .exact .inr ⟨_,_,aj A⟩
    .exact .inl (ah A)
   .by_cases A:b=a
    .have N:=(aj A).symm.trans z;cases N;subst A;exact⟨P,by rw[aa];exact hl,G,_,rv,P⟩
    .have N:=(ah A).symm.trans z;cases N
   .by_cases A:b=a
    .exact A
    .exact absurd (ah A) z
def Xn{l:PySem.W.OpenLaw}{J:World->Heap->Prop}{d:DefRec}{K:Params->PySem.W.Frag}{CX:World->TK}{sp:World->Sp}(Q:l.most=some n)(D:n<=sizeLine)(Z6:d.params.defaults=[])(hr:Χ k callerA)(N:∀(w:World) (h:Heap),J w h->(K w.params).In h)(F:∀(w:World) (r:hF) (y:Addr) (h:Heap),(K w.params).In h->h.Ns mainGlobals r->r d.name=some (.ref y)->∃C:FuncData,(∀(s:Shared) (u:Value),BindsTo s C ⟨[u],[]⟩ [(x,u)])/\∀m:Heap,(K w.params).In m->m.Ns mainGlobals r->ύ l.prog w (K w.params) r m (CX w) k y C [x] (sp w))(S:∀(w:World) (H:Hp) (a:Addr) (z:ej),z.length<=n->O6 H->ν (K w.params) H a (z.map V.int)->sp w [.ref a] H (λv _=>v=.bl true) λ_ _ _=>False)(B:∀(w:World) (H:Hp) (s:Shared) (e:Value) (A:Shared),CX w [] H s (λ_ _ _=>False) e A->False):PySem.W.WalkO j c i J l.row.toRowW d [] (λf L=>PySem.call f L):=by
 refine Att.U2 Q Z6 λw E t r mb y o pm cd M a L z G Y ho hd VL O P q p X=>?_;have I:=N w _ Y;obtain⟨C,hb,Z⟩:=F w r y _ I G.T.g O;exact O0 I G.T.g G.T.b G.T.builtins G.T.nolimit X P q (aV p D) hr Z hb (λH U R=>S w H a z p U R) λH e A=>B w H t e A
def mF(s:Stmt)(j:Nat):Stmt:=match s with
 | .ClassDef _ _ _ body _ _ _ _ _ _ _=>body.getD j (.Pass ⟨0,0,0,0⟩)
 | _=>.Pass ⟨0,0,0,0⟩
def mO(s:Stmt):Arguments:=match s with
 | .FunctionDef _ a _ _ _ _ _ _ _ _=>a
 | _=>{ posonlyargs:=[],args:=[],vararg:=none,kwonlyargs:=[],kw_defaults:=[],kwarg:=none,defaults:=[] }
def kG(s:Stmt):List Stmt:=match s with
 | .FunctionDef _ _ b _ _ _ _ _ _ _=>b
 | _=>[]
def aK(s:Stmt):Scope:=match s with
 | .FunctionDef _ _ _ _ _ _ sc _ _ _=>sc
 | _=>{ kind:=.function,names:=[],isGenerator:=false,isCoroutine:=false }
abbrev E0:XK:=λ_ _ _=>False
structure W4(K:gy)(x qual:Str)(st:Stmt)(f:Addr)(fd:FuncData):Prop where
 ex:∃(oc:Value)(od:Option Addr)(kV doc pm:Value)(an:Option Addr)(ξ ct:Value)(UZ:Array (Option Value)),fd=PySem.W.fnOf x qual (mO st) (kG st) (aK st) .none kV doc pm an ξ ct/\K.lookup f=some ⟨oc,od,.func fd,UZ⟩/\PySem.W.codeIn K ξ qual=true
 kp:PySem.W.keepIn K (.ref f)=true
def W4.binds{K:gy}{x a:Str}{st:Stmt}{f:Addr}{k:FuncData}{j:hG}(F:W4 K x a st f k)(h:∀(kV b d:Value) (i:Option Addr) (e c:Value) (g:hE),g.length=j.length->bindArgs (PySem.W.fnOf x a (mO st) (kG st) (aK st) .none kV b d i e c) ⟨g,[]⟩=pure (j.zip g)):Binds K k j []:=by
 obtain⟨m,o,kV,b,d,i,e,c,n,rfl,p,l⟩:=F.ex;exact .all (h kV b d i e c)
def yR{K:gy}{x a:Str}{st:Stmt}{f:Addr}{i:Value}{m h:Option Addr}{j:Array (Option Value)}{kV b g d e:Value}(l:K.lookup f=some ⟨i,m,.func (PySem.W.fnOf x a (mO st) (kG st) (aK st) .none kV b g h d e),j⟩)(c:PySem.W.codeIn K d a=true)(k:PySem.W.keepIn K (.ref f)=true):W4 K x a st f (PySem.W.fnOf x a (mO st) (kG st) (aK st) .none kV b g h d e):=⟨⟨i,m,kV,b,g,h,d,e,j,rfl,l,c⟩,k⟩
def SZ(c:Χ b a):a.units+1<cLine:=fX (Nat.add_le_add_left (by decide:1<=64) _) c.units
def pv{X:Cx}(i:Nat)(d:X.N[i]?=some a:=by rfl)(e:Vis X.env.scope a:=by first|exact Or.inl rfl|exact Or.inr (Or.inl rfl)|exact Or.inr (Or.inr rfl))(c:(a==("__debug__":Str))=false:=by decide)(f:(a==("__classdict__":Str))=false:=by decide):PE X (.Name a b) (BH i):=HL d e c f
def Ts{A B:Prop}(h:B):if false=true then A else B:=by
 rw[ah bq];exact h
def Tu{A B:Prop}(h:A):if true=true then A else B:=by
 rw[aj rfl];exact h
def δ(H a:Hp):Prop:=∀b o,H b=some o->a b=some o
def δ.refl(H:Hp):δ H H:=λ_ _ h=>h
def δ.trans(a:δ f e)(b:δ e d):δ f d:=λc o h=>b c o (a c o h)
def δ.free(e:δ b c)(h:c a=Option.none):b a=Option.none:=by
 cases q:b a with
 | none=>rfl
 | some o=>
   rw[e a o q]at h;cases h
def δ.seq{K:gy}{H c:Hp}{a:Addr}{b:List V}(e:δ H c)(h:ν K H a b):ν K c a b:=by
 rcases h with(h|⟨o,h⟩)|h
 .exact .inl (.inl (e _ _ h))
 .exact .inl (.inr ⟨o,e _ _ h⟩)
 .exact .inr h
def MB:lS b (.builtin "len") (λd H Q=>∃a c,d=[V.ref a]/\H a=some (.dK c)/\Q (.int c.length) H):=by
 intro e s l H d k Q I r h;obtain⟨a,c,rfl,g,q⟩:=h;obtain⟨u,rfl,f⟩:=oE r;cases f;exact S7 I (.inl g) λt j i=>⟨.int c.length,H,i,⟨t,rfl⟩,q⟩
def Cx.comp(X:Cx)(d:hG)(a:Scope)(cl:List (Str×Addr))(C:Addr)(b:Shared)(c:Hp)(e:hD):Cx where
 prog:=X.prog
 w:=X.w
 K:=X.K
 mg:=X.mg
 base:=X.base
 A:=X.A
 N:=d
 s₀:=b
 H₀:=c
 env:=compEnvC a cl C X.env
 outer:=X.stack
 stack:=X.stack
 ex:=e
 fn:=λ_=>false
 calm:=X.calm
 pn:=[]
 xe:=λ_ _=>False
structure Ϫ(X:Cx)(Nc:hG)(own:Nat)(js:List Nat)(scope:Scope)(cl:List (Str×Addr)):Prop where
 Yy:closureFor scope X.env=pure cl
 kind:scope.kind=.function
 Vo:∀y∈scope.names,y.2≠.cell
 names:∀y∈scope.names,y.2=.local->scope.names.lookup y.1=some .local
 cells:∀x c,cl.lookup x=some c->X.env.cells.lookup x=some c
 has:∀x,((relabel scope X.env).names.lookup x=some .cell\/(relabel scope X.env).names.lookup x=some .free)->∃c,cl.lookup x=some c
 len:Nc.length=own+js.length
 outer:∀i x,Nc[own+i]?=some x->∃j,js[i]?=some j/\X.N[j]?=some x/\X.env.scope.names.lookup x=some .cell/\(relabel scope X.env).names.lookup x=some .cell
def nA(a:Nat)(b:List Nat)(c:St):St:=List.replicate a none++b.map λj=>(c[j]?).getD none
def Ln(h:Nat)(q:List Nat)(r:TI)(g:TG)(s:TT)(u:TE):TE:=λn H Q=>r n H λJ l=>∀p,l p=none->∃W:Nat->Nat->List V->St->Hp->Prop,(∃m,W 0 m [] (nA h q n) (upd l p (.lst [])))/\∀i m c f d,W i m c f d->(J.stop i d/\Q (.ref p) d)\/(J.go i d/\∀x k,J.XJ i d x k->g x f k λa t=>s a t λb j=>
 if b=true then u a j λy o=>o p=some (.lst c)/\c.length<sizeLine/\∃e,e<m/\W (i+1) e (c++[y]) a (upd o p (.lst (c++[y])))
 else ∃e,e<m/\W (i+1) e c a j)
def Z9(X:Cx)(d:List Expr)(t:TT):Prop:=∀(a:g8)(s:Shared)(b:St)(H:Hp)(Q:Bool->Hp->Prop),Inv X a b H s->t b H Q->wpAny (model X.prog X.w) X.A (forIn d true λc r=>if r=true then do let e <-isTrue c X.env (eval c X.env);pure (ForInStep.yield e)else pure (ForInStep.yield r)) (TP X a b Q) X.xe s
def aac:TT:=λ_ H Q=>Q true H
def ik :Z9 a [] aac:=λb s c H Q I h=>wpAny_tests_nil ⟨H,I,h⟩
def Ee(h:PT a b c):Z9 a [b] c:=λd s e H Q I q=>wpAny_tests_one (h d s e H Q I q)
def AO(I:Nat->Shared->Prop)(E:∀n f,I n f->wpAny (model a g) e (pyNext k) (λr w=>match r with
 | none=>s (.ok .next) w
 | some v=>wpAny (model a g) e (letOwnedTupleGo d k v) (λ_ J=>wpAny (model a g) e (assign d b v) (λ_ z=>
  wpAny (model a g) e (forIn o true λc r=>if r=true then do let ok <-isTrue c b (eval c b);pure (ForInStep.yield ok)else pure (ForInStep.yield r)) (λok y=>
   if ok=true then wpAny (model a g) e (eval j b) (λx C=>
    wpAny (model a g) e (call (.builtin "list.append") [l,x]) (λ_ A=>∃m,m<n/\I m A) (λ_ _=>False) C) (λ_ _=>False) y
   else ∃m,m<n/\I m y) (λ_ _=>False) z) (λ_ _=>False) J) (λ_ _=>False) w) (λ_ _=>False) f)(n:Nat)(h:I n f):codeAny (model a g) e (.compLoop (.ListComp j [⟨d,p,o,0⟩] i q) 0 k l b) s f:=by
 refine codeAny_loop rfl I (λn f K=>?_) n h;show wpAny _ e ((compTurn (.ListComp j [⟨d,p,o,0⟩] i q) 0 k l b).onRaise (λx=>do noteFrame x b;theTreesLotGoes x)) _ _ f;refine wpAny_noted ?_;rw[compTurn_list];refine ao (i5 (ao (cP (E n f K) (λr w B=>?_) λ_ _ u=>u.elim)));cases r with
 | none=>exact bh B
 | some v=>
   refine ao (cP B (λ_ J H=>?_) λ_ _ u=>u.elim);refine ao (cP H (λ_ z G=>ao (cP G (λok y t=>?_) λ_ _ u=>u.elim)) λ_ _ u=>u.elim);cases ok with
   | true=>
     rw[aj rfl]at t;simp only[if_true];exact ao (ao (cP t (λx C F=>ao (cP F (λ_ A D=>bh (bh ⟨rfl,D⟩)) λ_ _ u=>u.elim)) λ_ _ u=>u.elim))
   | false=>
     rw[ah bq]at t;simp only[cZ,if_false]
     first
      | exact bh ⟨rfl,t⟩
      | exact ao (bh (bh ⟨rfl,t⟩))
def DN{X:Cx}{l:hG}{own:Nat}{p:List Nat}{a:Scope}{cl:List (Str×Addr)}{g:g8}{s:St}{f:Hp}{d:Shared}{C:Addr}{k:hD}(T:Ϫ X l own p a cl)(I:Inv X g s f d)(m:d.heap.objs.size<=C)(j:∀b∈k,qg X g f b)(q:∀b∈k,b<d.heap.objs.size):(X.comp l a cl C d f k).Ok where
 mod:=I.ok.mod
 kind:=by show(relabel a X.env).kind=_;exact T.kind
 glob:=I.ok.glob
 blt:=I.ok.blt
 above:=m
 inj:=λx y c r t=>I.ok.inj x y c (T.cells x c r) (T.cells y c t)
 has:=λx h=>T.has x h
 XG:=λx c h=>by cases h
 hd:=I.ok.hd
 frames:=I.ok.frames
 Yi:=.inl rfl
 ZL:=λb i=>⟨bf (be (q b i) m),λx c h=>(j b i).2.2.2.2.1 x c (T.cells x c h)⟩
 bs:=I.bs
 Wj:=aV I.ok.Wj I.sz
 UT:=λb o e i=>by
  rcases(j b i).2.2.2.1 with z|z
  .exact I.ok.UT b o e z
  .exact absurd (be (aO (I.ok.bs b o e).1) z) (di _)
 Uy:=λb i n=>by
  rcases aA.mp (I.UA b n)with z|z
  .exact(j b i).2.1 z
  .exact(j b i).2.2.1 z
 aS:=I.stack
 WT:=I.iF
def FZ{X:Cx}{B:hG}{h:Nat}{E:List Nat}{scope:Scope}{O:List (Str×Addr)}{r:g8}{w:St}{g:Hp}{a:Shared}{C D:Addr}{J:hD}{f:Heap}{t:Nat}{m:hF}(T:Ϫ X B h E scope O)(I:Inv X r w g a)(M:a.heap.objs.size<=C)(A:a.heap.objs.size<=D)(Yz:D≠C)(U:∀b∈J,qg X r g b)(ϒ:∀b∈J,b<a.heap.objs.size)(s:∀b o,a.heap.get? b=some o->f.get? b=some o)(F:f.Ns C m)(H:∃n,f.get? D=some { cls:=.type "list",data:=.seq ([]:hE).toArray n }):Inv (X.comp B scope O C a g J) [] (nA h E w) (upd g D (.lst [])) { a with heap:=f,toks:=t }:=by
 obtain⟨S,H⟩:=H;have l:∀c v,a.heap.IsCell c v->f.IsCell c v:=λc v ⟨o,K,Y⟩=>⟨o,s c o K,Y⟩;refine⟨DN T I M U ϒ,rfl,I.bare,Un.laid s A (I.Α.fresh A),⟨m,F,λi x v Z W e3=>?_⟩,λx c e=>?_,?_,λx c e=>?_,λp hp=>(by cases hp),I.Α.laid s A ?_,?_⟩
 .have hN:B[i]?=some x:=Z;have d:(nA h E w)[i]?=some (some v):=W;unfold nA at d;by_cases Q:i<h
  .rw[dH (by simpa using Q),i6]at d;simp[Q]at d
  .obtain⟨k,rfl⟩:∃k,i=h+k:=⟨i-h,by lia⟩;rw[db (by simp)]at d;simp only[cf,Nat.add_sub_cancel_left,aP]at d;obtain⟨j,V,hx,N,P⟩:=T.outer k x hN;rw[V]at d;replace d:some (w[j]?.getD none)=some (some v):=d;have G:w[j]?=some (some v):=by
    cases q:w[j]? with
    | none=>rw[q]at d;simp at d
    | some y=>rw[q]at d;simpa using d
   obtain⟨m0,ae,L⟩:=I.loc;obtain⟨u,R,lk⟩:=L j x v hx G (.inr (.inl N));refine⟨u,R,.inr ⟨.inl P,?_⟩⟩;rcases lk with⟨z,_⟩|⟨_,c,hc,Ϲ⟩
   .have z':X.env.scope.names.lookup x=some .local:=z;rw[N]at z';cases z'
   .obtain⟨c',Zf⟩:=T.has x (.inl P);have:=T.cells x c' Zf;rw[hc]at this;cases this;exact⟨c,Zf,l c _ Ϲ⟩
 .obtain⟨v,z⟩:=I.cell x c (T.cells x c e);exact⟨v,l c v z⟩
 .show upd g D (.lst []) C=none;rw[aW (Ne.symm Yz)];exact I.Α.fresh M
 .have e':=T.cells x c e;obtain⟨v,o,K,_⟩:=I.cell x c e';rw[aW (bf (be (aO K) A))];exact I.ϝ x c e'
 .exact⟨cI _,[],S,.nil,H⟩
 .show(nA h E w).length=B.length;rw[T.len];simp[nA]
def Fa{X:Cx}{A:hG}{h:Scope}{F:List (Str×Addr)}{f:g8}{t r:St}{d i:Hp}{c s':Shared}{C:Addr}{j:hD}{h':Heap}(I:Inv X f t d c)(D:c.heap.objs.size<=C)(p:∀b∈j,qg X f d b)(m:Inv (X.comp A h F C c d j) [] r i s')(B:Heap.SameBut C s'.heap h'):Inv X f t i { s' with heap:=h' }:=by
 have u:Un (ϥ X.stack) j d i c.heap s'.heap:=m.base;have ne:∀b o,c.heap.get? b=some o->b≠C:=λb o e=>bf (be (aO e) D);have k:∀b o,b≠C->s'.heap.get? b=some o->h'.get? b=some o:=λb o n e=>B.extBut b o n e;have x:Un (ϥ X.stack) j d i c.heap h':=⟨λb o e n g l=>k b o (ne b o e) (u.keep b o e n g l),λb o e n g l=>let ⟨sl,q⟩:=u.slot b o e n g l;⟨sl,k b _ (ne b o e) q⟩,u.free,λb o e l=>let ⟨o',q⟩:=u.there b o e l;⟨o',k b o' (ne b o e) q⟩,u.nE,u.iD,u.oK⟩
 have s:i C=none:=m.free;have E:ϱ X.prog X.w i h':=λa o e=>(m.Α a o e).lT (λb v g q=>k b v (λz=>by
  rcases g with y|y
  .rw[y]at z;rw[z,s]at e;cases e
  .rw[z,s]at y;cases y) q) (λ_ q=>q) λ_ _ q=>q
 exact I.Wk (s':={ s' with heap:=h' }) (ch:=j) m.os x E m.bare λb g=>⟨(p b g).2.2.2.1,(p b g).2.1,(p b g).2.2.2.2.1,(p b g).2.2.2.2.2⟩
def iE(hc:f.calm=true)(T:Ϫ f Nc z E a g)(hi:PI f j k G)(hg:∀C N O M,PG (f.comp Nc a g C N O M) j L)(ht:∀C N O M,Z9 (f.comp Nc a g C N O M) m F)(he:∀C N O M,PE (f.comp Nc a g C N O M) l D)(hs:∀x,foldedSetIterable k f.env x=pure x:=by intro _;rfl):PE f (.ListComp l [⟨j,k,m,0⟩] a B) (Ln z E G L F D):=by
 intro ae s σ H Q I h;rw[eval_ListComp];refine wpAny_comprehension_free (use:=none) rfl hs T.Yy T.kind T.names (ϙ (hi ae s σ H _ I h) λv s1 h1=>ϙ h1 λdt K h2=>?_);obtain⟨it,M,tn,J,H1,rfl,I1,Tn,st,f1,R⟩:=h2;have Xo:∀b∈M,b<K.heap.objs.size:=λb P=>let ⟨o,e,_⟩:=Tn.obj _ _ st b P;aO e;refine fg (wpAny_newFunctionEnv T.Vo (by intro y hy;simp at hy) (λS bV ϫ=>?_) T.kind);dsimp only at bV ϫ ⊢;generalize YB:K.heap.push { cls:=.type "list",dict:=none,data:=.seq ([]:hE).toArray }=V at bV ϫ ⊢;have hC:V.objs.size=K.heap.objs.size+1:=by rw[<-YB,eK]
 have Yz:K.heap.objs.size≠V.objs.size:=by rw[hC];exact bf (fN _)
 have TZ:K.heap.objs.size<=V.objs.size:=by rw[hC];exact iT _
 have cj:∀b,b<K.heap.objs.size->b≠V.objs.size:=λb P=>by rw[hC];exact bf (gh P)
 have aH:∀b o,K.heap.get? b=some o->S.get? b=some o:=λb o e=>ϫ.extBut b o (cj b (aO e)) (aI _ (YB▸aI _ e));have oR:∃n,S.get? K.heap.objs.size=some { cls:=.type "list",data:=.seq ([]:hE).toArray n }:=⟨_,ϫ.extBut _ _ Yz (aI _ (YB▸bd _ rfl))⟩;have U4:tn 0 S:=Tn.keep _ _ _ st λb _ o e=>aH b o e;obtain⟨W,⟨m0,w0⟩,ar⟩:=R K.heap.objs.size I1.fresh;have Ic:=FZ (t:=K.toks+([]:List (Str×Value)).length) T I1 TZ (aU _) Yz f1 Xo aH bV oR;generalize Xp:f.comp Nc a g V.objs.size K H1 M=Xc at Ic;have X:∀{Z:Hp},(∀b∈M,Z b=none)->∀b∈M,qg Xc [] Z b:=λ{Z} hn b P=>by
  subst Xp;exact⟨hn b P,cj b (Xo b P),(DN T I1 TZ f1 Xo).Uy b P,.inl P,λx c e=>(f1 b P).2.2.2.2.1 x c (T.cells x c e),λp hp=>by cases hp⟩
 have ca:∀b∈M,upd H1 K.heap.objs.size (.lst []) b=none:=λb P=>by
  rw[aW (bf (Xo b P))];exact(f1 b P).1
 have dK:Xc.calm=true:=by subst Xp;exact hc
 have ac:∀Y:Shared,Y={ K with heap:=S,toks:=K.toks+([]:List (Str×Value)).length }->codeAny (model f.prog f.w) f.A (.compLoop (.ListComp l [⟨j,k,m,0⟩] a B) 0 (.ref it) (.ref K.heap.objs.size) (compEnvC a g V.objs.size f.env))
  (compPost (model f.prog f.w) f.A f.xe none (EP f ae σ Q) (.ref K.heap.objs.size) V.objs.size) Y:=by
  rintro Y rfl;refine AO (λn s'=>∃i ys av Z,Inv Xc [] av Z s'/\tn i s'.heap/\(∀b∈M,Z b=none)/\W i n ys av Z) ?_ m0 ⟨0,[],_,_,Ic,U4,ca,w0⟩;rintro n s3 ⟨i,ys,ab,H3,I3,V4,XN,w3⟩;rcases ar i n ys ab H3 w3 with⟨stop,q⟩|⟨go,step⟩
  .subst Xp;refine ϙ (Tn.done (f.comp Nc a g V.objs.size K H1 M) rfl rfl rfl hc i [] s3 ab H3 _ I3 (X XN) V4 stop) λr s4 ⟨hr,I4⟩=>?_;subst hr;obtain⟨m4,b2,_⟩:=id I4.loc;exact⟨m4,b2,λh' bt=>⟨.ref K.heap.objs.size,H3,Fa I1 TZ f1 I4 bt,rfl,q⟩⟩
  .subst Xp;refine ϙ (Tn.item (f.comp Nc a g V.objs.size K H1 M) rfl rfl rfl hc i [] s3 ab H3 _ I3 (X XN) V4 go) λr s4 ⟨u,hr,h4⟩=>?_;subst hr;refine ϙ h4 λ_ s5 ⟨x,H5,I5,r5,y5,Wn,ZS⟩=>?_;have ZT:=I5.pinned (X ZS) (Tn.obj _ _ Wn);have ad:∀{ak:St}{H7:Hp}{s7:Shared},Inv (f.comp Nc a g V.objs.size K H1 M) ([]++wE M s5.heap) ak H7 s7->Inv (f.comp Nc a g V.objs.size K H1 M) [] ak H7 s7/\tn (i+1) s7.heap/\∀b∈M,H7 b=none:=λ{ak H7 s7} I7=>by
    refine⟨I7.ϲ,Tn.keep _ _ _ Wn λb P o e=>(I7.pin (b,o) (bo _ (bo _ (pj P e)))).1,λb P=>?_⟩;obtain⟨o,e,d⟩:=Tn.obj _ _ Wn b P;exact(I7.pin (b,o) (bo _ (bo _ (pj P e)))).2.1
   refine ϙ (hg _ _ _ _ _ s5 ab H5 x u _ ZT r5 (step x H5 y5)) λ_ s6 ⟨U,H6,I6,q6⟩=>?_;refine B0 (ht _ _ _ _ _ s6 U H6 _ I6 q6) λok s7 H7 I7 q7=>?_;cases ok with
   | false=>
     rw[ah bq]at q7 ⊢;obtain⟨m',hm,w7⟩:=q7;obtain⟨J1,J2,J3⟩:=ad I7;exact⟨m',hm,i+1,ys,U,H7,J1,J2,J3,w7⟩
   | true=>
     rw[aj rfl]at q7 ⊢;refine eA (he _ _ _ _ _ s7 U H7 _ I7 q7) λy s8 yv H8 I8 r8 ⟨bY,b1,m',hm,w8⟩=>?_;refine ϙ (y9 _ s8 U H8 (.ref K.heap.objs.size) [yv] _ [y] (λv' Z=>W (i+1) m' (ys++[yv]) U Z) I8 rfl (.cons r8 .nil) ⟨_,ys,yv,rfl,rfl,bY,b1,w8⟩) λv9 s9 ⟨_,H9,I9,_,w9⟩=>?_;obtain⟨J1,J2,J3⟩:=ad I9;exact⟨m',hm,i+1,ys++[yv],U,H9,J1,J2,J3,w9⟩
 exact codeAny_compStart_list (ac _ rfl) (Tn.self _ 0 _ _ _ U4 (ac _ rfl))
def UB:V->List V->Hp->VK->Prop:=λx b H Q=>∃(l:Addr)(a:List V)(i:Int)(y:V),x=.ref l/\b=[.int i,y]/\H l=some (.lst a)/\0<=i/\i<=a.length/\a.length<sizeLine/\Q .ο (upd H l (.lst (a.take i.toNat++y::a.drop i.toNat)))
def M7:Yt a "list.insert" UB:=by
 intro j s L H x K v D Q I w u h;obtain⟨l,C,i,y,rfl,rfl,g,B,J,E,q⟩:=h;cases w;obtain⟨A,c,rfl,⟨t,rfl⟩,k⟩:=u.two;obtain⟨z,b,n,r,m,e⟩:=I.Vn g;have G:=qx;have o:Builtin.List.listFitsIndex i=true:=by
  unfold Builtin.List.listFitsIndex;rw[bB];exact⟨bD (by lia),bD (by lia)⟩
 have f:¬(!Builtin.List.listFitsIndex i)=true:=by rw[o];decide
 have d:b.toArray.size<=sizeLine:=by rw[aY,<-m];exact z
 refine call_meets lh ⟨_,e,rfl⟩ PySem.F.entry_list_insert (PySem.F.args_list_insert_3 _ _ _) (PySem.AutoSeq1.list_insert_list_int_val_1 l b.toArray n i t c f d) ⟨e,?_⟩;refine⟨.ο,_,I.Yu (its':=b.take i.toNat++c::b.drop i.toNat) g e ?_ ((r.take i.toNat).append (.cons k (r.drop i.toNat))) ?_,rfl,q⟩
 .show(b.toArray.extract 0 (if i<0 then(i+(b.toArray.size:Int)).toNat else min i.toNat b.toArray.size)).push c++b.toArray.extract (if i<0 then(i+(b.toArray.size:Int)).toNat else min i.toNat b.toArray.size)=_;have p:(if i<0 then(i+(b.toArray.size:Int)).toNat else min i.toNat b.toArray.size)=i.toNat:=by
   rw[ah (by lia),aY]
   lia
  rw[p];exact PySem.W.kl_ins_eq b i.toNat c
 .rw[ay,aR,bA,d8]
  lia
def Re:ϸ a (binaryOp .Mult) (rI (λi j=>IntMulOk i j) λi j=>.int (i*j)):=Zg λi j t u s Q E h q=>PyProof.Rows.mul_int q h
def GD(S:a.calm=true):lS a (.builtin "all") (λm H Q=>∃(p:Addr)(d:List Bool),m=[.ref p]/\ν a.K H p (d.map V.bl)/\Q (.bl (d.all id)) H):=by
 intro w s Y H m W Q I r h;obtain⟨p,d,rfl,P,q⟩:=h;obtain⟨u,rfl,k⟩:=oE r;cases k;obtain⟨c,C,t,X⟩:=I.list P;have n:=t.isList;have R:=t.lt;have J:a.A.in1.handled=none:=I.ok.hd S;have f:c.length=d.length:=by rw[<-C.length,aa]
 refine call_all_walk (gj n ?_);refine⟨s.heap.objs.size,[s.heap.objs.size,p],[s.heap.objs.size],c.toArray.size,_,_,λi=>(d[i]?).getD true,rfl,Walks.list (A:=a.A.in1) J _ p (bf R) c.toArray,⟨⟨_,bd _ rfl,rfl,rfl⟩,n.push _⟩,λi v F E U O j=>?_,λM G T=>?_⟩
 .have g:c[i]?=some v:=by simpa using O
  have B:i<d.length:=by rw[<-f];exact(aD.mp g).1
  obtain⟨u,D,k⟩:=C.get (i:=i) (x:=V.bl d[i]) (by rw[aP,aB B];rfl);rw[g]at D;cases D;cases k;replace j:E (d[i]?.getD true) F:=j;rw[aB B]at j;exact dD j
 .have e:((List.range c.toArray.size).all λi=>(d[i]?).getD true)=d.all id:=by
   rw[aY,f];rw[ip,dW,dW]
   constructor
   .intro z b hb;obtain⟨i,g,rfl⟩:=j1 hb;have:=z i (de.mpr g);rw[aB g]at this;exact this
   .intro z i g;have y:=de.mp g;rw[aB y];exact z _ (dL y)
  have N:∀b o,s.heap.get? b=some o->M.get? b=some o:=λb o l=>T b o (λL=>by rw[aG.mp L]at l;exact di _ (aO l)) (aI _ l);rw[e];exact⟨.bl _,H,I.kept (t':=G) N,rfl,q⟩
mutual
inductive rW(K:gy)(H:Hp):V->PyData->Prop
 | ο:rW K H .ο .none
 | bl (b:Bool):rW K H (.bl b) (.bool b)
 | int (i:Int):rW K H (.int i) (.int i)
 | str {x:Str}:PyData.canLay0 (.str x)=true->rW K H (.str x) (.str x)
 | lst {a:Addr} {xs:List V} {ds:List PyData}:ν K H a xs->ώ K H xs ds->rW K H (.ref a) (.list ds)
 | tup {a:Addr} {xs:List V} {ds:List PyData}:Δ K H a xs->ώ K H xs ds->rW K H (.ref a) (.tuple ds)
inductive ώ(K:gy)(H:Hp):List V->List PyData->Prop
 | nil:ώ K H [] []
 | cons {x:V} {d:PyData} {xs:List V} {ds:List PyData}:rW K H x d->ώ K H xs ds->ώ K H (x::xs) (d::ds)
end
mutual
theorem rW.reads{X:Cx}{f:g8}{q:St}{H:Hp}{s:Shared}(I:Inv X f q H s):∀{x:V}{d:PyData}{u:Value},rW X.K H x d->RelV x u->(∃as,Reads s.heap u d as)/\d.canLay0=true
 | _,_,_,.ο,r=>by cases(show _=Value.none from r);exact⟨⟨_,.none⟩,by simp[PyData.canLay0]⟩
 | _,_,_,.bl b,r=>by cases(show _=Value.bool b from r);exact⟨⟨_,.bool b⟩,by simp[PyData.canLay0]⟩
 | _,_,_,.int i,r=>by obtain⟨t,e⟩:=(show ∃t,_=Value.int i t from r);cases e;exact⟨⟨_,.int i t⟩,by simp[PyData.canLay0]⟩
 | _,_,_,.str (x:=x) h,r=>by obtain⟨t,e⟩:=(show ∃t,_=Value.str x t from r);cases e;exact⟨⟨_,.str x t⟩,h⟩
 | _,_,_,.lst (a:=a) h hs,r=>by
   cases(show _=Value.ref a from r);obtain⟨j,l,⟨o,n,e,c,_,k⟩,p⟩:=I.list h;obtain⟨⟨as,g⟩,m⟩:=ώ.reads I hs l;exact⟨⟨_,.list e c k (by simpa using g)⟩,by simpa[PyData.canLay0]using m⟩
 | _,_,_,.tup (a:=a) h hs,r=>by
   cases(show _=Value.ref a from r);obtain⟨j,l,⟨o,e,c,n,k⟩,p⟩:=I.tuple h;obtain⟨⟨as,g⟩,m⟩:=ώ.reads I hs l;exact⟨⟨_,.tuple e c k (by simpa using g)⟩,by simpa[PyData.canLay0]using m⟩
theorem ώ.reads{X:Cx}{a:g8}{e:St}{H:Hp}{s:Shared}(I:Inv X a e H s):∀{c:List V}{b:List PyData}{d:hE},ώ X.K H c b->Vals c d->(∃as,ReadsAll s.heap d b as)/\PyData.canLayAll0 b=true
 | _,_,_,.nil,.nil=>⟨⟨_,.nil⟩,by simp[PyData.canLayAll0]⟩
 | _,_,_,.cons h hs,.cons r rs=>by
   obtain⟨⟨as,j⟩,g⟩:=rW.reads I h r;obtain⟨⟨k,i⟩,f⟩:=ώ.reads I hs rs;exact⟨⟨_,.cons j i⟩,by simp[PyData.canLayAll0,g,f]⟩
end
def R8(K:gy):R2:=λx y H Q=>∃d e,rW K H x d/\rW K H y e/\d.depth<=40/\Q (.bl (!PyData.eqv d e)) H
def Hy(p:a.A.units+64<cLine):ϸ a (compareOp .NotEq) (R8 a.K):=by
 intro b s o H x y v u Q I i k h;obtain⟨d,e,g,l,n,q⟩:=h;obtain⟨⟨as,f⟩,c⟩:=g.reads I i;obtain⟨⟨m,j⟩,cb⟩:=l.reads I k;exact PySem.SeqAt.compareNe_reads f j c cb (by lia) ⟨.bl _,H,I,rfl,q⟩
structure Ac(P:Program)(w:World)(l:Addr)(ob:Obj)(src:Heap->Array Value->Prop)(at':Addr->Nat->Heap->Prop):Prop where
 start:∀(A:Around)(s:Shared)(vs:Array Value)(Q:fz)(E:fz),src s.heap vs->Q (.ref s.heap.objs.size) { s with heap:=s.heap.push ob }->wpAny (model P w) A (pyIter (.ref l)) Q E s
 first:∀it h,h.get? it=some ob->at' it 0 h
 atK:∀it i h h',at' it i h->(∀o,h.get? it=some o->h'.get? it=some o)->at' it i h'
 UC:∀h h' vs,src h vs->(∀o,h.get? l=some o->h'.get? l=some o)->src h' vs
 obj:∀it i h,at' it i h->∃o,h.get? it=some o/\∀v,o.data≠.cell v
 item:∀(A:Around)(s:Shared)(it:Addr)(i:Nat)(vs:Array Value)(x:Value)(Q:fz)(E:fz),at' it i s.heap->src s.heap vs->vs[i]?=some x->(∀h',at' it (i+1) h'->Heap.SameBut it s.heap h'->Q x { s with heap:=h' })->wpAny (model P w) A (Builtin.SmallTypes.nextOf (.ref it)) Q E s
 fin:∀(A:Around)(s:Shared)(it:Addr)(i:Nat)(vs:Array Value)(Q:fz)(E:fz),A.handled=none->at' it i s.heap->src s.heap vs->vs[i]?=none->(∀h' e,Heap.ExtBut it s.heap h'->(∃o,h'.get? e=some o/\o.cls=.type "StopIteration")->E (.ref e) { s with heap:=h' })->wpAny (model P w) A (Builtin.SmallTypes.nextOf (.ref it)) Q E s
def LP(l:Addr):Ac b a l { cls:=.type "list_iterator",data:=.fields #[.ref l,.int 0 0] } (λh f=>h.IsList l f) (λc i h=>h.IsListIter c l i) where
 start:=λA s f Q E p d=>gj p d
 first:=λc h e=>⟨_,e,rfl,rfl⟩
 atK:=λc i h q x k=>x.at k
 UC:=λh q f x k=>x.at k
 obj:=λc i h x=>by
  obtain⟨o,r,_,hd⟩:=x;exact⟨o,r,λv z=>by rw[hd]at z;cases z⟩
 item:=λA s c i f x Q E g j m d=>wpAny_nextOf_list_item g j m d
 fin:=λA s c i f Q E n g j m d=>wpAny_nextOf_list_end n g j m d
def Am(r:a.heap.IsTupleIter b c f)(s:a.heap.IsTuple c h)(t:h[f]?=some g)(u:∀p,p.IsTupleIter b c (f+1)->Heap.SameBut b a.heap p->i g { a with heap:=p }):wpAny (model e d) k (Builtin.SmallTypes.nextOf (.ref b)) i j a:=by
 obtain⟨y,m,q,l⟩:=id r;obtain⟨v,o,_,w,n⟩:=s;unfold Builtin.SmallTypes.nextOf;refine ao (wpAny_callSpecial?_slot (name:=Str.ofString "__next__") r.typeIs gF (ju gF r.typeIs kD ?_ (j9 _)));show wpAny (model e d) _ (field (.ref b) 0>>=_) _ _ a;refine ao (cY m l (x:=.ref c) rfl ?_);show wpAny (model e d) _ (if(Value.ref c==Value.none)=true then _ else _) _ _ a;rw[ah (by exact bq)];show wpAny (model e d) _ (field (.ref b) 1>>=_) _ _ a;refine ao (cY m l (x:=.int f 0) rfl ?_);show wpAny (model e d) _ (seqItems? (.ref c)>>=_) _ _ a;refine ao (fG o n ?_);simp only[bM,t];refine ao (iV m l (by simp) (bh ⟨g,rfl,bh (u _ ?_ (Heap.SameBut.update ..))⟩));exact⟨_,gq _ m (ic (eW l _)),(Obj.cls_mapFields ..).trans q,by rw[eW l];simp[rawInt]⟩
def A5(u:j.handled=none)(t:b.heap.IsTupleIter c g h)(w:b.heap.IsTuple g i)(y:i[h]?=none)(v:∀r e,Heap.ExtBut c b.heap r->(∃o,r.get? e=some o/\o.cls=.type "StopIteration")->k (.ref e) { b with heap:=r }):wpAny (model f d) j (Builtin.SmallTypes.nextOf (.ref c)) l k b:=by
 obtain⟨C,n,z,s⟩:=id t;obtain⟨A,q,_,B,p⟩:=w;unfold Builtin.SmallTypes.nextOf;refine ao (wpAny_callSpecial?_slot (name:=Str.ofString "__next__") t.typeIs gF (ju gF t.typeIs kD ?_ (j9 _)));show wpAny (model f d) _ (field (.ref c) 0>>=_) _ _ b;refine ao (cY n s (x:=.ref g) rfl ?_);show wpAny (model f d) _ (if(Value.ref g==Value.none)=true then _ else _) _ _ b;rw[ah (by exact bq)];show wpAny (model f d) _ (field (.ref c) 1>>=_) _ _ b;refine ao (cY n s (x:=.int h 0) rfl ?_);show wpAny (model f d) _ (seqItems? (.ref g)>>=_) _ _ b;refine ao (fG q p ?_);simp only[bM,y];refine ao (wpAny_rule (ao (iV n s (by simp) ?_)));show wpAny (model f d) _ (newExc (.type "StopIteration") []>>=_) _ _ _;refine ao ?_;simp only[newExc,newTuple];refine ao (fg ?_ (by size_fits));refine ao (m:=firstArgMember _ _) (wpAny_of_eq (a:=Value.none) (by first|rfl|(simp only[firstArgMember];rfl)) ?_);refine fg ?_ (by size_fits);simp only[raiseNew];refine ao (wpAny_handled ?_)
 first|rw[show j.in1.handled=none from u]|rw[u]
 refine ao (bh (wpAny_throw ?_));exact v _ _ (((Heap.SameBut.update ..).extBut.push _).push _) ⟨_,bd _ rfl,rfl⟩
def OE(l:Addr):Ac b a l { cls:=.type "tuple_iterator",data:=.fields #[.ref l,.int 0 0] } (λh f=>h.IsTuple l f) (λc i h=>h.IsTupleIter c l i) where
 start:=λA s f Q E q d=>kc q d
 first:=λc h e=>⟨_,e,rfl,rfl⟩
 atK:=λc i h t x k=>let ⟨o,g,r⟩:=x;⟨o,k o g,r⟩
 UC:=λh t f x k=>let ⟨o,g,r⟩:=x;⟨o,k o g,r⟩
 obj:=λc i h x=>by
  obtain⟨o,g,_,hd⟩:=x;exact⟨o,g,λv z=>by rw[hd]at z;cases z⟩
 item:=λA s c i f x Q E j m n d=>Am j m n d
 fin:=λA s c i f Q E p j m n d=>A5 p j m n d
structure ZAp(z TI TO i1 i2 l1 l2:Addr):Prop where
 a1:TI≠z
 a2:TO≠z
 a3:i1≠z
 a4:i2≠z
 a5:TI≠TO
 a6:TI≠i1
 a7:TI≠i2
 a8:TO≠i1
 a9:TO≠i2
 a0:i1≠i2
 b1:l1≠z/\l1≠TO/\l1≠i1/\l1≠i2
 b2:l2≠z/\l2≠TO/\l2≠i1/\l2≠i2
def FP{P:Program}{w:World}{A:Around}{E:fz}{s:Shared}{l1:Addr}{l2:Addr}{Vp:Obj}{VM:Obj}{VN:Heap->Array Value->Prop}{Wv:Heap->Array Value->Prop}{H:Addr->Nat->Heap->Prop}{g:Addr->Nat->Heap->Prop}(p:Ac P w l1 Vp VN H)(r:Ac P w l2 VM Wv g){z TI TO f h:Addr}{F C:Nat}{R L:Array Value}{x y a b:Value}{Q:fz}(D:ZAp z TI TO f h l1 l2)(n:IsZip s.heap z TI TO .none)(HI:IsPair s.heap TI (.ref f) (.ref h))(K:IsPair s.heap TO a b)(p1:H f F s.heap)(p2:g h C s.heap)(q1:VN s.heap R)(q2:Wv s.heap L)(hx:R[F]?=some x)(hy:L[C]?=some y)(hQ:∀i,IsZip i z TI TO (rawInt s.heap.objs.size)->IsPair i TO x y->H f (F+1) i->g h (C+1) i->IsPair i s.heap.objs.size x y->i.objs.size=s.heap.objs.size+1->(∀c o,c≠z->c≠TO->c≠f->c≠h->s.heap.get? c=some o->i.get? c=some o)->Q (.ref s.heap.objs.size) { s with heap:=i }):wpAny (model P w) A (Builtin.«zip.__next__» ⟨[.ref z],[]⟩) (λfn s'=>∃v,fn=.done (.ret v)/\Q v s') E s:=by
 show wpAny (model P w) _ (field (.ref z) 2>>=_) _ _ _;refine ao (cY n rfl (x:=.bool false) rfl ?_);show wpAny (model P w) _ (field (.ref z) 3>>=_) _ _ _;refine ao (cY n rfl (x:=.ref TI) rfl ?_);refine ao (fG HI rfl ?_);show wpAny (model P w) _ (Builtin.SmallTypes.ownedTupleIsFree (.ref z)>>=_) _ _ _;refine ao ?_;unfold Builtin.SmallTypes.ownedTupleIsFree;refine ao (cY n rfl (x:=.none) rfl (bh ?_));simp only[if_true];refine ao (wpAny_rule ?_);refine ao (cY n rfl (x:=.ref TO) rfl ?_);refine ao (fV n (by simp) λg1 T k=>?_);replace T:IsZip g1 z TI TO .ellipsis:=T;refine ao ?_;simp only[List.zipIdx_cons,List.zipIdx_nil,mQ,List.forIn_nil];refine ao (ao (kf ?_));show wpAny (model P w) _ (Builtin.SmallTypes.nextOf (.ref f)>>=_) _ _ _;refine ao (p.item _ { s with heap:=g1 } f F R x _ _ (p.atK _ _ _ _ p1 λo e=>k.extBut _ _ D.a3 e) (p.UC _ _ _ q1 λo e=>k.extBut _ _ D.b1.1 e) hx λg2 Z m=>bh ?_);have o2:IsPair g2 TO a b:=m.extBut _ _ D.a8 (k.extBut _ _ D.a2 K);refine ao (fG o2 rfl ?_);refine ao (jR o2 λg3 O l=>?_);replace O:IsPair g3 TO x b:=O;refine ao (wpAny_letGo (bh ?_));refine ao (ao (kf ?_));show wpAny (model P w) _ (Builtin.SmallTypes.nextOf (.ref h)>>=_) _ _ _;refine ao (r.item _ { s with heap:=g3 } h C L y _ _ (r.atK _ _ _ _ p2 λo e=>l.extBut _ _ D.a9.symm (m.extBut _ _ D.a0.symm (k.extBut _ _ D.a4 e))) (r.UC _ _ _ q2 λo e=>l.extBut _ _ D.b2.2.1 (m.extBut _ _ D.b2.2.2.1 (k.extBut _ _ D.b2.1 e))) hy λg4 M t=>bh ?_);have o4:IsPair g4 TO x b:=t.extBut _ _ D.a9 O;refine ao (fG o4 rfl ?_);refine ao (jR o4 λd I u=>?_);replace I:IsPair d TO x y:=I;refine ao (wpAny_letGo (bh (bh ?_)));refine ao (fG I rfl ?_);refine ao (wpAny_newTuple ?_);have sz:d.objs.size=s.heap.objs.size:=by rw[u.1,t.1,l.1,m.1,k.1]
 have z5:IsZip d z TI TO .ellipsis:=u.extBut _ _ D.a2.symm (t.extBut _ _ D.a4.symm (l.extBut _ _ D.a2.symm (m.extBut _ _ D.a3.symm T)));have k5:∀c o,c≠z->c≠TO->c≠f->c≠h->s.heap.get? c=some o->d.get? c=some o:=λc o j G V U e=>
  u.extBut _ _ G (t.extBut _ _ U (l.extBut _ _ G (m.extBut _ _ V (k.extBut _ _ j e))))
 have N:H f (F+1) d:=p.atK _ _ _ _ Z λo e=>u.extBut _ _ D.a8.symm (t.extBut _ _ D.a0 (l.extBut _ _ D.a8.symm e));have W:g h (C+1) d:=r.atK _ _ _ _ M λo e=>u.extBut _ _ D.a9.symm e;have B:z<d.objs.size:=aO z5;show wpAny (model P w) _ (Builtin.SmallTypes.ownedTupleHandOut (.ref z) (.ref d.objs.size)>>=_) _ _ _;refine ao ?_;unfold Builtin.SmallTypes.ownedTupleHandOut;have z6:IsZip (d.push { cls:=.type "tuple",data:=.seq #[x,y] }) z TI TO .ellipsis:=aI _ z5;refine ao (fV z6 (by simp) λg7 Y S=>?_);replace Y:IsZip g7 z TI TO (rawInt d.objs.size):=Y;refine fV Y (by simp) λq J X=>?_;replace J:IsZip q z TI TO (rawInt d.objs.size):=J;have up:∀c o,c≠z->d.get? c=some o->q.get? c=some o:=λc o j e=>X.extBut _ _ j (S.extBut _ _ j (aI _ e));have t8:IsPair q d.objs.size x y:=X.extBut _ _ (fZ B) (S.extBut _ _ (fZ B) (bd _ rfl));have s8:q.objs.size=d.objs.size+1:=by rw[X.1,S.1,eK]
 rw[sz]at J t8 s8;refine bh ⟨_,rfl,?_⟩;show Q (.ref d.objs.size) _;rw[sz];exact hQ q J (up _ _ D.a2 I) (p.atK _ _ _ _ N λo e=>up _ o D.a3 e) (r.atK _ _ _ _ W λo e=>up _ o D.a4 e) t8 s8 λc o j G V U e=>up c o j (k5 c o j G V U e)
def Ii{P:Program}{w:World}{A:Around}{E:fz}{s:Shared}{l1:Addr}{l2:Addr}{Vp:Obj}{VM:Obj}{J:Heap->Array Value->Prop}{V:Heap->Array Value->Prop}{S:Addr->Nat->Heap->Prop}{y:Addr->Nat->Heap->Prop}(F:Ac P w l1 Vp J S)(O:Ac P w l2 VM V y){z TI TO g m:Addr}{n G:Nat}{l B:Array Value}{a b:Value}{Q:Fin->Shared->Prop}(Y:A.handled=none)(D:ZAp z TI TO g m l1 l2)(v:IsZip s.heap z TI TO .none)(HI:IsPair s.heap TI (.ref g) (.ref m))(H:IsPair s.heap TO a b)(p1:S g n s.heap)(p2:y m G s.heap)(q1:J s.heap l)(q2:V s.heap B)(Xr:l[n]?=none\/B[G]?=none)(U:∀L e,(∀c o,c≠z->c≠TO->c≠g->c≠m->s.heap.get? c=some o->L.get? c=some o)->(∃o,L.get? e=some o/\o.cls=.type "StopIteration")->E (.ref e) { s with heap:=L }):wpAny (model P w) A (Builtin.«zip.__next__» ⟨[.ref z],[]⟩) Q E s:=by
 show wpAny (model P w) _ (field (.ref z) 2>>=_) _ _ _;refine ao (cY v rfl (x:=.bool false) rfl ?_);show wpAny (model P w) _ (field (.ref z) 3>>=_) _ _ _;refine ao (cY v rfl (x:=.ref TI) rfl ?_);refine ao (fG HI rfl ?_);show wpAny (model P w) _ (Builtin.SmallTypes.ownedTupleIsFree (.ref z)>>=_) _ _ _;refine ao ?_;unfold Builtin.SmallTypes.ownedTupleIsFree;refine ao (cY v rfl (x:=.none) rfl (bh ?_));simp only[if_true];refine ao (wpAny_rule ?_);refine ao (cY v rfl (x:=.ref TO) rfl ?_);refine ao (fV v (by simp) λr C k=>?_);replace C:IsZip r z TI TO .ellipsis:=C;refine ao ?_;simp only[List.zipIdx_cons,List.zipIdx_nil,mQ,List.forIn_nil];refine ao (ao (kf ?_));show wpAny (model P w) _ (Builtin.SmallTypes.nextOf (.ref g)>>=_) _ _ _;have q:S g n r:=F.atK _ _ _ _ p1 λo e=>k.extBut _ _ D.a3 e;have u:J r l:=F.UC _ _ _ q1 λo e=>k.extBut _ _ D.b1.1 e;cases hx:l[n]? with
 | none=>
   refine ao (F.fin _ { s with heap:=r } g n l _ _ Y q u hx λI e f K=>?_);obtain⟨R,j,d⟩:=K;have z2:IsZip I z TI TO .ellipsis:=f _ _ D.a3.symm C;have N:e≠z:=λt=>by subst t;rw[z2]at j;cases j;simp at d
   refine fV z2 (by simp) λT _ i=>U T e (λc o p _ M _ t=>i.extBut _ _ p (f _ _ M (k.extBut _ _ p t))) ⟨R,i.extBut _ _ N j,d⟩
 | some x=>
   have hy:B[G]?=none:=by
    rcases Xr with h|h
    .rw[hx]at h;cases h
    .exact h
   refine ao (F.item _ { s with heap:=r } g n l x _ _ q u hx λI ar f=>bh ?_);have W:IsPair I TO a b:=f.extBut _ _ D.a8 (k.extBut _ _ D.a2 H);refine ao (fG W rfl ?_);refine ao (jR W λT o3 i=>?_);refine ao (wpAny_letGo (bh ?_));refine ao (ao (kf ?_));show wpAny (model P w) _ (Builtin.SmallTypes.nextOf (.ref m)>>=_) _ _ _;refine ao (O.fin _ { s with heap:=T } m G B _ _ Y (O.atK _ _ _ _ p2 λo e=>i.extBut _ _ D.a9.symm (f.extBut _ _ D.a0.symm (k.extBut _ _ D.a4 e))) (O.UC _ _ _ q2 λo e=>i.extBut _ _ D.b2.2.1 (f.extBut _ _ D.b2.2.2.1 (k.extBut _ _ D.b2.1 e))) hy λg4 e X K=>?_);obtain⟨R,j,d⟩:=K;have z4:IsZip g4 z TI TO .ellipsis:=X _ _ D.a4.symm (i.extBut _ _ D.a2.symm (f.extBut _ _ D.a3.symm C));have N:e≠z:=λt=>by subst t;rw[z4]at j;cases j;simp at d
   refine fV z4 (by simp) λg5 _ Z=>U g5 e (λc o p c2 M c4 t=>Z.extBut _ _ p (X _ _ c4 (i.extBut _ _ c2 (f.extBut _ _ M (k.extBut _ _ p t))))) ⟨R,Z.extBut _ _ N j,d⟩
abbrev zp1(h:Heap)(b a:Obj):Heap:=(h.push b).push a
abbrev zp2(h:Heap)(a b:Obj):Heap:=(zp1 h a b).push { cls:=.type "tuple",data:=.seq #[.ref h.objs.size,.ref (h.push a).objs.size] }
abbrev zp3(h:Heap)(b a:Obj):Heap:=(zp2 h b a).push { cls:=.type "tuple",data:=.seq #[.none,.none] }
abbrev Zi(h:Heap)(b a:Obj):Heap:=(zp3 h b a).push { cls:=.type "zip",data:=.fields #[.none,.bool false,.bool false,.ref (zp1 h b a).objs.size,.ref (zp2 h b a).objs.size] }
def FC(D:∀P w,Ac P w j b c k)(u:∀P w,Ac P w i f a l)(ne:∀h E,a h E->∃o,h.get? i=some o)(t p:Array Value):Meets (Builtin.«zip.__new__» ⟨[.type "zip",.ref j,.ref i],[]⟩) (λ_ R s=>c s.heap t/\a s.heap p/\R (.ok (.ret (.ref (zp3 s.heap b f).objs.size))) { s with heap:=Zi s.heap b f }):=.of_wp λm w A R s n=>by
 obtain⟨v,g,d,q,os⟩:=s;obtain⟨C,x,r⟩:=n;have y:=sub_zip;have B:c (Shared.heap ⟨v,g,d,q,os⟩) t:=C;have z:a (Shared.heap ⟨v.push b,g,d,q,os⟩) p:=(u m w).UC _ _ _ x λo e=>aI _ e
 wp_walk using ((D m w).start _ _ _ _ _ B),((u m w).start _ _ _ _ _ z)
 exact⟨_,rfl,r⟩
def Pp{P:Program}{s:Shared}(B:∀P f,Ac P f n a g j)(C:∀P f,Ac P f i b d k)(ne:∀h K,d h K->∃o,h.get? i=some o){Q:fz}(I:g s.heap l)(G:d s.heap m)(h:∀r,IsZip r (s.heap.objs.size+4) (s.heap.objs.size+2) (s.heap.objs.size+3) .none->IsPair r (s.heap.objs.size+2) (.ref s.heap.objs.size) (.ref (s.heap.objs.size+1))->IsPair r (s.heap.objs.size+3) .none .none->j s.heap.objs.size 0 r->k (s.heap.objs.size+1) 0 r->(∀c o,s.heap.get? c=some o->r.get? c=some o)->Q (.ref (s.heap.objs.size+4)) { s with heap:=r })(H:a.isFreed=false)(J:b.isFreed=false):wpAny (model P f) q (call (.type "zip") [.ref n,.ref i]) Q p s:=by
 refine callType_new F.called_zip (by decide) (F.typeCall_zip_2 _ _) (F.newCall_zip_2 _ _) (λx=>F.args_object_init_3 x _ _) F.entry_zip_new (FC B C ne l m) ⟨I,G,?_⟩;have w:(s.heap.push a).objs.size=s.heap.objs.size+1:=eK ..;have u:(zp1 s.heap a b).objs.size=s.heap.objs.size+2:=by rw[eK,w]
 have t:(zp2 s.heap a b).objs.size=s.heap.objs.size+3:=by rw[eK,u]
 have D:(zp3 s.heap a b).objs.size=s.heap.objs.size+4:=by rw[eK,t]
 have v:(Zi s.heap a b).get? (zp3 s.heap a b).objs.size=some _:=bd _ rfl;have z:(Zi s.heap a b).get? (zp2 s.heap a b).objs.size=some _:=aI _ (bd _ rfl);have A:(Zi s.heap a b).get? (zp1 s.heap a b).objs.size=some _:=aI _ (aI _ (bd _ rfl));have y:(Zi s.heap a b).get? (s.heap.push a).objs.size=some b:=aI _ (aI _ (aI _ (bd _ J)));have E:(Zi s.heap a b).get? s.heap.objs.size=some a:=aI _ (aI _ (aI _ (aI _ (bd _ H))));show _/\_;rw[u,t,D]at v;rw[w,u]at A;rw[t]at z;rw[w]at y;rw[D];exact⟨⟨_,v,rfl⟩,h _ v A z ((B P f).first _ _ E) ((C P f).first _ _ y) λc o e=>aI _ (aI _ (aI _ (aI _ (aI _ e))))⟩
def ϐ(K:gy):Bool->Hp->Addr->List V->Prop
 | true,H,a,xs=>ν K H a xs
 | false,H,a,xs=>Δ K H a xs
def Itz(K:gy)(c d:Bool)(a b:Addr):It:=⟨λi H=>∃e f x y,ϐ K c H a e/\ϐ K d H b f/\e[i]?=some x/\f[i]?=some y,λi H v g=>∃p x y,H p=none/\v=.ref p/\g=upd H p (.tup [x,y])/\(∀e,ϐ K c H a e->e[i]?=some x)/\∀f,ϐ K d H b f->f[i]?=some y,λi H=>∃e f,ϐ K c H a e/\ϐ K d H b f/\(e.length<=i\/f.length<=i)⟩
def Sn(a:Addr):Bool->Obj
 | true=>{ cls:=.type "list_iterator",data:=.fields #[.ref a,.int 0 0] }
 | false=>{ cls:=.type "tuple_iterator",data:=.fields #[.ref a,.int 0 0] }
def KB(a:Addr):Bool->Heap->Array Value->Prop
 | true,h,vs=>h.IsList a vs
 | false,h,vs=>h.IsTuple a vs
def zAt(a:Addr):Bool->Addr->Nat->Heap->Prop
 | true,it,i,h=>h.IsListIter it a i
 | false,it,i,h=>h.IsTupleIter it a i
def kj(a:Addr)(c:Bool)(P:Program)(w:World):Ac P w a (Sn a c) (KB a c) (zAt a c):=by
 cases c
 .exact OE a
 .exact LP a
def yz(a:Addr)(c:Bool):(Sn a c).isFreed=false:=by cases c<;>rfl
def sQ(a:Addr)(c:Bool)(h:Heap)(b:Array Value)(e:KB a c h b):∃o,h.get? a=some o:=by
 cases c
 .obtain⟨o,ho,_⟩:=e;exact⟨o,ho⟩
 .obtain⟨o,ho,_⟩:=e;exact⟨o,ho⟩
def Inv.ϭ{X:Cx}{d:g8}{k:St}{H:Hp}{s:Shared}{c:Bool}{a:Addr}{e:List V}(I:Inv X d k H s)(h:ϐ X.K c H a e):∃b:List Value,Vals e b/\KB a c s.heap b.toArray:=by
 cases c with
 | true=>
   obtain⟨b,r,f,_⟩:=I.list h;exact⟨b,r,f.isList⟩
 | false=>
   obtain⟨b,r,⟨o,j,i,n,g⟩,_⟩:=I.tuple h;exact⟨b,r,⟨o,j,i,n,g⟩⟩
def Inv.UD{X:Cx}{b:g8}{g:St}{H:Hp}{s:Shared}{c:Bool}{a:Addr}{d e:List V}(I:Inv X b g H s)(h:ϐ X.K c H a d)(f:ϐ X.K c H a e):d=e:=by
 cases c with
 | true=>exact I.iN h f
 | false=>exact I.Um h f
def OU{P:Program}{w:World}{K:gy}{ab:List Expr}{x1}{U5:Pos}(c d:Bool)(a b z TI TO i1 i2:Addr)(D:ZAp z TI TO i1 i2 a b):Turn P w K (.Tuple ab x1 U5) (Itz K c d a b) [z,TI,TO,i1,i2] z (λi h=>IsZip h z TI TO .none/\IsPair h TI (.ref i1) (.ref i2)/\(∃u v,IsPair h TO u v)/\zAt a c i1 i h/\zAt b d i2 i h) where
 mem:=by simp
 obj:=λi h t e he=>by
  obtain⟨t1,J,⟨u,v,N⟩,M,L⟩:=t;simp only[aA,d7,or_false]at he;rcases he with rfl|rfl|rfl|rfl|rfl
  .exact⟨_,t1,λv z=>by cases z⟩
  .exact⟨_,J,λv z=>by cases z⟩
  .exact⟨_,N,λv z=>by cases z⟩
  .exact(kj a c P w).obj _ _ _ M
  .exact(kj b d P w).obj _ _ _ L
 keep:=λi h h' t k=>by
  obtain⟨t1,J,⟨u,v,N⟩,M,L⟩:=t;exact⟨k z (by simp) _ t1,k TI (by simp) _ J,⟨u,v,k TO (by simp) _ N⟩,(kj a c P w).atK _ _ _ _ M λo e=>k i1 (by simp) o e,(kj b d P w).atK _ _ _ _ L λo e=>k i2 (by simp) o e⟩
 item:=λX e1 e2 e3 hc i C s σ H E I f t g=>by
  subst e1 e2 e3;obtain⟨t1,J,⟨u,v,N⟩,M,L⟩:=t;obtain⟨xs,ys,x,y,s1,s2,hx,hy⟩:=g;obtain⟨us,r1,q1⟩:=I.ϭ s1;obtain⟨vs,r2,q2⟩:=I.ϭ s2;obtain⟨xu,aH,rx⟩:=r1.get hx;obtain⟨yu,a8,ry⟩:=r2.get hy;have V:s.TypeIs (.ref z) "zip":=⟨_,t1,rfl⟩;unfold pyNext;refine ao (wpAny_attempt (wpAny_callSpecial?_slot (name:=Str.ofString "__next__") V jX (ju jX V F.entry_zip_next
   (FP (kj a c _ _) (kj b d _ _) D t1 J N M L q1 q2 (x:=xu) (y:=yu) (by simpa using aH) (by simpa using a8) λh' w1 w2 w3 w4 w5 w6 w7=>bh ?_) (F.args_zip_next_1 _))))
  refine⟨_,rfl,wpAny_letOwnedTupleGo_zip w1 λU n1 R=>?_⟩;have G:∀q∈[z,TI,TO,i1,i2],qg X C H q:=f;have al:s.heap.objs.size≠z:=fZ (aO t1);have new:IsPair U s.heap.objs.size xu yu:=R.extBut _ _ al w5;have kp:∀q o,q∉[z,TI,TO,i1,i2]->s.heap.get? q=some o->U.get? q=some o:=λq o j e=>by
   simp only[aA,d7,or_false,not_or]at j;exact R.extBut _ _ j.1 (w7 q o j.1 j.2.2.1 j.2.2.2.1 j.2.2.2.2 e)
  have bk:U.get? TI=some _:=R.extBut _ _ D.a1 (w7 TI _ D.a1 D.a5 D.a6 D.a7 J);have Y:∀q u,H q=some u->q∉[z,TI,TO,i1,i2]:=λq u e j=>by rw[(G q j).1]at e;cases e
  have B:Inv X C σ H { s with heap:=U }:=by
   refine I.step (g':=s.gens) (d':=s.drawn) (t':=s.toks) (ch:=[z,TI,TO,i1,i2]) (λq j=>⟨(G q j).2.2.2.1,(G q j).2.1,(G q j).2.2.2.2.1,(G q j).2.2.2.2.2⟩) (λq o _ _ j e _=>kp q o j e) (λq o _ _ j e _=>⟨o.slots,kp q o j e⟩) (λ_ _ _ _ n=>n)
    (λq o j e=>⟨o,kp q o j e⟩) (λ_ _ e=>e) (λ_ _ _ e=>e) (λq ps e=>⟨#[],by rw[e];simp⟩) (λm hm=>?_) (λq u e=>?_) I.bare
   .obtain⟨o,es,ep,O,r⟩:=hm;exact⟨o,es,ep,kp _ o (λj=>(G _ j).2.1 rfl) O,r⟩
   .refine(I.Α q u e).lT (λZ v TR l=>kp Z v ?_ l) (λ_ l=>l) λ_ _ l=>l;rcases TR with rfl|TR
    .exact Y _ u e
    .exact Y _ _ TR
  have S:H s.heap.objs.size=none:=I.fresh;have I3:Inv X C σ (upd H s.heap.objs.size (.tup [x,y])) { s with heap:=U }:=by
   refine⟨B.ok,B.os,B.bare,?_,B.loc,B.cell,?_,λn c e=>?_,λp hp=>?_,λq u e=>?_,B.len⟩
   .refine⟨B.base.keep,B.base.slot,λq o e n hx=>?_,B.base.there,λq xs e=>?_,λq o u e=>?_,λq ps e=>?_⟩
    .have lt:q<X.s₀.heap.objs.size:=aO e;rw[aW (bf (be lt I.sz))];exact B.base.free q o e n hx
    .have l:=B.base.nE q xs e;rw[aW (λz=>by rw[z,S]at l;cases l)];exact l
    .have l:=B.base.iD q o u e;rw[aW (λz=>by rw[z,S]at l;cases l)];exact l
    .obtain⟨more,l⟩:=B.base.oK q ps e;exact⟨more,by rw[aW (λz=>by rw[z,S]at l;cases l)];exact l⟩
   .rw[aW (bf I.lt)];exact B.free
   .obtain⟨vv,o,O,_⟩:=I.cell n c e;rw[aW (bf (aO O))];exact B.ϝ n c e
   .obtain⟨k1,k2,k3⟩:=I.pin p hp;rw[aW (bf (aO k1))];exact B.pin p hp
   .by_cases j:q=s.heap.objs.size
    .subst j;rw[az]at e;cases e;exact⟨by show 2<=sizeLine;decide,[xu,yu],.cons rx (.cons ry .nil),_,new,rfl,_,rfl⟩
    .rw[aW j]at e;refine(B.Α q u e).lT (λ_ _ _ l=>l) (λZ l=>?_) λZ xs l=>?_
     .rw[aW (λz=>by rw[z,S]at l;cases l)];exact l
     .rw[aW (λz=>by rw[z,S]at l;cases l)];exact l
  refine⟨.ref s.heap.objs.size,_,I3,rfl,⟨_,x,y,S,rfl,rfl,λb0 q=>?_,λϮ q=>?_⟩,⟨n1,bk,⟨_,_,R.extBut _ _ D.a2 w2⟩,(kj a c X.prog X.w).atK _ _ _ _ w3 λo e=>R.extBut _ _ D.a3 e,(kj b d X.prog X.w).atK _ _ _ _ w4 λo e=>R.extBut _ _ D.a4 e⟩,λq j=>?_⟩
  .rw[<-I.UD s1 q];exact hx
  .rw[<-I.UD s2 q];exact hy
  .have ϒ:q<s.heap.objs.size:=by
    simp only[aA,d7,or_false]at j;rcases j with rfl|rfl|rfl|rfl|rfl
    .exact aO t1
    .exact aO J
    .exact aO N
    .exact let ⟨o,e,_⟩:=(kj a c X.prog X.w).obj _ _ _ M;aO e
    .exact let ⟨o,e,_⟩:=(kj b d X.prog X.w).obj _ _ _ L;aO e
   rw[aW (bf ϒ)];exact(G q j).1
 done:=λX e1 e2 e3 hc i C s σ H E I f t g=>by
  subst e1 e2 e3;obtain⟨t1,J,⟨u,v,N⟩,M,L⟩:=t;obtain⟨xs,ys,s1,s2,Xr⟩:=g;obtain⟨us,r1,q1⟩:=I.ϭ s1;obtain⟨vs,r2,q2⟩:=I.ϭ s2;have G:∀q∈[z,TI,TO,i1,i2],qg X C H q:=f;have hh:X.A.handled=none:=I.ok.hd hc;have V:s.TypeIs (.ref z) "zip":=⟨_,t1,rfl⟩;have ar:us.toArray[i]?=none\/vs.toArray[i]?=none:=by
   rcases Xr with e|e
   .exact .inl (by have:=r1.length;simp;lia)
   .exact .inr (by have:=r2.length;simp;lia)
  unfold pyNext;refine ao (wpAny_attempt (wpAny_callSpecial?_slot (name:=Str.ofString "__next__") V jX (ju jX V F.entry_zip_next
   (Ii (kj a c _ _) (kj b d _ _) hh D t1 J N M L q1 q2 ar λh' e hk he=>?_) (F.args_zip_next_1 _))))
  obtain⟨o,O,br⟩:=he;refine ao (wpAny_isInstance (T:="StopIteration") (b:=true) ⟨o,O,br⟩ isSubtype_stop (bh ⟨rfl,?_⟩));have kp:∀q o,q∉[z,TI,TO,i1,i2]->s.heap.get? q=some o->h'.get? q=some o:=λq o j e=>by
   simp only[aA,d7,or_false,not_or]at j;exact hk q o j.1 j.2.2.1 j.2.2.2.1 j.2.2.2.2 e
  have Y:∀q u,H q=some u->q∉[z,TI,TO,i1,i2]:=λq u e j=>by rw[(G q j).1]at e;cases e
  refine I.step (g':=s.gens) (d':=s.drawn) (t':=s.toks) (ch:=[z,TI,TO,i1,i2]) (λq j=>⟨(G q j).2.2.2.1,(G q j).2.1,(G q j).2.2.2.2.1,(G q j).2.2.2.2.2⟩) (λq o _ _ j e _=>kp q o j e) (λq o _ _ j e _=>⟨o.slots,kp q o j e⟩) (λ_ _ _ _ n=>n)
   (λq o j e=>⟨o,kp q o j e⟩) (λ_ _ e=>e) (λ_ _ _ e=>e) (λq ps e=>⟨#[],by rw[e];simp⟩) (λm hm=>?_) (λq u e=>?_) I.bare
  .obtain⟨o,es,ep,O,r⟩:=hm;exact⟨o,es,ep,kp _ o (λj=>(G _ j).2.1 rfl) O,r⟩
  .refine(I.Α q u e).lT (λZ v TR l=>kp Z v ?_ l) (λ_ l=>l) λ_ _ l=>l;rcases TR with rfl|TR
   .exact Y _ u e
   .exact Y _ _ TR
 self:=λA i s Q E t q=>wpAny_pyIter_zip t.1 q
def KD:typeLookup (.type "list_reverseiterator") "__len__"=pure none:=by rw[typeLookup_type,builtinLookup_eq_fast];kernel_rfl
def OM:typeLookup (.type "list_reverseiterator") "__length_hint__"=pure (some (.builtin "list_reverseiterator.__length_hint__")):=by rw[typeLookup_type,builtinLookup_eq_fast];kernel_rfl
def OQ(l:a.TypeIs (.ref c) "list_reverseiterator")(h:d false a):wpAny (model e f) i (Builtin.List.listLengthHint (.ref c)) d g a:=by
 unfold Builtin.List.listLengthHint;refine ao (jI l KD ?_);refine gO (λj=>absurd j (by decide)) (λ_=>?_);refine gO (λj=>absurd j (by decide)) (λ_=>?_);refine ao (jI l OM ?_);generalize k:("list_reverseiterator.__length_hint__":String)=m
 wp_delta
 rw[show splitId m=some ("list_reverseiterator","__length_hint__")from by subst k;decide +kernel];subst k;refine ao (wpAny_isInstance (T:="list_reverseiterator") (b:=true) l (by rw[isSubtype_type];kernel_rfl) ?_);refine gO (λj=>absurd j (by decide)) (λ_=>?_);refine gO (λ_=>?_) (λj=>absurd (by decide +kernel) j);refine gO (λj=>absurd j (by decide +kernel)) (λ_=>?_);exact bh h
def FK(I l:Addr)(a:Array Value)(i:Nat)(h:Heap):Prop:=i<=a.size/\h.IsRevIter I l ((a.size:Int)-1-(i:Int))/\h.IsList l a
def Kh(a:Array Value)(i:Nat)(v:Value):Prop:=a[a.size-1-i]?=some v
def Ky(v:g.handled=none)(st:FK I l its 0 s.heap)(ne:l≠I)(q:c≠I)(t:c≠l)(z:its.size<=sizeLine)(B:s.heap.get? c=some { cls:=.type "list",data:=.seq #[] i })(D:∀k m n,Moved [c,I] (λa b=>b=a) s k->k.heap.get? c=some { cls:=.type "list",dict:=none,data:=.seq m n,slots:=#[] }->ItemsOf (Kh its) m its.size->R (.ok (.ret d)) k):wpAny (model j h) g.in1 (Builtin.List.listExtendWith (.ref c) (.ref I) d) (λE k=>match E with|.done f=>R (.ok f) k|.again n=>n.quiet=true/\codeAny (model j h) g n R k) (λe k=>R (.error e) k) s:=by
 have W:=(Walks.listRev (prog:=j) (w:=h) (A:=g.in1) v I l ne its).toS;have p:s.TypeIs (.ref I) "list_reverseiterator":=st.2.1.typeIs;unfold Builtin.List.listExtendWith;refine ao (wpAny_typeOf p ?_);have r:Builtin.List.listSameRef (.ref c) (.ref I)=false:=by simp[Builtin.List.listSameRef,q]
 have C:(Value.type "list_reverseiterator" == Value.type "list")=false:=by decide
 have y:(Value.type "list_reverseiterator" == Value.type "tuple")=false:=by decide
 simp only[r,C,y,nZ,cZ,if_false];refine ao (iw st.2.1 ?_);refine ao (eV (OQ p ?_));refine gO (λG=>absurd G (by decide +kernel)) (λ_=>?_);refine bh ⟨plainId_quiet F.plain_extend_loop _,codeAny_extend_loopS W z c (by simp[q,t]) d its.size 0 _ #[] i rfl (cI _) st B (ItemsOf.nil _) λk m n x o u=>?_⟩;exact D k m n x o u
def Ja(y:g.handled=none)(st:FK d f c 0 a.heap)(ne:f≠d)(A:c.size<=sizeLine)(D:∀(n:Shared) (m:Array Value),n.os=a.os->n.gens=a.gens->n.drawn=a.drawn->(∀b o,b≠d->a.heap.get? b=some o->n.heap.get? b=some o)->a.heap.objs.size<=n.heap.objs.size->ItemsOf (Kh c) m c.size->j m.toList n):wpAny (model i h) g (collect (.ref d)) j k a:=by
 obtain⟨E,r,_⟩:=id st.2.1;obtain⟨G,u,_⟩:=id st.2.2;have B:a.heap.objs.size≠d:=fZ (aO r);have w:a.heap.objs.size≠f:=fZ (aO u);unfold collect;refine ao (wpAny_runValue (codeAny_builtin F.entry_proto_collect ?_));rw[Around.under_plainId F.plain_proto_collect _];show wpAny (model i h) g.in1 (newList []>>=λf=>again (.builtin "list.__iadd__" ⟨[f,.ref d],[]⟩)) _ _ a;refine ao (fg ?_);refine bh ⟨plainId_quiet F.plain_list_iadd _,codeAny_builtin F.entry_list_iadd ?_⟩;rw[Around.under_plainId F.plain_list_iadd _];have t:∀b o,a.heap.get? b=some o->(a.heap.push { cls:=.type "list",data:=.seq ([]:hE).toArray }).get? b=some o:=λb o e=>aI _ e;show wpAny (model i h) g.in1 (Builtin.List.listExtendWith (.ref a.heap.objs.size) (.ref d) (.ref a.heap.objs.size)) _ _ _;have C:(a.heap.push { cls:=.type "list",data:=.seq ([]:hE).toArray }).get? a.heap.objs.size=some { cls:=.type "list",data:=.seq #[] }:=bd _ rfl;refine Ky (R:=wants _ _) (s:={ a with heap:=a.heap.push { cls:=.type "list",data:=.seq ([]:hE).toArray } }) y (I:=d) (l:=f) (its:=c) ⟨st.1,st.2.1.at λo e=>t _ o e,st.2.2.at λo e=>t _ o e⟩ ne B w A C λn m H q p x=>?_;show wpAny (model i h) g (load a.heap.objs.size>>=_) _ _ n;refine ao (wpAny_load p (bh (D n m q.os q.gens q.drawn (λb o v e=>q.heap b o (λz=>?_) (t b o e)) (iH (aO p)) x)));simp only[aA,d7,or_false]at z;rcases z with z|z
 .exact absurd (aO e) (by rw[z];exact di _)
 .exact v z
def MG{b a:hE}(h:ItemsOf (Kh b.toArray) a.toArray b.toArray.size):a=b.reverse:=by
 obtain⟨e,d⟩:=h;simp only[aY]at e;refine fK λj=>?_;by_cases c:j<a.length
 .have q:=d j a[j] (by simp[c]);unfold Kh at q;rw[aB c,cL (by lia)];simp only[aY,List.getElem?_toArray]at q;exact q.symm
 .rw[bP (by lia),bP (by rw[bi];lia)]
def Rg{X:Cx}{e:Expr}{v:TE}{j:Pos}{pos:Pos}{i:Pos}{c:g8}{s:Shared}{l:St}{H:Hp}{R:List Value->Shared->Prop}(E:Gl X "reversed")(B:X.mg "reversed"=none)(G:PE X e v)(I:Inv X c l H s){m:V->Hp->Prop}(h:v l H m)(D:starEach [.Call (.Name "reversed" j) [e] [] i] X.env=[(false,eval (.Call (.Name "reversed" j) [e] [] i) X.env)])(t:starEach [e] X.env=[(false,eval e X.env)])(k:∀d f x a g (b:hE),Inv X c l f d->m x f->x=.ref a->ν X.K f a g->Vals g b->FK d.heap.objs.size a b.toArray 0 (d.heap.push (revObj a ((b.toArray.size:Int)-1)))->a≠d.heap.objs.size->b.toArray.size<=sizeLine->R [.ref d.heap.objs.size] { d with heap:=d.heap.push (revObj a ((b.toArray.size:Int)-1)) })(F:∀x f,m x f->∃a g,x=.ref a/\ν X.K f a g):wpAny (model X.prog X.w) X.A (spliced (backTo pos (starEach [.Call (.Name "reversed" j) [e] [] i] X.env))) R X.xe s:=by
 rw[D];show wpAny _ _ (spliced ((false,eval (.Call (.Name "reversed" j) [e] [] i) X.env)::backTo pos [])) _ _ s;refine fB ?_;refine Call_ (rR I E B boot_reversed (dy ?_ t rfl));rw[t];show wpAny _ _ (spliced ((false,eval e X.env)::backTo i [])) _ _ s;refine fB (eA (G c s l H _ I h) λu d x f o z p=>gB ?_);obtain⟨a,g,y,q⟩:=F x f p;subst y;cases z;obtain⟨b,r,n,C⟩:=o.list q;have ne:a≠d.heap.objs.size:=bf n.lt;refine call_reversed_list n.isList (gB ?_);refine k d f _ a g b o p rfl q r ⟨cI _,⟨_,bd _ rfl,rfl,?_⟩,n.isList.push _⟩ ne (by rw[aY,<-r.length];exact C);simp[revObj]
def kY{a b:Nat}(h:a<b\/b<a):a≠b:=by lia
def Sd(n a b:Nat)(d:a<n)(c:b<n):ZAp (n+4) (n+2) (n+3) n (n+1) a b:=⟨kY (by lia),kY (by lia),kY (by lia),kY (by lia),kY (by lia),kY (by lia),kY (by lia),kY (by lia),kY (by lia),kY (by lia),⟨kY (by lia),kY (by lia),kY (by lia),kY (by lia)⟩,⟨kY (by lia),kY (by lia),kY (by lia),kY (by lia)⟩⟩
def RV(K:gy)(c d:Bool)(j:TA):TI:=λh H R=>j h H λf e=>∃a b,f=[.ref a,.ref b]/\(∃g,ϐ K c e a g)/\(∃i,ϐ K d e b i)/\R (Itz K c d a b) e
def MN{X:Cx}{g:List Expr}{x1}{U5:Pos}{ea eb:Expr}{ta:TA}{p pos:Pos}(c d:Bool)(hg:Gl X "zip")(hm:X.mg "zip"=none)(ha:PA X [ea,eb] ta)(hs:starEach [ea,eb] X.env=[(false,eval ea X.env),(false,eval eb X.env)]:=by rfl)(WW:starEach [eb] X.env=[(false,eval eb X.env)]:=by rfl):PI X (.Tuple g x1 U5) (.Call (.Name "zip" p) [ea,eb] [] pos) (RV X.K c d ta):=by
 intro k s L H R I h;refine Call_ (rR I hg hm boot_zip (dy (uw (ha pos k s L H _ I h) λA f F C i o l=>?_) (by rw[hs,WW]) (by rw[WW];rfl)));obtain⟨a,b,e,⟨U,M⟩,⟨S,J⟩,q⟩:=l;subst e;obtain⟨u,v,rfl,x,N⟩:=PR o;cases x;cases N;obtain⟨A,o,l⟩:=i.ϭ M;obtain⟨F,T,t⟩:=i.ϭ J;obtain⟨W,n⟩:=sQ a c _ _ l;obtain⟨Q,m⟩:=sQ b d _ _ t;have y:=aO n;have P:=aO m;refine Pp (kj a c) (kj b d) (sQ b d) l t (λV w O B E z G=>?_) (yz a c) (yz b d);refine wpAny_pyIter_zip w ?_;have D:=Sd f.heap.objs.size a b y P;refine⟨_,[f.heap.objs.size+4,f.heap.objs.size+2,f.heap.objs.size+3,f.heap.objs.size,f.heap.objs.size+1],_,_,C,rfl,i.kept (t':=f.toks) G,OU c d a b _ _ _ _ _ D,⟨w,O,⟨_,_,B⟩,E,z⟩,λq r=>?_,q⟩;have j:f.heap.objs.size<=q:=by
  simp only[aA,d7,or_false]at r;rcases r with rfl|rfl|rfl|rfl|rfl
  .exact jt _ 4
  .exact jt _ 2
  .exact jt _ 3
  .exact aU _
  .exact jt _ 1
 exact i.Vi j (i.Α.fresh j)
end L2
namespace Pb
structure Road where
 a:Int
 b:Int
 t:Int
 u:Int
 deriving DecidableEq
abbrev hR:=List Road
def Mc(m:Int)(c:hR):Prop:=∀S:Int->Prop,S 0->(∀r∈c,(S r.a↔S r.b))->∀v,0<=v->v<m->S v
structure T4(m:Int)(r:Road):Prop where
 a0:0<=r.a
 a1:r.a<m
 b0:0<=r.b
 b1:r.b<m
 ne:r.a≠r.b
 t0:2<=r.t
 t1:r.t<=1000000
 u0:2<=r.u
 u1:r.u<=1000000
structure Good(m:Int)(rs:hR):Prop where
 m1:1<=m
 Β:m<=24
 len:(rs.length:Int)=m-1
 ok:∀r∈rs,T4 m r
 jn:Mc m rs
theorem rd{b:Type}[DecidableEq b]:∀{l l':List b},l.Nodup->(∀x∈l,x∈l')->l.length<=l'.length
 | [],_,_,_=>cI _
 | x::r,l',hn,hs=>by
   obtain⟨f,d⟩:=aZ.mp hn;have c:x∈l':=hs x aL;have:r.length<=(l'.erase x).length:=rd d λy a=>(mZ (λ(e:y=x)=>f (by rw[<-e];exact a))).mpr (hs y (aw _ a));rw[List.length_erase_of_mem c]at this;have g:0<l'.length:=List.length_pos_of_mem c;rw[aR]
   lia
def cj(n:Nat):List Int:=(List.range n).map λ(k:Nat)=>(k:Int)
def fe :a∈cj b↔0<=a/\a<b:=by
 unfold cj;rw[aE]
 constructor
 .rintro⟨k,hk,rfl⟩;have:=de.mp hk
  lia
 .rintro⟨h0,h1⟩;exact⟨a.toNat,de.mpr (by lia),by lia⟩
def cu(n:Nat):(cj n).length=n:=by simp[cj]
def iZ(n:Nat):(cj n).Nodup:=by
 unfold cj;refine List.Pairwise.map _ (λa b h=>?_) (List.nodup_range (n:=n));intro e;exact h (by lia)
def iz{m:Int}{l:ej}(c:0<=m)(b:l.Nodup)(h:∀x∈l,0<=x/\x<m):(l.length:Int)<=m:=by
 have:=rd (l':=cj m.toNat) b λx a=>fe.mpr ⟨(h x a).1,by have:=(h x a).2;lia⟩;rw[cu]at this
 lia
def Pr{m:Int}{l:ej}(c:0<=m)(h:∀v,0<=v->v<m->v∈l):m<=(l.length:Int):=by
 have:=rd (l:=cj m.toNat) (l':=l) (iZ _) λx b=>by
  obtain⟨a,d⟩:=fe.mp b;exact h x a (by lia)
 rw[cu]at this
 lia
def ve(p:Int)(r:Road):List Int:=(if r.a=p then[r.b]else[])++(if r.b=p then[r.a]else[])
def gK(a:hR)(p:Int):List Int:=a.flatMap (ve p)
def uB :e∈gK f d↔∃r∈f,(r.a=d/\r.b=e)\/(r.b=d/\r.a=e):=by
 unfold gK ve;rw[d9]
 constructor
 .rintro⟨r,hr,h⟩;refine⟨r,hr,?_⟩;rcases aX.mp h with h|h
  .by_cases c:r.a=d
   .rw[aj c]at h;exact .inl ⟨c,(aG.mp h).symm⟩
   .rw[ah c]at h;cases h
  .by_cases c:r.b=d
   .rw[aj c]at h;exact .inr ⟨c,(aG.mp h).symm⟩
   .rw[ah c]at h;cases h
 .rintro⟨r,hr,h⟩;refine⟨r,hr,aX.mpr ?_⟩;rcases h with⟨h1,h2⟩|⟨h1,h2⟩
  .exact .inl (by rw[aj h1,h2];exact aG.mpr rfl)
  .exact .inr (by rw[aj h1,h2];exact aG.mpr rfl)
def GH(e:hR)(p:Int):(gK e p).length<=2*e.length:=by
 unfold gK
 induction e with
 | nil=>simp
 | cons r e ih=>
   rw[dj,ay,aR];have:(ve p r).length<=2:=by
    unfold ve;rw[ay];by_cases c:r.a=p<;>by_cases d:r.b=p<;>simp[c,d]
   lia
def uS(a:hR)(r:Road)(p:Int):gK (a++[r]) p=gK a p++ve p r:=by
 unfold gK;rw[oj];simp
def Cp(c:List Int×List Int)(e:Int):List Int×List Int:=if e∈c.1 then c else(c.1++[e],c.2++[e])
structure U6(m:Int)(rs:hR)(ks ws:ej):Prop where
 nd:ks.Nodup
 zero:0∈ks
 Μ:∀k∈ks,0<=k/\k<m
 sub:∀w∈ws,w∈ks
 cl:∀k∈ks,k∉ws->∀e∈gK rs k,e∈ks
 wl:ws.length<=ks.length
def KQ{l:ej}(h:l.Nodup)(e:c∉l):(l++[c]).Nodup:=by
 rw[cw];refine⟨h,by simp,λa d b f=>?_⟩;rw[aG.mp f];exact λz=>e (z▸d)
structure UE(m:Int)(rs:hR)(p:Int)(es ks ws ks0:ej)(n0:Nat):Prop where
 nd:ks.Nodup
 zero:0∈ks
 Μ:∀k∈ks,0<=k/\k<m
 sub:∀w∈ws,w∈ks
 cl:∀k∈ks,k∉ws->k=p\/∀e∈gK rs k,e∈ks
 seen:∀e∈es,e∈ks
 pin:p∈ks
 mu:ks.length+n0=ks0.length+ws.length
 up:ks0.length<=ks.length
 wl:ws.length<=ks.length
def UE.start(h:U6 f d a (b++[c])):UE f d c [] a b a b.length where
 nd:=h.nd
 zero:=h.zero
 Μ:=h.Μ
 sub:=λw g=>h.sub w (bS _ g)
 cl:=λk hk g=>by
  by_cases e:k=c
  .exact .inl e
  .exact .inr (h.cl k hk λz=>by
    rcases aX.mp z with z|z
    .exact g z
    .exact e (aG.mp z))
 seen:=λe i=>by cases i
 pin:=h.sub c (bo _ (aG.mpr rfl))
 mu:=rfl
 up:=aU _
 wl:=by have:=h.wl;rw[ay]at this;simp at this;lia
def UE.step(h:UE j g p i a d e f)(q:0<=b)(o:b<j):UE j g p (i++[b]) (Cp (a,d) b).1 (Cp (a,d) b).2 e f:=by
 unfold Cp;by_cases c:b∈a
 .rw[aj c];refine⟨h.nd,h.zero,h.Μ,h.sub,h.cl,λx l=>?_,h.pin,h.mu,h.up,h.wl⟩;rcases aX.mp l with z|z
  .exact h.seen x z
  .rw[aG.mp z];exact c
 .rw[ah c];dsimp only;refine⟨KQ h.nd c,bS _ h.zero,λk n=>?_,λw m=>?_,λk n m=>?_,λx l=>?_,bS _ h.pin,?_,by have:=h.up;simp;lia,by have:=h.wl;simp;exact this⟩
  .rcases aX.mp n with z|z
   .exact h.Μ k z
   .rw[aG.mp z];exact⟨q,o⟩
  .rcases aX.mp m with z|z
   .exact bS _ (h.sub w z)
   .exact bo _ z
  .rcases aX.mp n with z|z
   .rcases h.cl k z λy=>m (bS _ y)with y|y
    .exact .inl y
    .exact .inr λx l=>bS _ (y x l)
   .exact absurd (bo _ z) m
  .rcases aX.mp l with z|z
   .exact bS _ (h.seen x z)
   .exact bo _ z
  .have:=h.mu;simp only[ay,aR,eL]
   lia
def UE.done(h:UE e a d (gK a d) b c f g):U6 e a b c where
 nd:=h.nd
 zero:=h.zero
 Μ:=h.Μ
 sub:=h.sub
 cl:=λk hk i=>by
  rcases h.cl k hk i with z|z
  .rw[z];exact h.seen
  .exact z
 wl:=h.wl
def U6.start(d:1<=a):U6 a b [0] [0] where
 nd:=by simp
 zero:=by simp
 Μ:=λk hk=>by rw[aG.mp hk];lia
 sub:=λw c=>c
 cl:=λk hk c=>absurd hk c
 wl:=by simp
def U6.all{m:Int}{e:hR}{c:ej}(h:U6 m e c [])(f:1<=m)(j:Mc m e):(c.length:Int)=m:=by
 have up:=iz (by lia) h.nd h.Μ;have:∀v,0<=v->v<m->v∈c:=j (λv=>v∈c) h.zero λr d=>by
  constructor
  .intro ha;exact h.cl r.a ha (by simp) r.b (uB.mpr ⟨r,d,.inl ⟨rfl,rfl⟩⟩)
  .intro hb;exact h.cl r.b hb (by simp) r.a (uB.mpr ⟨r,d,.inr ⟨rfl,rfl⟩⟩)
 have:=Pr (by lia) this
 lia
def OW(h:∀r∈a,T4 c r)(f:b∈gK a d):0<=b/\b<c:=by
 obtain⟨r,e,z⟩:=uB.mp f;have k:=h r e;rcases z with⟨_,rfl⟩|⟨_,rfl⟩
 .exact⟨k.b0,k.b1⟩
 .exact⟨k.a0,k.a1⟩
structure Row where
 k:Int
 un:Int
 t:Int
 u:Int
 sw:Int
 sp:Int
structure XU(r:Row):Prop where
 u0:0<=r.un
 u1:r.un<r.k
 t0:2<=r.t
 t1:r.t<=1000000
 v0:2<=r.u
 v1:r.u<=1000000
 s0:0<=r.sp
 s1:r.sp<r.k
structure Rows(n:Nat)(rows:List Row):Prop where
 len:rows.length=n
 ok:∀(i:Nat)(r:Row),rows[i]?=some r->r.k=(i:Int)+1/\XU r
structure T5(n:Nat)(ls:ej):Prop where
 len:ls.length=n
 nd:ls.Nodup
 all:∀v:Int,0<=v->v<n->v∈ls
 Μ:∀v∈ls,0<=v/\v<n
def CZ{a:Type}{l:List a}{k:Nat}{x y:a}:y∈l.take k++x::l.drop k↔y=x\/y∈l:=by
 rw[aX,aA]
 constructor
 .rintro(h|h|h)
  .exact .inr (jJ h)
  .exact .inl h
  .exact .inr (gu h)
 .rintro(h|h)
  .exact .inr (.inl h)
  .rw[<-dP k l]at h;rcases aX.mp h with z|z
   .exact .inl z
   .exact .inr (.inr z)
def qA(a:ej)(r:Row):Road:=if r.sw=1 then⟨a.getD r.un.toNat 0,a.getD r.k.toNat 0,r.t,r.u⟩else⟨a.getD r.k.toNat 0,a.getD r.un.toNat 0,r.t,r.u⟩
structure XW(ls:ej)(rows:List Row)(rs:hR):Prop where
 len:rs.length=rows.length
 of:∀r∈rs,∃w∈rows,r=qA ls w
 to:∀w∈rows,qA ls w∈rs
def XW.nil(a:ej):XW a [] []:=⟨rfl,λr h=>(by cases h),λr h=>(by cases h)⟩
def XW.step(h:XW c a b)(w:Row)(k:Nat):XW c (a++[w]) (b.take k++qA c w::b.drop k) where
 len:=by
  rw[ay,aR,bA,d8,ay,h.len];simp
  lia
 of:=λr g=>by
  rcases CZ.mp g with z|z
  .exact⟨w,by simp,z⟩
  .obtain⟨f,d,e⟩:=h.of r z;exact⟨f,bS _ d,e⟩
 to:=λf d=>by
  rw[CZ];rcases aX.mp d with z|z
  .exact .inr (h.to f z)
  .exact .inl (by rw[aG.mp z])
def zU(h:T5 c a)(d:b<c):a[b]?=some (a.getD b 0):=by
 have:b<a.length:=by rw[h.len];exact d
 simp[List.getD,aB this]
def F6(h:T5 b a)(d:c<b):a.getD c 0∈a:=aQ (zU h d)
def OF(h:T5 d a)(l:c<d)(k:b<d)(e:a.getD c 0=a.getD b 0):c=b:=by
 have g:c<a.length:=by rw[h.len];exact l
 have f:b<a.length:=by rw[h.len];exact k
 have i:=zU h l;have j:=zU h k;rw[e]at i;have m:a[c]'g=a[b]'f:=by
  rw[aB g]at i;rw[aB f]at j;exact bN (i.trans j.symm)
 have nd:=fm.mp h.nd;rcases Nat.lt_trichotomy c b with z|z|z
 .exact absurd m (nd c b g f z)
 .exact z
 .exact absurd m.symm (nd b c f g z)
def Rj(s:1<=n)(A:n<=24)(L:T5 n b)(W:Rows (n-1) a)(P:XW b a d):Good n d where
 m1:=by lia
 Β:=by lia
 len:=by rw[P.len,W.len];lia
 ok:=λr f=>by
  obtain⟨w,u,rfl⟩:=P.of r f;obtain⟨i,hi⟩:=cF u;obtain⟨B,ok⟩:=W.ok i w hi;have g:i<a.length:=(aD.mp hi).1;rw[W.len]at g;have hk:w.k.toNat<n:=by lia
  have o:w.un.toNat<n:=by have:=ok.u0;have:=ok.u1;lia
  have m:=L.Μ _ (F6 L hk);have l:=L.Μ _ (F6 L o);have ne:b.getD w.k.toNat 0≠b.getD w.un.toNat 0:=λe=>by
   have:=OF L hk o e;have:=ok.u0;have:=ok.u1
   lia
  unfold qA;by_cases c:w.sw=1
  .rw[aj c];exact⟨l.1,l.2,m.1,m.2,ne.symm,ok.t0,ok.t1,ok.v0,ok.v1⟩
  .rw[ah c];exact⟨m.1,m.2,l.1,l.2,ne,ok.t0,ok.t1,ok.v0,ok.v1⟩
 jn:=by
  intro S s0 y;have h:∀i:Nat,i<n->(S (b.getD i 0)↔S (b.getD 0 0)):=by
   intro i
   induction i using Nat.strongRecOn with
   | ind i ih=>
     intro hi;by_cases z:i=0
     .rw[z]
     .have g:i-1<a.length:=(by rw[W.len];lia);obtain⟨B,ok⟩:=W.ok (i-1) a[i-1] (aB g);have t:=P.to a[i-1] (dL g);have f:=y _ t;have hk:(a[i-1]).k.toNat=i:=(by lia);have o:(a[i-1]).un.toNat<i:=(by have:=ok.u0;have:=ok.u1;lia);have q:=ih _ o (by lia);unfold qA at f;rw[hk]at f;by_cases c:(a[i-1]).sw=1
      .rw[aj c]at f;exact f.symm.trans q
      .rw[ah c]at f;exact f.trans q
  have at_:∀v,0<=v->v<(n:Int)->∃i,i<n/\b.getD i 0=v:=λv p s=>by
   obtain⟨i,hi⟩:=cF (L.all v p s);have g:i<n:=(by have:=(aD.mp hi).1;rw[L.len]at this;exact this);refine⟨i,g,?_⟩;have:=zU L g;rw[hi]at this;exact(bN this).symm
  intro v p hv;obtain⟨i,hi,rfl⟩:=at_ v p hv;obtain⟨j,x,C⟩:=at_ 0 (by lia) (by lia);refine(h i hi).mpr ((h j x).mp ?_);rw[C];exact s0
def Vd(c:hR)(a b:Int):Prop:=∃x∈c,(x.a=a/\x.b=b)\/(x.b=a/\x.a=b)
def Vd.symm(h:Vd a c b):Vd a b c:=by
 obtain⟨x,d,h⟩:=h;rcases h with⟨h1,h2⟩|⟨h1,h2⟩
 .exact⟨x,d,.inr ⟨h2,h1⟩⟩
 .exact⟨x,d,.inl ⟨h2,h1⟩⟩
def GR :c∈gK a b↔Vd a b c:=uB
def Good.Vz(g:Good d c)(h:Vd c b a):(0<=b/\b<d)/\(0<=a/\a<d)/\b≠a:=by
 obtain⟨x,e,h⟩:=h;have k:=g.ok x e;rcases h with⟨h1,h2⟩|⟨h1,h2⟩
 .subst h1 h2;exact⟨⟨k.a0,k.a1⟩,⟨k.b0,k.b1⟩,k.ne⟩
 .subst h1 h2;exact⟨⟨k.b0,k.b1⟩,⟨k.a0,k.a1⟩,k.ne.symm⟩
def Good.from(g:Good c e)(m:0<=d)(l:d<c)(S:Int->Prop)(j:S d)(i:∀x∈e,(S x.a↔S x.b)):∀v,0<=v->v<c->S v:=by
 have f:∀v,0<=v->v<c->(S v↔S 0):=g.jn (λv=>S v↔S 0) Iff.rfl λx k=>by
  have:=i x k;exact⟨λh=>this.symm.trans h,λh=>this.trans h⟩
 intro v a b;exact(f v a b).mpr ((f d m l).mp j)
inductive T6(rs:hR)(r:Int):Nat->Int->Prop
 | zero:T6 rs r 0 r
 | step {n:Nat} {u v:Int}:T6 rs r n u->Vd rs u v->T6 rs r (n+1) v
def SU{P:Nat->Prop}:∀n,P n->∃k,P k/\∀j,j<k->¬P j:=by
 intro n
 induction n using Nat.strongRecOn with
 | ind n ih=>
   intro h;by_cases z:∃j,j<n/\P j
   .obtain⟨j,a,b⟩:=z;exact ih j a b
   .exact⟨n,h,λj a b=>z ⟨j,a,b⟩⟩
structure ε(m:Int)(rs:hR)(r:Int)(par:eX)(dep:fb):Prop where
 root:dep r=0
 up:∀v,0<=v->v<m->v≠r->(0<=par v/\par v<m)/\Vd rs v (par v)/\dep (par v)+1=dep v
 road:∀x∈rs,(x.a≠r/\par x.a=x.b)\/(x.b≠r/\par x.b=x.a)
 one:(rs.map λx=>if x.a≠r/\par x.a=x.b then x.a else x.b).Nodup
def Rm{n:Nat}{l:List Nat}(a:l.Nodup)(d:l.length=n)(c:∀x∈l,x<n):∀i,i<n->i∈l:=by
 intro i b;by_cases z:i∈l
 .exact z
 .have:=rd (l:=i::l) (l':=List.range n) (aZ.mpr ⟨z,a⟩) λx hx=>by
   rcases aA.mp hx with rfl|hx
   .exact de.mpr b
   .exact de.mpr (c x hx)
  rw[aR,cK]at this
  lia
def rV(g:Good m f){r:Int}(V:0<=r)(h1:r<m):∃o s,ε m f r o s:=by
 classical
 have C:∀v,0<=v->v<m->∃n,T6 f r n v:=g.from V h1 (λv=>∃n,T6 f r n v) ⟨0,.zero⟩ λx hx=>by
  constructor
  .rintro⟨n,d⟩;exact⟨n+1,d.step ⟨x,hx,.inl ⟨rfl,rfl⟩⟩⟩
  .rintro⟨n,d⟩;exact⟨n+1,d.step ⟨x,hx,.inr ⟨rfl,rfl⟩⟩⟩
 have hd:∀v,∃k,(0<=v/\v<m)->T6 f r k v/\∀j,j<k->¬T6 f r j v:=λv=>by
  by_cases z:0<=v/\v<m
  .obtain⟨n,d⟩:=C v z.1 z.2;obtain⟨k,h⟩:=SU (P:=λk=>T6 f r k v) n d;exact⟨k,λ_=>h⟩
  .exact⟨0,λh=>absurd h z⟩
 obtain⟨s,S⟩:∃s:Int->Nat,∀v,0<=v->v<m->T6 f r (s v) v/\∀j,j<s v->¬T6 f r j v:=⟨λv=>(hd v).choose,λv a b=>(hd v).choose_spec ⟨a,b⟩⟩;have dr:s r=0:=by
  have:=(S r V h1).2 0;by_cases z:s r=0
  .exact z
  .exact absurd T6.zero (this (by lia))
 have hp:∀v,∃u,(0<=v/\v<m/\v≠r)->Vd f v u/\s u+1=s v:=λv=>by
  by_cases z:0<=v/\v<m/\v≠r
  .obtain⟨a,b,c⟩:=z;obtain⟨d,dm⟩:=S v a b;generalize hk:s v=k at d dm;cases d with
   | zero=>exact absurd rfl c
   | @step n u _ d e=>
     refine⟨u,λ_=>⟨e.symm,?_⟩⟩;obtain⟨⟨u0,u1⟩,_⟩:=g.Vz e;have l1:s u<=n:=by
      by_cases w:s u<=n
      .exact w
      .exact absurd d ((S u u0 u1).2 n (by lia))
     have l2:¬s u<n:=λw=>dm (s u+1) (by lia) ((S u u0 u1).1.step e)
     lia
  .exact⟨0,λh=>absurd h z⟩
 obtain⟨o,H⟩:∃o:Int->Int,∀v,0<=v->v<m->v≠r->Vd f v (o v)/\s (o v)+1=s v:=⟨λv=>(hp v).choose,λv a b c=>(hp v).choose_spec ⟨a,b,c⟩⟩;have hi:∀v,∃i:Nat,(0<=v/\v<m/\v≠r)->∃x,f[i]?=some x/\((x.a=v/\x.b=o v)\/(x.b=v/\x.a=o v)):=λv=>by
  by_cases z:0<=v/\v<m/\v≠r
  .obtain⟨x,hx,h⟩:=(H v z.1 z.2.1 z.2.2).1;obtain⟨i,e⟩:=cF hx;exact⟨i,λ_=>⟨x,e,h⟩⟩
  .exact⟨0,λh=>absurd h z⟩
 obtain⟨t,O⟩:∃t:Int->Nat,∀v,0<=v->v<m->v≠r->∃x,f[t v]?=some x/\((x.a=v/\x.b=o v)\/(x.b=v/\x.a=o v)):=⟨λv=>(hi v).choose,λv a b c=>(hi v).choose_spec ⟨a,b,c⟩⟩;have X:∀v u,0<=v->v<m->v≠r->0<=u->u<m->u≠r->t v=t u->v=u:=by
  intro v u a b c F I G e;obtain⟨x,hx,h⟩:=O v a b c;obtain⟨y,N,h'⟩:=O u F I G;rw[e,N]at hx;cases hx;have Q:=(H v a b c).2;have U:=(H u F I G).2;rcases h with⟨p,q⟩|⟨p,q⟩<;>rcases h' with⟨p',q'⟩|⟨p',q'⟩
  .exact p.symm.trans p'
  .exfalso
   have D:v=o u:=p.symm.trans q';have J:u=o v:=p'.symm.trans q;rw[<-D]at U;rw[<-J]at Q
   lia
  .exfalso
   have D:v=o u:=p.symm.trans q';have J:u=o v:=p'.symm.trans q;rw[<-D]at U;rw[<-J]at Q
   lia
  .exact p.symm.trans p'
 let B:List Int:=(cj m.toNat).filter λv=>decide (v≠r)
 have K:∀v,v∈B↔(0<=v/\v<m/\v≠r):=λv=>by
  rw[bG,fe,bw]
  constructor
  .rintro⟨⟨a,b⟩,c⟩;exact⟨a,by lia,c⟩
  .rintro⟨a,b,c⟩;exact⟨⟨a,by lia⟩,c⟩
 have Z:B.Nodup:=(iZ _).filter _;have lv:B.length=f.length:=by
  have D:(r::B).length<=(cj m.toNat).length:=rd (aZ.mpr ⟨λh=>((K r).mp h).2.2 rfl,Z⟩) λx hx=>by
   rcases aA.mp hx with rfl|hx
   .exact fe.mpr ⟨V,by lia⟩
   .have:=(K x).mp hx;exact fe.mpr ⟨this.1,by lia⟩
  have J:(cj m.toNat).length<=(r::B).length:=rd (iZ _) λx hx=>by
   have:=fe.mp hx;by_cases z:x=r
   .rw[z];exact aL
   .exact aw _ ((K x).mpr ⟨this.1,by lia,z⟩)
  rw[cu,aR]at D J;have:=g.len;have:=g.m1
  lia
 have il:(B.map t).Nodup:=by
  have:∀(l:ej),l.Nodup->(∀v∈l,0<=v/\v<m/\v≠r)->(l.map t).Nodup:=by
   intro l
   induction l with
   | nil=>intro _ _;simp
   | cons v l ih=>
     intro hn W;obtain⟨n1,n2⟩:=aZ.mp hn;rw[aF];refine aZ.mpr ⟨λz=>?_,ih n2 λu T=>W u (aw _ T)⟩;obtain⟨u,T,e⟩:=aE.mp z;obtain⟨a,b,c⟩:=W v aL;obtain⟨F,I,G⟩:=W u (aw _ T);exact n1 (X u v F I G a b c e▸T)
  exact this B Z λv E=>(K v).mp E
 have ib:∀i∈B.map t,i<f.length:=λi R=>by
  obtain⟨v,E,rfl⟩:=aE.mp R;obtain⟨a,b,c⟩:=(K v).mp E;obtain⟨x,hx,_⟩:=O v a b c;exact(aD.mp hx).1
 have Y:=Rm il (by rw[aa,lv]) ib;have A:∀i x,f[i]?=some x->∃v,(0<=v/\v<m/\v≠r)/\t v=i/\((x.a=v/\x.b=o v)\/(x.b=v/\x.a=o v)):=λi x e=>by
  obtain⟨v,E,rfl⟩:=aE.mp (Y i (aD.mp e).1);obtain⟨a,b,c⟩:=(K v).mp E;obtain⟨y,N,h⟩:=O v a b c;rw[e]at N;cases N;exact⟨v,⟨a,b,c⟩,rfl,h⟩
 have YF:∀v,0<=v->v<m->v≠r->o v≠r->o (o v)≠v:=λv a b c G z=>by
  have Q:=H v a b c;obtain⟨_,⟨F,I⟩,_⟩:=g.Vz Q.1;have U:=H (o v) F I G;rw[z]at U
  lia
 have L:∀i x,f[i]?=some x->∃v,(0<=v/\v<m/\v≠r)/\t v=i/\(if x.a≠r/\o x.a=x.b then x.a else x.b)=v:=λi x e=>by
  obtain⟨v,⟨a,b,c⟩,E,h⟩:=A i x e;refine⟨v,⟨a,b,c⟩,E,?_⟩;rcases h with⟨p,q⟩|⟨p,q⟩
  .rw[aj ⟨by rw[p];exact c,by rw[p];exact q.symm⟩];exact p
  .rw[ah]
   .exact p
   .rintro⟨z1,z2⟩;rw[q]at z1 z2;exact YF v a b c z1 (z2.trans p)
 refine⟨o,s,dr,λv a b c=>?_,λx hx=>?_,?_⟩
 .obtain⟨p,q⟩:=H v a b c;obtain⟨_,w,_⟩:=g.Vz p;exact⟨w,p,q⟩
 .obtain⟨i,e⟩:=cF hx;obtain⟨v,⟨a,b,c⟩,_,h⟩:=A i x e;rcases h with⟨p,q⟩|⟨p,q⟩
  .exact .inl ⟨by rw[p];exact c,by rw[p];exact q.symm⟩
  .exact .inr ⟨by rw[p];exact c,by rw[p];exact q.symm⟩
 .refine fm.mpr λi j R M lt=>?_;rw[aa]at R M;rw[jv,jv];intro z;obtain⟨v,_,D,k1⟩:=L i f[i] (aB R);obtain⟨u,_,J,k2⟩:=L j f[j] (aB M);rw[k1,k2]at z;rw[z]at D
  lia
def La(g:Good j i)(v:0<=f)(B:f<j):(gK i f).Nodup:=by
 obtain⟨k,A,R⟩:=rV g v B;have one:=R.one;have ok:=g.ok;have road:=R.road;clear R g
 induction i with
 | nil=>simp[gK]
 | cons x l ih=>
   have t:=ok x aL;have r:∀y∈l,T4 j y:=λy hy=>ok y (aw _ hy);rw[aF]at one;obtain⟨s,u⟩:=aZ.mp one;have o:=ih u r λy hy=>road y (aw _ hy);have e:gK (x::l) f=ve f x++gK l f:=by unfold gK;rw[dj]
   rw[e];have m:∀y,T4 j y->((y.a≠f/\k y.a=y.b)\/(y.b≠f/\k y.b=y.a))->(y.a=f->(if y.a≠f/\k y.a=y.b then y.a else y.b)=y.b)/\(y.b=f->(if y.a≠f/\k y.a=y.b then y.a else y.b)=y.a):=λy D hy=>by
    constructor
    .intro z;rw[ah (λw=>w.1 z)]
    .intro z;rcases hy with hy|hy
     .rw[aj hy]
     .exact absurd z hy.1
   have p:=m x t (road x aL);have n:∀e∈gK l f,e∈l.map λy=>if y.a≠f/\k y.a=y.b then y.a else y.b:=λe C=>by
    obtain⟨y,hy,h⟩:=uB.mp C;have q:=m y (r y hy) (road y (aw _ hy));refine aE.mpr ⟨y,hy,?_⟩;rcases h with⟨p1,q1⟩|⟨p1,q1⟩
    .rw[q.1 p1];exact q1
    .rw[q.2 p1];exact q1
   unfold ve;by_cases c:x.a=f
   .have d:¬x.b=f:=λz=>t.ne (c.trans z.symm);rw[aj c,ah d,bX];refine aZ.mpr ⟨λz=>s ?_,o⟩;rw[p.1 c];exact n _ z
   .rw[ah c,mj];by_cases d:x.b=f
    .rw[aj d];refine aZ.mpr ⟨λz=>s ?_,o⟩;rw[p.2 d];exact n _ z
    .rw[ah d];exact o
def ki(m:Int)(a:hR)(p:Int):List Int:=(cj m.toNat).filter λq=>decide (q∈gK a p)
theorem En:∀{l c:ej},l.Perm c->l.Pairwise (·<=·)->c.Pairwise (·<=·)->l=c
 | [],c,p,_,_=>(List.Perm.nil_eq p)
 | a::l,c,p,h,h'=>by
   cases c with
   | nil=>exact absurd p.symm.nil_eq (by simp)
   | cons b r=>
     obtain⟨j,i⟩:=List.pairwise_cons.mp h;obtain⟨f,d⟩:=List.pairwise_cons.mp h';have e:a=b:=by
      have k:a∈b::r:=p.subset aL;have g:b∈a::l:=p.symm.subset aL;rcases aA.mp k with z|z
      .exact z
      .rcases aA.mp g with w|w
       .exact w.symm
       .have:=j b w;have:=f a z
        lia
     subst e;rw[En (List.Perm.cons_inv p) i d]
def F5(n:Nat):(cj n).Pairwise (·<=·):=by
 unfold cj;refine List.Pairwise.map _ (λa b (h:a<b)=>?_) List.pairwise_lt_range
 lia
def IR(m:Int)(a:hR)(p:Int):(ki m a p).Pairwise (·<=·):=(F5 _).filter _
def Co(m:Int)(a:hR)(p:Int):(ki m a p).Nodup:=(iZ _).filter _
def j2(g:Good f c) :d∈ki f c e↔Vd c e d:=by
 unfold ki;rw[bG,bw,GR,fe]
 constructor
 .exact λh=>h.2
 .intro h;obtain⟨_,⟨a,b⟩,_⟩:=g.Vz h;exact⟨⟨a,by lia⟩,h⟩
theorem jZ:∀{l c:ej},l.Nodup->c.Nodup->(∀x,x∈l↔x∈c)->l.Perm c
 | [],c,_,_,h=>by
   cases c with
   | nil=>exact .nil
   | cons b r=>exact absurd ((h b).mpr aL) (by simp)
 | a::l,c,n,n',h=>by
   obtain⟨d,e⟩:=aZ.mp n;have f:a∈c:=(h a).mp aL;refine List.Perm.trans (List.Perm.cons a ?_) (List.perm_cons_erase f).symm;refine jZ e (n'.erase a) λx=>?_
   constructor
   .intro hx;have ne:x≠a:=λz=>d (z▸hx);exact(mZ ne).mpr ((h x).mp (aw _ hx))
   .intro hx;have:x≠a:=λz=>by
     subst z;exact(List.Nodup.not_mem_erase n') hx
    rcases aA.mp ((h x).mpr (List.mem_of_mem_erase hx))with z|z
    .exact absurd z this
    .exact z
def Qo(g:Good c a)(i:0<=b)(h:b<c)(f:d.Perm (gK a b))(e:d.Pairwise (·<=·)):d=ki c a b:=by
 refine En (f.trans (jZ (La g i h) (Co c a b) λx=>?_)) e (IR c a b);rw[j2 g,GR]
def jb(a b:Int)(x:Road):Option Int:=if x.a=a/\x.b=b then some x.t else if x.a=b/\x.b=a then some x.u else none
def cD(c:hR)(a b:Int):Option Int:=c.findSome? (jb a b)
def Bk :(cD g f e).isSome=true↔Vd g f e:=by
 unfold cD;rw[List.findSome?_isSome_iff]
 constructor
 .rintro⟨x,hx,h⟩;unfold jb at h;by_cases c:x.a=f/\x.b=e
  .exact⟨x,hx,.inl c⟩
  .rw[ah c]at h;by_cases d:x.a=e/\x.b=f
   .exact⟨x,hx,.inr ⟨d.2,d.1⟩⟩
   .rw[ah d]at h;cases h
 .rintro⟨x,hx,h⟩;refine⟨x,hx,?_⟩;unfold jb;rcases h with h|h
  .rw[aj h];rfl
  .by_cases c:x.a=f/\x.b=e
   .rw[aj c];rfl
   .rw[ah c,aj ⟨h.2,h.1⟩];rfl
def xR(x:Road)(a b:Int):Prop:=(x.a=a/\x.b=b)\/(x.b=a/\x.a=b)
def Lw{m:Int}{f:hR}(g:Good m f){a b:Int}{i j:Nat}(t:f[i]?=some c)(y:f[j]?=some d)(n:xR c a b)(A:xR d a b):i=j:=by
 obtain⟨⟨B,x⟩,_,_⟩:=g.Vz (show Vd f a b from⟨c,aQ t,n⟩);obtain⟨e,D,R⟩:=rV g B x;have h:∀z∈f,xR z a b->(if z.a≠a/\e z.a=z.b then z.a else z.b)=b:=λz C u=>by
  rcases u with⟨p,q⟩|⟨p,q⟩
  .rw[ah (λw=>w.1 p)];exact q
  .rcases R.road z C with w|w
   .rw[aj w];exact q
   .exact absurd p w.1
 have k:=(aD.mp t);have l:=(aD.mp y);obtain⟨k,v⟩:=k;obtain⟨l,E⟩:=l;have o:=fm.mp R.one;have r:(f.map λz=>if z.a≠a/\e z.a=z.b then z.a else z.b)[i]'(by rw[aa];exact k)=b:=by
  rw[jv];exact h _ (dL k) (v▸n)
 have s:(f.map λz=>if z.a≠a/\e z.a=z.b then z.a else z.b)[j]'(by rw[aa];exact l)=b:=by
  rw[jv];exact h _ (dL l) (E▸A)
 rcases Nat.lt_trichotomy i j with z|z|z
 .exact absurd (r.trans s.symm) (o i j _ _ z)
 .exact z
 .exact absurd (s.trans r.symm) (o j i _ _ z)
def Kc(h:¬xR c b a):jb b a c=none:=by
 unfold jb;rw[ah (λz=>h (.inl z)),ah (λz=>h (.inr ⟨z.2,z.1⟩))]
def u5{m:Int}{f:hR}(g:Good m f){a b:Int}{i:Nat}(n:f[i]?=some d)(j:xR d a b):cD f a b=jb a b d:=by
 have lt:=(aD.mp n);obtain⟨lt,o⟩:=lt;have e:f=f.take i++d::f.drop (i+1):=by rw[<-o,jo,dP]
 have h:cD (f.take i) a b=none:=by
  unfold cD;rw[List.findSome?_eq_none_iff];intro y p;refine Kc λq=>?_;obtain⟨k,l⟩:=cF p;have s:=(aD.mp l).1;rw[bA]at s;rw[lA (by lia)]at l;have:=Lw g l n q j
  lia
 have r:(jb a b d).isSome=true:=by
  unfold jb;rcases j with z|z
  .rw[aj z];rfl
  .by_cases c:d.a=a/\d.b=b
   .rw[aj c];rfl
   .rw[ah c,aj ⟨z.2,z.1⟩];rfl
 obtain⟨v,t⟩:=gM.mp r;have:cD (f.take i++d::f.drop (i+1)) a b=jb a b d:=by
  unfold cD at h ⊢;rw[gn,h,gX,t]
  rfl
 rw[<-e]at this;exact this
end Pb
namespace L2
open PySem PySem.Spec PyProof.Rows
def bQ(b:TK):Prop:=∀a H s e c,¬b a H s E0 e c
def gJ(q:bQ a) :pT a b E0:=λ_ _ _ _ _ _ _ h=>(q _ _ _ _ _ h).elim
structure Df(K:gy)(mg:hF)(x:Str)(st:Stmt)(ps:hG)(f:Addr)(fd:FuncData):Prop where
 F:W4 K x x st f fd
 m:mg x=some (.ref f)
 b:Binds K fd ps []
def W4.ϊ{P:Program}{w:World}{K:gy}{n:hF}{c:Heap}{l:TK}{x b:Str}{st:Stmt}{f:Addr}{m:FuncData}{N i:hG}{k:Nat}{g:Sp}(F:W4 K x b st f m)(S:ζ N i (aK st))(v:∀(e:Value) (A:Around) (a:List Env) (s:Shared) (H:Hp) (d:List V) (Q:VK) (E:XK),Χ k (A.deeper (envOfC b (aK st) s.heap.objs.size f e))->g d H Q E->∃t,UX (sk l P w K n c N b (aK st) f e A a s H E).Wl (kG st) t/\t { nx:=λ_ p=>Q .ο p,rt:=Q } (start N d) H)(j:∀d H Q E,g d H Q E->d.length=i.length:=by walk_at "v"):ύ P w K n c l (k+1) f m i g:=by
 obtain⟨G,J,kV,o,C,D,e,B,I,rfl,z,r⟩:=F.ex;refine PY z r S j λA a s H d Q E y u=>?_;obtain⟨t,h,q⟩:=v e A a s H d Q E y u;exact⟨t,h.Wl,q⟩
structure Ve(sc:Scope)(x:Str):Prop where
 l:sc.names.lookup x=some .local
 d:(x==("__debug__":Str))=false
 c:(x==("__classdict__":Str))=false
structure Wx(sc:Scope)(x:Str):Prop where
 l:sc.names.lookup x=some .cell
 d:(x==("__debug__":Str))=false
 c:(x==("__classdict__":Str))=false
structure ϓ(sc:Scope)(x:Str):Prop where
 g:sc.names.lookup x=some .globalImplicit
 d:(x==("__debug__":Str))=false
 n:x≠"__name__"
def nmL(a:Scope)(x:Str):Bool:=decide (a.names.lookup x=some .local)&&!(x==("__debug__":Str))&&!(x==("__classdict__":Str))
def nmC(a:Scope)(x:Str):Bool:=decide (a.names.lookup x=some .cell)&&!(x==("__debug__":Str))&&!(x==("__classdict__":Str))
def nmG(a:Scope)(x:Str):Bool:=decide (a.names.lookup x=some .globalImplicit)&&!(x==("__debug__":Str))&&!decide (x="__name__")
def Ve.of(h:nmL a b=true):Ve a b:=by
 unfold nmL at h;simp only[bB,bw,iq]at h;exact⟨h.1.1,h.1.2,h.2⟩
def Wx.of(h:nmC a b=true):Wx a b:=by
 unfold nmC at h;simp only[bB,bw,iq]at h;exact⟨h.1.1,h.1.2,h.2⟩
def ϓ.of(h:nmG a b=true:=by kernel_rfl):ϓ a b:=by
 unfold nmG at h;simp only[bB,bw,iq,decide_eq_false_iff_not]at h;exact⟨h.1.1,h.1.2,h.2⟩
def RD(N b:hG)(a:Scope):Bool:=decide (a.kind=.function)&&!a.isCoroutine&&!a.isGenerator&&decide N.Nodup&&decide (N.take b.length=b)&&(b.all λx=>decide (a.names.lookup x=some .local\/a.names.lookup x=some .cell))&&(a.names.all λy=>decide (y.2≠.free))
def ζ.of(h:RD c a b=true:=by kernel_rfl):ζ c a b:=by
 unfold RD at h;simp only[bB,bw,iq,dW]at h;obtain⟨⟨⟨⟨⟨⟨j,g⟩,e⟩,f⟩,k⟩,d⟩,i⟩:=h;exact⟨j,g,e,f,k,d,i⟩
def pvl(i:Nat)(n:Ve a.env.scope b)(f:a.N[i]?=some b:=by rfl):PE a (.Name b e) (BH i):=HL f (.inl n.l) n.d n.c
def pvc(i:Nat)(n:Wx a.env.scope b)(f:a.N[i]?=some b:=by rfl):PE a (.Name b e) (BH i):=HL f (.inr (.inl n.l)) n.d n.c
theorem SD{e:TK}{P:Program}{w:World}{K:gy}{g:hF}{c:Heap}{N:hG}{d:Str}{a:Scope}{f:Addr}{cd:Value}{A:Around}{b:List Env}{s:Shared}{H:Hp}{E:XK}:(sk e P w K g c N d a f cd A b s H E).K=K:=rfl
theorem Mq(D:Ends)(a:St)(H:Hp):Wm D a H=False:=rfl
theorem QN(i j:Int):sB (.int i) (.int j)=true:=rfl
theorem Qq(i j:Bool):sB (.bl i) (.bl j)=true:=rfl
theorem Qy(i:Int):sB (.int i) .ο=true:=rfl
theorem Qv(i:Int):sB .ο (.int i)=true:=rfl
theorem Qr:sB .ο .ο=true:=rfl
theorem Ql(i j:Str):sB (.str i) (.str j)=true:=rfl
def V6{K:gy}{H:Hp}{p:Addr}{a:List V}{i:Int}{v:V}{Q:VK}(h:H p=some (.tup a))(e:aT a i=some v)(q:Q v H):Kz K (.ref p) (.int i) H Q:=⟨p,a,i,v,rfl,rfl,Δ.of h,e,q⟩
def Θ{K:gy}{H:Hp}{p:Addr}{a:List V}{i:Int}{v:V}{Q:VK}(h:H p=some (.lst a))(e:aT a i=some v)(q:Q v H):D9 K (.ref p) (.int i) H Q:=⟨p,a,i,v,rfl,rfl,ν.of h,e,q⟩
def ixS{K:gy}{H:Hp}{p:Addr}{a:List V}{i:Int}{v:V}{Q:VK}(h:ν K H p a)(e:aT a i=some v)(q:Q v H):D9 K (.ref p) (.int i) H Q:=⟨p,a,i,v,rfl,rfl,h,e,q⟩
def Rw{K:gy}{H:Hp}{l:Addr}{a:List V}(h:H l=some (.lst a)):Uo K "list" (.ref l) H:=.inl ⟨rfl,_,ν.of h⟩
def mM(h:c b=some (.lst a))(f:a.length<sizeLine)(q:e .ο (upd c b (.lst (a++[d])))):TU (.ref b) [d] c e:=⟨b,a,d,rfl,rfl,h,f,q⟩
def Tt(h:d c=some (.lst a))(i:0<=b)(g:b<=a.length)(j:a.length<sizeLine)(q:f .ο (upd d c (.lst (a.take b.toNat++e::a.drop b.toNat)))):UB (.ref c) [.int b,e] d f:=⟨c,a,b,e,rfl,rfl,h,i,g,j,q⟩
def Pg(h:d b=some (.lst (a++[c])))(q:e c (upd d b (.lst a))):Z1 (.ref b) [] d e:=⟨b,a++[c],c,rfl,rfl,h,by simp,by rw[List.dropLast_concat];exact q⟩
def eg(h:a<=100000):a<sizeLine:=fX h (by decide)
def bL(h:a<=100000):a<=sizeLine:=iH (eg h)
def iQ{b:Type}{a:List b}{i:Int}{v:b}(c:0<=i)(h:a[i.toNat]?=some v):aT a i=some v:=by
 obtain⟨n,rfl⟩:∃n:Nat,i=n:=⟨i.toNat,by lia⟩;exact Js (by simpa using h)
def nD(f:Gl b a)(d:∃t,b.mg a=some (.int i t))(hd:(a==("__debug__":Str))=false:=by decide):PE b (.Name a c) (tC (.int i)):=by
 obtain⟨t,e⟩:=d;exact DL f e ⟨t,rfl⟩ hd
def Itx(K:gy):Bool->Addr->It
 | true,a=>XM K a
 | false,a=>Yl K a
def RH(K:gy)(c:Bool)(f:TE):TI:=λe H R=>f e H λx b=>∃a,x=.ref a/\(∃d,ϐ K c b a d)/\R (Itx K c a) b
def Ck(c:Bool)(f:PE a d b):PI a e d (RH a.K c b):=by
 cases c
 .exact wL f
 .exact gC f
def uf(J:It)(p:Addr)(Q:VK)(g:TG)(n:TT)(r:TE)(h:St)(q:Hp):Prop:=∃W:Nat->Nat->List V->St->Hp->Prop,(∃m,W 0 m [] h q)/\∀i m c f d,W i m c f d->(J.stop i d/\Q (.ref p) d)\/(J.go i d/\∀x k,J.XJ i d x k->g x f k λa o=>n a o λb j=>
 if b=true then r a j λy l=>l p=some (.lst c)/\c.length<sizeLine/\∃e,e<m/\W (i+1) e (c++[y]) a (upd l p (.lst (c++[y])))
 else ∃e,e<m/\W (i+1) e c a j)
theorem LQ :Ln b e f g d c a h i=f a h λJ j=>∀p,j p=none->uf J p i g d c (nA b e a) (upd j p (.lst [])):=rfl
def xq(J:It)(D:Ends)(g:TG)(f:TS)(a:St)(H:Hp):Prop:=∃W:Nat->Nat->St->Hp->Prop,(∃m,W 0 m a H)/\∀i m a H,W i m a H->(J.stop i H/\D.nx a H)\/(J.go i H/\∃N:St->Hp->Prop,(∀b c,N b c->∃e,e<m/\W (i+1) e b c)/\∀x c,J.XJ i H x c->g x a c λd h=>f { D with nx:=N,ct:=N,bk:=D.nx } d h)
theorem Qm :RL b d c e a f=b a f λJ g=>xq J e d c a g:=rfl
def oQ{K:gy}{c:Bool}{a p:Addr}{xs:List V}{Q:VK}{g:TG}{u:TT}{z:TE}{n:St}{v:Hp}(l:Nat->List V->St->Hp->Prop)(B:l 0 [] n v)(D:∀i d f H,i<=xs.length->l i d f H->ϐ K c H a xs)(C:∀(i:Nat) (x:V) (d:List V) (f:St) (H:Hp) (N:List V->St->Hp->Prop),(∀o h k,l (i+1) o h k->N o h k)->xs[i]?=some x->l i d f H->g x f H λj G=>u j G λb s=>
 if b=true then z j s λy w=>w p=some (.lst d)/\d.length<sizeLine/\N (d++[y]) j (upd w p (.lst (d++[y])))else N d j s)(E:∀d f H,l xs.length d f H->Q (.ref p) H):uf (Itx K c a) p Q g u z n v:=by
 refine⟨λi m d f H=>m=xs.length-i/\i<=xs.length/\l i d f H,⟨xs.length,by simp,cI _,B⟩,?_⟩;rintro i m d f H ⟨rfl,I,pv⟩;have q:=D i d f H I pv;by_cases r:i<xs.length
 .refine .inr ⟨?_,λx k y=>?_⟩
  .cases c
   .exact⟨xs,xs[i],q,by simp[r]⟩
   .exact⟨xs,xs[i],q,by simp[r]⟩
  .have e:k=H/\xs[i]?=some x:=by
    cases c
    .exact⟨y.1,y.2 xs q⟩
    .exact⟨y.1,y.2 xs q⟩
   obtain⟨rfl,F⟩:=e;exact C i x d f _ (λo h k=>∃t,t<xs.length-i/\(t=xs.length-(i+1)/\i+1<=xs.length/\l (i+1) o h k)) (λo h k A=>⟨xs.length-(i+1),by lia,rfl,r,A⟩) F pv
 .have e:i=xs.length:=by lia
  subst e;refine .inl ⟨?_,E d f H pv⟩;cases c
  .exact⟨xs,q,aU _⟩
  .exact⟨xs,q,aU _⟩
def ku{lo:Int}{n:Nat}{Q:VK}{g:TG}(q:Nat->List V->St->Hp->Prop)(z:q 0 [] a f)(A:∀(i:Nat) (j:List V) (l:St) (H:Hp) (N:List V->St->Hp->Prop),(∀r k p,q (i+1) r k p->N r k p)->i<n->q i j l H->g (.int (lo+i)) l H λo C=>d o C λb t=>
 if b=true then h o t λy v=>v c=some (.lst j)/\j.length<sizeLine/\N (j++[y]) o (upd v c (.lst (j++[y])))else N j o t)(B:∀j l H,q n j l H->Q (.ref c) H):uf (WV lo n) c Q g d h a f:=by
 refine⟨λi m j l H=>m=n-i/\i<=n/\q i j l H,⟨n,by simp,cI _,z⟩,?_⟩;rintro i m j l H ⟨rfl,D,pv⟩;by_cases s:i<n
 .refine .inr ⟨s,λx p y=>?_⟩;obtain⟨rfl,rfl⟩:=y;exact A i j l _ (λr k p=>∃u,u<n-i/\(u=n-(i+1)/\i+1<=n/\q (i+1) r k p)) (λr k p w=>⟨n-(i+1),by lia,rfl,s,w⟩) s pv
 .have e:i=n:=by lia
  subst e;exact .inl ⟨aU _,B j l H pv⟩
def HX:bootBuiltins "tuple"=some (.type "tuple"):=by decide +kernel
def we(K:gy)(h:a.K=K):lS a (.type "tuple") (λc H Q=>∃p b,c=[.ref p]/\((ν K H p b/\∀l,H l=none->Q (.ref l) (upd H l (.tup b)))\/(Δ K H p b/\Q (.ref p) H))):=by subst h;exact iI
def qi(K:gy)(h:a.K=K):Xl a (D9 K):=by subst h;exact bC
def J4(K:gy)(h:a.K=K):Xl a (Kz K):=by subst h;exact jM
theorem Cn :∀{l:List (Str×NameKind)},l.lookup b=some a->∃y,(y,a)∈l
 | [],h=>by simp at h
 | (n,j)::r,h=>by
   rw[da]at h;cases q:b==n with
   | true=>
     rw[q]at h;cases h;exact⟨n,aL⟩
   | false=>
     rw[q]at h;obtain⟨y,c⟩:=Cn h;exact⟨y,aw _ c⟩
def mi(own:Nat)(g:∀y∈a.names,y.2≠.free)(l:∀y∈a.names,y.2≠.cell)(hk:a.kind=.function)(hn:∀y∈a.names,y.2=.local->a.names.lookup y.1=some .local)(q:Nc.length=own):Ϫ b Nc own [] a [] where
 Yy:=closureFor_none g
 kind:=hk
 Vo:=l
 names:=hn
 cells:=λx c h=>by cases h
 has:=λx h=>by
  have d:∀k,(relabel a b.env).names.lookup x=some k->k≠.cell/\k≠.free:=λk e=>by
   obtain⟨y,r⟩:=Cn e;obtain⟨⟨n,p⟩,f,j⟩:=aE.mp r;have m:=g _ f;have s:=l _ f;have o:(p==NameKind.free)=false:=(by simpa using m);simp only[o,nX,cZ,if_false]at j;cases j;exact⟨s,m⟩
  rcases h with h|h
  .exact absurd rfl (d _ h).1
  .exact absurd rfl (d _ h).2
 len:=by simpa using q
 outer:=λi x h=>by
  rw[bP (by lia)]at h;cases h
def uJ{K:gy}{a:Addr}{xs:List V}{g:TG}{h:TS}{D:Ends}{b:St}{H:Hp}(c:Nat->St->Hp->Prop)(j:c 0 b H)(l:∀i b H,i<=xs.length->c i b H->ν K H a xs)(k:∀(i:Nat) (x:V) (b:St) (H:Hp) (N:St->Hp->Prop),(∀d f,c (i+1) d f->N d f)->xs[i]?=some x->c i b H->g x b H λe o=>h { D with nx:=N,ct:=N,bk:=D.nx } e o)(m:∀b H,c xs.length b H->D.nx b H):xq (XM K a) D g h b H:=OO c j l (λi x b H n p=>k i x b H (c (i+1)) (λ_ _ z=>z) n p) m
def Hx{K:gy}{a:Addr}{xs:List V}{g:TG}{h:TS}{D:Ends}{b:St}{H:Hp}(c:Nat->St->Hp->Prop)(j:c 0 b H)(l:∀i b H,i<=xs.length->c i b H->Δ K H a xs)(k:∀(i:Nat) (x:V) (b:St) (H:Hp) (N:St->Hp->Prop),(∀d f,c (i+1) d f->N d f)->xs[i]?=some x->c i b H->g x b H λe o=>h { D with nx:=N,ct:=N,bk:=D.nx } e o)(m:∀b H,c xs.length b H->D.nx b H):xq (Yl K a) D g h b H:=Dx c j l (λi x b H n p=>k i x b H (c (i+1)) (λ_ _ z=>z) n p) m
def CU{lo:Int}{n:Nat}{g:TG}(e:Nat->St->Hp->Prop)(l:e 0 a b)(m:∀(i:Nat) (a:St) (b:Hp) (N:St->Hp->Prop),(∀f j,e (i+1) f j->N f j)->i<n->e i a b->g (.int (lo+i)) a b λh o=>d { c with nx:=N,ct:=N,bk:=c.nx } h o)(k:∀a b,e n a b->c.nx a b):xq (WV lo n) c g d a b:=LV e l (λi a b q p=>m i a b (e (i+1)) (λ_ _ z=>z) q p) k
def Jo(W:Nat->St->Hp->Prop)(k:Nat)(o:W k a c)(p:∀(n:Nat) (a:St) (c:Hp) (N:St->Hp->Prop),(∀j g h,j<n->W j g h->N g h)->(∀g h,N g h->∃i,i<n/\W i g h)->W n a c->f a c λb l=>if b=true then ∃N:St->Hp->Prop,(∀g h,N g h->∃i,i<n/\W i g h)/\e { d with nx:=N,ct:=N,bk:=d.nx } a l else d.nx a l):Gz f e d a c:=⟨W,⟨k,o⟩,λn a c w=>p n a c (λg h=>∃i,i<n/\W i g h) (λj _ _ m q=>⟨j,m,q⟩) (λ_ _ z=>z) w⟩
def Ji(h:a.natAbs<2^b):Builtin.Int.intBits a<=b:=by
 unfold Builtin.Int.intBits;by_cases z:a=0
 .subst z;simp
 .have hz:(a==0)=false:=by simpa using z
  rw[hz];simp only[cZ,if_false];have:=(lP (by lia)).mpr h
  lia
def Sb(c:a.natAbs<2^4000)(d:b.natAbs<2^4000):IntMulOk a b:=IntMulOk.of_bits (aV (Ji c) (by decide)) (aV (Ji d) (by decide))
open Pb
def qb(r:Road):List V:=[.int r.a,.int r.b,.int r.t,.int r.u]
abbrev ι(H:Hp):List Addr->List Road->Prop:=Paired λp r=>H p=some (.tup (qb r))
def ι.same(e:δ d c)(h:ι d b a):ι c b a:=Paired.imp' (λp r q=>e p _ q) h
theorem ι.get :∀{d:hD}{f:hR}{i:Nat}{x:V},ι c d f->(d.map V.ref)[i]?=some x->∃p r,x=.ref p/\d[i]?=some p/\f[i]?=some r/\c p=some (.tup (qb r))
 | _,_,i,x,.nil,e=>by simp at e
 | _,_,0,x,.cons (a:=p) (b:=r) h hs,e=>⟨p,r,by simpa using e.symm,by simp,by simp,h⟩
 | a::l1,_,i+1,x,.cons h hs,e=>by
   have k:(List.map V.ref l1)[i]?=some x:=by simpa using e
   obtain⟨p,r,m,l,g,j⟩:=ι.get hs k;exact⟨p,r,m,by simpa using l,by simpa using g,j⟩
def δ.tup{K:gy}{H b:Hp}{a:Addr}{xs:List V}(e:δ H b)(h:Δ K H a xs):Δ K b a xs:=by
 rcases h with(h|⟨o,h⟩)|h
 .exact .inl (.inl (e _ _ h))
 .exact .inl (.inr ⟨o,e _ _ h⟩)
 .exact .inr h
def δ.ϭ{K:gy}{H d:Hp}{c:Bool}{a:Addr}{b:List V}(e:δ H d)(h:ϐ K c H a b):ϐ K c d a b:=by
 cases c
 .exact δ.tup e h
 .exact δ.seq e h
def δ.new(o:HO)(h:a c=none):δ a (upd a c o):=λb u e=>by rw[aW (dX e h)];exact e
end L2
namespace L2
open PySem PySem.Spec PyProof.Rows
abbrev Wz:List Value:=[.type "ValueError",.type "Exception",.type "BaseException",.type "object"]
structure U7(K:gy)(C:Addr):Prop where
 ty:PySem.W.typeIn K (.ref C)=some (.type "type")
 ga:PySem.W.findIn K (.ref C) "__getattribute__"=some (some (.builtin "BaseException.__getattribute__"))
 gt:PySem.W.findIn K (.ref C) "__getattr__"=some none
 cl:PySem.W.findIn K (.ref C) "__class__"=some (some (.builtin "object.__class__"))
 gs:PySem.W.specialIn K (.builtin "object.__class__") "__get__"=some (some (.builtin "getset_descriptor.__get__"))
 tk:PySem.W.takesIn K (.builtin "object.__class__")=some true
 mo:PySem.W.mroIn K C (.type "object")=some true
 mb:PySem.W.mroIn K C (.type "BaseException")=some true
 hd:PySem.W.hasDictIn K C=true
 sf:PySem.W.mroIn K C (.ref C)=some true
def qN(h:Heap)(d:Addr)(cls:Value)(e:Option Addr)(a:Value):Prop:=∃b c,h.get? d=some b/\b.cls=cls/\b.dict=e/\b.data=.fields c/\c[1]?=some a/\c[2]?=some .none
def TbO(h:Heap)(T:Addr)(c:Value):Prop:=∃b a,h.get? T=some b/\b.data=.fields a/\a[3]?=some c
structure V7(h:Heap)(ea T:Addr)(cls:Value)(od:Option Addr)(fl:Value):Prop where
 e:qN h ea cls od (.ref T)
 t:TbO h T fl
 ne:T≠ea
structure Kept(fs xs:hD)(h h':Heap):Prop where
 keep:∀b o,h.get? b=some o->b∉fs->b∉xs->h'.get? b=some o
 slot:∀b o,h.get? b=some o->b∈fs->b∉xs->∃sl,h'.get? b=some { o with slots:=sl }
 there:∀b o,h.get? b=some o->∃o',h'.get? b=some o'
def Kept.mono(k:Kept d c h g)(s:∀b∈c,b∈a):Kept d a h g:=⟨λb o e f x=>k.keep b o e f λz=>x (s b z),λb o e f x=>k.slot b o e f λz=>x (s b z),k.there⟩
def Kept.trans(a:Kept g d j h)(b:Kept g d h i):Kept g d j i where
 keep:=λc o e f x=>b.keep c o (a.keep c o e f x) f x
 slot:=λc o e f x=>by
  obtain⟨s1,k⟩:=a.slot c o e f x;obtain⟨m,l⟩:=b.slot c _ k f x;exact⟨m,l⟩
 there:=λc o e=>by
  obtain⟨n,k⟩:=a.there c o e;exact b.there c n k
def Kept.YG(k:∀b o,c.get? b=some o->a.get? b=some o):Kept f d c a:=⟨λb o e _ _=>k b o e,λb o e _ _=>⟨o.slots,k b o e⟩,λb o e=>⟨o,k b o e⟩⟩
def Bp(m:c.get? a=some f)(l:f.data=.fields i)(n:a∈d):Kept j d c (c.update a (Obj.mapFields (·.setIfInBounds h g))):=by
 have k:∀b o,c.get? b=some o->b∉d->(c.update a (Obj.mapFields (·.setIfInBounds h g))).get? b=some o:=λb o e x=>by
  rw[eC _ _ (λ(z:a=b)=>x (z▸n))];exact e
 refine⟨λb o e _ x=>k b o e x,λb o e _ x=>⟨o.slots,k b o e x⟩,λb o e=>?_⟩;by_cases z:b=a
 .subst z;exact⟨_,gq _ m (ic (eW l _))⟩
 .rw[eC _ _ (Ne.symm z)];exact⟨o,e⟩
def NP(e:qN g a b f i):qN (g.update a (Obj.mapFields (·.setIfInBounds 1 h))) a b f h:=by
 obtain⟨l,o,m,r,q,j,n,k⟩:=e;have p:1<o.size:=(gN.mp n).1;refine⟨_,_,gq _ m (ic (eW j _)),?_,?_,eW j _,by simp[p],by rw[Array.getElem?_setIfInBounds_ne (by decide)];exact k⟩
 .rw[<-r];exact Obj.cls_mapFields _ _
 .rw[<-q];obtain⟨c,d,s,t⟩:=l;cases s<;>rfl
def Cc(e:qN g a b d c)(ne:f≠a):qN (g.update f h) a b d c:=by
 obtain⟨k,i,l,j⟩:=e;exact⟨k,i,by rw[eC _ _ ne];exact l,j⟩
def EY(e:qN g a b d c)(k:∀o,g.get? a=some o->f.get? a=some o):qN f a b d c:=by
 obtain⟨j,h,l,i⟩:=e;exact⟨j,h,k _ l,i⟩
def Ml(e:qN d a g i h)(f:d.FunFrames b c):a∉ϥ c:=λz=>by
 obtain⟨p,k,n,_,_,m,_⟩:=e;obtain⟨_,o,j,l⟩:=f.mem z;rw[n]at j;cases j;exact l k m
def Nr(e:TbO c d g)(f:c.FunFrames a b):d∉ϥ b:=λz=>by
 obtain⟨m,i,l,k,_⟩:=e;obtain⟨_,o,h,j⟩:=f.mem z;rw[l]at h;cases h;exact j i k
def wf(r:V7 s.heap a c b d f)(h:∀m,V7 m a c b d .none->Kept fs [c] s.heap m->e () { s with heap:=m }):wpAny i j (setFlight (.ref a) none) e g s:=by
 obtain⟨⟨v,w,n,y,x,q,o,u⟩,⟨A,t,l,k,z⟩,ne⟩:=r;have p:3<t.size:=(gN.mp z).1;unfold setFlight;refine ao (cY n q o ?_);rw[aj (by simp:(Value.ref c != Value.none)=true)];refine iV l k p (h _ ⟨Cc ⟨v,w,n,y,x,q,o,u⟩ ne,⟨_,_,gq _ l (ic (eW k _)),eW k _,by simp[p]⟩,ne⟩ (Bp l k (by simp)))
def HG{A:Around}{s:Shared}{Q:Unit->Shared->Prop}(N:A.frames=some (d::g))(F:s.heap.FunFrames p (d::g))(L:d.frame=some i)(r:qN s.heap c j l m)(h:∀y E,V7 y c E j l (rawInt i)->Kept (ϥ (d::g)) [c] s.heap y->s.heap.get? E=none->Q () { s with heap:=y }):wpAny t A (do let a <-frameOf d;let v <-entryPlaceOf i n;let b <-EntryCells.newEntry k a .none (rawInt i) .none v;setField (.ref c) 1 b) Q q s:=by
 have I:=Ml r F;refine ao (wpAny_frameOf_fun N F L λu w=>ao (wpAny_entryPlaceOf λv M=>?_));unfold EntryCells.newEntry newFields;refine ao (fg ?_ (M.sizeOk5 _ _ _ _ _));have D:qN u c j l m:=EY r λo e=>(w.2.1 c I).trans e;generalize G:({ cls:=.type "traceback",dict:=none,data:=.fields ([k,.ref i,.none,rawInt i,.none]++(if v.isEmpty then List.replicate 6 Value.none else v)).toArray }:Obj)=x;have C:qN (u.push x) c j l m:=EY D λo e=>aI _ e;obtain⟨T,U,H,S,P,B,J,O⟩:=id C;have lt:c<u.objs.size:=by
  obtain⟨_,_,e,_⟩:=D;exact aO e
 have K:(u.push x).get? u.objs.size=some x:=bd u (by rw[<-G];rfl);refine iV H B (gN.mp J).1 (h _ u.objs.size ⟨NP C,⟨x,([k,.ref i,.none,rawInt i,.none]++(if v.isEmpty then List.replicate 6 Value.none else v)).toArray,?_,by rw[<-G],by simp⟩,fZ lt⟩ ?_ ?_)
 .rw[eC _ _ (bf lt)];exact K
 .have k1:Kept (ϥ (d::g)) [c] s.heap u:=⟨λb o e f _=>(w.2.1 b f).trans e,λb o e _ _=>w.2.2 b o e,λb o e=>by
   obtain⟨R,z⟩:=w.2.2 b o e;exact⟨_,z⟩⟩
  exact k1.trans ((Kept.YG λb o e=>aI _ e).trans (Bp H B (by simp)))
 .exact Heap.get?_none_of_le (by rw[w.1];exact aU _)
def Ob{A:Around}{s:Shared}{Q:Unit->Shared->Prop}(p:A.frames=some (a::b))(t:s.heap.FunFrames f (a::b))(m:a.frame=some g)(r:qN s.heap c d e .none)(h:∀k l,V7 k c l d e (rawInt g)->Kept (ϥ (a::b)) [c] s.heap k->s.heap.get? l=none->Q () { s with heap:=k }):wpAny j A (noteFrame (.ref c) a) Q i s:=by
 obtain⟨x,y,n,u,w,o,q,v⟩:=id r;unfold noteFrame;simp only[m];refine ao (cY n o q ?_);rw[ah (by decide)];exact HG p t m r h
def Jj{A:Around}{s:Shared}{Q:Unit->Shared->Prop}(I:A.frames=some (a::c))(x:s.heap.FunFrames j (a::c))(y:a.frame=some k)(r:V7 s.heap d f g i .none)(h:∀u p,V7 u d p g i (rawInt k)->Kept (ϥ (a::c)) [d,f] s.heap u->s.heap.get? p=none->Q () { s with heap:=u }):wpAny m A (noteFrame (.ref d) a) Q l s:=by
 have N:=Nr r.t x;obtain⟨⟨P,S,H,O,M,E,F,L⟩,⟨R,G,v,w,B⟩,ne⟩:=id r;unfold noteFrame;simp only[y];refine ao (cY H E F ?_);rw[aj (by simp:(Value.ref f != Value.none)=true)];refine ao (cY v w B ?_);rw[ah (by simp[rawInt])];have C:Kept (ϥ (a::c)) [d,f] s.heap (s.heap.update f (Obj.mapFields (·.setIfInBounds 3 Value.none))):=Bp v w (by simp);refine ao (iV v w (gN.mp B).1 ?_);refine HG I (x.of_keeps λb o e D=>⟨o,?_,rfl⟩) y (Cc r.e ne) λu p K J n=>h u p K (C.trans (J.mono (by simp))) ?_
 .by_cases z:b=f
  .subst z;rw[v]at e;cases e;exact absurd w (D G)
  .rw[eC _ _ (Ne.symm z)];exact e
 .cases q:s.heap.get? p with
  | none=>rfl
  | some o=>
    obtain⟨T,z⟩:=C.there p o q;rw[z]at n;cases n
def Mt{A:Around}{s:Shared}{Q:Unit->Shared->Prop}(C:A.frames=some (a::c))(w:s.heap.FunFrames base (a::c))(y:a.frame=some k)(r:qN s.heap d g i .none)(h:∀m t,V7 m d t g i .none->Kept (ϥ (a::c)) [d] s.heap m->s.heap.get? t=none->Q () { s with heap:=m }):wpAny l A (leaving a (.ref d)) Q j s:=by
 unfold leaving;refine ao (Ob C w y r λD E v q n=>wf (fs:=ϥ (a::c)) (s:={ s with heap:=D }) v λF u p=>h F E u ⟨λb o e f x=>p.keep b o (q.keep b o e f x) f ?_,λb o e f x=>?_,λb o e=>?_⟩ n)
 .simp only[aG];rintro rfl;rw[n]at e;cases e
 .obtain⟨s1,e1⟩:=q.slot b o e f x;obtain⟨B,z⟩:=p.slot b _ e1 f (by
   simp only[aG];rintro rfl;rw[n]at e;cases e)
  exact⟨B,z⟩
 .obtain⟨o1,e1⟩:=q.there b o e;exact p.there b o1 e1
def NU{A:Around}{s:Shared}{Q:Unit->Shared->Prop}(D:A.frames=some (a::c))(y:s.heap.FunFrames base (a::c))(z:a.frame=some l)(r:V7 s.heap d j g i .none)(h:∀n u,V7 n d u g i .none->Kept (ϥ (a::c)) [d,j] s.heap n->s.heap.get? u=none->Q () { s with heap:=n }):wpAny m A (leaving a (.ref d)) Q k s:=by
 unfold leaving;refine ao (Jj D y z r λE F w t p=>wf (fs:=ϥ (a::c)) (s:={ s with heap:=E }) w λG v q=>h G F v ⟨λb o e f x=>q.keep b o (t.keep b o e f x) f ?_,λb o e f x=>?_,λb o e=>?_⟩ p)
 .simp only[aG];rintro rfl;rw[p]at e;cases e
 .obtain⟨s1,e1⟩:=t.slot b o e f x;obtain⟨C,B⟩:=q.slot b _ e1 f (by
   simp only[aG];rintro rfl;rw[p]at e;cases e)
  exact⟨C,B⟩
 .obtain⟨o1,e1⟩:=t.there b o e;exact q.there b o1 e1
def τ(P:Program)(w:World):TK:=λa H s E e b=>∃(f T:Addr)(c:Value)(g:Option Addr)(d:Hp),e=.ref f/\b.os=s.os/\AllBare b.gens/\Un (ϥ a) [] H d s.heap b.heap/\ϱ P w d b.heap/\d f=none/\d T=none/\s.heap.get? f=none/\s.heap.get? T=none/\V7 b.heap f T c g .none/\E c g d
def bK :bQ (τ a b):=λc H s e d h=>by
 obtain⟨_,_,_,_,_,_,_,_,_,_,_,_,_,_,_,z⟩:=h;exact z
def Bc(x:ϱ i l c j)(k:Kept g d j h)(f:∀b∈g,c b=none)(u:∀b∈d,c b=none):ϱ i l c h:=λa o e=>by
 refine(x a o e).lT (λb m hb q=>k.keep b m q ?_ ?_) (λ_ q=>q) λ_ _ q=>q
 .intro z;rcases hb with rfl|hb
  .rw[f _ z]at e;cases e
  .rw[f _ z]at hb;cases hb
 .intro z;rcases hb with rfl|hb
  .rw[u _ z]at e;cases e
  .rw[u _ z]at hb;cases hb
def HF(x:ϱ d g c b)(n:b.get? a=none):c a=none:=by
 cases q:c a with
 | none=>rfl
 | some o=>
   have lt:=x.lt q;cases z:b.get? a with
   | some o'=>rw[z]at n;cases n
   | none=>
     exfalso
     have:=(x a o q);cases o with
     | lst xs=>obtain⟨_,_,_,_,e⟩:=this;rw[n]at e;cases e
     | tup xs=>obtain⟨_,_,_,h,e,_⟩:=this;rw[n]at e;cases e
     | dK π=>obtain⟨_,_,_,_,h,_,_,e,_⟩:=this;rw[n]at e;cases e
     | dT π=>obtain⟨_,_,_,_,h,_,_,e,_⟩:=this;rw[n]at e;cases e
     | set S m=>obtain⟨h,_,_,_,e,_⟩:=this;rw[n]at e;cases e
     | ins C dx fs=>obtain⟨_,_,_,e,_⟩:=this;rw[n]at e;cases e
     | own y=>obtain⟨_,e⟩:=this;rw[n]at e;cases e
     | xd fs=>obtain⟨_,⟨_,_,_,e,_⟩,_⟩:=this;rw[n]at e;cases e
     | Μ lo hi=>obtain⟨_,_,_,e⟩:=this;rw[n]at e;cases e
     | Wi h u=>obtain⟨e,_⟩:=this;rw[n]at e;cases e
     | XF ps=>have e:b.get? a=some _:=this;rw[n]at e;cases e
     | met f y=>have e:b.get? a=some _:=this;rw[n]at e;cases e
     | ext φ=>obtain⟨_,⟨_,e⟩,_⟩:=this;rw[n]at e;cases e
def HH{P:Program}{w:World}{K:gy}{x:hF}{base:Heap}{N:hG}{d:Str}{c:Scope}{f:Addr}{cd:Value}{A:Around}{a:List Env}{s:Shared}{H:Hp}{E:XK}{v:TK}{h:g8}{y:St}{p:Hp}{l:Shared}{r:Heap}{q:hD}(J:Inv (sk v P w K x base N d c f cd A a s H E) h y p l)(k:Kept (ϥ (envOfC d c s.heap.objs.size f cd::a)) q l.heap r)(u:∀b∈q,s.heap.get? b=none):Un (ϥ a) [] H p s.heap r:=by
 have g:Un (ϥ a) [] H p s.heap l.heap:=J.base;have nl:∀b o,s.heap.get? b=some o->b∉q:=λb o e z=>by rw[u b z]at e;cases e
 have t:∀b o,s.heap.get? b=some o->b∉ϥ a->b∉ϥ (envOfC d c s.heap.objs.size f cd::a):=λb o e z m=>by
  unfold ϥ at m z;rw[iW]at m;have:(envOfC d c s.heap.objs.size f cd).frame=some s.heap.objs.size:=rfl;rw[this]at m;rcases aA.mp m with m|m
  .exact absurd (aO e) (by rw[m];exact di _)
  .exact z m
 refine⟨λb o e n j i=>k.keep b o (g.keep b o e n j i) (t b o e j) (nl b o e),λb o e n j i=>?_,g.free,λb o e i=>?_,g.nE,g.iD,g.oK⟩
 .obtain⟨sl,e1⟩:=g.slot b o e n j i;by_cases m:b∈ϥ (envOfC d c s.heap.objs.size f cd::a)
  .obtain⟨s2,e2⟩:=k.slot b _ e1 m (nl b o e);exact⟨s2,e2⟩
  .exact⟨sl,k.keep b _ e1 m (nl b o e)⟩
 .obtain⟨o1,e1⟩:=g.there b o e i;exact k.there b o1 e1
def rj{P:Program}{w:World}{K:gy}{l:hF}{base:Heap}{N:hG}{d:Str}{c:Scope}{f:Addr}{cd:Value}{A:Around}{a:List Env}{s:Shared}{H:Hp}{E:XK}{j:TK}{g:g8}{m:St}{i:Hp}{h:Shared}(J:Inv (sk j P w K l base N d c f cd A a s H E) g m i h){b:Addr}(n:h.heap.get? b=none):s.heap.get? b=none:=by
 cases q:s.heap.get? b with
 | none=>rfl
 | some o=>
   have k:Un (ϥ a) [] H i s.heap h.heap:=J.base;obtain⟨p,e⟩:=k.there b o q (by simp);rw[n]at e;cases e
def bT{P:Program}{w:World}{K:gy}{y:hF}{base:Heap}{N:hG}{d:Str}{c:Scope}{f:Addr}{cd:Value}{A:Around}{a:List Env}{s:Shared}{H:Hp}{E:XK} :pT (τ P w) (sk (τ P w) P w K y base N d c f cd A a s H E) E:=by
 intro p L G M e D I h;obtain⟨r,T,i,C,l,rfl,os,bare,t,g,o,u,m,z,B,q⟩:=h;have J:=I.Wk (ch:=[]) os t g bare (by simp);refine NU (base:=base) J.ok.frames J.stack rfl B λF v j k n=>?_;have x:∀b∈ϥ (envOfC d c s.heap.objs.size f cd::a),l b=none:=J.iF;refine⟨r,v,i,C,l,rfl,J.os,J.bare,HH J k ?_,Bc g k x ?_,o,HF g n,rj I m,rj J n,j,q⟩
 .intro b hb;simp only[aA,fM,or_false]at hb;rcases hb with rfl|rfl
  .exact rj I m
  .exact rj I z
 .intro b hb;simp only[aA,fM,or_false]at hb;rcases hb with rfl|rfl
  .exact o
  .exact u
def Nd(X:Cx)(E:XK):Prop:=∀(a:g8)(g:St)(H:Hp)(s:Shared)(d:Addr)(c:Value)(f:Option Addr)(e:Heap)(h:Nat),Inv X a g H s->(∀b o,s.heap.get? b=some o->e.get? b=some o)->s.heap.get? d=none->qN e d c f .none->E c f H->X.xe (.ref d) { s with heap:=e,toks:=h }
def sY{P:Program}{w:World}{K:gy}{t:hF}{base:Heap}{N:hG}{d:Str}{c:Scope}{f:Addr}{cd:Value}{A:Around}{a:List Env}{s:Shared}{H:Hp}{E:XK} :Nd (sk (τ P w) P w K t base N d c f cd A a s H E) E:=by
 intro l y j B m g v x n I o e u q;have J:=I.kept (t':=n) o;refine Mt (base:=base) J.ok.frames J.stack rfl u λz p h k i=>?_;have r:∀b∈ϥ (envOfC d c s.heap.objs.size f cd::a),j b=none:=J.iF;refine⟨m,p,g,v,j,rfl,J.os,J.bare,HH J k ?_,Bc J.Α k r ?_,HF I.Α e,HF J.Α i,rj I e,rj J i,h,q⟩
 .intro b hb;rw[aG.mp hb];exact rj I e
 .intro b hb;rw[aG.mp hb];exact HF I.Α e
def Bu(K:gy)(C:Addr):Prop:=∃(l i:Str)(N:Addr)(k d:hE)(a:Bool)(m:hG)(b:hE)(h:Bool)(c:Option Bool)(j:Option Addr)(e o n f g:Option Value),K.lookup C=some (excClassObj l i C N k d a m b h c j e o n f g "ValueError.__new__")/\PySem.W.nsOkIn K N=true/\PySem.W.nsIn K N "__init__"=some none/\PySem.W.tailIn K Wz d=true
def QA{K:gy}(k p:Str)(N:Addr)(q j:hE)(g:Bool)(s:hG)(i:hE)(m:Bool)(h:Option Bool)(r:Option Addr)(n v u o t:Option Value)(l:K.lookup d=some f)(e:f=excClassObj k p d N q j g s i m h r n v u o t "ValueError.__new__")(a:PySem.W.nsOkIn K N=true)(b:PySem.W.nsIn K N "__init__"=some none)(c:PySem.W.tailIn K Wz j=true):Bu K d:=by
 subst e;exact⟨_,_,_,_,_,_,_,_,_,_,_,_,_,_,_,_,l,a,b,c⟩
def LL(C:Addr)(E:XK)(t:TA):TS:=λ_ b H=>t b H λa c=>a.length<=sizeLine/\E (.ref C) none c
def rB{X:Cx}{x:Str}{v:Pos}{d:Pos}{f:Pos}{c:Expr}{b:List Expr}{t:TA}{C:Addr}{E:XK}(q:Bu X.K C)(R:X.calm=true)(P:Nd X E)(S:Gl X x)(y:X.mg x=some (.ref C))(u:PA X (c::b) t)(hdb:(x==("__debug__":Str))=false:=by decide)(o:starEach (c::b) X.env=(false,eval c X.env)::starEach b X.env:=by rfl)(M:(backTo d (starEach b X.env)).any (·.1)=false:=by rfl):PS X (.Raise (some (.Call (.Name x v) (c::b) [] d)) none f) (LL C E t):=by
 intro a s n H D I h;obtain⟨nm,J,N,bs,bm,hdct,sn,sub,ab,col,dd,k0,k1,k2,k3,k5,T,k,r,U⟩:=q;have B:=I.mod.Yh;have l:=PySem.W.tail_of_in B U;have G:X.base.Ns N (X.base.nsMap N):=.of_isNs (PySem.W.isNs_of_in B k);have Q:(backTo d (starEach (c::b) X.env)).any (·.1)=false:=by
  rw[o];show(false||(backTo d (starEach b X.env)).any (·.1))=false;rw[M]
  rfl
 refine wpAny_Raise_call_subT (C:=C) (nm:=nm) (q:=J) (N:=N) (bs:=bs) (bm:=bm) (hdct:=hdct) (sn:=sn) (sub:=sub) (ab:=ab) (col:=col) (dd:=dd) (k0:=k0) (k1:=k1) (k2:=k2) (k3:=k3) (k5:=k5) PySem.F.excBase_ValueError
  (l.hasType (by decide +kernel)) (I.ok.hd R) Q (PySem.W.nsMap_none_of_in B k r) (qo I S y ⟨rfl,?_⟩ hdb)
 have g:=u d a s n H _ I h;rw[o]at g ⊢;refine j4 (ϙ g λz i ⟨Y,L,e,w,j⟩=>⟨rfl,by show z.length<=_;rw[<-w.length];exact j.1,e.bk _ _ (B _ _ T),G.keeps e.bk,l.keeps e.bk,λA p m=>?_⟩);obtain⟨V,O,_,_⟩:=m.there;exact P a n L i p (.ref C) none A i.toks e m.keeps m.new ⟨_,_,O,rfl,rfl,rfl,rfl,rfl⟩ j.2
def XP(CX:TK)(X:Cx)(a:g8)(b:St)(E:XK)(e:Value)(c:Shared):Prop:=∃H s,Inv X a b H s/\CX X.stack H s E e c
def Zj(c:TK)(X:Cx)(e:Expr)(t:XK->TE):Prop:=∀(E:XK)(a:g8)(s:Shared)(b:St)(H:Hp)(Q:VK),Inv X a b H s->t E b H Q->wpAny (model X.prog X.w) X.A (eval e X.env) (EP X a b Q) (XP c X a b E) s
abbrev XS(c:TK)(X:Cx)(a:g8)(f:St->XK)(e:Value)(d:Shared):Prop:=∃b,XP c X a b (f b) e d
def PSx(d:TK)(X:Cx)(st:Stmt)(t:(St->XK)->TS):Prop:=∀(c:St->XK)(a:g8)(s:Shared)(b:St)(H:Hp)(D:Ends),Inv X a b H s->t c D b H->wpAny (model X.prog X.w) X.A (exec st X.env) (SP X a D) (XS d X a c) s
def SH(d:TK)(X:Cx)(st:List Stmt)(t:(St->XK)->TS):Prop:=∀(c:St->XK)(a:g8)(s:Shared)(b:St)(H:Hp)(D:Ends),Inv X a b H s->t c D b H->wpAny (model X.prog X.w) X.A (execs st X.env) (SP X a D) (XS d X a c) s
def Pn{v:TK}{X:Cx}{k:Nat}{f:Addr}{B:FuncData}{n:hG}{G:Sp}{j:List V}{d:hE}{x:Str}{p:Pos}{a:Pos}{e:Expr}{i:List Expr}{t:TA}(F:ύ X.prog X.w X.K X.mg X.base v k f B n G)(U:Χ k X.A)(R:Gl X x)(M:X.mg x=some (.ref f))(S:PySem.W.keepIn X.K (.ref f)=true)(Z:Binds X.K B n d)(P:Vals j d)(L:PA X.Wl (e::i) t)(l:(x==("__debug__":Str))=false:=by decide)(Y:starEach (e::i) X.env=(false,eval e X.env)::starEach i X.env:=by rfl)(O:(backTo a (starEach i X.env)).any (·.1)=false:=by rfl):Zj v X (.Call (.Name x p) (e::i) [] a) (λE=>sO G j E t):=by
 intro E g s T H Q I h;refine gY (qo I R M ?_ l);refine iX (h₀:=X.base) I.ok.mod.Yh S (cP (L a g s T H _ (I.wish _) h) (λc m ⟨D,C,y,r,q⟩=>⟨y.Ϙ.Uz,?_⟩) λ_ _ z=>False.elim z) Y O;have J:=y.Ϙ;have o:Vals (D++j) (c++d):=r.append P;have N:(c++d).length=n.length:=by rw[<-o.length];exact F.len _ _ _ _ q
 refine my (jA (F.run X.A X.stack m C ⟨c,[]⟩ (c++d) (D++j) Q E U J.Yn (Z m c J.Uz N) o q) λr s' b=>?_);cases r with
 | error e=>exact⟨C,m,J,b⟩
 | ok fl=>
   cases fl with
   | ret u=>exact J.after b
   | next=>exact False.elim b
   | brk=>exact False.elim b
   | cont=>exact False.elim b
def Q3(k:Zj c e a b):PSx c e (.Return (some a) d) (λi D f H=>b (i f) f H D.rt):=by
 intro i g s f H D I h;exact wpAny_Return_some (cP (k (i f) g s f H _ I h) (λv p ⟨x,m,l,j,n⟩=>⟨x,f,m,l,j,n⟩) λa o z=>⟨f,z⟩)
def GZ{b:TK}{X:Cx}{st:Stmt}{c:(St->XK)->TS}(e:PSx b X st c):SH b X [st] c:=by
 intro g a s d H D I h;refine lD (ϙ (e g a s d H D I h) λf i q=>?_);cases f with
 | next=>exact gR q
 | ret v=>exact q
 | brk=>exact q
 | cont=>exact q
abbrev Cx.held(X:Cx)(e:Value):Cx:={ X with A:=X.A.mark (some e),calm:=false }
def Cx.Ok.held{X:Cx}(a:X.Ok)(e:Value):(X.held e).Ok:=⟨a.mod,a.kind,a.glob,a.blt,a.above,a.inj,a.has,a.XG,(λz=>nomatch z),a.frames,a.Yi,a.ZL,a.bs,a.Wj,a.UT,a.Uy,a.aS,a.WT⟩
def Cx.Ok.UG{X:Cx}(b:(X.held a).Ok)(c:X.calm=true->X.A.handled=none):X.Ok:=⟨b.mod,b.kind,b.glob,b.blt,b.above,b.inj,b.has,b.XG,c,b.frames,b.Yi,b.ZL,b.bs,b.Wj,b.UT,b.Uy,b.aS,b.WT⟩
def Inv.held{X:Cx}{a:g8}{b:St}{H:Hp}{s:Shared}(I:Inv X a b H s)(e:Value):Inv (X.held e) a b H s:=⟨I.ok.held e,I.os,I.bare,I.base,I.loc,I.cell,I.free,I.ϝ,I.pin,I.Α,I.len⟩
def Inv.UG{X:Cx}{a:g8}{b:St}{H:Hp}{s:Shared}{e:Value}(I:Inv (X.held e) a b H s)(c:X.calm=true->X.A.handled=none):Inv X a b H s:=⟨I.ok.UG c,I.os,I.bare,I.base,I.loc,I.cell,I.free,I.ϝ,I.pin,I.Α,I.len⟩
def Inv.moved{X:Cx}{a:g8}{M:St}{H:Hp}{s:Shared}{A:hD}{C:Heap}{tk:Nat}(I:Inv X a M H s)(k:Kept (ϥ X.stack) A s.heap C)(h:∀b∈A,H b=none/\X.s₀.heap.get? b=none/\b≠X.env.locals/\(∀x c,X.env.cells.lookup x=some c->c≠b)/\∀p∈X.pn++a,p.1≠b):Inv X a M H { s with heap:=C,toks:=tk }:=by
 have t:∀b o,X.s₀.heap.get? b=some o->b∉A:=λb o e z=>by rw[(h b z).2.1]at e;cases e
 have E:∀b o,X.s₀.heap.get? b=some o->b≠X.env.locals:=λb o e z=>absurd (be (aO e) I.ok.above) (by rw[z];exact di _);have j:∀b,b≠X.env.locals->b∉X.fs->b∉ϥ X.stack:=λb G K z=>(aA.mp (I.UA b z)).elim G K;have g:∀b o,s.heap.get? b=some o->b∉A->∃B,C.get? b=some { o with slots:=B }:=λb o e z=>by
  by_cases f:b∈ϥ X.stack
  .exact k.slot b o e f z
  .exact⟨o.slots,k.keep b o e f z⟩
 have cells:∀x c v,X.env.cells.lookup x=some c->s.heap.IsCell c v->C.IsCell c v:=λx c v e ⟨o,J,Q⟩=>by
  obtain⟨B,q⟩:=g c o J λz=>(h c z).2.2.2.1 x c e rfl;exact⟨_,q,Q⟩
 refine⟨I.ok,I.os,I.bare,⟨λb o e n D y=>?_,λb o e n D y=>?_,I.base.free,λb o e y=>?_,I.base.nE,I.base.iD,I.base.oK⟩,?_,λx c e=>?_,I.free,I.ϝ,λp L=>?_,Bc I.Α k I.iF λb T=>(h b T).1,I.len⟩
 .exact k.keep b o (I.base.keep b o e n D y) (j b (E b o e) D) (t b o e)
 .obtain⟨B,w⟩:=I.base.slot b o e n D y;obtain⟨R,P⟩:=g b _ w (t b o e);exact⟨R,P⟩
 .obtain⟨o1,w⟩:=I.base.there b o e y;exact k.there b o1 w
 .obtain⟨m,⟨o,es,ep,J,r⟩,l⟩:=I.loc;obtain⟨B,w⟩:=g _ o J λz=>(h _ z).2.2.1 rfl;refine⟨m,⟨_,es,ep,w,r⟩,λi x v G K O=>?_⟩;obtain⟨u,N,F⟩:=l i x v G K O;refine⟨u,N,?_⟩;rcases F with F|⟨S,c,e,z⟩
  .exact .inl F
  .exact .inr ⟨S,c,e,cells x c _ e z⟩
 .obtain⟨v,z⟩:=I.cell x c e;exact⟨v,cells x c v e z⟩
 .obtain⟨e,n,ne,nf,d⟩:=I.pin p L;exact⟨k.keep p.1 p.2 e (j p.1 ne nf) λz=>(h p.1 z).2.2.2.2 p L rfl,n,ne,nf,d⟩
def Inv.young{X:Cx}{a:g8}{c:St}{H:Hp}{s:Shared}(I:Inv X a c H s){b:Addr}(n:s.heap.get? b=none):X.s₀.heap.get? b=none\/b∈X.ex:=by
 by_cases z:b∈X.ex
 .exact .inr z
 .refine .inl ?_;cases q:X.s₀.heap.get? b with
  | none=>rfl
  | some o=>
    obtain⟨d,e⟩:=I.base.there b o q z;rw[n]at e;cases e
def Inv.apart{X:Cx}{a:g8}{g:St}{H:Hp}{s:Shared}(I:Inv X a g H s){b:Addr}(n:s.heap.get? b=none):b≠X.env.locals/\(∀x c,X.env.cells.lookup x=some c->c≠b)/\∀p∈X.pn++a,p.1≠b:=by
 refine⟨?_,λx c e z=>?_,λp f z=>?_⟩
 .rintro rfl;obtain⟨m,⟨o,i,h,d,r⟩,_⟩:=I.loc;rw[n]at d;cases d
 .obtain⟨v,o,d,hd⟩:=I.cell x c e;rw[z,n]at d;cases d
 .obtain⟨e,_⟩:=I.pin p f;rw[z,n]at e;cases e
def Iq{K:gy}{s:Shared}{Q:Bool->Shared->Prop}(X:K.In s.heap)(p:∃o,s.heap.get? d=some o/\o.cls=.ref c)(n:U7 K b)(m:PySem.W.mroIn K c (.ref b)=some f)(h:Q f s):wpAny a j (excMatches (.ref d) (.ref b)) Q i s:=by
 obtain⟨o,u,r⟩:=p;obtain⟨l,g,C,t,os⟩:=s;have z:PySem.W.Looks a l (typeOf (.ref d)) (.ref c):=r▸(PySem.W.Looks.ld u).andThen .now;have x:=nN (M:=a) X m;have y:=nN (M:=a) X n.mb;have A:=PySem.W.looks_typeIn (M:=a) X n.ty;have D:PySem.W.Looks a l (isSubtype (.type "type") (.type "tuple")) false:=.of_pure tc_notTuple;obtain⟨cd,e,_⟩:=lC n.hd;have E:PySem.W.Looks a l (isType (.ref b)) true:=by
  unfold PySem.W.clsIn at e;split at e
  .rename_i UU
   intro F v B w k q;unfold isType loadHead;exact ao (wpAny_loadPart (k _ _ (X _ _ UU)) (bh q))
  .cases e
 unfold excMatches isInstance isExcClass;cases f
 all_goals
  repeat lk
  exact h
structure Loose(X:Cx)(pins:g8)(H:Hp)(b:Addr):Prop where
 un:H b=none
 new:X.s₀.heap.get? b=none
 loc:b≠X.env.locals
 cel:∀x c,X.env.cells.lookup x=some c->c≠b
 pin:∀p∈X.pn++pins,p.1≠b
def Loose.all(l:Loose d b e a):e a=none/\d.s₀.heap.get? a=none/\a≠d.env.locals/\(∀x c,d.env.cells.lookup x=some c->c≠a)/\∀p∈d.pn++b,p.1≠a:=⟨l.un,l.new,l.loc,l.cel,l.pin⟩
abbrev TH:=Ends->St->Value->Option Addr->Hp->Prop
def Zk(X:Cx)(f:List ExceptHandler)(g:TH):Prop:=∀(a:g8)(s:Shared)(d:St)(H:Hp)(D:Ends)(c T:Addr)(b:Value)(e:Option Addr),Inv X a d H s->V7 s.heap c T b e .none->Loose X a H c->Loose X a H T->g D d b e H->wpAny (model X.prog X.w) X.A (handleBy (.ref c) X.env f) (SP X a D) X.xe s
def Xu:TH:=λ_ _ _ _ _=>False
def MZ:Zk a [] Xu:=λ_ _ _ _ _ _ _ _ _ _ _ _ _ h=>h.elim
def Kr(d:(St->XK)->TS)(f:TH):TS:=λD c H=>d (λa b e g=>f D a b e g) D c H
def LZ(G:a.ex=[])(L:a.stack=a.env::a.outer)(R:a.env.frame=some a.env.locals)(o:SH (τ a.prog a.w) a c i)(O:Zk a (d::g) j):PS a (.Try c (d::g) [] [] k) (Kr i j):=by
 intro l s V H D I h;refine wpAny_Try_except (cP (o _ l s V H D I h) (λf N q=>?_) λe p z=>?_)
 .cases f with
  | next=>exact gR q
  | ret v=>exact q
  | brk=>exact q
  | cont=>exact q
 .obtain⟨σ1,H1,N,I1,ea,T,cls,od,H',rfl,os,bare,un,Α,n1,n2,f1,f2,er,q⟩:=z;have J:=I1.Wk (ch:=[]) os un Α bare (by simp);have m:∀b,N.heap.get? b=none->H' b=none->Loose a l H' b:=λb z u=>by
   obtain⟨A,x,B⟩:=I1.apart z;refine⟨u,?_,A,x,B⟩;rcases I1.young z with y|y
   .exact y
   .rw[G]at y;cases y
  have le:=m ea f1 n1;have lt:=m T f2 n2;have F:=J.ok.frames;have st:=J.stack;rw[L]at F st;refine Jj F st R er λM E C K n=>?_;rw[<-L]at K;have U:Inv a l σ1 H' { p with heap:=M }:=J.moved (tk:=p.toks) K λb o=>by
   simp only[aA,fM,or_false]at o;rcases o with rfl|rfl
   .exact le.all
   .exact lt.all
  have r:Loose a l H' E:=by
   obtain⟨A,x,B⟩:=J.apart n;refine⟨HF Α n,?_,A,x,B⟩;rcases J.young n with y|y
   .exact y
   .rw[G]at y;cases y
  refine wf (fs:=ϥ a.stack) (s:={ p with heap:=M }) C λQ t P=>?_;have S:Inv a l σ1 H' { p with heap:=Q }:=U.moved (tk:=p.toks) P λb o=>by rw[aG.mp o];exact r.all
  exact O l _ σ1 H' D ea E cls od S t le r q
def tL(a:List (Str×Addr)):List (Str×NameKind)->List (Str×Addr)->List (Str×Addr)
 | [],acc=>acc
 | (n,k)::r,acc=>if k==.free then tL a r ((n,(a.lookup n).getD 0)::acc)else tL a r acc
def KL(h:∀y∈d.names,y.2=.free->(b.cells.lookup y.1).isSome=true):closureFor d b=pure (tL b.cells d.names []):=by
 have f:∀(l:List (Str×NameKind))(e:List (Str×Addr)),(∀y∈l,y.2=.free->(b.cells.lookup y.1).isSome=true)->(forIn l e λ(y:Str×NameKind)(c:List (Str×Addr))=>(if y.2==NameKind.free then do let a <-cellOf b y.1;pure (ForInStep.yield ((y.1,a)::c))else pure (ForInStep.yield c):Sem (ForInStep (List (Str×Addr)))))=(pure (tL b.cells l e):Sem (List (Str×Addr))):=by
  intro l
  induction l with
  | nil=>intro e _;rfl
  | cons y l ih=>
    obtain⟨n,k⟩:=y;intro e g;have o:=g (n,k) aL;have i:∀y∈l,y.2=.free->(b.cells.lookup y.1).isSome=true:=λy m=>g y (aw _ m);rw[mQ];unfold tL;cases q:k==NameKind.free with
    | false=>
      simp only[cZ,if_false,pure_bind];exact ih e i
    | true=>
      obtain⟨c,j⟩:=gM.mp (o (by simpa using q));dsimp only at j;simp only[if_true,cellOf,j,pure_bind,Option.getD_some];exact ih _ i
 have:=f d.names [] h;unfold closureFor;simp only[bind_pure];exact this
theorem A3 :∀{l:List (Str×NameKind)}{f:List (Str×Addr)},(∀y∈l,y.2=.free->(b.lookup y.1).isSome=true)->(∀e c,f.lookup e=some c->b.lookup e=some c)->(tL b l f).lookup e=some c->b.lookup e=some c
 | [],f,_,h2,h3=>h2 e c h3
 | (n,k)::r,f,h1,h2,h3=>by
   have h:∀y∈r,y.2=.free->(b.lookup y.1).isSome=true:=λy g=>h1 y (aw _ g);unfold tL at h3;cases q:k==NameKind.free with
   | false=>
     rw[q]at h3;exact A3 h h2 (by simpa using h3)
   | true=>
     rw[q]at h3;simp only[if_true]at h3;obtain⟨a,i⟩:=gM.mp (h1 (n,k) aL (by simpa using q));dsimp only at i;rw[i]at h3;refine A3 h (λy d g=>?_) h3;rw[da]at g;cases z:y==n with
     | true=>
       rw[z]at g;cases g;rw[eq_of_beq z];exact i
     | false=>
       rw[z]at g;exact h2 y d g
theorem BS :∀{l:List (Str×NameKind)}{d:List (Str×Addr)},((∃c,d.lookup a=some c)\/(a,NameKind.free)∈l)->∃c,(tL b l d).lookup a=some c
 | [],d,h=>by
   rcases h with h|h
   .exact h
   .cases h
 | (n,k)::r,d,h=>by
   unfold tL;cases q:k==NameKind.free with
   | false=>
     simp only[cZ,if_false];refine BS ?_;rcases h with h|h
     .exact .inl h
     .rcases aA.mp h with z|z
      .cases z;simp at q
      .exact .inr z
   | true=>
     simp only[if_true];refine BS ?_;by_cases z:a=n
     .subst z;exact .inl ⟨(b.lookup a).getD 0,by rw[da];simp⟩
     .rcases h with⟨c,h⟩|h
      .refine .inl ⟨c,?_⟩;rw[da];have:(a==n)=false:=(by simpa using z);rw[this];exact h
      .rcases aA.mp h with y|y
       .cases y;exact absurd rfl z
       .exact .inr y
theorem qV{env:Env}{x:Str}{k:NameKind}:∀{l:List (Str×NameKind)},l.lookup x=some k->(l.map λ(n,k)=>if(k==NameKind.free&&env.scope.kind==.function&&env.kindOf n==some .cell)then(n,NameKind.cell)else(n,k)).lookup x=some (if(k==NameKind.free&&env.scope.kind==.function&&env.kindOf x==some .cell)then NameKind.cell else k)
 | [],h=>by simp at h
 | (n,j)::r,h=>by
   have a:=@qV env x k r;rw[aF];rw[da]at h;cases z:x==n with
   | true=>
     rw[z]at h;cases h;have e:=eq_of_beq z;subst e;by_cases q:(k==NameKind.free&&env.scope.kind==.function&&env.kindOf x==some .cell)=true
     .simp only[q,if_true,da,z]
     .simp only[q,if_false,da,z,cZ]
   | false=>
     rw[z]at h;dsimp only;by_cases q:(j==NameKind.free&&env.scope.kind==.function&&env.kindOf n==some .cell)=true
     .rw[aj q,da,z];exact a h
     .rw[ah q,da,z];exact a h
def Qf{X:Cx}{d:hG}{scope:Scope}(a:Nat)(b:List Nat)(s:∀y∈scope.names,y.2≠.cell)(D:scope.kind=.function)(B:∀y∈scope.names,y.2=.local->scope.names.lookup y.1=some .local)(v:d.length=a+b.length)(o:∀y∈scope.names,y.2=.free->X.env.scope.names.lookup y.1=some .cell)(E:X.env.scope.kind=.function)(F:∀x,X.env.scope.names.lookup x=some .cell->∃c,X.env.cells.lookup x=some c)(t:∀i,i<b.length->∃x j,d[a+i]?=some x/\b[i]?=some j/\X.N[j]?=some x/\scope.names.lookup x=some .free):Ϫ X d a b scope (tL X.env.cells scope.names []):=by
 have g:∀y∈scope.names,y.2=.free->(X.env.cells.lookup y.1).isSome=true:=λy A e=>by
  obtain⟨c,q⟩:=F _ (o y A e);rw[q]
  rfl
 have G:∀x,scope.names.lookup x=some .free->X.env.scope.names.lookup x=some .cell:=λx h=>o (x,.free) (dZ h) rfl;refine⟨KL g,D,s,B,λx c h=>A3 g (λx c z=>by simp at z) h,λx h=>?_,v,λi x h=>?_⟩
 .cases q:scope.names.lookup x with
  | none=>
    exfalso
    have:(relabel scope X.env).names.lookup x=none:=by
     unfold relabel;dsimp only
     revert q
     generalize scope.names=l
     induction l with
     | nil=>intro _;rfl
     | cons y l ih=>
       obtain⟨n,k⟩:=y;intro q;rw[da]at q;cases z:x==n with
       | true=>rw[z]at q;cases q
       | false=>
         rw[z]at q;rw[aF];dsimp only;by_cases w:(k==NameKind.free&&X.env.scope.kind==.function&&X.env.kindOf n==some .cell)=true
         .rw[aj w,da,z];exact ih q
         .rw[ah w,da,z];exact ih q
    rw[this]at h;rcases h with h|h<;>cases h
  | some k=>
    have r:(relabel scope X.env).names.lookup x=some _:=qV (env:=X.env) q;cases k with
    | free=>exact BS (.inr (dZ q))
    | cell=>exact absurd rfl (s _ (dZ q))
    | _=>
      rw[r]at h;simp at h
 .have hi:i<b.length:=by
   have:=(aD.mp h).1
   lia
  obtain⟨y,j,p,C,u,f⟩:=t i hi;rw[h]at p;cases p;have m:=G x f;refine⟨j,C,u,m,?_⟩;have r:(relabel scope X.env).names.lookup x=some _:=qV (env:=X.env) f;rw[r];have:X.env.kindOf x=some .cell:=m;rw[this,E]
  rfl
theorem Jz:∀{a:ej}{b:hE},Vals (a.map V.int) b->IntsAre b a
 | [],_,h=>by cases h;exact .nil
 | n::a,_,h=>by
   cases h with
   | cons r t=>
     obtain⟨k,rfl⟩:=(show ∃t,_=Value.int n t from r);exact .cons n k (Jz t)
theorem Jl:∀{a:ej}{b:hE},IntsAre b a->Vals (a.map V.int) b
 | _,_,.nil=>.nil
 | _,_,.cons n t r=>.cons ⟨t,rfl⟩ (Jl r)
def IJ:lS c (.builtin "sorted") (λk H Q=>∃(p:Addr)(g:ej),k=[.ref p]/\ν c.K H p (g.map V.int)/\g.length<64/\∀(l:Addr)(d:ej),H l=none->d.Perm g->d.Pairwise (·<=·)->Q (.ref l) (upd H l (.lst (d.map V.int)))):=by
 intro m s J H k E Q I r h;obtain⟨p,g,rfl,C,v,q⟩:=h;obtain⟨u,rfl,t⟩:=oE r;cases t;obtain⟨i,D,y,F⟩:=I.list C;have n:=Jz D;have G:=IntsAre.length n;refine sorted_ints y.isList n (by lia) λf d x j z=>?_;obtain⟨e,w⟩:=sortedAll_at s.heap i f;have B:H (s.heap.objs.size+1)=none:=I.Α.fresh (iT _);have A:d.length=g.length:=j.length_eq;refine⟨.ref (s.heap.objs.size+1),_,I.laid (a:=s.heap.objs.size+1) (o:=.lst (d.map V.int)) (t':=s.toks) (λb o e=>sortedAll_old e) (iT _) ⟨?_,f.toList,e,Jl x,?_⟩,rfl,q _ d B j z⟩
 .rw[aa,A];exact bL (by lia)
 .exact w
def QJ{K:gy}(h:K.lookup c=some ⟨f,i,.cls e,g⟩)(m:e.mro=.ref c::.ref d::Wz)(j:Addr):PySem.W.mroIn K c (.ref j)=some (decide (j=c)||decide (j=d)):=by
 unfold PySem.W.mroIn PySem.W.clsIn;rw[h];simp only[Option.bind_some,m,List.isEmpty_cons,cZ,if_false]
 congr 1
 by_cases k:j=c
 .subst k;simp
 .by_cases h2:j=d
  .subst h2;simp
  .have a:(Value.ref j==Value.ref c)=false:=(by simpa using k);have b:(Value.ref j==Value.ref d)=false:=(by simpa using h2);simp[ft,a,b,k,h2]
structure TL(K:gy)(T C:Addr):Prop where
 x:U7 K C
 mr:∀C',PySem.W.mroIn K C (.ref C')=some (decide (C'=C)||decide (C'=T))
 mv:PySem.W.mroIn K C (.type "ValueError")=some true
def Db{K:gy}(h:K.lookup a=some ⟨e,g,.cls b,f⟩)(m:b.mro=.ref a::d)(i:(Value.ref a::d).contains c=true):PySem.W.mroIn K a c=some true:=by
 unfold PySem.W.mroIn PySem.W.clsIn;rw[h];simp only[Option.bind_some,m,List.isEmpty_cons,cZ,if_false,i]
def Jp{K:gy}{C:Addr}{e:Value}{i:Option Addr}{cd:ClassData}{c:Array (Option Value)}{r:hE}(l:PySem.W.typeIn K (.ref C)=some (.type "type"))(j:PySem.W.findIn K (.ref C) "__getattribute__"=some (some (.builtin "BaseException.__getattribute__")))(f:PySem.W.findIn K (.ref C) "__getattr__"=some none)(g:PySem.W.findIn K (.ref C) "__class__"=some (some (.builtin "object.__class__")))(n:PySem.W.specialIn K (.builtin "object.__class__") "__get__"=some (some (.builtin "getset_descriptor.__get__")))(d:PySem.W.takesIn K (.builtin "object.__class__")=some true)(k:PySem.W.hasDictIn K C=true)(h:K.lookup C=some ⟨e,i,.cls cd,c⟩)(m:cd.mro=.ref C::r)(a:r.contains (.type "object")=true)(b:r.contains (.type "BaseException")=true):U7 K C:=⟨l,j,f,g,n,d,Db h m (by rw[ft,a,lX]),Db h m (by rw[ft,b,lX]),k,Db h m (by simp)⟩
section
variable{K:gy}{T C:Addr}
structure aam(K:gy)(T:Addr):Prop where
 x:U7 K T
end
def Ro{K:gy}{C:Addr}{d:Value}{f:Option Addr}{cd:ClassData}{a:Array (Option Value)}(j:PySem.W.typeIn K (.ref C)=some (.type "type"))(g:PySem.W.findIn K (.ref C) "__getattribute__"=some (some (.builtin "BaseException.__getattribute__")))(c:PySem.W.findIn K (.ref C) "__getattr__"=some none)(e:PySem.W.findIn K (.ref C) "__class__"=some (some (.builtin "object.__class__")))(k:PySem.W.specialIn K (.builtin "object.__class__") "__get__"=some (some (.builtin "getset_descriptor.__get__")))(b:PySem.W.takesIn K (.builtin "object.__class__")=some true)(i:PySem.W.hasDictIn K C=true)(h:K.lookup C=some ⟨d,f,.cls cd,a⟩)(m:cd.mro=.ref C::Wz):aam K C:=⟨Jp j g c e k b i h m (by decide +kernel) (by decide +kernel)⟩
def QB{K:gy}{T:Addr}{C:Addr}{d:Value}{k:Option Addr}{cd:ClassData}{f:Array (Option Value)}(l:PySem.W.typeIn K (.ref C)=some (.type "type"))(n:PySem.W.findIn K (.ref C) "__getattribute__"=some (some (.builtin "BaseException.__getattribute__")))(g:PySem.W.findIn K (.ref C) "__getattr__"=some none)(i:PySem.W.findIn K (.ref C) "__class__"=some (some (.builtin "object.__class__")))(e:PySem.W.specialIn K (.builtin "object.__class__") "__get__"=some (some (.builtin "getset_descriptor.__get__")))(j:PySem.W.takesIn K (.builtin "object.__class__")=some true)(o:PySem.W.hasDictIn K C=true)(h:K.lookup C=some ⟨d,k,.cls cd,f⟩)(m:cd.mro=.ref C::.ref T::Wz):TL K T C:=by
 have a:(Value.ref T::Wz).contains (.type "object")=true:=by rw[ft];simp[Wz]
 have b:(Value.ref T::Wz).contains (.type "BaseException")=true:=by rw[ft];simp[Wz]
 have c:(Value.ref T::Wz).contains (.type "ValueError")=true:=by rw[ft];simp[Wz]
 exact⟨Jp l n g i e j o h m a b,QJ h m,Db h m (by rw[ft,c,lX])⟩
def W4.Ϻ{P:Program}{w:World}{K:gy}{l:hF}{c:Heap}{x b:Str}{st:Stmt}{f:Addr}{j:FuncData}{N h:hG}{k:Nat}{g:Sp}(F:W4 K x b st f j)(S:ζ N h (aK st))(q:∀(e:Value) (A:Around) (a:List Env) (s:Shared) (H:Hp) (d:List V) (Q:VK) (E:XK),Χ k (A.deeper (envOfC b (aK st) s.heap.objs.size f e))->g d H Q E->∃t,UX (sk (τ P w) P w K l c N b (aK st) f e A a s H E) (kG st) t/\t { nx:=λ_ n=>Q .ο n,rt:=Q } (start N d) H)(i:∀d H Q E,g d H Q E->d.length=h.length:=by walk_at "v"):ύ P w K l c (τ P w) (k+1) f j h g:=by
 obtain⟨B,D,kV,m,y,z,e,v,C,rfl,u,o⟩:=F.ex;exact PY u o S i λA a s H d Q E r p=>q e A a s H d Q E r p
theorem MF :LL e c d f a b=d a b λg h=>g.length<=sizeLine/\c (.ref e) none h:=rfl
theorem QD :Kr c d b a e=c (λf g h i=>d b f g h i) b a e:=rfl
def Sh(h:c d=some (.lst a))(g:c e=some (.lst b))(i:a.length+b.length<=sizeLine)(q:∀p,c p=none->f (.ref p) (upd c p (.lst (a++b)))):Yv (.ref d) (.ref e) c f:=⟨d,e,a,b,rfl,rfl,h,g,i,q⟩
def δ.put(e:δ a c)(n:a d=none)(o:HO):δ a (upd c d o):=λb u h=>by rw[aW (dX h n)];exact e b u h
def Pi(h:wpAny f i (storeName a g v) d e c):wpAny f i (assign (.Name g b) a v) d e c:=by
 show wpAny f i (do standAt b;bindName a g v) d e c;exact ao (i5 (wpAny_bindName h))
def sJ{X:Cx}{O:hG}{a0:Nat}{js:List Nat}{scope:Scope}{M:List (Str×Addr)}{i:Nat}{x:Str}{px av:Pos}{Q a l:Expr}{P:List Expr}{ϕ:Pos}{wi:TI}{g:TG}{tc:TT}{te:TE}(hN:X.N.Nodup)(bH:X.N[i]?=some x)(a1:X.env.scope.names.lookup x=some .local)(hc:X.calm=true)(T:Ϫ X O a0 js scope M)(hi:PI X a l wi)(hg:∀C m z j,PG (X.comp O scope M C m z j) a g)(ht:∀C m z j,Z9 (X.comp O scope M C m z j) P tc)(he:∀C m z j,PE (X.comp O scope M C m z j) Q te)(hs:∀x,foldedSetIterable l X.env x=pure x:=by intro _;rfl)(bv:swapsWith (.ListComp Q [⟨a,l,P,0⟩] scope ϕ) (some (.Name x px)) av.line X.env=pure true:=by rfl):PS X (.Assign [.Name x px] (.ListComp Q [⟨a,l,P,0⟩] scope ϕ) av) (HR (Ln a0 js wi g tc te) (zQ i)):=by
 intro G s σ H D I h;rw[exec_Assign_Name_used _ _ _ _ bv];refine ao (i5 (ao ?_));rw[arm_evalThenUse_ListComp];refine ao ?_;refine wpAny_comprehension_free (use:=some (assign (.Name x px) X.env)) rfl hs T.Yy T.kind T.names (ϙ (hi G s σ H _ I h) λv s1 h1=>ϙ h1 λel f h2=>?_);obtain⟨it,j,tn,J,H1,rfl,I1,Z,st,f1,R⟩:=h2;have Xo:∀b∈j,b<f.heap.objs.size:=λb B=>let ⟨o,e,_⟩:=Z.obj _ _ st b B;aO e;refine fg (wpAny_newFunctionEnv T.Vo (by intro y hy;simp at hy) (λE bV ϫ=>?_) T.kind);dsimp only at bV ϫ ⊢;generalize YB:f.heap.push { cls:=.type "list",dict:=none,data:=.seq ([]:hE).toArray }=k at bV ϫ ⊢;have hC:k.objs.size=f.heap.objs.size+1:=by rw[<-YB,eK]
 have Yz:f.heap.objs.size≠k.objs.size:=by rw[hC];exact bf (fN _)
 have TZ:f.heap.objs.size<=k.objs.size:=by rw[hC];exact iT _
 have cj:∀b,b<f.heap.objs.size->b≠k.objs.size:=λb B=>by rw[hC];exact bf (gh B)
 have aH:∀b o,f.heap.get? b=some o->E.get? b=some o:=λb o e=>ϫ.extBut b o (cj b (aO e)) (aI _ (YB▸aI _ e));have oR:∃n,E.get? f.heap.objs.size=some { cls:=.type "list",data:=.seq ([]:hE).toArray n }:=⟨_,ϫ.extBut _ _ Yz (aI _ (YB▸bd _ rfl))⟩;have U4:tn 0 E:=Z.keep _ _ _ st λb _ o e=>aH b o e;obtain⟨W,⟨m0,w0⟩,an⟩:=R f.heap.objs.size I1.fresh;have Ic:=FZ (t:=f.toks+([]:List (Str×Value)).length) T I1 TZ (aU _) Yz f1 Xo aH bV oR;generalize Xp:X.comp O scope M k.objs.size f H1 j=Xc at Ic;have K:∀{S:Hp},(∀b∈j,S b=none)->∀b∈j,qg Xc [] S b:=λ{S} hn b B=>by
  subst Xp;exact⟨hn b B,cj b (Xo b B),(DN T I1 TZ f1 Xo).Uy b B,.inl B,λx c e=>(f1 b B).2.2.2.2.1 x c (T.cells x c e),λp hp=>by cases hp⟩
 have cB:∀b∈j,upd H1 f.heap.objs.size (.lst []) b=none:=λb B=>by
  rw[aW (bf (Xo b B))];exact(f1 b B).1
 have eH:Xc.calm=true:=by subst Xp;exact hc
 have V:∀L:Shared,L={ f with heap:=E,toks:=f.toks+([]:List (Str×Value)).length }->codeAny (model X.prog X.w) X.A (.compLoop (.ListComp Q [⟨a,l,P,0⟩] scope ϕ) 0 (.ref it) (.ref f.heap.objs.size) (compEnvC scope M k.objs.size X.env))
  (compPost (model X.prog X.w) X.A X.xe (some (assign (.Name x px) X.env)) (λ_ s'=>wpAny (model X.prog X.w) X.A (pure ()) (λ_ ZV=>wpAny (model X.prog X.w) X.A (pure Flow.next) (SP X G D) X.xe ZV) X.xe s') (.ref f.heap.objs.size) k.objs.size) L:=by
  rintro L rfl;refine AO (λn s'=>∃i ys ap S,Inv Xc [] ap S s'/\tn i s'.heap/\(∀b∈j,S b=none)/\W i n ys ap S) ?_ m0 ⟨0,[],_,_,Ic,U4,cB,w0⟩;rintro n s3 ⟨i,ys,U,H3,I3,V4,XN,w3⟩;rcases an i n ys U H3 w3 with⟨stop,q⟩|⟨go,step⟩
  .subst Xp;refine ϙ (Z.done (X.comp O scope M k.objs.size f H1 j) rfl rfl rfl hc i [] s3 U H3 _ I3 (K XN) V4 stop) λr s4 ⟨hr,I4⟩=>?_;subst hr;obtain⟨m4,cA,_⟩:=id I4.loc;have J:=Fa I1 TZ f1 I4 (h':=s4.heap) (Heap.SameBut.refl _ _);have ar:k.objs.size≠X.env.locals:=fZ (be I1.lt TZ);have cy:X.s₀.heap.objs.size<=k.objs.size:=aV I1.sz TZ;have cc:∀y c,X.env.cells.lookup y=some c->c≠k.objs.size:=λy c e=>by
    obtain⟨v',o',UU,_⟩:=I1.cell y c e;exact bf (be (aO UU) TZ)
   have cp:∀p∈X.pn++G,p.1≠k.objs.size:=λp hp=>by
    obtain⟨UU,_⟩:=I1.pin p hp;exact bf (be (aO UU) TZ)
   refine Pi (Ev (v:=.ref f.heap.objs.size) J hN bH (.inl a1) rfl (λs5 I5 ⟨ad,sb,had⟩=>?_) (.inr a1));have br:k.objs.size≠ad:=by
    rcases had with rfl|had
    .exact ar
    .exact(cc _ _ had).symm
   obtain⟨oo,es,ep,e1,e2⟩:=cA;refine⟨m4,⟨oo,es,ep,(sb.2 _ br).trans e1,e2⟩,λh' cn=>bh (bh ⟨_,H3,?_,q⟩)⟩;exact I5.turned (it:=k.objs.size) (t':=s5.toks) (λb o n e=>cn.extBut b o n e) I4.free ar (.inr cy) cc cp
  .subst Xp;refine ϙ (Z.item (X.comp O scope M k.objs.size f H1 j) rfl rfl rfl hc i [] s3 U H3 _ I3 (K XN) V4 go) λr s4 ⟨u,hr,h4⟩=>?_;subst hr;refine ϙ h4 λ_ s5 ⟨x,H5,I5,r5,y5,Wn,ZS⟩=>?_;have ZT:=I5.pinned (K ZS) (Z.obj _ _ Wn);have Y:∀{ae:St}{H7:Hp}{s7:Shared},Inv (X.comp O scope M k.objs.size f H1 j) ([]++wE j s5.heap) ae H7 s7->Inv (X.comp O scope M k.objs.size f H1 j) [] ae H7 s7/\tn (i+1) s7.heap/\∀b∈j,H7 b=none:=λ{ae H7 s7} I7=>by
    refine⟨I7.ϲ,Z.keep _ _ _ Wn λb B o e=>(I7.pin (b,o) (bo _ (bo _ (pj B e)))).1,λb B=>?_⟩;obtain⟨o,e,d⟩:=Z.obj _ _ Wn b B;exact(I7.pin (b,o) (bo _ (bo _ (pj B e)))).2.1
   refine ϙ (hg _ _ _ _ _ s5 U H5 x u _ ZT r5 (step x H5 y5)) λ_ s6 ⟨F,H6,I6,q6⟩=>?_;refine B0 (ht _ _ _ _ _ s6 F H6 _ I6 q6) λok s7 H7 I7 q7=>?_;cases ok with
   | false=>
     rw[ah bq]at q7 ⊢;obtain⟨m',hm,w7⟩:=q7;obtain⟨J1,J2,J3⟩:=Y I7;exact⟨m',hm,i+1,ys,F,H7,J1,J2,J3,w7⟩
   | true=>
     rw[aj rfl]at q7 ⊢;refine eA (he _ _ _ _ _ s7 F H7 _ I7 q7) λy s8 yv H8 I8 r8 ⟨cv,cx,m',hm,w8⟩=>?_;refine ϙ (y9 _ s8 F H8 (.ref f.heap.objs.size) [yv] _ [y] (λv' S=>W (i+1) m' (ys++[yv]) F S) I8 rfl (.cons r8 .nil) ⟨_,ys,yv,rfl,rfl,cv,cx,w8⟩) λv9 s9 ⟨_,H9,I9,_,w9⟩=>?_;obtain⟨J1,J2,J3⟩:=Y I9;exact⟨m',hm,i+1,ys++[yv],F,H9,J1,J2,J3,w9⟩
 exact codeAny_compStart_list (V _ rfl) (Z.self _ 0 _ _ _ U4 (V _ rfl))
theorem yS{K:gy}{H:Hp}:∀a:List Int,ώ K H (a.map V.int) (a.map PyData.int)
 | []=>.nil
 | n::a=>.cons (.int n) (yS a)
def Ek{K:gy}{H:Hp}{l:Addr}{a:ej}(h:H l=some (.lst (a.map V.int))):rW K H (.ref l) (.list (a.map PyData.int)):=.lst (ν.of h) (yS a)
theorem AH:∀a:List Int,PyData.eqvAll (a.map PyData.int) (a.map PyData.int)=true
 | []=>by simp[PyData.eqvAll]
 | n::a=>by
   simp only[aF,PyData.eqvAll];rw[AH a];simp[PyData.eqv]
def Ox(a:ej):PyData.eqv (.list (a.map PyData.int)) (.list (a.map PyData.int))=true:=by
 simp only[PyData.eqv];exact AH a
theorem yf:∀a:List Int,PyData.depthAll (a.map PyData.int)<=1
 | []=>by simp[PyData.depthAll]
 | n::a=>by
   simp only[aF,PyData.depthAll];have:=yf a;have:(PyData.int n).depth<=1:=by simp[PyData.depth]
   lia
def Kg(a:ej):(PyData.list (a.map PyData.int)).depth<=40:=by
 simp only[PyData.depth];have:=yf a
 lia
def BX{K:gy}{H:Hp}{a b:Addr}{c:ej}{Q:VK}(d:H a=some (.lst (c.map V.int)))(e:H b=some (.lst (c.map V.int)))(q:Q (.bl false) H):R8 K (.ref a) (.ref b) H Q:=⟨_,_,Ek d,Ek e,Kg c,by rw[Ox];exact q⟩
end L2
namespace Pb
open L2 PySem
def front(r:Int)(a:eX)(p:Int):V:=if p=r then .ο else .int (a p)
def bU(m:Int)(b:hR)(a:V)(p:Int):List Int:=(ki m b p).filter λv=>decide (V.int v≠a)
def ε.ne(R:ε c f e b d)(i:0<=a)(h:a<c)(g:a≠e):b a≠a:=λz=>by
 have:=(R.up a i h g).2.2;rw[z]at this
 lia
def cR(g:Good l m)(R:ε l m k d n)(y:0<=f)(s:f<l):i∈bU l m (front k d f) f↔(0<=i/\i<l)/\i≠k/\d i=f:=by
 unfold bU;rw[bG,j2 g,bw]
 constructor
 .rintro⟨ad,hf⟩;obtain⟨_,r,_⟩:=g.Vz ad;refine⟨r,?_⟩;obtain⟨x,p,j⟩:=ad;have o:∀u w:Int,(u≠k/\d u=w)\/(w≠k/\d w=u)->u=f->w=i->i≠k/\d i=f:=λu w h v t=>by
   subst v t;rcases h with h|h
   .exfalso
    apply hf;unfold front;rw[ah h.1,h.2]
   .exact h
  rcases j with⟨a,b⟩|⟨a,b⟩
  .exact o x.a x.b (R.road x p) a b
  .exact o x.b x.a (R.road x p).symm a b
 .rintro⟨r,hr,hp⟩;have u:=R.up i r.1 r.2 hr;rw[hp]at u;refine⟨?_,λz=>?_⟩
  .obtain⟨x,p,j⟩:=u.2.1;exact⟨x,p,j.elim (λq=>.inr ⟨q.2,q.1⟩) (λq=>.inl ⟨q.2,q.1⟩)⟩
  .unfold front at z;by_cases c:f=k
   .rw[aj c]at z;cases z
   .rw[ah c]at z;have e:i=d f:=(by injection z);have w:=(R.up f y s c).2.2;have A:=u.2.2;rw[<-e]at w
    lia
def nz :(bU c a d b).Nodup:=(Co c a b).filter _
def nl(m:Int)(a:eX)(b:ej):List V:=(cj m.toNat).map λv=>if v∈b then .int (a v)else .ο
def qF(m r:Int)(a:eX):List V:=(cj m.toNat).map (front r a)
def uF :(nl a b c).length=a.toNat:=by unfold nl;rw[aa,cu]
def gS(h:a<b):(cj b)[a]?=some (a:Int):=by unfold cj;rw[aP,iK h];rfl
def MT(a:0<=v)(b:v<m):(nl m par ks)[v.toNat]?=some (if v∈ks then .int (par v)else .ο):=by
 unfold nl;rw[aP,gS (by lia)];show some (if((v.toNat:Nat):Int)∈ks then V.int (par ((v.toNat:Nat):Int))else V.ο)=_;rw[bJ a]
def SB(j:0<=b)(h:b<d):(nl d a f).set b.toNat (.int (a b))=nl d a (f++[b]):=by
 refine fK λi=>?_;rw[List.getElem?_set];by_cases c:i<d.toNat
 .have e:∀l:List Int,(nl d a l)[i]?=some (if(i:Int)∈l then .int (a (i:Int))else .ο):=λl=>by
   have:=MT (par:=a) (ks:=l) (v:=(i:Int)) (m:=d) (by lia) (by lia)
   rwa [bM]at this
  rw[e,uF];by_cases z:b.toNat=i
  .have g:b=(i:Int):=(by lia);rw[aj z,aj (by lia),e,aj (by rw[g];simp),<-g]
  .rw[ah z,e];have g:¬((i:Int)=b):=(by lia);simp[g]
 .have e:∀l:List Int,(nl d a l)[i]?=none:=λl=>bP (by rw[uF];lia);rw[e,e,uF];by_cases z:b.toNat=i
  .lia
  .rw[ah z]
section
variable{m:Int}{b:hR}{r:Int}{a:eX}
structure Ϧ(m:Int)(b:hR)(r:Int)(a:eX)(ks ws:ej):Prop where
 nd:ks.Nodup
 Μ:∀k∈ks,0<=k/\k<m
 nr:r∉ks
 sub:∀w∈ws,w=r\/w∈ks
 Zm:ws.Nodup
 ok:∀v∈ks,a v∉ws/\(a v=r\/a v∈ks)
 dn:∀v,0<=v->v<m->v≠r->(a v=r\/a v∈ks)->a v∉ws->v∈ks
end
def Ϧ.start:Ϧ d c b a [] [b] where
 nd:=List.nodup_nil
 Μ:=λ_ h=>by cases h
 nr:=λh=>by cases h
 sub:=λw h=>.inl (aG.mp h)
 Zm:=by simp
 ok:=λ_ h=>by cases h
 dn:=λv _ _ _ h n=>by
  rcases h with h|h
  .exact absurd (by rw[h];simp) n
  .cases h
def Ϧ.at_(J:Ϧ b e c d ks ws)(g:0<=c)(i:c<b)(f:a∈ws):0<=a/\a<b:=by
 rcases J.sub a f with h|h
 .rw[h];exact⟨g,i⟩
 .exact J.Μ a h
def Ϧ.front(J:Ϧ f e d b ks ws)(g:a∈ws):(if a∈ks then V.int (b a)else V.ο)=front d b a:=by
 unfold Pb.front;by_cases c:a=d
 .rw[aj c,ah (by rw[c];exact J.nr)]
 .rw[ah c,aj ((J.sub a g).resolve_left c)]
def Ϧ.step(g:Good j f)(R:ε j f i d q)(L:0<=i)(H:i<j)(J:Ϧ j f i d l m)(e:m.Perm (p::ws')):Ϧ j f i d (l++bU j f (Pb.front i d p) p) (ws'++bU j f (Pb.front i d p) p):=by
 have C:p∈m:=e.mem_iff.mpr aL;have F:=J.at_ L H C;have r:∀v,v∈bU j f (Pb.front i d p) p↔(0<=v/\v<j)/\v≠i/\d v=p:=λv=>cR g R F.1 F.2;have A:(bU j f (Pb.front i d p) p).Nodup:=nz;generalize bU j f (Pb.front i d p) p=E at r A ⊢;have s:∀v∈E,v∉l:=λv D z=>(J.ok v z).1 (by rw[((r v).mp D).2.2];exact C);obtain⟨K,G⟩:=aZ.mp (e.nodup_iff.mp J.Zm);have x:∀w∈ws',w∈m:=λw y=>e.mem_iff.mpr (aw _ y);refine⟨?_,?_,?_,?_,?_,?_,?_⟩
 .rw[cw];exact⟨J.nd,A,λa u b t z=>s b t (z▸u)⟩
 .intro k hk;rcases aX.mp hk with h|h
  .exact J.Μ k h
  .exact((r k).mp h).1
 .intro z;rcases aX.mp z with h|h
  .exact J.nr h
  .exact((r i).mp h).2.1 rfl
 .intro w y;rcases aX.mp y with h|h
  .exact(J.sub w (x w h)).imp id (bS _)
  .exact .inr (bo _ h)
 .rw[cw];refine⟨G,A,λa u b t z=>?_⟩;subst z;rcases J.sub a (x a u)with h|h
  .exact((r a).mp t).2.1 h
  .exact s a t h
 .intro v D;rcases aX.mp D with h|h
  .obtain⟨o1,o2⟩:=J.ok v h;refine⟨λz=>?_,o2.imp id (bS _)⟩;rcases aX.mp z with z|z
   .exact o1 (x _ z)
   .rcases o2 with o|o
    .exact((r _).mp z).2.1 o
    .exact s _ z o
  .obtain⟨q1,q2,q3⟩:=(r v).mp h;rw[q3];refine⟨λz=>?_,(J.sub p C).imp id (bS _)⟩;rcases aX.mp z with z|z
   .exact K z
   .obtain⟨w1,w2,w3⟩:=(r p).mp z;exact R.ne w1.1 w1.2 w2 w3
 .intro v v0 v1 vr h n;have B:d v∉E:=λz=>n (bo _ z);have I:d v=i\/d v∈l:=h.imp id λz=>(aX.mp z).resolve_right B;by_cases c:d v=p
  .exact bo _ ((r v).mpr ⟨⟨v0,v1⟩,vr,c⟩)
  .refine bS _ (J.dn v v0 v1 vr I λz=>?_);rcases aA.mp (e.mem_iff.mp z)with z|z
   .exact c z
   .exact n (bS _ z)
def Ϧ.perm(J:Ϧ g d i b c f)(e:f.Perm a):Ϧ g d i b c a where
 nd:=J.nd
 Μ:=J.Μ
 nr:=J.nr
 sub:=λw h=>J.sub w (e.mem_iff.mpr h)
 Zm:=e.nodup_iff.mp J.Zm
 ok:=λv h=>⟨λz=>(J.ok v h).1 (e.mem_iff.mpr z),(J.ok v h).2⟩
 dn:=λv j l k h n=>J.dn v j l k h λz=>n (e.mem_iff.mp z)
def Ϧ.all(R:ε f h b a g)(J:Ϧ f h b a d []):∀v,0<=v->v<f->v≠b->v∈d:=by
 have l:∀n v,g v=n->0<=v->v<f->v≠b->v∈d:=by
  intro n
  induction n with
  | zero=>
    intro v e i j k;have:=(R.up v i j k).2.2
    lia
  | succ n ih=>
    intro v e i j k;have u:=R.up v i j k;refine J.dn v i j k ?_ (by simp);by_cases c:a v=b
    .exact .inl c
    .exact .inr (ih (a v) (by lia) u.1.1 u.1.2 c)
 exact λv=>l _ v rfl
def Ϧ.done(R:ε b f d a g)(J:Ϧ b f d a e []):nl b a e=qF b d a:=by
 unfold nl qF;refine b5 λv i=>?_;have h:0<=v/\v<b:=by
  unfold cj at i;obtain⟨k,j,rfl⟩:=aE.mp i;have:=de.mp j
  lia
 unfold Pb.front;by_cases c:v=d
 .rw[aj c,ah (by rw[c];exact J.nr)]
 .rw[ah c,aj (J.all R v h.1 h.2 c)]
def ug(n:Nat)(v:V):(List.replicate n [v]).flatten=List.replicate n v:=by
 induction n with
 | zero=>rfl
 | succ n ih=>rw[cS,gD,ih,cS];rfl
def RZ:nl a par []=List.replicate a.toNat V.ο:=by
 unfold nl;refine fK λi=>?_;by_cases c:i<a.toNat
 .rw[aP,gS c,i6,aj c];simp
 .rw[bP (by rw[aa,cu];lia),bP (by rw[cf];lia)]
def nR(a:eX):Nat->Int->List Int
 | 0,v=>[v]
 | n+1,v=>v::nR a n (a v)
def ε.pos(R:ε d f e c b)(i:0<=a)(h:a<d)(g:a≠e):b a=b (c a)+1:=(R.up a i h g).2.2.symm
theorem Ca(R:ε c f d a b):∀(n:Nat)(v:Int),b v=n->0<=v->v<c->(nR a n v).Nodup/\(∀x∈nR a n v,(0<=x/\x<c)/\b x<=n)/\(nR a n v).length=n+1
 | 0,v,e,h0,h1=>⟨by unfold nR;simp,λx hx=>by
  unfold nR at hx;rw[aG.mp hx];exact⟨⟨h0,h1⟩,by lia⟩,rfl⟩
 | n+1,v,e,h0,h1=>by
   have i:v≠d:=λz=>by rw[z,R.root]at e;lia
   have u:=R.up v h0 h1 i;obtain⟨j,g,h⟩:=Ca R n (a v) (by lia) u.1.1 u.1.2;unfold nR;refine⟨aZ.mpr ⟨λz=>?_,j⟩,λx hx=>?_,by rw[aR,h]⟩
   .have:=(g v z).2
    lia
   .rcases aA.mp hx with rfl|hx
    .exact⟨⟨h0,h1⟩,by lia⟩
    .exact⟨(g x hx).1,by have:=(g x hx).2;lia⟩
def ja(R:ε b e f d c)(k:0<=a)(i:a<b):c a+1<=b.toNat:=by
 obtain⟨j,g,l⟩:=Ca R _ a rfl k i;have:=iz (m:=b) (by lia) j λx h=>(g x h).1
 lia
def BK(a:0<=v)(b:v<m):(qF m r par)[v.toNat]?=some (front r par v):=by
 unfold qF;rw[aP,gS (by lia)];show some (front r par ((v.toNat:Nat):Int))=_;rw[bJ a]
def jg(g:Good h f)(R:ε h f l e m)(q:0<=d)(p:d<h)(r:d≠l):∃k,cD f d (e d)=some k/\2<=k/\k<=1000000:=by
 obtain⟨x,n,j⟩:=(R.up d q p r).2.1;obtain⟨i,s⟩:=cF n;have ok:=g.ok x n;rw[u5 g s j];unfold jb;by_cases c:x.a=d/\x.b=e d
 .rw[aj c];exact⟨_,rfl,ok.t0,ok.t1⟩
 .rw[ah c];have o:x.a=e d/\x.b=d:=by
   rcases j with j|j
   .exact absurd j c
   .exact⟨j.2,j.1⟩
  rw[aj o];exact⟨_,rfl,ok.u0,ok.u1⟩
def sy(m:Int)(b:hR)(r:Int)(a:eX):Nat->Int->List Int
 | 0,v=>[v]
 | n+1,v=>v::(bU m b (front r a v) v).flatMap (sy m b r a n)
def eE(m:Int)(c:hR)(r:Int)(b:eX)(a:fb)(v:Int):List Int:=sy m c r b (m.toNat-1-a v) v
theorem wv{f h:Int->List Int}:∀{l:ej},(∀x∈l,f x=h x)->l.flatMap f=l.flatMap h
 | [],_=>rfl
 | a::l,e=>by rw[dj,dj,e a aL,wv λx b=>e x (aw _ b)]
def jP(g:Good d b)(R:ε d b h a f)(q:0<=c)(p:c<d):eE d b h a f c=c::(bU d b (front h a c) c).flatMap (eE d b h a f):=by
 have l:∀u,u∈bU d b (front h a c) c->(0<=u/\u<d)/\u≠h/\a u=c:=λu=>(cR g R q p).mp;have k:∀u∈bU d b (front h a c) c,f u=f c+1/\f u+1<=d.toNat:=λu i=>by
  obtain⟨j,o,m⟩:=l u i;have:=R.pos j.1 j.2 o;rw[m]at this;exact⟨this,ja R j.1 j.2⟩
 unfold eE;cases e:d.toNat-1-f c with
 | zero=>
   have:bU d b (front h a c) c=[]:=hJ.mpr λu i=>by
    have:=k u i
    lia
   rw[this]
   rfl
 | succ n=>
   show c::(bU d b (front h a c) c).flatMap (sy d b h a n)=_;rw[wv λu i=>show sy d b h a n u=sy d b h a (d.toNat-1-f u) u by rw[show d.toNat-1-f u=n by have:=k u i;lia]]
def up(a:eX):Nat->Int->Int
 | 0,x=>x
 | k+1,x=>a (up a k x)
theorem Cw{f:Int->List Int}:∀{l:ej},l.Nodup->(∀u∈l,(f u).Nodup)->(∀u∈l,∀w∈l,∀x,x∈f u->x∈f w->u=w)->(l.flatMap f).Nodup
 | [],_,_,_=>by simp
 | a::l,n,h1,h2=>by
   obtain⟨e,h⟩:=aZ.mp n;rw[dj,cw];refine⟨h1 a aL,Cw h (λu d=>h1 u (aw _ d)) (λu d w b=>h2 u (aw _ d) w (aw _ b)),λx i y g z=>?_⟩;subst z;obtain⟨w,b,c⟩:=d9.mp g;have:=h2 a aL w (aw _ b) x i c;exact e (this▸b)
theorem tm(g:Good c b)(R:ε c b h a d):∀(n:Nat)(v:Int),0<=v->v<c->(sy c b h a n v).Nodup/\∀x∈sy c b h a n v,(0<=x/\x<c)/\∃k,d x=d v+k/\up a k x=v
 | 0,v,h0,h1=>⟨by unfold sy;simp,λx hx=>by
  unfold sy at hx;rw[aG.mp hx];exact⟨⟨h0,h1⟩,0,rfl,rfl⟩⟩
 | n+1,v,h0,h1=>by
   have l:∀u,u∈bU c b (front h a v) v->(0<=u/\u<c)/\u≠h/\a u=v:=λu=>(cR g R h0 h1).mp;have t:(bU c b (front h a v) v).Nodup:=nz;have j:=λu i=>tm g R n u (l u i).1.1 (l u i).1.2;have m:∀u∈bU c b (front h a v) v,d u=d v+1:=λu i=>by
    obtain⟨p,B,q⟩:=l u i;have:=R.pos p.1 p.2 B;rw[q]at this;exact this
   unfold sy;refine⟨aZ.mpr ⟨λz=>?_,Cw t (λu i=>(j u i).1) λu i w o x hx s=>?_⟩,λx hx=>?_⟩
   .obtain⟨u,i,hv⟩:=d9.mp z;obtain⟨_,k,e,_⟩:=(j u i).2 v hv;have:=m u i
    lia
   .obtain⟨_,k1,e1,f1⟩:=(j u i).2 x hx;obtain⟨_,y,C,A⟩:=(j w o).2 x s;have D:=m u i;have E:=m w o;have:k1=y:=(by lia);rw[<-f1,<-A,this]
   .rcases aA.mp hx with rfl|hx
    .exact⟨⟨h0,h1⟩,0,rfl,rfl⟩
    .obtain⟨u,i,hv⟩:=d9.mp hx;obtain⟨r,k,e,f⟩:=(j u i).2 x hv;exact⟨r,k+1,by rw[e,m u i];lia,by show a (up a k x)=v;rw[f];exact(l u i).2.2⟩
def uC(g:Good a d)(R:ε a d f e b)(l:0<=c)(k:c<a):(eE a d f e b c).length<=24:=by
 obtain⟨h,i⟩:=tm g R (a.toNat-1-b c) c l k;have:=iz (m:=a) (by lia) h λx j=>(i x j).1;have:=g.Β;unfold eE
 lia
end Pb
namespace L2
open PySem PySem.Spec PyProof.Rows
def Itv(K:gy)(a:Addr)(n:Nat):It:=⟨λi H=>i<n/\∃b x,ν K H a b/\b[n-1-i]?=some x,λi H x c=>c=H/\∀b,ν K H a b->b[n-1-i]?=some x,λi H=>n<=i⟩
def Oj{P:Program}{w:World}{K:gy}{S:Expr}(a g:Addr)(n:Nat):Turn P w K S (Itv K a n) [g] g (λi h=>i<=n/\h.IsRevIter g a ((n:Int)-1-(i:Int))) where
 mem:=by simp
 obj:=λi h st b j=>by
  have e:b=g:=by simpa using j
  subst e;obtain⟨_,o,e,c,d⟩:=st;exact⟨o,e,λv z=>by rw[d]at z;cases z⟩
 keep:=λi h m st k=>⟨st.1,st.2.at λo e=>k g (by simp) o e⟩
 item:=by
  intro X B A G N i f s O H E I q st F;subst B A G;obtain⟨hi,xs,x,L,M⟩:=F;obtain⟨V,rv,p,hz⟩:=I.list L;obtain⟨u,hu,Q⟩:=rv.get M;obtain⟨D,y,Z,t,C,r⟩:=q g (by simp);have e0:(n:Int)-1-(i:Int)=((n-1-i:Nat):Int):=by lia
  have l:=st.2;rw[e0]at l;refine wpAny_pyNext_rev_item l p.isList (x:=u) (by simpa using hu) λm J sb=>?_;have U:Inv X f O H { s with heap:=m }:=I.turned (t':=s.toks) (λb o j e=>(sb.2 b j).trans e) D y t C r;obtain⟨o,e,c,d⟩:=id J;have Y:((n-1-i:Nat):Int)-1=(n:Int)-1-((i+1:Nat):Int):=by lia
  rw[Y]at J;exact⟨u,rfl,C6 (s:={ s with heap:=m }) e c d (by decide) ⟨x,H,U,Q,⟨rfl,λys T=>by rw[I.iN T L];exact M⟩,⟨hi,J⟩,λb j=>(q b j).1⟩⟩
 done:=by
  intro X B A G N i f s O H E I q st F;subst B A G;have R:n<=i:=F;obtain⟨D,y,Z,t,C,r⟩:=q g (by simp);have l:=st.2;have Zc:=st.1;rw[show(n:Int)-1-(i:Int)=-1 by lia]at l;exact wpAny_pyNext_rev_end (I.ok.hd N) l λm eb=>⟨rfl,I.turned (t':=s.toks) (λb o j e=>eb b o j e) D y t C r⟩
 self:=λ_ _ _ _ _ st h=>iw st.2 h
def SF(K:gy)(e:TE):TI:=λd H R=>e d H λx c=>∃a b,x=.ref a/\ν K c a b/\R (Itv K a b.length) c
def yX{X:Cx}{v:Expr}{e:Expr}{n:TE}{B:Pos}{c:Pos}(D:Gl X "reversed")(t:X.mg "reversed"=none)(w:PE X e n)(m:starEach [e] X.env=[(false,eval e X.env)]:=by rfl):PI X v (.Call (.Name "reversed" B) [e] [] c) (SF X.K n):=by
 intro d s E H R I h;refine Call_ (rR I D t boot_reversed (dy ?_ m rfl));rw[m];show wpAny _ _ (spliced ((false,eval e X.env)::backTo c [])) _ _ s;refine fB (eA (w d s E H _ I h) λu g x A f r C=>gB ?_);obtain⟨a,j,p,F,q⟩:=C;subst p;cases r;obtain⟨k,G,z,L⟩:=f.list F;refine call_reversed_list z.isList ?_;have y:k.toArray.size=j.length:=by rw[aY,G.length]
 rw[y];refine iw (i:=(j.length:Int)-1) (l:=a) ⟨_,bd _ rfl,rfl,rfl⟩ ?_;refine⟨g.heap.objs.size,[g.heap.objs.size],_,_,A,rfl,f.kept (t':=g.toks) λb o e=>aI _ e,Oj a _ j.length,⟨cI _,?_⟩,λb J=>?_,q⟩
 .exact⟨_,bd _ rfl,rfl,by simp[revObj]⟩
 .have e:b=g.heap.objs.size:=by simpa using J
  subst e;exact f.Vi (aU _) (f.Α.fresh (aU _))
def xJ{K:gy}{a:Addr}{xs:List V}{g:TG}{l:TS}{D:Ends}{b:St}{H:Hp}(f:Nat->St->Hp->Prop)(n:f 0 b H)(r:∀i b H,i<=xs.length->f i b H->ν K H a xs)(o:∀(i:Nat) (x:V) (b:St) (H:Hp) (N:St->Hp->Prop),(∀c d,f (i+1) c d->N c d)->xs.reverse[i]?=some x->f i b H->g x b H λj t=>l { D with nx:=N,ct:=N,bk:=D.nx } j t)(s:∀b H,f xs.length b H->D.nx b H):xq (Itv K a xs.length) D g l b H:=by
 refine⟨λi m b H=>m=xs.length-i/\i<=xs.length/\f i b H,⟨xs.length,by simp,cI _,n⟩,?_⟩;rintro i m b H ⟨rfl,v,p⟩;have q:=r i b H v p;by_cases h:i<xs.length
 .have hx:xs[xs.length-1-i]?=some xs[xs.length-1-i]:=aB (by lia);refine .inr ⟨⟨h,xs,_,q,hx⟩,λc d=>∃k,k<xs.length-i/\(k=xs.length-(i+1)/\i+1<=xs.length/\f (i+1) c d),λc d z=>z,λx d y=>?_⟩;obtain⟨e,y⟩:=y;subst e;exact o i x b _ _ (λc d u=>⟨xs.length-(i+1),by lia,rfl,h,u⟩) (by rw[cL h];exact y xs q) p
 .have e:i=xs.length:=by lia
  subst e;exact .inl ⟨aU _,s b H p⟩
theorem Ax(a:ej):∀n,n<=a.length->preSum (λi=>a.getD i 0) n=(a.take n).sum
 | 0,_=>by simp[preSum]
 | n+1,h=>by
   have c:=Ax a n (by lia);have b:n<a.length:=by lia
   rw[bj,aB b,cU,<-c];simp[preSum,List.getD,b]
def xT(R:a.calm=true):lS a (.builtin "sum") (λJ H Q=>∃(p:Addr)(f:ej),J=[.ref p]/\(ν a.K H p (f.map V.int)\/Δ a.K H p (f.map V.int))/\Q (.int f.sum) H):=by
 intro M s T H J S Q I r h;obtain⟨p,f,rfl,hp,q⟩:=h;obtain⟨u,rfl,z⟩:=oE r;cases z;have L:a.A.in1.handled=none:=I.ok.hd R;have g:∀{c:hE},Vals (f.map V.int) c->c.length=f.length/\∀(i:Nat)(v:Value),c.toArray[i]?=some v->∃t,v=Value.int (f.getD i 0) t:=by
  intro c l;have d:c.length=f.length:=by rw[<-l.length,aa]
  refine⟨d,λi v m=>?_⟩;have O:c[i]?=some v:=by simpa using m
  have N:i<f.length:=by rw[<-d];exact(aD.mp O).1
  obtain⟨u,P,z⟩:=l.get (i:=i) (x:=V.int f[i]) (by rw[aP,aB N];rfl);rw[O]at P;cases P;obtain⟨t,e⟩:=(show ∃t,v=Value.int f[i] t from z);exact⟨t,by rw[e];simp[List.getD,N]⟩
 have y:∀{n:Nat},n=f.length->preSum (λi=>f.getD i 0) n=f.sum:=λ{n} e=>by rw[Ax f n (by lia),cH (by lia)]
 rcases hp with hp|hp
 .obtain⟨c,l,pl,hz⟩:=I.list hp;obtain⟨d,F⟩:=g l;have k:=pl.isList;have w:=pl.lt;refine call_sum_walkG (gj k ?_);refine⟨s.heap.objs.size,[s.heap.objs.size,p],[s.heap.objs.size],c.toArray.size,_,_,λi=>f.getD i 0,rfl,Walks.list (A:=a.A.in1) L _ p (bf w) c.toArray,⟨⟨_,bd _ rfl,rfl,rfl⟩,k.push _⟩,λb G=>?_,λi v m=>F i v m,λD B t' E=>?_⟩
  .simp only[Heap.push,ni];rcases aA.mp G with e|e
   .rw[e];exact fN _
   .rw[aG.mp e];exact gh w
  .have kk:∀b o,s.heap.get? b=some o->D.get? b=some o:=λb o j=>E b o (λC=>by rw[aG.mp C]at j;exact di _ (aO j)) (aI _ j);rw[y (by rw[aY,d])];exact⟨.int _,H,I.kept (t':=B) kk,⟨t',rfl⟩,q⟩
 .obtain⟨c,l,pl,hz⟩:=I.tuple hp;obtain⟨d,F⟩:=g l;have k:s.heap.IsTuple p c.toArray:=pl;have w:p<s.heap.objs.size:=by
   obtain⟨o,e,_⟩:=id k;exact aO e
  refine call_sum_walkG (kc k ?_);refine⟨s.heap.objs.size,[s.heap.objs.size,p],[s.heap.objs.size],c.toArray.size,_,_,λi=>f.getD i 0,rfl,Walks.tuple (A:=a.A.in1) L _ p (bf w) c.toArray,⟨⟨_,bd _ rfl,rfl,rfl⟩,k.push _⟩,λb G=>?_,λi v m=>F i v m,λD B t' E=>?_⟩
  .simp only[Heap.push,ni];rcases aA.mp G with e|e
   .rw[e];exact fN _
   .rw[aG.mp e];exact gh w
  .have kk:∀b o,s.heap.get? b=some o->D.get? b=some o:=λb o j=>E b o (λC=>by rw[aG.mp C]at j;exact di _ (aO j)) (aI _ j);rw[y (by rw[aY,d])];exact⟨.int _,H,I.kept (t':=B) kk,⟨t',rfl⟩,q⟩
def SQ(_ j:Int):Prop:=0<j/\j<18446744073709551616
def Hs :ϸ a (binaryOp .FloorDiv) (rI SQ λi j=>.int (i/j)):=Zg λi j _ _ _ _ _ b q=>by
 have f:(0:Int)<j:=b.1;have e:j<18446744073709551616:=b.2;refine floordiv_int (by lia) (by rw[kM i (by lia)];exact q) (.inl ?_);have d:j.natAbs.log2<64:=(lP (by lia)).mpr (by lia);unfold Builtin.divisionGoesByPylong;have c:(j==0)=false:=by simp;lia
 simp only[c,cZ,if_false];have:¬(j.natAbs.log2/30+1>300):=by lia
 simp[this]
def D1{X:Cx}(K:gy)(c:X.K=K){a:List Expr}{k:Nat}{b:Pos}{t:XI}{n:Nat}(f:X.calm=true)(h:Yk X a t)(d:(assignEach a X.env).length=n:=by rfl)(e:(assignEach a X.env).findIdx? (·.1)=none:=by rfl):PG X (.Tuple a k b) (OH K n t):=by
 subst c;exact jK f h d e
def Ht{K:gy}{c d:Bool}{a b p:Addr}{xs zs:List V}{Q:VK}{g:TG}{w:TT}{C:TE}{o:St}{A:Hp}(l:Nat->List V->St->Hp->Prop)(E:l 0 [] o A)(G:∀i f h H,l i f h H->ϐ K c H a xs/\ϐ K d H b zs)(F:∀(i:Nat) (x z:V) (f:List V) (h:St) (H:Hp) (q:Addr) (N:List V->St->Hp->Prop),(∀r j n,l (i+1) r j n->N r j n)->xs[i]?=some x->zs[i]?=some z->l i f h H->H q=none->g (.ref q) h (upd H q (.tup [x,z])) λk S=>w k S λb u=>
 if b=true then C k u λy B=>B p=some (.lst f)/\f.length<sizeLine/\N (f++[y]) k (upd B p (.lst (f++[y])))else N f k u)(J:∀f h H,l (min xs.length zs.length) f h H->Q (.ref p) H):uf (Itz K c d a b) p Q g w C o A:=by
 refine⟨λi m f h H=>m=min xs.length zs.length-i/\i<=min xs.length zs.length/\l i f h H,⟨_,rfl,cI _,E⟩,?_⟩;rintro i m f h H ⟨rfl,U,pv⟩;obtain⟨t,s⟩:=G i f h H pv;by_cases P:i<min xs.length zs.length
 .refine .inr ⟨⟨xs,zs,xs[i]'(by lia),zs[i]'(by lia),t,s,aB (by lia),aB (by lia)⟩,λx n y=>?_⟩;obtain⟨T,L,R,O,rfl,rfl,M,I⟩:=y;exact F i L R f h H T (λr j n=>∃v,v<min xs.length zs.length-i/\(v=min xs.length zs.length-(i+1)/\i+1<=min xs.length zs.length/\l (i+1) r j n)) (λr j n D=>⟨min xs.length zs.length-(i+1),by lia,rfl,P,D⟩) (M xs t) (I zs s) pv O
 .have e:i=min xs.length zs.length:=by lia
  subst e;exact .inl ⟨⟨xs,zs,t,s,by lia⟩,J f h H pv⟩
def pJ(h:d c=some (.lst a))(g:0<=b)(i:b<a.length)(q:f (upd d c (.lst (a.set b.toNat e)))):Wq (.ref c) (.int b) e d f:=⟨c,a,b,b.toNat,rfl,rfl,h,by unfold Wo;rw[aj g,aj (by lia)],q⟩
def ϩ{xs:ej}{i:Int}(a:0<=i)(b:i<xs.length):aT (xs.map V.int) i=some (.int (xs.getD i.toNat 0)):=iQ a (by
 have h:i.toNat<xs.length:=by lia
 rw[aP,aB h];simp[List.getD,h])
def FL(n:Nat)(v:V):(List.replicate n [v]).flatten=List.replicate n v:=by
 induction n with
 | zero=>rfl
 | succ n ih=>rw[cS,gD,ih,cS];rfl
def F7{a:ej}{n:Nat}{v:Int}(h:∀x∈a,0<=x)(c:0<=v):∀x∈a.set n v,0<=x:=λx b=>by
 rcases iL b with h1|h1
 .exact h x h1
 .rw[h1];exact c
def pi{a:ej}(h:∀x∈a,0<=x)(n:Nat):0<=a.getD n 0:=by
 by_cases z:n<a.length
 .rw[List.getD,aB z];exact h _ (dL z)
 .rw[List.getD,bP (by lia)];exact bF _
def ud :Se a (D9 a.K):=by
 intro b s B H x y v u Q I C E h;obtain⟨p,G,i,z,rfl,rfl,m,F,q⟩:=h;cases C;obtain⟨t,rfl⟩:=E;obtain⟨e,r,k,L⟩:=I.list m;obtain⟨j,d,D,J,o,l⟩:=Ag F;obtain⟨w,g,A⟩:=r.get D;have n:=r.length;have M:=qx;have c:EP a b B Q w s:=⟨z,H,I,A,q⟩;by_cases f:0<=i
 .have hj:i.toNat=j:=by
   rw[seqIndex_of f l]at d;exact bN d
  exact wpAny_getItem_list k.isList f (by lia) (by rw[hj];simpa using g) c
 .have hj:(i+(e.toArray.size:Int)).toNat=j:=by
   rw[seqIndex_neg (by lia) o]at d;rw[aY,<-n];exact bN d
  exact wpAny_getItem_list_neg k.isList (by lia) (by rw[aY]<;>lia) (by lia) (by rw[hj];simpa using g) c
def Oo{K:gy}{a p:Addr}{xs:List V}{Q:VK}{g:TG}{t:TT}{w:TE}{l:St}{u:Hp}(j:Nat->List V->St->Hp->Prop)(A:j 0 [] l u)(C:∀i c d H,i<=xs.length->j i c d H->ν K H a xs)(B:∀(i:Nat) (x:V) (c:List V) (d:St) (H:Hp) (N:List V->St->Hp->Prop),(∀n f k,j (i+1) n f k->N n f k)->xs.reverse[i]?=some x->j i c d H->g x d H λh E=>t h E λb r=>
 if b=true then w h r λy v=>v p=some (.lst c)/\c.length<sizeLine/\N (c++[y]) h (upd v p (.lst (c++[y])))else N c h r)(D:∀c d H,j xs.length c d H->Q (.ref p) H):uf (Itv K a xs.length) p Q g t w l u:=by
 refine⟨λi m c d H=>m=xs.length-i/\i<=xs.length/\j i c d H,⟨xs.length,by simp,cI _,A⟩,?_⟩;rintro i m c d H ⟨rfl,F,pv⟩;have q:=C i c d H F pv;by_cases o:i<xs.length
 .have hx:xs[xs.length-1-i]?=some xs[xs.length-1-i]:=aB (by lia);refine .inr ⟨⟨o,xs,_,q,hx⟩,λx k y=>?_⟩;obtain⟨e,y⟩:=y;subst e;exact B i x c d _ (λn f k=>∃s,s<xs.length-i/\(s=xs.length-(i+1)/\i+1<=xs.length/\j (i+1) n f k)) (λn f k z=>⟨xs.length-(i+1),by lia,rfl,o,z⟩) (by rw[cL o];exact y xs q) pv
 .have e:i=xs.length:=by lia
  subst e;exact .inl ⟨aU _,D c d H pv⟩
end L2
namespace Pb
open L2
def After(a:eX):List Int->List Int->Prop
 | _,[]=>True
 | S,c::t=>a c∈S/\After a (c::S) t
theorem After.mono:∀{l S d:ej},(∀x∈S,x∈d)->After b S l->After b d l
 | [],_,_,_,_=>trivial
 | c::t,S,d,h,a=>⟨h _ a.1,After.mono (λx f=>by
  rcases aA.mp f with e|e
  .exact aA.mpr (.inl e)
  .exact aw _ (h x e)) a.2⟩
theorem After.append:∀{f e S:ej},After d S f->After d S e->After d S (f++e)
 | [],_,_,_,b=>b
 | c::t,e,S,a,b=>⟨a.1,After.append a.2 (b.mono λx g=>aw _ g)⟩
theorem After.up:∀{A B S:ej},After b S (A++B)->∀k∈A,b k∈S\/b k∈A
 | [],_,_,_,k,hk=>by cases hk
 | c::t,B,S,a,k,hk=>by
   rcases aA.mp hk with e|e
   .rw[e];exact .inl a.1
   .rcases After.up (A:=t) (B:=B) a.2 k e with h|h
    .rcases aA.mp h with h|h
     .exact .inr (by rw[h];exact aL)
     .exact .inl h
    .exact .inr (aw _ h)
section
variable{m:Int}{r:Int}{a:eX}
structure Order(m r:Int)(a:eX)(t:ej):Prop where
 nd:(r::t).Nodup
 Μ:∀v∈t,0<=v/\v<m
 all:∀v,0<=v->v<m->v=r\/v∈t
 af:After a [r] t
end
def Order.ne(O:Order e d a c)(h:b∈c):b≠d:=λz=>(aZ.mp O.nd).1 (z▸h)
theorem De(g:Good c b)(R:ε c b d a e):∀(n:Nat)(v:Int)(S:ej),0<=v->v<c->a v∈S->After a S (sy c b d a n v)
 | 0,v,S,_,_,h=>⟨h,trivial⟩
 | n+1,v,S,h0,h1,h=>by
   refine⟨h,?_⟩;have:∀(f:ej)(S:ej),v∈S->(∀u∈f,u∈bU c b (front d a v) v)->After a S (f.flatMap (sy c b d a n)):=by
    intro f
    induction f with
    | nil=>intro S _ _;exact trivial
    | cons u f ih=>
      intro S k i;rw[dj];obtain⟨j,p,m⟩:=(cR g R h0 h1).mp (i u aL);exact(De g R n u S j.1 j.2 (by rw[m];exact k)).append (ih S k λx l=>i x (aw _ l))
   exact this _ _ aL λu o=>o
def B6(g:Good d c)(R:ε d c a b f)(n:0<=a)(k:a<d)(j:(eE d c a b f a).Nodup)(i:∀v,v∈eE d c a b f a↔0<=v/\v<d):∃t,eE d c a b f a=a::t/\Order d a b t:=by
 have e:=jP g R n k;refine⟨_,e,?_⟩;rw[e]at j i;refine⟨j,λv s=>(i v).mp (aw _ s),λv o r=>aA.mp ((i v).mpr ⟨o,r⟩),?_⟩;have:∀h:List Int,(∀u∈h,u∈bU d c (front a b a) a)->After b [a] (h.flatMap (eE d c a b f)):=by
  intro h
  induction h with
  | nil=>intro _;exact trivial
  | cons u h ih=>
    intro m;rw[dj];obtain⟨l,y,p⟩:=(cR g R n k).mp (m u aL);exact(De g R _ u [a] l.1 l.2 (by rw[p];exact aL)).append (ih λx q=>m x (aw _ q))
 exact this _ λu w=>w
def vw(m:Int)(e:hR)(r:Int)(b:eX)(a:eX)(d:hP):Nat->Int->Int
 | 0,v=>a v
 | n+1,v=>a v+((bU m e (front r b v) v).map λc=>d c (vw m e r b a d n c)).sum
def Ζ(m:Int)(e:hR)(r:Int)(c:eX)(b:fb)(a:eX)(d:hP)(v:Int):Int:=vw m e r c a d (m.toNat-1-b v) v
def eB(g:Good d h)(R:ε d h j a b)(q:0<=f)(p:f<d):Ζ d h j a b held i f=held f+((bU d h (front j a f) f).map λc=>i c (Ζ d h j a b held i c)).sum:=by
 have o:∀u,u∈bU d h (front j a f) f->(0<=u/\u<d)/\u≠j/\a u=f:=λu=>(cR g R q p).mp;have m:∀u∈bU d h (front j a f) f,b u=b f+1/\b u+1<=d.toNat:=λu k=>by
  obtain⟨l,s,r⟩:=o u k;have:=R.pos l.1 l.2 s;rw[r]at this;exact⟨this,ja R l.1 l.2⟩
 unfold Ζ;cases e:d.toNat-1-b f with
 | zero=>
   have:bU d h (front j a f) f=[]:=hJ.mpr λu k=>by
    have:=m u k
    lia
   rw[this];simp[vw]
 | succ n=>
   show held f+_=_;rw[b5 λu k=>show i u (vw d h j a held i n u)=i u (vw d h j a held i (d.toNat-1-b u) u) by rw[show d.toNat-1-b u=n by have:=m u k;lia]]
def rh{l:ej}(h:l.Perm a):l.sum=a.sum:=by
 induction h with
 | nil=>rfl
 | cons x _ ih=>rw[aN,aN,ih]
 | swap x y l=>simp only[aN];lia
 | trans _ _ h1 h2=>exact h1.trans h2
def rM(a:eX)(b:hP)(c:ej)(v:Int):List Int:=c.set (a v).toNat (c.getD (a v).toNat 0+b v (c.getD v.toNat 0))
section
variable{m:Int}{f:hR}{r:Int}{b:eX}{e:fb}{a:eX}{d:hP}
structure Ϛ(m:Int)(f:hR)(r:Int)(b:eX)(e:fb)(a:eX)(d:hP)(t cs:ej):Prop where
 len:(cs.length:Int)=m
 val:∀v,0<=v->v<m->cs.getD v.toNat 0=a v+((t.filter λc=>decide (b c=v)).map λc=>d c (Ζ m f r b e a d c)).sum
end
def Ϛ.nil(h:(a.length:Int)=d):Ϛ d f g c e (λv=>a.getD v.toNat 0) b [] a:=⟨h,λv _ _=>by simp⟩
def rN(g:Good b d)(R:ε b d e a f){t:ej}(j:t.Nodup)(i:∀x∈t,(0<=x/\x<b)/\x≠e){v:Int}(n:0<=v)(l:v<b)(m:∀k,0<=k->k<b->k≠e->a k=v->k∈t):(t.filter λc=>decide (a c=v)).Perm (bU b d (front e a v) v):=by
 refine jZ (j.filter _) nz λx=>?_;rw[bG,cR g R n l,bw];exact⟨λh=>⟨(i x h.1).1,(i x h.1).2,h.2⟩,λh=>⟨m x h.1.1 h.1.2 h.2.1 h.2.2,h.2.2⟩⟩
def Ϛ.full(g:Good b c)(R:ε b c f a d)(s:Ϛ b c f a d e h i j)(n:i.Nodup)(p:∀x∈i,(0<=x/\x<b)/\x≠f){v:Int}(m:0<=v)(l:v<b)(o:∀k,0<=k->k<b->k≠f->a k=v->k∈i):j.getD v.toNat 0=Ζ b c f a d e h v:=by
 rw[s.val v m l,eB g R m l,rh ((rN g R n p m l o).map _)]
def Ϛ.step(g:Good k i)(R:ε k i l a h)(s:Ϛ k i l a h f b m j)(p:0<=d)(o:d<k)(q:d≠l)(e:j.getD d.toNat 0=Ζ k i l a h f b d):Ϛ k i l a h f b (d::m) (rM a b j d) where
 len:=by unfold rM;rw[bz];exact s.len
 val:=λu u0 u1=>by
  have r:=(R.up d p o q).1;have sl:=s.len;have n:=s.val u u0 u1;unfold rM;rw[e];by_cases c:a d=u
  .have hl:u.toNat<j.length:=(by lia);rw[bZ (by simpa using c),aF,aN,c];rw[show(j.set u.toNat (j.getD u.toNat 0+b d (Ζ k i l a h f b d))).getD u.toNat 0=j.getD u.toNat 0+b d (Ζ k i l a h f b d) by simp[List.getD,hl],n]
   lia
  .rw[b8 (by simpa using c),<-n];have:(a d).toNat≠u.toNat:=(by lia);simp[List.getD,cG this]
def Order.places(O:Order b c d a):∀x∈a,(0<=x/\x<b)/\x≠c:=λx e=>⟨O.Μ x e,O.ne e⟩
def Order.turn(g:Good l h)(R:ε l h n c f)(O:Order l n c a)(s:Ϛ l h n c f i d (a.drop (a.length-m)) o)(q:a.reverse[m]?=some b):((0<=b/\b<l)/\b≠n)/\o.getD b.toNat 0=Ζ l h n c f i d b/\Ϛ l h n c f i d (a.drop (a.length-(m+1))) (rM c d o b):=by
 have I:m<a.length:=by
  have:=(aD.mp q).1
  rwa [bi]at this
 rw[cL I]at q;generalize K:a.length-1-m=j at q;have G:a.length-m=j+1:=by lia
 have r:a.length-(m+1)=j:=by lia
 rw[G]at s;rw[r];have E:j<a.length:=by lia
 have H:b∈a:=aQ q;have p:=O.places b H;have B:a.drop j=b::a.drop (j+1):=by
  rw[eM E];rw[aB E]at q;cases q
  rfl
 have u:a=a.take j++b::a.drop (j+1):=by rw[<-B,dP]
 have y:=(aZ.mp O.nd).2;have D:=y;rw[u]at D;have J:b∉a.take j:=λz=>(cw.mp D).2.2 b z b aL rfl;have e:=s.full g R (y.sublist (List.drop_sublist _ _)) (λx F=>O.places x (gu F)) p.1.1 p.1.2 λk v C A t=>by
  rcases O.all k v C with z|z
  .exact absurd z A
  .rw[u]at z;rcases aX.mp z with z|z
   .have af:=O.af;rw[u]at af;rcases af.up k z with w|w
    .rw[t]at w;exact absurd (aG.mp w) p.2
    .rw[t]at w;exact absurd w J
   .rcases aA.mp z with z|z
    .subst z;exact absurd t (R.ne v C A)
    .exact z
 exact⟨p,e,by rw[B];exact s.step g R p.1.1 p.1.2 p.2 e⟩
def oY(m:Int)(e:hR)(r:Int)(c:eX)(b:fb)(a:eX)(d:hP):List Int:=(cj m.toNat).map (Ζ m e r c b a d)
def uu(i:0<=d)(j:d<g):(oY g f h c e a b).getD d.toNat 0=Ζ g f h c e a b d:=by
 unfold oY;rw[List.getD,aP,gS (by lia),bJ i]
 rfl
def Order.done(g:Good c b)(R:ε c b m a d)(O:Order c m a n)(s:Ϛ c b m a d f l n j):j=oY c b m a d f l:=by
 have t:=s.len;refine fK λi=>?_;by_cases h:i<c.toNat
 .have hc:i<j.length:=by lia
  have e:=s.full g R (aZ.mp O.nd).2 O.places (v:=(i:Int)) (by lia) (by lia) λk p o q r=>(O.all k p o).resolve_left q;unfold oY;rw[aP,gS h];rw[bM,List.getD,aB hc]at e;rw[aB hc];exact congrArg some e
 .unfold oY;rw[bP (by lia),bP (by rw[aa,cu];lia)]
def Ϭ(b:hR)(a:eX)(v x:Int):Int:=x/(cD b v (a v)).getD 1
def ε.Vz(R:ε g d e a f)(h:Vd d b c):(c≠e/\a c=b)\/(b≠e/\a b=c):=by
 obtain⟨x,i,j⟩:=h;have:=R.road x i;rcases j with⟨e1,e2⟩|⟨e1,e2⟩
 .subst e1;subst e2;exact this.symm
 .subst e1;subst e2;exact this
def Order.kids(R:ε d i e b h)(O:Order d e b c)(j:c=g++a::f):∀k,0<=k->k<d->k≠e->b k=a->k∈f:=by
 intro k n m p l;have r:a∈c:=by rw[j];simp
 have q:=O.places a r;have o:=(aZ.mp O.nd).2;rw[j]at o;have s:a∉g:=λz=>(cw.mp o).2.2 a z a aL rfl;rcases O.all k n m with z|z
 .exact absurd z p
 .rw[j]at z;rcases aX.mp z with z|z
  .have af:=O.af;rw[j]at af;rcases af.up k z with w|w
   .rw[l]at w;exact absurd (aG.mp w) q.2
   .rw[l]at w;exact absurd w s
  .rcases aA.mp z with z|z
   .subst z;exact absurd l (R.ne n m p)
   .exact z
def Uq(b:hR)(a:eX)(v:Int):Int:=(cD b v (a v)).getD 1
def gE(m:Int)(d:hR)(r:Int)(a:eX)(c:fb)(b:eX)(v:Int):Int:=Ϭ d a v (Ζ m d r a c b (Ϭ d a) v)
section
variable{m:Int}{d:hR}{r:Int}{a:eX}{b:eX}
theorem JM(e:∀v,0<=b v)(f:∀v x,0<=x->0<=Ϭ d a v x):∀(n:Nat)(v:Int),0<=vw m d r a b (Ϭ d a) n v
 | 0,v=>e v
 | n+1,v=>by
   show 0<=b v+_;have:∀l:List Int,0<=(l.map λc=>Ϭ d a c (vw m d r a b (Ϭ d a) n c)).sum:=by
    intro l
    induction l with
    | nil=>exact bF _
    | cons c l ih=>
      rw[aF,aN];have:=f c _ (JM e f n c)
      lia
   have h:=this (bU m d (front r a v) v);have g:=e v
   lia
end
def Ha(g:Good f c)(v x:Int)(h:0<=x):0<=Ϭ c d v x:=by
 unfold Ϭ;refine iR h ?_;cases e:cD c v (d v)with
 | none=>decide
 | some k=>
   have n:=Bk.mp (show(cD c v (d v)).isSome=true by rw[e];rfl);obtain⟨x,l,j⟩:=n;obtain⟨i,m⟩:=cF l;have ok:=g.ok x l;rw[u5 g m (by rcases j with⟨a,b⟩|⟨a,b⟩;exact .inl ⟨a,b⟩;exact .inr ⟨a,b⟩)]at e;unfold jb at e;have t0:=ok.t0;have u0:=ok.u0;show 0<=k;split at e
   .cases e;lia
   .split at e
    .cases e;lia
    .cases e
def MH(g:Good d b)(h:∀v,0<=a v)(v:Int):0<=Ζ d b f c e a (Ϭ b c) v:=JM h (Ha g) _ _
def R3(g:Good c b)(d:∀v,0<=a v)(v:Int):0<=gE c b r par dep a v:=Ha g _ _ (MH g d v)
def Fd(f:eX)(p:Int->Bool)(v:Int)(t:ej):(((v::t).filter p).map f).sum=(if p v=true then f v else 0)+((t.filter p).map f).sum:=by
 by_cases c:p v=true
 .rw[bZ c,aF,aN,aj c]
 .rw[b8 c,ah c,ce]
section
variable{m:Int}{e:hR}{r:Int}{b:eX}{d:fb}{a:eX}
structure ϟ(m:Int)(e:hR)(r:Int)(b:eX)(d:fb)(a:eX)(t now:ej):Prop where
 len:(now.length:Int)=m
 val:∀v,0<=v->v<m->now.getD v.toNat 0=a v+((t.filter λc=>decide (b c=v)).map (gE m e r b d a)).sum-(if v∈t then gE m e r b d a v*Uq e b v else 0)
end
def ϟ.nil(h:(a.length:Int)=c):ϟ c e f b d (λv=>a.getD v.toNat 0) [] a:=⟨h,λv _ _=>by simp⟩
def ϟ.skip(w:ϟ g e i a f b j k)(h:gE g e i a f b v=0):ϟ g e i a f b (v::j) k where
 len:=w.len
 val:=λu u0 u1=>by
  rw[w.val u u0 u1,Fd];have m:(if(λc=>decide (a c=u)) v=true then gE g e i a f b v else 0)=0:=by
   rw[h];exact ite_self _
  have l:(if u∈v::j then gE g e i a f b u*Uq e a u else 0)=if u∈j then gE g e i a f b u*Uq e a u else 0:=by
   by_cases c:u=v
   .subst c;rw[h,jL,ite_self,ite_self]
   .by_cases d:u∈j
    .rw[aj d,aj (aw _ d)]
    .rw[ah d,ah (λz=>by rcases aA.mp z with z|z;exact c z;exact d z)]
  rw[m,l,ce]
def ϟ.own(g:Good c b)(R:ε c b h a d)(w:ϟ c b h a d e i j)(m:0<=f)(l:f<c)(n:i.Nodup)(q:∀x∈i,(0<=x/\x<c)/\x≠h)(p:f∉i)(o:∀k,0<=k->k<c->k≠h->a k=f->k∈i):j.getD f.toNat 0=Ζ c b h a d e (Ϭ b a) f:=by
 rw[w.val f m l,ah p,lY,eB g R m l,rh ((rN g R n q m l o).map (gE c b h a d e))]
 rfl
def FJ(c:hR)(a:eX)(k:Int)(b:ej)(v:Int):List Int:=(b.set v.toNat (b.getD v.toNat 0-k*Uq c a v)).set (a v).toNat ((b.set v.toNat (b.getD v.toNat 0-k*Uq c a v)).getD (a v).toNat 0+k)
def g9(l:ej)(i j:Nat)(x:Int)(h:i<l.length):(l.set i x).getD j 0=if i=j then x else l.getD j 0:=by
 by_cases c:i=j
 .subst c;rw[aj rfl];simp[List.getD,h]
 .rw[ah c];simp[List.getD,cG c]
def ϟ.step(R:ε h e i a g)(w:ϟ h e i a g f j k)(m:0<=b)(l:b<h)(p:b≠i)(q:b∉j):ϟ h e i a g f (b::j) (FJ e a (gE h e i a g f b) k b) where
 len:=by unfold FJ;rw[bz,bz];exact w.len
 val:=λu u0 u1=>by
  have r:=(R.up b m l p).1;have ne:=R.ne m l p;have sl:=w.len;have o:=w.val u u0 u1;have n:=w.val b m l;unfold FJ;rw[g9 _ _ _ _ (by rw[bz];lia),g9 _ _ _ _ (by lia),g9 _ _ _ _ (by lia),Fd];rw[ah (show ¬b.toNat=(a b).toNat by lia)];by_cases c:u=b
  .subst c;rw[ah (show ¬(a u).toNat=u.toNat by lia),aj rfl,aj aL,ah (show ¬(λc=>decide (a c=u)) u=true by simpa using ne),ce];rw[ah q,lY]at n;rw[n]
  .have e2:(if u∈b::j then gE h e i a g f u*Uq e a u else 0)=if u∈j then gE h e i a g f u*Uq e a u else 0:=by
    by_cases d:u∈j
    .rw[aj d,aj (aw _ d)]
    .rw[ah d,ah (λz=>by rcases aA.mp z with z|z;exact c z;exact d z)]
   rw[e2];by_cases d:a b=u
   .subst d;rw[aj rfl,aj (show(λc=>decide (a c=a b)) b=true by simp),o]
    lia
   .rw[ah (show ¬(a b).toNat=u.toNat by lia),ah (show ¬b.toNat=u.toNat by lia),ah (show ¬(λc=>decide (a c=u)) b=true by simpa using d),ce,o]
def RJ(g:Good e b)(R:ε e b f a d)(o:∀c,0<=held c)(l:0<=c)(i:c<e)(h:c≠f):gE e b f a d held c*Uq b a c<=Ζ e b f a d held (Ϭ b a) c:=by
 obtain⟨k,j,m,n⟩:=jg g R l i h;unfold gE Ϭ Uq;rw[j];exact Int.ediv_mul_le _ (by show k≠0;lia)
def eF(m:Int)(d:hR)(r:Int)(c:eX)(b:fb)(a:eX)(l:ej):List Int:=l.filter λv=>decide (0<gE m d r c b a v)
def KU(c:0<gE g e h d b a f):eF g e h d b a (i++[f])=eF g e h d b a i++[f]:=by
 unfold eF;rw[b7]
 congr 1
 exact bZ (l:=[]) (bD c)
def KO(c:¬0<gE g e h d b a f):eF g e h d b a (i++[f])=eF g e h d b a i:=by
 unfold eF;rw[b7];have:[f].filter (λf=>decide (0<gE g e h d b a f))=[]:=b8 (l:=[]) (λz=>c (bu z));rw[this,bX]
section
variable{m:Int}{d:hR}{r:Int}{c:eX}{b:fb}{a:eX}
structure iO(m:Int)(d:hR)(r:Int)(c:eX)(b:fb)(a:eX)(tl:ej)(i:Nat)(now:ej):Prop where
 ex:∃A B,tl.reverse=A++B/\eF m d r c b a A=(eF m d r c b a tl.reverse).take i/\eF m d r c b a B=(eF m d r c b a tl.reverse).drop i/\ϟ m d r c b a A.reverse now
end
theorem Lq(g:Good i e)(k:∀v,0<=a v) :∀{B t:ej},(∀x∈B,¬decide (0<gE i e j d c a x)=true)->ϟ i e j d c a t f->ϟ i e j d c a (B.reverse++t) f
 | [],t,_,w=>w
 | b::B,t,h,w=>by
   rw[kJ,bO];have m:=h b aL;have n:=R3 (dep:=c) (r:=j) (par:=d) g k b;exact Lq g k (λx l=>h x (aw _ l)) (w.skip (v:=b) (by simp at m;lia))
def iO.start(h:(a.length:Int)=d):iO d f g c e (λv=>a.getD v.toNat 0) b 0 a:=⟨[],b.reverse,rfl,rfl,rfl,ϟ.nil h⟩
def iO.turn(g:Good h d)(R:ε h d i b c)(H:∀f,0<=a f)(O:Order h i b j)(w:iO h d i b c a j m k)(t:(eF h d i b c a j.reverse)[m]?=some f):((0<=f/\f<h)/\f≠i)/\0<gE h d i b c a f/\k.getD f.toNat 0=Ζ h d i b c a (Ϭ d b) f/\(k.length:Int)=h/\iO h d i b c a j (m+1) (FJ d b (gE h d i b c a f) k f):=by
 obtain⟨A,B,e,G,D,w⟩:=w.ex;have F:=(aD.mp t).1;have I:(eF h d i b c a j.reverse).drop m=f::(eF h d i b c a j.reverse).drop (m+1):=by
  rw[eM F];rw[aB F]at t;cases t
  rfl
 rw[I]at D;obtain⟨n,z,E,C,pv,u⟩:=List.filter_eq_cons_iff.mp D;have r:=Lq g H C w;rw[<-gL]at r;have s:j=z.reverse++f::(A++n).reverse:=by
  have:=congrArg List.reverse e;rw[iy,E]at this;rw[this];simp
 have M:f∈j:=by rw[s];simp
 have p:=O.places f M;have L:=(aZ.mp O.nd).2;have q:=L;rw[s]at q;have o:=aZ.mp (cw.mp q).2.1;have v:∀x∈(A++n).reverse,x∈j:=λx y=>by rw[s];exact bo _ (aw _ y)
 have own:=r.own g R p.1.1 p.1.2 o.2 (λx y=>O.places x (v x y)) o.1 (O.kids R s);refine⟨p,bu pv,own,r.len,A++n++[f],z,by rw[e,E];simp,?_,u,?_⟩
 .have f1:eF h d i b c a n=[]:=mV.mpr C;have J:eF h d i b c a (A++n++[f])=eF h d i b c a A++eF h d i b c a n++eF h d i b c a [f]:=by
   unfold eF;rw[b7,b7]
  have K:eF h d i b c a [f]=[f]:=bZ (l:=[]) pv;rw[J,f1,K,bX,G,bj,t]
  rfl
 .have:=r.step R p.1.1 p.1.2 p.2 o.1;rw[show(A++n++[f]).reverse=f::(A++n).reverse by simp];exact this
def iO.done(g:Good f c)(R:ε f c d a h)(q:∀v,0<=b v)(t:0<=d)(n:d<f)(O:Order f d a j)(w:iO f c d a h b j (eF f c d a h b j.reverse).length i):i.getD d.toNat 0=Ζ f c d a h b (Ϭ c a) d/\(i.length:Int)=f:=by
 obtain⟨A,B,e,u,m,w⟩:=w.ex;rw[dE]at m;have l:=Lq g q (mV.mp m) w;have s:j=B.reverse++A.reverse:=by
  have:=congrArg List.reverse e;rw[iy,gL]at this;exact this
 rw[<-s]at l;have nd:=aZ.mp O.nd;exact⟨l.own g R t n nd.2 O.places nd.1 λk o r p _=>(O.all k o r).resolve_left p,l.len⟩
section
open PySem
def Lb(m:Int)(d:hR)(r:Int)(a:eX)(c:fb)(b:eX)(v:Int):List V:=[.int v,.int (a v),.int (gE m d r a c b v)]
abbrev Ϡ(H:Hp)(m:Int)(d:hR)(r:Int)(b:eX)(c:fb)(a:eX):List Addr->List Int->Prop:=Paired λq v=>H q=some (.tup (Lb m d r b c a v))
theorem Ϡ.snoc(e:g i=some (.tup (Lb f d h c b a j))):∀{l:hD}{k:ej},Ϡ g f d h c b a l k->Ϡ g f d h c b a (l++[i]) (k++[j])
 | _,_,.nil=>.cons e .nil
 | _,_,.cons x xs=>.cons x (Ϡ.snoc e xs)
end
end Pb
namespace L2
open PySem PySem.Spec PyProof.Rows
def D2(a:ej)(lo b:Option Int):List Int:=(a.drop (HT.Ue a.length 0 lo)).take (HT.Ue a.length a.length b-HT.Ue a.length 0 lo)
def NR(a:ej)(lo b:Option Int):vC (a.map V.int) lo b=(D2 a lo b).map V.int:=by
 unfold vC D2;rw[aa,nu,kt]
def NV(a:ej)(lo b:Option Int):(D2 a lo b).length<=a.length:=by
 unfold D2;rw[bA,d8]
 lia
def slI{K:gy}{H:Hp}{a:Addr}{b:ej}{lo c:Option Int}{Q:VK}(h:ν K H a (b.map V.int))(q:∀p,H p=none->Q (.ref p) (upd H p (.lst ((D2 b lo c).map V.int)))):KM K (.ref a) lo c H Q:=⟨a,_,rfl,h,λp d=>by rw[NR];exact q p d⟩
def PL(K:gy)(c:Bool):R2:=λx y H Q=>∃p a i v,x=.ref p/\y=.int i/\ϐ K c H p a/\aT a i=some v/\Q v H
def CN(c:Bool):Xl a (PL a.K c):=by
 cases c
 .exact jM
 .exact bC
def QQ(c:Bool)(K:gy)(h:a.K=K):Xl a (PL K c):=by subst h;exact CN c
def ixX{K:gy}{c:Bool}{H:Hp}{p:Addr}{a:List V}{i:Int}{v:V}{Q:VK}(h:ϐ K c H p a)(e:aT a i=some v)(q:Q v H):PL K c (.ref p) (.int i) H Q:=⟨p,a,i,v,rfl,rfl,h,e,q⟩
def Gu{K:gy}{H:Hp}{p:Addr}{a:List V}{i:Int}{v:V}{Q:VK}(h:Δ K H p a)(e:aT a i=some v)(q:Q v H):Kz K (.ref p) (.int i) H Q:=⟨p,a,i,v,rfl,rfl,h,e,q⟩
end L2
namespace Pb
open L2 PySem
theorem HA{e f:Type}{R:e->f->Prop}{a:List e}{d:List f}(h:Paired R a d):∀{c:List e}{b:List f},Paired R c b->Paired R (c++a) (b++d)
 | _,_,.nil=>h
 | _,_,.cons x xs=>.cons x (HA h xs)
def ό(b:hR)(a:eX)(v x:Int):Int:=if 0<=x then x/(cD b v (a v)).getD 1 else x*(cD b (a v) v).getD 1
def rE(g:Good h f)(R:ε h f l e m)(r:0<=d)(q:d<h)(s:d≠l):∃k,cD f (e d) d=some k/\2<=k/\k<=1000000:=by
 obtain⟨x,n,j⟩:=(R.up d r q s).2.1;obtain⟨i,t⟩:=cF n;have ok:=g.ok x n;have o:xR x (e d) d:=by
  rcases j with⟨a,b⟩|⟨a,b⟩
  .exact .inr ⟨b,a⟩
  .exact .inl ⟨b,a⟩
 rw[u5 g t o];unfold jb;by_cases c:x.a=e d/\x.b=d
 .rw[aj c];exact⟨_,rfl,ok.t0,ok.t1⟩
 .rw[ah c];have p:x.a=d/\x.b=e d:=by
   rcases o with w|w
   .exact absurd w c
   .exact⟨w.2,w.1⟩
  rw[aj p];exact⟨_,rfl,ok.u0,ok.u1⟩
def sF(i:Nat):cj (i+1)=cj i++[(i:Int)]:=by
 unfold cj;rw[gQ,au]
 rfl
def dS(m:Int)(a b:ej):List Int:=(List.range m.toNat).map λi=>a.getD i 0-b.getD i 0
def Mi(h:0<=m)(a b:ej):((dS m a b).length:Int)=m:=by unfold dS;rw[aa,cK];lia
end Pb
namespace L2
open PySem PySem.Spec PyProof.Rows
def Gf(c:Bool)(j:A.handled=none)(ne:l≠it)(a:Array Value):Draws P w A it [it,l] a.size (λi v=>a[i]?=some v) (λi h=>zAt l c it i h/\KB l c h a) where
 live:=λi h st=>let ⟨o,e,_⟩:=(kj l c P w).obj _ _ _ st.1;⟨o,e⟩
 frame:=λi h b st k=>⟨(kj l c P w).atK _ _ _ _ st.1 λo e=>k it (by simp) o e,(kj l c P w).UC _ _ _ st.2 λo e=>k l (by simp) o e⟩
 item:=λi s Q E hi st d=>(kj l c P w).item A s it i a a[i] Q E st.1 st.2 (by simp[hi]) λb f g=>d a[i] b s.toks (by simp[hi]) ⟨f,(kj l c P w).UC _ _ _ st.2 λo e=>g.extBut _ _ ne e⟩ g
 done:=λs Q E st d=>(kj l c P w).fin A s it a.size a Q E j st.1 st.2 (by simp) λb e n m=>d b e n m
abbrev FG(n:Nat):Obj:={ cls:=.type "enumerate",data:=.fields #[.none,.bool false,.ref n,rawInt 0,.none,.none] }
def Ei(S:∀P w,Ac P w h e a f)(l:Array Value):Meets (Builtin.«enumerate.__new__» ⟨[.type "enumerate",.ref h],[]⟩) (λ_ R s=>a s.heap l/\R (.ok (.ret (.ref (s.heap.push e).objs.size))) { s with heap:=(s.heap.push e).push (FG s.heap.objs.size) }):=.of_wp λi w A R s k=>by
 obtain⟨p,g,d,m,os⟩:=s;obtain⟨o,r⟩:=k;have n:=sub_enumerate;have j:a (Shared.heap ⟨p,g,d,m,os⟩) l:=o
 wp_walk using ((S i w).start _ _ _ _ _ j)
 refine wpAny_stack_any λst=>?_;dsimp only;refine bh ?_;have q:∀b:Bool,b=true\/b=false:=λb=>by cases b<;>simp
 split
 .rename_i c _ _ _ _ _
  rcases q (c==Value.type "enumerate")with z|z
  .rw[z]
   wp_walk using ((S i w).start _ _ _ _ _ j)
   exact⟨_,rfl,r⟩
  .rw[z]
   wp_walk using ((S i w).start _ _ _ _ _ j)
   exact⟨_,rfl,r⟩
 .wp_walk using ((S i w).start _ _ _ _ _ j)
  exact⟨_,rfl,r⟩
def MY{P:Program}{s:Shared}(S:∀P b,Ac P b i a f d){Q:fz}(q:f s.heap g)(t:a.isFreed=false)(h:∀l,IsEnum l (s.heap.objs.size+1) s.heap.objs.size 0 .none->d s.heap.objs.size 0 l->(∀c o,s.heap.get? c=some o->l.get? c=some o)->Q (.ref (s.heap.objs.size+1)) { s with heap:=l }):wpAny (model P b) k (call (.type "enumerate") [.ref i]) Q j s:=by
 refine callType_new F.called_enumerate (by decide) (F.typeCall_enumerate_1 _) (F.newCall_enumerate_1 _) (λn=>F.args_object_init_2 n _) F.entry_enumerate_new (Ei S g) ⟨q,?_⟩;have p:(s.heap.push a).objs.size=s.heap.objs.size+1:=eK ..;have m:((s.heap.push a).push (FG s.heap.objs.size)).get? (s.heap.push a).objs.size=some (FG s.heap.objs.size):=bd _ rfl;have r:((s.heap.push a).push (FG s.heap.objs.size)).get? s.heap.objs.size=some a:=aI _ (bd _ t);show _/\_;rw[p]at m;rw[p];exact⟨⟨_,m,rfl⟩,h _ m ((S P b).first _ _ r) λc o e=>aI _ (aI _ e)⟩
def Ite(K:gy)(c:Bool)(a:Addr):It:=⟨λi H=>∃b x,ϐ K c H a b/\b[i]?=some x,λi H v d=>∃p x,H p=none/\v=.ref p/\d=upd H p (.tup [.int i,x])/\∀b,ϐ K c H a b->b[i]?=some x,λi H=>∃b,ϐ K c H a b/\b.length=i⟩
def LU{P:Program}{w:World}{K:gy}{G:List Expr}{x1}{U5:Pos}(c:Bool)(a e it:Addr)(ne:e≠it)(ae:a≠e)(ai:a≠it):Turn P w K (.Tuple G x1 U5) (Ite K c a) [e,it] e (λi h=>(∃y,IsEnum h e it (i:Nat) y)/\zAt a c it i h) where
 mem:=by simp
 obj:=λi h t b hb=>by
  obtain⟨⟨y,t1⟩,F⟩:=t;simp only[aA,d7,or_false]at hb;rcases hb with rfl|rfl
  .exact⟨_,t1,λv z=>by cases z⟩
  .exact(kj a c P w).obj _ _ _ F
 keep:=λi h N t k=>by
  obtain⟨⟨y,t1⟩,F⟩:=t;exact⟨⟨y,k e (by simp) _ t1⟩,(kj a c P w).atK _ _ _ _ F λo e=>k it (by simp) o e⟩
 item:=λX e1 e2 e3 hc i C s σ H E I f t g=>by
  subst e1 e2 e3;obtain⟨⟨y,t1⟩,F⟩:=t;obtain⟨V,x,s1,Z⟩:=g;obtain⟨J,r1,q1⟩:=I.ϭ s1;obtain⟨xu,M,rx⟩:=r1.get Z;have hh:X.A.in1.handled=none:=I.ok.hd hc;have D:∀q∈[e,it],qg X C H q:=f;have W:=WalksT.enumerateD (A:=X.A) (Gf (P:=X.prog) (w:=X.w) (A:=X.A.in1) (l:=a) c (it:=it) hh ai J.toArray) e ne (by simp;exact⟨ne,ae.symm⟩) (by simp);have Le:i<J.toArray.size:=by
   have:=(aD.mp M).1
   simpa using this
  refine W.item i s _ _ Le ⟨⟨y,t1⟩,F,q1⟩ λT a4 N tk pt le tup S keep=>?_;refine⟨_,rfl,W.go G x1 U5 i T { s with heap:=N,toks:=tk } _ _ S λU Vc XX=>?_⟩;obtain⟨tt,xv,px,ev⟩:=pt;have ap:xv=xu:=by
   have h1:J[i]?=some xv:=(by simpa using px);rw[M]at h1;cases h1
   rfl
  subst ap;have Tw:T∉[e,it]:=W.apart i T N S;have kp:∀q o,q∉[e,it]->s.heap.get? q=some o->U.get? q=some o:=λq o d eo=>XX q o d (keep q o d eo);obtain⟨ot,ht,aH,nt,av⟩:=tup;have new:U.get? T=some ot:=XX T ot Tw ht;have O:∀q u,H q=some u->q∉[e,it]:=λq u e d=>by rw[(D q d).1]at e;cases e
  have L:H T=none:=I.Α.fresh le;have Y:∀q o,s.heap.get? q=some o->q≠T:=λq o eo=>bf (be (aO eo) le);have B:Inv X C σ H { s with heap:=U,toks:=tk }:=by
   refine I.step (g':=s.gens) (d':=s.drawn) (t':=tk) (ch:=[e,it]) (λq d=>⟨(D q d).2.2.2.1,(D q d).2.1,(D q d).2.2.2.2.1,(D q d).2.2.2.2.2⟩) (λq o _ _ d e _=>kp q o d e) (λq o _ _ d e _=>⟨o.slots,kp q o d e⟩) (λ_ _ _ _ n=>n)
    (λq o d e=>⟨o,kp q o d e⟩) (λ_ _ e=>e) (λ_ _ _ e=>e) (λq ps e=>⟨#[],by rw[e];simp⟩) (λm hm=>?_) (λq u e=>?_) I.bare
   .obtain⟨o,es,ep,ho,r⟩:=hm;exact⟨o,es,ep,kp _ o (λd=>(D _ d).2.1 rfl) ho,r⟩
   .refine(I.Α q u e).lT (λR v TR j=>kp R v ?_ j) (λ_ j=>j) λ_ _ j=>j;rcases TR with rfl|TR
    .exact O _ u e
    .exact O _ _ TR
  have I3:Inv X C σ (upd H T (.tup [.int i,x])) { s with heap:=U,toks:=tk }:=by
   refine⟨B.ok,B.os,B.bare,?_,B.loc,B.cell,?_,λn c e=>?_,λp hp=>?_,λq u e=>?_,B.len⟩
   .refine⟨B.base.keep,B.base.slot,λq o e n Z=>?_,B.base.there,λq V e=>?_,λq o u e=>?_,λq ps e=>?_⟩
    .have lt:q<X.s₀.heap.objs.size:=aO e;rw[aW (bf (be lt (aV I.sz le)))];exact B.base.free q o e n Z
    .have j:=B.base.nE q V e;rw[aW (λz=>by rw[z,L]at j;cases j)];exact j
    .have j:=B.base.iD q o u e;rw[aW (λz=>by rw[z,L]at j;cases j)];exact j
    .obtain⟨more,j⟩:=B.base.oK q ps e;exact⟨more,by rw[aW (λz=>by rw[z,L]at j;cases j)];exact j⟩
   .rw[aW (bf (be I.lt le))];exact B.free
   .obtain⟨vv,o,ho,_⟩:=I.cell n c e;rw[aW (Y _ _ ho)];exact B.ϝ n c e
   .obtain⟨k1,k2,k3⟩:=I.pin p hp;rw[aW (Y _ _ k1)];exact B.pin p hp
   .by_cases d:q=T
    .subst d;rw[az]at e;cases e;refine⟨by show 2<=sizeLine;decide,[.int (i:Nat) tt,xv],.cons ⟨tt,rfl⟩ (.cons rx .nil),ot,new,aH,nt,?_⟩;rw[av,ev]
    .rw[aW d]at e;refine(B.Α q u e).lT (λ_ _ _ j=>j) (λR j=>?_) λR V j=>?_
     .rw[aW (λz=>by rw[z,L]at j;cases j)];exact j
     .rw[aW (λz=>by rw[z,L]at j;cases j)];exact j
  refine⟨.ref T,_,I3,rfl,⟨T,x,L,rfl,rfl,λba q=>?_⟩,⟨Vc.1,Vc.2.1⟩,λq d=>?_⟩
  .rw[<-I.UD s1 q];exact Z
  .have ϒ:q≠T:=by
    simp only[aA,d7,or_false]at d;rcases d with rfl|rfl
    .exact Y _ _ t1
    .exact let ⟨o,e,_⟩:=(kj a c X.prog X.w).obj _ _ _ F;Y _ _ e
   rw[aW ϒ];exact(D q d).1
 done:=λX e1 e2 e3 hc i C s σ H E I f t g=>by
  subst e1 e2 e3;obtain⟨⟨y,t1⟩,F⟩:=t;obtain⟨V,s1,Xr⟩:=g;obtain⟨J,r1,q1⟩:=I.ϭ s1;have hh:X.A.in1.handled=none:=I.ok.hd hc;have D:∀q∈[e,it],qg X C H q:=f;have W:=WalksT.enumerateD (A:=X.A) (Gf (P:=X.prog) (w:=X.w) (A:=X.A.in1) (l:=a) c (it:=it) hh ai J.toArray) e ne (by simp;exact⟨ne,ae.symm⟩) (by simp);have ei:i=J.toArray.size:=by
   have:=r1.length;simp
   lia
  subst ei;refine W.done s _ _ ⟨⟨y,t1⟩,F,q1⟩ λN tk keep=>⟨rfl,?_⟩;have kp:∀q o,q∉[e,it]->s.heap.get? q=some o->N.get? q=some o:=λq o d e=>keep q o d e;have O:∀q u,H q=some u->q∉[e,it]:=λq u e d=>by rw[(D q d).1]at e;cases e
  refine I.step (g':=s.gens) (d':=s.drawn) (t':=tk) (ch:=[e,it]) (λq d=>⟨(D q d).2.2.2.1,(D q d).2.1,(D q d).2.2.2.2.1,(D q d).2.2.2.2.2⟩) (λq o _ _ d e _=>kp q o d e) (λq o _ _ d e _=>⟨o.slots,kp q o d e⟩) (λ_ _ _ _ n=>n)
   (λq o d e=>⟨o,kp q o d e⟩) (λ_ _ e=>e) (λ_ _ _ e=>e) (λq ps e=>⟨#[],by rw[e];simp⟩) (λm hm=>?_) (λq u e=>?_) I.bare
  .obtain⟨o,es,ep,ho,r⟩:=hm;exact⟨o,es,ep,kp _ o (λd=>(D _ d).2.1 rfl) ho,r⟩
  .refine(I.Α q u e).lT (λR v TR j=>kp R v ?_ j) (λ_ j=>j) λ_ _ j=>j;rcases TR with rfl|TR
   .exact O _ u e
   .exact O _ _ TR
 self:=λA i s Q E t q=>by
  obtain⟨⟨y,t1⟩,F⟩:=t;exact wpAny_pyIter_enum t1 q
def P3(K:gy)(c:Bool)(f:TE):TI:=λe H R=>f e H λx b=>∃a,x=.ref a/\(∃d,ϐ K c b a d)/\R (Ite K c a) b
def Q6{X:Cx}{e:Expr}{r:TE}{z:Pos}{f:Pos}{d:List Expr}{x1}{U5:Pos}(c:Bool)(hg:Gl X "enumerate")(hm:X.mg "enumerate"=none)(he:PE X e r)(h2:starEach [e] X.env=[(false,eval e X.env)]:=by rfl):PI X (.Tuple d x1 U5) (.Call (.Name "enumerate" z) [e] [] f) (P3 X.K c r):=by
 intro i s A H R I h;refine Call_ (rR I hg hm boot_enumerate (dy ?_ h2 rfl));rw[h2];show wpAny _ _ (spliced ((false,eval e X.env)::backTo f [])) _ _ s;refine fB (eA (he i s A H _ I h) λu l x y j o k=>gB ?_);obtain⟨a,v,⟨D,B⟩,q⟩:=k;subst v;cases o;obtain⟨E,o,k⟩:=j.ϭ B;obtain⟨G,m⟩:=sQ a c _ _ k;have n:=aO m;refine MY (kj a c) k (yz a c) λF p C w=>?_;refine wpAny_pyIter_enum p ?_;refine⟨_,[l.heap.objs.size+1,l.heap.objs.size],_,_,y,rfl,j.kept (t':=l.toks) w,LU c a _ _ (Nat.succ_ne_self _) (bf (gh n)) (bf n),⟨⟨_,p⟩,C⟩,λb t=>?_,q⟩;have g:l.heap.objs.size<=b:=by
  simp only[aA,d7,or_false]at t;rcases t with rfl|rfl
  .exact iT _
  .exact aU _
 exact j.Vi g (j.Α.fresh g)
end L2
namespace Pb
open L2 PySem
abbrev ϵ:=Int×Int×Int
def vSt(s:ϵ):List V:=[.int s.1,.int s.2.1,.int s.2.2]
abbrev Τ(H:Hp):List Addr->List ϵ->Prop:=Paired λq s=>H q=some (.tup (vSt s))
def Τ.same(e:δ d b)(h:Τ d c a):Τ b c a:=Paired.imp' (λq v x=>e q _ x) h
theorem DW{R:a->b->Prop}(h:R d c):∀{f:List a}{e:List b},Paired R f e->Paired R (f++[d]) (e++[c])
 | _,_,.nil=>.cons h .nil
 | _,_,.cons x xs=>.cons x (DW h xs)
def gd(c:hR)(a b:Int):Int:=(cD c a b).getD 1
def cQ(b:hR)(a:ej)(s:ϵ):List Int:=(a.set s.1.toNat (a.getD s.1.toNat 0-s.2.2*gd b s.1 s.2.1)).set s.2.1.toNat ((a.set s.1.toNat (a.getD s.1.toNat 0-s.2.2*gd b s.1 s.2.1)).getD s.2.1.toNat 0+s.2.2)
def uX(b:hR)(a:ej)(s:ϵ):(cQ b a s).length=a.length:=by unfold cQ;rw[bz,bz]
def oG(m:Int)(a:hR)(s:ϵ):Bool:=decide (0<=s.1)&&decide (s.1<m)&&decide (s.2.1∈ki m a s.1)&&decide (1<=s.2.2)
def mC(m:Int)(a:hR)(b:ej)(s:ϵ):Bool:=oG m a s&&decide (s.2.2*gd a s.1 s.2.1<=b.getD s.1.toNat 0)
def oW(c:hR)(a:ej)(b:List ϵ)(i:Nat):List Int:=(b.take i).foldl (cQ c) a
def kW(m:Int)(a:hR)(c:ej)(b:List ϵ):Prop:=∀i s,b[i]?=some s->mC m a (oW a c b i) s=true
def LB(h:b[d]?=some s):oW a c b (d+1)=cQ a (oW a c b d) s:=by
 unfold oW;rw[bj,h,jr]
 rfl
def Lz(c:hR)(a:ej)(b:List ϵ):oW c a b 0=a:=by unfold oW;rw[eO];rfl
def qZ(h:oG b c a=true):(0<=a.1/\a.1<b)/\a.2.1∈ki b c a.1/\1<=a.2.2:=by
 unfold oG at h;rw[bB,bB,bB]at h;exact⟨⟨bu h.1.1.1,bu h.1.1.2⟩,bu h.1.2,bu h.2⟩
def oM(g:Good l f)(h:Vd f e d):∃k,cD f e d=some k/\2<=k/\k<=1000000:=by
 obtain⟨x,n,j⟩:=h;obtain⟨i,p⟩:=cF n;have ok:=g.ok x n;have m:xR x e d:=j;rw[u5 g p m];unfold jb;by_cases c:x.a=e/\x.b=d
 .rw[aj c];exact⟨_,rfl,ok.t0,ok.t1⟩
 .rw[ah c];have o:x.a=d/\x.b=e:=by
   rcases m with w|w
   .exact absurd w c
   .exact⟨w.2,w.1⟩
  rw[aj o];exact⟨_,rfl,ok.u0,ok.u1⟩
def L7(g:Good c b)(h:oG c b a=true):∃k,cD b a.1 a.2.1=some k/\gd b a.1 a.2.1=k/\(2<=k/\k<=1000000)/\(0<=a.2.1/\a.2.1<c):=by
 obtain⟨j,f,i⟩:=qZ h;have d:=(j2 g).mp f;obtain⟨k,e,r⟩:=oM g d;exact⟨k,e,by unfold gd;rw[e];rfl,r,(g.Vz d).2.1⟩
end Pb
namespace Pb
open L2
theorem Dn{f h:eX}:∀{l:ej},(∀c∈l,f c<=h c)->(l.map f).sum<=(l.map h).sum
 | [],_=>bF _
 | c::l,hl=>by
   rw[aF,aF,aN,aN];have d:=hl c aL;have b:=Dn (l:=l) λx a=>hl x (aw _ a)
   lia
def nU{f h:eX}{l:ej}(a:∀c∈l,f c=h c):(l.map f).sum=(l.map h).sum:=by rw[b5 a]
theorem Eb{f h:eX}{c0:Int}:∀{l:ej},l.Nodup->c0∈l->(∀c∈l,c≠c0->f c=h c)->(l.map f).sum=(l.map h).sum+(f c0-h c0)
 | [],_,hm,_=>by cases hm
 | c::l,nd,hm,hl=>by
   obtain⟨b,d⟩:=aZ.mp nd;rw[aF,aF,aN,aN];by_cases z:c=c0
   .subst z;rw[nU (f:=f) (h:=h) (l:=l) λx a=>hl x (aw _ a) λw=>b (w▸a)]
    lia
   .have hm':c0∈l:=by
     rcases aA.mp hm with w|w
     .exact absurd w.symm z
     .exact w
    rw[hl c aL z,Eb d hm' λx a=>hl x (aw _ a)]
    lia
section
variable{m:Int}{r:Int}{b:eX}{a c:eX}
structure UQ(m:Int)(r:Int)(b:eX)(a c:eX)(c0 dc dp:Int):Prop where
 Μ:0<=c0/\c0<m
 nr:c0≠r
 own:c c0=a c0+dc
 up:c (b c0)=a (b c0)+dp
 V8:∀v,0<=v->v<m->v≠c0->v≠b c0->c v=a v
end
def UQ.deep{m:Int}{j:hR}{r:Int}{b:eX}{a:fb}{d:eX}{o:eX}{f:hP}(g:Good m j)(R:ε m j r b a){k s t:Int}(C:UQ m r b d o k s t):∀(n:Nat)(v:Int),m.toNat-a v=n->0<=v->v<m->a k<a v->Ζ m j r b a o f v=Ζ m j r b a d f v:=by
 intro n
 induction n using Nat.strongRecOn with
 | _ n ih=>
   intro v y i h l;have x:=R.pos C.Μ.1 C.Μ.2 C.nr;rw[eB g R i h,eB g R i h,C.V8 v i h (λz=>by rw[z]at l;lia) (λz=>by rw[z]at l;lia)]
   congr 1
   refine nU λc u=>?_;obtain⟨e,w,p⟩:=(cR g R i h).mp u;have q:=R.pos e.1 e.2 w;have A:=ja R e.1 e.2;rw[p]at q;rw[ih (m.toNat-a c) (by lia) c rfl e.1 e.2 (by lia)]
def UQ.at{m:Int}{f:hR}{r:Int}{a:eX}{e:fb}{d:eX}{j:eX}{b:hP}(g:Good m f)(R:ε m f r a e){h k o:Int}(C:UQ m r a d j h k o):Ζ m f r a e j b h=Ζ m f r a e d b h+k:=by
 rw[eB g R C.Μ.1 C.Μ.2,eB g R C.Μ.1 C.Μ.2,C.own];have:((bU m f (front r a h) h).map λc=>b c (Ζ m f r a e j b c)).sum=((bU m f (front r a h) h).map λc=>b c (Ζ m f r a e d b c)).sum:=by
  refine nU λc p=>?_;obtain⟨i,q,l⟩:=(cR g R C.Μ.1 C.Μ.2).mp p;have n:=R.pos i.1 i.2 q;rw[l]at n;rw[C.deep g R _ c rfl i.1 i.2 (by lia)]
 rw[this]
 lia
def UQ.side{m:Int}{j:hR}{r:Int}{b:eX}{a:fb}{d:eX}{l:eX}{e:hP}(g:Good m j)(R:ε m j r b a){k p q:Int}(C:UQ m r b d l k p q){v:Int}(h:0<=v)(f:v<m)(s:a v=a k)(x:v≠k):Ζ m j r b a l e v=Ζ m j r b a d e v:=by
 have w:=R.pos C.Μ.1 C.Μ.2 C.nr;rw[eB g R h f,eB g R h f,C.V8 v h f x (λz=>by rw[z]at s;lia)]
 congr 1
 refine nU λc t=>?_;obtain⟨i,u,n⟩:=(cR g R h f).mp t;have o:=R.pos i.1 i.2 u;rw[n]at o;rw[C.deep g R _ c rfl i.1 i.2 (by lia)]
def UQ.ahead(g:Good k j)(R:ε k j m a i)(C:UQ k m a e n d p o):Ζ k j m a i n b (a d)=Ζ k j m a i e b (a d)+(o+b d (Ζ k j m a i e b d+p)-b d (Ζ k j m a i e b d)):=by
 have u:=R.up d C.Μ.1 C.Μ.2 C.nr;rw[eB g R u.1.1 u.1.2,eB (held:=e) g R u.1.1 u.1.2,C.up];have:=Eb (c0:=d) (f:=λc=>b c (Ζ k j m a i n b c)) (h:=λc=>b c (Ζ k j m a i e b c)) (l:=bU k j (front m a (a d)) (a d)) nz ((cR g R u.1.1 u.1.2).mpr ⟨C.Μ,C.nr,rfl⟩) λc s r=>by
  obtain⟨q,w,t⟩:=(cR g R u.1.1 u.1.2).mp s;have v:=R.pos q.1 q.2 w;have x:=R.pos C.Μ.1 C.Μ.2 C.nr;rw[t]at v;show b c _=b c _;rw[C.side g R q.1 q.2 (by lia) r]
 rw[this,C.at g R]
 lia
def UQ.le{p:hP}(g:Good i d)(R:ε i d j b a)(E:∀v x y,x<=y->p v x<=p v y)(C:UQ i j b held k e m o)(A:o+p e (Ζ i d j b a held p e+m)<=p e (Ζ i d j b a held p e)):∀(n:Nat)(v:Int),a e-a v=n->0<=v->v<i->v≠e->Ζ i d j b a k p v<=Ζ i d j b a held p v:=by
 intro n
 induction n with
 | zero=>
   intro v D r q t;by_cases z:a v=a e
   .exact Int.le_of_eq (C.side g R r q z t)
   .exact Int.le_of_eq (C.deep g R _ v rfl r q (by lia))
 | succ n ih=>
   intro v D r q t;by_cases z:v=b e
   .rw[z,C.ahead g R]
    lia
   .rw[eB g R r q,eB (held:=held) g R r q,C.V8 v r q t z];have:=Dn (f:=λc=>p c (Ζ i d j b a k p c)) (h:=λc=>p c (Ζ i d j b a held p c)) (l:=bU i d (front j b v) v) λc F=>by
     obtain⟨s,G,u⟩:=(cR g R r q).mp F;have B:=R.pos s.1 s.2 G;rw[u]at B;exact E c _ _ (ih c (by lia) s.1 s.2 λw=>z (by rw[<-w,u]))
    lia
def UQ.eq{m:Int}{i:hR}{r:Int}{b:eX}{a:fb}{held:eX}{q:eX}{d:hP}(g:Good m i)(R:ε m i r b a){e o p:Int}(C:UQ m r b held q e o p)(s:p+d e (Ζ m i r b a held d e+o)=d e (Ζ m i r b a held d e)):∀(n:Nat)(v:Int),a e-a v=n->0<=v->v<m->v≠e->Ζ m i r b a q d v=Ζ m i r b a held d v:=by
 intro n
 induction n with
 | zero=>
   intro v u h f k;by_cases z:a v=a e
   .exact C.side g R h f z k
   .exact C.deep g R _ v rfl h f (by lia)
 | succ n ih=>
   intro v u h f k;by_cases z:v=b e
   .rw[z,C.ahead g R]
    lia
   .rw[eB g R h f,eB (held:=held) g R h f,C.V8 v h f k z]
    congr 1
    refine nU λc x=>?_;obtain⟨j,y,l⟩:=(cR g R h f).mp x;have t:=R.pos j.1 j.2 y;rw[l]at t;rw[ih c (by lia) j.1 j.2 λw=>z (by rw[<-w,l])]
def Oz(g:Good c b)(v x y:Int)(h:x<=y):Ϭ b a v x<=Ϭ b a v y:=by
 unfold Ϭ;refine l9 ?_ h;cases e:cD b v (a v)with
 | none=>decide
 | some k=>
   have f:=Bk.mp (show(cD b v (a v)).isSome=true by rw[e];rfl);obtain⟨j,d,i,_⟩:=oM g f;rw[e]at d;cases d;show 0<k
   lia
def Bx(g:Good e c)(R:ε e c f d h)(w:(b.length:Int)=e)(is:oG e c a=true):(a.1≠f/\d a.1=a.2.1/\UQ e f d (λv=>b.getD v.toNat 0) (λv=>(cQ c b a).getD v.toNat 0) a.1 (-(a.2.2*gd c a.1 a.2.1)) a.2.2)\/(a.2.1≠f/\d a.2.1=a.1/\UQ e f d (λv=>b.getD v.toNat 0) (λv=>(cQ c b a).getD v.toNat 0) a.2.1 a.2.2 (-(a.2.2*gd c a.1 a.2.1))):=by
 obtain⟨s,nb,u⟩:=qZ is;have n:=(j2 g).mp nb;have r:=(g.Vz n).2.1;have t:=(g.Vz n).2.2;have o:(cQ c b a).getD a.1.toNat 0=b.getD a.1.toNat 0 + -(a.2.2*gd c a.1 a.2.1):=by
  unfold cQ;rw[g9 _ _ _ _ (by rw[bz];lia),ah (by lia),g9 _ _ _ _ (by lia),aj rfl]
  lia
 have p:(cQ c b a).getD a.2.1.toNat 0=b.getD a.2.1.toNat 0+a.2.2:=by
  unfold cQ;rw[g9 _ _ _ _ (by rw[bz];lia),aj rfl,g9 _ _ _ _ (by lia),ah (by lia)]
 have q:∀v:Int,0<=v->v≠a.1->v≠a.2.1->(cQ c b a).getD v.toNat 0=b.getD v.toNat 0:=λv l j i=>by
  unfold cQ;rw[g9 _ _ _ _ (by rw[bz];lia),ah (by lia),g9 _ _ _ _ (by lia),ah (by lia)]
 rcases R.Vz n with⟨j,i⟩|⟨j,i⟩
 .exact .inr ⟨j,i,r,j,p,by rw[i];exact o,λv l _ m k=>q v l (by rw[i]at k;exact k) m⟩
 .exact .inl ⟨j,i,s,j,o,by rw[i];exact p,λv l _ m k=>q v l m (by rw[i]at k;exact k)⟩
def Sf{n:eX}(g:Good j d)(R:ε j d m b k)(q:∀i,0<=n i)(o:0<=i)(p:i<j):n i<=Ζ j d m b k n (Ϭ d b) i:=by
 rw[eB g R o p];have:=Dn (f:=λ_=>0) (h:=λc=>Ϭ d b c (Ζ j d m b k n (Ϭ d b) c)) (l:=bU j d (front m b i) i) λc _=>Ha g c _ (MH g q c);have e:∀l:List Int,(l.map λ_=>(0:Int)).sum=0:=by
  intro l
  induction l with
  | nil=>rfl
  | cons a l ih=>rw[aF,aN,ih];rfl
 rw[e]at this
 lia
def pP(m:Int)(d:hR)(r:Int)(b:eX)(c:fb)(a:eX)(l:ej):List ϵ:=(eF m d r b c a l).map λv=>(v,b v,gE m d r b c a v)
def Gm(g:Good e d)(R:ε e d h a c)(o:∀x∈b,0<=x)(m:(b.length:Int)=e)(O:Order e h a f):∀i,i<=(eF e d h a c (λv=>b.getD v.toNat 0) f.reverse).length->iO e d h a c (λv=>b.getD v.toNat 0) f i (oW d b (pP e d h a c (λv=>b.getD v.toNat 0) f.reverse) i):=by
 intro i;have p:∀v:Int,0<=b.getD v.toNat 0:=λv=>pi o _
 induction i with
 | zero=>intro _;rw[Lz];exact iO.start m
 | succ i ih=>
   intro t;have l:i<(eF e d h a c (λv=>b.getD v.toNat 0) f.reverse).length:=by lia
   have j:=aB l;obtain⟨q,r,k,nl,n⟩:=(ih (by lia)).turn g R p O j;rw[LB (s:=((eF e d h a c (λv=>b.getD v.toNat 0) f.reverse)[i],a (eF e d h a c (λv=>b.getD v.toNat 0) f.reverse)[i],gE e d h a c (λv=>b.getD v.toNat 0) (eF e d h a c (λv=>b.getD v.toNat 0) f.reverse)[i])) (by unfold pP;rw[aP,j];rfl)];exact n
def LY(g:Good d c)(R:ε d c h b e)(p:∀x∈a,0<=x)(q:(a.length:Int)=d)(O:Order d h b f):kW d c a (pP d c h b e (λv=>a.getD v.toNat 0) f.reverse):=by
 intro i s k;have m:∀v:Int,0<=a.getD v.toNat 0:=λv=>pi p _;unfold pP at k;rw[aP]at k;obtain⟨v,o,rfl⟩:=b9.mp k;have t:=(aD.mp o).1;obtain⟨⟨j,n⟩,r,l,nl,u⟩:=(Gm g R p q O i (by lia)).turn g R m O o;have le:=RJ (held:=λv=>a.getD v.toNat 0) g R m j.1 j.2 n;have nb:b v∈ki d c v:=(j2 g).mpr (R.up v j.1 j.2 n).2.1;unfold mC oG;simp only[bB,bw];exact⟨⟨⟨⟨j.1,j.2⟩,nb⟩,by lia⟩,by rw[l];exact le⟩
end Pb
namespace L2
open PySem PySem.Spec PyProof.Rows
def Sq(b:List V)(e:0<=a):vC b none (some a)=b.take a.toNat:=by
 unfold vC;have c:HT.Ue b.length 0 none=0:=rfl;have d:HT.Ue b.length b.length (some a)=min a.toNat b.length:=by
  show(if a<0 then(a+(b.length:Int)).toNat else min a.toNat b.length)=_;rw[ah (by lia)]
 rw[c,d,eI,gc,List.take_eq_take_iff]
 lia
def CW(b:List V)(f:0<=a):vC b (some a) none=b.drop a.toNat:=by
 unfold vC;have e:HT.Ue b.length b.length none=b.length:=rfl;have d:HT.Ue b.length 0 (some a)=min a.toNat b.length:=by
  show(if a<0 then(a+(b.length:Int)).toNat else min a.toNat b.length)=_;rw[ah (by lia)]
 rw[e,d,cH (by rw[d8];lia)];by_cases c:a.toNat<=b.length
 .rw[Nat.min_eq_left c]
 .rw[Nat.min_eq_right (by lia),ie (aU _),ie (by lia)]
end L2
namespace Pb
open L2 PySem
def tM(h:mC d b c a=true):oG d b a=true/\a.2.2*gd b a.1 a.2.1<=c.getD a.1.toNat 0:=by
 unfold mC at h;rw[bB]at h;exact⟨h.1,bu h.2⟩
def Qu(g:Good d c)(k:(a.length:Int)=d)(f:∀x∈a,0<=x)(h:mC d c a b=true):∀x∈cQ c a b,0<=x:=by
 obtain⟨is,le⟩:=tM h;obtain⟨j,nb,i⟩:=qZ is;have e:∀x∈a.set b.1.toNat (a.getD b.1.toNat 0-b.2.2*gd c b.1 b.2.1),0<=x:=F7 f (by lia);unfold cQ;exact F7 e (by have:=pi e b.2.1.toNat;lia)
theorem zX:∀(l:ej)(i:Nat)(v:Int),i<l.length->(l.set i v).sum=l.sum-l.getD i 0+v
 | [],i,v,h=>by simp at h
 | a::l,0,v,_=>by simp;lia
 | a::l,i+1,v,h=>by
   have b:=zX l i v (by simpa using h);have e:(a::l).getD (i+1) 0=l.getD i 0:=by simp[List.getD]
   rw[List.set_cons_succ,aN,aN,b,e]
   lia
def AtX(c:Bool)(H:Hp)(a:Addr)(b:List V):Prop:=H a=some (if c then .lst b else .tup b)
def AtX.sq(h:AtX a c d b):ϐ e a c d b:=by
 cases a
 .exact Δ.of h
 .exact ν.of h
def DG(a:eX)(b:Int):Nat->Int->Bool
 | 0,v=>decide (v=b)
 | n+1,v=>decide (v=b)||DG a b n (a v)
def VC(c:eX)(a:fb)(b v:Int):Bool:=DG c b (a v) v
def NT(R:ε e g f a c)(h:0<=b)(i:b<e)(j:b≠f):VC a c d b=(decide (b=d)||VC a c d (a b)):=by
 unfold VC;rw[R.pos h i j]
 rfl
def Km(m:Int)(c:eX)(a:fb)(b:Int):List Int:=(cj m.toNat).filter (VC c a b)
def K7:(Km c a b d).Nodup:=(iZ _).filter _
def O7 :b∈Km e c a d↔(0<=b/\b<e)/\VC c a d b=true:=by
 unfold Km;rw[bG,fe]
 constructor
 .rintro⟨h1,h2⟩;exact⟨⟨h1.1,by lia⟩,h2⟩
 .rintro⟨h1,h2⟩;exact⟨⟨h1.1,by lia⟩,h2⟩
end Pb
namespace L2
def b6(h:∀N:St->Hp->Prop,(∀f g,c a f g->N f g)->e { a with nx:=N } b d):OI e c a b d:=h (c a) λ_ _ z=>z
def Te(h:∀k j:St->Hp->Prop,(∀g i,d a g i->k g i)->(∀g i,c a g i->j g i)->KC f (λ_=>k) (λ_=>j) a b e):KC f d c a b e:=h (d a) (c a) (λ_ _ z=>z) λ_ _ z=>z
end L2
namespace L2
open PySem
def hZ(h:Nat->St->Hp->Prop)(n:h 0 a b)(q:∀i a b,i<=xs.length->h i a b->ν K b f xs)(o:∀(i:Nat) (x:V) (a:St) (b:Hp) (N B:St->Hp->Prop),(∀a b,(e x a b λg k=>d { c with nx:=N,ct:=N,bk:=c.nx } g k)->B a b)->(∀j l,h (i+1) j l->N j l)->xs[i]?=some x->h i a b->B a b)(r:∀(B:St->Hp->Prop) a b,(∀a b,c.nx a b->B a b)->h xs.length a b->B a b):xq (XM K f) c e d a b:=uJ h n q (λi x a b N m s p=>o i x a b N (λa b=>e x a b λg k=>d { c with nx:=N,ct:=N,bk:=c.nx } g k) (λ_ _ z=>z) m s p) λa b p=>r (λa b=>c.nx a b) a b (λ_ _ z=>z) p
def sI(j:Nat->St->Hp->Prop)(o:j 0 a b)(q:∀(i:Nat) (a:St) (b:Hp) (N B:St->Hp->Prop),(∀a b,(e (.int (lo+i)) a b λg k=>d { c with nx:=N,ct:=N,bk:=c.nx } g k)->B a b)->(∀h l,j (i+1) h l->N h l)->i<f->j i a b->B a b)(m:∀(B:St->Hp->Prop) a b,(∀a b,c.nx a b->B a b)->j f a b->B a b):xq (WV lo f) c e d a b:=CU j o (λi a b N n r p=>q i a b N (λa b=>e (.int (lo+i)) a b λg k=>d { c with nx:=N,ct:=N,bk:=c.nx } g k) (λ_ _ z=>z) n r p) λa b p=>m (λa b=>c.nx a b) a b (λ_ _ z=>z) p
def D0(W:Nat->St->Hp->Prop)(l:Nat)(o:W l a c)(p:∀(n:Nat) (a:St) (c:Hp) (N:St->Hp->Prop) (B:Nat->St->Hp->Prop),(∀n a c,(f a c λb j=>if b=true then ∃N:St->Hp->Prop,(∀g h,N g h->∃i,i<n/\W i g h)/\e { d with nx:=N,ct:=N,bk:=d.nx } a j else d.nx a j)->B n a c)->(∀k g h,k<n->W k g h->N g h)->(∀g h,N g h->∃i,i<n/\W i g h)->W n a c->B n a c):Gz f e d a c:=Jo W l o λn a c N m q w=>p n a c N (λn a c=>f a c λb j=>if b=true then ∃N:St->Hp->Prop,(∀g h,N g h->∃i,i<n/\W i g h)/\e { d with nx:=N,ct:=N,bk:=d.nx } a j else d.nx a j) (λ_ _ _ z=>z) m q w
def Wa(h:a)(g:b)(f:c)(e:d):a/\b/\c/\d:=⟨h,g,f,e⟩
def an6(l:b)(j:c)(i:d)(g:e)(h:a)(k:f):b/\c/\d/\e/\a/\f:=⟨l,j,i,g,h,k⟩
def an7(n:b)(l:d)(k:e)(i:f)(j:a)(m:g)(h:c):b/\d/\e/\f/\a/\g/\c:=⟨n,l,k,i,j,m,h⟩
end L2
namespace Pb
open L2 PySem
theorem Jg:∀(n:Nat)(v:Int),DG a b n v=decide (b∈nR a n v)
 | 0,v=>by
   show decide (v=b)=decide (b∈[v]);exact decide_eq_decide.mpr ⟨λz=>by rw[z];exact aL,λz=>(aG.mp z).symm⟩
 | n+1,v=>by
   show(decide (v=b)||DG a b n (a v))=decide (b∈v::nR a n (a v));rw[Jg n (a v)];by_cases c:v=b
   .rw[bD c,Bool.true_or,bD (by rw[c];exact aL)]
   .rw[b4 c,nY];exact decide_eq_decide.mpr ⟨λz=>aw _ z,λz=>by
     rcases aA.mp z with z|z
     .exact absurd z.symm c
     .exact z⟩
theorem PQ:∀(k:Nat)(x:Int),up a (k+1) x=up a k (a x)
 | 0,_=>rfl
 | k+1,x=>by show a (up a (k+1) x)=a (up a k (a x));rw[PQ k x]
theorem A0:∀(n k:Nat)(x:Int),k<=n->up a k x∈nR a n x
 | 0,0,x,_=>aL
 | n+1,0,x,_=>aL
 | n+1,k+1,x,h=>by
   rw[PQ];exact aw _ (A0 n k (a x) (by lia))
theorem JH :∀{l:ej}{k:Nat}{p:Int},(l.flatMap a)[k]?=some p->∃u∈l,∃b rest,(a u)[b]?=some p/\(l.flatMap a).drop k=(a u).drop b++rest
 | [],k,p,h=>by simp at h
 | u::l,k,p,h=>by
   rw[dj]at h ⊢;by_cases c:k<(a u).length
   .rw[dH c]at h;exact⟨u,aL,k,l.flatMap a,h,List.drop_append_of_le_length (iH c)⟩
   .rw[db (by lia)]at h;obtain⟨w,d,b,rest,f,e⟩:=JH h;refine⟨w,aw _ d,b,rest,f,?_⟩;rw[<-e,List.drop_append,List.drop_eq_nil_of_le (by lia),mj]
def Ny(g:Good d c)(R:ε d c f b a):∀(n:Nat)(v:Int),d.toNat-1-a v=n->0<=v->v<d->∀(k:Nat)(p:Int),(eE d c f b a v)[k]?=some p->∃rest,(eE d c f b a v).drop k=eE d c f b a p++rest:=by
 intro n
 induction n with
 | zero=>
   intro v o m j k p h;have e:eE d c f b a v=[v]:=by unfold eE;rw[o];rfl
   cases k with
   | zero=>
     have:p=v:=(by rw[e]at h;exact(bN h).symm);rw[this];exact⟨[],by rw[bX];rfl⟩
   | succ k=>rw[e]at h;simp at h
 | succ n ih=>
   intro v o m j k p h;have e:=jP g R m j;cases k with
   | zero=>
     have:p=v:=(by rw[e]at h;exact(bN h).symm);rw[this];exact⟨[],by rw[bX];rfl⟩
   | succ k=>
     rw[e,i7]at h;obtain⟨u,y,x,rest,s,t⟩:=JH h;obtain⟨i,q,up⟩:=(cR g R m j).mp y;have w:=R.pos i.1 i.2 q;rw[up]at w;have z:=ja R i.1 i.2;obtain⟨l,r⟩:=ih u (by lia) i.1 i.2 x p s;exact⟨l++rest,by rw[e,List.drop_succ_cons,t,r,bO]⟩
def xX(g:Good c a)(R:ε c a f e d)(h:0<=b)(i:b<c):b∈eE c a f e d b:=by
 rw[jP g R h i];exact aL
def Ae(g:Good d f)(R:ε d f j b c)(m:0<=a)(o:a<d)(x:Int):x∈eE d f j b c a↔(0<=x/\x<d)/\VC b c a x=true:=by
 constructor
 .intro h;obtain⟨l,k,t,p⟩:=(tm g R _ a m o).2 x h;refine⟨l,?_⟩;unfold VC;rw[Jg];refine bD ?_;rw[<-p];exact A0 _ _ _ (by lia)
 .rintro⟨l,h⟩;generalize q:c x=n
  induction n generalizing x with
  | zero=>
    by_cases z:x=j
    .subst z;have:a=x:=by
      unfold VC at h;rw[R.root]at h;exact(bu h).symm
     rw[this];exact xX g R l.1 l.2
    .have:=R.pos l.1 l.2 z
     lia
  | succ n ih=>
    have z:x≠j:=λz=>by rw[z,R.root]at q;lia
    have u:=R.up x l.1 l.2 z;rw[NT R l.1 l.2 z]at h;by_cases y:x=a
    .rw[y];exact xX g R m o
    .rw[b4 y,nY]at h;have r:=ih (b x) u.1 h (by lia);obtain⟨k,s⟩:=cF r;obtain⟨rest,e⟩:=Ny g R _ a rfl m o k _ s;refine gu (i:=k) ?_;rw[e,jP g R u.1.1 u.1.2];refine bS _ (aw _ (d9.mpr ⟨x,(cR g R u.1.1 u.1.2).mpr ⟨l,z,rfl⟩,xX g R l.1 l.2⟩))
def Gk(g:Good d e)(R:ε d e f b a)(h:0<=c)(i:c<d):(eE d e f b a c).Perm (Km d b a c):=jZ (tm g R _ c h i).1 K7 λx=>by rw[Ae g R h i,O7]
end Pb
namespace Pb
open PySem L2
def Xv(b:hR)(a:eX)(v x:Int):Int:=x*(cD b (a v) v).getD 1
end Pb
set_option exponentiation.threshold 5000
namespace Pb
open L2 PySem
def YJ(e:hP)(m:Int)(f:hR)(r:Int)(b:eX)(a:eX)(d:hP):Nat->Int->Int
 | 0,v=>a v
 | n+1,v=>((bU m f (front r b v) v).map λc=>d c (YJ e m f r b a d n c)).foldl e (a v)
def fo(e:hP)(m:Int)(f:hR)(r:Int)(b:eX)(c:fb)(a:eX)(d:hP)(v:Int):Int:=YJ e m f r b a d (m.toNat-1-c v) v
def zI(g:Good h i)(R:ε h i l b a)(r:0<=j)(q:j<h):fo k h i l b a d f j=((bU h i (front l b j) j).map λc=>f c (fo k h i l b a d f c)).foldl k (d j):=by
 have p:∀u∈bU h i (front l b j) j,a u=a j+1/\a u+1<=h.toNat:=λu m=>by
  obtain⟨o,t,s⟩:=(cR g R r q).mp m;have:=R.pos o.1 o.2 t;rw[s]at this;exact⟨this,ja R o.1 o.2⟩
 unfold fo;cases e:h.toNat-1-a j with
 | zero=>
   have:bU h i (front l b j) j=[]:=hJ.mpr λu m=>by
    have:=p u m
    lia
   rw[this]
   rfl
 | succ n=>
   show List.foldl k (d j) _=_;rw[b5 λu m=>show f u (YJ k h i l b d f n u)=f u (YJ k h i l b d f (h.toNat-1-a u) u) by rw[show h.toNat-1-a u=n by have:=p u m;lia]]
def Bz(d:hP):Prop:=∀a b c,d (d a b) c=d (d a c) b
def Me(Ur:Bz b){l:ej}(h:l.Perm c):∀a,l.foldl b a=c.foldl b a:=by
 induction h with
 | nil=>exact λ_=>rfl
 | cons x _ ih=>exact λa=>ih _
 | swap x y l=>intro a;show List.foldl b (b (b a y) x) l=List.foldl b (b (b a x) y) l;rw[Ur]
 | trans _ _ h1 h2=>exact λa=>(h1 a).trans (h2 a)
theorem JW(Ur:Bz b):∀(l:ej)(a x:Int),l.foldl b (b a x)=b (l.foldl b a) x
 | [],a,x=>rfl
 | y::l,a,x=>by show l.foldl b (b (b a x) y)=b (l.foldl b (b a y)) x;rw[Ur,JW Ur l]
def zH(d:hP)(a:eX)(b:hP)(c:ej)(v:Int):List Int:=c.set (a v).toNat (d (c.getD (a v).toNat 0) (b v (c.getD v.toNat 0)))
section
variable{m:Int}{g:hR}{r:Int}{b:eX}{e:fb}{f:hP}{a:eX}{d:hP}
structure As(f:hP)(m:Int)(g:hR)(r:Int)(b:eX)(e:fb)(a:eX)(d:hP)(t cs:ej):Prop where
 len:(cs.length:Int)=m
 val:∀v,0<=v->v<m->cs.getD v.toNat 0=((t.filter λc=>decide (b c=v)).map λc=>d c (fo f m g r b e a d c)).foldl f (a v)
end
def As.nil(h:(b.length:Int)=c)(e:∀v,0<=v->v<c->b.getD v.toNat 0=a v):As j c i k f g a d [] b:=⟨h,λv m l=>e v m l⟩
def As.full(Ur:Bz h)(g:Good b c)(R:ε b c f a d)(s:As h b c f a d e i j l)(o:j.Nodup)(q:∀x∈j,(0<=x/\x<b)/\x≠f){v:Int}(n:0<=v)(m:v<b)(p:∀k,0<=k->k<b->k≠f->a k=v->k∈j):l.getD v.toNat 0=fo h b c f a d e i v:=by
 rw[s.val v n m,zI g R n m,Me Ur ((rN g R o q n m p).map _)]
def As.step(Ur:Bz j)(g:Good k h)(R:ε k h m a f)(s:As j k h m a f i d n l)(q:0<=b)(p:b<k)(r:b≠m)(e:l.getD b.toNat 0=fo j k h m a f i d b):As j k h m a f i d (b::n) (zH j a d l b) where
 len:=by unfold zH;rw[bz];exact s.len
 val:=λu u0 u1=>by
  have t:=(R.up b q p r).1;have sl:=s.len;have o:=s.val u u0 u1;unfold zH;rw[e];by_cases c:a b=u
  .have hl:u.toNat<l.length:=(by lia);rw[bZ (by simpa using c),aF,gZ,JW Ur,<-o,c];simp[List.getD,hl]
  .rw[b8 (by simpa using c),<-o];have:(a b).toNat≠u.toNat:=(by lia);simp[List.getD,cG this]
def Order.cut(R:ε e h f d g)(O:Order e f d a)(i:a.reverse[c]?=some b):((0<=b/\b<e)/\b≠f)/\a.drop (a.length-(c+1))=b::a.drop (a.length-c)/\(a.drop (a.length-c)).Nodup/\(∀x∈a.drop (a.length-c),(0<=x/\x<e)/\x≠f)/\∀k,0<=k->k<e->k≠f->d k=b->k∈a.drop (a.length-c):=by
 have C:c<a.length:=by
  have:=(aD.mp i).1
  rwa [bi]at this
 rw[cL C]at i;generalize E:a.length-1-c=j at i;have A:a.length-c=j+1:=by lia
 have l:a.length-(c+1)=j:=by lia
 rw[A,l];have u:j<a.length:=by lia
 have B:b∈a:=aQ i;have v:=O.places b B;have r:a.drop j=b::a.drop (j+1):=by
  rw[eM u];rw[aB u]at i;cases i
  rfl
 have n:a=a.take j++b::a.drop (j+1):=by rw[<-r,dP]
 have p:=(aZ.mp O.nd).2;have t:=p;rw[n]at t;have D:b∉a.take j:=λz=>(cw.mp t).2.2 b z b aL rfl;refine⟨v,r,p.sublist (List.drop_sublist _ _),λx y=>O.places x (gu y),λk o s q m=>?_⟩;rcases O.all k o s with z|z
 .exact absurd z q
 .rw[n]at z;rcases aX.mp z with z|z
  .have af:=O.af;rw[n]at af;rcases af.up k z with w|w
   .rw[m]at w;exact absurd (aG.mp w) v.2
   .rw[m]at w;exact absurd w D
  .rcases aA.mp z with z|z
   .subst z;exact absurd m (R.ne o s q)
   .exact z
def Order.aao(Ur:Bz h)(g:Good i d)(R:ε i d k a c)(O:Order i k a l)(s:As h i d k a c f b (l.drop (l.length-n)) m)(t:l.reverse[n]?=some j):((0<=j/\j<i)/\j≠k)/\m.getD j.toNat 0=fo h i d k a c f b j/\As h i d k a c f b (l.drop (l.length-(n+1))) (zH h a b m j):=by
 obtain⟨o,r,p,u,q⟩:=O.cut R t;have e:=s.full Ur g R p u o.1.1 o.1.2 q;exact⟨o,e,by rw[r];exact s.step Ur g R o.1.1 o.1.2 o.2 e⟩
def YK(e:hP)(m:Int)(f:hR)(r:Int)(b:eX)(c:fb)(a:eX)(d:hP):List Int:=(cj m.toNat).map (fo e m f r b c a d)
def sV(j:0<=d)(k:d<g):(YK h g f i c e a b).getD d.toNat 0=fo h g f i c e a b d:=by
 unfold YK;rw[List.getD,aP,gS (by lia),bJ j]
 rfl
def zJ:(YK g c f h e d a b).length=c.toNat:=by unfold YK;rw[aa,cu]
def Order.doneF(Ur:Bz l)(g:Good c b)(R:ε c b n a d)(O:Order c n a o)(s:As l c b n a d f m o j):j=YK l c b n a d f m:=by
 have u:=s.len;refine fK λi=>?_;by_cases h:i<c.toNat
 .have hc:i<j.length:=by lia
  have e:=s.full Ur g R (aZ.mp O.nd).2 O.places (v:=(i:Int)) (by lia) (by lia) λk q p r t=>(O.all k q p).resolve_left r;unfold YK;rw[aP,gS h];rw[bM,List.getD,aB hc]at e;rw[aB hc];exact congrArg some e
 .rw[bP (by lia),bP (by rw[zJ];lia)]
def mx(i j:Int):Int:=if j>i then j else i
def Jk:Bz mx:=λa b c=>by
 have h:∀x y,mx x y=max x y:=λx y=>by unfold mx;lia
 rw[h,h,h,h]
 lia
def bor(b:hR)(a:eX)(v x:Int):Int:=x*(cD b v (a v)).getD 1
abbrev ϣ(m:Int)(c:hR)(r:Int)(a:eX)(b:fb):Int->Int:=fo mx m c r a b (λ_=>1) (bor c a)
abbrev mI(m:Int)(c:hR)(r:Int)(a:eX)(b:fb):List Int:=YK mx m c r a b (λ_=>1) (bor c a)
theorem Dz :∀(l:ej)(a:Int),a<=B->(∀x∈l,x<=B)->a<=l.foldl mx a/\l.foldl mx a<=B/\∀x∈l,x<=l.foldl mx a
 | [],a,h,_=>⟨bF _,h,λx b=>by cases b⟩
 | y::l,a,h,hl=>by
   have i:=hl y aL;have c:a<=mx a y/\y<=mx a y/\mx a y<=B:=by unfold mx;split<;>lia
   obtain⟨d,g,f⟩:=Dz l (mx a y) c.2.2 λx b=>hl x (aw _ b);refine⟨dN c.1 d,g,λx b=>?_⟩;rcases aA.mp b with e|e
   .rw[e];exact dN c.2.1 d
   .exact f x e
theorem C7(g:Good d b)(R:ε d b e a f):∀(n:Nat)(v:Int),0<=v->v<d->1<=YJ mx d b e a (λ_=>1) (bor b a) n v/\YJ mx d b e a (λ_=>1) (bor b a) n v<=1000000^n
 | 0,v,_,_=>⟨bF _,bF _⟩
 | n+1,v,h0,h1=>by
   have y:(1:Int)<=1000000^n:=jh (by decide);have s:(1000000:Int)^(n+1)=1000000^n*1000000:=Int.pow_succ ..;show 1<=List.foldl mx 1 _/\List.foldl mx 1 _<=_;obtain⟨p,i,_⟩:=Dz (B:=1000000^(n+1)) ((bU d b (front e a v) v).map λc=>bor b a c (YJ mx d b e a (λ_=>1) (bor b a) n c)) 1 (by lia) λx l=>by
    obtain⟨c,m,rfl⟩:=aE.mp l;obtain⟨h,r,w⟩:=(cR g R h0 h1).mp m;obtain⟨k,o,t,q⟩:=jg g R h.1 h.2 r;obtain⟨u,j⟩:=C7 g R n c h.1 h.2;unfold bor;rw[o,s];show _*k<=_;exact gG j q (by lia) (by lia)
   exact⟨p,i⟩
def r6(g:Good e f)(R:ε e f j i c)(m:0<=d)(l:d<e):1<=ϣ e f j i c d/\ϣ e f j i c d<=2^480:=by
 obtain⟨a,b⟩:=C7 g R (e.toNat-1-c d) d m l;refine⟨a,dN b ?_⟩;have Β:=g.Β;have:(1000000:Int)^(e.toNat-1-c d)<=1000000^24:=by
  have k:e.toNat-1-c d<=24:=by lia
  have h:=Int.ofNat_le.mpr (fE (show 0<1000000 by decide) k);rw[Int.natCast_pow,Int.natCast_pow]at h;exact h
 exact dN this (by decide +kernel)
def Eo(g:Good d b)(R:ε d b e a c):∀x∈mI d b e a c,x.natAbs<2^4000:=λx l=>by
 obtain⟨v,i,rfl⟩:=aE.mp l;obtain⟨f,n⟩:=fe.mp i;obtain⟨m,k⟩:=r6 g R f (show v<d by lia);have h:((fo mx d b e a c (λ_=>1) (bor b a) v).natAbs:Int)<=2^480:=by rw[Int.natAbs_of_nonneg (dN (by decide) m)];exact k
 have j:(fo mx d b e a c (λ_=>1) (bor b a) v).natAbs<=2^480:=by exact_mod_cast h
 exact fX j (Nat.pow_lt_pow_right (by decide) (by decide))
def KZ(c:-(10^60)<=a)(d:a<=10^60):(a-1).natAbs<2^4000:=by
 have b:(a-1).natAbs<=10^60+1:=by lia
 exact fX b (be (show 10^60+1<2^200 by decide +kernel) (fE (by decide) (by decide)))
def YL(c:hR)(a:eX)(b:ej)(v:Int):Int:=b.getD v.toNat 0*((cD c v (a v)).getD 1-1)
def XY(m:Int)(c:hR)(r:Int)(a:eX)(b:ej)(w:Int):Int:=b.getD r.toNat 0*(w-1)+(((cj m.toNat).filter λv=>decide (v≠r)).map (YL c a b)).sum
def Order.sums(O:Order b d a c)(f:eX):(c.map f).sum=(((cj b.toNat).filter λv=>decide (v≠d)).map f).sum:=by
 refine rh ((jZ (aZ.mp O.nd).2 ((iZ _).filter _) λx=>?_).map f);rw[bG,fe,bw];refine⟨λh=>⟨⟨(O.Μ x h).1,?_⟩,O.ne h⟩,λh=>(O.all x h.1.1 ?_).resolve_left h.2⟩
 .have:=(O.Μ x h).2
  lia
 .have:=h.1.2
  lia
def Order.T7(O:Order a b c d)(e:0<=b)(f:b<a):d.length+1=a.toNat:=by
 have h:=(jZ O.nd (iZ a.toNat) λx=>by
  rw[aA,fe];refine⟨λh=>?_,λh=>O.all x h.1 (by have:=h.2;lia)⟩;rcases h with h|h
  .rw[h];exact⟨e,by lia⟩
  .have:=O.Μ x h;exact⟨this.1,by lia⟩).length_eq
 rw[cu,aR]at h;exact h
def OV{f:eX}{l:ej}{i:Nat}{v:Int}(h:l[i]?=some v):((l.take (i+1)).map f).sum=((l.take i).map f).sum+f v:=by
 rw[bj,h,Option.toList_some,au,cU];simp
def QI{cs:ej}{i:Nat}(h:i<cs.length):cs.getD i 0∈cs:=by
 rw[List.getD,aB h];exact dL h
end Pb
namespace L2
open PySem PySem.Spec PyProof.Rows
def SK{l:hD}(h:l.Nodup)(i j:Nat)(k:l[i]?=some b)(g:l[j]?=some a)(m:i≠j):b≠a:=λz=>by
 subst z;obtain⟨f,d⟩:=aD.mp k;obtain⟨e,c⟩:=aD.mp g;rcases Nat.lt_or_gt_of_ne m with q|q
 .exact fm.mp h i j f e q (d.trans c.symm)
 .exact fm.mp h j i e f q (c.trans d.symm)
def wz:bootBuiltins "str"=some (.type "str"):=by decide +kernel
def QV{X:Cx}{i:Pos}(m:X.N.Nodup)(x:X.N[f]?=some a)(w:Loc X.env.scope a)(p:Zj e X c d)(q:swapsWith c (some (.Name a b)) i.line X.env=pure false:=by rfl)(r:X.fn a=true\/X.env.scope.names.lookup a=some .local:=by first|exact .inl rfl|exact .inr rfl|assumption):PSx e X (.Assign [.Name a b] c i) (λk D g H=>d (k g) g H λy l=>D.nx (g.set f (some y)) l):=by
 intro k j s g H D I h;refine wpAny_Assign_Name (cP (p (k g) j s g H _ I h) (λv C ⟨y,l,t,n,u⟩=>?_) λc A z=>⟨g,z⟩) q;exact xP t m x w n (λB o=>⟨_,l,o,u⟩) r
theorem AK(f:Nat->Int):∀n,argBest (λi j=>decide (f i<f j)) n<=n/\∀i,i<=n->f (argBest (λi j=>decide (f i<f j)) n)<=f i
 | 0=>⟨aU _,λi h=>by rw[show i=0 by lia];exact bF _⟩
 | n+1=>by
   obtain⟨b,a⟩:=AK f n;show(if decide (f (n+1)<f (argBest (λi j=>decide (f i<f j)) n))=true then n+1 else argBest (λi j=>decide (f i<f j)) n)<=n+1/\∀i,i<=n+1->f (if decide (f (n+1)<f (argBest (λi j=>decide (f i<f j)) n))=true then n+1 else argBest (λi j=>decide (f i<f j)) n)<=f i;by_cases c:f (n+1)<f (argBest (λi j=>decide (f i<f j)) n)
   .rw[aj (bD c)];refine⟨aU _,λi h=>?_⟩;by_cases z:i=n+1
    .rw[z];exact bF _
    .have:=a i (by lia)
     lia
   .rw[ah (by simpa using c)];refine⟨by lia,λi h=>?_⟩;by_cases z:i=n+1
    .rw[z];lia
    .exact a i (by lia)
end L2
namespace Pb
open L2 PySem
def tup(b:hR)(a:eX)(v:Int):Int:=(cD b v (a v)).getD 1
section
variable{m:Int}{d:hR}{r:Int}{a:eX}{c:fb}
structure Bea(m:Int)(d:hR)(r:Int)(a:eX)(c:fb)(ch:Int->Option Int):Prop where
 no:∀v,0<=v->v<m->ch v=none->bU m d (front r a v) v=[]
 hv:∀v b,0<=v->v<m->ch v=some b->b∈bU m d (front r a v) v/\ϣ m d r a c b*tup d a b=ϣ m d r a c v
end
def ue(g:Good d a)(R:ε d a f b e)(n:0<=c)(l:c<d)(i:c≠f):2<=tup a b c/\tup a b c<=1000000:=by
 obtain⟨k,m,h,j⟩:=jg g R n l i;unfold tup;rw[m];exact⟨h,j⟩
theorem EL:∀(l:ej)(a:Int),l.foldl mx a=a\/l.foldl mx a∈l
 | [],a=>.inl rfl
 | y::l,a=>by
   show l.foldl mx (mx a y)=a\/l.foldl mx (mx a y)∈y::l;rcases EL l (mx a y)with h|h
   .rw[h];unfold mx;by_cases c:y>a
    .rw[aj c];exact .inr aL
    .rw[ah c];exact .inl rfl
   .exact .inr (aw _ h)
def EM(g:Good i b)(R:ε i b k a f)(r:0<=j)(t:j<i)(A:bU i b (front k a j) j≠[]):∃c∈bU i b (front k a j) j,ϣ i b k a f c*tup b a c=ϣ i b k a f j:=by
 have e:ϣ i b k a f j=((bU i b (front k a j) j).map λc=>bor b a c (ϣ i b k a f c)).foldl mx 1:=zI g R r t;have m:=EL ((bU i b (front k a j) j).map λc=>bor b a c (ϣ i b k a f c)) 1;rw[<-e]at m;rcases m with h|h
 .exfalso
  obtain⟨c,l,C⟩:=kU A;have p:c∈bU i b (front k a j) j:=by rw[C];exact aL
  obtain⟨n,u,E⟩:=(cR g R r t).mp p;have q:=ue g R n.1 n.2 u;have s:=r6 g R n.1 n.2;have v:∀x∈(bU i b (front k a j) j).map λc=>bor b a c (ϣ i b k a f c),x<=2^480*1000000:=λx z=>by
   obtain⟨d,y,rfl⟩:=aE.mp z;obtain⟨o,D,F⟩:=(cR g R r t).mp y;have q:=ue g R o.1 o.2 D;have s:=r6 g R o.1 o.2;show _*tup b a d<=_;exact gG s.2 q.2 (by lia) (by decide +kernel)
  obtain⟨_,_,w⟩:=Dz (B:=2^480*1000000) ((bU i b (front k a j) j).map λc=>bor b a c (ϣ i b k a f c)) 1 (by decide +kernel) v;have:ϣ i b k a f c*tup b a c<=_:=w _ (aE.mpr ⟨c,p,rfl⟩);rw[<-e,h]at this;have G:(1:Int)*2<=ϣ i b k a f c*tup b a c:=gG s.1 q.1 (by decide) (by lia)
  lia
 .obtain⟨c,p,ec⟩:=aE.mp h;exact⟨c,p,ec⟩
def Xw(o:Option Int):V:=match o with|none=>.ο|some b=>.int b
def VP(m:Int)(ch:Int->Option Int):List V:=(cj m.toNat).map λv=>Xw (ch v)
def JZ(d:0<=a)(e:a<c):aT (VP c b) a=some (Xw (b a)):=by
 refine iQ d ?_;unfold VP;rw[aP,gS (by lia),bJ d]
 rfl
def Rb(g:0<=a)(f:a<e):(VP e b).set a.toNat (.int d)=VP e λx=>if x=a then some d else b x:=by
 refine fK λi=>?_;unfold VP;by_cases c:i<e.toNat
 .rw[aP,gS c];by_cases z:a.toNat=i
  .rw[<-z,dg (by rw[aa,cu];lia)];show _=some (Xw (if((a.toNat:Nat):Int)=a then some d else _));rw[aj (by lia)]
   rfl
  .rw[cG z,aP,gS c];show some (Xw (b _))=some (Xw (if((i:Nat):Int)=a then some d else _));rw[ah (by lia)]
 .rw[bP (by rw[bz,aa,cu];lia),bP (by rw[aa,cu];lia)]
def T8(m:Int)(d:hR)(r:Int)(a:eX)(c:fb)(t:ej)(v:Int):Option Int:=(t.filter λb=>decide (a b=v/\ϣ m d r a c b*tup d a b=ϣ m d r a c v)).getLast?
def MA(h:ϣ f d g a b e*tup d a e=ϣ f d g a b (a e)):T8 f d g a b (i++[e])=λx=>if x=a e then some e else T8 f d g a b i x:=by
 funext x
 unfold T8;rw[b7];by_cases c:x=a e
 .subst c;rw[aj rfl,bZ (by simpa using h),fH,List.getLast?_append]
  rfl
 .rw[ah c,b8 (by simp;intro z;exact absurd z.symm c),fH,bX]
def Lu(h:¬ϣ e c f a b d*tup c a d=ϣ e c f a b (a d)):T8 e c f a b (g++[d])=T8 e c f a b g:=by
 funext x
 unfold T8;rw[b7,b8 (by simp;intro z;rw[<-z];exact h),fH,bX]
def Rz(g:Good h d)(R:ε h d i a f)(O:Order h i a j):Bea h d i a f (T8 h d i a f j) where
 no:=λv k m e=>by
  apply Classical.byContradiction;intro z;obtain⟨c,w,q⟩:=EM g R k m z;obtain⟨n,p,t⟩:=(cR g R k m).mp w;have l:c∈j.filter λb=>decide (a b=v/\ϣ h d i a f b*tup d a b=ϣ h d i a f v):=bG.mpr ⟨(O.all c n.1 n.2).resolve_left p,bD ⟨t,q⟩⟩;unfold T8 at e;rw[List.getLast?_eq_none_iff]at e;rw[e]at l;cases l
 hv:=λv b k m e=>by
  have l:=List.mem_of_getLast? e;obtain⟨o,s⟩:=bG.mp l;obtain⟨u,r⟩:=bu s;exact⟨(cR g R k m).mpr ⟨O.Μ b o,O.ne o,u⟩,r⟩
section
variable{m:Int}{b:hR}{r:Int}{a:eX}
structure iS(m:Int)(b:hR)(r:Int)(a:eX)(ch:Int->Option Int)(w:Int)(cn:eX):Prop where
 rt:cn r=w-1
 up:∀v,0<=v->v<m->v≠r->cn v=((if ch (a v)=some v then cn (a v)else 0)+1)*tup b a v-1
end
section
variable{m:Int}{b:hR}{r:Int}{a:eX}
structure YM(m:Int)(b:hR)(r:Int)(a:eX)(ch:Int->Option Int)(w:Int)(t cs:ej):Prop where
 len:(cs.length:Int)=m
 rt:cs.getD r.toNat 0=w-1
 up:∀v∈t,cs.getD v.toNat 0=((if ch (a v)=some v then cs.getD (a v).toNat 0 else 0)+1)*tup b a v-1
end
def YM.step(R:ε g e f b j)(O:Order g f b a)(E:0<=f)(S:YM g e f b ch wϗ (a.take i) d)(v:a[i]?=some c)(D:h=((if ch (b c)=some c then d.getD (b c).toNat 0 else 0)+1)*tup e b c-1):YM g e f b ch wϗ (a.take (i+1)) (d.set c.toNat h):=by
 have B:=S.len;have A:=aQ v;have I:=O.Μ c A;have t:=O.ne A;have H:=(aD.mp v).1;have C:=(aZ.mp O.nd).2;have y:a=a.take (i+1)++a.drop (i+1):=(dP _ _).symm;have r:a.take (i+1)=a.take i++[c]:=by rw[bj,v];rfl
 have w:c∉a.take i:=λz=>by
  have nd:=C;rw[y,r]at nd;exact(cw.mp (cw.mp nd).1).2.2 c z c (aG.mpr rfl) rfl
 have l:∀u,0<=u->u≠c->(d.set c.toNat h).getD u.toNat 0=d.getD u.toNat 0:=λu G F=>by rw[g9 _ _ _ _ (by lia),ah (by lia)]
 have k:∀u∈a.take (i+1),b u≠c:=λu m z=>by
  have af:=O.af;rw[y]at af;rcases af.up u m with x|x
  .exact t (z▸aG.mp x)
  .rw[z,r]at x;have o:=(kQ (i+1) a).subset m;have n:=O.Μ u o;have ne:=R.ne n.1 n.2 (O.ne o);rcases aX.mp (r▸m)with q|q
   .-- u stands k of c,so its place k is not c
    have s:a=a.take i++a.drop i:=(dP _ _).symm;have p:=O.af;rw[s]at p;rcases p.up u q with wϗ|wϗ
    .exact t (z▸aG.mp wϗ)
    .exact w (z▸wϗ)
   .rw[aG.mp q]at z ne;exact ne z
 refine⟨by rw[bz];exact B,by rw[l f E (Ne.symm t)];exact S.rt,λu m=>?_⟩;have o:=(kQ (i+1) a).subset m;have n:=O.Μ u o;have up:=R.up u n.1 n.2 (O.ne o);rw[l (b u) up.1.1 (k u m)];rcases aX.mp (r▸m)with q|q
 .rw[l u n.1 (λz=>w (z▸q))];exact S.up u q
 .rw[aG.mp q,g9 _ _ _ _ (by lia),aj rfl];exact D
def YM.done(O:Order c g a e)(S:YM c b g a d h e f):iS c b g a d h (λv=>f.getD v.toNat 0):=⟨S.rt,λv k j i=>S.up v ((O.all v k j).resolve_left i)⟩
def lies(ch:Int->Option Int)(a:eX)(v:Int):Int:=if ch v=none then a v else 0
def QM{x k:Int}(a:2<=k):((x+1)*k-1)/k=x:=by
 rw[show(x+1)*k-1=(k-1)+x*k by rw[ir];lia,ii _ _ (by lia),gg (by lia) (by lia),ce]
def EO(g:Good m i)(R:ε m i o k n)(B:Bea m i o k n j)(q:0<=d)(p:d<m)(f:eX)(c:Int):((bU m i (front o k d) d).map λu=>if j d=some u then f u else 0).sum=match j d with|some b=>f b|none=>0:=by
 cases e:j d with
 | none=>
   rw[B.no d q p e]
   rfl
 | some b=>
   obtain⟨s,_⟩:=B.hv d b q p e;rw[Eb (h:=λ_=>0) (c0:=b) nz s λu _ r=>ah (by intro z;cases z;exact r rfl)];rw[aj rfl];have:∀l:List Int,(l.map λ_=>(0:Int)).sum=0:=λl=>by
    induction l with
    | nil=>rfl
    | cons a l ih=>rw[aF,aN,ih];rfl
   rw[this];show _=f b
   lia
theorem iS.nn(g:Good c d)(R:ε c d b a h)(N:iS c d b a i j f)(m:1<=j)(o:0<=b)(l:b<c):∀(n:Nat)(v:Int),h v=n->0<=v->v<c->0<=f v
 | 0,v,e,h0,h1=>by
   have:v=b:=by
    apply Classical.byContradiction;intro z;have:=R.pos h0 h1 z
    lia
   rw[this,N.rt]
   lia
 | n+1,v,e,h0,h1=>by
   by_cases z:v=b
   .rw[z,N.rt];lia
   .have u:=R.up v h0 h1 z;have p:=R.pos h0 h1 z;have q:=iS.nn g R N m o l n (a v) (by lia) u.1.1 u.1.2;have k:=ue g R h0 h1 z;rw[N.up v h0 h1 z];have:1<=(if i (a v)=some v then f (a v)else 0)+1:=(by split<;>lia);have:=gG this k.1 (by decide) (by lia)
    lia
theorem iS.same(R:ε d c b a f)(N:iS d c b a h j i)(k:iS d c b a h j g):∀(n:Nat)(v:Int),f v=n->0<=v->v<d->i v=g v
 | 0,v,e,h0,h1=>by
   have:v=b:=by
    apply Classical.byContradiction;intro z;have:=R.pos h0 h1 z
    lia
   rw[this,N.rt,k.rt]
 | n+1,v,e,h0,h1=>by
   by_cases z:v=b
   .rw[z,N.rt,k.rt]
   .have u:=R.up v h0 h1 z;have l:=R.pos h0 h1 z;rw[N.up v h0 h1 z,k.up v h0 h1 z,iS.same R N k n (a v) (by lia) u.1.1 u.1.2]
def iS.YN(R:ε c d f b i)(N:iS c d f b a h g)(l:iS c d f b a h e):(cj c.toNat).map (Pb.lies a g)=(cj c.toNat).map (Pb.lies a e):=by
 refine b5 λv k=>?_;obtain⟨j,m⟩:=fe.mp k;unfold Pb.lies;rw[iS.same R N l _ v rfl j (by lia)]
theorem iS.Ζ(g:Good d c)(R:ε d c j a f)(B:Bea d c j a f h)(N:iS d c j a h k i){l:eX}(q:∀v,0<=v->v<d->l v=lies h i v):∀(n:Nat)(v:Int),d.toNat-f v=n->0<=v->v<d->Pb.Ζ d c j a f l (Ϭ c a) v=i v
 | 0,v,e,h0,h1=>by
   have:=ja R h0 h1
   lia
 | n+1,v,e,h0,h1=>by
   rw[eB g R h0 h1,q v h0 h1];have s:∀u∈bU d c (front j a v) v,Ϭ c a u (Pb.Ζ d c j a f l (Ϭ c a) u)=if h v=some u then i v else 0:=λu t=>by
    obtain⟨m,o,p⟩:=(cR g R h0 h1).mp t;have r:=R.pos m.1 m.2 o;rw[p]at r;rw[iS.Ζ g R B N q n u (by lia) m.1 m.2,N.up u m.1 m.2 o,p];exact QM (ue g R m.1 m.2 o).1
   rw[nU s,EO g R B h0 h1 (λ_=>i v) 0];unfold lies;cases e:h v with
   | none=>rw[aj rfl];exact lK _
   | some b=>rw[ah (by nofun)];exact ce _
theorem Bg(f:eX)(h:Int->List Int):∀l:List Int,((l.flatMap h).map f).sum=(l.map λc=>((h c).map f).sum).sum
 | []=>rfl
 | a::l=>by rw[dj,au,cU,Bg f h l,aF,aN]
theorem Hm(f h:eX):∀l:List Int,(l.map λc=>f c-h c).sum=(l.map f).sum-(l.map h).sum
 | []=>rfl
 | a::l=>by rw[aF,aF,aF,aN,aN,aN,Hm f h l];lia
theorem iS.sums(g:Good h d)(R:ε h d i a f)(B:Bea h d i a f l)(N:iS h d i a l m j):∀(n:Nat)(v:Int),h.toNat-f v=n->0<=v->v<h->((eE h d i a f v).map λu=>lies l j u-ϣ h d i a f u*(tup d a u-1)).sum=ϣ h d i a f v*j v-ϣ h d i a f v*(tup d a v-1)
 | 0,v,e,h0,h1=>by
   have:=ja R h0 h1
   lia
 | n+1,v,e,h0,h1=>by
   rw[jP g R h0 h1,aF,aN,Bg];have t:∀u∈bU h d (front i a v) v,((eE h d i a f u).map λu=>lies l j u-ϣ h d i a f u*(tup d a u-1)).sum=if l v=some u then ϣ h d i a f u*tup d a u*j v else 0:=λu w=>by
    obtain⟨o,q,p⟩:=(cR g R h0 h1).mp w;have r:=R.pos o.1 o.2 q;rw[p]at r;rw[iS.sums g R B N n u (by lia) o.1 o.2,N.up u o.1 o.2 q,p];generalize ϣ h d i a f u=W;generalize tup d a u=k;by_cases c:l v=some u
    .rw[aj c,aj c,pK,pK,ir,mw,mB,Int.one_mul,lW (j v) k,<-Int.mul_assoc]
     lia
    .rw[ah c,ah c,ce,Int.one_mul]
     lia
   rw[nU t,EO g R B h0 h1 (λu=>ϣ h d i a f u*tup d a u*j v) 0];unfold lies;cases e:l v with
   | none=>
     rw[aj rfl];have s:ϣ h d i a f v=1:=by
      show fo mx h d i a f _ _ v=1;rw[zI g R h0 h1,B.no v h0 h1 e]
      rfl
     rw[s];show j v-_+0=_
     lia
   | some b=>
     rw[ah (by nofun)];obtain⟨_,x⟩:=B.hv v b h0 h1 e;show 0-_+ϣ h d i a f b*tup d a b*j v=_;rw[x]
     lia
def iS.total(g:Good e b)(R:ε e b c a d)(B:Bea e b c a d i)(N:iS e b c a i l k)(m:0<=c)(n:c<e)(q:eE e b c a d c=c::j)(O:Order e c a j):((cj e.toNat).map (lies i k)).sum=XY e b c a (mI e b c a d) l:=by
 have h:=iS.sums g R B N _ c rfl m n;rw[q,Hm,N.rt]at h;have r:((c::j).map (lies i k)).sum=((cj e.toNat).map (lies i k)).sum:=by
  refine rh ((jZ O.nd (iZ _) λx=>?_).map _);rw[aA,fe];refine⟨λh=>?_,λh=>O.all x h.1 (by have:=h.2;lia)⟩;rcases h with h|h
  .rw[h];exact⟨m,by lia⟩
  .have:=O.Μ x h;exact⟨this.1,by lia⟩
 rw[<-r];unfold XY;rw[<-O.sums,show(mI e b c a d).getD c.toNat 0=ϣ e b c a d c from sV m n];have p:(j.map (YL b a (mI e b c a d))).sum=(j.map λu=>ϣ e b c a d u*(tup b a u-1)).sum:=by
  refine nU λu o=>?_;unfold YL tup;rw[show(mI e b c a d).getD u.toNat 0=ϣ e b c a d u from sV (O.Μ u o).1 (O.Μ u o).2]
 rw[p];rw[aF (f:=λu=>ϣ e b c a d u*(tup b a u-1)),aN]at h
 lia
end Pb
namespace L2
open PySem PySem.Spec PyProof.Rows PySem.W
section
variable(a:0<n)
include a
end
end L2
namespace Pb
open L2 PySem
def xa(g:Good f d)(v x y:Int)(h:x<=y):ό d par v x<=ό d par v y:=by
 have i:∀a b:Int,0<(cD d a b).getD 1:=λa b=>by
  cases e:cD d a b with
  | none=>decide
  | some k=>
    obtain⟨q,l,p,_⟩:=oM g (Bk.mp (show(cD d a b).isSome=true by rw[e];rfl));rw[e]at l;cases l;show 0<k
    lia
 have m:=i v (par v);have r:=i (par v) v;unfold ό;by_cases c:0<=x
 .rw[aj c,aj (by lia)];exact l9 m h
 .rw[ah c];by_cases j:0<=y
  .rw[aj j];have o:0<=y/(cD d v (par v)).getD 1:=iR j (by lia);have n:x*(cD d (par v) v).getD 1<=0:=gH (by lia) (by lia)
   lia
  .rw[ah j];exact cN h (by lia)
def F0(x:1<=c)(f:2<=a)(g:2<=d):(c+(if 0<=b + -(c*a)then(b + -(c*a))/a else(b + -(c*a))*d)<=if 0<=b then b/a else b*d)/\(-(c*a)+(if 0<=b+c then(b+c)/d else(b+c)*a)<=if 0<=b then b/d else b*a):=by
 have t:c*2<=c*a:=b3 f (by lia);have k:c*2<=c*d:=b3 g (by lia)
 constructor
 .by_cases c1:0<=b + -(c*a)
  .rw[aj c1,aj (by lia),<-j6,ii _ _ (by lia)]
   lia
  .rw[ah c1];by_cases e:0<=b
   .rw[aj e];have v:=Int.mul_ediv_add_emod b a;have q:=cM b (show 0<a by lia);have y:=cC b (show a≠0 by lia);have p:b/a<c:=by
     rw[Int.ediv_lt_iff_lt_mul (by lia)]
     lia
    have j:a*(b/a-c)=a*(b/a)-c*a:=(by rw[pK,lW a c]);have o:b + -(c*a)<=a*(b/a-c+1)-1:=by
     have:a*(b/a-c+1)=a*(b/a-c)+a:=(by rw[mw,mB])
     lia
    have n:a*(b/a-c+1)<=2*(b/a-c+1):=by
     have:=Int.mul_le_mul_of_nonpos_right f (show b/a-c+1<=0 by lia)
     lia
    have i:b + -(c*a)<=(b/a-c):=(by lia);have m:(b + -(c*a))*d<=(b/a-c)*d:=cN i (by lia);have r:(b/a-c)*d<=(b/a-c)*1:=jY (show b/a-c<=0 by lia) (show 1<=d by lia)
    lia
   .rw[ah e];have j:(b + -(c*a))*d=b*d + -(c*a)*d:=ir ..;have w:-(c*a)*d<=-(c*a)*1:=jY (show -(c*a)<=0 by lia) (show 1<=d by lia)
    lia
 .by_cases c1:0<=b
  .rw[aj c1,aj (by lia)];have h:(b+c)/d<=(b+c*d)/d:=l9 (by lia) (by lia);rw[ii _ _ (by lia)]at h
   lia
  .rw[ah c1];by_cases e:0<=b+c
   .rw[aj e];have h:(b+c)/d<=b+c:=jG _ e;have l:(-b)*2<=(-b)*a:=b3 f (by lia);have u:(c+b)*2<=(c+b)*a:=b3 f (by lia);have s:(c+b)*a=c*a+b*a:=ir ..
    lia
   .rw[ah e,ir]
    lia
def Mo(g:Good a d)(R:ε a d h b j)(D:0<=h)(t:h<a)(I:(e.length:Int)=a)(is:oG a d i=true):Ζ a d h b j (λv=>(dS a (cQ d e i) f).getD v.toNat 0) (ό d b) h<=Ζ a d h b j (λv=>(dS a e f).getD v.toNat 0) (ό d b) h:=by
 obtain⟨G,nb,B⟩:=qZ is;have r:=(j2 g).mp nb;have F:=(g.Vz r).2.1;obtain⟨k,s,w,K⟩:=oM g r;obtain⟨L,A,u,H⟩:=oM g r.symm;have x:gd d i.1 i.2.1=k:=by unfold gd;rw[s];rfl
 have l:∀(q:ej)(v:Int),0<=v->v<a->(dS a q f).getD v.toNat 0=q.getD v.toNat 0-f.getD v.toNat 0:=λq v n m=>by
  unfold dS;rw[List.getD,aP,iK (by lia)]
  rfl
 have y:∀{c o p:Int},0<=b c/\b c<a->UQ a h b (λv=>e.getD v.toNat 0) (λv=>(cQ d e i).getD v.toNat 0) c o p->UQ a h b (λv=>(dS a e f).getD v.toNat 0) (λv=>(dS a (cQ d e i) f).getD v.toNat 0) c o p:=λ{c o p} pr C=>by
  refine⟨C.Μ,C.nr,?_,?_,λv n m E J=>?_⟩
  .show(dS a (cQ d e i) f).getD c.toNat 0=(dS a e f).getD c.toNat 0+o;rw[l _ c C.Μ.1 C.Μ.2,l _ c C.Μ.1 C.Μ.2];have:=C.own
   lia
  .show(dS a (cQ d e i) f).getD (b c).toNat 0=(dS a e f).getD (b c).toNat 0+p;rw[l _ _ pr.1 pr.2,l _ _ pr.1 pr.2];have:=C.up
   lia
  .show(dS a (cQ d e i) f).getD v.toNat 0=(dS a e f).getD v.toNat 0;rw[l _ v n m,l _ v n m];have:=C.V8 v n m E J
   lia
 rcases Bx g R I is with⟨h1,h2,C⟩|⟨h1,h2,C⟩
 .refine(y (by rw[h2];exact F) C).le g R (xa g) ?_ _ h rfl D t λz=>h1 z.symm;unfold ό;rw[h2,s,A,x];exact(F0 B w u).1
 .refine(y (by rw[h2];exact G) C).le g R (xa g) ?_ _ h rfl D t λz=>h1 z.symm;unfold ό;rw[h2,s,A,x];exact(F0 B w u).2
def py(i:Nat):(dS m zs ys).getD i 0=if i<m.toNat then zs.getD i 0-ys.getD i 0 else 0:=by
 unfold dS;by_cases c:i<m.toNat
 .rw[aj c,List.getD,aP,iK c]
  rfl
 .rw[ah c,List.getD,aP,bP (by rw[cK];lia)]
  rfl
def QP(g:Good b e)(R:ε b e i f a)(q:∀v,0<=v->v<b->v≠i->h v=d v):∀(n:Nat)(v:Int),b.toNat-a v=n->0<=v->v<b->v≠i->Ζ b e i f a h j v=Ζ b e i f a d j v:=by
 intro n
 induction n using Nat.strongRecOn with
 | _ n ih=>
   intro v u m l t;rw[eB g R m l,eB (held:=d) g R m l,q v m l t]
   congr 1
   refine nU λc p=>?_;obtain⟨k,o,r⟩:=(cR g R m l).mp p;have s:=R.pos k.1 k.2 o;have w:=ja R k.1 k.2;rw[r]at s;rw[ih (b.toNat-a c) (by lia) c rfl k.1 k.2 o]
def NL(g:Good h e)(R:ε h e a b i)(k:0<=a)(j:a<h)(m:∀v,0<=v->v<h->v≠a->d v=held v):Ζ h e a b i d f a=Ζ h e a b i held f a+(d a-held a):=by
 rw[eB g R k j,eB (held:=held) g R k j];have:((bU h e (front a b a) a).map λc=>f c (Ζ h e a b i d f c)).sum=((bU h e (front a b a) a).map λc=>f c (Ζ h e a b i held f c)).sum:=nU λc o=>by
  obtain⟨l,n,p⟩:=(cR g R k j).mp o;rw[QP g R m _ c rfl l.1 l.2 n]
 rw[this]
 lia
def lB(m:Int)(a:hR)(b:hP)(e:Int->Int->Nat)(c d:ej)(i:Nat):List Int:=(cj i).map λr=>Ζ m a r (b r) (e r) (λv=>(dS m c d).getD v.toNat 0) (ό a (b r)) r
def rz :(lB g f c b e d a).length=a:=by unfold lB;rw[aa,cu]
def HY(h:a<i):(lB g c b d f e i).getD a 0=Ζ g c a (b a) (d a) (λv=>(dS g f e).getD v.toNat 0) (ό c (b a)) a:=by
 unfold lB;rw[List.getD,aP,gS h]
 rfl
inductive T9(m:Int)(rs:hR)(xs:ej):List Int->Prop
 | start:T9 m rs xs xs
 | step {z:ej} {a b:Int}:T9 m rs xs z->mC m rs z (a,b,1)=true->T9 m rs xs (cQ rs z (a,b,1))
theorem tN:∀{z:ej},(∀x∈z,0<=x)->0<=z.sum
 | [],_=>bF 0
 | x::z,h=>by
   have c:=h x (.head _);have b:=tN λy a=>h y (.tail _ a);rw[aN]
   lia
def T9.len(h:T9 d c a b):b.length=a.length:=by
 induction h with
 | start=>rfl
 | step _ _ ih=>rw[uX];exact ih
end Pb
namespace L2
open PySem
def YQ(K:gy)(a:Addr)(c:List V):Prop:=∃(o:Obj)(b:Array Value)(n:Nat),K.lookup a=some o/\o.cls=.type "tuple"/\o.data=.seq b n/\b.size<=sizeLine/\Vals c b.toList
def YQ.sq(h:YQ c b a):Δ c d b a:=.inr h
end L2
namespace Pb
open L2 PySem
def Gc{P:Int->Prop}(f:fb):∀(n:Nat)(v:Int),f v=n->P v->∃v,P v/\∀u,P u->f v<=f u:=by
 intro n
 induction n using Nat.strongRecOn with
 | _ n ih=>
   intro v d a;by_cases c:∃u,P u/\f u<f v
   .obtain⟨u,h1,h2⟩:=c;exact ih (f u) (by lia) u rfl h1
   .exact⟨v,a,λu b=>jq λh=>c ⟨u,b,h⟩⟩
theorem Gx:∀{l:ej},(∀x∈l,x<=0)->l.sum<=0
 | [],_=>bF 0
 | x::l,h=>by
   have c:=h x (.head _);have b:=Gx λy a=>h y (.tail _ a);rw[aN]
   lia
theorem EH:∀{l:ej}{y:Int},(∀x∈l,x<=0)->y∈l->l.sum<=y
 | x::l,y,h,a=>by
   have c:=h x (.head _);have b:=Gx λy a=>h y (.tail _ a);rw[aN];rcases aA.mp a with e|e
   .lia
   .have:=EH (λy a=>h y (.tail _ a)) e
    lia
theorem AJ:∀{l:ej},(∀x∈l,x=0)->l.sum=0
 | [],_=>rfl
 | x::l,h=>by rw[aN,h x (.head _),AJ λy a=>h y (.tail _ a)];rfl
abbrev ψ(m:Int)(c:hR)(r:Int)(a:eX)(b:fb)(d z:ej)(v:Int):Int:=Ζ m c r a b (λv=>(dS m z d).getD v.toNat 0) (ό c a) v
def wQ(g:Good e b)(R:ε e b h a f)(i:0<=d)(j:d<e):ψ e b h a f ys z d=z.getD d.toNat 0-ys.getD d.toNat 0+((bU e b (front h a d) d).map λc=>ό b a c (ψ e b h a f ys z c)).sum:=by
 show Ζ e b h a f _ _ d=_;rw[eB g R i j];show(dS e z ys).getD d.toNat 0+_=_;rw[py,aj (by lia)]
def FU(n:0<=d e/\d e<c)(C:UQ c j d (λv=>b.getD v.toNat 0) (λv=>(cQ f b g).getD v.toNat 0) e i h):UQ c j d (λv=>(dS c b a).getD v.toNat 0) (λv=>(dS c (cQ f b g) a).getD v.toNat 0) e i h:=by
 have k:∀(o:ej)(v:Int),0<=v->v<c->(dS c o a).getD v.toNat 0=o.getD v.toNat 0-a.getD v.toNat 0:=λo v m l=>by
  rw[py,aj (by lia)]
 refine⟨C.Μ,C.nr,?_,?_,λv m l q p=>?_⟩
 .show(dS c (cQ f b g) a).getD e.toNat 0=(dS c b a).getD e.toNat 0+i;rw[k _ e C.Μ.1 C.Μ.2,k _ e C.Μ.1 C.Μ.2];have:=C.own
  lia
 .show(dS c (cQ f b g) a).getD (d e).toNat 0=(dS c b a).getD (d e).toNat 0+h;rw[k _ _ n.1 n.2,k _ _ n.1 n.2];have:=C.up
  lia
 .show(dS c (cQ f b g) a).getD v.toNat 0=(dS c b a).getD v.toNat 0;rw[k _ v m l,k _ v m l];have:=C.V8 v m l q p
  lia
def MU(g:Good n f)(R:ε n f m d i)(r0:0<=m)(U:m<n)(zl:(o.length:Int)=n)(y0:∀y∈j,0<=y)(s0:0<=ψ n f m d i j o m):((∀v,0<=v->v<n->j.getD v.toNat 0<=o.getD v.toNat 0)/\o.getD m.toNat 0-j.getD m.toNat 0=ψ n f m d i j o m)\/∃a b,mC n f o (a,b,1)=true/\ψ n f m d i j (cQ f o (a,b,1)) m=ψ n f m d i j o m:=by
 have yn:∀v:Int,0<=j.getD v.toNat 0:=λv=>pi y0 _;have S:∀v,0<=v->v<n->v≠m->∃k t,cD f v (d v)=some k/\cD f (d v) v=some t/\2<=k/\2<=t/\(0<=d v/\d v<n)/\Vd f v (d v)/\i (d v)+1=i v:=λv r p H=>by
  obtain⟨u1,Z,u3⟩:=R.up v r p H;obtain⟨k,A,O,_⟩:=oM g Z;obtain⟨t,E,N,_⟩:=oM g Z.symm;exact⟨k,t,A,E,O,N,u1,Z,u3⟩
 by_cases cA:∃v,(0<=v/\v<n/\v≠m)/\(cD f v (d v)).getD 1<=ψ n f m d i j o v
 .-- Uh abw place ZG has VQ to hand on
  obtain⟨Y,T⟩:=cA;obtain⟨v,⟨⟨r,p,B⟩,H⟩,mx⟩:=Gc (P:=λv=>(0<=v/\v<n/\v≠m)/\(cD f v (d v)).getD 1<=ψ n f m d i j o v) (λv=>n.toNat-i v) _ Y rfl T;obtain⟨k,t,A,E,O,N,s,Q,dp⟩:=S v r p B;rw[A]at H;have H:k<=ψ n f m d i j o v:=H;have np:∀x∈(bU n f (front m d v) v).map λc=>ό f d c (ψ n f m d i j o c),x<=0:=λx L=>by
   obtain⟨c,M,rfl⟩:=aE.mp L;obtain⟨u,I,W⟩:=(cR g R r p).mp M;have dk:=R.pos u.1 u.2 I;have dl:=ja R u.1 u.2;rw[W]at dk;obtain⟨q,q',eq,X,q0,a0,_⟩:=S c u.1 u.2 I;have V:¬q<=ψ n f m d i j o c:=λh=>by
    have:=mx c ⟨⟨u.1,u.2,I⟩,by rw[eq];exact h⟩
    lia
   unfold ό;rw[eq,X];show(if 0<=ψ n f m d i j o c then ψ n f m d i j o c/q else ψ n f m d i j o c*q')<=0;generalize ψ n f m d i j o c=G at V ⊢;by_cases D:0<=G
   .rw[aj D,gg D (by lia)];exact bF _
   .rw[ah D];exact gH (by lia) (by lia)
  have e:=wQ g R (ys:=j) (z:=o) r p;have sp:=Gx np;have yv:=yn v;have K:gd f v (d v)=k:=by unfold gd;rw[A];rfl
  have is:oG n f (v,d v,1)=true:=by
   unfold oG;have nb:=(j2 g).mpr Q;simp only[bB,bw];exact⟨⟨⟨r,p⟩,nb⟩,by decide⟩
  refine .inr ⟨v,d v,?_,?_⟩
  .unfold mC;rw[is,k7,bw];show 1*gd f v (d v)<=o.getD v.toNat 0;rw[K]
   lia
  .rcases Bx g R zl is with⟨J,F,C⟩|⟨J,F,C⟩
   .refine(FU s C).eq g R ?_ _ m rfl r0 U λw=>B w.symm;show 1+ό f d v (ψ n f m d i j o v + -(1*gd f v (d v)))=ό f d v (ψ n f m d i j o v);rw[K];unfold ό;rw[A];generalize ψ n f m d i j o v=G at H ⊢;rw[aj (by lia),aj (by lia)];show 1+(G + -(1*k))/k=G/k;rw[<-j6,ii _ _ (by lia)]
    lia
   .have d2:=R.pos s.1 s.2 J;simp only at F;rw[F]at d2
    lia
 .have up:∀v,0<=v->v<n->v≠m->ό f d v (ψ n f m d i j o v)<=0/\(0<=ψ n f m d i j o v->ό f d v (ψ n f m d i j o v)=0):=λv r p B=>by
   obtain⟨k,t,A,E,O,N,s,Q,dp⟩:=S v r p B;have V:¬k<=ψ n f m d i j o v:=λh=>cA ⟨v,⟨r,p,B⟩,by rw[A];exact h⟩;unfold ό;rw[A,E];show(if 0<=ψ n f m d i j o v then ψ n f m d i j o v/k else ψ n f m d i j o v*t)<=0/\(0<=ψ n f m d i j o v->(if 0<=ψ n f m d i j o v then ψ n f m d i j o v/k else ψ n f m d i j o v*t)=0);generalize ψ n f m d i j o v=G at V ⊢;by_cases D:0<=G
   .rw[aj D,gg D (by lia)];exact⟨bF _,λ_=>rfl⟩
   .rw[ah D];exact⟨gH (by lia) (by lia),λh=>absurd h D⟩
  by_cases cB:∃v,(0<=v/\v<n/\v≠m)/\ψ n f m d i j o v<0
  .-- Uh abx place ZG lacks VQ
   obtain⟨Y,T⟩:=cB;obtain⟨v,⟨⟨r,p,B⟩,H⟩,mn⟩:=Gc (P:=λv=>(0<=v/\v<n/\v≠m)/\ψ n f m d i j o v<0) i _ Y rfl T;obtain⟨k,t,A,E,O,N,s,Q,dp⟩:=S v r p B;have pg:0<=ψ n f m d i j o (d v):=by
    by_cases c:d v=m
    .rw[c];exact s0
    .refine Int.le_of_not_gt λh=>?_;have:=mn (d v) ⟨⟨s.1,s.2,c⟩,h⟩
     lia
   have e:=wQ g R (ys:=j) (z:=o) s.1 s.2;have sp:=EH (l:=(bU n f (front m d (d v)) (d v)).map λc=>ό f d c (ψ n f m d i j o c)) (y:=ό f d v (ψ n f m d i j o v)) (λx L=>by
    obtain⟨c,M,rfl⟩:=aE.mp L;obtain⟨u,I,W⟩:=(cR g R s.1 s.2).mp M;exact(up c u.1 u.2 I).1) (aE.mpr ⟨v,(cR g R s.1 s.2).mpr ⟨⟨r,p⟩,B,rfl⟩,rfl⟩)
   have hh:ό f d v (ψ n f m d i j o v)=ψ n f m d i j o v*t:=by
    unfold ό;rw[E,ah (by lia)]
    rfl
   have hk:ψ n f m d i j o v*t<=(-1)*t:=cN (by lia) (by lia);have yv:=yn (d v);have K:gd f (d v) v=t:=(by unfold gd;rw[E];rfl);have is:oG n f (d v,v,1)=true:=by
    unfold oG;have nb:=(j2 g).mpr Q.symm;simp only[bB,bw];exact⟨⟨⟨s.1,s.2⟩,nb⟩,by decide⟩
   refine .inr ⟨d v,v,?_,?_⟩
   .unfold mC;rw[is,k7,bw];show 1*gd f (d v) v<=o.getD (d v).toNat 0;rw[K]
    lia
   .rcases Bx g R zl is with⟨J,F,C⟩|⟨J,F,C⟩
    .have d2:=R.pos s.1 s.2 J;simp only at F;rw[F]at d2
     lia
    .refine(FU s C).eq g R ?_ _ m rfl r0 U λw=>B w.symm;show -(1*gd f (d v) v)+ό f d v (ψ n f m d i j o v+1)=ό f d v (ψ n f m d i j o v);rw[K,hh];unfold ό;rw[A,E];generalize ψ n f m d i j o v=G at H ⊢;show -(1*t)+(if 0<=G+1 then(G+1)/k else(G+1)*t)=G*t;by_cases c:0<=G+1
     .have:G=-1:=(by lia);subst this;rw[aj c];show -(1*t)+0/k=-1*t;rw[Int.zero_ediv]
      lia
     .rw[ah c,ir]
      lia
  .have nn:∀v,0<=v->v<n->0<=ψ n f m d i j o v:=λv r p=>by
    by_cases c:v=m
    .rw[c];exact s0
    .exact Int.le_of_not_gt λh=>cB ⟨v,⟨r,p,c⟩,h⟩
   have ev:∀v,0<=v->v<n->o.getD v.toNat 0-j.getD v.toNat 0=ψ n f m d i j o v:=λv r p=>by
    have e:=wQ g R (ys:=j) (z:=o) r p;rw[AJ λx L=>?_]at e
    .lia
    .obtain⟨c,M,rfl⟩:=aE.mp L;obtain⟨u,I,W⟩:=(cR g R r p).mp M;exact(up c u.1 u.2 I).2 (nn c u.1 u.2)
   refine .inl ⟨λv r p=>?_,ev m r0 U⟩;have J:=ev v r p;have F:=nn v r p
   lia
def T9.pre(c:mC d a b (f,e,1)=true)(h:T9 d a (cQ a b (f,e,1)) g):T9 d a b g:=by
 induction h with
 | start=>exact .step .start c
 | step _ c2 ih=>exact .step ih c2
def My(g:Good f d)(o:(a.length:Int)=f)(c:mC f d a (b,e,1)=true):(cQ d a (b,e,1)).sum<a.sum:=by
 obtain⟨is,l⟩:=tM c;obtain⟨i,nb,_⟩:=qZ is;obtain⟨k,m,h,p,j⟩:=L7 g is;have n:=g.Vz ((j2 g).mp nb);simp only at i nb m h j l n;unfold cQ;show((a.set b.toNat (a.getD b.toNat 0-1*gd d b e)).set e.toNat ((a.set b.toNat (a.getD b.toNat 0-1*gd d b e)).getD e.toNat 0+1)).sum<a.sum;rw[zX _ _ _ (by rw[bz];lia),zX _ _ _ (by lia),h]
 lia
def Rl(g:Good h d)(R:ε h d f j k)(A:0<=f)(s:f<h)(u:∀y∈i,0<=y):∀(n:Nat)(z:ej),z.sum.toNat=n->(z.length:Int)=h->(∀x∈z,0<=x)->0<=ψ h d f j k i z f->∃l,T9 h d z l/\(∀v,0<=v->v<h->i.getD v.toNat 0<=l.getD v.toNat 0)/\l.getD f.toNat 0-i.getD f.toNat 0=ψ h d f j k i z f:=by
 intro n
 induction n using Nat.strongRecOn with
 | _ n ih=>
   intro z B m w q;rcases MU g R A s m u q with⟨o,p⟩|⟨a,b,c,e⟩
   .exact⟨z,.start,o,p⟩
   .have z0':=Qu g m w c;have lt:=My g m c;have r:=tN z0';obtain⟨l,o,p,t⟩:=ih _ (by lia) (cQ d z (a,b,1)) rfl (by rw[uX];exact m) z0' (by rw[e];exact q);exact⟨l,o.pre c,p,by rw[t,e]⟩
def T9.YR(g:Good b a)(R:ε b a d e f)(m:0<=d)(k:d<b)(l:(i.length:Int)=b)(h:T9 b a i j):ψ b a d e f ys j d<=ψ b a d e f ys i d:=by
 induction h with
 | start=>exact bF _
 | step hz c ih=>exact dN (Mo g R m k (by rw[hz.len];exact l) (tM c).1) ih
def Nf(g:Good c b)(v x:Int)(h:0<=x):0<=ό b a v x:=by
 have:=xa (par:=a) g v 0 x h;have e:ό b a v 0=0:=by unfold ό;rw[aj (bF _)];exact Int.zero_ediv _
 lia
theorem G5(h:∀v,0<=a v)(i:∀v x,0<=x->0<=b v x):∀(n:Nat)(v:Int),0<=vw f e g d a b n v
 | 0,v=>h v
 | n+1,v=>by
   show 0<=a v+((bU f e (front g d v) v).map λc=>b c (vw f e g d a b n c)).sum;have m:=h v;have l:0<=((bU f e (front g d v) v).map λc=>b c (vw f e g d a b n c)).sum:=tN λx j=>by
    obtain⟨c,k,rfl⟩:=aE.mp j;exact i c _ (G5 h i n c)
   lia
def Sm(g:Good e d)(R:ε e d a b i)(m:0<=a)(k:a<e)(h:∀v,0<=v->v<e->f.getD v.toNat 0<=j.getD v.toNat 0):j.getD a.toNat 0-f.getD a.toNat 0<=ψ e d a b i f j a:=by
 have n:∀v:Int,0<=(dS e j f).getD v.toNat 0:=λv=>by
  rw[py];by_cases c:v.toNat<e.toNat
  .rw[aj c];have:=h (v.toNat:Int) (by lia) (by lia);rw[bM]at this
   lia
  .rw[ah c];exact bF _
 rw[wQ g R m k];have:0<=((bU e d (front a b a) a).map λc=>ό d b c (ψ e d a b i f j c)).sum:=tN λx l=>by
  obtain⟨c,o,rfl⟩:=aE.mp l;exact Nf g c _ (G5 n (Nf g) _ _)
 lia
end Pb
namespace L2
open PySem PySem.Spec PyProof.Rows PySem.W
def NO:Yt a "str.zfill" (λx c H Q=>∃z i,x=.str z/\c=[.int i]/\PadOk i=true/\Q (.str (Txt.zfill z i)) H):=by
 intro b s m H x c v g Q I f e h;obtain⟨z,i,rfl,rfl,d,q⟩:=h;obtain⟨t,rfl⟩:=f;obtain⟨u,rfl,l,rfl⟩:=oE e;exact SC.zfill d λj k=>⟨.str _,H,I.tok _,⟨_,rfl⟩,q⟩
theorem BR:∀{b:hG}{a:hE},Vals (b.map V.str) a->StrsAre a b
 | [],_,.nil=>.nil
 | y::b,_,.cons h r=>by
   obtain⟨t,rfl⟩:=h;exact .cons y t (BR r)
def S4(K:gy):V->List V->Hp->VK->Prop:=λx b H Q=>∃z l a,x=.str z/\b=[.ref l]/\ν K H l (a.map V.str)/\(a.map (·.length)).sum+a.length*z.length<=16777216/\Q (.str (Str.join z a)) H
def rm:Yt a "str.join" (S4 a.K):=by
 intro b s y H x w v n Q I j i h;obtain⟨z,l,m,rfl,rfl,e,c,q⟩:=h;obtain⟨t,rfl⟩:=j;obtain⟨u,rfl,d⟩:=oE i;cases d;obtain⟨g,r,f,o⟩:=I.list e;refine join_list f.isList (by simpa using BR r) c λp k=>⟨.str _,H,I.tok _,⟨_,rfl⟩,?_⟩;unfold Txt.join;rw[StrLaws.glued_eq_join];exact q
theorem EG:∀l:List (Str×Tok),Vals ((l.map (·.1)).map V.str) (strValues l)
 | []=>.nil
 | (y,t)::l=>.cons ⟨t,rfl⟩ (EG l)
def qf:Yt c "str.split" (λx p H Q=>∃z y,x=.str z/\p=[.str y]/\(y.length==0)=false/\z.length<=60000/\∀l,H l=none->Q (.ref l) (upd H l (.lst ((Txt.split z y).map V.str)))):=by
 intro f s w H x p v D Q I B A h;obtain⟨z,y,rfl,rfl,m,n,q⟩:=h;obtain⟨t,rfl⟩:=B;obtain⟨C,rfl,u,rfl⟩:=oE A;have g:z.length<=sizeLine:=aV n (by decide);have d:∀(l:List (Str×Tok))(k:Nat),l.map (·.1)=Txt.split z y->l.length<=sizeLine->EP c f w Q (.ref s.heap.objs.size) { s with toks:=k,heap:=s.heap.push { cls:=.type "list",data:=.seq (strValues l).toArray } }:=λl k e r=>by
  refine⟨.ref s.heap.objs.size,_,I.laid (a:=s.heap.objs.size) (o:=.lst ((Txt.split z y).map V.str)) (t':=k) (λb u e=>aI _ e) (aU _) ⟨?_,strValues l,_,?_,bd _ rfl⟩,rfl,q _ (I.Α.fresh (aU _))⟩
  .rw[aa,<-e,aa];exact r
  .rw[<-e];exact EG l
 have j:(Txt.split z y).length<=sizeLine:=aV (split_le z y) (aV (Nat.add_le_add_right n 2) (by decide));have i:∀{l:List (Str×Tok)},l.map (·.1)=Txt.split z y->l.length<=sizeLine:=λ{l} e=>by
  have:=congrArg List.length e;rw[aa]at this;rw[this];exact j
 cases h1:(decide (z.length<y.length)||decide (Builtin.Str.strKind z<Builtin.Str.strKind y))
 .cases hf:(Builtin.Str.occurrences z y 0 z.length (z.length+1)).isEmpty
  .have es:Txt.split z y=Builtin.Str.partsBetween z (Builtin.Str.occurrences z y 0 z.length (z.length+1)) y.length:=by
    unfold Txt.split;rw[ah (ne_true_of_eq_false h1),ah (ne_true_of_eq_false hf)]
   refine call_meets l7 (typeIs_str _ _ _) lF (kI _ _) (meets_str_split_sep z y t u h1 m hf g (by rw[<-es];exact j)) ?_;show wants _ _ _ { s with toks:=_,heap:=s.heap.push { cls:=.type "list",data:=.seq (strsFrom s.toks (Builtin.Str.partsBetween z (Builtin.Str.occurrences z y 0 z.length (z.length+1)) y.length)).toArray } };rw[strsFrom_eq];have e:(numbered s.toks (Builtin.Str.partsBetween z (Builtin.Str.occurrences z y 0 z.length (z.length+1)) y.length)).map (·.1)=Txt.split z y:=(numbered_texts _ _).trans es.symm;exact d _ _ e (i e)
  .have e:[(z,t)].map (·.1)=Txt.split z y:=by
    unfold Txt.split;rw[ah (ne_true_of_eq_false h1),aj hf]
    rfl
   exact call_meets l7 (typeIs_str _ _ _) lF (kI _ _) (meets_str_split_not_found z y t u h1 m hf) (d [(z,t)] s.toks e (i e))
 .have e:[(z,t)].map (·.1)=Txt.split z y:=by
   unfold Txt.split;rw[aj h1]
   rfl
  exact call_meets l7 (typeIs_str _ _ _) lF (kI _ _) (meets_str_split_cannot_occur z y t u h1) (d [(z,t)] s.toks e (i e))
def lL:lS a (.type "int") (λb H Q=>∃z i,b=[.str z]/\PySem.intText? z=some i/\z.length<=640/\Q (.int i) H):=by
 intro c s f H b g Q I r h;obtain⟨z,i,rfl,e,d,q⟩:=h;obtain⟨u,rfl,t,rfl⟩:=oE r;exact KIN.call_text e d ⟨.int i,H,I.tok _,⟨_,rfl⟩,q⟩
def Its(z:Str):It:=⟨λi _=>i<z.cps.size,λi H x a=>a=H/\∃c,z.cps[i]?=some c/\x=.str ⟨#[c]⟩,λi _=>z.cps.size<=i⟩
def Nz{P:Program}{w:World}{K:gy}{G:Expr}(g:Addr)(z:Str)(t:Tok):Turn P w K G (Its z) [g] g (λi h=>h.IsStrIter g "str_ascii_iterator" z t i) where
 mem:=by simp
 obj:=λi h st b j=>by
  have e:b=g:=by simpa using j
  subst e;obtain⟨o,e,c,d⟩:=st;exact⟨o,e,λv z=>by rw[d]at z;cases z⟩
 keep:=λi h l st k=>let ⟨o,ho,r⟩:=st;⟨o,k g (by simp) o ho,r⟩
 item:=by
  intro X x u B C i a s D H E I m st f;subst x u B;have f:i<z.cps.size:=f;obtain⟨A,q,L,p,y,n⟩:=m g (by simp);refine wpAny_pyNext_ascii_item st (c:=z.cps[i]) (by simp[f]) λl F M=>?_;have J:Inv X a D H { s with heap:=l,toks:=s.toks+1 }:=I.turned (t':=s.toks+1) (λb o j e=>(M.2 b j).trans e) A q p y n;obtain⟨o,e,c,d⟩:=id F;exact⟨_,rfl,C6 (s:={ s with heap:=l,toks:=s.toks+1 }) e c d (by decide) ⟨.str ⟨#[z.cps[i]]⟩,H,J,⟨_,rfl⟩,⟨rfl,_,by simp[f],rfl⟩,F,λb j=>(m b j).1⟩⟩
 done:=by
  intro X x u B C i a s D H E I m st f;subst x u B;have f:z.cps.size<=i:=f;obtain⟨A,q,L,p,y,n⟩:=m g (by simp);exact wpAny_pyNext_ascii_end (I.ok.hd C) st (by simp[f]) λl N=>⟨rfl,I.turned (t':=s.toks) (λb o j e=>N b o j e) A q p y n⟩
 self:=λ_ _ _ _ _ st h=>wpAny_pyIter_striter_ascii st h
def RU(c:TE):TI:=λa H R=>c a H λx b=>∃z,x=.str z/\z.cps.all (·<128)=true/\R (Its z) b
def Sc{X:Cx}{j:Expr}{l:Expr}{f:TE}(k:PE X l f):PI X j l (RU f):=by
 intro a s p H R I h;refine eA (k a s p H _ I h) λv c x m d i n=>?_;obtain⟨z,e,g,q⟩:=n;subst e;obtain⟨t,rfl⟩:=i;refine wpAny_pyIter_ascii g ?_;refine⟨c.heap.objs.size,[c.heap.objs.size],_,_,m,rfl,d.kept (t':=c.toks) λb o e=>aI _ e,Nz _ z t,⟨_,bd _ rfl,rfl,rfl⟩,λb r=>?_,q⟩;have e:b=c.heap.objs.size:=by simpa using r
 subst e;exact d.Vi (aU _) (d.Α.fresh (aU _))
def Ms :∀{l:List (Str×Tok)},Builtin.Str.tooLong ((l.map (·.1)).toArray.foldl (·+·.length+a.length) 0)=false->Gives (joinTail a (strValues l)) (joinMade a l)
 | [],h=>gives_joinTail a [] h
 | [p],h=>gives_joinTail a [p] h
 | p::q::r,h=>gives_joinTail a (p::q::r) h
def Fm(E:f.handled=none)(st:FK h m a 0 e.heap)(ne:m≠h)(I:a.size<=sizeLine)(Q:StrsAre a.toList c)(B:(c.map (·.length)).sum+c.length*d.length<=16777216)(O:∀(q:Shared) (x k:Nat),q.os=e.os->q.gens=e.gens->q.drawn=e.drawn->(∀b o,b≠h->e.heap.get? b=some o->q.heap.get? b=some o)->e.heap.objs.size<=q.heap.objs.size->i (.str (Str.join d c.reverse) x) { q with toks:=k }):wpAny (model n j) f (call (.builtin "str.join") [.str d p,.ref h]) i l e:=by
 refine my (codeAny_call_builtin mR.plain F.entry_str_join (mR.check _ _ _ _ _ _ _ _ (typeIs_str _ _ _) (F.args_str_join_2 _ _) ?_));rw[join_tree_other];refine ao (wpAny_typeOf st.2.1.typeIs ?_);show wpAny _ f.in1 ((pyIter (.ref h)).tryCatch _>>=λJ=>collect J>>=λs=>joinTail d s) _ _ e;refine ao (wpAny_tryCatch (iw st.2.1 ?_));have w:f.in1.handled=none:=E;refine ao (Ja w st ne I λq u M P G H D C=>?_);obtain⟨A,rfl⟩:∃A:List Value,u=A.toArray:=⟨u.toList,by simp⟩;obtain⟨t,rfl⟩:∃t:List Value,a=t.toArray:=⟨a.toList,by simp⟩;have N:=MG C;subst N;obtain⟨r,y,K⟩:=strsAre_values Q;have y:strValues r=t:=by simpa using y.symm
 have L:strValues r.reverse=t.reverse:=by
  rw[<-y];unfold strValues;rw[gA]
 have z:r.reverse.map (·.1)=c.reverse:=by rw[gA,K]
 show wpAny _ _ (joinTail d t.reverse.toArray.toList) _ _ q;rw[show t.reverse.toArray.toList=strValues r.reverse by rw[L]];have v:JoinOk d (r.reverse.map (·.1))=true:=by
  refine joinOk_of ?_;rw[z,gA,List.sum_reverse,bi];exact B
 unfold JoinOk at v;rw[iq]at v;have g:=Ms v;refine g n j f (wants i l) q (post_join r.reverse ⟨joinFit_length v,λx k=>?_⟩);have:Txt.join d (r.reverse.map (·.1))=Str.join d c.reverse:=by
  unfold Txt.join;rw[StrLaws.glued_eq_join,z]
 rw[this];exact O q x k M P G H D
def MR(K:gy)(z:Str)(e:TE):TE:=λd H Q=>e d H λx c=>∃(a:Addr)(b:hG),x=.ref a/\ν K c a (b.map V.str)/\(b.map (·.length)).sum+b.length*z.length<=16777216/\Q (.str (Str.join z b.reverse)) c
def NM{X:Cx}{e:Expr}{G:TE}{i:Pos}{c:Pos}{m:Pos}{g:Pos}{z:Str}{n:Pos}{o:Nat}(hc:X.calm=true)(hg:Gl X "reversed")(T:X.mg "reversed"=none)(he:PE X e G)(U1:attributeBase (.Constant (.str z) o n) "join" X.env (eval (.Constant (.str z) o n) X.env)=eval (.Constant (.str z) o n) X.env:=by rfl)(J:((backTo m (starEach [.Call (.Name "reversed" i) [e] [] g] X.env)).all (λx=>!x.1)&&(backToKw m (keywordEach [] X.env)).all (λx=>x.1.isSome)
 && decide ([Expr.Call (.Name "reversed" i) [e] [] g].length+([]:List Keyword).length+(if([]:List Keyword).isEmpty then 0 else 1)<30))=true:=by rfl)(d:(c.endLine==m.line)=true:=by rfl)(D:starEach [.Call (.Name "reversed" i) [e] [] g] X.env=[(false,eval (.Call (.Name "reversed" i) [e] [] g) X.env)]:=by rfl)(h2:starEach [e] X.env=[(false,eval e X.env)]:=by rfl):PE X (.Call (.Attribute (.Constant (.str z) o n) "join" c) [.Call (.Name "reversed" i) [e] [] g] [] m) (MR X.K z G):=by
 intro l s σ H Q I h;refine wpAny_Call_method_late U1 J d rfl (eA (bE l s σ H (λx P=>x=.str z/\P=H) I ⟨rfl,rfl⟩) λv s1 x Z W O ⟨f,eH⟩=>?_);subst f eH;obtain⟨t,rfl⟩:=O;refine⟨"str","str.join",F.plainAttrs_str,mR,F.type_str_join,typeIs_str _ _ _,(λ_ e=>nomatch e),?_⟩;refine jD (by rw[D];rfl) (j4 ?_);refine Rg (pos:=m) hg T he W h D h2 (λs2 H2 x a N Y r S f w rv st ne hz=>?_) λx Z ⟨a,N,f,w,_⟩=>⟨a,_,f,w⟩;obtain⟨a',Ϯ,j,p,M,q⟩:=S;rw[f]at j;cases j;have ey:=r.iN w p;subst ey;refine Fm (r.ok.hd hc) st ne hz (by simpa using BR rv) M λL t' k C B y A k5=>?_;obtain⟨U,gs,ds,ts,R⟩:=L;simp only at C B y A k5;subst C B y;have V:∀b u,s2.heap.get? b=some u->U.get? b=some u:=λb u E=>A b u (bf (aO E)) (aI _ E);exact⟨.str _,H2,r.kept (t':=k) V,⟨_,rfl⟩,q⟩
def Nm(h:Gl b a)(f:∃t,b.mg a=some (.str d t))(g:(a==("__debug__":Str))=false:=by decide):PE b (.Name a c) (tC (.str d)):=by
 obtain⟨t,e⟩:=f;exact DL h e ⟨t,rfl⟩ g
def O8(s:Nat->List V->St->Hp->Prop)(A:s 0 [] d h)(B:∀(i c:Nat) (n:List V) (p:St) (H:Hp) (N:List V->St->Hp->Prop),(∀t o r,s (i+1) t o r->N t o r)->a.cps.toList[i]?=some c->s i n p H->k (.str ⟨#[c]⟩) p H λq F=>g q F λb u=>
 if b=true then j q u λy w=>w f=some (.lst n)/\n.length<sizeLine/\N (n++[y]) q (upd w f (.lst (n++[y])))else N n q u)(C:∀n p H,s a.cps.toList.length n p H->l (.ref f) H):uf (Its a) f l k g j d h:=by
 have G:a.cps.size=a.cps.toList.length:=by simp
 refine⟨λi m n p H=>m=a.cps.toList.length-i/\i<=a.cps.toList.length/\s i n p H,⟨a.cps.toList.length,by simp,cI _,A⟩,?_⟩;rintro i m n p H ⟨rfl,I,pv⟩;by_cases D:i<a.cps.toList.length
 .refine .inr ⟨by show i<a.cps.size;lia,λx r y=>?_⟩;obtain⟨rfl,c,E,rfl⟩:=y;exact B i c n p _ (λt o r=>∃v,v<a.cps.toList.length-i/\(v=a.cps.toList.length-(i+1)/\i+1<=a.cps.toList.length/\s (i+1) t o r)) (λt o r z=>⟨a.cps.toList.length-(i+1),by lia,rfl,D,z⟩) (by rw[fP];exact E) pv
 .have e:i=a.cps.toList.length:=by lia
  subst e;exact .inl ⟨by show a.cps.size<=_;lia,C n p H pv⟩
end L2
namespace Pb
open L2 PySem PySem.W NumText
def fL(n:Nat):List Nat:=(Nat.toDigits 10 n).map Char.toNat
def FS(n:Nat):Str:=⟨(fL n).toArray⟩
theorem rq(n:Nat):(FS n).cps.toList=fL n:=rfl
def lI{a b:Str}(h:a.cps.toList=b.cps.toList):a=b:=by
 cases a;cases b
 congr 1
 exact Array.toList_inj.mp h
def eR(n:Nat):Str.ofString (toString ((n:Nat):Int))=FS n:=lI (KIN.signs_num n)
def S9:∀d:Nat,d<10->(Nat.digitChar d).toNat=48+d:=by decide
def qv(h:a<10):fL a=[48+a]:=by
 unfold fL;rw[Nat.toDigits_of_lt_base h];show[(Nat.digitChar a).toNat]=_;rw[S9 a h]
def tj(h:10<=a):fL a=fL (a/10)++[48+a%10]:=by
 have b:a%10<10:=j8 a (by decide);have t:Nat.toDigits 10 (a/10)++Nat.toDigits 10 (a%10)=Nat.toDigits 10 (10*(a/10)+a%10):=Nat.toDigits_append_toDigits (by decide) (by lia) b;rw[Nat.div_add_mod]at t;unfold fL;rw[<-t,au]
 congr 1
 exact qv b
def lZ(n:Nat):AllDigits (fL n):=by
 induction n using Nat.strongRecOn with
 | _ n ih=>
   by_cases h:n<10
   .rw[qv h];intro c hc;rw[aG.mp hc]
    lia
   .rw[tj (by lia)];intro c hc;rcases aX.mp hc with hc|hc
    .exact ih (n/10) (by lia) c hc
    .rw[aG.mp hc];have:=j8 n (show 10>0 by decide)
     lia
def wj(n:Nat):fL n≠[]:=by
 by_cases h:n<10
 .rw[qv h];simp
 .rw[tj (by lia)];simp
def Ex(n:Nat)(h:0<n):∃c r,fL n=c::r/\c≠48:=by
 induction n using Nat.strongRecOn with
 | _ n ih=>
   by_cases a:n<10
   .exact⟨48+n,[],qv a,by lia⟩
   .obtain⟨c,r,e,hc⟩:=ih (n/10) (by lia) (by lia);exact⟨c,r++[48+n%10],by rw[tj (by lia),e];rfl,hc⟩
theorem mf:∀(k n:Nat),n<10^(k+1)->(fL n).length<=k+1
 | 0,n,h=>by rw[qv (by simpa using h)];simp
 | k+1,n,h=>by
   by_cases a:n<10
   .rw[qv a];simp
   .rw[tj (by lia),ay,eD];have:=mf k (n/10) (by rw[fY]at h;lia)
    lia
def N9(n:Nat):digitsVal (fL n)=n:=KIN.val_back n
def vz:Nat->Nat->List Nat
 | 0,_=>[]
 | k+1,m=>vz k (m/10)++[48+m%10]
theorem ED:∀k,vz k 0=List.replicate k 48
 | 0=>rfl
 | k+1=>by
   show vz k 0++[48+0%10]=_;rw[ED k,jT]
theorem Gn:∀(k m:Nat),m<10^(k+1)->List.replicate (k+1-(fL m).length) 48++fL m=vz (k+1) m
 | 0,m,h=>by
   have h:m<10:=by simpa using h
   rw[qv h];show _=[]++[48+m%10];rw[Nat.mod_eq_of_lt h]
   rfl
 | k+1,m,h=>by
   show _=vz (k+1) (m/10)++[48+m%10];by_cases a:m<10
   .rw[qv a,show m/10=0 by lia,ED,Nat.mod_eq_of_lt a]
    rfl
   .have ih:=Gn k (m/10) (by rw[fY]at h;lia);rw[tj (by lia),ay,eD,<-ih,show k+1+1-((fL (m/10)).length+1)=k+1-(fL (m/10)).length by lia,bO]
theorem F1:∀(k q m:Nat),0<q->m<10^k->fL (q*10^k+m)=fL q++vz k m
 | 0,q,m,hq,h=>by
   have:m=0:=by simpa using h
   subst this;simp[vz]
 | k+1,q,m,hq,h=>by
   have e:(q*10^(k+1)+m)/10=q*10^k+m/10:=by
    rw[fY,<-ke]
    lia
   have b:(q*10^(k+1)+m)%10=m%10:=by
    rw[fY,<-ke]
    lia
   have p:0<10^k:=Nat.pow_pos (by decide);have a:10<=q*10^(k+1)+m:=by
    rw[fY,<-ke];have:1<=q*10^k:=Nat.mul_pos hq p
    lia
   rw[tj a,e,b,F1 k q (m/10) hq (by rw[fY]at h;lia),bO]
   rfl
def app_list(a b:Str):(a++b).cps.toList=a.cps.toList++b.cps.toList:=PySem.W.KT.app_list a b
def dI(a:Str):a.length=a.cps.toList.length:=by
 show a.cps.size=_;simp
def gf(s:List Nat):List (List Nat)->List Nat
 | []=>[]
 | [x]=>x
 | x::y::r=>x++s++gf s (y::r)
theorem fQ(z:Str):∀a:List Str,(Str.join z a).cps.toList=gf z.cps.toList (a.map (·.cps.toList))
 | []=>rfl
 | [x]=>rfl
 | x::y::r=>by
   show(x++z++Str.join z (y::r)).cps.toList=_;rw[app_list,app_list,fQ z (y::r)]
   rfl
theorem B9 :∀{a b X Y:List Nat},c∉a->c∉b->a++c::X=b++c::Y->a=b/\X=Y
 | [],[],X,Y,_,_,e=>⟨rfl,by simpa using e⟩
 | [],b::bs,X,Y,_,hb,e=>by
   have:=(fC e).1;exact absurd (by rw[this];exact .head _) hb
 | a::as,[],X,Y,ha,_,e=>by
   have:=(fC e).1;exact absurd (by rw[<-this];exact .head _) ha
 | a::as,b::bs,X,Y,ha,hb,e=>by
   obtain⟨f,d⟩:=fC e;obtain⟨i,g⟩:=B9 (λh=>ha (.tail _ h)) (λh=>hb (.tail _ h)) d;exact⟨by rw[f,i],g⟩
theorem ET :∀{A B:List (List Nat)},A≠[]->B≠[]->(∀a∈A,c∉a)->(∀b∈B,c∉b)->gf [c] A=gf [c] B->A=B
 | [],_,h,_,_,_,_=>absurd rfl h
 | _,[],_,h,_,_,_=>absurd rfl h
 | [a],[b],_,_,_,_,e=>by rw[show a=b from e]
 | [a],b::b'::r,_,_,ha,_,e=>by
   have:c∈a:=by rw[show a=b++[c]++gf [c] (b'::r)from e];simp
   exact absurd this (ha a (.head _))
 | a::a'::r,[b],_,_,_,hb,e=>by
   have:c∈b:=by rw[<-show a++[c]++gf [c] (a'::r)=b from e];simp
   exact absurd this (hb b (.head _))
 | a::a'::r,b::b'::r',_,_,ha,hb,e=>by
   have e:a++[c]++gf [c] (a'::r)=b++[c]++gf [c] (b'::r'):=e;rw[bO,bO]at e;obtain⟨g,f⟩:=B9 (ha a (.head _)) (hb b (.head _)) e;rw[g,ET (by simp) (by simp) (λx d=>ha x (.tail _ d)) (λx d=>hb x (.tail _ d)) f]
def qJ(h:ys≠[])(o:∀y∈ys,c∉y.cps.toList):Txt.split (Str.join ⟨#[c]⟩ ys) ⟨#[c]⟩=ys:=by
 have e:=StrLaws.join_split (Str.join ⟨#[c]⟩ ys) ⟨#[c]⟩;have f:=StrLaws.split_free (Str.join ⟨#[c]⟩ ys) c;have n:=PyProof.Rows.split_pos (Str.join ⟨#[c]⟩ ys) ⟨#[c]⟩;generalize Txt.split (Str.join ⟨#[c]⟩ ys) ⟨#[c]⟩=k at e f n ⊢;have j:=congrArg (λs:Str=>s.cps.toList) e;simp only[fQ]at j;have m:k.map (·.cps.toList)=ys.map (·.cps.toList):=ET (c:=c) (by intro z;rw[nK.mp z]at n;simp at n) (by intro z;exact h (nK.mp z)) (λa d=>by obtain⟨y,g,rfl⟩:=aE.mp d;exact f y g) (λa d=>by obtain⟨y,g,rfl⟩:=aE.mp d;exact o y g) j;have i:∀{l b:hG},l.map (·.cps.toList)=b.map (·.cps.toList)->l=b:=by
  intro l
  induction l with
  | nil=>intro b e;cases b with
    | nil=>rfl
    | cons _ _=>cases e
  | cons x l ih=>
    intro b e;cases b with
    | nil=>cases e
    | cons y b=>
      obtain⟨p,q⟩:=fC e;rw[lI p,ih q]
 exact i m
theorem Fb:∀l:List (List Nat),gf [] l=l.flatten
 | []=>rfl
 | [x]=>by simp[gf]
 | x::y::r=>by
   show x++[]++gf [] (y::r)=_;rw[Fb (y::r)];simp
def zf(h:a<10^18):(Txt.zfill (FS a) 18).cps.toList=vz 18 a:=by
 have i:=mf 17 a h;have e:=Gn 17 a h;have f:(FS a).length=(fL a).length:=by rw[dI];rfl
 unfold Txt.zfill;rw[f];by_cases c:(18:Int)<=((fL a).length:Nat)
 .rw[aj c,rq,<-e,show 17+1-(fL a).length=0 by lia]
  rfl
 .rw[ah c];obtain⟨d,r,b⟩:∃d r,fL a=d::r:=by
   cases hh:fL a with
   | nil=>exact absurd hh (wj a)
   | cons d r=>exact⟨d,r,rfl⟩
  have j:=lZ a d (by rw[b];exact .head _);have g:(FS a).cps[0]?=some d:=by
   rw[<-fP,rq,b];rfl
  unfold PySem.zfilled;rw[g];split
  .rename_i z;cases z;lia
  .rename_i z;cases z;lia
  .rw[<-e];unfold Builtin.Str.padded;simp[FS]
def Ru(h:a<10^18):(Txt.zfill (FS a) 18).length=18:=by
 rw[dI,zf h];have:∀k a,(vz k a).length=k:=by
  intro k
  induction k with
  | zero=>intro a;rfl
  | succ k ih=>intro a;show(vz k (a/10)++[48+a%10]).length=_;rw[ay,ih];rfl
 exact this 18 a
def Rk(h:10^18<=a):fL a=fL (a/10^18)++(Txt.zfill (FS (a%10^18)) 18).cps.toList:=by
 have b:a%10^18<10^18:=j8 a (by decide);rw[zf b,<-F1 18 (a/10^18) (a%10^18) (Nat.div_pos h (by decide)) b,Nat.div_add_mod']
def QL{n:Nat}{a:hG}{m:Nat}(h:fL n=fL m++(a.reverse.map (·.cps.toList)).flatten):Str.join "" ((a++[FS m]).reverse)=FS n:=by
 refine lI ?_;rw[fQ,rq,h,show("":Str).cps.toList=[]from rfl,Fb];simp[rq]
def JJ(h:a<10^b)(c:b<=500)(d:0<b):((a:Nat):Int).natAbs.log2<1920:=by
 show a.log2<1920;by_cases z:a=0
 .subst z;decide
 .refine(lP z).mpr (be h ?_);refine aV (fE (by decide) c) ?_
  decide
def VD(a:List Nat):List V:=a.map λn:Nat=>V.int (n:Int)
def SW:2^4000<=10^(1204+1):=by decide
def _root_.List.θ{a b:Type}{f:a->b}{l:List a}{i:Nat}{y:b}(h:(l.map f)[i]?=some y):∃x,l[i]?=some x/\y=f x:=by
 rw[aP]at h;cases e:l[i]? with
 | none=>rw[e]at h;cases h
 | some x=>rw[e]at h;exact⟨x,rfl,(bN h).symm⟩
def Ke(n:Nat):((FS n).cps.all λx=>decide (x<128))=true:=by
 rw[Array.all_eq_true_iff_forall_mem];intro x a;have:=lZ n x (by simpa[FS]using a);simp
 lia
def qj(n:Nat)(h:n<10^60):PySem.intText? (FS n)=some (n:Int):=by
 have:=intText_digits (x:=FS n) (lZ n) (wj n) (aV (kZ (dI _)) (aV (mf 59 n h) (by decide)));rw[rq,N9]at this;exact this
def ixS{z:Str}{i:Nat}{c:Nat}{H:Hp}{Q:VK}(a:z.cps.toList.length<=60)(h:z.cps.toList[i]?=some c)(q:Q (.str ⟨#[c]⟩) H):ZZ (.str z) (.int i) H Q:=⟨z,i,c,rfl,rfl,aV (kZ (dI z)) (aV a (by decide)),Js h,q⟩
def Ti:∀d:Nat,d<10->(Str.ofString "0123456789").cps.toList[d]?=some (48+d):=by decide +kernel
def Ta(h:48<=a/\a<=57):(!(Builtin.Str.occurrences (Str.ofString "0123456789") ⟨#[a]⟩ 0 (Str.ofString "0123456789").length 1).isEmpty)=true:=by
 rw[StrLaws.found_one,bw];have:=Ti (a-48) (by lia);rw[show 48+(a-48)=a by lia]at this;exact aQ this
def Mr(h:V.str (FS a)=V.str (Str.ofString "0")->False):0<a:=by
 refine Nat.pos_of_ne_zero λz=>h ?_;subst z
 rfl
theorem qp :∀{l:List (List Nat)},a∈gf b l->a∈b\/∃x∈l,a∈x
 | [],h=>by cases h
 | [x],h=>.inr ⟨x,.head _,h⟩
 | x::y::r,h=>by
   rcases aX.mp (show a∈(x++b)++gf b (y::r)from h)with h|h
   .rcases aX.mp h with h|h
    .exact .inr ⟨x,.head _,h⟩
    .exact .inl h
   .rcases qp h with h|⟨z,hz,h⟩
    .exact .inl h
    .exact .inr ⟨z,.tail _ hz,h⟩
theorem rZ :∀{l:List (List Nat)},(∀x∈l,x.length<=m)->(gf s l).length<=(m+s.length)*l.length
 | [],h=>by simp[gf]
 | [x],h=>by
   have:=h x (.head _);show x.length<=(m+s.length)*1
   lia
 | x::y::r,h=>by
   have d:=h x (.head _);have c:=rZ (s:=s) (l:=y::r) λz b=>h z (.tail _ b);show((x++s)++gf s (y::r)).length<=_;rw[ay,ay,aR (a:=x),n9]
   lia
def wds(a:List Nat):Str:=Str.join " " (a.map FS)
def FR(a:List Nat):(wds a).cps.toList=gf [32] (a.map fL):=by
 unfold wds;rw[fQ,fD]
 rfl
def Qn(h:∀n∈a,n<10^(k+1)):(wds a).length<=(k+2)*a.length:=by
 rw[dI,FR];have:=rZ (s:=[32]) (m:=k+1) (l:=a.map fL) λx c=>by
  obtain⟨n,b,rfl⟩:=aE.mp c;exact mf k n (h n b)
 rw[aa]at this;exact this
theorem J0 :∀{as:hD}{c:List b}{i:Nat}{x:V},Paired a as c->(as.map V.ref)[i]?=some x->∃q r,x=V.ref q/\as[i]?=some q/\c[i]?=some r/\a q r
 | _,_,i,x,.nil,h=>by cases h
 | q::as,r::c,0,x,.cons e _,h=>⟨q,r,(bN h).symm,rfl,rfl,e⟩
 | q::as,r::c,i+1,x,.cons _ t,h=>J0 (i:=i) t h
def RB{ns:List Nat}(nb:∀n∈ns,n<2^4000)(d:ns.length<=100):((ns.map FS).map (·.length)).sum+(ns.map FS).length*(Str.ofString " ").length<=16777216:=by
 rw[aa,fD];have:∀l:List Nat,(∀n∈l,n<2^4000)->(l.map ((λx:Str=>x.length) ∘ FS)).sum<=1205*l.length:=by
  intro l
  induction l with
  | nil=>intro _;simp
  | cons n l ih=>
    intro h;have f:(FS n).length<=1205:=by
     rw[dI];exact mf 1204 n (be (h n (.head _)) SW)
    have e:=ih λx b=>h x (.tail _ b);rw[aF,aN,aR];show(FS n).length+_<=_
    lia
 have c:=this ns nb;have a:(Str.ofString " ").length=1:=rfl;rw[a]
 lia
def dU(a b:Str):(a++b).length=a.length+b.length:=by
 rw[dI,app_list,ay,<-dI,<-dI]
end Pb
namespace Pb
open L2 PySem PySem.W NumText
open PySem.StrLaws (At ChainG occ_tight partsBetween_eq partsFrom strSub_toList subAt_eq sub_whole)
def MI :At d ⟨#[c,a,b]⟩ d.length e↔((d.cps.toList.drop e).take 3=[c,a,b]):=by
 unfold At;rw[subAt_eq];have f:(⟨#[c,a,b]⟩:Str).length=3:=rfl;rw[f,show(⟨#[c,a,b]⟩:Str).cps.toList=[c,a,b]from rfl,jd,dI]
 constructor
 .exact λh=>h.2
 .intro h;refine⟨?_,h⟩;have:=congrArg List.length h;rw[bA,d8,show[c,a,b].length=3 from rfl]at this
  lia
def Mv(h:At a ⟨#[e,c,d]⟩ a.length b):a.cps.toList[b+1]?=some c:=by
 have:=congrArg (λl=>l[1]?) (MI.mp h)
 simpa using this
theorem Mm(q:g≠c):∀(L:List (List Nat))(a:Nat)(j:List Nat)(f:Nat),L≠[]->(∀p∈L,c∉p)->a<=b.length->b.cps.toList.drop a=gf [g,c,i] L->ChainG b ⟨#[g,c,i]⟩ b.length a j f->(∀k,f<=k->¬At b ⟨#[g,c,i]⟩ b.length k)->(partsFrom b 3 a j).map (·.cps.toList)=L
 | [],_,_,_,h,_,_,_,_,_=>absurd rfl h
 | [p],a,j,f,_,hc,ha,e,ch,hn=>by
   cases j with
   | nil=>
     show[(Builtin.Str.strSub b a b.length).cps.toList]=[p];rw[strSub_toList,e,dI];have:=congrArg List.length e;rw[d8]at this;show[p.take _]=[p];rw[cH];show(gf [g,c,i] [p]).length<=_
     lia
   | cons d r=>
     have s:=Mv ch.2.1;have n:(b.cps.toList.drop a)[d+1-a]?=some c:=by
      rw[kh,show a+(d+1-a)=d+1 by have:=ch.1;lia];exact s
     rw[e]at n;exact absurd (aQ n) (hc p (.head _))
 | p::p'::r,a,j,f,_,hc,ha,e,ch,hn=>by
   have e:b.cps.toList.drop a=p++[g,c,i]++gf [g,c,i] (p'::r):=e;have m:At b ⟨#[g,c,i]⟩ b.length (a+p.length):=by
    rw[MI,<-List.drop_drop,e,bO,List.drop_left']
    .rfl
    .rfl
   cases j with
   | nil=>
     have A:f=a:=ch;exact absurd m (hn _ (by lia))
   | cons d rs=>
     obtain⟨s,n,t,v⟩:=ch;have le:d<=a+p.length:=by
      refine jq λlt=>?_;exact t (a+p.length) (by lia) lt m
     have ge:a+p.length<=d:=by
      refine jq λlt=>?_;have w:=Mv n;have l:(b.cps.toList.drop a)[d+1-a]?=some c:=by
       rw[kh,show a+(d+1-a)=d+1 by lia];exact w
      rw[e,bO]at l;by_cases z:d+1-a<p.length
      .rw[dH z]at l;exact hc p (.head _) (aQ l)
      .rw[db (by lia),show d+1-a-p.length=0 by lia]at l;exact q (bN l)
     have u:d=a+p.length:=(by lia);subst u;have y:b.cps.toList.drop (a+p.length+3)=gf [g,c,i] (p'::r):=by
      rw[Nat.add_assoc,<-List.drop_drop,e,List.drop_left'];simp
     have o:a+p.length+3<=b.length:=n.1;show(Builtin.Str.strSub b a (a+p.length)).cps.toList::(partsFrom b 3 (a+p.length+3) rs).map (·.cps.toList)=_;rw[Mm q (p'::r) (a+p.length+3) rs f (by simp) (λx o=>hc x (.tail _ o)) o y v hn,strSub_toList,e,show a+p.length-a=p.length by lia,bO,List.take_left']
     rfl
theorem F8:∀{l a:hG},l.map (·.cps.toList)=a.map (·.cps.toList)->l=a
 | [],[],_=>rfl
 | [],_::_,e=>by cases e
 | _::_,[],e=>by cases e
 | x::l,y::a,e=>by
   obtain⟨b,c⟩:=fC e;rw[lI b,F8 c]
def RA(k:u≠c)(q:Builtin.Str.strKind ⟨#[u,c,v]⟩=1)(h:a≠[])(o:∀y∈a,c∉y.cps.toList):Txt.split (Str.join ⟨#[u,c,v]⟩ a) ⟨#[u,c,v]⟩=a:=by
 refine F8 ?_;have e:=fQ ⟨#[u,c,v]⟩ a;generalize Str.join ⟨#[u,c,v]⟩ a=X at e ⊢;obtain⟨f,b,l⟩:=occ_tight X ⟨#[u,c,v]⟩ (by show 1<=3;decide);have j:∀i,ChainG X ⟨#[u,c,v]⟩ X.length 0 i f->(partsFrom X 3 0 i).map (·.cps.toList)=a.map (·.cps.toList):=λi b=>by
  refine Mm k (a.map (·.cps.toList)) 0 i f (by simpa using h) (λp n=>?_) (cI _) (by rw[eI];exact e) b l;obtain⟨y,m,rfl⟩:=aE.mp n;exact o y m
 have g:ChainG X ⟨#[u,c,v]⟩ X.length 0 [] f->([X]).map (·.cps.toList)=a.map (·.cps.toList):=λb=>by
  rw[<-j [] b];show[X.cps.toList]=[(Builtin.Str.strSub X 0 X.length).cps.toList];rw[sub_whole]
 unfold Txt.split;split
 .rename_i hc1
  refine g ?_;cases ZP:Builtin.Str.occurrences X ⟨#[u,c,v]⟩ 0 X.length (X.length+1)with
  | nil=>rw[ZP]at b;exact b
  | cons d r=>
    rw[ZP]at b;have:=b.2.1.1;have s:(⟨#[u,c,v]⟩:Str).length=3:=rfl;rw[Bool.or_eq_true,bw,bw,q]at hc1;have:1<=Builtin.Str.strKind X:=by
     unfold Builtin.Str.strKind;split
     .lia
     .split<;>lia
    lia
 .split
  .rename_i he
   rw[List.isEmpty_iff.mp he]at b;exact g b
  .rw[partsBetween_eq];exact j _ b
end Pb
namespace Pb
open L2 PySem PySem.W NumText
def Ε(h:Str)(a:List Nat):Str:=Str.join " " (h::a.map FS)
structure Vq(h:Str):Prop where
 len:h.length<=10
 sp:32∉h.cps.toList
 nl:10∉h.cps.toList
def Ui:Str:=Str.ofString "web"
def Ub:Str:=Str.ofString "road"
def Eg:Vq Ui:=⟨by decide,by decide,by decide⟩
def Bj:Vq Ub:=⟨by decide,by decide,by decide⟩
def uy(h:Str)(a:List Nat):(Ε h a).cps.toList=gf [32] (h.cps.toList::a.map fL):=by
 unfold Ε;rw[fQ,aF,fD]
 rfl
def zA(e:Vq a)(b:List Nat):Txt.split (Ε a b) (Str.ofString " ")=a::b.map FS:=qJ (c:=32) (ys:=a::b.map FS) (by simp) λy hy d=>by
 rcases aA.mp hy with rfl|hy
 .exact e.sp d
 .obtain⟨n,_,rfl⟩:=aE.mp hy;have:=lZ n 32 d
  lia
def MX(d:Vq a)(c:List Nat):10∉(Ε a c).cps.toList:=λb=>by
 rw[uy]at b;rcases qp b with b|⟨x,hx,b⟩
 .exact absurd (aG.mp b) (by decide)
 .rcases aA.mp hx with rfl|hx
  .exact d.nl b
  .obtain⟨n,_,rfl⟩:=aE.mp hx;have:=lZ n 10 b
   lia
def rD(c:Vq a)(b:∀n∈ns,n<10^60):(Ε a ns).length<=61*(ns.length+1):=by
 rw[dI,uy];have:=rZ (s:=[32]) (m:=60) (l:=a.cps.toList::ns.map fL) λx hx=>by
  rcases aA.mp hx with rfl|hx
  .have:=c.len;rw[dI]at this
   lia
  .obtain⟨n,h1,rfl⟩:=aE.mp hx;exact mf 59 n (b n h1)
 rw[aR (as:=ns.map fL),aa]at this;exact this
def QS(m:Nat):Str.ofString "web " ++ FS m=Ε Ui [m]:=lI (by
 rw[app_list,uy]
 rfl)
def NG :Str.ofString "road " ++ wds (b::a)=Ε Ub (b::a):=lI (by
 rw[app_list,uy,FR]
 rfl)
def mh(r:Road):List Nat:=[r.a.toNat,r.b.toNat,r.t.toNat,r.u.toNat]
def KI(h:T4 b a)(g:b<=24):qb a=VD (mh a)/\∀n∈mh a,n<10^60:=by
 have f:=h.a0;have e:=h.b0;have c:=h.t0;have d:=h.u0;have l:=h.a1;have i:=h.b1;have k:=h.t1;have j:=h.u1
 constructor
 .unfold qb mh VD;simp only[aF,dB];rw[bJ f,bJ e,bJ (dN (by decide) c),bJ (dN (by decide) d)]
 .intro n hn;unfold mh at hn;simp only[aA,fM,or_false]at hn;rcases hn with rfl|rfl|rfl|rfl<;>lia
def Bm(r:Road):Str:=Ε Ub (mh r)
def eJ(m:Int)(a:hR):List Str:=Ε Ui [m.toNat]::a.map Bm
def wbt(m:Int)(a:hR):Str:=Str.join (Str.ofString "\n") (eJ m a)
def PF(m:Int)(a:hR):Txt.split (wbt m a) (Str.ofString "\n")=eJ m a:=qJ (c:=10) (ys:=eJ m a) (by unfold eJ;simp) λy hy b=>by
 rcases aA.mp hy with rfl|hy
 .exact MX Eg _ b
 .obtain⟨r,_,rfl⟩:=aE.mp hy;exact MX Bj _ b
def yC(g:Good a b):∀y∈eJ a b,y.length<=305:=by
 intro y hy;have:=g.Β;rcases aA.mp hy with rfl|hy
 .have:=rD Eg (ns:=[a.toNat]) λn c=>by rw[aG.mp c];lia
  have d:[a.toNat].length=1:=rfl
  lia
 .obtain⟨r,hr,rfl⟩:=aE.mp hy;have:=rD Bj (ns:=mh r) (KI (g.ok r hr) g.Β).2;have d:(mh r).length=4:=rfl;unfold Bm
  lia
def qu(g:Good a b):((eJ a b).length:Int)=a:=by
 have:=g.len;unfold eJ;rw[aR,aa]
 lia
theorem Cj :∀{l:List Nat},(∀x∈l,x<=k)->l.sum<=k*l.length
 | [],_=>by simp
 | x::l,h=>by
   have c:=h x (.head _);have b:=Cj λy a=>h y (.tail _ a);rw[aN,aR,n9]
   lia
def Pz(g:Good b a):((eJ b a).map (·.length)).sum+(eJ b a).length*(Str.ofString "\n").length<=16777216:=by
 have f:=Cj (k:=305) (l:=(eJ b a).map (·.length)) λx e=>by
  obtain⟨y,c,rfl⟩:=aE.mp e;exact yC g y c
 have i:=qu g;have h:=g.Β;have d:(Str.ofString "\n").length=1:=rfl;rw[aa]at f;rw[d]
 lia
def Q1(g:Good b a):(wbt b a).length<=60000:=by
 unfold wbt;rw[dI,fQ];have:=rZ (s:=(Str.ofString "\n").cps.toList) (m:=305) (l:=(eJ b a).map (·.cps.toList)) λx d=>by
  obtain⟨y,c,rfl⟩:=aE.mp d;rw[<-dI];exact yC g y c
 have f:=qu g;have e:=g.Β;rw[aa]at this;rw[show(Str.ofString "\n").cps.toList.length=1 from rfl]at this
 lia
end Pb
namespace Pb
open L2 PySem
theorem J8{f h:eX}:∀{l:ej},(∀c∈l,f c<=h c)->(l.map f).sum<=(l.map h).sum
 | [],_=>bF _
 | a::l,hl=>by
   rw[aF,aF,aN,aN];have e:=hl a (.head _);have d:=J8 (l:=l) λc b=>hl c (.tail _ b)
   lia
def CB:∀(a:ej),(List.range a.length).map (λi=>a.getD i 0)=a:=λa=>by
 refine fK λi=>?_;rw[aP];by_cases h:i<a.length
 .rw[iK h,aB h];show some (a.getD i 0)=_;rw[List.getD,aB h]
  rfl
 .rw[bP (by rw[cK];lia),bP (by lia)]
  rfl
def MK{a:ej}{n:Nat}(h:a.length=n):((cj n).map λv=>a.getD v.toNat 0).sum=a.sum:=by
 unfold cj;rw[fD,<-h];exact congrArg List.sum (CB a)
def zK{a:ej}(h:∀x∈a,0<=x)(i:Nat):0<=a.getD i 0:=by
 rw[List.getD];cases e:a[i]? with
 | none=>exact bF _
 | some y=>exact h y (aQ e)
theorem JP(R:ε d f b a c):∀(n:Nat)(v:Int),c v=n->0<=v->v<d->DG a b n v=true
 | 0,v,e,h0,h1=>by
   refine bD (Classical.byContradiction λh=>?_);have:=R.pos h0 h1 h
   lia
 | n+1,v,e,h0,h1=>by
   show(decide (v=b)||DG a b n (a v))=true;by_cases h:v=b
   .rw[bD h];rfl
   .have u:=R.up v h0 h1 h;rw[JP R n (a v) (by lia) u.1.1 u.1.2,lX]
def uH(g:Good c d)(R:ε c d a b e)(i:0<=a)(f:a<c):∃t,eE c d a b e a=a::t/\Order c a b t:=B6 g R i f (tm g R _ a i f).1 λv=>by
 rw[Ae g R i f];exact⟨λh=>h.1,λh=>⟨h,JP R _ v rfl h.1 h.2⟩⟩
theorem JL{f:eX}{C:Int}:∀{l:ej},(∀c∈l,f c<=C)->(l.map f).sum<=C*l.length
 | [],_=>by simp
 | a::l,h=>by
   have e:=h a (.head _);have d:=JL (l:=l) λc b=>h c (.tail _ b);rw[aF,aN,aR,Int.natCast_add,mw];show f a+(l.map f).sum<=C*l.length+C*1
   lia
end Pb
namespace L2
open PySem
def Gy(K:gy)(e:Addr)(d:TS)(g:TH):TH:=λD c a f H=>∃C b,a=.ref C/\PySem.W.mroIn K C (.ref e)=some b/\if b=true then d D c H else g D c a f H
def xi{X:Cx}{x:Str}{B:List Stmt}{rest:List ExceptHandler}(M:U7 X.K a)(P:Gl X x)(F:X.mg x=some (.ref a))(w:∀e,UX (X.held e).Wl (d::B) g)(U:Zk X rest c)(hdb:(x==("__debug__":Str))=false:=by decide):Zk X (.ExceptHandler (some (.Name x j)) none (d::B) i::rest) (Gy X.K a g c):=by
 intro l s A H D r T O W I t le lt h;obtain⟨C,b,rfl,m,q⟩:=h;refine wpAny_handleBy_cons (codeAny_handlers_test (qo (X:=X.held (.ref r)) (I.held _) P F ?_ hdb)) (by nofun);obtain⟨N,vs,Q,V,Z,h4,Y,h6⟩:=id t.e;refine Iq I.Uz ⟨N,Q,V⟩ M m ?_;cases b with
 | false=>exact U l s A H D r T _ W I t le lt (by simpa using q)
 | true=>
   rw[aj rfl]at q;refine codeAny_handlers_suite (wf (fs:=ϥ X.stack) t λG R k=>?_);have L:Inv X l A H { s with heap:=G }:=I.moved (tk:=s.toks) k λb w=>by rw[aG.mp w];exact lt.all
   have E:=L.held (.ref r);refine cP (w (.ref r) l _ _ _ _ (E.wish _) q) (λf y z=>?_) λ_ _ z=>False.elim z;have n:∀{o:St}{p:Hp},Inv (X.held (.ref r)).Wl l o p y->Inv X l o p y:=λJ=>J.Ϙ.UG I.ok.hd;dsimp only;cases f with
   | next=>
     obtain⟨o,p,J,z⟩:=z;exact⟨_,p,n J,z⟩
   | brk=>
     obtain⟨o,p,J,z⟩:=z;exact⟨_,p,n J,z⟩
   | cont=>
     obtain⟨o,p,J,z⟩:=z;exact⟨_,p,n J,z⟩
   | ret u=>
     obtain⟨v,o,p,J,S,z⟩:=z;exact⟨v,_,p,n J,S,z⟩
end L2
namespace Pb
open L2 PySem
def Kx :kW c b a []:=λi s h=>by simp at h
def AB(h:mC d a b c=true)(k:kW d a (cQ a b c) e):kW d a b (c::e):=by
 intro i g f;cases i with
 | zero=>cases f;exact h
 | succ i=>exact k i g f
def wJ(h:kW d a b (c::e)):mC d a b c=true/\kW d a (cQ a b c) e:=⟨h 0 c rfl,λi f g=>h (i+1) f g⟩
theorem AD:∀{d e:List ϵ}{c:ej},kW b a c d->kW b a (d.foldl (cQ a) c) e->kW b a c (d++e)
 | [],_,_,_,k=>k
 | s::d,e,c,h,k=>AB (wJ h).1 (AD (wJ h).2 k)
def Ls(c:ej)(b:List ϵ):oW a c b b.length=b.foldl (cQ a) c:=by
 unfold oW;rw[bx]
theorem rC:∀(c:List ϵ)(b:ej),(c.foldl (cQ a) b).length=b.length
 | [],_=>rfl
 | s::c,b=>by rw[gZ,rC c,uX]
theorem vd :∀(l:ej)(g:ej),(∀A v B,l=A++v::B->b v=true->mC f a (((A.filter b).map d).foldl (cQ a) g) (d v)=true)->kW f a g ((l.filter b).map d)
 | [],g,_=>Kx
 | u::l,g,h=>by
   by_cases c:b u=true
   .rw[bZ c,aF];refine AB (h [] u l rfl c) (vd l _ λA v B e q=>?_);have:=h (u::A) v B (by rw[e];rfl) q;rw[bZ c]at this;exact this
   .rw[b8 c];refine vd l g λA v B e q=>?_;have:=h (u::A) v B (by rw[e];rfl) q;rw[b8 c]at this;exact this
def dlt(a:hR)(v:Int)(s:ϵ):Int:=(if s.2.1=v then s.2.2 else 0)-(if s.1=v then s.2.2*gd a s.1 s.2.1 else 0)
def FH(m:Int)(s:ϵ):Prop:=(0<=s.1/\s.1<m)/\(0<=s.2.1/\s.2.1<m)/\s.1≠s.2.1
def Pd(q:(f.length:Int)=h)(l:FH h i)(o:0<=e)(p:e<h):(cQ g f i).getD e.toNat 0=f.getD e.toNat 0+dlt g e i:=by
 obtain⟨a,b,n⟩:=i;obtain⟨j,m,ne⟩:=l;change 0<=a/\a<h at j;change 0<=b/\b<h at m;change a≠b at ne;unfold cQ dlt;show((f.set a.toNat (f.getD a.toNat 0-n*gd g a b)).set b.toNat ((f.set a.toNat (f.getD a.toNat 0-n*gd g a b)).getD b.toNat 0+n)).getD e.toNat 0=f.getD e.toNat 0+((if b=e then n else 0)-(if a=e then n*gd g a b else 0));generalize n*gd g a b=k;rw[g9 _ _ _ _ (by rw[bz];lia),g9 _ _ _ _ (by lia),g9 _ _ _ _ (by lia)];by_cases c:b=e
 .subst c;rw[aj rfl,aj rfl,ah ne,ah (show ¬a.toNat=b.toNat by lia)]
  lia
 .rw[ah (show ¬b.toNat=e.toNat by lia),ah c];by_cases d:a=e
  .subst d;rw[aj rfl,aj rfl]
   lia
  .rw[ah (show ¬a.toNat=e.toNat by lia),ah d]
   lia
theorem tK(f:0<=a)(g:a<c):∀(e:List ϵ)(d:ej),(d.length:Int)=c->(∀s∈e,FH c s)->(e.foldl (cQ b) d).getD a.toNat 0=d.getD a.toNat 0+(e.map (dlt b a)).sum
 | [],d,_,_=>by simp
 | s::e,d,xl,h=>by
   rw[gZ,tK f g e (cQ b d s) (by rw[uX];exact xl) (λt i=>h t (aw _ i)),Pd xl (h s aL) f g,aF,aN]
   lia
theorem Cy(g:ϵ->Int)(f:Int->ϵ)(p:Int->Bool):∀l:List Int,(((l.filter p).map f).map g).sum=(l.map λu=>if p u=true then g (f u)else 0).sum
 | []=>rfl
 | u::l=>by
   by_cases c:p u=true
   .rw[bZ c,aF,aF,aN,Cy g f p l,aF,aN,aj c]
   .rw[b8 c,Cy g f p l,aF,aN,ah c]
    lia
theorem Af(f g:eX):∀l:List Int,(l.map λu=>f u-g u).sum=(l.map f).sum-(l.map g).sum
 | []=>rfl
 | u::l=>by
   simp only[aF,aN,Af f g l]
   lia
theorem zG(f:eX)(v:Int):∀l:List Int,l.Nodup->(l.map λu=>if u=v then f u else 0).sum=if v∈l then f v else 0
 | [],_=>by simp
 | u::l,nd=>by
   have a:=aZ.mp nd;rw[aF,aN,zG f v l a.2];by_cases c:u=v
   .subst c;rw[aj rfl,ah a.1,aj aL]
    lia
   .rw[ah c];by_cases d:v∈l
    .rw[aj d,aj (aw _ d)];lia
    .rw[ah d,ah (λz=>by rcases aA.mp z with z|z;exact c z.symm;exact d z)];lia
theorem LI(f:eX)(p:Int->Prop)[DecidablePred p]:∀l:List Int,(l.map λu=>if p u then f u else 0).sum=((l.filter λu=>decide (p u)).map f).sum
 | []=>rfl
 | u::l=>by
   rw[aF,aN,LI f p l];by_cases c:p u
   .rw[aj c,bZ (p:=λu=>decide (p u)) (bD c),aF,aN]
   .rw[ah c,b8 (p:=λu=>decide (p u)) (by simpa using c)];lia
def UH(b:hR)(a:eX)(v:Int):Int:=(cD b (a v) v).getD 1
def jC(b:hR)(a:eX)(st:eX)(v:Int):Int:=if 0<=st v then st v/Uq b a v else 0
def gU(st:eX)(v:Int):Int:=if 0<=st v then 0 else-st v
def Bd(b:hR)(a:eX)(st:eX)(v:Int):Bool:=decide (0<jC b a st v)
def yQ(st:eX)(v:Int):Bool:=decide (st v<0)
def Oi(b:hR)(a:eX)(st:eX)(v:Int):ϵ:=(v,a v,jC b a st v)
def NF(a:eX)(st:eX)(v:Int):ϵ:=(a v,v,- st v)
def iP(b:hR)(a:eX)(st:eX)(l:ej):List ϵ:=(l.filter (Bd b a st)).map (Oi b a st)
def ko(a:eX)(st:eX)(l:ej):List ϵ:=(l.filter (yQ st)).map (NF a st)
def Pm(c:Bd b a d e=true):iP b a d (f++[e])=iP b a d f++[Oi b a d e]:=by
 unfold iP;rw[b7,bZ c,au]
 rfl
def O5(c:¬Bd b a d f=true):iP b a d (e++[f])=iP b a d e:=by
 unfold iP;rw[b7,b8 c,fH,bX]
def Px(c:yQ b d=true):ko a b (e++[d])=ko a b e++[NF a b d]:=by
 unfold ko;rw[b7,bZ c,au]
 rfl
def Om(c:¬yQ a e=true):ko b a (d++[e])=ko b a d:=by
 unfold ko;rw[b7,b8 c,fH,bX]
def wR(g:Good d a)(R:ε d a f b e)(l:0<=c)(j:c<d)(i:c≠f):2<=Uq a b c/\2<=UH a b c:=by
 obtain⟨k,o,m,_⟩:=jg g R l j i;obtain⟨p,h,n,_⟩:=rE g R l j i;unfold Uq UH;rw[o,h];exact⟨m,n⟩
def Er(st:eX)(v:Int):ό rs par v (st v)=jC rs par st v-gU st v*UH rs par v:=by
 unfold ό jC gU Uq UH;by_cases c:0<=st v
 .rw[aj c,aj c,aj c];lia
 .rw[ah c,ah c,ah c,j6];lia
def GV(st:eX)(v:Int):0<=gU st v:=by
 unfold gU;by_cases c:0<=st v
 .rw[aj c];exact bF _
 .rw[ah c];lia
def Si(g:Good e b)(R:ε e b h d f)(st:eX)(k:0<=a)(j:a<e)(i:a≠h):0<=jC b d st a:=by
 have:=(wR g R k j i).1;unfold jC;by_cases c:0<=st a
 .rw[aj c];exact iR c (by lia)
 .rw[ah c];exact bF _
def LJ(g:Good e b)(R:ε e b h d f)(st:eX)(k:0<=a)(j:a<e)(i:a≠h):jC b d st a*Uq b d a<=st a+gU st a:=by
 have:=(wR g R k j i).1;unfold jC gU;by_cases c:0<=st a
 .rw[aj c,aj c,lK];exact Int.ediv_mul_le _ (by lia)
 .rw[ah c,ah c];lia
def Qz(g:Good f d)(R:ε f d j a i)(st:eX)(m:0<=b)(l:b<f)(k:b≠j):(0<ό d a b (st b)->ό d a b (st b)=jC d a st b)/\(¬0<ό d a b (st b)->¬0<jC d a st b):=by
 have n:=(wR g R m l k).2;have e:=Er (rs:=d) (par:=a) st b;unfold jC gU at e;unfold jC;by_cases c:0<=st b
 .rw[aj c,aj c,jL,lY]at e;rw[e,aj c];exact⟨λ_=>rfl,λh=>h⟩
 .rw[ah c,ah c]at e;rw[ah c];have:0<=(- st b)*UH d a b:=fR (by lia) (by lia);exact⟨λh=>by lia,λ_=>by decide⟩
def zL(g:Good b c)(R:ε b c d a e){t:ej}(h:t.Nodup)(j:∀x∈t,(0<=x/\x<b)/\x≠d){v:Int}(m:0<=v)(i:v<b)(l:∀k,0<=k->k<b->k≠d->a k=v->k∈t)(f:eX):(t.map λu=>if a u=v then f u else 0).sum=((bU b c (front d a v) v).map f).sum:=by
 rw[LI f (λu=>a u=v),rh ((rN g R h j m i l).map f)]
def BI{l:ej}{f h:eX}(e:∀u∈l,f u=h u):(l.map f).sum=(l.map h).sum:=by rw[b5 e]
def JY{m:Int}{b:hR}{r:Int}{a:eX}{d:fb}(g:Good m b)(R:ε m b r a d)(st:eX){A:ej}(h:∀x∈A,(0<=x/\x<m)/\x≠r)(v:Int):((iP b a st A).map (dlt b v)).sum=(A.map λu=>if a u=v then jC b a st u else 0).sum-(A.map λu=>if u=v then jC b a st u*Uq b a u else 0).sum:=by
 unfold iP;rw[Cy,<-Af];refine BI λu i=>?_;obtain⟨e,f⟩:=h u i;have j:=Si g R st e.1 e.2 f;by_cases c:Bd b a st u=true
 .rw[aj c];rfl
 .have z:jC b a st u=0:=by
   unfold Bd at c;rw[bw]at c
   lia
  rw[ah c,z,jL,ite_self,ite_self]
  rfl
def JU{rs:hR}{par:eX}(st:eX)(A:ej)(v:Int):((ko par st A).map (dlt rs v)).sum=(A.map λu=>if u=v then gU st u else 0).sum-(A.map λu=>if par u=v then gU st u*UH rs par u else 0).sum:=by
 unfold ko;rw[Cy,<-Af];refine BI λu a=>?_;by_cases c:yQ st u=true
 .have c':¬0<=st u:=by unfold yQ at c;rw[bw]at c;lia
  have e:gU st u=- st u:=by unfold gU;rw[ah c']
  rw[aj c,e]
  rfl
 .have c':0<=st u:=by unfold yQ at c;rw[bw]at c;lia
  have e:gU st u=0:=by unfold gU;rw[aj c']
  rw[ah c,e,jL,ite_self,ite_self]
  rfl
def EI(R:ε c b d a f)(st:eX)(j:∀x∈e,(0<=x/\x<c)/\x≠d):∀s∈iP b a st e,FH c s:=λs i=>by
 obtain⟨u,k,rfl⟩:=aE.mp i;obtain⟨g,h⟩:=j u (bG.mp k).1;exact⟨g,(R.up u g.1 g.2 h).1,(R.ne g.1 g.2 h).symm⟩
def Ep(R:ε b f c a e)(st:eX)(j:∀x∈d,(0<=x/\x<b)/\x≠c):∀s∈ko a st d,FH b s:=λs i=>by
 obtain⟨u,k,rfl⟩:=aE.mp i;obtain⟨g,h⟩:=j u (bG.mp k).1;exact⟨(R.up u g.1 g.2 h).1,g,R.ne g.1 g.2 h⟩
section
variable{m:Int}{f:hR}{r:Int}{a:eX}{b:eX}{d e:ej}
structure bY(m:Int)(f:hR)(r:Int)(a:eX)(b:eX)(d e:ej):Prop where
 len:(d.length:Int)=m
 yn:∀v:Int,0<=e.getD v.toNat 0
 top:0<=b r
 eq:∀v,0<=v->v<m->b v=d.getD v.toNat 0-e.getD v.toNat 0+((bU m f (front r a v) v).map λc=>ό f a c (b c)).sum
end
def bY.kid{m:Int}{b:hR}{r:Int}{a:eX}{st:eX}{d:ej}{f:ej}(L:bY m b r a st d f){v:Int}(g:0<=v)(h:v<m):d.getD v.toNat 0+((bU m b (front r a v) v).map (jC b a st)).sum=st v+f.getD v.toNat 0+((bU m b (front r a v) v).map λc=>gU st c*UH b a c).sum:=by
 have e:=L.eq v g h;have i:((bU m b (front r a v) v).map λc=>ό b a c (st c)).sum=((bU m b (front r a v) v).map (jC b a st)).sum-((bU m b (front r a v) v).map λc=>gU st c*UH b a c).sum:=by
  rw[<-Af];exact BI λu _=>Er st u
 lia
def Lr(g:Good e a)(R:ε e a f b h)(st:eX)(j:0<=d)(k:d<e):0<=((bU e a (front f b d) d).map λc=>gU st c*UH a b c).sum:=tN λx l=>by
 obtain⟨c,m,rfl⟩:=aE.mp l;obtain⟨i,n,_⟩:=(cR g R j k).mp m;exact fR (GV st c) (by have:=(wR g R i.1 i.2 n).2;lia)
def Ey{l:ej}(h:l.Nodup):l.reverse.Nodup:=(List.reverse_perm l).nodup_iff.mpr h
def bY.inn(g:Good j h)(R:ε j h n f p)(O:Order j n f m)(L:bY j h n f i l o):kW j h l (iP h f i m.reverse):=by
 refine vd _ _ λA v B e q=>?_;have D:m=B.reverse++v::A.reverse:=by
  have:=congrArg List.reverse e;rw[iy,gL,kJ,bO]at this;exact this
 have nd:=Ey (aZ.mp O.nd).2;rw[e]at nd;have w:=(cw.mp nd).1;have H:v∉A:=λz=>(cw.mp nd).2.2 v z v aL rfl;have F:∀x∈A,x∈m:=λx E=>by rw[D];exact bo _ (aw _ (dq.mpr E))
 have t:∀x∈A,(0<=x/\x<j)/\x≠n:=λx E=>O.places x (F x E);obtain⟨r,G⟩:=O.places v (by rw[D];simp);have u:=R.up v r.1 r.2 G;have J:∀k,0<=k->k<j->k≠n->f k=v->k∈A:=λk a b c d=>dq.mp (O.kids R D k a b c d);have s:0<jC h f i v:=bu q;have C:((iP h f i A).foldl (cQ h) l).getD v.toNat 0=i v+o.getD v.toNat 0+((bU j h (front n f v) v).map λc=>gU i c*UH h f c).sum:=by
  rw[tK r.1 r.2 _ l L.len (EI R i t)];rw[JY g R i t v,zL g R w t r.1 r.2 J,zG _ v A w,ah H,lY];exact L.kid r.1 r.2
 have y:0<=i v:=by
  by_cases c:0<=i v
  .exact c
  .unfold jC at s;rw[ah c]at s
   lia
 have le:=LJ g R i r.1 r.2 G;have I:gU i v=0:=by unfold gU;rw[aj y]
 rw[I,lK]at le;have yn:=L.yn v;have K:=Lr g R i r.1 r.2;unfold mC oG;simp only[bB,bw];refine⟨⟨⟨r,(j2 g).mpr u.2.1⟩,s⟩,?_⟩;show jC h f i v*gd h v (f v)<=((iP h f i A).foldl (cQ h) l).getD v.toNat 0;rw[C];have:gd h v (f v)=Uq h f v:=rfl;rw[this]
 lia
def bY.mid(g:Good j f)(R:ε j f i d o)(O:Order j i d l)(L:bY j f i d h m n){v:Int}(q:0<=v)(p:v<j):((iP f d h l.reverse).foldl (cQ f) m).getD v.toNat 0=h v+n.getD v.toNat 0+((bU j f (front i d v) v).map λc=>gU h c*UH f d c).sum-(if v=i then 0 else jC f d h v*Uq f d v):=by
 have nd:=Ey (aZ.mp O.nd).2;have r:∀x∈l.reverse,(0<=x/\x<j)/\x≠i:=λx s=>O.places x (dq.mp s);rw[tK q p _ m L.len (EI R h r),JY g R h r v,zL g R nd r q p (λk a b c _=>dq.mpr ((O.all k a b).resolve_left c)),zG _ v _ nd];have:=L.kid q p;have e:(if v∈l.reverse then jC f d h v*Uq f d v else 0)=if v=i then 0 else jC f d h v*Uq f d v:=by
  by_cases c:v=i
  .rw[aj c,ah (λz=>(r v z).2 c)]
  .rw[ah c,aj (dq.mpr ((O.all v q p).resolve_left c))]
 rw[e]
 lia
def bY.left(g:Good h e)(R:ε h e f d i)(L:bY h e f d a k j)(l:0<=b)(m:b<h):0<=a b+gU a b-(if b=f then 0 else jC e d a b*Uq e d b):=by
 by_cases c:b=f
 .rw[aj c,c];have:=L.top;have:=GV a f
  lia
 .rw[ah c];have:=LJ g R a l m c
  lia
def bY.out(g:Good m i)(R:ε m i n f o)(O:Order m n f j)(L:bY m i n f h l p):kW m i ((iP i f h j.reverse).foldl (cQ i) l) (ko f h j):=by
 refine vd _ _ λA c B e q=>?_;have nd:=(aZ.mp O.nd).2;have M:=(aZ.mp O.nd).1;rw[e]at nd;have v:=(cw.mp nd).1;have s:∀x∈A,x∈j:=λx r=>by rw[e];exact bS _ r
 have y:∀x∈A,(0<=x/\x<m)/\x≠n:=λx r=>O.places x (s x r);obtain⟨t,G⟩:=O.places c (by rw[e];simp);have u:=R.up c t.1 t.2 G;have K:h c<0:=bu q;have P:gU h c=- h c:=by unfold gU;rw[ah (by lia)]
 have N:(((iP i f h j.reverse).foldl (cQ i) l).length:Int)=m:=by rw[rC];exact L.len
 have H:f c=n\/f c∈A:=by
  have af:=O.af;rw[e,show A++c::B=(A++[c])++B by simp]at af;rcases af.up c (by simp)with z|z
  .exact .inl (aG.mp z)
  .rcases aX.mp z with z|z
   .exact .inr z
   .exact absurd (aG.mp z) (R.ne t.1 t.2 G)
 have C:(A.map λu=>if u=f c then gU h u else 0).sum=gU h (f c):=by
  rw[zG _ _ A v];rcases H with z|z
  .rw[z,ah (λw=>M (s n w))];unfold gU;rw[aj L.top]
  .rw[aj z]
 have all:=zL g R (aZ.mp O.nd).2 O.places u.1.1 u.1.2 (λk a b d _=>(O.all k a b).resolve_left d) (λw=>gU h w*UH i f w);have E:(A.map λw=>if f w=f c then gU h w*UH i f w else 0).sum+gU h c*UH i f c<=(j.map λw=>if f w=f c then gU h w*UH i f w else 0).sum:=by
  rw[e,au,aF,cU,aN,aj rfl];have:0<=(B.map λw=>if f w=f c then gU h w*UH i f w else 0).sum:=tN λx r=>by
   obtain⟨w,I,rfl⟩:=aE.mp r;obtain⟨F,Q⟩:=O.places w (by rw[e];simp[I]);have T:=(wR g R F.1 F.2 Q).2;by_cases z:f w=f c
   .rw[aj z];exact fR (GV h w) (by lia)
   .rw[ah z];exact bF _
  lia
 have D:((ko f h A).foldl (cQ i) ((iP i f h j.reverse).foldl (cQ i) l)).getD (f c).toNat 0=((iP i f h j.reverse).foldl (cQ i) l).getD (f c).toNat 0+(gU h (f c)-(A.map λw=>if f w=f c then gU h w*UH i f w else 0).sum):=by
  rw[tK u.1.1 u.1.2 _ _ N (Ep R h y)];rw[JU (rs:=i) (par:=f) h A (f c),C]
 have J:=L.mid g R O u.1.1 u.1.2;have S:=L.left g R u.1.1 u.1.2;have yn:=L.yn (f c);unfold mC oG;simp only[bB,bw];refine⟨⟨⟨u.1,(j2 g).mpr u.2.1.symm⟩,by show 1<=- h c;lia⟩,?_⟩;show-h c*gd i (f c) c<=((ko f h A).foldl (cQ i) ((iP i f h j.reverse).foldl (cQ i) l)).getD (f c).toNat 0;rw[D,J,<-P];have:gd i (f c) c=UH i f c:=rfl;rw[this]
 lia
def bY.all(g:Good c b)(R:ε c b h a i)(O:Order c h a d)(L:bY c b h a e f j):kW c b f (iP b a e d.reverse++ko a e d):=AD (L.inn g R O) (L.out g R O)
def bY.meets(g:Good l h)(R:ε l h n f p)(O:Order l n f j)(L:bY l h n f i m o){v:Int}(r:0<=v)(q:v<l):o.getD v.toNat 0<=((iP h f i j.reverse++ko f i j).foldl (cQ h) m).getD v.toNat 0:=by
 have nd:=(aZ.mp O.nd).2;have s:(((iP h f i j.reverse).foldl (cQ h) m).length:Int)=l:=by rw[rC];exact L.len
 rw[jr,tK r q _ _ s (Ep R i O.places),JU,L.mid g R O r q,zL g R nd O.places r q (λk a b d _=>(O.all k a b).resolve_left d) (λw=>gU i w*UH h f w),zG _ v _ nd];have t:=L.left g R r q;have e:(if v∈j then gU i v else 0)=gU i v:=by
  by_cases c:v∈j
  .rw[aj c]
  .rw[ah c];have:v=n:=(O.all v r q).resolve_right c;rw[this];unfold gU;rw[aj L.top]
 rw[e]
 lia
def Qd{a:ej}(b:∀y∈a,0<=y)(i:Nat):0<=a.getD i 0:=by
 rw[List.getD];cases e:a[i]? with
 | none=>exact bF _
 | some y=>exact b y (aQ e)
def Qw{m:Int}{c:hR}{r:Int}{a:eX}{b:fb}{d:ej}{e:ej}(g:Good m c)(R:ε m c r a b)(i:(d.length:Int)=m)(k:∀y∈e,0<=y)(j:0<=ψ m c r a b e d r):bY m c r a (ψ m c r a b e d) d e:=⟨i,λv=>Qd k _,j,λv f h=>wQ g R f h⟩
def tf(g:Good b d)(R:ε b d i j k)(v:0<=i)(q:i<b)(n:ε b d a h f)(l:0<=a)(m:a<b)(p:(c.length:Int)=b)(u:∀x∈c,0<=x)(s:∀y∈e,0<=y)(t:0<=ψ b d i j k e c i):0<=ψ b d a h f e c a:=by
 obtain⟨z,r,o,_⟩:=Rl g R v q s _ c rfl p u t;have A:=Sm g n l m o;have B:=r.YR (ys:=e) g n l m p;have w:=o a l m
 lia
def Lk(g:Good c f)(R:ε c f a d e)(i:0<=a)(h:a<c)(l:(b.length:Int)=c)(n:Int):ψ c f a d e ys (b.set a.toNat (b.getD a.toNat 0+n)) a=ψ c f a d e ys b a+n:=by
 show Ζ c f a d e _ _ a=Ζ c f a d e _ _ a+n;rw[NL g R i h (held:=λv=>(dS c b ys).getD v.toNat 0) λv j k m=>?_]
 .show _+((dS c (b.set a.toNat (b.getD a.toNat 0+n)) ys).getD a.toNat 0-(dS c b ys).getD a.toNat 0)=_;rw[py,py,aj (by lia),aj (by lia),g9 _ _ _ _ (by lia),aj rfl]
  lia
 .show(dS c (b.set a.toNat (b.getD a.toNat 0+n)) ys).getD v.toNat 0=(dS c b ys).getD v.toNat 0;rw[py,py,aj (by lia),aj (by lia),g9 _ _ _ _ (by lia),ah (by lia)]
end Pb
namespace L2
open PySem PySem.Spec PyProof.Rows
def yA(W:a.calm=true):lS a (.builtin "min") (λz H Q=>∃(p:Addr)(c:ej),z=[.ref p]/\ν a.K H p (c.map V.int)/\c≠[]/\∀y,y∈c->(∀x∈c,y<=x)->Q (.int y) H):=by
 intro E s σ H z Z Q I r h;obtain⟨p,c,rfl,T,N,q⟩:=h;obtain⟨u,rfl,m⟩:=oE r;cases m;have P:a.A.in1.handled=none:=I.ok.hd W;obtain⟨d,J,D,hz⟩:=I.list T;have f:d.length=c.length:=by rw[<-J.length,aa]
 have L:∀(i:Nat)(v:Value),d.toArray[i]?=some v->∃t,v=Value.int (c.getD i 0) t:=λi v g=>by
  have k:d[i]?=some v:=by simpa using g
  have G:i<c.length:=by rw[<-f];exact(aD.mp k).1
  obtain⟨u,M,m⟩:=J.get (i:=i) (x:=V.int c[i]) (by rw[aP,aB G];rfl);rw[k]at M;cases M;obtain⟨t,e⟩:=(show ∃t,v=Value.int c[i] t from m);exact⟨t,by rw[e];simp[List.getD,G]⟩
 have C:=D.isList;have F:=D.lt;have X:0<c.length:=nJ.mpr N;refine call_min_walk (gj C ?_);refine⟨s.heap.objs.size,[s.heap.objs.size,p],[s.heap.objs.size],d.toArray.size,_,_,_,rfl,Walks.list (A:=a.A.in1) P _ p (bf F) d.toArray,⟨⟨_,bd _ rfl,rfl,rfl⟩,C.push _⟩,λb l=>?_,by rw[aY,f];exact X,CmpOf.ints_lt (λi=>c.getD i 0) λi v g=>L i v g,λv S O g Y=>?_⟩
 .simp only[Heap.push,ni];rcases aA.mp l with e|e
  .rw[e];exact fN _
  .rw[aG.mp e];exact gh F
 .have kk:∀b o,s.heap.get? b=some o->S.get? b=some o:=λb o w=>Y b o (λR=>by rw[aG.mp R]at w;exact di _ (aO w)) (aI _ w);obtain⟨t,rfl⟩:=L _ v g;obtain⟨B,n⟩:=AK (λi=>c.getD i 0) (d.toArray.size-1);rw[aY,f]at B n ⊢;generalize argBest (λi j=>decide (c.getD i 0<c.getD j 0)) (c.length-1)=b at B n ⊢;have l:b<c.length:=by lia
  refine⟨.int _,H,I.kept (t':=O) kk,⟨t,rfl⟩,q _ ?_ λx U=>?_⟩
  .rw[List.getD,aB l];exact dL l
  .obtain⟨i,k,rfl⟩:=j1 U;have:=n i (by lia);have e:c.getD i 0=c[i]:=(by rw[List.getD,aB k];rfl);rw[e]at this;exact this
end L2
namespace Pb
open L2 PySem
theorem zM:∀{l:ej}{x:Int},(∀y∈l,0<=y)->x∈l->x<=l.sum
 | y::l,x,h,hx=>by
   have c:=tN λz a=>h z (aw y a);have b:=h y aL;rw[aN];rcases aA.mp hx with e|e
   .lia
   .have:=zM (λz a=>h z (aw y a)) e
    lia
end Pb
namespace L2
open PySem
def MV(s:Nat->List V->St->Hp->Prop)(D:s 0 [] a g)(F:∀i n o H,s i n o H->ϐ K c H j xs)(E:∀(i:Nat) (x:V) (n:List V) (o:St) (H:Hp) (q:Addr) (N:List V->St->Hp->Prop),(∀u p t,s (i+1) u p t->N u p t)->xs[i]?=some x->s i n o H->H q=none->k (.ref q) o (upd H q (.tup [.int i,x])) λr M=>f r M λb w=>
 if b=true then h r w λy B=>B d=some (.lst n)/\n.length<sizeLine/\N (n++[y]) r (upd B d (.lst (n++[y])))else N n r w)(G:∀n o H,s xs.length n o H->l (.ref d) H):uf (Ite K c j) d l k f h a g:=by
 refine⟨λi m n o H=>m=xs.length-i/\i<=xs.length/\s i n o H,⟨_,rfl,cI _,D⟩,?_⟩;rintro i m n o H ⟨rfl,P,pv⟩;have v:=F i n o H pv;by_cases A:i<xs.length
 .refine .inr ⟨⟨xs,xs[i],v,aB A⟩,λx t y=>?_⟩;obtain⟨O,I,L,rfl,rfl,J⟩:=y;exact E i I n o H O (λu p t=>∃z,z<xs.length-i/\(z=xs.length-(i+1)/\i+1<=xs.length/\s (i+1) u p t)) (λu p t C=>⟨xs.length-(i+1),by lia,rfl,A,C⟩) (J xs v) pv L
 .have e:i=xs.length:=by lia
  subst e;exact .inl ⟨⟨xs,v,rfl⟩,G n o H pv⟩
def Ϸ(o:Addr)(H a:Hp):Prop:=∀b x,H b=some x->b≠o->a b=some x
def Ϸ.refl :Ϸ b a a:=λ_ _ h _=>h
def Ϸ.then(a:Ϸ g f e)(b:δ e d):Ϸ g f d:=λc x h n=>b c x (a c x h n)
def Ϸ.put(a:Ϸ d e b)(x:HO):Ϸ d e (upd b d x):=λc y h n=>by rw[aW n];exact a c y h n
def Ϸ.ϭ(e:Ϸ j b g)(o:b j=some (.ins k d i))(h:ϐ l c b a f):ϐ l c g a f:=by
 have n:∀{y:HO},b a=some y->y≠.ins k d i->a≠j:=λm p z=>by rw[z,o]at m;cases m;exact p rfl
 cases c
 .rcases h with(h|⟨o',h⟩)|h
  .exact .inl (.inl (e _ _ h (n h (by nofun))))
  .exact .inl (.inr ⟨o',e _ _ h (n h (by nofun))⟩)
  .exact .inr h
 .rcases h with(h|⟨o',h⟩)|h
  .exact .inl (.inl (e _ _ h (n h (by nofun))))
  .exact .inl (.inr ⟨o',e _ _ h (n h (by nofun))⟩)
  .exact .inr h
end L2
namespace Pb
open PySem L2
def oP(a b:ej):List Int:=List.zipWith (·+·) a b
def Ϗ(m:Int):List Int:=List.replicate m.toNat 0
def uP(m:Int)(a:List (List Int)):List Int:=a.foldl oP (Ϗ m)
def qU(b l:ej):List Int:=if b.sum<l.sum then l else b
def Mw(h:b.sum<a.sum):qU b a=a:=aj h
def Lv(h:¬a.sum<b.sum):qU a b=a:=ah h
def Ug(b:hR)(a:eX)(v:Int):Int:=(cD b v (a v)).getD 1
def RW(b:hR)(a:eX)(v:Int):Int:=(cD b (a v) v).getD 1
abbrev kd(m:Int)(b:hR)(r:Int)(a:eX)(v:Int):List Int:=bU m b (front r a v) v
def eQ(m:Int)(b:hR)(r:Int)(a:eX)(c:Int->List Int)(v:Int)(x:V):List Int:=uP m (((kd m b r a v).filter λk=>decide (V.int k≠x)).map c)
def tV(b:ej)(v d:Int):List Int:=b.set v.toNat (b.getD v.toNat 0+d)
def W8(m:Int)(c:hR)(r:Int)(a:eX)(d:eX)(f:Int->List Int)(e:Int->Int->List Int)(v b k:Int):List Int:=oP (e k (Ug c a k*(b-d k*RW c a k+1)-1)) (eQ m c r a f v (.int k))
def qy(m:Int)(c:hR)(r:Int)(a:eX)(b:eX)(d:Int->List Int)(e:Int->Int->List Int)(v y:Int):List Int:=((kd m c r a v).map (W8 m c r a b d e v (b v+y))).foldl qU (tV (eQ m c r a d v .ο) v (b v+y))
def ld(m:Int)(b:hR)(r:Int)(a:eX)(c:eX):Nat->Bool->Int->Int->List Int
 | 0,_,_,_=>[]
 | n+1,true,v,y=>qy m b r a c (λk=>ld m b r a c n false k 0) (λk z=>ld m b r a c n true k z) v y
 | n+1,false,v,_=>if 0<c v then eQ m b r a (λk=>ld m b r a c n false k 0) v .ο else qy m b r a c (λk=>ld m b r a c n false k 0) (λk z=>ld m b r a c n true k z) v (Ug b a v-1)
def TN(m:Int)(d:hR)(r:Int)(b:eX)(a:fb)(c:eX)(v y:Int):List Int:=ld m d r b c (m.toNat-a v) true v y
def ϡ(m:Int)(d:hR)(r:Int)(b:eX)(a:fb)(c:eX)(v:Int):List Int:=ld m d r b c (m.toNat-a v) false v 0
def jm(m:Int)(a:ej):Int:=((cj m.toNat).filter λv=>decide (0<a.getD v.toNat 0)).headD 0
def JB(t:(b.length:Int)=c)(k:∀x∈b,0<=x)(h:b.sum≠0):∃f,((cj c.toNat).filter λv=>decide (0<b.getD v.toNat 0))=jm c b::f/\(0<=jm c b/\jm c b<c)/\0<b.getD (jm c b).toNat 0:=by
 have j:∃x∈b,0<x:=by
  refine Classical.byContradiction λn=>h ?_;have:∀l:List Int,(∀x∈l,x=0)->l.sum=0:=by
   intro l
   induction l with
   | nil=>intro _;rfl
   | cons a l ih=>intro q;rw[aN,q a aL,ih λx d=>q x (aw _ d)];rfl
  refine this b λx d=>?_;have s:=k x d;have u:¬0<x:=λz=>n ⟨x,d,z⟩
  lia
 obtain⟨x,d,p⟩:=j;obtain⟨i,o,rfl⟩:=jS.mp d;have g:(i:Int)∈(cj c.toNat).filter λv=>decide (0<b.getD v.toNat 0):=by
  refine bG.mpr ⟨aQ (gS (show i<c.toNat by lia)),bD ?_⟩;rw[show((i:Int)).toNat=i from rfl,bc,aB o];exact p
 unfold jm;cases e:(cj c.toNat).filter λv=>decide (0<b.getD v.toNat 0)with
 | nil=>rw[e]at g;cases g
 | cons a f=>
   have m:a∈(cj c.toNat).filter λv=>decide (0<b.getD v.toNat 0):=by rw[e];exact aL
   have w:=bG.mp m;have r:=fe.mp w.1;exact⟨f,rfl,⟨r.1,by have:=r.2;show a<c;lia⟩,bu w.2⟩
def QF(m:Int):(Ϗ m).sum=0:=by
 unfold Ϗ
 induction m.toNat with
 | zero=>rfl
 | succ n ih=>rw[cS,aN,ih];rfl
theorem yV:∀{l:ej},(∀x∈l,0<=x)->0<=l.sum
 | [],_=>by decide
 | a::l,h=>by
   have d:=h a aL;have c:=yV λx b=>h x (aw _ b);rw[aN]
   lia
theorem LF:∀{l:ej},(∀x∈l,0<=x)->∀{x:Int},x∈l->x<=l.sum
 | a::l,h,x,hx=>by
   have c:=h a aL;have b:=yV λx hx=>h x (aw _ hx);rw[aN];rcases aA.mp hx with rfl|hx
   .lia
   .have:=LF (λx hx=>h x (aw _ hx)) hx
    lia
theorem MC :∀{l:List f}{g:List c},Paired d l g->∀{i:Nat}{b:c},g[i]?=some b->∃a,l[i]?=some a/\d a b
 | _,_,.nil,i,b,e=>by simp at e
 | _,_,.cons (a:=a) (b:=b') h _,0,b,e=>by
   rw[List.getElem?_cons_zero]at e;cases e;exact⟨a,rfl,h⟩
 | _,_,.cons h hs,i+1,b,e=>by
   rw[i7]at e;obtain⟨a,k,j⟩:=MC hs e;exact⟨a,by rw[i7];exact k,j⟩
theorem DZ :∀{l:List e}{i:List g},(∀a b,a∈l->d a b->c a b)->Paired d l i->Paired c l i
 | _,_,_,.nil=>.nil
 | _,_,f,.cons h hs=>.cons (f _ _ aL h) (DZ (λa b j=>f a b (aw _ j)) hs)
theorem Jm :∀{l:List c}{f:List e},Paired d l f->∀{a:c},a∈l->∃b,d a b
 | _,_,.nil,a,h=>by cases h
 | _,_,.cons (b:=b) h hs,a,ha=>by
   rcases aA.mp ha with rfl|ha
   .exact⟨b,h⟩
   .exact Jm hs ha
theorem Bi{R:a->b->Prop}(e:R d c):∀{l:List a}{f:List b},Paired R l f->Paired R (l++[d]) (f++[c])
 | _,_,.nil=>.cons e .nil
 | _,_,.cons x xs=>.cons x (Bi e xs)
def C3{b:Type}{a:List b}{i:Int}(h:0<=i):aT a i=a[i.toNat]?:=by
 cases e:a[i.toNat]? with
 | some v=>exact iQ h e
 | none=>
   have:=List.getElem?_eq_none_iff.mp e;unfold aT Wo;rw[aj h,ah (by lia)]
   rfl
def Em{m v:Int}(a:0<=v)(b:v<m):(cj m.toNat)[v.toNat]?=some v:=by
 rw[gS (by lia)];exact congrArg some (bJ a)
def Dy{m v:Int}(b:eX)(a:0<=v)(c:v<m):aT (((cj m.toNat).map b).map V.int) v=some (.int (b v)):=iQ a (by
 rw[aP,aP,Em a c]
 rfl)
def DA(m:Int):(Ϗ m).map V.int=List.replicate m.toNat (V.int 0):=by unfold Ϗ;rw[gW]
def Kq :uP c (a++[b])=oP (uP c a) b:=by unfold uP;rw[jr];rfl
def zz(h:∀k∈kd e b g a d,f k=c k):eQ e b g a f d x=eQ e b g a c d x:=by
 unfold eQ;rw[b5 λk i=>h k (bG.mp i).1]
def AL(h:∀k∈kd d b g a c,j k=e k)(n:∀k∈kd d b g a c,∀z,i k z=f k z):qy d b g a l j i c m=qy d b g a l e f c m:=by
 unfold qy W8;rw[zz (x:=.ο) h,b5 λk o=>by rw[n k o,zz (x:=.int k) h]]
def kb(g:Good a h)(R:ε a h i e b)(l:0<=f)(j:f<a)(k:c∈kd a h i e f):((0<=c/\c<a)/\c≠i/\e c=f)/\a.toNat-b f=a.toNat-b c+1/\1<=a.toNat-b c:=by
 have w:=(cR g R l j).mp k;have:=R.pos w.1.1 w.1.2 w.2.1;have d:=ja R w.1.1 w.1.2;rw[w.2.2]at this;exact⟨w,by lia,by lia⟩
def Gv(R:ε c e f d a)(h:0<=b)(g:b<c):∃n,c.toNat-a b=n+1:=⟨c.toNat-a b-1,by have:=ja R h g;lia⟩
def xL(g:Good c b)(R:ε c b h a d)(p:0<=i)(o:i<c):TN c b h a d f i j=qy c b h a f (ϡ c b h a d f) (TN c b h a d f) i j:=by
 obtain⟨n,e⟩:=Gv R p o;have m:∀k∈kd c b h a i,c.toNat-d k=n:=λk l=>by have:=(kb g R p o l).2.1;lia
 unfold TN;rw[e];show qy c b h a f _ _ i j=_;exact AL (λk l=>by show _=ld c b h a f (c.toNat-d k) false k 0;rw[m k l]) (λk l z=>by show _=ld c b h a f (c.toNat-d k) true k z;rw[m k l])
def BA(g:Good d b)(R:ε d b j a f)(p:0<=i)(o:i<d):ϡ d b j a f h i=if 0<h i then eQ d b j a (ϡ d b j a f h) i .ο else TN d b j a f h i (Ug b a i-1):=by
 obtain⟨n,e⟩:=Gv R p o;have m:∀k∈kd d b j a i,d.toNat-f k=n:=λk l=>by have:=(kb g R p o l).2.1;lia
 rw[xL g R p o];unfold ϡ;rw[e];show(if 0<h i then eQ d b j a _ i .ο else qy d b j a h _ _ i _)=_;by_cases c:0<h i
 .rw[aj c,aj c];exact zz λk l=>by rw[m k l]
 .rw[ah c,ah c];exact AL (λk l=>by show _=ld d b j a h (d.toNat-f k) false k 0;rw[m k l]) (λk l z=>by show _=ld d b j a h (d.toNat-f k) true k z;rw[m k l])
def uo(e:c.length=a)(d:b.length=a):(oP c b).length=a:=by unfold oP;rw[List.length_zipWith];lia
theorem yD{m:Int}:∀(b:List (List Int))(a:ej),a.length=m.toNat->(∀l∈b,l.length=m.toNat)->(b.foldl oP a).length=m.toNat
 | [],a,h,_=>h
 | l::b,a,h,hl=>yD b (oP a l) (uo h (hl l aL)) λx c=>hl x (aw _ c)
def mD(m:Int):(Ϗ m).length=m.toNat:=cf
def wy(h:∀k∈kd a c f b e,(d k).length=a.toNat):(eQ a c f b d e g).length=a.toNat:=by
 unfold eQ uP;refine yD _ _ (mD a) λl i=>?_;obtain⟨k,j,rfl⟩:=aE.mp i;exact h k (bG.mp j).1
theorem E2{P:List Int->Prop}:∀(a:List (List Int))(b:ej),P b->(∀l∈a,P l)->P (a.foldl qU b)
 | [],b,h,_=>h
 | l::a,b,h,hl=>E2 a (qU b l) (by
   unfold qU;split
   .exact hl l aL
   .exact h) λx c=>hl x (aw _ c)
def Hw :(tV a b c).length=a.length:=by unfold tV;rw[bz]
def LH{i:Int->List Int}{j:Int->Int->List Int}(h:∀k∈kd a c e b d,(i k).length=a.toNat)(n:∀k∈kd a c e b d,∀z,(j k z).length=a.toNat):(qy a c e b f i j d g).length=a.toNat:=by
 unfold qy;refine E2 (P:=λl=>l.length=a.toNat) _ _ (by rw[Hw];exact wy h) λl m=>?_;obtain⟨k,o,rfl⟩:=aE.mp m;exact uo (n k o _) (wy h)
section
variable{m:Int}{d:hR}{r:Int}{c:eX}{b:fb}{f:eX}
theorem GK(g:Good m d)(R:ε m d r c b):∀(n:Nat)(v:Int),0<=v->v<m->m.toNat-b v=n->(ϡ m d r c b f v).length=m.toNat/\∀y,(TN m d r c b f v y).length=m.toNat
 | 0,v,h0,h1,e=>by have:=ja R h0 h1;lia
 | n+1,v,h0,h1,e=>by
   have i:∀k∈kd m d r c v,_:=λk h=>by
    have w:=kb g R h0 h1 h;exact GK g R n k w.1.1.1 w.1.1.2 (by lia)
   have a:∀y,(TN m d r c b f v y).length=m.toNat:=λy=>by
    rw[xL g R h0 h1];exact LH (λk h=>(i k h).1) λk h=>(i k h).2
   refine⟨?_,a⟩;rw[BA g R h0 h1];split
   .exact wy λk h=>(i k h).1
   .exact a _
end
def zO(g:Good a b)(R:ε a b f c e)(j:0<=d)(i:d<a):(ϡ a b f c e h d).length=a.toNat:=(GK g R _ d j i rfl).1
def QX(g:Good a b)(R:ε a b h d e)(k:0<=c)(j:c<a):(TN a b h d e i c f).length=a.toNat:=(GK g R _ c k j rfl).2 f
theorem Hq:∀(c:List (List Int))(b:ej),c.foldl qU b=b\/c.foldl qU b∈c
 | [],b=>.inl rfl
 | a::c,b=>by
   rw[gZ];rcases Hq c (qU b a)with h|h
   .rw[h];by_cases z:b.sum<a.sum
    .rw[Mw z];exact .inr aL
    .rw[Lv z];exact .inl rfl
   .exact .inr (aw _ h)
def Aa{f:eX}{l:ej}(h:∀c∈l,0<=f c):0<=(l.map f).sum:=yV λx a=>by
 obtain⟨c,b,rfl⟩:=aE.mp a;exact h c b
def Kf{f:eX}{l:ej}(h:∀c∈l,0<=f c){c:Int}(a:c∈l):f c<=(l.map f).sum:=LF (λx b=>by
 obtain⟨c,a,rfl⟩:=aE.mp b;exact h c a) (aE.mpr ⟨c,a,rfl⟩)
theorem HE{f:eX}:∀{l:ej},(l.map λc=>f c+b c).sum=(l.map f).sum+(l.map b).sum
 | []=>by simp
 | a::l=>by rw[aF,aF,aF,aN,aN,aN,HE];lia
def wB(g:Good f c)(R:ε f c i d h)(l:0<=e)(k:e<f)(j:e≠i):2<=Ug c d e/\2<=RW c d e:=by
 obtain⟨o,n,a,_⟩:=jg g R l k j;obtain⟨p,m,b,_⟩:=rE g R l k j;unfold Ug RW;rw[n,m];exact⟨a,b⟩
def Oa(g:Good c a)(R:ε c a f b d)(j:0<=e)(h:e<c)(x:V):(eQ c a f b (ϡ c a f b d nd) e x).length=c.toNat:=wy λk i=>by
 have w:=kb g R j h i;exact zO g R w.1.1.1 w.1.1.2
section
variable{m:Int}{d:hR}{r:Int}{a:eX}{b:eX}
structure Zo(m:Int)(d:hR)(r:Int)(a:eX)(w b:eX):Prop where
 st:∀v,0<=v->v<m->b v=w v+((kd m d r a v).map λc=>b c*RW d a c).sum
 nn:∀v,0<=v->v<m->0<=b v
 w0:∀v,0<=v->v<m->0<=w v
end
def dn0(g:Good d b)(R:ε d b h a i)(N:Zo d b h a j f)(m:0<=e)(l:e<d):∀c∈kd d b h a e,0<=f c*RW b a c:=λc k=>by
 have q:=(kb g R m l k).1;have t:=wB g R q.1.1 q.1.2 q.2.1;exact fR (N.nn c q.1.1 q.1.2) (by lia)
def RN{m:Int}{b:hR}{r:Int}{a:eX}{d:fb}{e:eX}{w:eX}(g:Good m b)(R:ε m b r a d)(N:Zo m b r a w e){v:Int}(h:0<=v)(f:v<m){c:Int}(i:c∈kd m b r a v):w v+e c*RW b a c<=e v:=by
 rw[N.st v h f];have:=Kf (dn0 g R N h f) i
 lia
theorem G7(v z:Int):ό b a v z=if 0<=z then z/Ug b a v else z*RW b a v:=rfl
theorem JV{m:Int}{j:hR}{r:Int}{d:eX}{i:fb}(g:Good m j)(R:ε m j r d i){x:eX}{h:hP}(o:∀v,0<=v->v<m->0<=x v)(k:∀v z,0<=v->v<m->v≠r->0<=z->0<=h v z):∀(n:Nat)(v:Int),0<=v->v<m->m.toNat-i v=n->0<=Ζ m j r d i x h v
 | 0,v,h0,h1,e=>by have:=ja R h0 h1;lia
 | n+1,v,h0,h1,e=>by
   rw[eB g R h0 h1];have a:=o v h0 h1;have b:=Aa (l:=kd m j r d v) (f:=λc=>h c (Ζ m j r d i x h c)) λc p=>by
    obtain⟨q,s,_⟩:=kb g R h0 h1 p;exact k c _ q.1.1 q.1.2 q.2.1 (JV g R o k n c q.1.1 q.1.2 (by lia))
   exact Int.add_nonneg a b
abbrev pB(m:Int)(c:hR)(r:Int)(a:eX)(b:fb)(d:ej):Int->Int:=Ζ m c r a b (λv=>d.getD v.toNat 0) (Xv c a)
def FO{a:ej}(b:∀x∈a,0<=x)(i:Nat):0<=a.getD i 0:=by
 rw[bc];cases e:a[i]? with
 | none=>exact bF _
 | some y=>exact b y (aQ e)
def Hj{m:Int}{f:hR}{r:Int}{par:eX}{e:fb}(g:Good m f)(R:ε m f r par e){h:ej}(k:∀y∈h,0<=y):Zo m f r par (λv=>h.getD v.toNat 0) (pB m f r par e h) where
 st:=λv i j=>eB g R i j
 nn:=λv i j=>JV g R (λv _ _=>FO k _) (λv z a b c d=>by
  have t:=wB g R a b c;unfold Xv;exact fR d (show 0<=RW f par v by lia)) _ v i j rfl
 w0:=λv _ _=>FO k _
theorem Fe :∀{l:ej},(l.flatMap d).Nodup->∀{a b u:Int},a∈l->b∈l->u∈d a->u∈d b->a=b
 | c::l,nd,a,b,u,ha,hb,ua,ub=>by
   rw[dj]at nd;obtain⟨g,f,e⟩:=cw.mp nd;rcases aA.mp ha with ha|ha<;>rcases aA.mp hb with hb|hb
   .rw[ha,hb]
   .rw[ha]at ua;exact absurd rfl (e u ua u (d9.mpr ⟨b,hb,ub⟩))
   .rw[hb]at ub;exact absurd rfl (e u ub u (d9.mpr ⟨a,ha,ua⟩))
   .exact Fe f ha hb ua ub
theorem mX:∀{xs ys:ej},xs.length=ys.length->∀(i:Nat),(oP xs ys).getD i 0=xs.getD i 0+ys.getD i 0
 | [],[],_,i=>by simp[oP]
 | a::xs,b::ys,h,0=>by simp[oP]
 | a::xs,b::ys,h,i+1=>by
   have c:=mX (xs:=xs) (ys:=ys) (by simpa using h) i;unfold oP at c ⊢;rw[List.zipWith_cons_cons,km,km,km,c]
theorem EC(i:Nat):∀(c:List (List Int))(a:ej),a.length=b->(∀l∈c,l.length=b)->(c.foldl oP a).getD i 0=a.getD i 0+(c.map λl=>l.getD i 0).sum
 | [],a,_,_=>by simp
 | l::c,a,ha,hl=>by
   have d:=hl l aL;rw[gZ,EC i c _ (uo ha d) λx e=>hl x (aw _ e),mX (ha.trans d.symm),aF,aN]
   lia
def Be(m:Int)(i:Nat):(Ϗ m).getD i 0=0:=by
 rw[bc];cases e:(Ϗ m)[i]? with
 | none=>rfl
 | some y=>exact(fW.mp (aQ e)).2
theorem wU{f:eX}:∀{l:ej},(∀c∈l,f c=0)->(l.map f).sum=0
 | [],_=>rfl
 | a::l,h=>by rw[aF,aN,h a aL,wU λc b=>h c (aw _ b)];rfl
theorem xg{f:eX}:∀{l:ej},l.Nodup->∀{c:Int},c∈l->(∀j∈l,j≠c->f j=0)->(l.map f).sum=f c
 | a::l,nd,c,hc,h=>by
   obtain⟨d,g⟩:=aZ.mp nd;rw[aF,aN];by_cases e:a=c
   .subst e;rw[wU λj b=>h j (aw _ b) λz=>d (z▸b)]
    lia
   .rw[h a aL e,xg g ((aA.mp hc).resolve_left (Ne.symm e)) λj b=>h j (aw _ b)]
    lia
def uN(h:a.toNat<b.length)(i:Nat):(tV b a c).getD i 0=b.getD i 0+if i=a.toNat then c else 0:=by
 unfold tV;by_cases e:i=a.toNat
 .subst e;rw[aj rfl,bc,dg h]
  rfl
 .rw[ah e,bc,cG (Ne.symm e),<-bc]
  lia
def ME(g:Good c a)(R:ε c a f b d)(i:0<=e)(h:e<c):(eE c a f b d e).Nodup:=(Gk g R i h).nodup_iff.mpr ((iZ _).filter _)
def zV(g:Good d b)(R:ε d b h a e)(k:0<=f)(j:f<d) :i∈eE d b h a e f↔i=f\/∃c∈kd d b h a f,i∈eE d b h a e c:=by
 rw[jP g R k j,aA,d9]
def Jy(g:Good f e)(R:ε f e i d h)(l:0<=j)(k:j<f):(∀c∈kd f e i d j,j∉eE f e i d h c)/\∀{a b u:Int},a∈kd f e i d j->b∈kd f e i d j->u∈eE f e i d h a->u∈eE f e i d h b->a=b:=by
 have n:=ME g R l k;rw[jP g R l k]at n;obtain⟨m,p⟩:=aZ.mp n;exact⟨λc q z=>m (d9.mpr ⟨c,q,z⟩),λo t r s=>Fe p o t r s⟩
theorem Dv(g:Good f d)(R:ε f d l b a) :∀(n:Nat)(v:Int),0<=v->v<f->f.toNat-a v=n->(∀u∈eE f d l b a v,j u=i u)->Ζ f d l b a j k v=Ζ f d l b a i k v
 | 0,v,h0,h1,e,_=>by have:=ja R h0 h1;lia
 | n+1,v,h0,h1,e,h=>by
   rw[eB g R h0 h1,eB g R h0 h1,h v (xX g R h0 h1)];rw[b5 λc m=>?_];obtain⟨q,p,_⟩:=kb g R h0 h1 m;rw[Dv g R n c q.1.1 q.1.2 (by lia) λu o=>h u ((zV g R h0 h1).mpr (.inr ⟨c,m,o⟩))]
section
variable{m:Int}{c:hR}{r:Int}{a:eX}{b:fb}{d w:eX}
structure Ld(m:Int)(c:hR)(r:Int)(a:eX)(b:fb)(w:eX)(X:ej)(v y:Int):Prop where
 len:X.length=m.toNat
 nn:∀i,0<=X.getD i 0
 off:∀u,0<=u->u∉eE m c r a b v->X.getD u.toNat 0=0
 st:Ζ m c r a b (λu=>X.getD u.toNat 0-w u) (ό c a) v=y
end
def Bw(g:Good d b)(R:ε d b f a e)(o:0<=h)(n:h<d)(x:V)(i:Nat):(eQ d b f a (ϡ d b f a e j) h x).getD i 0=(((kd d b f a h).filter λk=>decide (V.int k≠x)).map λc=>(ϡ d b f a e j c).getD i 0).sum:=by
 unfold eQ uP;rw[EC i _ _ (mD d) λl m=>?_,Be,ce,fD]
 .rfl
 .obtain⟨k,hk,rfl⟩:=aE.mp m;have w:=kb g R o n (bG.mp hk).1;exact zO g R w.1.1.1 w.1.1.2
def CJ(g:Good f b)(R:ε f b h a d){v:Int}(p:0<=v)(q:v<f)(x:V)(s:∀c∈kd f b h a v,∃y,Ld f b h a d m (ϡ f b h a d l c) c y):(∀i,0<=(eQ f b h a (ϡ f b h a d l) v x).getD i 0)/\(∀u,0<=u->(∀c∈kd f b h a v,u∉eE f b h a d c)->(eQ f b h a (ϡ f b h a d l) v x).getD u.toNat 0=0)/\∀c∈kd f b h a v,∀u,0<=u->u∈eE f b h a d c->(eQ f b h a (ϡ f b h a d l) v x).getD u.toNat 0=if V.int c≠x then(ϡ f b h a d l c).getD u.toNat 0 else 0:=by
 refine⟨λi=>?_,λu r t=>?_,λc n u r t=>?_⟩
 .rw[Bw g R p q];refine Aa λc n=>?_;obtain⟨y,L⟩:=s c (bG.mp n).1;exact L.nn i
 .rw[Bw g R p q];refine wU λc n=>?_;have n:=(bG.mp n).1;obtain⟨y,L⟩:=s c n;exact L.off u r (t c n)
 .rw[Bw g R p q];have w:∀j∈(kd f b h a v).filter (λk=>decide (V.int k≠x)),j≠c->(ϡ f b h a d l j).getD u.toNat 0=0:=λj o A=>by
   have o:=(bG.mp o).1;obtain⟨y,L⟩:=s j o;exact L.off u r λz=>A ((Jy g R p q).2 o n z t)
  by_cases e:V.int c≠x
  .rw[aj e];exact xg (nz.filter _) (bG.mpr ⟨n,bD e⟩) w
  .rw[ah e];exact wU λj o=>w j o λz=>e (by
    rw[<-z];exact bu (bG.mp o).2)
def BL(g:Good e c)(R:ε e c f b h)(N:Zo e c f b i d)(k:0<=a)(j:a<e)(l:a≠f):ό c b a (if 0<d a then -d a else Ug c b a-1)=-(d a*RW c b a):=by
 have t:=wB g R k j l;have n:=N.nn a k j;rw[G7];by_cases z:0<d a
 .rw[aj z,ah (by lia),j6]
 .rw[ah z,aj (by lia),show d a=0 by lia,jL];exact gg (by lia) (by lia)
theorem D6 :∀{l:ej},(l.map λc=>-b c).sum=-(l.map b).sum
 | []=>rfl
 | a::l=>by rw[aF,aF,aN,aN,D6];lia
theorem Ib(g:Good l b)(R:ε l b m a f)(N:Zo l b m a o d):∀(n:Nat)(v:Int),0<=v->v<l->l.toNat-f v=n->(v≠m->Ld l b m a f o (ϡ l b m a f d v) v (if 0<d v then -d v else Ug b a v-1))/\∀y,-1<=y->(y=-1->1<=o v)->Ld l b m a f o (TN l b m a f d v y) v y
 | 0,v,h0,h1,e=>by have:=ja R h0 h1;lia
 | n+1,v,h0,h1,e=>by
   have w:∀c∈kd l b m a v,(c≠m/\(0<=c/\c<l))/\Ld l b m a f o (ϡ l b m a f d c) c (if 0<d c then -d c else Ug b a c-1)/\∀y,0<=y->Ld l b m a f o (TN l b m a f d c y) c y:=λc p=>by
    obtain⟨q,q2,_⟩:=kb g R h0 h1 p;have Z:=Ib g R N n c q.1.1 q.1.2 (by lia);exact⟨⟨q.2.1,q.1⟩,Z.1 q.2.1,λy y0=>Z.2 y (by lia) λz=>by lia⟩
   have M:∀c∈kd l b m a v,∃y,Ld l b m a f o (ϡ l b m a f d c) c y:=λc p=>⟨_,(w c p).2.1⟩;have VC:∀c∈kd l b m a v,∀u∈eE l b m a f c,0<=u:=λc p u r=>((Ae g R (w c p).1.2.1 (w c p).1.2.2 u).mp r).1.1;have I:=Jy g R h0 h1;have H:∀(X:ej)(z y:Int)(p:eX),X.length=l.toNat->(∀i,0<=X.getD i 0)->(∀u,0<=u->u∉eE l b m a f v->X.getD u.toNat 0=0)->X.getD v.toNat 0=z->(∀c∈kd l b m a v,∃Y s,Ld l b m a f o Y c s/\ό b a c s=p c/\∀u∈eE l b m a f c,X.getD u.toNat 0=Y.getD u.toNat 0)->z-o v+((kd l b m a v).map p).sum=y->Ld l b m a f o X v y:=λX z y p xl xn xo xz xk hy=>by
    refine⟨xl,xn,xo,?_⟩;rw[eB g R h0 h1,xz,<-hy,b5 λc G=>?_];obtain⟨Y,s,L,T,e2⟩:=xk c G;rw[<-T,<-L.st,Dv g R _ c (w c G).1.2.1 (w c G).1.2.2 rfl λu r=>by rw[e2 u r]]
   have S:∀{x:V}{u:Int},0<=u->u∉eE l b m a f v->(eQ l b m a (ϡ l b m a f d) v x).getD u.toNat 0=0:=λB r=>(CJ g R h0 h1 _ M).2.1 _ B λc p z=>r ((zV g R h0 h1).mpr (.inr ⟨c,p,z⟩));have Q:((kd l b m a v).map λc=>-(d c*RW b a c)).sum=o v-d v:=by
    rw[D6,N.st v h0 h1]
    lia
   have A:∀y,-1<=y->(y=-1->1<=o v)->Ld l b m a f o (TN l b m a f d v y) v y:=λy y0 y1=>by
    have w0:=N.w0 v h0 h1;have n0:=N.nn v h0 h1;have W:0<=d v+y:=by
     have:=Aa (dn0 g R N h0 h1);have:=N.st v h0 h1
     lia
    rw[xL g R h0 h1];unfold qy;rcases Hq ((kd l b m a v).map (W8 l b m a d (ϡ l b m a f d) (TN l b m a f d) v (d v+y))) (tV (eQ l b m a (ϡ l b m a f d) v .ο) v (d v+y))with h|h
    .rw[h];have K:=Oa (nd:=d) g R h0 h1 .ο;have C:=CJ g R h0 h1 .ο M;have O:v.toNat<(eQ l b m a (ϡ l b m a f d) v .ο).length:=(by lia);refine H _ (d v+y) y (λc=>-(d c*RW b a c)) (by rw[Hw];exact K) (λi=>?_) (λu B r=>?_) ?_ (λc p=>⟨_,_,(w c p).2.1,BL g R N (w c p).1.2.1 (w c p).1.2.2 (w c p).1.1,λu r=>?_⟩) (by rw[Q];lia)
     .rw[uN O];have:=C.1 i;split<;>lia
     .have nv:u≠v:=λz=>r ((zV g R h0 h1).mpr (.inl z));rw[uN O,S B r,ah (by lia)]
      rfl
     .rw[uN O,aj rfl,C.2.1 v h0 I.1]
      lia
     .have B:=VC c p u r;have nv:u≠v:=λz=>I.1 c p (z▸r);rw[uN O,ah (by lia),C.2.2 c p u B r,aj (by nofun)]
      lia
    .obtain⟨k,hk,e⟩:=aE.mp h;rw[<-e];obtain⟨⟨kr,k0,k1⟩,_,kg⟩:=w k hk;have t:=wB g R k0 k1 kr;have kn:=RN g R N h0 h1 hk;have ad:=dn0 g R N h0 h1 k hk;obtain⟨E,P⟩:∃E,d v+y-d k*RW b a k=E:=⟨_,rfl⟩;have ac:0<=E:=(by lia);have U:0<=Ug b a k*(E+1)-1:=by
      have:=b3 (show 1<=E+1 by lia) (show 0<=Ug b a k by lia)
      lia
     have F:=kg _ U;have K:=Oa (nd:=d) g R h0 h1 (.int k);have C:=CJ g R h0 h1 (.int k) M;unfold W8;rw[P];have J:=F.len.trans K.symm;refine H _ 0 y (λc=>if c=k then E else -(d c*RW b a c)) (uo F.len K) (λi=>?_) (λu B r=>?_) ?_ (λc p=>?_) ?_
     .rw[mX J];have:=C.1 i;have:=F.nn i
      lia
     .rw[mX J,S B r,F.off u B λz=>r ((zV g R h0 h1).mpr (.inr ⟨k,hk,z⟩))]
      rfl
     .rw[mX J,C.2.1 v h0 I.1,F.off v h0 (I.1 k hk)]
      rfl
     .by_cases D:c=k
      .subst D;refine⟨_,_,F,?_,λu r=>?_⟩
       .rw[aj rfl,G7,aj U];have:Ug b a c*(E+1)-1=(Ug b a c-1)+Ug b a c*E:=(by rw[mw,mB];lia);rw[this,Int.add_mul_ediv_left _ _ (by lia),gg (by lia) (by lia)]
        lia
       .rw[mX J,C.2.2 c p u (VC c p u r) r,ah (λz=>z rfl)]
        lia
      .refine⟨_,_,(w c p).2.1,?_,λu r=>?_⟩
       .rw[ah D];exact BL g R N (w c p).1.2.1 (w c p).1.2.2 (w c p).1.1
       .have B:=VC c p u r;rw[mX J,C.2.2 c p u B r,aj (by intro z;cases z;exact D rfl),F.off u B λz=>D (I.2 p hk r z)]
        lia
     .have T:((kd l b m a v).map λc=>if c=k then E else -(d c*RW b a c)).sum=((kd l b m a v).map λc=>-(d c*RW b a c)).sum+((kd l b m a v).map λc=>if c=k then E+d k*RW b a k else 0).sum:=by
       rw[<-HE];rw[b5 λc p=>?_];by_cases D:c=k
       .rw[aj D,aj D,D];lia
       .rw[ah D,ah D];lia
      rw[T,Q,xg (show(kd l b m a v).Nodup from nz) hk λj _ nj=>ah nj,aj rfl]
      lia
   refine⟨λvr=>?_,A⟩;have t:=wB g R h0 h1 vr;rw[BA g R h0 h1];by_cases z:0<d v
   .rw[aj z,aj z];have C:=CJ g R h0 h1 .ο M;refine H _ 0 _ (λc=>-(d c*RW b a c)) (Oa g R h0 h1 _) C.1 (λu B r=>S B r) (C.2.1 v h0 I.1) (λc p=>⟨_,_,(w c p).2.1,BL g R N (w c p).1.2.1 (w c p).1.2.2 (w c p).1.1,λu r=>?_⟩) (by rw[Q];lia);rw[C.2.2 c p u (VC c p u r) r,aj (by nofun)]
   .rw[ah z,ah z];exact A _ (by lia) λq=>by lia
def NY(g:Good b c)(R:ε b c j d e)(l:0<=a)(k:a<b):Ζ b c j d e (λa=>(dS b h f).getD a.toNat 0) i a=Ζ b c j d e (λu=>h.getD u.toNat 0-f.getD u.toNat 0) i a:=Dv g R _ a l k rfl λu n=>by
 have o:=((Ae g R l k u).mp n).1;have:=py (m:=b) (zs:=h) (ys:=f) u.toNat;rw[aj (by lia)]at this;exact this
def Nk(g:Good e c)(R:ε e c a b d)(k:0<=a)(j:a<e)(o:∀y∈f,0<=y)(m:0<f.getD a.toNat 0)(p:h=TN e c a b d (pB e c a b d f) a (-1)):(h.length:Int)=e/\(∀x∈h,0<=x)/\ψ e c a b d f h a=-1:=by
 have L:=(Ib g R (Hj g R o) _ a k j rfl).2 (-1) (by lia) λ_=>m;rw[<-p]at L;have l:=L.len;refine⟨by lia,λx n=>?_,?_⟩
 .obtain⟨i,hi,rfl⟩:=jS.mp n;have:=L.nn i
  rwa [bc,aB hi]at this
 .show Ζ e c a b d (λv=>(dS e h f).getD v.toNat 0) (ό c b) a=-1;rw[NY g R k j];exact L.st
def LW(b:0<=a)(c:a<m):((Ϗ m).set a.toNat d).getD a.toNat 0=d/\∀u,0<=u->u<m->u≠a->((Ϗ m).set a.toNat d).getD u.toNat 0=0:=by
 refine⟨?_,λu f e g=>?_⟩
 .rw[bc,dg (by rw[mD];lia)];rfl
 .rw[bc,cG (by lia),<-bc,Be]
def OL(g:Good b a) :(kd b a r par v).length<=24:=by
 have d:=bW (λu=>decide (V.int u≠front r par v)) (ki b a v);have c:=bW (λq=>decide (q∈gK a v)) (cj b.toNat);rw[cu]at c;have:=g.Β;show((ki b a v).filter λu=>decide (V.int u≠front r par v)).length<=24;unfold ki at d ⊢
 lia
theorem zT{f:eX}{M:Int}:∀{l:ej},(∀c∈l,f c<=M)->(l.map f).sum<=l.length*M
 | [],_=>by simp
 | a::l,h=>by
   have e:=h a aL;have d:=zT (l:=l) λc b=>h c (aw _ b);rw[aF,aN,aR];have:((l.length+1:Nat):Int)*M=l.length*M+M:=by
    rw[Int.natCast_add,ir];simp
   lia
def Jq{a b:Nat}(h:a<=b):(2:Int)^a<=2^b:=by
 obtain⟨c,rfl⟩:=Nat.exists_eq_add_of_le h;rw[Int.pow_add];have:=b3 (show(1:Int)<=2^c from jh (by decide)) (Int.le_of_lt (show(0:Int)<2^a from jh (by decide)))
 lia
section
variable{m:Int}{a:hR}{r:Int}{par:eX}
def NJ(g:Good m a){f:eX}{v M:Int}(b:0<=M)(h:∀c∈kd m a r par v,f c<=M):((kd m a r par v).map f).sum<=24*M:=by
 have e:=zT h;have d:=OL (r:=r) (par:=par) g (v:=v);have:=cN (show(((kd m a r par v).length:Nat):Int)<=24 by lia) b
 lia
end
def SJ{m:Int}{d:hR}{r:Int}{c:eX}{e:fb}(g:Good m d)(R:ε m d r c e){v:Int}(f:0<=v)(h:v<m)(i:v≠r):(2<=Ug d c v/\Ug d c v<=1000000)/\2<=RW d c v/\RW d c v<=1000000:=by
 obtain⟨p,l,a,j⟩:=jg g R f h i;obtain⟨o,k,b,n⟩:=rE g R f h i;unfold Ug RW;rw[l,k];exact⟨⟨a,j⟩,b,n⟩
theorem Qa{m:Int}{b:hR}{r:Int}{par:eX}{a:fb}{d:eX}{w:eX}(g:Good m b)(R:ε m b r par a)(N:Zo m b r par w d){Y:Int}(h:0<=Y)(i:∀v,0<=v->v<m->w v<=Y):∀(n:Nat)(v:Int),0<=v->v<m->m.toNat-a v=n->d v<=Y*2^(25*n)
 | 0,v,h0,h1,e=>by have:=ja R h0 h1;lia
 | n+1,v,h0,h1,e=>by
   have p:(0:Int)<=Y*2^(25*n):=fR h (Int.le_of_lt (jh (by decide)));have x:Y<=Y*2^(25*n):=by
    have:=b3 (show(1:Int)<=2^(25*n)from jh (by decide)) h
    lia
   rw[N.st v h0 h1];have y:=NJ (r:=r) (par:=par) g (v:=v) (f:=λc=>d c*RW b par c) (M:=Y*2^(25*n)*1000000) (by lia) λc l=>by
    obtain⟨q,s,_⟩:=kb g R h0 h1 l;have t:=(SJ g R q.1.1 q.1.2 q.2.1).2;have k:=Qa g R N h i n c q.1.1 q.1.2 (by lia);have o:=N.nn c q.1.1 q.1.2;exact dN (b3 t.2 o) (cN k (by decide))
   have u:=i v h0 h1;have j:Y*2^(25*(n+1))=Y*2^(25*n)*33554432:=by
    rw[show 25*(n+1)=25*n+25 by lia,Int.pow_add,<-Int.mul_assoc]
    rfl
   rw[j]
   lia
theorem CM :∀{l:List f}{i:List d}{b:d},Paired e l (i++[b])->∃g a,l=g++[a]/\Paired e g i/\e a b
 | _,[],b,.cons (a:=a) h .nil=>⟨[],a,rfl,.nil,h⟩
 | _,c::i,b,.cons (a:=a) h hs=>by
   obtain⟨g,x,rfl,k,j⟩:=CM hs;exact⟨a::g,x,rfl,.cons h k,j⟩
def QC(l:List a)(x:a):aT (l++[x]) (-1)=some x:=by
 unfold aT Wo;rw[ah (by decide),ay,aR,eL,aj (by lia)];show(l++[x])[(-1+((l.length+(0+1):Nat):Int)).toNat]?=some x;rw[show(-1+((l.length+(0+1):Nat):Int)).toNat=l.length by lia,db (aU _),eT]
 rfl
def R6{a b:ej}(l:a.length=b.length)(h:∀i:Nat,a.getD i 0=b.getD i 0):a=b:=by
 refine List.ext_getElem l λi d c=>?_;have:=h i;rw[bc,bc,aB d,aB c]at this;exact this
def OX{m v:Int}{b:ej}(k:(b.length:Int)=m)(g:0<=v)(h:v<m):oP b ((List.replicate m.toNat (0:Int)).set v.toNat a)=b.set v.toNat (b.getD v.toNat 0+a):=by
 have f:b.length=((List.replicate m.toNat (0:Int)).set v.toNat a).length:=by rw[bz,cf];lia
 refine R6 (by rw[uo rfl f.symm,bz]) λi=>?_;rw[mX f];have j:=LW (m:=m) (d:=a) g h;by_cases e:i=v.toNat
 .subst e;have c:((List.replicate m.toNat (0:Int)).set v.toNat a).getD v.toNat 0=a:=j.1;rw[c,bc (l:=b.set v.toNat (b.getD v.toNat 0+a)),dg (by lia)]
  rfl
 .have c:((List.replicate m.toNat (0:Int)).set v.toNat a).getD i 0=0:=by
   rw[bc,cG (Ne.symm e),<-bc];exact Be m i
  rw[c,bc (l:=b.set v.toNat (b.getD v.toNat 0+a)),cG (Ne.symm e),<-bc]
  lia
end Pb
namespace Pb
open L2 PySem PySem.W NumText
structure Fig(l:List Nat):Prop where
 ajn:1<=l.length
 aat:l.length<=60
 all:∀c∈l,48<=c/\c<=57
 lead:l=[48]\/l.head?≠some 48
def RG(h:a<10^60):Fig (FS a).cps.toList:=by
 rw[rq];refine⟨nJ.mpr (wj a),mf 59 a h,lZ a,?_⟩;by_cases z:a=0
 .subst z;exact .inl rfl
 .obtain⟨c,r,e,hc⟩:=Ex a (by lia);refine .inr ?_;rw[e];exact λq=>hc (by injection q)
open Classical in
def wsp(z:Str):List Str:=Txt.split z (Str.ofString " ")
end Pb
namespace L2
open PySem PySem.Spec PyProof.Rows
def aeW:V->Option Int->Option Int->Hp->VK->Prop:=λx lo a H Q=>∃z,x=.str z/\z.length<=sizeLine/\Q (.str (Txt.slice z lo a)) H
def qG :SlR a aeW:=by
 intro c s w H x v D B lo A C Q I y p r m h;obtain⟨z,rfl,e,q⟩:=h;obtain⟨t,rfl⟩:=y;refine⟨"str",_,PySem.F.slot_str_getitem.lookup,typeIs_str _ _ _,?_⟩;have b:∀n k,EP a c w Q (.str (Txt.slice z lo A) n) { s with toks:=k }:=λn k=>⟨.str _,H,I.tok _,⟨_,rfl⟩,q⟩;obtain⟨o,f,g,d⟩:=p;cases r with
 | none=>
   cases m with
   | none=>exact gV (l:=none) (u:=none) (st:=none) ⟨o,f,g,d⟩ rfl (post_val_or_str ⟨aV (Txt.slice_le z _ _) e,b⟩)
   | int j uj=>exact gV (l:=none) (u:=some (j,uj)) (st:=none) ⟨o,f,g,d⟩ rfl (post_val_or_str ⟨aV (Txt.slice_le z _ _) e,b⟩)
 | int i ui=>
   cases m with
   | none=>exact gV (l:=some (i,ui)) (u:=none) (st:=none) ⟨o,f,g,d⟩ rfl (post_val_or_str ⟨aV (Txt.slice_le z _ _) e,b⟩)
   | int j uj=>exact gV (l:=some (i,ui)) (u:=some (j,uj)) (st:=none) ⟨o,f,g,d⟩ rfl (post_val_or_str ⟨aV (Txt.slice_le z _ _) e,b⟩)
end L2
namespace Pb
open L2 PySem PySem.W NumText
def LN :∀c∈(Txt.slice a b d).cps.toList,c∈a.cps.toList:=λc e=>by
 unfold Txt.slice at e;split at e
 .exact e
 .simp only[kC]at e;obtain⟨i,_,f⟩:=e;exact aQ (by rw[fP];exact f)
def Pl(z:Str):Prop:=∀c∈z.cps.toList,c<128/\c≠10
def Pl.join(e:Pl b)(f:∀w∈a,Pl w):Pl (Str.join b a):=λc d=>by
 rw[fQ]at d;rcases qp d with d|⟨x,g,d⟩
 .exact e c d
 .obtain⟨w,hw,rfl⟩:=aE.mp g;exact f w hw c d
def Pl.fs(n:Nat):Pl (FS n):=λc a=>by
 have:=lZ n c a
 lia
def Pl.row(h:Pl a):10∉a.cps.toList:=λe=>(h 10 e).2 rfl
theorem EZ(d:c≠[]):∀{A:List (List Nat)},A≠[]->gf s (A++c)=gf s A++s++gf s c
 | [],h=>absurd rfl h
 | [a],_=>by
   cases c with
   | nil=>exact absurd rfl d
   | cons b c=>rfl
 | a::a'::r,_=>by
   have:=EZ (s:=s) d (A:=a'::r) (by simp);show a++s++gf s ((a'::r)++c)=a++s++gf s (a'::r)++s++gf s c;rw[this];simp only[bO]
def WsO(m n:Nat)(a:hG):Prop:=a.length<=n/\∀w∈a,Pl w/\w.length<=m
theorem sg :∀{ws:hG},(∀w∈ws,w.length<=m)->(ws.map (·.length)).sum<=m*ws.length
 | [],_=>by simp
 | w::ws,h=>by
   have c:=h w (.head _);have b:=sg (ws:=ws) λx a=>h x (.tail _ a);rw[aF,aN,aR,n9]
   lia
def xC(h:∀w∈ws,w.length<=m):(Str.join z ws).length<=(m+z.length)*ws.length:=by
 rw[dI,fQ];have:=rZ (s:=z.cps.toList) (m:=m) (l:=ws.map (·.cps.toList)) λx b=>by
  obtain⟨w,a,rfl⟩:=aE.mp b;rw[<-dI];exact h w a
 rw[aa,<-dI]at this;exact this
def Ct(c:Pl a)(b:List Nat):Pl (Ε a b):=Pl.join (by unfold Pl;decide +kernel) λw hw=>by
 rcases aA.mp hw with rfl|hw
 .exact c
 .obtain⟨n,_,rfl⟩:=aE.mp hw;exact Pl.fs n
def Of :∀y∈eJ b a,Pl y:=λy hy=>by
 rcases aA.mp hy with rfl|hy
 .exact Ct (by unfold Pl;decide +kernel) _
 .obtain⟨r,_,rfl⟩:=aE.mp hy;exact Ct (by unfold Pl;decide +kernel) _
def Jd(g:Good b a):WsO 305 24 (eJ b a):=⟨by have:=qu g;have:=g.Β;lia,λy c=>⟨Of y c,yC g y c⟩⟩
def ch:Nat->Nat->Nat
 | _,0=>1
 | 0,_+1=>0
 | n+1,k+1=>ch n k+ch n (k+1)
def Wb(m:Int)(c:hR)(r:Int)(b:eX)(a:fb)(v:Int):Nat:=(eE m c r b a v).length-1
def Nv(g:Good c b)(R:ε c b f a d)(j:0<=h)(i:h<c):((kd c b f a h).map λk=>Wb c b f a d k+1).sum=Wb c b f a d h:=by
 have e:=congrArg List.length (jP g R j i);rw[aR,List.length_flatMap]at e;unfold Wb;rw[e,Nat.add_sub_cancel];show _=((kd c b f a h).map λk=>(eE c b f a d k).length).sum;refine congrArg List.sum (b5 λk n=>?_);obtain⟨⟨l,m⟩,_⟩:=(kb g R j i n).1;have:=congrArg List.length (jP g R l m);rw[aR]at this
 lia
def Sw(g:Good a d)(R:ε a d f e b)(l:0<=c)(k:c<a):(Wb a d f e b c:Int)<a:=by
 obtain⟨h,i⟩:=tm g R (a.toNat-1-b c) c l k;have:=iz (m:=a) (by lia) h λx j=>(i x j).1;have:=g.m1;unfold Wb eE
 lia
def Wc{l:hD}(h:l.Nodup)(i j:Nat){a b:Addr}(d:l[i]?=some a:=by rfl)(c:l[j]?=some b:=by rfl)(e:i≠j:=by decide):a≠b:=SK h i j d c e
def γ{X:Cx}{x:Str}{a:Pos}(i:Nat)(n:Ve X.env.scope x:=by exact .of (by kernel_rfl))(b:X.N[i]?=some x:=by rfl):PE X (.Name x a) (BH i):=pvl i n b
def Us{X:Cx}{x:Str}{a:Pos}(i:Nat)(n:Wx X.env.scope x:=by exact .of (by kernel_rfl))(b:X.N[i]?=some x:=by rfl):PE X (.Name x a) (BH i):=pvc i n b
def ϑ{X:Cx}{x:Str}{a:Pos}(i:Nat)(d:X.N.Nodup:=by exact bu (by kernel_rfl))(c:X.N[i]?=some x:=by rfl)(b:X.env.scope.names.lookup x=some .local:=by kernel_rfl):PG X (.Name x a) (zQ i):=fF d c (.inl b) (.inr b)
def Γ{X:Cx}{x:Str}{b:Pos}{a:Pos}{e:Expr}{d:TE}(i:Nat)(j:PE X e d)(h:X.N.Nodup:=by exact bu (by kernel_rfl))(g:X.N[i]?=some x:=by rfl)(c:X.env.scope.names.lookup x=some .local:=by kernel_rfl)(f:swapsWith e (some (.Name x a)) b.line X.env=pure false:=by rfl):PS X (.Assign [.Name x a] e b) (HR d (zQ i)):=se h g (.inl c) j f (.inr c)
def pxs{X:Cx}{x:Str}{b:Pos}{a:Pos}{e:Expr}{d:XK->TE}{f:TK}(i:Nat)(n:Zj f X e d)(h:X.N.Nodup:=by exact bu (by kernel_rfl))(m:X.N[i]?=some x:=by rfl)(g:X.env.scope.names.lookup x=some .local:=by kernel_rfl)(k:swapsWith e (some (.Name x a)) b.line X.env=pure false:=by rfl):PSx f X (.Assign [.Name x a] e b) (λj D c H=>d (j c) c H λy l=>D.nx (c.set i (some y)) l):=QV h m (.inl g) n k (.inr g)
def pgl{X:Cx}{x:Str}{a:Pos}{C:Addr}(b:X.mg x=some (.ref C))(d:X.env.scope.names.lookup x=some .globalImplicit:=by kernel_rfl)(c:(x==("__debug__":Str))=false:=by kernel_rfl):PE X (.Name x a) (tC (.ref C)):=DL d b rfl c
def pcq{X:Cx}{x:Str}{p:Pos}{a:Pos}{e:Expr}{c:List Expr}{t:TA}{d:TK}{k:Nat}{j:Nat}{f:Addr}{g:FuncData}{i:hG}{h:Sp}{st:Stmt}(D:Df X.K X.mg x st i f g)(F:ύ X.prog X.w X.K X.mg X.base d k f g i h)(s:Χ j X.A)(q:bQ d)(l:PA X (e::c) t)(n:k<=j:=by decide)(r:X.env.scope.names.lookup x=some .globalImplicit:=by kernel_rfl)(hdb:(x==("__debug__":Str))=false:=by kernel_rfl)(u:starEach (e::c) X.env=(false,eval e X.env)::starEach c X.env:=by rfl)(o:(backTo a (starEach c X.env)).any (·.1)=false:=by rfl):PE X (.Call (.Name x p) (e::c) [] a) (sO h [] E0 t):=iU F (s.mono n) r D.m D.F.kp D.b .nil (gJ q) l hdb u o
def pcx{X:Cx}{x:Str}{p:Pos}{a:Pos}{e:Expr}{c:List Expr}{t:TA}{g:TK}{k:Nat}{j:Nat}{f:Addr}{h:FuncData}{l:hG}{i:Sp}{st:Stmt}{E:XK}(D:Df X.K X.mg x st l f h)(F:ύ X.prog X.w X.K X.mg X.base g k f h l i)(u:Χ j X.A)(r:pT g X E)(n:PA X (e::c) t)(o:k<=j:=by decide)(s:X.env.scope.names.lookup x=some .globalImplicit:=by kernel_rfl)(d:(x==("__debug__":Str))=false:=by kernel_rfl)(v:starEach (e::c) X.env=(false,eval e X.env)::starEach c X.env:=by rfl)(q:(backTo a (starEach c X.env)).any (·.1)=false:=by rfl):PE X (.Call (.Name x p) (e::c) [] a) (sO i [] E t):=iU F (u.mono o) s D.m D.F.kp D.b .nil r n d v q
def pxc{X:Cx}{x:Str}{p:Pos}{a:Pos}{e:Expr}{c:List Expr}{t:TA}{g:TK}{k:Nat}{j:Nat}{f:Addr}{h:FuncData}{l:hG}{i:Sp}{st:Stmt}(D:Df X.K X.mg x st l f h)(F:ύ X.prog X.w X.K X.mg X.base g k f h l i)(s:Χ j X.A)(n:PA X.Wl (e::c) t)(o:k<=j:=by decide)(r:X.env.scope.names.lookup x=some .globalImplicit:=by kernel_rfl)(d:(x==("__debug__":Str))=false:=by kernel_rfl)(u:starEach (e::c) X.env=(false,eval e X.env)::starEach c X.env:=by rfl)(q:(backTo a (starEach c X.env)).any (·.1)=false:=by rfl):Zj g X (.Call (.Name x p) (e::c) [] a) (λE=>sO i [] E t):=Pn F (s.mono o) r D.m D.F.kp D.b .nil n d u q
section
variable{x:Str}{k j:Nat}{f:Addr}{fd:FuncData}{a:hG}{b:Sp}{c:Stmt}
structure Cb(P:Program)(w:World)(K:gy)(mg:hF)(base:Heap)(x:Str)(c:Stmt)(a:hG)(k:Nat)(b:Sp) where
 f:Addr
 fd:FuncData
 D:Df K mg x c a f fd
 G:ύ P w K mg base (τ P w) k f fd a b
end
def cb(D:Df i c l j b g d)(G:ύ e h i c a (τ e h) k g d b f):Cb e h i c a l j b k f:=⟨g,d,D,G⟩
def Ν{X:Cx}{x:Str}{p:Pos}{a:Pos}{e:Expr}{b:List Expr}{t:TA}{k:Nat}{j:Nat}{m:hG}{d:Sp}{st:Stmt}(c:Cb X.prog X.w X.K X.mg X.base x st m k d)(l:Χ j X.A)(q:bQ (τ X.prog X.w))(f:PA X (e::b) t)(g:k<=j:=by decide)(i:X.env.scope.names.lookup x=some .globalImplicit:=by kernel_rfl)(hdb:(x==("__debug__":Str))=false:=by kernel_rfl)(n:starEach (e::b) X.env=(false,eval e X.env)::starEach b X.env:=by rfl)(h:(backTo a (starEach b X.env)).any (·.1)=false:=by rfl):PE X (.Call (.Name x p) (e::b) [] a) (sO d [] E0 t):=pcq c.D c.G l q f g i hdb n h
def Κ{X:Cx}{x:Str}{p:Pos}{a:Pos}{e:Expr}{b:List Expr}{t:TA}{k:Nat}{j:Nat}{n:hG}{d:Sp}{st:Stmt}{E:XK}(c:Cb X.prog X.w X.K X.mg X.base x st n k d)(m:Χ j X.A)(i:pT (τ X.prog X.w) X E)(f:PA X (e::b) t)(g:k<=j:=by decide)(l:X.env.scope.names.lookup x=some .globalImplicit:=by kernel_rfl)(hdb:(x==("__debug__":Str))=false:=by kernel_rfl)(o:starEach (e::b) X.env=(false,eval e X.env)::starEach b X.env:=by rfl)(h:(backTo a (starEach b X.env)).any (·.1)=false:=by rfl):PE X (.Call (.Name x p) (e::b) [] a) (sO d [] E t):=pcx c.D c.G m i f g l hdb o h
def pyb{X:Cx}{x:Str}{p:Pos}{a:Pos}{e:Expr}{b:List Expr}{t:TA}{k:Nat}{j:Nat}{m:hG}{d:Sp}{st:Stmt}(c:Cb X.prog X.w X.K X.mg X.base x st m k d)(l:Χ j X.A)(f:PA X.Wl (e::b) t)(g:k<=j:=by decide)(i:X.env.scope.names.lookup x=some .globalImplicit:=by kernel_rfl)(hdb:(x==("__debug__":Str))=false:=by kernel_rfl)(n:starEach (e::b) X.env=(false,eval e X.env)::starEach b X.env:=by rfl)(h:(backTo a (starEach b X.env)).any (·.1)=false:=by rfl):Zj (τ X.prog X.w) X (.Call (.Name x p) (e::b) [] a) (λE=>sO d [] E t):=pxc c.D c.G l f g i hdb n h
def lE{X:Cx}{x:Str}{p:Pos}{a:Pos}{e:Expr}{b:List Expr}{t:TA}{id:String}{r:List V->Hp->VK->Prop}(j:lS X (.builtin id) r)(d:X.mg x=none)(i:PA X (e::b) t)(g:bootBuiltins x=some (.builtin id):=by kernel_rfl)(k:X.env.scope.names.lookup x=some .globalImplicit:=by kernel_rfl)(f:decide (x="__name__")=false:=by kernel_rfl)(c:(x==("__debug__":Str))=false:=by kernel_rfl)(l:starEach (e::b) X.env=(false,eval e X.env)::starEach b X.env:=by rfl)(h:(backTo a (starEach b X.env)).any (·.1)=false:=by rfl):PE X (.Call (.Name x p) (e::b) [] a) (ZY r t):=Oc j k d g i (of_decide_eq_false f) c l h
def ϰ{X:Cx}{x:Str}{p:Pos}{a:Pos}{e:Expr}{b:List Expr}{t:TA}{T:String}{r:List V->Hp->VK->Prop}(i:lS X (.type T) r)(c:X.mg x=none)(h:PA X (e::b) t)(f:bootBuiltins x=some (.type T):=by kernel_rfl)(j:X.env.scope.names.lookup x=some .globalImplicit:=by kernel_rfl)(d:decide (x="__name__")=false:=by kernel_rfl)(hdb:(x==("__debug__":Str))=false:=by kernel_rfl)(k:starEach (e::b) X.env=(false,eval e X.env)::starEach b X.env:=by rfl)(g:(backTo a (starEach b X.env)).any (·.1)=false:=by rfl):PE X (.Call (.Name x p) (e::b) [] a) (ZY r t):=lM i j c f h (of_decide_eq_false d) hdb k g
inductive E3{A B C:Type}(p:A->B->C->Prop):Prop
 | mk (a b c:_) (h:p a b c):E3 p
inductive E4{A B C D:Type}(p:A->B->C->D->Prop):Prop
 | mk (a b c d:_) (h:p a b c d):E4 p
inductive E5{A B C D E:Type}(p:A->B->C->D->E->Prop):Prop
 | mk (a b c d e:_) (h:p a b c d e):E5 p
inductive E6{A B C D E F:Type}(p:A->B->C->D->E->F->Prop):Prop
 | mk (a b c d e f:_) (h:p a b c d e f):E6 p
inductive E7{A B C D E F G:Type}(p:A->B->C->D->E->F->G->Prop):Prop
 | mk (a b c d e f g:_) (h:p a b c d e f g):E7 p
inductive E8{A B C D E F G H:Type}(p:A->B->C->D->E->F->G->H->Prop):Prop
 | mk (a b c d e f g i:_) (h:p a b c d e f g i):E8 p
inductive E9{A B C D E F G H I:Type}(p:A->B->C->D->E->F->G->H->I->Prop):Prop
 | mk (a b c d e f g i j:_) (h:p a b c d e f g i j):E9 p
inductive E10{A B C D E F G H I J:Type}(p:A->B->C->D->E->F->G->H->I->J->Prop):Prop
 | mk (a b c d e f g i j k:_) (h:p a b c d e f g i j k):E10 p
inductive W9{A B C D E F G H I J K:Type}(p:A->B->C->D->E->F->G->H->I->J->K->Prop):Prop
 | mk (a b c d e f g i j k l:_) (h:p a b c d e f g i j k l):W9 p
inductive YV{A B C D E F G H I J K L:Type}(p:A->B->C->D->E->F->G->H->I->J->K->L->Prop):Prop
 | mk (a b c d e f g i j k l m:_) (h:p a b c d e f g i j k l m):YV p
inductive E13{A B C D E F G H I J K L M:Type}(p:A->B->C->D->E->F->G->H->I->J->K->L->M->Prop):Prop
 | mk (a b c d e f g i j k l m n:_) (h:p a b c d e f g i j k l m n):E13 p
inductive E14{A B C D E F G H I J K L M N:Type}(p:A->B->C->D->E->F->G->H->I->J->K->L->M->N->Prop):Prop
 | mk (a b c d e f g i j k l m n o:_) (h:p a b c d e f g i j k l m n o):E14 p
inductive E17{A B C D E F G H I J K L M N O P Q:Type}(p:A->B->C->D->E->F->G->H->I->J->K->L->M->N->O->P->Q->Prop):Prop
 | mk (a b c d e f g i j k l m n o q r s:_) (h:p a b c d e f g i j k l m n o q r s):E17 p
inductive E18{A B C D E F G H I J K L M N O P Q R:Type}(p:A->B->C->D->E->F->G->H->I->J->K->L->M->N->O->P->Q->R->Prop):Prop
 | mk (a b c d e f g i j k l m n o q r s t:_) (h:p a b c d e f g i j k l m n o q r s t):E18 p
inductive E19{A B C D E F G H I J K L M N O P Q R S:Type}(p:A->B->C->D->E->F->G->H->I->J->K->L->M->N->O->P->Q->R->S->Prop):Prop
 | mk (a b c d e f g i j k l m n o q r s t u:_) (h:p a b c d e f g i j k l m n o q r s t u):E19 p
def clK(d:hG)(b:Nat)(c:List Nat)(N:hG)(a e:Scope):Bool:=(a.names.all λy=>decide (y.2≠.cell))&&decide (a.kind=.function)&&(a.names.all λy=>decide (y.2=.local->a.names.lookup y.1=some .local))&&decide (d.length=b+c.length)&&(a.names.all λy=>decide (y.2=.free->e.names.lookup y.1=some .cell))&&decide (e.kind=.function)&&(List.range c.length).all λi=>match d[b+i]?,c[i]? with
 | some x,some j=>decide (N[j]?=some x)&&decide (a.names.lookup x=some .free)
 | _,_=>false
def We{X:Cx}(Nc:hG)(b:Nat)(d:List Nat)(h:clK Nc b d X.N a X.env.scope=true:=by kernel_rfl)(k:∀x,X.env.scope.names.lookup x=some .cell->∃c,X.env.cells.lookup x=some c:=by exact λ_ h=>Bo h):Ϫ X Nc b d a (tL X.env.cells a.names []):=by
 unfold clK at h;simp only[bB,bw,dW,de]at h;obtain⟨⟨⟨⟨⟨⟨f,m⟩,l⟩,p⟩,g⟩,e⟩,o⟩:=h;refine Qf b d f m l p g e k λi n=>?_;have q:=o i n;split at q
 .rename_i x j e1 e2
  simp only[bB,bw]at q;exact⟨x,j,e1,e2,q.1,q.2⟩
 .cases q
abbrev Ok(P:Program)(w:World)(K:gy)(d:hF)(a:Heap)(x:Str)(st:Stmt)(c:hG)(k:Nat)(e:Sp):Prop:=∀(f:Addr)(b:FuncData),Df K d x st c f b->ύ P w K d a (τ P w) k f b c e
def ω(i:Xl a g)(j:PE a f c)(k:PE a b d)(h:JE b:=by exact λ_ _=>rfl):PE a (.Subscript f b e) (XO g c d):=rP i j k h
def Υ{X:Cx}{a:Expr}{b:Expr}{f:TE}{e:TE}{d:Pos}{c:CmpOp}{r:R2}(g:ϸ X (compareOp c) r)(i:PE X a f)(k:PE X b e)(h:c≠.In:=by decide)(j:c≠.NotIn:=by decide):PT X (.Compare a [c] [b] d) (FF (XO r f e)):=qm g i k (i9 _ h j)
def Uj(i:PE a e g)(k:PE a c f)(m:attributeBase e "append" a.env (eval e a.env)=eval e a.env:=by rfl)(l:((backTo b (starEach [c] a.env)).all (λx=>!x.1)&&(backToKw b (keywordEach [] a.env)).all (λx=>x.1.isSome)&&decide ([c].length+([]:List Keyword).length+(if([]:List Keyword).isEmpty then 0 else 1)<30))=true:=by rfl)(j:(d.endLine==b.line)=true:=by rfl)(h:starEach [c] a.env=(false,eval c a.env)::starEach [] a.env:=by rfl)(n:(backTo b (starEach [] a.env)).any (·.1)=false:=by rfl):PE a (.Call (.Attribute e "append" d) [c] [] b) (tBM a.K "list" TU g (J9 f Xj)):=kX eP PySem.F.slot_list_append PySem.F.type_list_append y9 i (ag k aq h) m l j h n
end Pb
namespace L2
open PySem PySem.Spec PyProof.Rows PySem.W
section
section
variable{n:Nat}{d:Nat->Nat->Bool}
structure Lin(n:Nat)(d:Nat->Nat->Bool):Prop where
 tot:∀a b,a<n->b<n->a≠b->d a b=false->d b a=true
 tr:∀a b c,a<n->b<n->c<n->d a b=true->d b c=true->d a c=true
end
variable(L:Lin n lt)(e:0<n)
include L e
end
end L2
namespace Pb
open L2 PySem PySem.W NumText
theorem Cv{f:fb}:∀{l:ej}{k:Int},k∈l->f k+1<=(l.map λk=>f k+1).sum
 | a::l,k,h=>by
   rw[aF,aN];rcases aA.mp h with rfl|h
   .lia
   .have:=Cv (f:=f) h
    lia
def QG(g:Good d b)(R:ε d b h a c){T:Nat}(q:1<=T)(t:∀v,0<=v->v<d->v≠h->tup b a v<=T)(n:Nat):∀v,0<=v->v<d->d.toNat-c v=n->ϣ d b h a c v<=(T^Wb d b h a c v:Nat):=by
 induction n with
 | zero=>
   intro v j l e;have:=ja R j l
   lia
 | succ n ih=>
   intro v j l e;by_cases p:kd d b h a v=[]
   .have o:ϣ d b h a c v=1:=by
     show fo mx d b h a c _ _ v=1;rw[zI g R j l,show bU d b (front h a v) v=[]from p]
     rfl
    rw[o];have:1<=T^Wb d b h a c v:=Nat.pow_pos q
    lia
   .obtain⟨k,hk,ek⟩:=EM g R j l p;obtain⟨i,m,s⟩:=(cR g R j l).mp hk;have r:=R.pos i.1 i.2 m;rw[s]at r;have w:=Nv g R j l;have le:=Cv (f:=Wb d b h a c) (show k∈kd d b h a v from hk);have u:=ih k i.1 i.2 (by lia);have o:=(r6 g R i.1 i.2).1;rw[<-ek];refine dN (gG u (t k i.1 i.2 m) (by have:=(ue g R i.1 i.2 m).1;lia) (by lia)) ?_;have:T^Wb d b h a c k*T<=T^Wb d b h a c v:=by
     rw[<-fY];exact fE q (by lia)
    rw[<-Int.natCast_mul]
    lia
end Pb
namespace L2
open PySem
def DK(w:World)(K:gy)(a:Addr)(c:List (Key×V)):Prop:=(a==sysModules)=false/\∃(o:Obj)(b:List (Key×Value)),K.lookup a=some o/\KV c b/\∀P:Program,o.IsDictOf (iC P w) b
def SV(l:List (Str×Tok×Int×Tok))(j:(a==sysModules)=false)(i:(l.map (·.1)).Nodup)(h:f.lookup a=some ⟨.type "dict",none,.dict ⟨d⟩ g,#[]⟩)(e:d=l.map λp=>DictEntry.mk (Po c (.inr p.1)) (.str p.1 p.2.1) (.int p.2.2.1 p.2.2.2)):DK c f a (l.map λp=>((.inr p.1:Key),V.int p.2.2.1)):=by
 refine⟨j,_,l.map λp=>((.inr p.1:Key),Value.int p.2.2.1 p.2.2.2),h,?_,λP=>⟨_,_,⟨rfl,rfl,rfl⟩,rfl,?_,?_,?_⟩⟩
 .clear i e
  induction l with
  | nil=>exact .nil
  | cons p l ih=>exact .cons ⟨rfl,⟨_,rfl⟩⟩ ih
 .intro x hx;rw[e]at hx;obtain⟨p,k,rfl⟩:=aE.mp (show x∈l.map _ from oh.mpr hx);exact⟨.inr p.1,vf P c _ _,rfl⟩
 .rw[e];clear i e
  induction l with
  | nil=>exact .nil
  | cons p l ih=>exact .cons (vf P c _ _) rfl ih
 .rw[fD];rw[show((λx:Key×Value=>x.1) ∘ λp:Str×Tok×Int×Tok=>((.inr p.1:Key),Value.int p.2.2.1 p.2.2.2))=(λx:Str=>(.inr x:Key)) ∘ (λp:Str×Tok×Int×Tok=>p.1)from rfl,<-fD];exact i.map _ λa b ne e=>ne (by injection e)
def DK.of{X:Cx}{a:Addr}{e:List (Key×V)}{b:g8}{f:St}{H:Hp}{s:Shared}(d:DK X.w X.K a e)(I:Inv X b f H s):(a==sysModules)=false/\∃c,KV e c/\s.heap.DictOf (iC X.prog X.w) a c:=by
 obtain⟨j,o,c,i,h,g⟩:=d;exact⟨j,c,h,Heap.dictOf_iff.mpr ⟨o,I.Uz _ _ i,g X.prog⟩⟩
def SR(a:Addr)(b:List (Key×V)):R2:=λx y H Q=>∃z,x=.str z/\y=.ref a/\Q (.bl (!(og b (.inr z)).isSome)) H
def Rh(w:World)(K:gy)(i:b.w=w)(l:b.K=K)(d:DK w K c a):ϸ b (compareOp .NotIn) (SR c a):=by
 subst i l;intro f s p H x y v u Q I m n h;obtain⟨z,rfl,rfl,q⟩:=h;cases n;obtain⟨g,o,e,j⟩:=d.of I;refine wpAny_notIn_of (zN (k:=.inr z) m) g j.mapOf ?_;rw[<-(e.val (.inr z)).ϴ];exact⟨.bl _,H,I.tok _,rfl,q⟩
def Tk(a:Addr)(b:List (Key×V)):R2:=λx y H Q=>∃z v,x=.ref a/\y=.str z/\og b (.inr z)=some v/\Q v H
def Oh(w:World)(K:gy)(n:a.w=w)(O:a.K=K)(d:DK w K c b)(M:PE a i e)(S:PE a g f)(D:Sj g):PE a (.Subscript i g j) (XO (Tk c b) e f):=by
 subst n O;intro m s A H Q I h;refine QU PySem.F.slot_dict_getitem.lookup D (eA (M m s A H _ I h) λu V x J E P L=>eA (S m V A J _ E L) λiv Z y R q U ⟨z,r,B,T,l,C⟩=>?_);subst B T;obtain rfl:u=Value.ref c:=P;obtain⟨X,N,p,t⟩:=d.of q;obtain⟨Y,n,G⟩:=aC.some_of (v:=r) (o:=valueAt N (.inr z)) (by rw[<-l];exact p.val (.inr z));exact⟨t.typeIs,wpAny_getItem_of (zN (k:=.inr z) U) t.mapOf n ⟨r,R,q.tok _,G,C⟩⟩
end L2
namespace Pb
open L2 PySem
def nbT:List (Str×Nat):=[("put",2),("want",2),("step",3),("back",0),("laying",0),("wish",0),("most",1),("bring",1),("stands",1),("meet",0),("enough",2),("hardest",1),("worst",2),("many",2),("always",0),("fails",0)]
def nb(w:Str):Option Nat:=(nbT.find? λp=>decide (p.1=w)).map (·.2)
def nbK:List (Key×V):=nbT.map λp=>((.inr p.1:Key),V.int (p.2:Int))
theorem HJ(w:Str):∀l:List (Str×Nat),og (l.map λp=>((.inr p.1:Key),V.int (p.2:Int))) (.inr w)=((l.find? λp=>decide (p.1=w)).map λp:Str×Nat=>p.2).map λn:Nat=>V.int (n:Int)
 | []=>rfl
 | p::l=>by
   have a:=HJ w l;unfold og at a ⊢;rw[aF,fI,fI];by_cases h:p.1=w
   .rw[bD h,bD (show(Sum.inr p.1:Key)=.inr w by rw[h])]
    rfl
   .rw[b4 h,b4 (show ¬(Sum.inr p.1:Key)=.inr w from λz=>h (by injection z))];exact a
def LA(w:Str):og nbK (.inr w)=(nb w).map λn:Nat=>V.int (n:Int):=HJ w nbT
def UI(h:a≠b):¬V.str a=V.str b:=λz=>h (by injection z)
def uh(z a:Str):Str.join z [a]=a:=lI (by rw[fQ];rfl)
def Nu(a:e≠[])(b:d≠[]):Str.join c (e++d)=Str.join c e++c++Str.join c d:=lI (by
 rw[app_list,app_list,fQ,fQ,fQ,au,EZ (by simpa using b) (by simpa using a)])
def r9(a b c:Str):a++b++c=a++(b++c):=lI (by rw[app_list,app_list,app_list,app_list,bO])
def wdB(w:Str):Bool:=w.cps.toList.all (λc=>decide (c≠32/\c<128))&&decide (w.cps.toList.length<=100)
abbrev Wd(w:Str):Prop:=wdB w=true
def Ph:∀p∈nbT,nb p.1=some p.2/\p.2<=3/\Wd p.1/\p.1.length<=10/\Wd (Txt.upper p.1)/\nb (Txt.upper p.1)=none/\Wd (p.1++Str.ofString ":")/\nb (p.1++Str.ofString ":")=none:=by decide +kernel
abbrev LS(H:Hp)(a:Addr)(b:hG):Prop:=H a=some (.lst (b.map V.str))
def B8(h:LS a e c)(j:LS a d b)(l:c.length+b.length<=100)(q:∀p g,δ a g->LS g p (c++b)->f (.ref p) g):Yv (.ref e) (.ref d) a f:=Sh h j (bL (by rw[aa,aa];lia)) λp i=>q p _ (δ.new _ i) (by show upd _ _ _ _=_;rw[az,au])
def Q9(i:LS c b e)(h:0<=a)(q:∀p g,δ c g->LS g p (e.take a.toNat)->d (.ref p) g):KM f (.ref b) none (some a) c d:=⟨b,_,rfl,ν.of i,λp j=>q p _ (δ.new _ j) (by show upd _ _ _ _=_;rw[az,Sq _ h,nu])⟩
def Jf(i:LS c b e)(h:0<=a)(q:∀p g,δ c g->LS g p (e.drop a.toNat)->d (.ref p) g):KM f (.ref b) (some a) none c d:=⟨b,_,rfl,ν.of i,λp j=>q p _ (δ.new _ j) (by show upd _ _ _ _=_;rw[az,CW _ h,kt])⟩
def wdA:Nat->Str
 | 0=>"place"
 | 1=>"wish"
 | _=>"step"
def zy(z a b:Str)(l:hG):Str.join z (a::b::l)=a++(z++Str.join z (b::l)):=by
 rw[show a::b::l=[a]++(b::l)from rfl,Nu (by simp) (by simp),uh,r9]
abbrev TS(H:Hp):List Addr->List (Str×Nat)->Prop:=Paired λq p=>H q=some (.tup [.str p.1,.str (wdA p.2)])
def pI(s:String)(h:decide ((Str.ofString s).length<=20)=true:=by decide +kernel):(Str.ofString s).length<=20:=bu h
def Vr(h:a<10^60):(FS a).length<=60:=by
 have:=(RG h).aat;rw[dI];exact this
end Pb
namespace Pb
open L2 PySem PySem.W
def tI(z:Int):Str:=Str.ofString (toString z)
def lV(n:Nat):tI n=FS n:=eR n
def zC(h:a<0):Str.ofString "-" ++ tI (-a)=tI a:=by
 obtain⟨k,rfl⟩:∃k:Nat,a=-((k+1:Nat):Int):=⟨(-a).toNat-1,by lia⟩;rw[show -(-((k+1:Nat):Int))=((k+1:Nat):Int) by lia];refine lI ?_;rw[app_list];unfold tI;have e:toString (-((k+1:Nat):Int))="-" ++ toString (((k+1:Nat):Nat):Int):=rfl;rw[e,jp,jp,jp,String.toList_append];simp
abbrev Bt(z:Int):Prop:=z.natAbs<2^1900
def Bt.log(h:Bt a):a.natAbs.log2<1920:=by
 by_cases e:a.natAbs=0
 .rw[e];decide
 .exact(lP e).mpr (be h (fE (by decide) (by decide)))
def SS:2^1900<=10^(572+1):=by decide +kernel
def mJ(h:Bt a):(tI a).length<=600:=by
 have b:∀n:Nat,n<2^1900->(FS n).length<=573:=λn d=>by
  rw[dI];exact mf 572 n (be d SS)
 by_cases c:a<0
 .rw[<-zC c,dU,show -a=((a.natAbs:Nat):Int) by lia,lV];have:=b _ h;rw[show(Str.ofString "-").length=1 from rfl]
  lia
 .rw[show a=((a.natAbs:Nat):Int) by lia,lV];have:=b _ h
  lia
structure Np(z q:Int)(ps:hG):Prop where
 big:Bt q
 len:∀p∈ps,p.length=18
 cnt:ps.length<1900
 val:(ps=[]/\q=z)\/(0<q/\0<=z/\z.toNat<2^1900/\q.toNat*2^ps.length<=z.toNat/\fL z.toNat=fL q.toNat++(ps.reverse.map (·.cps.toList)).flatten)
def Np.start(h:Bt a):Np a a []:=⟨h,λ_ h=>(by cases h),by decide,.inl ⟨rfl,rfl⟩⟩
def Np.step(h:Np e b d)(c:1000000000000000000<=b):(b%1000000000000000000).natAbs.log2<1920/\Np e (b/1000000000000000000) (d++[Txt.zfill (tI (b%1000000000000000000)) 18]):=by
 have r:b.toNat*2^d.length<=e.toNat/\0<=e/\e.toNat<2^1900/\fL e.toNat=fL b.toNat++(d.reverse.map (·.cps.toList)).flatten:=by
  rcases h.val with⟨rfl,rfl⟩|⟨_,i,f,g,h5⟩
  .exact⟨by simp,by lia,by have:=h.big;lia,by simp⟩
  .exact⟨g,i,f,h5⟩
 obtain⟨o,i,f,g⟩:=r;have n:b%1000000000000000000=((b.toNat%10^18:Nat):Int):=by lia
 have l:(b/1000000000000000000).toNat=b.toNat/10^18:=by lia
 have q:10^18<=b.toNat:=by lia
 have k:b.toNat%10^18<10^18:=j8 _ (by decide);have m:0<b/1000000000000000000:=by lia
 rw[n,lV];have j:(b/1000000000000000000).toNat*2^(d++[Txt.zfill (FS (b.toNat%10^18)) 18]).length<=e.toNat:=by
  rw[l,ay,eD,show 2^(d.length+1)=2^d.length*2 from fY ..];have:b.toNat/10^18*(2^d.length*2)=(b.toNat/10^18*2)*2^d.length:=by
   rw[Nat.mul_comm (2^d.length) 2,ke]
  rw[this];exact aV (Nat.mul_le_mul_right _ (by lia)) o
 refine⟨JJ k (by decide) (by decide),?_,λp hp=>?_,?_,.inr ⟨m,i,f,j,?_⟩⟩
 .have:=h.big;show(b/1000000000000000000).natAbs<_
  lia
 .rcases aX.mp hp with hp|hp
  .exact h.len p hp
  .rw[aG.mp hp];exact Ru k
 .refine(Nat.pow_lt_pow_iff_right (a:=2) (by decide)).mp (fX (aV ?_ j) f);exact Nat.le_mul_of_pos_left _ (by lia)
 .rw[g,Rk q,l];simp
def Np.done(h:Np b a c):Str.join "" ((c++[tI a]).reverse)=tI b:=by
 rcases h.val with⟨rfl,rfl⟩|⟨h1,h2,_,_,h5⟩
 .exact uh _ _
 .rw[show a=((a.toNat:Nat):Int) by lia,show b=((b.toNat:Nat):Int) by lia,lV,lV];exact QL h5
def Np.sum(h:Np c b a):((a++[tI b]).map (·.length)).sum+(a++[tI b]).length*(Str.ofString "").length<=16777216:=by
 have d:=sg (ws:=a++[tI b]) (m:=600) λw hw=>by
  rcases aX.mp hw with hw|hw
  .rw[h.len w hw];decide
  .rw[aG.mp hw];exact mJ h.big
 have:=h.cnt;rw[ay,eD]at d ⊢;rw[show(Str.ofString "").length=0 from rfl]
 lia
def ϯ(a:ej):Str:=Str.join (Str.ofString " ") (a.map tI)
def Rr{a:ej}(h:∀z∈a,Bt z)(l:a.length<=100):((a.map tI).map (·.length)).sum+(a.map tI).length*(Str.ofString " ").length<=16777216:=by
 have b:=sg (ws:=a.map tI) (m:=600) λw c=>by
  obtain⟨z,d,rfl⟩:=aE.mp c;exact mJ (h z d)
 rw[aa]at b ⊢;rw[show(Str.ofString " ").length=1 from rfl]
 lia
def mS(h:∀z∈zs,Bt z):(ϯ zs).length<=601*zs.length:=by
 have:=xC (z:=Str.ofString " ") (ws:=zs.map tI) (m:=600) λw a=>by
  obtain⟨z,b,rfl⟩:=aE.mp a;exact mJ (h z b)
 rw[aa]at this;exact this
abbrev VR(s:ϵ):Prop:=∀z∈[s.1,s.2.1,s.2.2],Bt z
def UJ(s:ϵ):Str:=ϯ [s.1,s.2.1,s.2.2]
def Bv(a:List ϵ):Str:=if a=[]then Str.ofString "." else Str.join (Str.ofString " / ") (a.map UJ)
def Ea(h:VR a):(UJ a).length<=1803:=mS h
def SA{a:List ϵ}(h:∀s∈a,VR s)(l:a.length<=200):((a.map UJ).map (·.length)).sum+(a.map UJ).length*(Str.ofString " / ").length<=16777216:=by
 have b:=sg (ws:=a.map UJ) (m:=1803) λw c=>by
  obtain⟨z,d,rfl⟩:=aE.mp c;exact Ea (h z d)
 rw[aa]at b ⊢;rw[show(Str.ofString " / ").length=3 from rfl]
 lia
def Ej(h:∀s∈a,VR s)(l:a.length<=48):(Bv a).length<=90000:=by
 unfold Bv;split
 .decide
 .have:=xC (z:=Str.ofString " / ") (ws:=a.map UJ) (m:=1803) λw b=>by
   obtain⟨z,c,rfl⟩:=aE.mp b;exact Ea (h z c)
  rw[aa,show(Str.ofString " / ").length=3 from rfl]at this
  lia
end Pb
namespace Pb
open PySem L2
abbrev Ab(M z:Int):Prop:=-M<=z/\z<=M
def sR(h:Ab (2^n) z)(a:n<1900):Bt z:=by
 have:=Jq a;have e:(2:Int)^1900=((2^1900:Nat):Int):=by norm_cast
 rw[Int.pow_succ]at this;have p:(0:Int)<2^n:=jh (by decide);obtain⟨c,b⟩:=h;show z.natAbs<2^1900;rw[e]at this
 lia
inductive Uk(m:Int)(rs:hR)(x y:ej):Str->List Nat->Sum Str Nat->Prop
 | laying (l:x.length<=24) (b:∀z∈x,Bt z):Uk m rs x y "laying" [] (.inl (ϯ x))
 | wish (l:y.length<=24) (b:∀z∈y,Bt z):Uk m rs x y "wish" [] (.inl (ϯ y))
 | most {v:Nat} {par:eX} {dep:fb} (h:(v:Int)<m) (R:ε m rs v par dep) (b:Bt (Ζ m rs v par dep (λu=>x.getD u.toNat 0) (Ϭ rs par) v)):Uk m rs x y "most" [v] (.inl (tI (Ζ m rs v par dep (λu=>x.getD u.toNat 0) (Ϭ rs par) v)))
 | aav {v:Nat} (h:m<=v):Uk m rs x y "most" [v] (.inr 0)
 | bring {v:Nat} {par:eX} {dep:fb} {tl:ej} {ss:List ϵ} (h:(v:Int)<m) (R:ε m rs v par dep) (et:eE m rs v par dep v=(v:Int)::tl) (es:ss=(eF m rs v par dep (λu=>x.getD u.toNat 0) tl.reverse).map λu=>(u,par u,gE m rs v par dep (λu=>x.getD u.toNat 0) u)) (l:ss.length<=48) (b:∀s∈ss,VR s):Uk m rs x y "bring" [v] (.inl (Bv ss))
 | YW {v:Nat} (h:m<=v):Uk m rs x y "bring" [v] (.inr 0)
 | stands {v:Nat} {par:eX} {dep:fb} (h:(v:Int)<m) (R:ε m rs v par dep) (b:Bt (ψ m rs v par dep y x v)):Uk m rs x y "stands" [v] (.inl (tI (ψ m rs v par dep y x v)))
 | Xy {v:Nat} (h:m<=v):Uk m rs x y "stands" [v] (.inr 0)
 | VE {Η:hP} {Ρ:Int->Int->Nat} {tl:ej} {ss:List ϵ} (RR:∀r,0<=r->r<m->ε m rs r (Η r) (Ρ r)) (et:eE m rs 0 (Η 0) (Ρ 0) 0=0::tl) (h:0<=ψ m rs 0 (Η 0) (Ρ 0) y x 0) (es:ss=iP rs (Η 0) (ψ m rs 0 (Η 0) (Ρ 0) y x) tl.reverse++ko (Η 0) (ψ m rs 0 (Η 0) (Ρ 0) y x) tl) (l:ss.length<=48) (b:∀s∈ss,VR s):Uk m rs x y "meet" [] (.inl (Str.ofString "steps " ++ Bv ss))
 | VF {Η:hP} {Ρ:Int->Int->Nat} {zs:ej} (RR:∀r,0<=r->r<m->ε m rs r (Η r) (Ρ r)) (h:¬0<=ψ m rs 0 (Η 0) (Ρ 0) y x 0) (es:zs=(lB m rs Η Ρ x y m.toNat).map λz=>-z) (l:zs.length<=24) (b:∀z∈zs,Bt z):Uk m rs x y "meet" [] (.inl (Str.ofString "lack " ++ ϯ zs))
 | TV (h:y.sum=0):Uk m rs x y "always" [] (.inl (tI 0))
 | always {par:eX} {dep:fb} (h:y.sum≠0) (R:ε m rs (jm m y) par dep) (b:Bt ((TN m rs (jm m y) par dep (pB m rs (jm m y) par dep y) (jm m y) (-1)).sum+1)):Uk m rs x y "always" [] (.inl (tI ((TN m rs (jm m y) par dep (pB m rs (jm m y) par dep y) (jm m y) (-1)).sum+1)))
 | WC (h:y.sum=0):Uk m rs x y "fails" [] (.inr 4)
 | fails {par:eX} {dep:fb} {zs:ej} (h:y.sum≠0) (R:ε m rs (jm m y) par dep) (es:zs=TN m rs (jm m y) par dep (pB m rs (jm m y) par dep y) (jm m y) (-1)) (l:zs.length<=24) (b:∀z∈zs,Bt z):Uk m rs x y "fails" [] (.inl (ϯ zs))
def Uk.len(h:Uk e c g i f d (.inl a)):a.length<=100000:=by
 have j:∀{n:ej},n.length<=24->(∀z∈n,Bt z)->(ϯ n).length<=20000:=λl b=>by have:=mS b;lia
 have m:∀{z:Int},Bt z->(tI z).length<=100000:=λb=>by have:=mJ b;lia
 have o:∀{u v:Str}{k:Nat},u.length<=10->v.length<=90000->(u++v).length<=100000:=λp q=>by rw[dU];lia
 cases h with
 | laying l b=>exact aV (j l b) (by decide)
 | wish l b=>exact aV (j l b) (by decide)
 | most _ _ b=>exact m b
 | bring _ _ _ _ l b=>exact aV (Ej b l) (by decide)
 | stands _ _ b=>exact m b
 | VE _ _ _ _ l b=>exact o (k:=0) (by decide) (Ej b l)
 | VF _ _ _ l b=>exact o (k:=0) (by decide) (aV (j l b) (by decide))
 | TV _=>decide
 | always _ _ b=>exact m b
 | fails _ _ _ l b=>exact aV (j l b) (by decide)
section
variable{m:Int}{x y:ej}{n:Nat}
structure Sz(m:Int)(n:Nat)(s:List Int×List Int):Prop where
 l1:(s.1.length:Int)=m
 l2:(s.2.length:Int)=m
 b1:∀x∈s.1,0<=x/\x<=n*10^60
 b2:∀y∈s.2,0<=y/\y<=10^60
end
def oN{P:Int->Prop}{l:ej}(h:∀x∈l,P x)(a:P 0)(i:Nat):P (l.getD i 0):=by
 by_cases c:i<l.length
 .rw[bc,aB c];exact h _ (dL c)
 .rw[bc,bP (by lia)];exact a
def RP:Nat->Str
 | 0=>"refused place"
 | 1=>"refused wish"
 | 2=>"refused step"
 | 3=>"refused deed"
 | 4=>"refused none"
 | _=>"refused row"
def qM:Sum Str Nat->Str
 | .inl a=>a
 | .inr c=>RP c
def NC(h:Ϡ j i d k a c b g f):Τ j g (f.map λu=>(u,a u,gE i d k a c b u)):=by
 induction h with
 | nil=>exact .nil
 | cons e _ ih=>exact .cons e ih
def KF(h:nb b=some a):a<=3:=by
 unfold nb at h;obtain⟨p,c,rfl⟩:=b9.mp h;exact(Ph p (List.mem_of_find?_eq_some c)).2.1
end Pb
namespace L2
open PySem PySem.Spec PyProof.Rows
def JT(K:gy)(f e:Addr)(d:TS)(h:TH):TH:=λD b a g H=>∃C c b2,a=.ref C/\PySem.W.mroIn K C (.ref f)=some c/\PySem.W.mroIn K C (.ref e)=some b2/\if(c||b2)=true then d D b H else h D b a g H
def J5{K:gy}{C a:Addr}{b:Bool}(c:U7 K a)(m:PySem.W.mroIn K C (.ref a)=some b):PySem.W.exmOne K (.ref C) (.ref a)=some b:=by
 unfold PySem.W.exmOne;rw[aj (by
  show(PySem.W.subIn K (.ref a) (.type "BaseException")==some true)=true;rw[show PySem.W.subIn K (.ref a) (.type "BaseException")=PySem.W.mroIn K a (.type "BaseException")from rfl,c.mb]
  rfl)]
 unfold PySem.W.kitCls;have q:((PySem.W.clsIn K a).isSome&&PySem.W.typeIn K (.ref a)==some (.type "type"))=true:=by
  obtain⟨cd,e,_⟩:=lC c.hd;rw[e,c.ty];simp
 simp only[q,if_true];exact m
def RK{X:Cx}{x:Str}{y:Str}{p1:Pos}{p2:Pos}{pt:Pos}{r:Pos}{j:Addr}{m:Addr}{L:Stmt}{O:List Stmt}{rest:List ExceptHandler}{M:TS}{Q:TH}{ct:Nat}(S:U7 X.K j)(R:U7 X.K m)(hg:Gl X x)(hm:X.mg x=some (.ref j))(E:Gl X y)(A:X.mg y=some (.ref m))(B:∀e,UX (X.held e).Wl (L::O) M)(hr:Zk X rest Q)(hdb:(x==("__debug__":Str))=false:=by decide)(t:(y==("__debug__":Str))=false:=by decide):Zk X (.ExceptHandler (some (.Tuple [.Name x p1,.Name y p2] ct pt)) none (L::O) r::rest) (JT X.K j m M Q):=by
 intro c s σ H D i T cls P I er le lt h;obtain⟨C,w,b2,rfl,m1,Z,q⟩:=h;refine wpAny_handleBy_cons (codeAny_handlers_test (Tuple_ ?_)) (by nofun);refine fB (qo (X:=X.held (.ref i)) (I.held _) hg hm (fB (qo (X:=X.held (.ref i)) (I.held _) E A (gB ?_) t)) hdb);refine fg ?_ (by show 2<=sizeLine;decide);have p:∀b o,s.heap.get? b=some o->(s.heap.push { cls:=.type "tuple",data:=.seq [Value.ref j,Value.ref m].toArray }).get? b=some o:=λb o e=>aI _ e;have hp:=bd s.heap (o:={ cls:=.type "tuple",data:=.seq [Value.ref j,Value.ref m].toArray }) rfl;have n:=I.kept (t':=s.toks) p;obtain⟨⟨oe,Y,N,G,h3,V,h5,h6⟩,⟨oT,tt,U,t2,t3⟩,en⟩:=er;have l:V7 (s.heap.push { cls:=.type "tuple",data:=.seq [Value.ref j,Value.ref m].toArray }) i T (.ref C) P .none:=⟨⟨oe,Y,p _ _ N,G,h3,V,h5,h6⟩,⟨oT,tt,p _ _ U,t2,t3⟩,en⟩;refine(PySem.W.exm_tup2 (e:=i) (cls:=.ref C) (b:=w||b2) n.Uz ?_ hp ?_).here ?_
 .exact G▸(PySem.W.Looks.ld (p _ _ N)).andThen .now
 .unfold PySem.W.exmAny;rw[J5 S m1];unfold PySem.W.exmAny;rw[J5 R Z];unfold PySem.W.exmAny;cases w<;>cases b2<;>rfl
 generalize s.heap.push { cls:=.type "tuple",data:=.seq [Value.ref j,Value.ref m].toArray }=h' at n l;cases eb:(w||b2)with
 | false=>exact hr c _ σ H D i T _ P n l le lt (by rw[eb]at q;simpa using q)
 | true=>
   rw[eb,aj rfl]at q;refine codeAny_handlers_suite (wf (fs:=ϥ X.stack) l λh' a8 k=>?_);have n:=n.moved (tk:=s.toks) k λb B=>by rw[aG.mp B];exact lt.all
   have I2:=n.held (.ref i);refine cP (B (.ref i) c _ _ _ _ (I2.wish _) q) (λf F z=>?_) λ_ _ z=>False.elim z;have a:∀{d:St}{g:Hp},Inv (X.held (.ref i)).Wl c d g F->Inv X c d g F:=λJ=>J.Ϙ.UG I.ok.hd;dsimp only;cases f with
   | next=>
     obtain⟨d,g,J,z⟩:=z;exact⟨_,g,a J,z⟩
   | brk=>
     obtain⟨d,g,J,z⟩:=z;exact⟨_,g,a J,z⟩
   | cont=>
     obtain⟨d,g,J,z⟩:=z;exact⟨_,g,a J,z⟩
   | ret u=>
     obtain⟨v,d,g,J,rv,z⟩:=z;exact⟨v,_,g,a J,rv,z⟩
def Xz:V->List V->Hp->VK->Prop:=λx b H Q=>∃(l:Addr)(a:hG)(y:Str)(j:Nat),x=.ref l/\b=[.str y]/\H l=some (.lst (a.map V.str))/\a[j]?=some y/\(∀i,i<j->a[i]?≠some y)/\j<100000/\Q (.int j) H
def eqS(y:Str):Value->Bool
 | .str i _=>i==y
 | _=>false
def MD :Yt a "list.index" Xz:=by
 intro C s W H x U v S Q I O N h;obtain⟨l,f,y,j,rfl,rfl,M,B,K,R,q⟩:=h;cases O;obtain⟨u,rfl,w⟩:=N.one;obtain⟨L,rfl⟩:=(show ∃t,u=Value.str y t from w);obtain⟨z,c,n,r,T,e⟩:=I.Vn M;have d:c.length=f.length:=by rw[<-r.length,aa]
 have A:∀(i:Nat)(v:Value),c[i]?=some v->∃x t,f[i]?=some x/\v=Value.str x t:=λi v g=>by
  have D:i<f.length:=by rw[<-d];exact(aD.mp g).1
  obtain⟨u,G,w⟩:=r.get (i:=i) (x:=V.str f[i]) (by rw[aP,aB D];rfl);rw[g]at G;cases G;obtain⟨t,e⟩:=(show ∃t,v=Value.str f[i] t from w);exact⟨f[i],t,aB D,e⟩
 have E:j<c.length:=by rw[d];exact(aD.mp B).1
 refine call_meets F.slot_list_index ⟨_,e,rfl⟩ F.entry_list_index (F.args_list_index_2 _ _) (PySem.MeetsSeq.list_index l c.toArray n (.str y L) (eqS y) (λv J=>?_) j (by simpa using E) (by lia) ?_ λi g p=>?_) ⟨e,?_⟩
 .obtain⟨i,g,rfl⟩:=j1 (by simpa using J);obtain⟨x,t,_,k⟩:=A i c[i] (aB g);rw[k];exact λ_ _ _ _ _ _ h=>wpAny_eqBool_str h
 .obtain⟨x,t,m,k⟩:=A j c[j] (aB E);rw[B]at m;cases m;simp[k,eqS]
 .have Le:i<c.length:=by simpa using g
  obtain⟨x,t,m,k⟩:=A i c[i] (aB Le);have:x≠y:=λz=>K i p (by rw[m,z]);simp[k,eqS,this]
 .exact⟨.int j,H,I.kept (t':=s.toks+1) λb o P=>P,⟨s.toks,rfl⟩,q⟩
end L2
namespace Pb
open L2 PySem PySem.W
def Sz.UR(h:Sz c b a):(∀x∈a.1,0<=x)/\∀x∈a.2,0<=x:=⟨λx d=>(h.b1 x d).1,λx d=>(h.b2 x d).1⟩
end Pb
namespace Pb
open L2 PySem
def MW(Y:hG):(Y.map V.str).all sN=true:=by
 rw[dW];intro x a;obtain⟨y,_,rfl⟩:=aE.mp a
 rfl
def Qj(y:Str)(Y:hG):Zh (.str y) (Y.map V.str)=decide (y∈Y):=by
 unfold Zh;rw[ip,List.any_eq_true,decide_eq_true_iff]
 constructor
 .rintro⟨x,hx,e⟩;obtain⟨z,a,rfl⟩:=aE.mp hx;have:z=y:=by simpa[W0]using e
  rw[<-this];exact a
 .intro h;exact⟨_,aE.mpr ⟨y,h,rfl⟩,by simp[W0]⟩
end Pb
namespace Pb
open L2 PySem PySem.W
def Xa(w:Str):Bool:=decide (w.length<=10)&&w.cps.toList.all λc=>decide (c≠32/\c≠10/\c<128)
def zY(h:Xa a=true):Vq a/\Pl a:=by
 unfold Xa at h;rw[bB,decide_eq_true_iff,dW]at h;have k:=λc b=>bu (h.2 c b);exact⟨⟨h.1,λz=>(k _ z).1 rfl,λz=>(k _ z).2.1 rfl⟩,λc b=>⟨(k c b).2.2,(k c b).2.1⟩⟩
def DV{P:Int->Prop}{b:ej}{v:Nat}{y:Int}(h:∀x∈b,P x)(c:P y):∀x∈b.set v y,P x:=λx a=>by
 rcases iL a with a|rfl
 .exact h x a
 .exact c
end Pb
namespace Pb
open L2 PySem PySem.W NumText
def KW(h:a=w++Str.ofString " ")(v:Nat):a++FS v=Ε w [v]:=by
 unfold Ε;rw[h,aF,dB,zy,uh,r9]
def Rq(h:a.length≠0):Str.ofString ""≠a:=λz=>h (by rw[<-z];rfl)
def Q0(c:a.length≠0)(b:List Nat):(Ε a b).length≠0:=by
 rw[dI,uy];rw[dI]at c;cases b with
 | nil=>exact c
 | cons n b=>
   show(a.cps.toList++[32]++gf [32] (fL n::b.map fL)).length≠0;rw[ay,ay,eD]
   lia
def OJ(g:Good c b)(h:(eJ c b)[a]?=some d):∃w e,d=Ε w e/\e≠[]/\Xa w=true/\w.length≠0/\e.length<=4/\(∀n∈e,n<10^60)/\((a=0/\w=Ui/\e=[c.toNat])\/(a≠0/\w=Ub/\e.length=4)):=by
 have Β:=g.Β;cases a with
 | zero=>
   cases h;exact⟨_,_,rfl,by simp,by decide +kernel,by decide,by simp,λn f=>by rw[aG.mp f];lia,.inl ⟨rfl,rfl,rfl⟩⟩
 | succ a=>
   obtain⟨r,i,rfl⟩:=List.θ (show(b.map Bm)[a]?=some d from h);exact⟨Ub,mh r,rfl,by simp[mh],by decide +kernel,by decide,aU _,(KI (g.ok r (aQ i)) Β).2,.inr ⟨by lia,rfl,rfl⟩⟩
def NZ(g:Good b a):∀y∈eJ b a,Str.ofString ""≠y:=λy c=>by
 obtain⟨i,e⟩:=cF c;obtain⟨w,d,rfl,_,_,h,_⟩:=OJ g e;exact Rq (Q0 h d)
def Mz(ne:Y≠[])(h:∀y∈Y,Pl y/\y.length<=400)(l:Y.length<=100):Txt.split (Str.join (Str.ofString "\n") Y) (Str.ofString "\n")=Y/\(Str.join (Str.ofString "\n") Y).length<=60000/\(Y.map (·.length)).sum+Y.length*(Str.ofString "\n").length<=16777216:=by
 have a:∀w∈Y,w.length<=400:=λw b=>(h w b).2;have e:=xC (z:=Str.ofString "\n") a;have f:=sg a;rw[show(Str.ofString "\n").length=1 from rfl]at e ⊢;exact⟨qJ (c:=10) ne λy d=>(h y d).1.row,by lia,by lia⟩
end Pb
namespace Pb
open PySem L2
def BC(w:Str)(v k:Nat):w++Str.ofString " " ++ FS v++Str.ofString " " ++ FS k=Ε w [v,k]:=by
 unfold Ε;rw[aF,aF,dB,zy,zy,uh,r9,r9,r9]
end Pb
namespace Pb
open L2 PySem PySem.W
def Cg(z:Int):∀c∈(tI z).cps.toList,c=45\/(48<=c/\c<=57):=by
 have a:∀n:Nat,∀c∈(FS n).cps.toList,c=45\/(48<=c/\c<=57):=λn c hc=>.inr (lZ n c hc);by_cases n:z<0
 .rw[<-zC n,show -z=((z.natAbs:Nat):Int) by lia,lV,app_list];intro c hc;rcases aX.mp hc with hc|hc
  .left
   rw[show(Str.ofString "-").cps.toList=[45] by decide +kernel]at hc;exact aG.mp hc
  .exact a _ c hc
 .rw[show z=((z.natAbs:Nat):Int) by lia,lV];exact a _
def Tx(z:Str):Prop:=∀c∈z.cps.toList,c=32\/(45<=c/\c<=57)
def Jx(e:Tx b)(h:∀y∈a,Tx y):Tx (Str.join b a):=λc d=>by
 rw[fQ]at d;rcases qp d with d|⟨x,f,d⟩
 .exact e c d
 .obtain⟨y,hy,rfl⟩:=aE.mp f;exact h y hy c d
def zP(z:Int):Tx (tI z):=λc a=>by
 have:=Cg z c a
 lia
def wq(a:ej):Tx (ϯ a):=Jx (by unfold Tx;decide +kernel) λy b=>by
 obtain⟨z,_,rfl⟩:=aE.mp b;exact zP z
def Md(b:List ϵ):Tx (Bv b):=by
 unfold Bv;split
 .unfold Tx;decide +kernel
 .refine Jx (by unfold Tx;decide +kernel) λy a=>?_;obtain⟨z,_,rfl⟩:=aE.mp a;exact wq _
inductive UK(m:Int)(rs:hR):Str->List Nat->Str->Prop
 | enough {v w:Nat} {par:eX} {dep:fb} (h:(v:Int)<m) (w1:1<=w) (w2:w<=10^20) (R:ε m rs v par dep) (b:Bt (XY m rs v par (mI m rs v par dep) w+1)):UK m rs "enough" [v,w] (tI (XY m rs v par (mI m rs v par dep) w+1))
 | worst {v w:Nat} {par:eX} {dep:fb} {tl zs:ej} {cn:eX} (h:(v:Int)<m) (w1:1<=w) (w2:w<=10^20) (R:ε m rs v par dep) (et:eE m rs v par dep v=(v:Int)::tl) (N:iS m rs v par (T8 m rs v par dep tl) w cn) (ez:zs=(cj m.toNat).map (lies (T8 m rs v par dep tl) cn)) (l:zs.length<=24) (b:∀z∈zs,Bt z):UK m rs "worst" [v,w] (ϯ zs)
inductive XZ(m:Int)(s:List Int×List Int):Str->List Nat->List Int×List Int->Prop
 | put {v n:Nat} (h:(v:Int)<m):XZ m s "put" [v,n] (s.1.set v (s.1.getD v 0+n),s.2)
 | want {v n:Nat} (h:(v:Int)<m):XZ m s "want" [v,n] (s.1,s.2.set v n)
def FX(m:Int)(b:hR)(x y:ej)(w:Str)(c:List Nat)(o:Sum Str Nat):Prop:=(Uk m b x y w c o/\o≠.inr 0)\/∃a,o=.inl a/\UK m b w c a
def By(m:Int)(d:hR)(b:List (List Int×List Int))(s:List Int×List Int)(z:Str)(o:Sum Str Nat)(S:List (List Int×List Int)):Prop:=z.length<=60000/\∃(w:Str)(a:List Nat),wsp z=w::a.map FS/\(∀n∈a,n<10^60)/\nb w=some a.length/\((o=.inl "done"/\∃c,S=b++[s]++[c]/\XZ m s w a c)\/(S=b++[s]/\FX m d s.1 s.2 w a o))
def UK.len(h:UK e c f d a):a.length<=100000:=by
 cases h with
 | enough _ _ _ _ b=>have:=mJ b;lia
 | worst _ _ _ _ _ _ _ l b=>have:=mS b;lia
def By.same(h:By i f a b g d c)(e:d=.inr j):c=a++[b]:=by
 subst e;rcases h with⟨_,w,ns,_,_,_,⟨h,_⟩|⟨h,_⟩⟩
 .cases h
 .exact h
def NS(n:a.length=k)(m:∀k∈a,k<10^60)(h:FX e d c.1 c.2 b a f)(g:List (List Int×List Int))(i:Xa b=true:=by decide +kernel)(j:nb b=some k:=by decide +kernel):By e d g c (Ε b a) f (g++[c]):=by
 obtain⟨i,_⟩:=zY i;subst n;have l:=rD i m;have:=KF j;exact⟨by lia,b,a,zA i a,m,j,.inr ⟨rfl,h⟩⟩
def Lc{m:Int}{rs:hR}{w:Str}{ns:List Nat}{sts:List (List Int×List Int)}{s:List Int×List Int}{b:List Int×List Int}{k:Nat}(e:ns.length=k)(d:∀k∈ns,k<10^60)(h:XZ m s w ns b)(a:Xa w=true:=by decide +kernel)(c:nb w=some k:=by decide +kernel):By m rs sts s (Ε w ns) (.inl "done") (sts++[s]++[b]):=by
 obtain⟨a,_⟩:=zY a;subst e;have l:=rD a d;have:=KF c;exact⟨by lia,w,ns,zA a ns,d,c,.inl ⟨rfl,b,rfl,h⟩⟩
def Sa(h:XZ e d a c b):Zh (.str a) [V.str "put",V.str "want",V.str "step",V.str "back"]=true:=by
 cases h<;>decide +kernel
def QY{m:Int}{c:hR}{w:Str}{d:List Nat}{a:Str}{u:Str}(h:UK m c w d a)(n:u≠"enough"/\u≠"worst"):w≠u:=by
 obtain⟨a,b⟩:=n;cases h<;>apply Ne.symm<;>assumption
def PH(h:FX d b e f a c g):¬Zh (.str a) [V.str "put",V.str "want",V.str "step",V.str "back"]=true:=by
 rcases h with⟨h,_⟩|⟨_,_,h⟩<;>cases h<;>decide +kernel
def Nl(z:Str):Prop:=10∉z.cps.toList
def Tx.nl(h:Tx a):Nl a:=λc=>by
 have:=h 10 c
 lia
def MS(d:Nl b)(e:Nl a):Nl (b++a):=λc=>by
 rw[app_list]at c;rcases aX.mp c with c|c
 .exact d c
 .exact e c
def By.ans(h:By j e d g f b i):Nl (qM b)/\(qM b).length<=100000:=by
 obtain⟨_,w,l,_,_,_,⟨rfl,_⟩|⟨_,⟨h,k⟩|⟨a,rfl,h⟩⟩⟩:=h
 .exact⟨by unfold Nl;decide +kernel,by decide⟩
 .cases b with
  | inl a=>
    refine⟨?_,h.len⟩;cases h with
    | VE=>exact MS (by unfold Nl;decide +kernel) (Md _).nl
    | VF=>exact MS (by unfold Nl;decide +kernel) (wq _).nl
    | laying=>exact(wq _).nl
    | wish=>exact(wq _).nl
    | most=>exact(zP _).nl
    | bring=>exact(Md _).nl
    | stands=>exact(zP _).nl
    | TV=>exact(zP _).nl
    | always=>exact(zP _).nl
    | fails=>exact(wq _).nl
  | inr c=>
    have:c=0\/c=4:=(by cases h<;>simp);rcases this with rfl|rfl
    .exact absurd rfl k
    .exact⟨by unfold Nl;decide +kernel,by decide⟩
 .refine⟨?_,h.len⟩;cases h with
  | enough=>exact(zP _).nl
  | worst=>exact(wq _).nl
section
variable{m:Int}{b:hR}{a S e g:List (List Int×List Int)}{s:List Int×List Int}{z:Str}{o:Sum Str Nat}{c i d f:hG}
inductive Ξ(m:Int)(b:hR):List (List Int×List Int)->List Str->List Str->List (List Int×List Int)->Prop
 | nil {S:List (List Int×List Int)}:Ξ m b S [] [] S
 | cons {a S e:List (List Int×List Int)} {s:List Int×List Int} {z:Str} {o:Sum Str Nat} {c d:hG} (sl:a.length<=500) (sz:Sz m 1000 s) (h:By m b a s z o S) (t:Ξ m b S c d e):Ξ m b (a++[s]) (z::c) (qM o::d) e
end
def Ξ.len(h:Ξ g d f c b e):c.length=b.length/\∀a∈b,Nl a/\a.length<=100000:=by
 induction h with
 | nil=>exact⟨rfl,λ_ h=>by cases h⟩
 | cons _ _ h _ ih=>exact⟨by rw[aR,aR,ih.1],λa ha=>by
  rcases aA.mp ha with rfl|ha
  .exact h.ans
  .exact ih.2 a ha⟩
def Ξ.app(h:Ξ e a j i g f)(k:Ξ e a f b c d):Ξ e a j (i++b) (g++c) d:=by
 induction h with
 | nil=>exact k
 | cons sl sz r _ ih=>exact .cons sl sz r (ih k)
theorem G0(s:List Nat):∀l:List (List Nat),(gf s l).length<=(l.map (·.length)).sum+l.length*s.length
 | []=>by simp[gf]
 | [a]=>by simp[gf]
 | a::b::l=>by
   have:=G0 s (b::l);unfold gf;simp only[ay,aF,aN,aR,Nat.add_mul,Nat.one_mul]at this ⊢
   lia
def QW(z:Str)(a:hG):(Str.join z a).length<=(a.map (·.length)).sum+a.length*z.length:=by
 have:=G0 z.cps.toList (a.map (·.cps.toList));rw[dI,fQ,dI z];rw[fD,aa]at this;have e:a.map (·.length)=a.map ((λx:List Nat=>x.length) ∘ λx:Str=>x.cps.toList):=b5 λx _=>dI x;rw[e];exact this
theorem A6(l:List Nat)(a:Nat):∀c,(List.range c).filterMap (λi=>l[a+i]?)=(l.drop a).take c
 | 0=>by simp
 | c+1=>by
   rw[gQ,List.filterMap_append,A6 l a c,bj,kh]
   congr 1
def HZ(z:Str)(k:Nat):(Txt.slice z none (some (k:Int))).cps.toList=z.cps.toList.take k:=by
 have e:Builtin.Str.strSliceIndices none (some (k:Int)) 1 z.length=List.range (min k z.length):=by
  unfold Builtin.Str.strSliceIndices sliceRange;simp only[show(1:Int)>0 by decide,if_true,ah (show ¬(k:Int)<0 by lia)];rw[show max (0:Int) (min (k:Int) z.length)=((min k z.length:Nat):Int) by lia];have:(if(0:Int)<((min k z.length:Nat):Int)then(((min k z.length:Nat):Int)-0+1-1)/1 else 0).toNat=min k z.length:=by split<;>lia
  rw[this];exact(b5 λi _=>by show _=i;lia).trans (List.map_id _)
 unfold Txt.slice;rw[e,cK];have a:=dI z;split
 .rename_i h
  rw[cH];simp at h
  lia
 .show(List.range (min k z.length)).filterMap (λi=>z.cps[i]?)=_;have:=A6 z.cps.toList 0 (min k z.length);simp only[Nat.zero_add,fP,eI]at this;rw[this,a,<-List.take_eq_take_min]
def Od(z:Str)(k:Nat):(Txt.slice z (some (k:Int)) none).cps.toList=z.cps.toList.drop k:=by
 have e:Builtin.Str.strSliceIndices (some (k:Int)) none 1 z.length=(List.range (z.length-k)).map λi=>min k z.length+i:=by
  unfold Builtin.Str.strSliceIndices sliceRange;simp only[show(1:Int)>0 by decide,if_true,ah (show ¬(k:Int)<0 by lia)];rw[show max (0:Int) (min (k:Int) z.length)=((min k z.length:Nat):Int) by lia];have:(if((min k z.length:Nat):Int)<(z.length:Int)then((z.length:Int)-((min k z.length:Nat):Int)+1-1)/1 else 0).toNat=z.length-k:=by split<;>lia
  rw[this];exact b5 λi _=>by lia
 unfold Txt.slice;rw[e,aa,cK];have a:=dI z;split
 .rename_i h
  simp at h;by_cases c:k=0
  .rw[c,eI]
  .have:z.cps.toList=[]:=jW (by lia);rw[this];simp
 .show((List.range (z.length-k)).map λi=>min k z.length+i).filterMap (λi=>z.cps[i]?)=_;rw[List.filterMap_map];have:=A6 z.cps.toList (min k z.length) (z.length-k);simp only[fP]at this;refine this.trans ?_;by_cases c:k<=z.length
  .rw[Nat.min_eq_left c,cH (by rw[d8];lia)]
  .rw[ie (by lia),ie (by lia)];simp
def yF{a:Str}{k:Nat}(h:a.length=k):Txt.slice (a++b) none (some (k:Int))=a/\Txt.slice (a++b) (some (k:Int)) none=b:=by
 subst h
 constructor
 .exact lI (by rw[HZ,app_list,dI,List.take_left])
 .exact lI (by rw[Od,app_list,dI,List.drop_left])
def Td(z:Int):(tI z).cps.toList≠[]:=by
 by_cases n:z<0
 .rw[<-zC n,app_list];exact λh=>absurd (List.append_eq_nil_iff.mp h).1 (by decide +kernel)
 .rw[show z=((z.natAbs:Nat):Int) by lia,lV];exact wj _
def El(ne:a≠[]):Txt.split (ϯ a) (Str.ofString " ")=a.map tI:=qJ (c:=32) (by simp[ne]) λy b d=>by
 obtain⟨z,_,rfl⟩:=aE.mp b;have:=Cg z 32 d
 lia
def Sv(ne:a≠[]):ϯ a≠Str.ofString "":=λh=>by
 have:=El ne;rw[h,show Txt.split (Str.ofString "") (Str.ofString " ")=[Str.ofString ""] by decide +kernel]at this;cases a with
 | nil=>exact ne rfl
 | cons z a=>
   have e:=(fC this).1;exact Td z (by rw[<-e];decide +kernel)
def Ra(h:c<0):Txt.slice (tI c) none (some 1)=Str.ofString "-"/\Txt.slice (tI c) (some 1) none=FS c.natAbs:=by
 have:=yF (a:=Str.ofString "-") (b:=tI (-c)) (k:=1) (by decide +kernel);rw[zC h,show -c=((c.natAbs:Nat):Int) by lia,lV]at this;exact this
def Qs(h:0<=a):Txt.slice (tI a) none (some 1)≠Str.ofString "-":=λe=>by
 have m:45∈(Txt.slice (tI a) none (some 1)).cps.toList:=by rw[e];decide +kernel
 have m:=LN 45 m;rw[show a=((a.natAbs:Nat):Int) by lia,lV]at m;have:=lZ _ 45 m
 lia
def Ew(ne:a≠[]):Txt.split (Bv a) (Str.ofString " / ")=a.map UJ:=by
 unfold Bv;rw[ah ne];refine RA (u:=32) (c:=47) (v:=32) (by decide) (by decide +kernel) (by simp[ne]) λy d b=>?_;obtain⟨s,_,rfl⟩:=aE.mp d;unfold UJ ϯ at b;rw[fQ]at b;rcases qp b with b|⟨x,e,b⟩
 .exact absurd b (by decide +kernel)
 .obtain⟨w,hw,rfl⟩:=aE.mp e;obtain⟨z,_,rfl⟩:=aE.mp hw;have:=Cg z 47 b
  lia
def Qh(ne:a≠[]):Bv a≠Str.ofString ".":=λh=>by
 have:=Ew ne;rw[h,show Txt.split (Str.ofString ".") (Str.ofString " / ")=[Str.ofString "."] by decide +kernel]at this;obtain⟨s,r,rfl⟩:=kU ne;have e:=(fC this).1;have c:46∈(UJ s).cps.toList:=by rw[<-e];decide +kernel
 unfold UJ ϯ at c;rw[fQ]at c;rcases qp c with b|⟨x,d,b⟩
 .exact absurd b (by decide +kernel)
 .obtain⟨w,hw,rfl⟩:=aE.mp d;obtain⟨z,_,rfl⟩:=aE.mp hw;have:=Cg z 46 b
  lia
def uT(h:∀s∈a,VR s)(l:a.length<=8):(Bv a).length<=15000:=by
 unfold Bv;split
 .decide
 .have:=xC (z:=Str.ofString " / ") (ws:=a.map UJ) (m:=1803) λw b=>by
   obtain⟨z,c,rfl⟩:=aE.mp b;exact Ea (h z c)
  rw[aa,show(Str.ofString " / ").length=3 from rfl]at this
  lia
def Ξ.snoc(h:Ξ c b k i g (a++[d]))(n:a.length<=500)(o:Sz c 1000 d)(r:By c b a d j m f)(e:l=qM m):Ξ c b k (i++[j]) (g++[l]) f:=by
 subst e;exact h.app (.cons n o r .nil)
section
variable{m:Int}{s:List Int×List Int}
structure Lm(m:Int)(n:Nat)(s:List Int×List Int):Prop where
 l1:(s.1.length:Int)=m
 l2:(s.2.length:Int)=m
 b1:∀x∈s.1,0<=x
 su:s.1.sum<=n*10^58
 b2:∀y∈s.2,0<=y/\y<=6
end
def Lm.sz(h:Lm c a b)(f:a<=90):Sz c 1000 b:=⟨h.l1,h.l2,λx d=>by
 have:=zM h.b1 d;have:=h.b1 x d;have:=h.su
 lia,λy e=>by
 have:=h.b2 y e
 lia⟩
def JO{a:ej}{v:Nat}{y:Int}(h:v<a.length):(a.set v (a.getD v 0+y)).sum=a.sum+y:=by
 rw[zX _ _ _ h]
 lia
end Pb
namespace L2
open PySem PySem.Spec PyProof.Rows
theorem EB(l:c≠b):∀(n i:Nat)(s:Shared)(Q:List Value->Shared->Prop),s.heap.IsListIter b c i->s.heap.IsList c a->i+n<=a.size->(∀j,j.IsListIter b c (i+n)->Heap.SameBut b s.heap j->Q ((a.toList.drop i).take n) { s with heap:=j })->wpAny (model e f) g (draw (.ref b) n) Q d s
 | 0,i,s,Q,hit,_,_,hQ=>by
   show wpAny _ _ (pure []) Q d s;exact bh (by simpa using hQ s.heap hit (Heap.SameBut.refl ..))
 | n+1,i,s,Q,hit,ht,hle,hQ=>by
   have m:i<a.size:=by lia
   show wpAny _ _ (pyNext (.ref b)>>=_) Q d s;refine ao (wpAny_pyNext_list_item hit ht (x:=a[i]) (by simp[m]) λt p h=>?_);refine ao (eV (EB l n (i+1) _ _ p (ht.extBut h.extBut l) (by lia) λr k q=>bh ?_));have o:a.toList.drop i=a[i]::a.toList.drop (i+1):=by simp[eM,m]
   have:=hQ r (by rw[show i+(n+1)=i+1+n by lia];exact k) (h.trans q);rw[o,nI]at this;exact this
def IQ(v:h.handled=none)(k:c.heap.IsList d a)(x:∀q,Heap.ExtBut c.heap.objs.size c.heap q->g a.toList { c with heap:=q }):wpAny (model f i) h (unpackItems (.ref d) a.size none) g j c:=by
 have p:d≠c.heap.objs.size:=by obtain⟨o,w,_⟩:=k;exact bf (aO w)
 unfold unpackItems;refine ao ?_;unfold notIterableAtAll;refine ao (jI k.typeIs slot_list_iter.lookup ?_);refine bh ?_;simp only[cZ,if_false];refine ao (eV (gj k ?_));refine ao (eV (EB p a.size 0 _ _ ⟨_,bd _ rfl,rfl,rfl⟩ (k.push _) (by lia) λu t l=>?_));have s:List.take a.size (List.drop 0 a.toList)=a.toList:=by
  rw[eI];exact cH (by simp)
 rw[s];rw[ah (by simp)];have m:u.IsList d a:=(k.push _).extBut l.extBut p;refine ao (eV (wpAny_pyNext_list_end v t m (by simp) λy n=>?_));simp only[Option.isSome_none,cZ,if_false];refine bh (x y λb o r e=>n b o r (l.extBut b o r (aI _ e)))
def RS(K:gy)(n:Nat)(t:XI):TG:=λv c H Q=>∃a b,v=.ref a/\ν K H a b/\b.length=n/\t b c H Q
def SE(D:c.calm=true)(h:Yk c d g)(A:(assignEach d c.env).length=n:=by rfl)(E:(assignEach d c.env).findIdx? (·.1)=none:=by rfl):PG c (.Tuple d i f) (RS c.K n g):=by
 intro j s m H v u Q I r k;obtain⟨a,w,B,t,x,k⟩:=k;subst B;cases r;obtain⟨l,q,p,F⟩:=I.list t;have e:(assignEach d c.env).length=l.toArray.size:=by simp[A,<-x,q.length]
 rw[assign_Tuple];refine ao (i5 ?_);unfold unpack;rw[e,E];refine ao (eV (IQ (I.ok.hd D) p.isList λy C=>?_));have z:Inv c j m H { s with heap:=y }:=I.kept (t':=s.toks) λb o e=>C b o (bf (aO e)) e;exact h j _ m H w _ Q z (by simpa using q) k
end L2
namespace Pb
def gT{c:Prop}[i:Decidable c]{a b:Prop}(h:¬c)(q:b):if c then a else b:=by rw[ah h];exact q
def TF{c:Prop}[i:Decidable c]{a b:Prop}(h:c)(q:a):if c then a else b:=by rw[aj h];exact q
end Pb
namespace Pb
open PySem L2
abbrev Wf(P:Program)(w:World)(K:gy)(e:hF)(a:Heap)(x q:Str)(st:Stmt)(d:hG)(k:Nat)(c:Sp):Prop:=∀(f:Addr)(b:FuncData),W4 K x q st f b->ύ P w K e a (τ P w) k f b d c
structure Cm(P:Program)(w:World)(K:gy)(mg:hF)(base:Heap)(R:Addr->Prop)(x q:Str)(st:Stmt)(ps:hG)(k:Nat)(sp:Sp) where
 f:Addr
 fd:FuncData
 F:W4 K x q st f fd
 b:Binds K fd ps []
 M:R f
 G:ύ P w K mg base (τ P w) k f fd ps sp
abbrev Zq(x q:Str)(st:Stmt)(f:hG):Prop:=Nat.ble f.length 5=true/\(λ(kV g i:Value)(k:Option Addr)(j h a b c d e:Value)=>bindArgs (PySem.W.fnOf x q (mO st) (kG st) (aK st) .none kV g i k j h) ⟨[a,b,c,d,e].take f.length,[]⟩)=λ_ _ _ _ _ _ a b c d e=>pure (f.zip ([a,b,c,d,e].take f.length))
def Zq.of(h:Zq i g st f)(kV k n:Value)(p:Option Addr)(o m:Value)(j:hE)(z:j.length=f.length):bindArgs (PySem.W.fnOf i g (mO st) (kG st) (aK st) .none kV k n p o m) ⟨j,[]⟩=pure (f.zip j):=by
 obtain⟨a,b,c,d,e,rfl⟩:∃a b c d e:Value,j=[a,b,c,d,e].take f.length:=by
  have l:=cT h.1;rw[<-z]at l ⊢
  match j,l with
  | [],_=>exact⟨.none,.none,.none,.none,.none,rfl⟩
  | [a],_=>exact⟨a,.none,.none,.none,.none,rfl⟩
  | [a,b],_=>exact⟨a,b,.none,.none,.none,rfl⟩
  | [a,b,c],_=>exact⟨a,b,c,.none,.none,rfl⟩
  | [a,b,c,d],_=>exact⟨a,b,c,d,.none,rfl⟩
  | [a,b,c,d,e],_=>exact⟨a,b,c,d,e,rfl⟩
  | _::_::_::_::_::_::j,l=>exact absurd l (by simp)
 exact congrFun (congrFun (congrFun (congrFun (congrFun (congrFun (congrFun (congrFun (congrFun (congrFun (congrFun h.2 kV) k) n) p) o) m) a) b) c) d) e
def df{K:gy}{h:Heap}{m:hF}(X:K.In h)(G:h.Ns mainGlobals m){x:Str}{st:Stmt}{ps:hG}{f:Addr}{n:Value}{p k:Option Addr}{o:Array (Option Value)}{kV d j g i:Value}(a:PySem.W.nsIn K mainGlobals x=some (some (.ref f)):=by k_is)(l:K.lookup f=some ⟨n,p,.func (PySem.W.fnOf x x (mO st) (kG st) (aK st) .none kV d j k g i),o⟩:=by k_is)(c:PySem.W.codeIn K g x=true:=by k_is)(e:PySem.W.keepIn K (.ref f)=true:=by k_is)(b:Zq x x st ps:=by exact⟨rfl,rfl⟩):Df K m x st ps f (PySem.W.fnOf x x (mO st) (kG st) (aK st) .none kV d j k g i):=⟨yR (st:=st) l c e,kz X G a,(yR (st:=st) l c e).binds b.of⟩
def cd{P:Program}{w:World}{K:gy}{h:Heap}{i:hF}{d:Heap}(X:K.In h)(G:h.Ns mainGlobals i){x:Str}{st:Stmt}{j:hG}{k:Nat}{n:Sp}{f:Addr}{s:Value}{u r:Option Addr}{t:Array (Option Value)}{kV g q m p:Value}(o:Ok P w K i d x st j k n)(a:PySem.W.nsIn K mainGlobals x=some (some (.ref f)):=by k_is)(l:K.lookup f=some ⟨s,u,.func (PySem.W.fnOf x x (mO st) (kG st) (aK st) .none kV g q r m p),t⟩:=by k_is)(c:PySem.W.codeIn K m x=true:=by k_is)(e:PySem.W.keepIn K (.ref f)=true:=by k_is)(b:Zq x x st j:=by exact⟨rfl,rfl⟩):Cb P w K i d x st j k n:=cb (df X G a l c e b) (o _ _ (df X G a l c e b))
def afg(e:PySem.W.findIn a (.ref c) b=some none):Ο a c b:=e
def cm{P:Program}{w:World}{K:gy}{i:hF}{a:Heap}{x q:Str}{st:Stmt}{g:hG}{k:Nat}{j:Sp}{C f:Addr}{s:Value}{u p:Option Addr}{t:Array (Option Value)}{kV d n h m:Value}(v:Str){R:PySem.W.Frag->Addr->Addr->Prop}(o:Wf P w K i a x q st g k j)(_n:PySem.W.nsIn K mainGlobals v=some (some (.ref C)):=by k_is)(_a:PySem.W.findIn K (.ref C) x=some (some (.ref f)):=by k_is)(r:R K C f:=by first|(constructor<;>k_is)|exact xI (by k_is) (by rfl) (by kernel_rfl) (by k_is) (by kernel_rfl) (by k_is))(l:K.lookup f=some ⟨s,u,.func (PySem.W.fnOf x q (mO st) (kG st) (aK st) .none kV d n p h m),t⟩:=by k_is)(c:PySem.W.codeIn K h q=true:=by k_is)(e:PySem.W.keepIn K (.ref f)=true:=by k_is)(b:Zq x q st g:=by exact⟨rfl,rfl⟩):Cm P w K i a (R K C) x q st g k j:=⟨f,_,yR (st:=st) l c e,(yR (st:=st) l c e).binds b.of,r,o _ _ (yR (st:=st) l c e)⟩
def lw{P:Program}{w:World}{K:gy}{h:Heap}{g:hF}(X:K.In h)(G:h.Ns mainGlobals g){x:Str}{st:Stmt}{k:Nat}{r:Sp}{f:Addr}{z:Value}{B y:Option Addr}{A:Array (Option Value)}{kV i u p t:Value}{m:Addr}{n:Str}(j:g x=some (.ref m))(o:∀d:Heap,Ok P w K g d x st [n] k r)(a:PySem.W.nsIn K mainGlobals x=some (some (.ref f)):=by k_is)(l:K.lookup f=some ⟨z,B,.func (PySem.W.fnOf x x (mO st) (kG st) (aK st) .none kV i u y p t),A⟩:=by k_is)(c:PySem.W.codeIn K p x=true:=by k_is)(e:PySem.W.keepIn K (.ref f)=true:=by k_is)(b:Zq x x st [n]:=by exact⟨rfl,rfl⟩):∃q:FuncData,(∀(s:Shared)(v:Value),BindsTo s q ⟨[v],[]⟩ [(n,v)])/\∀d:Heap,K.In d->d.Ns mainGlobals g->ύ P w K g d (τ P w) k m q [n] r:=by
 cases j.symm.trans (kz X G a);exact⟨_,λs v=>.of_eq (b.of _ _ _ _ _ _ [v] rfl),λd _ _=>o d _ _ (df X G a l c e b)⟩
def dkN{w:World}{K:gy}(x:Str)(l:List (Str×Tok×Int×Tok)){a:Addr}{d:Nat}{b:List DictEntry}(c:(l.map (·.1)).Nodup)(_n:PySem.W.nsIn K mainGlobals x=some (some (.ref a)):=by k_is)(h:K.lookup a=some ⟨.type "dict",none,.dict ⟨b⟩ d,#[]⟩:=by k_is)(f:(a==sysModules)=false:=by rfl)(e:b=l.map λp=>DictEntry.mk (Po w (.inr p.1)) (.str p.1 p.2.1) (.int p.2.2.1 p.2.2.2):=by rfl):DK w K a (l.map λp=>((.inr p.1:Key),V.int p.2.2.1)):=SV l f c h e
end Pb
namespace Pb
open L2 PySem PySem.W
theorem Jb{f:eX}(h:∀v,0<=f v):∀l:List Int,((l.filter p).map f).sum<=(l.map f).sum
 | []=>bF _
 | a::l=>by
   have b:=Jb (p:=p) h l;have:=h a;rw[aF,aN,List.filter_cons];split
   .rw[aF,aN];lia
   .lia
theorem Hg{k:eX}{up:eX}{m:hP}(g:Good i d)(R:ε i d j a b)(r:∀v,k v<=up v)(p:∀v,0<=up v)(o:∀c z S,0<=S->z<=S->m c z<=S):∀(n:Nat)(v:Int),0<=v->v<i->i.toNat-b v=n->Ζ i d j a b k m v<=((eE i d j a b v).map up).sum
 | 0,v,v0,v1,e=>by have:=ja R v0 v1;lia
 | n+1,v,v0,v1,e=>by
   rw[eB g R v0 v1,jP g R v0 v1,aF,aN,Bg];have:=r v;have:=J8 (l:=bU i d (front j a v) v) (f:=λc=>m c (Ζ i d j a b k m c)) (h:=λc=>((eE i d j a b c).map up).sum) λc h=>by
    obtain⟨q,s,_⟩:=kb g R v0 v1 h;exact o c _ _ (Aa λx _=>p x) (Hg g R r p o n c q.1.1 q.1.2 (by lia))
   lia
def HC{j:eX}{k:hP}{l:ej}(g:Good b f)(R:ε b f i d e)(t:(l.length:Int)=b)(s:∀x∈l,0<=x)(r:∀a:Int,j a<=l.getD a.toNat 0)(q:∀c z S,0<=S->z<=S->k c z<=S)(o:0<=a)(m:a<b):Ζ b f i d e j k a<=l.sum:=by
 have n:∀a:Int,0<=l.getD a.toNat 0:=λa=>zK s _;have h:=Hg g R r n q _ a o m rfl;rw[rh ((Gk g R o m).map _)]at h;have:=Jb (p:=VC d e a) n (cj b.toNat);rw[MK (by lia)]at this;exact dN h this
def J6(g:Good d a)(c z S:Int)(e:0<=S)(h:z<=S):Ϭ a b c z<=S:=by
 refine dN (Oz g c z S h) ?_;unfold Ϭ;exact jG _ e
def Q4(g:Good d a)(c z S:Int)(e:0<=S)(h:z<=S):ό a b c z<=S:=by
 refine dN (xa g c z S h) ?_;unfold ό;rw[aj e];exact jG _ e
def NH{f:ej}(g:Good c a)(R:ε c a e b d)(k:(f.length:Int)=c)(j:∀x∈f,0<=x){v:Int}(h:0<=v)(i:v<c):Ζ c a e b d (λu=>f.getD u.toNat 0) (Ϭ a b) v<=f.sum:=HC g R k j (λ_=>bF _) (J6 g) h i
def Jt{h:ej}(g:Good a b)(R:ε a b f d c)(l:(h.length:Int)=a)(i:∀x∈h,0<=x)(m:∀y∈e,0<=y){v:Int}(j:0<=v)(k:v<a):ψ a b f d c e h v<=h.sum:=HC g R l i (λu=>by
 have:=zK i u.toNat;have:=zK m u.toNat;rw[py];split<;>lia) (Q4 g) j k
theorem wW(g:Good i b)(R:ε i b m a d)(s:∀x∈o,0<=x)(r:∀y∈j,0<=y):∀(n:Nat)(v:Int),0<=v->v<i->i.toNat-d v=n->o.getD v.toNat 0-pB i b m a d j v<=ψ i b m a d j o v
 | 0,v,v0,v1,e=>by have:=ja R v0 v1;lia
 | n+1,v,v0,v1,e=>by
   have N:=Hj g R r;rw[wQ g R v0 v1,N.st v v0 v1];have:=J8 (l:=kd i b m a v) (f:=λc=>-(pB i b m a d j c*RW b a c)) (h:=λc=>ό b a c (ψ i b m a d j o c)) λc h=>by
    obtain⟨q,u,_⟩:=kb g R v0 v1 h;have p:=wW g R s r n c q.1.1 q.1.2 (by lia);have t:=wB g R q.1.1 q.1.2 q.2.1;have nn:=N.nn c q.1.1 q.1.2;have w:=zK s c.toNat;generalize ψ i b m a d j o c=z at p;generalize pB i b m a d j c=k at p nn;rw[G7];split
    .have:=fR nn (show 0<=RW b a c by lia);have:=iR (show 0<=z by assumption) (show 0<=Ug b a c by lia)
     lia
    .have:=cN (show -k<=z by lia) (show 0<=RW b a c by lia);rw[j6]at this;exact this
   rw[D6]at this;have e:((bU i b (front m a v) v).map λc=>ό b a c (ψ i b m a d j o c)).sum=((kd i b m a v).map λc=>ό b a c (ψ i b m a d j o c)).sum:=rfl
   lia
def xf(g:Good a c)(R:ε a c i d b)(n:a<=5)(j:∀y∈f,0<=y/\y<=6)(l:0<=v)(k:v<a):pB a c i d b f v<10^40:=by
 have N:=Hj g R λy m=>(j y m).1;have h:=Qa g R N (Y:=6) (by decide) (λv _ _=>(oN (P:=λx=>0<=x/\x<=6) j (by decide) v.toNat).2) _ v l k rfl;have:(2:Int)^(25*(a.toNat-b v))<=2^125:=Jq (by lia);have e:(6:Int)*2^125<10^40:=by decide +kernel
 lia
def KG(g:Good f b)(R:ε f b e a d)(i:0<=e)(h:e<f)(D:f<=5)(H:1<=w)(M:w<=9):XY f b e a (mI f b e a d) w<10^40:=by
 obtain⟨n,L,O⟩:=uH g R i h;have G:=O.T7 i h;have o:∀v,0<=v->v<f->0<=ϣ f b e a d v/\ϣ f b e a d v<=10^24:=λv m j=>by
  have z:Wb f b e a d v<=4:=by have:=Sw g R m j;lia
  have w:=QG g R (T:=1000000) (by decide) (λu t s r=>(ue g R t s r).2) _ v m j rfl;have C:=(r6 g R m j).1;have p:1000000^Wb f b e a d v<=1000000^4:=fE (by decide) z;have:(1000000^4:Nat)=10^24:=by decide
  constructor<;>lia
 unfold XY;rw[<-O.sums,show(mI f b e a d).getD e.toNat 0=ϣ f b e a d e from sV i h];obtain⟨I,x⟩:=o e i h;have K:ϣ f b e a d e*(w-1)<=10^24*9:=gG x (by lia) (by lia) (by decide +kernel);have N:(n.map (YL b a (mI f b e a d))).sum<=10^24*1000000*n.length:=JL λc q=>by
  obtain⟨k,l⟩:=O.Μ c q;obtain⟨B,A⟩:=ue g R k l (O.ne q);obtain⟨E,y⟩:=o c k l;unfold YL;rw[show(mI f b e a d).getD c.toNat 0=ϣ f b e a d c from sV k l];exact gG y (show tup b a c-1<=1000000 by lia) (show 0<=tup b a c-1 by lia) (by decide +kernel)
 have F:(10:Int)^24*1000000*n.length<=10^24*1000000*24:=b3 (by lia) (by decide +kernel);have J:(10:Int)^24*9+10^24*1000000*24<10^40:=by decide +kernel
 lia
def cnU(b:hR)(r:Int)(a:eX)(ch:Int->Option Int)(w:Int):Nat->Int->Int
 | 0,_=>w-1
 | n+1,v=>((if ch (a v)=some v then cnU b r a ch w n (a v)else 0)+1)*tup b a v-1
def Sy(R:ε e b c a d)(ch:Int->Option Int)(w:Int):iS e b c a ch w λv=>cnU b c a ch w (d v) v:=by
 constructor
 .show cnU b c a ch w (d c) c=_;rw[R.root]
  rfl
 .intro v v0 v1 vr;rw[<-(R.up v v0 v1 vr).2.2]
  rfl
def Lg(g:Good b d)(R:ε b d c e f)(B:0<=c)(r:c<b)(q:b<=5)(m:∀y∈j,0<=y/\y<=6)(z:(a.length:Int)=b)(p:∀x∈a,0<=x)(h:ψ b d c e f j a c<0):∀x∈a,x<10^40:=λx t=>by
 obtain⟨i,A,rfl⟩:=jS.mp t;obtain⟨l,w,k⟩:=rV g (show(0:Int)<=(i:Int) by lia) (show(i:Int)<b by lia);have o:=λy s=>(m y s).1;have u:=wW g k p o _ (i:Int) (by lia) (by lia) rfl;have C:=xf g k q m (v:=i) (by lia) (by lia);rw[show a.getD (i:Int).toNat 0=a[i] by rw[bM,bc,aB A];rfl]at u;refine Classical.byContradiction λn=>?_;have:=tf g k (by lia) (by lia) R B r z p o (by lia)
 lia
def BD(w:Str):Ε w []=w:=by
 unfold Ε;rw[dB,uh]
def Kj(g:Good d e):∃(i:hP)(h:Int->Int->Nat),∀r,0<=r->r<d->ε d e r (i r) (h r):=by
 obtain⟨f,j⟩:∃f:Int->(Int->Int)×(Int->Nat),∀r,0<=r->r<d->ε d e r (f r).1 (f r).2:=by
  refine Classical.axiomOfChoice (r:=λr (p:(Int->Int)×(Int->Nat))=>0<=r->r<d->ε d e r p.1 p.2) λr=>?_;by_cases c:0<=r/\r<d
  .obtain⟨par,dep,R⟩:=rV g c.1 c.2;exact⟨(par,dep),λ_ _=>R⟩
  .exact⟨(λ_=>0,λ_=>0),λa b=>absurd ⟨a,b⟩ c⟩
 exact⟨λr=>(f r).1,λr=>(f r).2,j⟩
def kq(h:-(10^60)<z/\z<10^60):Bt z:=sR (n:=200) (by lia) (by decide)
def vg(q:a.length<=500)(m:Lm e l c)(n:l<=90)(r:b.length=k)(u:∀k∈b,k<10^60)(h:FX e d c.1 c.2 f b o)(t:Ξ e d (a++[c]) j g i)(s:Xa f=true:=by decide +kernel)(p:nb f=some k:=by decide +kernel):Ξ e d (a++[c]) (Ε f b::j) (qM o::g) i:=.cons q (m.sz n) (NS r u h a s p) t
section
variable{m:Int}{a:hR}
structure Sok(m:Int)(a:hR)(xs:ej)(ss:List ϵ):Prop where
 can:kW m a xs ss
 num:∀t∈ss,t.2.2<10^60
 len:ss.length<=8
 bts:∀t∈ss,VR t
end
def PJ(g:d<=5)(f:0<=c/\c<d)(h:0<=b/\b<d)(e:-(10^60)<a/\a<10^60):VR (c,b,a):=λz hz=>by
 rcases aA.mp hz with rfl|hz
 .exact kq (by lia)
 .rcases aA.mp hz with rfl|hz
  .exact kq (by lia)
  .rw[aG.mp hz];exact kq e
def L9{m:Int}{f:hR}{S:List (List Int×List Int)}{s:List Int×List Int}{n:Nat}(g:Good m f)(I:m<=5)(D:S.length<=500)(i:Lm m n s)(F:n<=90){v:Nat}(j:(v:Int)<m):∃(z:Int)(A:List ϵ),Ξ m f (S++[s]) [Ε "most" [v],Ε "bring" [v]] [tI z,Bv A] (S++[s])/\(0<=z/\z<10^60)/\Sok m f s.1 A/\(A.foldl (cQ f) s.1).getD v 0=z:=by
 have o:(0:Int)<=v:=by lia
 obtain⟨c,d,R⟩:=rV g o j;obtain⟨l,M,O⟩:=uH g R o j;have V:=O.T7 o j;have B:∀u:Int,0<=s.1.getD u.toNat 0:=λu=>pi i.b1 _;have su:=i.su;have top:∀u,0<=u->u<m->0<=Ζ m f v c d (λu=>s.1.getD u.toNat 0) (Ϭ f c) u/\Ζ m f v c d (λu=>s.1.getD u.toNat 0) (Ϭ f c) u<10^60:=λu x w=>by
  have a:=NH g R i.l1 i.b1 x w;have b:=Sf g R B x w;have:=B u
  constructor<;>lia
 have N:=top v o j;have J:=(Gm g R i.b1 i.l1 O _ (aU _)).done g R B o j O;have r:∀t∈pP m f v c d (λu=>s.1.getD u.toNat 0) l.reverse,∃u∈l,t=(u,c u,t.2.2)/\0<t.2.2/\t.2.2<10^60:=λt q=>by
  obtain⟨u,Q,rfl⟩:=aE.mp q;obtain⟨K,P⟩:=bG.mp Q;have p:=dq.mp K;obtain⟨x,w⟩:=O.Μ u p;have C:=top u x w;have:gE m f v c d (λu=>s.1.getD u.toNat 0) u<=Ζ m f v c d (λu=>s.1.getD u.toNat 0) (Ϭ f c) u:=J6 g _ _ _ C.1 (bF _);exact⟨u,p,rfl,bu P,kO this C.2⟩
 have H:∀t∈pP m f v c d (λu=>s.1.getD u.toNat 0) l.reverse,VR t:=λt q=>by
  obtain⟨u,p,e,W,U⟩:=r t q;rw[e];have y:=O.Μ u p;exact PJ I y (R.up u y.1 y.2 (O.ne p)).1 (by lia)
 have E:(pP m f v c d (λu=>s.1.getD u.toNat 0) l.reverse).length<=4:=by
  unfold pP;rw[aa];have:=bW (λu=>decide (0<gE m f v c d (λu=>s.1.getD u.toNat 0) u)) l.reverse;rw[bi]at this;exact aV this (by lia)
 have G:∀k∈[v],k<10^60:=λk L=>by rw[aG.mp L];lia
 refine⟨_,_,vg (k:=1) D i F rfl G (.inl ⟨.most j R (kq (by lia)),by intro z;cases z⟩) (vg (k:=1) D i F rfl G (.inl ⟨.bring j R M rfl (aV E (by decide)) H,by intro z;cases z⟩) .nil),N,⟨LY g R i.b1 i.l1 O,λt q=>?_,aV E (by decide),H⟩,?_⟩
 .obtain⟨_,_,_,_,h⟩:=r t q;exact h
 .have e:=J.1;have T:(pP m f v c d (λu=>s.1.getD u.toNat 0) l.reverse).length=(eF m f v c d (λu=>s.1.getD u.toNat 0) l.reverse).length:=by unfold pP;rw[aa]
  rw[<-T,Ls,bM]at e;exact e
def G6(g:Good j e)(F:j<=5)(W:S.length<=500)(r:Lm j o f)(hn:o<=90)(R:ε j e l m n)(V:0<=l)(P:l<j)(h:0<=ψ j e l m n f.2 f.1 l):∃G,By j e S f (Ε "meet" []) (.inl (Str.ofString "steps " ++ Bv G)) (S++[f])/\Sok j e f.1 G/\∀i:Nat,(i:Int)<j->f.2.getD i 0<=(G.foldl (cQ e) f.1).getD i 0:=by
 have m1:=g.m1;have E:=λy Q=>(r.b2 y Q).1;obtain⟨p,q,K⟩:=Kj g;have s:=K 0 (by lia) (by lia);have I:=tf g R V P s (by lia) (by lia) r.l1 r.b1 E h;obtain⟨B,T,O⟩:=uH g s (by lia) (by lia);have Y:=O.T7 (by lia) (by lia);have L:=Qw g s r.l1 E I;have su:=r.su;have A:∀t∈iP e (p 0) (ψ j e 0 (p 0) (q 0) f.2 f.1) B.reverse++ko (p 0) (ψ j e 0 (p 0) (q 0) f.2 f.1) B,t.2.2<10^60/\VR t:=λt ht=>by
  have C:∀u,u∈B->0<=u/\u<j/\(0<=p 0 u/\p 0 u<j)/\ψ j e 0 (p 0) (q 0) f.2 f.1 u<10^60/\-(10^60)<ψ j e 0 (p 0) (q 0) f.2 f.1 u:=λu J=>by
   obtain⟨x,w⟩:=O.Μ u J;have a:=Jt g s r.l1 r.b1 E x w;have b:=wW g s r.b1 E _ u x w rfl;have c:=xf g s F r.b2 x w;have d:=pi r.b1 u.toNat;exact⟨x,w,(s.up u x w (O.ne J)).1,by lia,by lia⟩
  rcases aX.mp ht with ht|ht
  .obtain⟨u,hu,rfl⟩:=aE.mp ht;obtain⟨H,N⟩:=bG.mp hu;obtain⟨x,w,up,a,b⟩:=C u (dq.mp H);have X:0<jC e (p 0) (ψ j e 0 (p 0) (q 0) f.2 f.1) u:=bu N;have D:jC e (p 0) (ψ j e 0 (p 0) (q 0) f.2 f.1) u<10^60:=by
    unfold jC;split
    .exact kO (jG _ (by assumption)) a
    .decide
   exact⟨D,PJ F ⟨x,w⟩ up ⟨by lia,D⟩⟩
  .obtain⟨u,hu,rfl⟩:=aE.mp ht;obtain⟨H,N⟩:=bG.mp hu;obtain⟨x,w,up,a,b⟩:=C u H;have D:-ψ j e 0 (p 0) (q 0) f.2 f.1 u<10^60:=(by lia);exact⟨D,PJ F up ⟨x,w⟩ ⟨by lia,D⟩⟩
 have M:(iP e (p 0) (ψ j e 0 (p 0) (q 0) f.2 f.1) B.reverse++ko (p 0) (ψ j e 0 (p 0) (q 0) f.2 f.1) B).length<=8:=by
  have l1:=bW (Bd e (p 0) (ψ j e 0 (p 0) (q 0) f.2 f.1)) B.reverse;have Z:=bW (yQ (ψ j e 0 (p 0) (q 0) f.2 f.1)) B;unfold iP ko;rw[ay,aa,aa];rw[bi]at l1
  lia
 exact⟨_,NS (k:=0) rfl (λ_ h=>by cases h) (.inl ⟨.VE K T I rfl (aV M (by decide)) λt ht=>(A t ht).2,by intro z;cases z⟩) _,⟨L.all g s O,λt ht=>(A t ht).1,M,λt ht=>(A t ht).2⟩,λi U=>L.meets g s O (v:=i) (by lia) U⟩
def wd(g:Good e f)(p:e<=5)(l:Lm e k j)(w:k<=90)(s:∀r,0<=r->r<e->ε e f r (i r) (h r)):∀z∈lB e f i h j.1 j.2 e.toNat,-(10^40)<z/\z<10^60:=λz t=>by
 obtain⟨v,u,rfl⟩:=aE.mp t;have n:=fe.mp u;have m:v<e:=by lia
 have o:=λy q=>(l.b2 y q).1;have R:=s v n.1 m;have a:=Jt g R l.l1 l.b1 o n.1 m;have b:=wW g R l.b1 o _ v n.1 m rfl;have c:=xf g R p l.b2 n.1 m;have d:=pi l.b1 v.toNat;have su:=l.su
 constructor
 .exact Int.lt_of_lt_of_le (by lia) b
 .exact kO a (by lia)
def Ef(g:Good a c)(n:a<=5)(p:S.length<=500)(l:Lm a i d)(m:i<=90)(j:∀r,0<=r->r<a->ε a c r (f r) (e r))(h:ψ a c 0 (f 0) (e 0) d.2 d.1 0<0):By a c S d (Ε "meet" []) (.inl (Str.ofString "lack " ++ ϯ ((lB a c f e d.1 d.2 a.toNat).map λz=>-z))) (S++[d]):=by
 have b:=wd g n l m j;refine NS (k:=0) rfl (λ_ h=>by cases h) (.inl ⟨.VF j (by lia) rfl ?_ λz o=>?_,by intro z;cases z⟩) _
 .rw[aa,rz]
  lia
 .obtain⟨q,hq,rfl⟩:=aE.mp o;have:=b q hq;exact kq (by lia)
theorem Fg(g:Good a c)(t:a<=5)(u:m.length<=500)(p:Lm a n d)(q:n<=90)(s:∀r,0<=r->r<a->ε a c r (f r) (e r)):∀l:List Nat,(∀i∈l,(i:Int)<a)->Ξ a c (m++[d]) (l.map λi=>Ε "stands" [i]) (l.map λi:Nat=>tI ((lB a c f e d.1 d.2 a.toNat).getD i 0)) (m++[d])
 | [],_=>.nil
 | i::l,h=>by
   have v:=h i (.head _);have b:=oN (P:=λz=>-(10^40)<z/\z<10^60) (wd g t p q s) (by decide) i;rw[aF,aF];rw[HY (by lia)]at b ⊢;have b:-(10^40)<ψ a c i (f i) (e i) d.2 d.1 i/\ψ a c i (f i) (e i) d.2 d.1 i<10^60:=b;exact vg (k:=1) (o:=.inl _) u p q rfl (λk w=>by rw[aG.mp w];lia) (.inl ⟨.stands v (s i (by lia) v) (kq (by lia)),by intro z;cases z⟩) (Fg g t u p q s l λj x=>h j (.tail _ x))
def Lm.put{m:Int}{s:List Int×List Int}{n:Nat}(a:Lm m n s){v k:Nat}(c:(v:Int)<m)(h:k<10^58):Lm m (n+1) (s.1.set v (s.1.getD v 0+k),s.2):=by
 have b:=a.l1;refine⟨by rw[bz];exact b,a.l2,DV a.b1 ?_,?_,a.b2⟩
 .have:=oN (P:=λx=>0<=x) a.b1 (by decide) v
  lia
 .rw[JO (by lia)];have:=a.su
  lia
def u7(b:a<10^60)(c:k<10^60):∀i∈[a,k],i<10^60:=λi hi=>by
 rcases aA.mp hi with rfl|hi
 .exact b
 .rw[aG.mp hi];exact c
def Q7{m:Int}{a:hR}{S:List (List Int×List Int)}{s:List Int×List Int}(g:Good m a)(v:m<=5)(E:S.length<=400)(l:Lm m 40 s){j:hP}{d:Int->Int->Nat}(u:∀r,0<=r->r<m->ε m a r (j r) (d r)){i k:Nat}(f:(i:Int)<m)(D:k<10^58):(0<=ψ m a i (j i) (d i) s.2 s.1 i+k->∃o w,Ξ m a (S++[s]) [Ε "put" [i,k],Ε "meet" []] [Str.ofString "done",Str.ofString "steps " ++ Bv o] w/\(Bv o).length<=15000)/\(ψ m a i (j i) (d i) s.2 s.1 i+k<0->∃x w,Ξ m a (S++[s]) [Ε "put" [i,k],Ε "meet" []] [Str.ofString "done",Str.ofString "lack " ++ ϯ x] w/\(ϯ x).length<=15000):=by
 have m1:=g.m1;have n:(0:Int)<=i:=by lia
 have R:=u i n f;have c:=l.put f D;have p:By m a S s (Ε "put" [i,k]) (.inl "done") (S++[s]++[(s.1.set i (s.1.getD i 0+k),s.2)]):=Lc (k:=2) rfl (u7 (by lia) (by lia)) (.put f);have t:(S++[s]).length<=500:=by rw[ay];show _+1<=_;lia
 have e:=Lk (ys:=s.2) g R n f l.l1 k;rw[bM]at e;refine⟨λh=>?_,λh=>?_⟩
 .obtain⟨o,r,ok,_⟩:=G6 (S:=S++[s]) g v t c (by decide) R n f (by show 0<=ψ m a i (j i) (d i) s.2 (s.1.set i (s.1.getD i 0+k)) i;lia);exact⟨o,_,.cons (by lia) (l.sz (by decide)) p (.cons t (c.sz (by decide)) r .nil),uT ok.bts ok.len⟩
 .have y0:=λy B=>(c.b2 y B).1;have b:=wd g v c (by decide) u;have r:=Ef (S:=S++[s]) g v t c (by decide) u (by
   refine Classical.byContradiction λz=>?_;have:=tf g (u 0 (by lia) (by lia)) (by lia) (by lia) R n f c.l1 c.b1 y0 (Int.not_lt.mp z);have:0<=ψ m a i (j i) (d i) s.2 (s.1.set i (s.1.getD i 0+k)) i:=this
   lia)
  refine⟨_,_,.cons (by lia) (l.sz (by decide)) p (.cons t (c.sz (by decide)) r .nil),?_⟩;have:=mS (zs:=(lB m a j d (s.1.set i (s.1.getD i 0+k)) s.2 m.toNat).map λz=>-z) λz C=>by
   obtain⟨q,A,rfl⟩:=aE.mp C;have:=b q A;exact kq (by lia)
  rw[aa,rz]at this;exact aV this (by lia)
def OG(g:Good a f)(s:a<=5)(F:S.length<=400)(h:Lm a 40 d):∃(M:Str)(zs:ej),zs.length=a.toNat/\(∀z∈zs,-(10^40)<z/\z<10^60)/\M.length<=16000/\Ξ a f (S++[d]) (Ε "meet" []::(List.range a.toNat).map λi=>Ε "stands" [i]) (M::zs.map tI) (S++[d])/\((∃l,M=Str.ofString "steps " ++ Bv l/\Sok a f d.1 l/\(∀z∈zs,0<=z)/\∀i:Nat,(i:Int)<a->d.2.getD i 0<=(l.foldl (cQ f) d.1).getD i 0)\/(M=Str.ofString "lack " ++ ϯ (zs.map λz=>-z)/\(∀z∈zs,z<=-1)/\∀i k:Nat,(i:Int)<a->k<10^58->(0<=zs.getD i 0+k->∃l B,Ξ a f (S++[d]) [Ε "put" [i,k],Ε "meet" []] [Str.ofString "done",Str.ofString "steps " ++ Bv l] B/\(Bv l).length<=15000)/\(zs.getD i 0+k<0->∃C B,Ξ a f (S++[d]) [Ε "put" [i,k],Ε "meet" []] [Str.ofString "done",Str.ofString "lack " ++ ϯ C] B/\(ϯ C).length<=15000))):=by
 have m1:=g.m1;have D:=λy G=>(h.b2 y G).1;obtain⟨m,o,p⟩:=Kj g;have j:S.length<=500:=by lia
 have w:=p 0 (by lia) (by lia);have b:=wd g s h (by decide) p;have x:(lB a f m o d.1 d.2 a.toNat).length=a.toNat:=rz;have st:=Fg g s j h (by decide) p (List.range a.toNat) λi A=>by have:=de.mp A;lia
 have e:(List.range a.toNat).map (λi:Nat=>tI ((lB a f m o d.1 d.2 a.toNat).getD i 0))=(lB a f m o d.1 d.2 a.toNat).map tI:=by
  have:=congrArg (List.map tI) (CB (lB a f m o d.1 d.2 a.toNat));rw[fD,x]at this;exact this
 rw[e]at st;by_cases c:0<=ψ a f 0 (m 0) (o 0) d.2 d.1 0
 .obtain⟨l,r,ok,cv⟩:=G6 (S:=S) g s j h (by decide) w (by lia) (by lia) c;have:=uT ok.bts ok.len;refine⟨_,_,x,b,?_,.cons j (h.sz (by decide)) r st,.inl ⟨l,rfl,ok,λz t=>?_,cv⟩⟩
  .show(Str.ofString "steps " ++ Bv l).length<=16000;rw[dU];have:=pI "steps "
   lia
  .obtain⟨v,hv,rfl⟩:=aE.mp t;have u:=fe.mp hv;exact tf g w (by lia) (by lia) (p v u.1 (by lia)) u.1 (by lia) h.l1 h.b1 D c
 .have r:=Ef (S:=S) g s j h (by decide) p (by lia);refine⟨_,_,x,b,?_,.cons j (h.sz (by decide)) r st,.inr ⟨rfl,λz t=>?_,λi k A H=>?_⟩⟩
  .show(Str.ofString "lack " ++ _).length<=16000;have:=mS (zs:=(lB a f m o d.1 d.2 a.toNat).map λz=>-z) λz t=>by
    obtain⟨q,E,rfl⟩:=aE.mp t;have:=b q E;exact kq (by lia)
   rw[aa,rz]at this;rw[dU];have:=pI "lack "
   lia
  .obtain⟨v,hv,rfl⟩:=aE.mp t;have u:=fe.mp hv;refine Classical.byContradiction λn=>c (tf g (p v u.1 (by lia)) u.1 (by lia) w (by lia) (by lia) h.l1 h.b1 D ?_);show 0<=Ζ a f v (m v) (o v) (λv=>(dS a d.1 d.2).getD v.toNat 0) (ό f (m v)) v
   lia
  .rw[HY (by lia)];exact Q7 g s F h p A H
def UR(m:Int)(a:ej)(k:Nat):List Int:=a.take k++(Ϗ m).drop k
def oC(w:Str)(a:ej)(k:Nat):List Str:=(List.range k).map λi=>Ε w [i,(a.getD i 0).toNat]
def xp(w:Str)(a:ej)(k:Nat):oC w a (k+1)=oC w a k++[Ε w [k,(a.getD k 0).toNat]]:=by
 unfold oC;rw[gQ,au]
 rfl
def Pc(f:b.length=m.toNat)(e:a<b.length):(UR m b a).getD a 0=0/\(UR m b a).set a (b.getD a 0)=UR m b (a+1):=by
 have d:(b.take a).length=a:=by rw[bA];lia
 have c:(Ϗ m).drop a=0::(Ϗ m).drop (a+1):=by
  rw[eM (by rw[mD];lia)]
  congr 1
  unfold Ϗ;rw[List.getElem_replicate]
 constructor
 .unfold UR;rw[c,bc,db (by lia),d,eT]
  rfl
 .unfold UR;rw[c,List.set_append_right _ _ (by lia),d,eT,List.set_cons_zero,bj,aB e,bO,bc,aB e]
  rfl
def JK(d:a.length=b.toNat)(e:c<=a.length):(UR b a c).length=b.toNat:=by
 unfold UR;rw[ay,bA,d8,mD]
 lia
def Jc{P:Int->Prop}(h:∀z∈a,P z)(d:P 0):∀x∈UR c a b,P x:=λx hx=>by
 rcases aX.mp hx with hx|hx
 .exact h x (jJ hx)
 .rw[(fW.mp (gu hx)).2];exact d
theorem BE{m:Int}{S0:List (List Int×List Int)}{c:ej}{f:List Int->List Int×List Int}(l:Xa w=true)(j:nb w=some 2)(o:c.length=m.toNat)(q:m<=5)(r:1<=m)(p:∀z∈c,0<=z/\z<10^40)(st:∀(a:ej) (v n:Nat),(v:Int)<m->a.getD v 0=0->XZ m (f a) w [v,n] (f (a.set v n)))(i:∀k,k<=c.length->Lm m 1 (f (UR m c k)))(t:S0.length<=100):∀k,k<=c.length->∃g,g.length=S0.length+k/\Ξ m rs (S0++[f (Ϗ m)]) (oC w c k) (List.replicate k (Str.ofString "done")) (g++[f (UR m c k)])
 | 0,_=>⟨S0,rfl,.nil⟩
 | k+1,hk=>by
   obtain⟨g,s,h⟩:=BE l j o q r p st i t k (by lia);obtain⟨u,e⟩:=Pc (m:=m) o (show k<c.length by lia);have b:=oN (P:=λz=>0<=z/\z<10^40) p (by decide) k;have d:=st (UR m c k) k (c.getD k 0).toNat (by lia) u;rw[bJ b.1,e]at d;refine⟨g++[f (UR m c k)],by rw[ay,s];rfl,?_⟩;rw[xp,jT];exact h.snoc (by lia) ((i k (by lia)).sz (by decide)) (Lc (k:=2) rfl (u7 (by lia) (by lia)) d l j) rfl
def FE(m:a<=5)(i:1<=a)(j:b.length=a.toNat)(k:c.length=a.toNat)(e:∀z∈b,0<=z/\z<10^40)(g:∀z∈c,0<=z/\z<=6):Lm a 1 (b,c):=by
 refine⟨by show((b.length:Nat):Int)=a;lia,by show((c.length:Nat):Int)=a;lia,λz d=>(e z d).1,?_,g⟩;have h:=zT (f:=λz=>z) (l:=b) (M:=10^40) λz d=>by have:=e z d;lia
 rw[List.map_id']at h;have:=cN (show((b.length:Nat):Int)<=5 by lia) (show(0:Int)<=10^40 by decide);show b.sum<=_
 lia
def P7{P:Int->Prop}(h:P 0):∀z∈Ϗ a,P z:=λz b=>by
 rw[(fW.mp b).2];exact h
def JD{c:ej}(g:Good b rs)(m:b<=5)(i:c.length=b.toNat)(j:∀z∈c,0<=z/\z<10^40):∃d,d.length<=5/\Ξ b rs [(Ϗ b,Ϗ b)] (oC "put" c c.length) (List.replicate c.length (Str.ofString "done")) (d++[(c,Ϗ b)]):=by
 have m1:=g.m1;obtain⟨d,l,h⟩:=BE (rs:=rs) (w:="put") (S0:=[]) (f:=λa=>(a,Ϗ b)) (by decide +kernel) (by decide +kernel) i m m1 j (λa v n q p=>by
  have:=XZ.put (s:=(a,Ϗ b)) (n:=n) q;dsimp only at this
  rwa [p,ce]at this) (λk o=>FE m m1 (JK i o) (mD b) (Jc j (by decide)) (P7 (by decide))) (by decide) _ (aU _)
 refine⟨d,by rw[l];show 0+_<=_;lia,?_⟩;have e:UR b c c.length=c:=by unfold UR;rw[bx,i,<-mD b,dE,bX]
 rw[e]at h;exact h
def Nt{S0:List (List Int×List Int)}{x y:ej}(g:Good b rs)(i:b<=5)(q:x.length=b.toNat)(d:y.length=b.toNat)(m:∀z∈x,0<=z/\z<10^40)(j:∀z∈y,0<=z/\z<=6)(r:S0.length<=100):∃c,c.length=S0.length+y.length/\Ξ b rs (S0++[(x,Ϗ b)]) (oC "want" y y.length) (List.replicate y.length (Str.ofString "done")) (c++[(x,y)]):=by
 have m1:=g.m1;obtain⟨c,l,h⟩:=BE (rs:=rs) (w:="want") (S0:=S0) (f:=λa=>(x,a)) (by decide +kernel) (by decide +kernel) d i m1 (λz o=>by have:=j z o;lia) (λa v n t _=>.want (s:=(x,a)) t) (λk p=>FE i m1 q (JK d p) m (Jc j (by decide))) r _ (aU _);refine⟨c,l,?_⟩;have e:UR b y y.length=y:=by unfold UR;rw[bx,d,<-mD b,dE,bX]
 rw[e]at h;exact h
def Oy{m:Int}{d:hR}(g:Good m d)(t:m<=5){v w:Nat}(e:(v:Int)<m)(l:1<=w)(E:w<=9):∃(c:ej),c.length=m.toNat/\(∀z∈c,0<=z/\z<10^40)/\(0<=c.sum/\c.sum<10^40)/\UK m d "enough" [v,w] (tI (c.sum+1))/\UK m d "worst" [v,w] (ϯ c)/\∃z:Int,Uk m d c (Ϗ m) "most" [v] (.inl (tI z))/\0<=z/\z<w:=by
 have h:(0:Int)<=v:=by lia
 obtain⟨a,b,R⟩:=rV g h e;obtain⟨f,r,O⟩:=uH g R h e;have B:=Rz g R O;have N:=Sy R (T8 m d v a b f) w;generalize (λu=>cnU d v a (T8 m d v a b f) w (b u) u)=k at N;have j:=iS.total g R B N h e r O;have D:=KG g R h e t (w:=w) (by lia) (by lia);have nn:∀z∈(cj m.toNat).map (lies (T8 m d v a b f) k),0<=z:=λz i=>by
  obtain⟨u,A,rfl⟩:=aE.mp i;have y:=fe.mp A;unfold lies;split
  .exact iS.nn g R N (by lia) h e _ u rfl y.1 (by lia)
  .exact bF _
 have x:∀u,0<=u->u<m->((cj m.toNat).map (lies (T8 m d v a b f) k)).getD u.toNat 0=lies (T8 m d v a b f) k u:=λu s C=>by
  rw[List.getD,aP,gS (by lia),bJ s]
  rfl
 have gt:=iS.Ζ g R B N x _ v rfl h e;have n:((cj m.toNat).map (lies (T8 m d v a b f) k)).length=m.toNat:=by rw[aa,cu]
 have q:=yV nn;obtain⟨c,o⟩:∃c,c=(cj m.toNat).map (lies (T8 m d v a b f) k):=⟨_,rfl⟩;rw[<-o]at j nn gt n q;have p:∀z∈c,0<=z/\z<10^40:=λz i=>by
  have:=zM nn i;have:=nn z i
  constructor<;>lia
 refine⟨c,n,p,⟨q,by lia⟩,?_,.worst e l (by lia) R r N o (by have:=g.Β;lia) λz i=>?_,_,.most e R ?_,?_⟩
 .rw[j];exact .enough e l (by lia) R (kq (by lia))
 .have:=p z i;exact kq (by lia)
 .rw[gt,N.rt];exact kq (by lia)
 .rw[gt,N.rt]
  lia
def Os(g:Good b e)(w:b<=5)(q:Lm b i d):∃s u,Uk b e d.1 d.2 "always" [] s/\Uk b e d.1 d.2 "fails" [] u/\((d.2.sum=0/\s=.inl (tI 0)/\u=.inr 4)\/(d.2.sum≠0/\∃X:List Int,s=.inl (tI (X.sum+1))/\u=.inl (ϯ X)/\X.length=b.toNat/\(∀x∈X,0<=x/\x<10^40)/\(0<=X.sum/\X.sum<10^50)/\∃(r:Int)(j:eX)(k:fb),ε b e r j k/\(0<=r/\r<b)/\ψ b e r j k d.2 X r<0)):=by
 have m1:=g.m1;by_cases c:d.2.sum=0
 .exact⟨_,_,.TV c,.WC c,.inl ⟨c,rfl,rfl⟩⟩
 .have y0:=λy B=>(q.b2 y B).1;obtain⟨_,_,m,C⟩:=JB q.l2 y0 c;obtain⟨j,k,R⟩:=rV g m.1 m.2;obtain⟨X,n⟩:∃X,X=TN b e (jm b d.2) j k (pB b e (jm b d.2) j k d.2) (jm b d.2) (-1):=⟨_,rfl⟩;obtain⟨D,p,st⟩:=Nk g R m.1 m.2 y0 C n;have t:=Lg g R m.1 m.2 w q.b2 D p (by lia);have h:=zT (f:=λz=>z) (l:=X) (M:=10^40) λz o=>by have:=t z o;lia
  rw[List.map_id']at h;have E:=cN (show((X.length:Nat):Int)<=5 by lia) (show(0:Int)<=10^40 by decide);have A:=yV p;have a:=Uk.always (x:=d.1) c R (by rw[<-n];exact kq (by lia));rw[<-n]at a;exact⟨_,_,a,.fails c R n (by lia) λz o=>by
   have:=t z o;have:=p z o;exact kq (by lia),.inr ⟨c,X,rfl,rfl,by lia,λx v=>⟨p x v,t x v⟩,⟨A,by lia⟩,_,j,k,R,m,by lia⟩⟩
section
variable{m:Int}{a:hR}{S c b:List (List Int×List Int)}{s:List Int×List Int}
structure Wkd(m:Int)(a:hR)(Z out:hG)(S:List (List Int×List Int))(s:List Int×List Int):Prop where
 g:Good m a
 m5:m<=5
 pl:∀y∈Z,Pl y/\y.length<=400
 zl:Z.length<=40
 an:Ξ m a [(Ϗ m,Ϗ m)] Z out (S++[s])
 sl:S.length<=40
 so:(out.map (·.length)).sum<=4*Z.length
 lm:Lm m 40 s
end
def kN(c:Xa b=true)(d:∀k∈a,k<10^60)(e:a.length<=3:=by exact cT rfl):Pl (Ε b a)/\(Ε b a).length<=400:=⟨Ct (zY c).2 a,by
 have:=rD (zY c).1 d
 lia⟩
def u6{Z a:hG}{P:Str->Prop}(h:∀y∈Z,P y)(b:∀y∈a,P y):∀y∈Z++a,P y:=λy hy=>by
 rcases aX.mp hy with hy|hy
 .exact h y hy
 .exact b y hy
def mE{P:Str->Prop}(h:P a)(c:∀y∈b,P y):∀y∈a::b,P y:=λy hy=>by
 rcases aA.mp hy with rfl|hy
 .exact h
 .exact c y hy
def z9{P:Str->Prop}:∀y∈([]:hG),P y:=λ_ h=>by cases h
def Qx(b:Str):Txt.slice (Str.ofString "lack " ++ b) none (some 6)≠Str.ofString "steps ":=λh=>by
 have e:=HZ (Str.ofString "lack " ++ b) 6;rw[show((6:Nat):Int)=6 from rfl,h,app_list,show(Str.ofString "lack ").cps.toList=108::(Str.ofString "lack ").cps.toList.tail by decide +kernel,show(Str.ofString "steps ").cps.toList=115::(Str.ofString "steps ").cps.toList.tail by decide +kernel,List.cons_append,nI]at e;exact absurd (fC e).1 (by decide)
def Ba(b:Str):Txt.slice (Str.ofString "lack " ++ b) none (some 5)=Str.ofString "lack "/\Txt.slice (Str.ofString "lack " ++ b) (some 5) none=b:=yF (a:=Str.ofString "lack ") (b:=b) (k:=5) (by decide +kernel)
def E1(b:Str):Txt.slice (Str.ofString "steps " ++ b) none (some 6)=Str.ofString "steps "/\Txt.slice (Str.ofString "steps " ++ b) (some 6) none=b:=yF (a:=Str.ofString "steps ") (b:=b) (k:=6) (by decide +kernel)
def Dr(b:0<=a)(h:a<10^60):PySem.intText? (tI a)=some a:=by
 have e:tI a=FS a.toNat:=by rw[<-lV,bJ b]
 rw[e,qj _ (by lia),bJ b]
def DQ(e:Xa d=true)(f:∀z∈a,0<=z/\z<10^40)(j:c<=5):∀y∈oC d a c,Pl y/\y.length<=400:=λy g=>by
 obtain⟨i,h,rfl⟩:=aE.mp g;have:=de.mp h;have b:=oN (P:=λz=>0<=z/\z<10^40) f (by decide) i;exact kN e (u7 (by lia) (by lia))
def q8 :(oC c b a).length=a:=by unfold oC;rw[aa,cK]
def KA(k:Nat):((List.replicate k (Str.ofString "done")).map (·.length)).sum=4*k:=by
 induction k with
 | zero=>rfl
 | succ k ih=>
   rw[cS,aF,aN,ih];show 4+_=_
   lia
def Dk(h:a<10^60):∀k∈[a],k<10^60:=λk b=>by rw[aG.mp b];exact h
end Pb
set_option maxHeartbeats 4000000
namespace Pk
open PySem L2 Pb
seal L2.UX L2.PS L2.PE L2.PT L2.PW L2.PA L2.PG L2.Yk L2.PI L2.Z9 L2.PC L2.Z5 L2.PO
abbrev top(i:Nat):Stmt:=Hd.top i
local macro_rules|`(tactic| walk_at "t") => `(tactic| (walk_at "s";walk_at ""))
local macro_rules|`(tactic| walk_at "d") => `(tactic| try dsimp only [aac, SM, P6, MF, QD, Gy, Qm, RU, MR, LQ, RX, PU, RH, PX, P4, P3, SF, RV, SD, Mq, Rx, OI, XH, HR, zQ, OH, P8, ZR, Rt, PZ, RE, ipI, KC, Qb, FF, tB, GW, tC, BH, XO, tUn, Xi, rI, rU, rEq, rNe, sO, Kw, P9, J9, Xj, SG, Sx, ZY, tBM, SL, RO, Ss, Jn, PV, PM, CO, R7, tOr, RM, P2, RF, tIf, List.nil_append, List.append_nil, List.set_cons_zero, List.set_cons_succ, List.getElem?_cons_zero, List.getElem?_cons_succ])
local macro_rules|`(tactic| walk_at "") => `(tactic| (walk_at "d";(try simp only [QN, Qq, Qy, Qv, Qr, Ql, Option.some.injEq, V.int.injEq, V.bl.injEq, V.ref.injEq, List.cons.injEq, exists_eq_left, exists_eq_left', exists_and_left, exists_const, and_true, true_and, decide_eq_true_eq, Bool.not_eq_true', decide_eq_false_iff_not, Bool.true_eq_false, Bool.false_eq_true, if_true, if_false]);walk_at "d"))
local macro_rules|`(tactic| walk_at "v") => `(tactic| (intro _ _ _ _ h;first|(cases h;(have q := ‹_ = _ /\ _›);rw [q.1];rfl)|((repeat (obtain ⟨_, h⟩ := h));subst_vars;rfl)))
local macro_rules|`(tactic| walk_at "s") => `(tactic| simp only [L2.start, List.map_cons, List.map_nil, List.length_cons, List.length_nil, Nat.reduceAdd, Nat.reduceSub, List.replicate_succ, List.replicate_zero, List.cons_append, List.nil_append])
set_option genSizeOf false in
set_option genInjectivity false in
structure Txt(K:gy)(mg:hF) where
 TollError:Addr
 X0:mg "TollError"=some (.ref TollError)
 BadWeb:Addr
 WD:mg "BadWeb"=some (.ref BadWeb)
 NoPlace:Addr
 Ut:mg "NoPlace"=some (.ref NoPlace)
 NoRoad:Addr
 WG:mg "NoRoad"=some (.ref NoRoad)
 BadLaying:Addr
 TJ:mg "BadLaying"=some (.ref BadLaying)
 BadWish:Addr
 BV:mg "BadWish"=some (.ref BadWish)
 NoWorst:Addr
 Uu:mg "NoWorst"=some (.ref NoWorst)
 NoDeed:Addr
 WH:mg "NoDeed"=some (.ref NoDeed)
 BadStep:Addr
 VS:mg "BadStep"=some (.ref BadStep)
 BadText:Addr
 Uv:mg "BadText"=some (.ref BadText)
 Web:Addr
 X1:mg "Web"=some (.ref Web)
 Outlook:Addr
 VU:mg "Outlook"=some (.ref Outlook)
 Tally:Addr
 abF:mg "Tally"=some (.ref Tally)
 Desk:Addr
 YY:mg "Desk"=some (.ref Desk)
 X2:aam K TollError
 WK:TL K TollError BadWeb
 VW:TL K TollError NoPlace
 VX:Bu K NoPlace
 aaz:TL K TollError NoRoad
 WL:Bu K NoRoad
 U9:TL K TollError BadLaying
 Va:Bu K BadLaying
 VY:TL K TollError BadWish
 Uw:Bu K BadWish
 ϋ:TL K TollError NoWorst
 VZ:Bu K NoWorst
 WM:TL K TollError NoDeed
 V0:TL K TollError BadStep
 Ux:TL K TollError BadText
 VG:[TollError,BadWeb,NoPlace,NoRoad,BadLaying,BadWish,NoWorst,NoDeed,BadStep,BadText].Nodup
 range:mg "range"=none
 zip:mg "zip"=none
 len:mg "len"=none
 all:mg "all"=none
 int:mg "int"=none
 tuple:mg "tuple"=none
 list:mg "list"=none
 reversed:mg "reversed"=none
 sorted:mg "sorted"=none
 min:mg "min"=none
 max:mg "max"=none
 enumerate:mg "enumerate"=none
 sum:mg "sum"=none
 str:mg "str"=none
 set:mg "set"=none
 ϻ:∃t,mg "MOST_PLACES"=some (.int 24 t)
 UL:∃t,mg "LEAST_TOLL"=some (.int 2 t)
 Vb:∃t,mg "MOST_TOLL"=some (.int 1000000 t)
 V1:∃t,mg "FIGURES"=some (.str "0123456789" t)
 Uc:∃t,mg "MOST_FIGURES"=some (.int 60 t)
 UM:∃t,mg "PIECE"=some (.int 1000000000000000000 t)
 TQ:∃t,mg "PIECE_FIGURES"=some (.int 18 t)
 DEEDS:Addr
 XA:mg "DEEDS"=some (.ref DEEDS)
 XB:YQ K DEEDS [.str "put",.str "want",.str "step",.str "back"]
 NUMBERS_BEHIND:Addr
 ϧ:mg "NUMBERS_BEHIND"=some (.ref NUMBERS_BEHIND)
 Ι:Vx K Web
 Ψ:Ο K Web "many"
 TX:Ο K Web "roads"
 ρ:Vx K Outlook
 Ω:Ο K Outlook "web"
 Ad:Ο K Outlook "needs"
 HV:Ο K Outlook "kids"
 Vu:Ο K Outlook "idle"
 η:Vx K Desk
 υ:Ο K Desk "web"
 UN:Ο K Desk "past"
section
variable{P:Program}{w:World}{K:gy}{I:hF}{base:Heap}{CX:TK}
def uV(T:Txt K I):Sp:=λb H Q _=>E3 λ(m:Int)(t:Addr)(a:List V)=>b=[.int m,.ref t]/\Δ K H t a/\1<=m/\m<=24/\(a.length:Int)=m-1/\Q .ο H
abbrev pf:Stmt:=top 20
def CL:ζ ["many","roads"] ["many","roads"] (aK pf):=.of
def ng:ϓ (aK pf) "MOST_PLACES":=.of
def CF(T:Txt K I)(i:bQ (τ P w)):Ok P w K I base "check_counts" pf ["many","roads"] 1 (uV T):=λ_ _ D=>by
 refine D.F.ϊ CL λf A a s H l Q E n h=>?_;obtain⟨m,t,b,rfl,c,e,o,j,k⟩:=h;refine⟨_,(ax (cg (nF (xQ sK sK aM (γ 0) (nD ng.g T.ϻ (hd:=ng.d)))) (aJ j0) bR) (aJ (cg (Υ p9 (lE fq T.len (ag (γ 1) aq)) (bg j5 (γ 0) aM)) (aJ j0) bR))),?_⟩;walk_at "t";rw[aj e,ah (by lia)];exact⟨b,.inr c,by rw[ah (by lia)];exact k⟩
def AM(T:Txt K I):Sp:=λa H Q _=>∃m n:Int,a=[.int m,.int n]/\Q (.bl (decide (0<=n)&&decide (n<m))) H
abbrev xG:Stmt:=top 19
def Ij:ζ ["many","number"] ["many","number"] (aK xG):=.of
def Ip(T:Txt K I)(f:bQ (τ P w)):Ok P w K I base "is_place" xG ["many","number"] 1 (AM T):=λ_ _ D=>by
 refine D.F.ϊ Ij λe A a s H b Q E d h=>?_;obtain⟨m,n,rfl,k⟩:=h;refine⟨_,(aJ (bn (Pa sK sE aM (γ 1) (γ 0)))),?_⟩;walk_at "t";by_cases c:0<=n
 .simpa[c]using k
 .simpa[c]using k
abbrev CQ(P w base)(T:Txt K I):=Cb P w K I base "is_place" xG ["many","number"] 1 (AM T)
def x8(T:Txt K I):Sp:=λc H Q _=>E3 λ(m:Int)(p:Addr)(r:Road)=>c=[.int m,.ref p]/\H p=some (.tup (qb r))/\0<=r.a/\r.a<m/\0<=r.b/\r.b<m/\r.a≠r.b/\Q .ο H
abbrev tR:Stmt:=top 21
def FA:ζ ["many","road"] ["many","road"] (aK tR):=.of
def Fh(T:Txt K I)(e:bQ (τ P w))(f:CQ P w base T):Ok P w K I base "check_ends" tR ["many","road"] 2 (x8 T):=λ_ _ D=>by
 refine D.F.ϊ FA λo A d s H q Q E g h=>?_;obtain⟨m,p,r,rfl,c,l,j,i,n,ne,k⟩:=h;refine⟨_,(ax (cg (PW.pt (uM (nF (mW (Ν f g e (ag (γ 0) (ag (ω jM (γ 1) aM) aq))))) (wm (nF (mW (Ν f g e (ag (γ 0) (ag (ω jM (γ 1) aM) aq)))))))) (aJ j0) bR) (aJ (cg (Υ dJ (ω jM (γ 1) aM) (ω jM (γ 1) aM)) (aJ j0) bR))),?_⟩;walk_at "t";refine V6 c rfl ⟨m,r.a,rfl,_,rfl,?_⟩;rw[ah (by simp[l,j])];refine V6 c rfl ⟨m,r.b,rfl,_,rfl,?_⟩;rw[ah (by simp[i,n])];refine V6 c rfl (V6 c rfl ⟨rfl,?_⟩);rw[ah (by simpa using ne)];exact k
def ya(T:Txt K I):Sp:=λd H Q _=>E4 λ(t:Addr)(c:hD)(a:hR)(n:Int)=>d=[.ref t,.int n]/\Δ K H t (c.map V.ref)/\ι H c a/\a.length<=1000/\∀l b,H l=none->δ H b->b l=some (.lst ((gK a n).map V.int))->Q (.ref l) b
abbrev tX:Stmt:=top 24
def Fn:ζ ["roads","place","ends","road"] ["roads","place"] (aK tX):=.of
def Fw(T:Txt K I)(U:bQ (τ P w)):Ok P w K I base "other_ends" tX ["roads","place"] 1 (ya T):=λ_ _ D=>by
 refine D.F.ϊ Fn λS A G s H Y Q E hr h=>?_;obtain⟨t,N,c,n,rfl,L,M,W,k⟩:=h;refine⟨_,(ax (Γ 2 (ee aq)) (ax (fh PassesOwn.never rfl (wL (γ 0)) (ϑ 3) (ax (cg (Υ dJ (ω jM (γ 3) aM) (γ 1)) (aJ (cV (Uj (γ 2) (ω jM (γ 3) aM)))) bR) (aJ (cg (Υ dJ (ω jM (γ 3) aM) (γ 1)) (aJ (cV (Uj (γ 2) (ω jM (γ 3) aM)))) bR)))) (aJ (bn (γ 2))))),?_⟩;walk_at "t";refine⟨by decide,λl m=>?_⟩;have j:N.length=c.length:=Paired.length M;refine⟨⟨_,δ.tup (δ.new _ m) L⟩,Dx (xs:=N.map V.ref) (λi u B=>B=upd H l (.lst ((gK (c.take i) n).map V.int))/\∃v,u=[some (.ref t),some (.int n),some (.ref l),v]) ⟨rfl,_,rfl⟩ (λi u B _ z=>by rw[z.1];exact δ.tup (δ.new _ m) L) ?_ ?_⟩
 .rintro i x u B hi ⟨rfl,v,rfl⟩;obtain⟨p,r,rfl,X,O,J⟩:=M.get hi;have R:p≠l:=dX J m;have Z:i<c.length:=(aD.mp O).1;have y:c.take (i+1)=c.take i++[r]:=by rw[bj,O];rfl
  have hb:(gK (c.take i) n).length<=2000:=aV (GH _ _) (by rw[bA];lia);have g:∀o,upd H l o p=some (.tup (qb r)):=λo=>by rw[aW R];exact J
  walk_at "";refine V6 (g _) rfl ?_;walk_at "";have d:∀(C:ej),(gK (c.take i) n++C)=gK (c.take (i+1)) n->upd H l (.lst ((gK (c.take i) n).map V.int++C.map V.int))=upd H l (.lst ((gK (c.take (i+1)) n).map V.int)):=λC e=>by
   rw[<-au,e]
  have q:ve n r=(if r.a=n then[r.b]else[])++(if r.b=n then[r.a]else[]):=rfl;by_cases f:r.a=n
  .rw[aj f];refine⟨Rw az,V6 (g _) rfl (mM az (eg (by rw[aa];lia)) ?_)⟩;rw[nS];refine V6 (g _) rfl ?_;walk_at "";by_cases cb:r.b=n
   .rw[aj cb];refine⟨Rw az,V6 (g _) rfl (mM az (eg (by rw[ay,aa];simp;lia)) ?_)⟩;rw[nS,bO];exact⟨d [r.b,r.a] (by rw[y,uS,q,aj f,aj cb];rfl),_,rfl⟩
   .rw[ah cb];exact⟨d [r.b] (by rw[y,uS,q,aj f,ah cb];rfl),_,rfl⟩
  .rw[ah f];refine V6 (g _) rfl ?_;walk_at "";by_cases cb:r.b=n
   .rw[aj cb];refine⟨Rw az,V6 (g _) rfl (mM az (eg (by rw[aa];lia)) ?_)⟩;rw[nS];exact⟨d [r.a] (by rw[y,uS,q,ah f,aj cb];rfl),_,rfl⟩
   .rw[ah cb];have:=d [] (by rw[y,uS,q,ah f,ah cb];rfl);rw[dB,bX]at this;exact⟨this,_,rfl⟩
 .rintro u B ⟨rfl,v,rfl⟩;rw[aa,j,bx];exact⟨_,rfl,k l _ m (δ.new _ m) az⟩
abbrev yK(P w base)(T:Txt K I):=Cb P w K I base "other_ends" tX ["roads","place"] 1 (ya T)
def pw(a:ej):List (Key×V):=a.map λk=>((Sum.inl k:Key),V.bl true)
def Et(a:ej):(pw a).length=a.length:=by unfold pw;rw[aa]
def FM(a:ej)(e:Int):og (pw a) (Sum.inl e:Key)=if e∈a then some (V.bl true)else none:=by
 unfold pw
 induction a with
 | nil=>rfl
 | cons k a ih=>
   rw[aF];by_cases c:k=e
   .rw[xA (by rw[c]),aj (by rw[c];exact aL)]
   .rw[xU (λz=>c (Sum.inl.inj z)),ih];by_cases d:e∈a
    .rw[aj d,aj (aw _ d)]
    .rw[ah d,ah (λz=>by rcases aA.mp z with z|z;exact c z.symm;exact d z)]
def NQ{a:ej}{e:Int}(h:e∉a):nW (pw a) (Sum.inl e:Key) (V.bl true)=pw (a++[e]):=by
 rw[Nn _ (by rw[FM,ah h])];unfold pw;rw[au]
 rfl
def va(T:Txt K I):Sp:=λd H Q _=>E4 λ(m:Int)(t:Addr)(a:hD)(b:hR)=>d=[.int m,.ref t]/\Δ K H t (a.map V.ref)/\ι H a b/\Good m b/\∀c,δ H c->Q .ο c
abbrev rg:Stmt:=top 23
def Ce:ζ ["many","roads","reached","waiting","place","end"] ["many","roads"] (aK rg):=.of
def CP(T:Txt K I)(hq:bQ (τ P w))(mK:yK P w base T):Ok P w K I base "check_joined" rg ["many","roads"] 2 (va T):=λ_ _ D=>by
 refine D.F.ϊ Ce λξ A ab s H vs Q E hr h=>?_;obtain⟨m,t,ps,f,rfl,ht,hp,g,k⟩:=h;have hu:=SZ hr;refine⟨_,(ax (Γ 2 (Rc (Nj aM qI Q2) rfl rfl (List.cons_ne_nil _ _) (by decide))) (ax (Γ 3 (ee (ag aM aq))) (ax (xE PassesOwn.never (BG (γ 3) (λ_=>rfl)) (ax (Γ 4 (Gj eP PySem.F.slot_list_pop PySem.F.type_list_pop Gb (γ 3))) (aJ (fh PassesOwn.never rfl (gC (Ν mK hr hq (ag (γ 1) (ag (γ 4) aq)))) (ϑ 5) (aJ (cg (HK (MQ hu (γ 5) (γ 2))) (ax (QT hu (γ 2) (γ 5) qI rfl) (aJ (cV (Uj (γ 3) (γ 5))))) bR)))))) (aJ (cg (Υ p9 (lE MB T.len (ag (γ 2) aq)) (γ 0)) (aJ j0) bR))))),?_⟩;walk_at "s";have m1:=g.m1;have Β:=g.Β;have YZ:=g.len;walk_at "";intro d hd;refine⟨az,[(Sum.inl 0,.bl true)],rfl,by decide,?_⟩;rw[nS];refine⟨by decide,λj U=>?_⟩;have ed:wx [] [((Sum.inl 0:Key),V.bl true)]=pw [0]:=rfl;rw[ed];have v:j≠d:=λz=>by rw[z,az]at U;cases U
 have W:H j=none:=by rw[aW v]at U;exact U
 refine Jo (λn G O=>E4 λ(B N:ej)(v4 L:Option V)=>n=2*(m.toNat-B.length)+N.length/\G=[some (.int m),some (.ref t),some (.ref d),some (.ref j),v4,L]/\δ H O/\O d=some (.dK (pw B))/\O j=some (.lst (N.map V.int))/\U6 m f B N) _ ⟨[0],[0],none,none,rfl,rfl,?_,?_,az,U6.start m1⟩ ?_
 .exact δ.trans (δ.new _ hd) (δ.new _ U)
 .rw[aW v.symm,az]
 rintro n G O NW hN V9 ⟨B,N,v4,L,rfl,rfl,sm,h1,R,J⟩;have kl:=iz (by lia) J.nd J.Μ;refine⟨_,rfl,!(N.map V.int).isEmpty,.inl ⟨_,ν.of R,rfl⟩,?_⟩;rcases jO N with rfl|⟨a,p,rfl⟩
 .-- nothing ahg: all places have bk reached
  have a0:=J.all m1 g.jn;refine Ts ?_;walk_at "";refine⟨pw B,h1,?_⟩;rw[Et,ah (by lia)];exact k _ sm
 .rw[jQ]at J R hN V9 ⊢;have e1:(!(List.map V.int (a++[p])).isEmpty)=true:=by simp
  rw[e1];refine Tu ⟨NW,V9,?_⟩;walk_at "";rw[au,aF,dB]at R;refine⟨Rw R,Pg R ?_⟩;have Y1:d≠j:=v.symm;have u:δ H (upd O j (.lst (a.map V.int))):=λb o e=>by rw[aW (dX e W)];exact sm b o e
  refine⟨t,ps,f,p,rfl,δ.tup u ht,ι.same u hp,by lia,λl H3 Z X hl=>?_⟩;have ad:j≠l:=dX (o:=.lst (a.map V.int)) az Z;have ae:d≠l:=dX (o:=.dK (pw B)) (by rw[aW Y1];exact h1) Z;have a8:H l=none:=u.free Z;refine⟨l,rfl,⟨_,ν.of hl⟩,uJ (K:=K) (xs:=(gK f p).map V.int) (λi G C=>∃(L:Option V),G=[some (.int m),some (.ref t),some (.ref d),some (.ref j),some (.int p),L]/\δ H C/\C l=some (.lst ((gK f p).map V.int))/\∃r y:List Int,C d=some (.dK (pw r))/\C j=some (.lst (y.map V.int))/\UE m f p ((gK f p).take i) r y B a.length) ?_ (λi G C _ z=>by obtain⟨_,_,_,z,_⟩:=z;exact ν.of z) ?_ ?_⟩
  .refine⟨_,rfl,u.trans X,hl,B,a,?_,?_,?_⟩
   .exact X _ _ (by rw[aW Y1];exact h1)
   .exact X _ _ az
   .rw[eO];exact UE.start J
  .rintro i x G C NI hI hi ⟨L,rfl,s4,hl4,r,y,hd4,hw4,M⟩;rw[aP]at hi;obtain⟨e,he,rfl⟩:∃e,(gK f p)[i]?=some e/\V.int e=x:=by
    cases q:(gK f p)[i]? with
    | none=>rw[q]at hi;cases hi
    | some e=>rw[q]at hi;exact⟨e,rfl,bN hi⟩
   have er:=OW g.ok (aQ he);have et:(gK f p).take (i+1)=(gK f p).take i++[e]:=(by rw[bj,he];rfl);have st:=M.step er.1 er.2;have k4:=iz (by lia) M.nd M.Μ;have Y:=M.mu;walk_at "";refine⟨_,Wr.k (k:=Sum.inl e) hd4,?_⟩;rw[FM];by_cases c:e∈r
   .rw[aj c];rw[ah (by simp)];refine hI _ _ ⟨_,rfl,s4,hl4,r,y,hd4,hw4,?_⟩;rw[et];unfold Cp at st;rw[aj c]at st;exact st
   .rw[ah c];rw[aj (by simp)];refine⟨_,Ws.k (k:=Sum.inl e) hd4 (eg (by rw[Et];lia)),?_⟩;rw[NQ c];have S:upd C d (.dK (pw (r++[e]))) j=some (.lst (y.map V.int)):=(by rw[aW v];exact hw4);refine⟨Rw S,mM S (eg (by rw[aa];have:=M.wl;lia)) ?_⟩;have br:=M.mu;refine hI _ _ ⟨_,rfl,λb o z=>?_,?_,r++[e],y++[e],?_,?_,?_⟩
    .rw[aW (dX z W),aW (dX z hd)];exact s4 b o z
    .rw[aW ad.symm,aW ae.symm];exact hl4
    .rw[aW Y1,az]
    .rw[az,au];rfl
    .rw[et];unfold Cp at st;rw[ah c]at st;exact st
  .rintro G C ⟨L,rfl,s4,hl4,r,y,hd4,hw4,M⟩;rw[aa,bx]at M;have k4:=iz (by lia) M.nd M.Μ;have Y:=M.mu;have a7:=M.up;refine hN _ _ _ ?_ ⟨r,y,some (.int p),L,rfl,rfl,s4,hd4,hw4,M.done⟩;rw[ay];simp only[aR,eL]
   lia
def wA(T:Txt K I):Sp:=λb H Q _=>∃(p:Addr)(r:Road),b=[.ref p]/\H p=some (.tup (qb r))/\2<=r.t/\r.t<=1000000/\2<=r.u/\r.u<=1000000/\∀a,δ H a->Q .ο a
abbrev nG:Stmt:=top 22
def Ds:ζ ["road","number"] ["road"] (aK nG):=.of
def oH:ϓ (aK nG) "LEAST_TOLL":=.of
def oO:ϓ (aK nG) "MOST_TOLL":=.of
def DH(T:Txt K I)(J:bQ (τ P w)):Ok P w K I base "check_tolls" nG ["road"] 1 (wA T):=λ_ _ D=>by
 refine D.F.ϊ Ds λG A c s H M Q E N h=>?_;obtain⟨p,r,rfl,f,l,j,o,m,k⟩:=h;refine⟨_,(aJ (fh PassesOwn.never rfl (wL (lN (ag (ω jM (γ 0) aM) (ag (ω jM (γ 0) aM) aq)))) (ϑ 1) (aJ (cg (nF (xQ sK sK (nD oH.g T.UL (hd:=oH.d)) (γ 1) (nD oO.g T.Vb (hd:=oO.d)))) (aJ j0) bR)))),?_⟩;walk_at "t";refine V6 f rfl (V6 f rfl ⟨bL (by simp),λq y=>?_⟩);have e:upd H q (.tup [.int r.t,.int r.u]) q=some (.tup [.int r.t,.int r.u]):=az;refine⟨⟨_,Δ.of e⟩,Dx (K:=K) (xs:=[.int r.t,.int r.u]) (λi a b=>b=upd H q (.tup [.int r.t,.int r.u])/\∃v,a=[some (.ref p),v]) ⟨rfl,_,rfl⟩ (λi a b _ z=>by rw[z.1];exact Δ.of e) ?_ ?_⟩
 .rintro i x a b hi ⟨rfl,v,rfl⟩;have B:∃n:Int,x=.int n/\2<=n/\n<=1000000:=by
   match i,hi with
   | 0,hi=>exact⟨r.t,by simpa using hi.symm,l,j⟩
   | 1,hi=>exact⟨r.u,by simpa using hi.symm,o,m⟩
  obtain⟨n,rfl,C,L⟩:=B;walk_at "";rw[aj C,ah (by lia)];exact⟨_,rfl⟩
 .rintro a b ⟨rfl,v,rfl⟩;exact k _ (δ.new _ y)
def Cq(m:Int)(t:Addr):List (Str×V):=dz "roads" (.ref t) (dz "many" (.int m) [])
def SX:¬(("many":Str)="roads"):=by decide +kernel
def gI(m:Int)(t:Addr):(Cq m t).lookup ("many":Str)=some (.int m):=by
 unfold Cq;rw[d6,ah SX,d6,aj rfl]
def vE(m:Int)(t:Addr):(Cq m t).lookup ("roads":Str)=some (.ref t):=by
 unfold Cq;rw[d6,aj rfl]
structure μ(C:Addr)(H:Hp)(p:Addr)(m:Int)(t:Addr)(ps:hD)(rs:hR):Prop where
 ob:∃dx,H p=some (.ins C dx (Cq m t))
 tu:H t=some (.tup (ps.map V.ref))
 ro:ι H ps rs
 go:Good m rs
def μ.same{C:Addr}{H c:Hp}{p:Addr}{m:Int}{t:Addr}{a:hD}{b:hR}(e:δ H c)(h:μ C H p m t a b):μ C c p m t a b:=⟨let ⟨dx,q⟩:=h.ob;⟨dx,e _ _ q⟩,e _ _ h.tu,ι.same e h.ro,h.go⟩
def qH(T:Txt K I):Sp:=λg H Q _=>E7 λ(p h:Addr)(m:Int)(c:Bool)(a:Addr)(d:hD)(e:hR)=>g=[.ref p,.int m,.ref a]/\H p=some (.ins T.Web h [])/\ϐ K c H a (d.map V.ref)/\ι H d e/\Good m e/\∀t f,H t=none->μ T.Web f p m t d e->(∀b o,H b=some o->b≠p->f b=some o)->Q .ο f
abbrev qT:Stmt:=mF (top 15) 0
def CH:ζ ["self","many","roads","kept","road"] ["self","many","roads"] (aK qT):=.of
def Dj(T:Txt K I)(n:bQ (τ P w))(re:Cb P w K I base "check_counts" pf ["many","roads"] 1 (uV T))(tU:Cb P w K I base "check_ends" tR ["many","road"] 2 (x8 T))(q9:Cb P w K I base "check_joined" rg ["many","roads"] 2 (va T))(si:Cb P w K I base "check_tolls" nG ["road"] 1 (wA T)):Wf P w K I base "__init__" "Web.__init__" qT ["self","many","roads"] 3 (qH T):=λ_ _ F=>by
 refine F.ϊ CH λξ A W s H vs Q E M h=>?_;obtain⟨p,U,m,c,a,d,rs,rfl,Y,ha,f,g,k⟩:=h;refine⟨_,(ax (Γ 3 (ϰ iI T.tuple (ag (iE rfl (mi (Nc:=["road"]) 1 (by decide +kernel) (by decide +kernel) rfl (by decide +kernel) rfl) (Ck c (γ 2)) (λ_ _ _ _=>(fF (i:=0) (show(["road"]:hG).Nodup from by decide +kernel) rfl (Or.inl rfl))) (λ_ _ _ _=>ik) (λ_ _ _ _=>(lM (we K rfl) (by rfl) T.tuple HX (ag (pv 0) aq)))) aq))) (ax (cV (Ν re M n (ag (γ 1) (ag (γ 3) aq)))) (ax (fh PassesOwn.never rfl (wL (γ 3)) (ϑ 4) (ax (cV (Ν tU M n (ag (γ 1) (ag (γ 4) aq)))) (aJ (cV (Ν si M n (ag (γ 4) aq)))))) (ax (cV (Ν q9 M n (ag (γ 1) (ag (γ 3) aq)))) (ax (rY (γ 0) (γ 1) rfl) (aJ (rY (γ 0) (γ 3) rfl))))))),?_⟩;walk_at "t";refine⟨⟨_,ha⟩,λl J=>?_⟩;have ad:d.length=rs.length:=Paired.length f;have YZ:=g.len;have Β:=g.Β;have am:δ H (upd H l (.lst [])):=δ.new _ J;refine oQ (K:=K) (xs:=d.map V.ref) (λi D j O=>O=upd H l (.lst ((d.take i).map V.ref))/\D=(d.take i).map V.ref/\∃v,j=[v]) ⟨rfl,rfl,_,rfl⟩ (λi D j O _ ⟨z,_⟩=>by rw[z];exact δ.ϭ (δ.new _ J) ha) ?_ ?_
 .rintro i x D j O N hN hi ⟨rfl,rfl,v,rfl⟩;obtain⟨q,r,rfl,Z,h2,B⟩:=f.get hi;have nq:q≠l:=dX B J;have Le:i<d.length:=(aD.mp Z).1;have et:d.take (i+1)=d.take i++[q]:=by rw[bj,Z];rfl
  walk_at "";refine⟨qb r,.inr ⟨Δ.of (by rw[aW nq];exact B),az,eg (by rw[aa,bA];lia),hN _ _ _ ⟨?_,?_,_,rfl⟩⟩⟩
  .rw[nS,et,au];rfl
  .rw[et,au];rfl
 .rintro D j O ⟨rfl,rfl,v,rfl⟩;rw[aa,bx];refine⟨l,rfl,d.map V.ref,.inl ⟨ν.of az,λt ht=>?_⟩⟩;have S:δ H (upd H l (.lst (d.map V.ref))):=δ.new _ J;have s2:δ (upd H l (.lst (d.map V.ref))) (upd (upd H l (.lst (d.map V.ref))) t (.tup (d.map V.ref))):=δ.new _ ht;have y:H t=none:=S.free ht;have u:∀{H':Hp},δ (upd (upd H l (.lst (d.map V.ref))) t (.tup (d.map V.ref))) H'->H' t=some (.tup (d.map V.ref)):=λe=>e _ _ az;refine⟨m,t,d.map V.ref,rfl,Δ.of az,g.m1,g.Β,by rw[aa];lia,⟨_,Δ.of az⟩,?_⟩;refine Hx (K:=K) (xs:=d.map V.ref) (λi j G=>δ (upd (upd H l (.lst (d.map V.ref))) t (.tup (d.map V.ref))) G/\∃v,j=[some (.ref p),some (.int m),some (.ref a),some (.ref t),v]) ⟨δ.refl _,_,rfl⟩ (λi j G _ ⟨z,_⟩=>Δ.of (u z)) ?_ ?_
  .rintro i x j G N hN hi ⟨s3,v,rfl⟩;have C:=S.trans (s2.trans s3);obtain⟨q,r,rfl,Z,h2,B⟩:=f.get hi;have ok:=g.ok r (aQ h2);walk_at "";refine⟨m,q,r,rfl,C _ _ B,ok.a0,ok.a1,ok.b0,ok.b1,ok.ne,?_⟩;exact⟨q,r,rfl,C _ _ B,ok.t0,ok.t1,ok.u0,ok.u1,λH4 L=>hN _ _ ⟨s3.trans L,_,rfl⟩⟩
  .rintro j G ⟨s3,v,rfl⟩;have C:=S.trans (s2.trans s3);walk_at "";refine⟨m,t,d,rs,rfl,Δ.of (u s3),ι.same C f,g,λH4 L=>?_⟩;have X:=C.trans L;have R:t≠p:=λz=>by rw[z,Y]at y;cases y
   refine⟨T.Web,U,[],X _ _ Y,T.Ι,T.Ψ,by decide,?_⟩;refine⟨T.Web,U,_,az,T.Ι,T.TX,by show 1<1000;decide,?_⟩;rw[nS];refine k t _ y ⟨⟨U,az⟩,?_,?_,g⟩ λb o hb nb=>?_
   .rw[aW R];exact u (s3.trans L)
   .refine Paired.imp' (λq r n=>?_) f;rw[aW (eG n Y (by nofun))];exact X _ _ n
   .rw[aW nb];exact X _ _ hb
def ML(T:Txt K I){H:Hp}{m:Int}{c:Bool}{a:Addr}{j:hD}{h:hR}{Q:Addr->Hp->Prop}(q:ϐ K c H a (j.map V.ref))(u:ι H j h)(g:Good m h)(k:∀x t f,H x=none->H t=none->δ H f->μ T.Web f x m t j h->Q x f):∀x d,H x=none->H d=none->d≠x->qH T [.ref x,.int m,.ref a] (upd (upd H d (.own x)) x (.ins T.Web d [])) (λv y=>v=.ο/\Q x y) E0:=by
 intro x d n l ne;have p:upd H d (.own x) x=none:=by rw[aW ne.symm];exact n
 have i:δ H (upd (upd H d (.own x)) x (.ins T.Web d [])):=(δ.new _ l).trans (δ.new _ p);exact⟨x,d,m,c,a,j,h,rfl,az,δ.ϭ i q,ι.same i u,g,λt f s W r=>⟨rfl,k x t f n (i.free s) (λb o e=>r b o (i b o e) (dX e n)) W⟩⟩
abbrev wg(P w base)(T:Txt K I):=Cm P w K I base (Mk K T.Web) "__init__" "Web.__init__" qT ["self","many","roads"] 3 (qH T)
def yW(T:Txt K I):Sp:=λa H Q _=>∃(c:Int),a=[.int c]/\∀(p:Addr)(t u:Int),H p=none->2<=t->t<=1000000->2<=u->u<=1000000->Q (.ref p) (upd H p (.tup [.int t,.int u]))
abbrev vO:Stmt:=top 122
def G4:ζ ["t","there","back"] ["t"] (aK vO):=.of
def FV(T:Txt K I)(J:bQ (τ P w)):Ok P w K I base "_law_tolls" vO ["t"] 1 (yW T):=λ_ _ D=>by
 refine D.F.ϊ G4 λG A e s H O Q E R h=>?_;obtain⟨c,rfl,k⟩:=h;refine⟨_,(ax (Γ 1 (bg gm aM (bg fk (bg iB (γ 0) aM) aM))) (ax (Γ 2 (bg gm aM (bg fk (bg iB (γ 0) aM) aM))) (ax (cg (Υ dJ (bg fk (γ 0) aM) aM) (aJ (Γ 2 (γ 1))) bR) (ax (cg (PW.pt (zh (Υ dJ (bg fk (γ 0) aM) aM) (wG (Υ dJ (bg fk (bg iB (γ 0) aM) aM) aM)))) (ax (Γ 1 (bg gm aM (bg fk (bg iB (γ 0) aM) aM))) (aJ (Γ 2 (bg gm aM (bg fk (bg iB (bg iB (γ 0) aM) aM) aM))))) bR) (aJ (bn (lN (ag (γ 1) (ag (γ 2) aq))))))))),?_⟩;walk_at "s";have d:∀(x n:Int),0<n->0<=x%n/\x%n<n:=λx n h=>⟨cC x (o9 h),cM x h⟩;have L:=d (c/4) 3 (by decide);have C:=d (c/12) 3 (by decide);have N:=d (c/144) 999999 (by decide);have M:=d (c/144/999999) 999999 (by decide);have cd:∀x n:Int,0<n->n<1073741824->Bl x n:=λx n u B=>⟨u,B⟩;have b:∀x y:V,[x,y].length<=sizeLine:=λx y=>bL (by simp);walk_at "";refine⟨cd _ _ (by decide) (by decide),by decide,cd _ _ (by decide) (by decide),by decide,by decide,?_⟩;have f:Bl c 36/\(0:Int)<4/\Bl c 144/\(0:Int)<999999/\Bl (c/144) 999999:=⟨cd _ _ (by decide) (by decide),by decide,cd _ _ (by decide) (by decide),by decide,cd _ _ (by decide) (by decide)⟩;obtain⟨t,g,j,o,r⟩:=f;have z:∀p,H p=none->Q (.ref p) (upd H p (.tup [.int (2+c/144%999999),.int (2+c/144/999999%999999)])):=λp a=>k p _ _ a (by lia) (by lia) (by lia) (by lia);have v:∀p,H p=none->Q (.ref p) (upd H p (.tup [.int (2+c/4%3),.int (2+c/4%3)])):=λp a=>k p _ _ a (by lia) (by lia) (by lia) (by lia);have l:∀p,H p=none->Q (.ref p) (upd H p (.tup [.int (2+c/4%3),.int (2+c/12%3)])):=λp a=>k p _ _ a (by lia) (by lia) (by lia) (by lia);by_cases q:c%4=1
 .rw[aj q];refine⟨g,?_⟩;rw[ah (by lia)];exact⟨b _ _,v⟩
 .rw[ah q];refine⟨g,?_⟩;by_cases m:c%4=2
  .rw[aj m];refine⟨t,g,?_⟩;by_cases i:c/36%4=1
   .rw[aj i];exact⟨j,o,j,r,o,b _ _,z⟩
   .rw[ah i];exact⟨b _ _,l⟩
  .rw[ah m];exact⟨b _ _,l⟩
def sM(a b:Addr):List (Str×V):=dz "past" (.ref b) (dz "web" (.ref a) [])
def yU(a b:Addr):(sM a b).lookup ("web":Str)=some (.ref a):=by
 unfold sM;rw[d6,ah (by decide +kernel),d6,aj rfl]
def xW(b a:Addr):(sM b a).lookup ("past":Str)=some (.ref a):=by
 unfold sM;rw[d6,aj rfl]
def OD{a c:Addr}{m:Str}(d:¬m="past")(b:¬m="web"):(sM a c).lookup m=none:=by
 unfold sM;rw[d6,ah d,d6,ah b]
 rfl
def Vv(H:Hp)(q:Addr)(s:List Int×List Int):Prop:=∃a b,H q=some (.tup [.ref a,.ref b])/\H a=some (.tup (s.1.map V.int))/\H b=some (.tup (s.2.map V.int))
structure ς(C O:Addr)(H:Hp)(o wb pl:Addr)(m:Int)(t:Addr)(ps:hD)(rs:hR)(sts:List (List Int×List Int)):Prop where
 ob:∃dx,H o=some (.ins O dx (sM wb pl))
 web:μ C H wb m t ps rs
 pa:∃qs:List Addr,H pl=some (.lst (qs.map V.ref))/\Paired (Vv H) qs sts
def ς.same{C O:Addr}{H d:Hp}{o g f:Addr}{m:Int}{t:Addr}{j:hD}{i:hR}{c:List (List Int×List Int)}(e:δ H d)(h:ς C O H o g f m t j i c):ς C O d o g f m t j i c:=⟨let ⟨dx,q⟩:=h.ob;⟨dx,e _ _ q⟩,h.web.same e,let ⟨qs,h1,h2⟩:=h.pa;⟨qs,e _ _ h1,Paired.imp' (λq s ⟨a,b,x,y,z⟩=>⟨a,b,e _ _ x,e _ _ y,e _ _ z⟩) h2⟩⟩
def Vv.Xd{H d:Hp}{l q:Addr}{s:List Int×List Int}{f:List V}(e:Ϸ l H d)(c:H l=some (.lst f))(h:Vv H q s):Vv d q s:=by
 obtain⟨a,b,x,y,z⟩:=h;exact⟨a,b,e _ _ x (eG x c (by nofun)),e _ _ y (eG y c (by nofun)),e _ _ z (eG z c (by nofun))⟩
def μ.aaC{C:Addr}{H d:Hp}{l p:Addr}{m:Int}{t:Addr}{b:hD}{c:hR}{f:List V}(e:Ϸ l H d)(a:H l=some (.lst f))(h:μ C H p m t b c):μ C d p m t b c:=⟨let ⟨dx,q⟩:=h.ob;⟨dx,e _ _ q (eG q a (by nofun))⟩,e _ _ h.tu (eG h.tu a (by nofun)),Paired.imp' (λq x z=>e _ _ z (eG z a (by nofun))) h.ro,h.go⟩
def μ.Y3{C O:Addr}{H b:Hp}{o p:Addr}{m:Int}{t a:Addr}{f:hD}{c:hR}{g:List (Str×V)}(e:Ϸ o H b)(d:H o=some (.ins O a g))(h:μ C H p m t f c)(n:p≠o:=by assumption):μ C b p m t f c:=⟨let ⟨a,q⟩:=h.ob;⟨a,e _ _ q n⟩,e _ _ h.tu (eG h.tu d (by nofun)),Paired.imp' (λq x z=>e _ _ z (eG z d (by nofun))) h.ro,h.go⟩
def ς.Xd{C O:Addr}{H d:Hp}{o f c l:Addr}{m:Int}{t:Addr}{i:hD}{g:hR}{a:List (List Int×List Int)}{j:List V}(e:Ϸ l H d)(b:H l=some (.lst j))(n:c≠l)(h:ς C O H o f c m t i g a):ς C O d o f c m t i g a:=⟨let ⟨dx,q⟩:=h.ob;⟨dx,e _ _ q (eG q b (by nofun))⟩,h.web.aaC e b,let ⟨qs,h1,h2⟩:=h.pa;⟨qs,e _ _ h1 n,Paired.imp' (λq s x=>x.Xd e b) h2⟩⟩
def ς.last{C O:Addr}{H:Hp}{o l f:Addr}{m:Int}{t:Addr}{r:hD}{n:hR}{c:List (List Int×List Int)}{s:List Int×List Int}(h:ς C O H o l f m t r n (c++[s])):E4 λ(d:hD)(q a b:Addr)=>H f=some (.lst ((d++[q]).map V.ref))/\Paired (Vv H) d c/\aT ((d++[q]).map V.ref) (-1)=some (.ref q)/\H q=some (.tup [.ref a,.ref b])/\H a=some (.tup (s.1.map V.int))/\H b=some (.tup (s.2.map V.int)):=by
 obtain⟨d,p,u⟩:=h.pa;obtain⟨e,q,rfl,i,a,b,j,g,k⟩:=CM u;refine⟨e,q,a,b,p,i,?_,j,g,k⟩;rw[au];exact QC _ _
def ς.Ϟ{C O:Addr}{H:Hp}{o d c:Addr}{m:Int}{t:Addr}{g:hD}{e:hR}{b:List (List Int×List Int)}(h:ς C O H o d c m t g e b){mt:Str}{R:Prop}(q:R)(f:¬mt="past":=by decide +kernel)(i:¬mt="web":=by decide +kernel):∃x a,H o=some (.ins O x a)/\a.lookup mt=none/\R:=let ⟨dx,ob⟩:=h.ob;⟨dx,_,ob,OD f i,q⟩
def ς.WN{C O:Addr}{H:Hp}{o e f:Addr}{m:Int}{t:Addr}{j:hD}{i:hR}{d:List (List Int×List Int)}(T:Vx K O)(g:Ο K O "web")(h:ς C O H o e f m t j i d){R:V->Prop}(q:R (.ref e)):∃x c a,H o=some (.ins x c a)/\Vx K x/\Ο K x "web"/\∃b,a.lookup ("web":Str)=some b/\R b:=let ⟨dx,ob⟩:=h.ob;⟨O,dx,_,ob,T,g,_,yU _ _,q⟩
def qh(T:Txt K I):Sp:=λf H Q _=>E7 λ(o i w t:Addr)(m:Int)(c:hD)(d:hR)=>f=[.ref o,.ref w]/\H o=some (.ins T.Desk i [])/\μ T.Web H w m t c d/\∀h e g a,H e=none->ς T.Web T.Desk a o h e m g c d [(Ϗ m,Ϗ m)]->(∀b x,H b=some x->b≠o->a b=some x)->Q .ο a
abbrev oz:Stmt:=mF (top 110) 0
def BM:ζ ["self","web","noughts"] ["self","web"] (aK oz):=.of
def qK:ϓ (aK oz) "Web":=.of
def BU(T:Txt K I)(hq:bQ (τ P w))(Y:wg P w base T):Wf P w K I base "__init__" "Desk.__init__" oz ["self","web"] 5 (qh T):=λ_ _ F=>by
 refine F.ϊ BM λξ A S s H vs Q E hr h=>?_;obtain⟨o,f,w,t,m,ps,rs,rfl,ho,W,k⟩:=h;have g:=W.go;have Β:=g.Β;have m1:=g.m1;obtain⟨dw,wb⟩:=W.ob;refine⟨_,(ax (rY (γ 0) (zR Y.M Y.G (hr.mono (by decide)) qK.g T.X1 Y.b .nil (gJ hq) (ag (dG (γ 1) rfl) (ag (dG (γ 1) rfl) aq)) (hdb:=qK.d)) rfl) (ax (Γ 2 (ϰ iI T.tuple (ag (bg pN (ee (ag aM aq)) (dG (γ 1) rfl)) aq))) (aJ (rY (γ 0) (ee (ag (lN (ag (γ 2) (ag (γ 2) aq))) aq)) rfl)))),?_⟩;walk_at "t";refine⟨T.Web,dw,_,wb,T.Ι,T.Ψ,_,gI _ _,T.Web,dw,_,wb,T.Ι,T.TX,_,vE _ _,?_⟩;refine ML T (c:=false) (Δ.of W.tu) W.ro g λx tw i hx bY D W1=>?_;have q:=D _ _ ho;have bs:x≠o:=λz=>by rw[z,ho]at hx;cases hx
 have bm:w≠o:=eG wb ho (by
  intro z;injection z with _ _ z
  have:=gI m t;rw[z]at this;cases this)
 refine⟨T.Desk,f,[],q,T.η,T.υ,by decide,by decide,λl1 n1=>?_⟩;have k1:Ϸ o H (upd i o (.ins T.Desk f (dz "web" (.ref x) []))):=(Ϸ.refl.then D).put _;have X:upd i o (.ins T.Desk f (dz "web" (.ref x) [])) o=some (.ins T.Desk f (dz "web" (.ref x) [])):=az;have J:Ϸ o i (upd i o (.ins T.Desk f (dz "web" (.ref x) []))):=Ϸ.refl.put _;have kn:∀{p:Addr},upd i o (.ins T.Desk f (dz "web" (.ref x) [])) p=none->i p=none:=λ{p} h=>by
  cases e:i p with
  | none=>rfl
  | some y=>
    by_cases z:p=o
    .rw[z,X]at h;cases h
    .rw[J p y e z]at h;cases h
 have W2:μ T.Web (upd i o (.ins T.Desk f (dz "web" (.ref x) []))) x m tw ps rs:=W1.Y3 J q;have B:μ T.Web (upd i o (.ins T.Desk f (dz "web" (.ref x) []))) w m t ps rs:=(W.same D).Y3 J q;generalize upd i o (.ins T.Desk f (dz "web" (.ref x) []))=H2 at k1 X J kn W2 B n1 ⊢;obtain⟨R,ai⟩:=B.ob;have v1:=δ.new (.lst [V.int 0]) n1;refine⟨T.Web,R,_,v1 _ _ ai,T.Ι,T.Ψ,_,gI _ _,?_⟩;refine⟨l1,m,[V.int 0],rfl,rfl,az,by lia,by lia,bL (by simp;lia),λL n2=>?_⟩;rw[ug,<-DA];have v2:=v1.trans (δ.new (.lst ((Ϗ m).map V.int)) n2);have e2:upd (upd H2 l1 (.lst [V.int 0])) L (.lst ((Ϗ m).map V.int)) L=some (.lst ((Ϗ m).map V.int)):=az;generalize upd (upd H2 l1 (.lst [V.int 0])) L (.lst ((Ϗ m).map V.int))=H3 at v2 e2 ⊢;refine⟨L,rfl,_,.inl ⟨ν.of e2,λa n3=>?_⟩⟩;have v3:=v2.trans (δ.new (.tup ((Ϗ m).map V.int)) n3);have e3:upd H3 a (.tup ((Ϗ m).map V.int)) a=some (.tup ((Ϗ m).map V.int)):=az;generalize upd H3 a (.tup ((Ϗ m).map V.int))=H4 at v3 e3 ⊢;refine⟨bL (by simp),λj n4=>⟨bL (by simp),λr U=>?_⟩⟩;have Z:=v3.trans (δ.new (.tup [V.ref a,V.ref a]) n4);have e4:upd H4 j (.tup [V.ref a,V.ref a]) j=some (.tup [V.ref a,V.ref a]):=az;have Y4:=δ.new (.tup [V.ref a,V.ref a]) n4 _ _ e3;generalize upd H4 j (.tup [V.ref a,V.ref a])=H5 at Z e4 Y4 U ⊢;have n:=δ.new (.lst [V.ref j]) U;have N:=Z.trans n;have e5:upd H5 r (.lst [V.ref j]) r=some (.lst [V.ref j]):=az;have l:=n _ _ e4;have C:=n _ _ Y4;have ac:=Z.free U;generalize upd H5 r (.lst [V.ref j])=H6 at N e5 l C ⊢;have v:=N _ _ X;refine⟨T.Desk,f,_,v,T.η,T.UN,by show 1<1000;decide,?_⟩;have u:Ϸ o H6 (upd H6 o (.ins T.Desk f (sM x r))):=Ϸ.refl.put _;have O:H r=none:=D.free (kn ac);show Q .ο (upd H6 o (.ins T.Desk f (sM x r)));refine k x r tw _ O ⟨⟨f,az⟩,(W2.same N).Y3 u v,[j],u _ _ e5 (eG e5 v (by nofun)),.cons ⟨a,a,u _ _ l (eG l v (by nofun)),u _ _ C (eG C v (by nofun)),u _ _ C (eG C v (by nofun))⟩ .nil⟩ ?_;exact λb x hb nb=>u _ _ (N _ _ (k1 b x hb nb)) nb
def Qp(T:Txt K I){H:Hp}{x p:Addr}{m:Int}{n:hD}{j:hR}{Q:Addr->Hp->Prop}{E:XK}(W:μ T.Web H x m p n j)(k:∀o i d t c,H o=none->H d=none->δ H c->ς T.Web T.Desk c o i d m t n j [(Ϗ m,Ϗ m)]->Q o c):∀y a,H y=none->H a=none->a≠y->qh T [.ref y,.ref x] (upd (upd H a (.own y)) y (.ins T.Desk a [])) (λv s=>v=.ο/\Q y s) E:=by
 intro y a g h ne;have f:upd H a (.own y) y=none:=by rw[aW ne.symm];exact g
 have l:δ H (upd (upd H a (.own y)) y (.ins T.Desk a [])):=(δ.new _ h).trans (δ.new _ f);exact⟨y,a,x,p,m,n,j,rfl,az,W.same l,λi d t c r D q=>⟨rfl,k y i d t c g (l.free r) (λb o e=>q b o (l b o e) (dX e g)) D⟩⟩
def yP(T:Txt K I):Sp:=λ_ _ _ _=>False
abbrev vG:Stmt:=mF (top 110) 5
def F3:ζ ["self"] ["self"] (aK vG):=.of
def GL(T:Txt K I)(a:bQ (τ P w)):Wf P w K I base "back" "Desk.back" vG ["self"] 1 (yP T):=λ_ _ F=>F.ϊ F3 (λ_ _ _ _ _ _ _ _ _ h=>h.elim) (λ_ _ _ _ h=>h.elim)
def yE(T:Txt K I):Sp:=λi H Q _=>W9 λ(o f d t a b:Addr)(m:Int)(g:hD)(h:hR)(c:List (List Int×List Int))(s:List Int×List Int)=>i=[.ref o,.ref a,.ref b]/\ς T.Web T.Desk H o f d m t g h c/\H a=some (.tup (s.1.map V.int))/\H b=some (.tup (s.2.map V.int))/\c.length<=1000/\∀e,ς T.Web T.Desk e o f d m t g h (c++[s])->Ϸ d H e->Q .ο e
abbrev vL:Stmt:=mF (top 110) 4
def GA:ζ ["self","laying","wish"] ["self","laying","wish"] (aK vL):=.of
def FY(T:Txt K I)(G:bQ (τ P w)):Wf P w K I base "keep" "Desk.keep" vL ["self","laying","wish"] 1 (yE T):=λ_ _ F=>by
 refine F.ϊ GA λD A j s H N Q E S h=>?_;obtain⟨o,L,f,t,a,b,m,U,M,z,s,rfl,O,u,C,J,k⟩:=h;obtain⟨v,ob⟩:=O.ob;obtain⟨l,e,r⟩:=O.pa;refine⟨_,(aJ (cV (Uj (dG (γ 0) rfl) (lN (ag (γ 1) (ag (γ 2) aq)))))),?_⟩;walk_at "t";refine⟨T.Desk,v,_,ob,T.η,T.UN,_,xW _ _,.inl ⟨rfl,_,ν.of e⟩,bL (by simp),λq B=>?_⟩;have d:=δ.new (.tup [V.ref a,V.ref b]) B;have R:=Paired.length r;refine⟨f,_,_,rfl,rfl,d _ _ e,eg (by rw[aa];lia),?_⟩;have i:Ϸ f (upd H q (.tup [V.ref a,V.ref b])) (upd (upd H q (.tup [V.ref a,V.ref b])) f (.lst (l.map V.ref++[V.ref q]))):=Ϸ.refl.put _;have g:Ϸ f H (upd (upd H q (.tup [V.ref a,V.ref b])) f (.lst (l.map V.ref++[V.ref q]))):=λc y h n=>i c y (d _ _ h) n;have p:=O.same d;refine k _ ⟨?_,p.web.aaC i (d _ _ e),l++[q],by rw[az,au];rfl,?_⟩ g
 .obtain⟨dx',ob'⟩:=p.ob;exact⟨dx',i _ _ ob' (eG ob' (d _ _ e) (by nofun))⟩
 .refine Bi ?_ (Paired.imp' (λq s x=>Vv.Xd g e x) r);exact Vv.Xd i (d _ _ e) ⟨a,b,az,d _ _ u,d _ _ C⟩
abbrev AG(P w base)(T:Txt K I):=Cm P w K I base (Meth K T.Desk "keep") "keep" "Desk.keep" vL ["self","laying","wish"] 1 (yE T)
def qY(T:Txt K I):Sp:=λc H Q _=>E9 λ(o d g t:Addr)(m:Int)(e:hD)(f:hR)(b:List (List Int×List Int))(s:List Int×List Int)=>c=[.ref o]/\ς T.Web T.Desk H o d g m t e f (b++[s])/\∀a,H a=some (.tup (s.1.map V.int))->Q (.ref a) H
abbrev sA:Stmt:=mF (top 110) 6
def DY:ζ ["self"] ["self"] (aK sA):=.of
def DI(T:Txt K I)(n:bQ (τ P w)):Wf P w K I base "laying" "Desk.laying" sA ["self"] 1 (qY T):=λ_ _ F=>by
 refine F.ϊ DY λl A c s H x Q E z h=>?_;obtain⟨o,u,p,t,m,B,v,i,s,rfl,O,k⟩:=h;obtain⟨g,ob⟩:=O.ob;obtain⟨y,q,a,b,j,_,e,f,d,r⟩:=O.last;refine⟨_,(aJ (bn (ω jM (rP bC (dG (γ 0) rfl) (uK rX aM) (λ_ _=>rfl)) aM))),?_⟩;walk_at "t";refine⟨T.Desk,g,_,ob,T.η,T.UN,_,xW _ _,Θ j e ?_⟩;exact⟨q,_,0,_,rfl,rfl,Δ.of f,rfl,k a d⟩
abbrev sv(P w base)(T:Txt K I):=Cm P w K I base (Meth K T.Desk "laying") "laying" "Desk.laying" sA ["self"] 1 (qY T)
def tT(T:Txt K I):Sp:=λc H Q _=>E9 λ(o d g t:Addr)(m:Int)(e:hD)(f:hR)(b:List (List Int×List Int))(s:List Int×List Int)=>c=[.ref o]/\ς T.Web T.Desk H o d g m t e f (b++[s])/\∀a,H a=some (.tup (s.2.map V.int))->Q (.ref a) H
abbrev vD:Stmt:=mF (top 110) 7
def G1:ζ ["self"] ["self"] (aK vD):=.of
def HN(T:Txt K I)(p:bQ (τ P w)):Wf P w K I base "wish" "Desk.wish" vD ["self"] 1 (tT T):=λ_ _ F=>by
 refine F.ϊ G1 λl A c s H x Q E z h=>?_;obtain⟨o,u,r,t,m,B,v,i,s,rfl,O,k⟩:=h;obtain⟨f,ob⟩:=O.ob;obtain⟨y,q,a,b,j,_,d,e,n,g⟩:=O.last;refine⟨_,(aJ (bn (ω jM (rP bC (dG (γ 0) rfl) (uK rX aM) (λ_ _=>rfl)) aM))),?_⟩;walk_at "t";refine⟨T.Desk,f,_,ob,T.η,T.UN,_,xW _ _,Θ j d ?_⟩;exact⟨q,_,1,_,rfl,rfl,Δ.of e,rfl,k b g⟩
abbrev vQ(P w base)(T:Txt K I):=Cm P w K I base (Meth K T.Desk "wish") "wish" "Desk.wish" vD ["self"] 1 (tT T)
def wt(T:Txt K I):Sp:=λa H Q E=>E6 λ(p t:Addr)(m:Int)(b:hD)(c:hR)(n:Int)=>a=[.ref p,.int n]/\μ T.Web H p m t b c/\(0<=n->n<m->Q .ο H)/\(¬(0<=n/\n<m)->E (.ref T.NoPlace) none H)
abbrev p8:Stmt:=top 18
def Dm:ζ ["web","number"] ["web","number"] (aK p8):=.of
def pV:ϓ (aK p8) "NoPlace":=.of
def DE(T:Txt K I)(l:bQ (τ P w))(f:CQ P w base T):Ok P w K I base "check_place" p8 ["web","number"] 2 (wt T):=λ_ _ D=>by
 refine D.F.Ϻ Dm λj A a s H q Q E i h=>?_;obtain⟨p,t,m,r,o,n,rfl,W,k,e⟩:=h;obtain⟨b,ob⟩:=W.ob;refine⟨_,(aJ (cg (nF (mW (Κ f i bT (ag (dG (γ 0) rfl) (ag (γ 1) aq))))) (aJ (rB T.VX rfl sY pV.g T.Ut (ag bE aq) (hdb:=pV.d))) bR)),?_⟩;walk_at "t";refine⟨T.Web,b,_,ob,T.Ι,T.Ψ,_,gI m t,m,n,rfl,_,rfl,?_⟩;by_cases c:0<=n/\n<m
 .rw[ah (by simp[c.1,c.2])];exact k c.1 c.2
 .rw[aj (by simpa[bB]using c)];exact⟨by decide,e c⟩
abbrev lH(P w base)(T:Txt K I):=Cb P w K I base "check_place" p8 ["web","number"] 2 (wt T)
def bI(m:Int)(a:ej):Bool:=decide ((a.length:Int)=m)&&a.all λx=>decide (0<=x)
def rS{m:Int}{a:ej}(h:(a.length:Int)=m)(c:∀x∈a,0<=x):bI m a=true:=by
 unfold bI;rw[bD h,k7,dW];exact λx b=>bD (c x b)
def jc{m:Int}{a:ej}(h:bI m a=true):(a.length:Int)=m:=by
 unfold bI at h;rw[bB]at h;exact bu h.1
def ES{m:Int}{a:ej}(h:bI m a=true):∀x∈a,0<=x:=by
 unfold bI at h;rw[bB,dW]at h;exact λx b=>bu (h.2 x b)
def zc(T:Txt K I):Sp:=λe H Q _=>E8 λ(p a t:Addr)(c:Bool)(m:Int)(f:hD)(g:hR)(b:ej)=>e=[.ref p,.ref a]/\μ T.Web H p m t f g/\ϐ K c H a (b.map V.int)/\b.length<=1000/\∀d,δ H d->Q (.bl (bI m b)) d
abbrev vS:Stmt:=top 27
def HP:ζ ["web","numbers"] ["web","numbers"] (aK vS):=.of
def GO(T:Txt K I)(B:bQ (τ P w)):Ok P w K I base "is_filled" vS ["web","numbers"] 1 (zc T):=λ_ _ D=>by
 refine D.F.ϊ HP λu A n s H J Q E L h=>?_;obtain⟨p,a,t,c,m,M,G,xs,rfl,W,f,C,k⟩:=h;refine⟨_,(aJ (bn (wT (jB dJ (lE fq T.len (ag (γ 1) aq)) (dG (γ 0) rfl) (i9 _)) (wO (lE (GD rfl) T.all (ag (iE rfl (mi (Nc:=["number"]) 1 (by decide +kernel) (by decide +kernel) rfl (by decide +kernel) rfl) (Ck c (γ 1)) (λ_ _ _ _=>(fF (i:=0) (show(["number"]:hG).Nodup from by decide +kernel) rfl (Or.inl rfl))) (λ_ _ _ _=>ik) (λ_ _ _ _=>(jB wY (pv 0) aM (i9 _)))) aq)))))),?_⟩;walk_at "t";obtain⟨r,ob⟩:=W.ob;have q:ν K H a (xs.map V.int)\/Δ K H a (xs.map V.int):=by
  cases c
  .exact .inr f
  .exact .inl f
 refine⟨_,q,T.Web,r,_,ob,T.Ι,T.Ψ,_,gI m t,rfl,?_⟩;rw[aa];by_cases g:(xs.length:Int)=m
 .rw[aj (by rw[g])];refine⟨⟨_,f⟩,λl nl=>?_⟩;refine oQ (K:=K) (c:=c) (xs:=xs.map V.int) (λi b j d=>δ H d/\d l=some (.lst b)/\b=((xs.take i).map λx=>decide (0<=x)).map V.bl/\∃v,j=[v]) ⟨δ.new _ nl,az,rfl,_,rfl⟩ (λi b j d _ z=>δ.ϭ z.1 f) ?_ ?_
  .rintro i x b j d N hN hx ⟨s2,e2,rfl,v,rfl⟩;rw[aP]at hx;obtain⟨y,o,rfl⟩:=b9.mp hx;walk_at "";refine⟨e2,eg (by rw[aa,aa,bA];lia),hN _ _ _ ⟨s2.put nl _,az,?_,_,rfl⟩⟩;rw[bj,o,au,au]
   rfl
  .rintro b j d ⟨s2,e2,rfl,v,rfl⟩;refine⟨l,rfl,_,ν.of e2,?_⟩;have e:(((xs.take (xs.map V.int).length).map λx=>decide (0<=x)).all id)=bI m xs:=by
    rw[aa,bx,List.all_map];unfold bI;rw[bD g,k7]
    rfl
   rw[e];exact k _ s2
 .rw[ah (λz=>g (by injection z))];have e:bI m xs=false:=by
   unfold bI;rw[b4 g,nX]
  rw[e]at k;exact k H (δ.refl _)
abbrev A2(P w base)(T:Txt K I):=Cb P w K I base "is_filled" vS ["web","numbers"] 1 (zc T)
def zo(T:Txt K I):Sp:=λe H Q E=>E8 λ(p a t:Addr)(c:Bool)(m:Int)(f:hD)(g:hR)(d:ej)=>e=[.ref p,.ref a]/\μ T.Web H p m t f g/\ϐ K c H a (d.map V.int)/\d.length<=1000/\(bI m d=true->∀l b,δ H b->(b l=some (.tup (d.map V.int))\/(c=false/\l=a))->Δ K b l (d.map V.int)->Q (.ref l) b)/\(bI m d=false->∀b,δ H b->E (.ref T.BadLaying) none b)
abbrev rK:Stmt:=top 26
def G2:ζ ["web","numbers"] ["web","numbers"] (aK rK):=.of
def pZ:ϓ (aK rK) "BadLaying":=.of
def GX(T:Txt K I)(B:bQ (τ P w))(q:A2 P w base T):Ok P w K I base "laying_of" rK ["web","numbers"] 2 (zo T):=λ_ _ D=>by
 refine D.F.Ϻ G2 λy A j s H C Q E v h=>?_;obtain⟨p,a,t,c,m,x,u,i,rfl,W,f,r,k,e⟩:=h;refine⟨_,(ax (cg (nF (mW (Κ q v bT (ag (γ 0) (ag (γ 1) aq))))) (aJ (rB T.Va rfl sY pZ.g T.TJ (ag bE aq) (hdb:=pZ.d))) bR) (aJ (bn (ϰ iI T.tuple (ag (γ 1) aq))))),?_⟩;walk_at "t";refine⟨p,a,t,c,m,x,u,i,rfl,W,f,r,λn b=>⟨_,rfl,?_⟩⟩;by_cases z:bI m i=false
 .rw[aj z];exact⟨by decide,e z n b⟩
 .rw[ah z];have o:bI m i=true:=by simpa using z
  cases c
  .exact⟨_,.inr ⟨δ.ϭ (c:=false) b f,k o a n b (.inr ⟨rfl,rfl⟩) (δ.ϭ (c:=false) b f)⟩⟩
  .exact⟨_,.inl ⟨δ.ϭ (c:=true) b f,λl nl=>k o l _ (b.trans (δ.new _ nl)) (.inl az) (Δ.of az)⟩⟩
abbrev vX(P w base)(T:Txt K I):=Cb P w K I base "laying_of" rK ["web","numbers"] 2 (zo T)
def LO(T:Txt K I):Sp:=λe H Q E=>E10 λ(p a t:Addr)(c:Bool)(m:Int)(f:hD)(g:hR)(d:ej)(v n:Int)=>e=[.ref p,.ref a,.int v,.int n]/\μ T.Web H p m t f g/\ϐ K c H a (d.map V.int)/\d.length<=1000/\(bI m d=true->0<=v->v<m->0<=d.getD v.toNat 0+n->∀l b,δ H b->b l=some (.tup ((d.set v.toNat (d.getD v.toNat 0+n)).map V.int))->Q (.ref l) b)/\(bI m d=false->∀b,δ H b->E (.ref T.BadLaying) none b)/\(bI m d=true->¬(0<=v/\v<m)->∀b,δ H b->E (.ref T.NoPlace) none b)/\(bI m d=true->0<=v->v<m->d.getD v.toNat 0+n<0->∀b,δ H b->E (.ref T.BadLaying) none b)
abbrev J7:Stmt:=top 30
def RC:ζ ["web","laying","place","many","counts"] ["web","laying","place","many"] (aK J7):=.of
def Su(T:Txt K I)(hq:bQ (τ P w))(dF:lH P w base T)(R:vX P w base T):Ok P w K I base "put" J7 ["web","laying","place","many"] 3 (LO T):=λ_ _ D=>by
 refine D.F.Ϻ RC λξ A C s H vs Q E J h=>?_;obtain⟨p,a,t,c,m,L,G,b,v,n,rfl,W,X,hz,k,e1,e2,Y⟩:=h;have g:=W.go;have Β:=g.Β;refine⟨_,(ax (Γ 4 (ϰ oX T.list (ag (Κ R J bT (ag (γ 0) (ag (γ 1) aq))) aq))) (ax (cV (Κ dF J bT (ag (γ 0) (ag (γ 2) aq)))) (ax (wM (γ 4) (γ 2) ud (γ 3) wI hW) (aJ (bn (Κ R J bT (ag (γ 0) (ag (γ 4) aq)))))))),?_⟩;walk_at "t";refine⟨p,a,t,c,m,L,G,b,rfl,W,X,hz,λd l0 U S _ e0=>?_,e1⟩;have xl:(b.length:Int)=m:=by
  unfold bI at d;rw[bB]at d;exact bu d.1
 refine⟨l0,rfl,_,.inr e0,λl O=>?_⟩;have r:=S.trans (δ.new (.lst (b.map V.int)) O);have nl:=S.free O;have u:upd U l (.lst (b.map V.int)) l=some (.lst (b.map V.int)):=az;generalize upd U l (.lst (b.map V.int))=B at r u ⊢;refine⟨p,t,m,L,G,v,rfl,W.same r,λo M=>?_,λz=>e2 d z B r⟩;refine Θ u (ϩ o (by lia)) ⟨_,rfl,pJ u o (by rw[aa];lia) ?_⟩;rw[<-dh];have q:=r.put nl (.lst ((b.set v.toNat (b.getD v.toNat 0+n)).map V.int));have f:upd B l (.lst ((b.set v.toNat (b.getD v.toNat 0+n)).map V.int)) l=some (.lst ((b.set v.toNat (b.getD v.toNat 0+n)).map V.int)):=az;generalize upd B l (.lst ((b.set v.toNat (b.getD v.toNat 0+n)).map V.int))=H2 at q f ⊢;have yl:((b.set v.toNat (b.getD v.toNat 0+n)).length:Int)=m:=by rw[bz];exact xl
 refine⟨p,l,t,true,m,L,G,_,rfl,W.same q,ν.of f,by lia,λe N j y Z _=>?_,λe j y=>?_⟩
 .have hl3:j N=some (.tup ((b.set v.toNat (b.getD v.toNat 0+n)).map V.int)):=by
   rcases Z with z|z
   .exact z
   .cases z.1
  refine k d o M ?_ N j (q.trans y) hl3;unfold bI at e;rw[bB,dW]at e;exact bu (e.2 _ (aQ (i:=v.toNat) (by rw[dg (by lia)])))
 .refine Y d o M ?_ j (q.trans y);apply Classical.byContradiction;intro z;have:bI m (b.set v.toNat (b.getD v.toNat 0+n))=true:=by
   unfold bI at d;rw[bB,dW]at d;exact rS yl (F7 (λx hx=>bu (d.2 x hx)) (by lia))
  rw[this]at e;cases e
def Ju(T:Txt K I):Sp:=λb H Q E=>E7 λ(p t:Addr)(m:Int)(c:hD)(d:hR)(v n:Int)=>b=[.ref p,.int v,.int n]/\μ T.Web H p m t c d/\(0<=v->v<m->0<=n->∀l a,δ H a->a l=some (.tup (((List.replicate m.toNat (0:Int)).set v.toNat n).map V.int))->Q (.ref l) a)/\(¬(0<=v/\v<m)->∀a,δ H a->E (.ref T.NoPlace) none a)/\(0<=v->v<m->n<0->∀a,δ H a->E (.ref T.BadLaying) none a)
abbrev Ig:Stmt:=top 29
def Qk:ζ ["web","place","many"] ["web","place","many"] (aK Ig):=.of
def Ri(T:Txt K I)(hq:bQ (τ P w))(y:Cb P w K I base "put" J7 ["web","laying","place","many"] 3 (LO T)):Ok P w K I base "pile" Ig ["web","place","many"] 4 (Ju T):=λ_ _ D=>by
 refine D.F.Ϻ Qk λZ A j s H vs Q E X h=>?_;obtain⟨p,t,m,Y,N,v,n,rfl,W,k,M,C⟩:=h;have g:=W.go;have m1:=g.m1;have Β:=g.Β;obtain⟨G,ob⟩:=W.ob;refine⟨_,(aJ (bn (Κ y X bT (ag (γ 0) (ag (bg pN (ee (ag aM aq)) (dG (γ 0) rfl)) (ag (γ 1) (ag (γ 2) aq))))))),?_⟩;walk_at "t";refine⟨bL (by simp),λo R=>?_⟩;have u:=δ.new (.lst [V.int 0]) R;refine⟨T.Web,G,_,u _ _ ob,T.Ι,T.Ψ,_,gI m t,?_⟩;refine⟨o,m,_,rfl,rfl,az,by lia,by lia,bL (by simp;lia),λl J=>?_⟩;rw[FL];have d:=u.trans (δ.new (.lst (List.replicate m.toNat (V.int 0))) J);have r:upd (upd H o (.lst [V.int 0])) l (.lst (List.replicate m.toNat (V.int 0))) l=some (.lst ((List.replicate m.toNat (0:Int)).map V.int)):=by rw[az,gW]
 generalize upd (upd H o (.lst [V.int 0])) l (.lst (List.replicate m.toNat (V.int 0)))=H1 at d r ⊢;have L:((List.replicate m.toNat (0:Int)).length:Int)=m:=by rw[cf];lia
 have S:∀x∈List.replicate m.toNat (0:Int),0<=x:=λx O=>by rw[(fW.mp O).2];decide
 have U:=rS L S;have q:0<=v->v<m->(List.replicate m.toNat (0:Int)).getD v.toNat 0=0:=λb a=>by
  rw[List.getD,jU (by lia)];rfl
 refine⟨p,l,t,true,m,Y,N,_,v,n,rfl,W.same d,ν.of r,by lia,λ_ b a c B i f e=>?_,λz=>(by rw[U]at z;cases z),λ_ z i f=>M z i (d.trans f),λ_ b a c i f=>?_⟩
 .rw[q b a,ce]at c e;exact k b a c B i (d.trans f) e
 .rw[q b a,ce]at c;exact C b a c i (d.trans f)
def AY(T:Txt K I):Sp:=λg H Q _=>W9 λ(o d b t:Addr)(m:Int)(e:hD)(f:hR)(a:List (List Int×List Int))(s:List Int×List Int)(v n:Int)=>g=[.ref o,.int v,.int n]/\ς T.Web T.Desk H o d b m t e f (a++[s])/\a.length<=500/\(s.1.length:Int)=m/\(0<=v/\v<m)/\0<=n/\∀c,ς T.Web T.Desk c o d b m t e f (a++[s]++[(s.1.set v.toNat (s.1.getD v.toNat 0+n),s.2)])->Ϸ b H c->Q .ο c
abbrev sL:Stmt:=mF (top 110) 1
def Ix:ζ ["self","place","many","heap"] ["self","place","many"] (aK sL):=.of
def CC:ϓ (aK sL) "zip":=.of
def IP(T:Txt K I)(j:bQ (τ P w))(Z:AG P w base T)(W:sv P w base T)(U:vQ P w base T)(HW:Cb P w K I base "pile" Ig ["web","place","many"] 4 (Ju T)):Wf P w K I base "put" "Desk.put" sL ["self","place","many"] 5 (AY T):=λ_ _ F=>by
 refine F.ϊ Ix λξ A ad s H vs Q E R h=>?_;obtain⟨o,D,pl,t,m,S,J,B,s,v,n,rfl,O,sl,xl,vr,n0,k⟩:=h;obtain⟨dx,ob⟩:=O.ob;have Β:=O.web.go.Β;refine⟨_,(ax (Γ 3 (Ν HW R j (ag (dG (γ 0) rfl) (ag (γ 1) (ag (γ 2) aq))))) (aJ (cV (sW (γ 0) T.η Z.M Z.G (R.mono (by decide)) Z.b .nil (gJ j) (ag (ϰ iI T.tuple (ag (iE rfl (mi (Nc:=["has","more"]) 2 (by decide +kernel) (by decide +kernel) rfl (by decide +kernel) rfl) (MN false false CC.g T.zip (ag (iM (γ 0) T.η W.M W.G (R.mono (by decide)) W.b .nil (gJ j)) (ag (γ 3) aq))) (λ_ _ _ _=>(D1 K rfl (n:=2) rfl (ci (fF (i:=0) (show(["has","more"]:hG).Nodup from by decide +kernel) rfl (Or.inl rfl)) (ci (fF (i:=1) (show(["has","more"]:hG).Nodup from by decide +kernel) rfl (Or.inl rfl)) g6)))) (λ_ _ _ _=>ik) (λ_ _ _ _=>(bg gm (pv 0) (pv 1)))) aq)) (ag (iM (γ 0) T.η U.M U.G (R.mono (by decide)) U.b .nil (gJ j)) aq)))))),?_⟩;walk_at "t";refine⟨T.Desk,dx,_,ob,T.η,T.υ,_,yU _ _,?_⟩;refine⟨D,t,m,S,J,v,n,rfl,O.web,λ_ _ _ l1 H1 s1 e1=>?_,λz=>absurd vr z,λ_ _ z=>by lia⟩;have l:=O.same s1;obtain⟨av,Vp⟩:=l.ob;refine l.Ϟ ?_;refine l.Ϟ ⟨o,D,pl,t,m,S,J,B,s,rfl,l,λla r=>?_⟩;have a2:((List.replicate m.toNat (0:Int)).set v.toNat n).length=m.toNat:=by rw[bz,cf]
 refine⟨la,l1,⟨rfl,rfl⟩,⟨_,Δ.of r⟩,⟨_,Δ.of e1⟩,λp hp=>?_⟩;refine Ht (K:=K) (c:=false) (d:=false) (xs:=s.1.map V.int) (zs:=((List.replicate m.toNat (0:Int)).set v.toNat n).map V.int) (λi u L a=>δ H1 a/\a p=some (.lst u)/\u=(((s.1.zip ((List.replicate m.toNat (0:Int)).set v.toNat n)).take i).map λq=>q.1+q.2).map V.int/\∃v w,L=[v,w]) ⟨δ.new _ hp,az,rfl,_,_,rfl⟩ (λi u L a z=>⟨Δ.of (z.1 _ _ r),Δ.of (z.1 _ _ e1)⟩) ?_ ?_
 .rintro i x z u L a q N hN hx hz' ⟨s2,e2,rfl,v',w,rfl⟩ j;rw[aP]at hx hz';obtain⟨x,gx,rfl⟩:=b9.mp hx;obtain⟨z,gz,rfl⟩:=b9.mp hz';have f:=δ.new (.tup [V.int x,V.int z]) j;have a8:=(aD.mp gx).1;walk_at "";refine⟨_,Δ.of az,rfl,_,_,rfl,_,_,rfl,rfl,?_⟩;walk_at "";refine⟨f _ _ e2,eg (by simp;lia),hN _ _ _ ⟨(s2.trans f).put hp _,az,?_,_,_,rfl⟩⟩;have X:(s.1.zip ((List.replicate m.toNat (0:Int)).set v.toNat n))[i]?=some (x,z):=by rw[kP];exact⟨gx,gz⟩
  rw[bj,X,au,au]
  rfl
 .rintro u L a ⟨s2,e2,rfl,v',w,rfl⟩;have e:(((s.1.zip ((List.replicate m.toNat (0:Int)).set v.toNat n)).take (min (s.1.map V.int).length (((List.replicate m.toNat (0:Int)).set v.toNat n).map V.int).length)).map λq=>q.1+q.2)=s.1.set v.toNat (s.1.getD v.toNat 0+n):=by
   rw[cH (by rw[List.length_zip,aa,aa];exact aU _),<-OX xl vr.1 vr.2];unfold oP;rw[List.zip,List.map_zipWith]
  rw[e]at e2;refine⟨p,rfl,_,.inl ⟨ν.of e2,λC n3=>?_⟩⟩;have f:=s2.trans (δ.new (.tup ((s.1.set v.toNat (s.1.getD v.toNat 0+n)).map V.int)) n3);have e3:upd a C (.tup ((s.1.set v.toNat (s.1.getD v.toNat 0+n)).map V.int)) C=some (.tup ((s.1.set v.toNat (s.1.getD v.toNat 0+n)).map V.int)):=az;generalize upd a C (.tup ((s.1.set v.toNat (s.1.getD v.toNat 0+n)).map V.int))=H3 at f e3 ⊢;have O3:=l.same f;refine O3.Ϟ ⟨o,D,pl,t,m,S,J,B,s,rfl,O3,λlb Y=>?_⟩;refine⟨o,D,pl,t,C,lb,m,S,J,_,(_,_),rfl,O3,e3,Y,by rw[ay];simp;lia,λH4 O4 k4=>k H4 O4 ?_⟩;exact λc y h n=>k4 c y (f _ _ (s1 _ _ h)) n
def zx(T:Txt K I):Sp:=λ_ _ _ _=>False
abbrev vH:Stmt:=mF (top 110) 3
def Hl:ζ ["self","a","b","times"] ["self","a","b","times"] (aK vH):=.of
def GF(T:Txt K I)(a:bQ (τ P w)):Wf P w K I base "step" "Desk.step" vH ["self","a","b","times"] 1 (zx T):=λ_ _ F=>F.ϊ Hl (λ_ _ _ _ _ _ _ _ _ h=>h.elim) (λ_ _ _ _ h=>h.elim)
def CI(T:Txt K I):Sp:=λe H Q E=>E8 λ(p a t:Addr)(c:Bool)(m:Int)(f:hD)(g:hR)(d:ej)=>e=[.ref p,.ref a]/\μ T.Web H p m t f g/\ϐ K c H a (d.map V.int)/\d.length<=1000/\(bI m d=true->∀l b,δ H b->(b l=some (.tup (d.map V.int))\/(c=false/\l=a))->Δ K b l (d.map V.int)->Q (.ref l) b)/\(bI m d=false->∀b,δ H b->E (.ref T.BadWish) none b)
abbrev uI:Stmt:=top 44
def KJ:ζ ["web","numbers"] ["web","numbers"] (aK uI):=.of
def rT:ϓ (aK uI) "BadWish":=.of
def Kd(T:Txt K I)(B:bQ (τ P w))(q:A2 P w base T):Ok P w K I base "wish_of" uI ["web","numbers"] 2 (CI T):=λ_ _ D=>by
 refine D.F.Ϻ KJ λy A j s H C Q E v h=>?_;obtain⟨p,a,t,c,m,x,u,i,rfl,W,f,r,k,e⟩:=h;refine⟨_,(ax (cg (nF (mW (Κ q v bT (ag (γ 0) (ag (γ 1) aq))))) (aJ (rB T.Uw rfl sY rT.g T.BV (ag bE aq) (hdb:=rT.d))) bR) (aJ (bn (ϰ iI T.tuple (ag (γ 1) aq))))),?_⟩;walk_at "t";refine⟨p,a,t,c,m,x,u,i,rfl,W,f,r,λn b=>⟨_,rfl,?_⟩⟩;by_cases z:bI m i=false
 .rw[aj z];exact⟨by decide,e z n b⟩
 .rw[ah z];have o:bI m i=true:=by simpa using z
  cases c
  .exact⟨_,.inr ⟨δ.ϭ (c:=false) b f,k o a n b (.inr ⟨rfl,rfl⟩) (δ.ϭ (c:=false) b f)⟩⟩
  .exact⟨_,.inl ⟨δ.ϭ (c:=true) b f,λl nl=>k o l _ (b.trans (δ.new _ nl)) (.inl az) (Δ.of az)⟩⟩
abbrev uE(P w base)(T:Txt K I):=Cb P w K I base "wish_of" uI ["web","numbers"] 2 (CI T)
def zF(T:Txt K I):Sp:=λg H Q _=>W9 λ(o d b t:Addr)(m:Int)(e:hD)(f:hR)(a:List (List Int×List Int))(s:List Int×List Int)(v n:Int)=>g=[.ref o,.int v,.int n]/\ς T.Web T.Desk H o d b m t e f (a++[s])/\a.length<=500/\(s.2.length:Int)=m/\(∀y∈s.2,0<=y)/\(0<=v/\v<m)/\0<=n/\∀c,ς T.Web T.Desk c o d b m t e f (a++[s]++[(s.1,s.2.set v.toNat n)])->Ϸ b H c->Q .ο c
abbrev vq:Stmt:=mF (top 110) 2
def Gw:ζ ["self","place","many","wanted"] ["self","place","many"] (aK vq):=.of
def GC(T:Txt K I)(d:bQ (τ P w))(D:AG P w base T)(r:sv P w base T)(p:vQ P w base T)(dF:lH P w base T)(U:uE P w base T):Wf P w K I base "want" "Desk.want" vq ["self","place","many"] 3 (zF T):=λ_ _ F=>by
 refine F.ϊ Gw λξ A L s H vs Q E i h=>?_;obtain⟨o,e,C,t,m,j,f,g,s,v,n,rfl,O,sl,xl,x0,S,n0,k⟩:=h;obtain⟨dx,ob⟩:=O.ob;have Β:=O.web.go.Β;refine⟨_,(ax (cV (Ν dF i d (ag (dG (γ 0) rfl) (ag (γ 1) aq)))) (ax (Γ 3 (ϰ oX T.list (ag (iM (γ 0) T.η p.M p.G (i.mono (by decide)) p.b .nil (gJ d)) aq))) (ax (j7 (γ 2) (nO (γ 3) (γ 1) hW)) (aJ (cV (sW (γ 0) T.η D.M D.G (i.mono (by decide)) D.b .nil (gJ d) (ag (iM (γ 0) T.η r.M r.G (i.mono (by decide)) r.b .nil (gJ d)) (ag (Ν U i d (ag (dG (γ 0) rfl) (ag (γ 3) aq))) aq)))))))),?_⟩;walk_at "t";refine⟨T.Desk,dx,_,ob,T.η,T.υ,_,yU _ _,?_⟩;refine⟨e,t,m,j,f,v,rfl,O.web,λ_ _=>?_,λz=>absurd S z⟩;refine O.Ϟ ⟨o,e,C,t,m,j,f,g,s,rfl,O,λlb B=>⟨lb,rfl,_,.inr (Δ.of B),λl nl=>?_⟩⟩;refine pJ az S.1 (by rw[aa];lia) ?_;rw[<-dh,nS];have x:=δ.new (.lst ((s.2.set v.toNat n).map V.int)) nl;have R:upd H l (.lst ((s.2.set v.toNat n).map V.int)) l=some (.lst ((s.2.set v.toNat n).map V.int)):=az;generalize upd H l (.lst ((s.2.set v.toNat n).map V.int))=H1 at x R ⊢;have a:=O.same x;have Z:bI m (s.2.set v.toNat n)=true:=rS (by rw[bz];exact xl) λy hy=>by
  rcases iL hy with q|q
  .exact x0 y q
  .lia
 refine a.Ϟ ?_;refine a.Ϟ ⟨o,e,C,t,m,j,f,g,s,rfl,a,λW u=>?_⟩;refine a.WN T.η T.υ ?_;refine⟨e,l,t,true,m,j,f,_,rfl,a.web,ν.of R,by rw[bz];lia,λ_ l2 H2 N J _=>?_,λz=>by rw[Z]at z;cases z⟩;have J:=J.resolve_right λz=>by cases z.1
 have O2:=a.same N;refine⟨o,e,C,t,W,l2,m,j,f,_,(s.1,s.2.set v.toNat n),rfl,O2,N _ _ u,J,by rw[ay];simp;lia,λH4 X Y=>k H4 X ?_⟩;exact λc y h n=>Y c y (N _ _ (x _ _ h)) n
def C9(T:Txt K I):Sp:=λj H Q _=>E13 λ(o f b t d:Addr)(m:Int)(g:hD)(h:hR)(a:List (List Int×List Int))(s:List Int×List Int)(w:Str)(i:List Nat)(e:List Int×List Int)=>j=[.ref o,.str w,.ref d]/\ς T.Web T.Desk H o f b m t g h (a++[s])/\a.length<=500/\bI m s.1=true/\bI m s.2=true/\H d=some (.lst (VD i))/\XZ m s w i e/\∀c,ς T.Web T.Desk c o f b m t g h (a++[s]++[e])->Ϸ b H c->Q .ο c
abbrev yL:Stmt:=top 112
def K0:ζ ["desk","word","numbers"] ["desk","word","numbers"] (aK yL):=.of
def Kt(T:Txt K I)(c:bQ (τ P w))(i:Cm P w K I base (Meth K T.Desk "back") "back" "Desk.back" vG ["self"] 1 (yP T))(l:Cm P w K I base (Meth K T.Desk "put") "put" "Desk.put" sL ["self","place","many"] 5 (AY T))(f:Cm P w K I base (Meth K T.Desk "step") "step" "Desk.step" vH ["self","a","b","times"] 1 (zx T))(g:Cm P w K I base (Meth K T.Desk "want") "want" "Desk.want" vq ["self","place","many"] 3 (zF T)):Ok P w K I base "do_deed" yL ["desk","word","numbers"] 7 (C9 T):=λ_ _ D=>by
 refine D.F.ϊ K0 λC A j s H L Q E e h=>?_;obtain⟨o,u,q,t,J,m,y,x,a,s,w,N,S,rfl,O,p,B,z,d,r,k⟩:=h;refine⟨_,(aJ (cg (Υ dJ (γ 1) bE) (aJ (cV (sW (γ 0) T.η l.M l.G (e.mono (by decide)) l.b .nil (gJ c) (ag (ω bC (γ 2) aM) (ag (ω bC (γ 2) aM) aq))))) (aJ (cg (Υ dJ (γ 1) bE) (aJ (cV (sW (γ 0) T.η g.M g.G (e.mono (by decide)) g.b .nil (gJ c) (ag (ω bC (γ 2) aM) (ag (ω bC (γ 2) aM) aq))))) (aJ (cg (Υ dJ (γ 1) bE) (aJ (cV (sW (γ 0) T.η f.M f.G (e.mono (by decide)) f.b .nil (gJ c) (ag (ω bC (γ 2) aM) (ag (ω bC (γ 2) aM) (ag (ω bC (γ 2) aM) aq)))))) (aJ (cV (iM (γ 0) T.η i.M i.G (e.mono (by decide)) i.b .nil (gJ c)))))))))),?_⟩;walk_at "t"
 induction r with
 | @put v n h=>exact TF rfl (O.Ϟ (Θ d rfl (Θ d rfl ⟨o,u,q,t,m,y,x,a,s,v,n,rfl,O,p,jc B,⟨by lia,h⟩,by lia,k⟩)))
 | @want v n h=>exact gT (UI (by decide)) (TF rfl (O.Ϟ (Θ d rfl (Θ d rfl ⟨o,u,q,t,m,y,x,a,s,v,n,rfl,O,p,jc z,ES z,⟨by lia,h⟩,by lia,k⟩))))
def yN(T:Txt K I):Sp:=λb H Q _=>∃n:Nat,b=[.str (FS n)]/\n<10^60/\∀a,δ H a->Q (.bl true) a
abbrev rL:Stmt:=top 91
def Go:ζ ["word"] ["word"] (aK rL):=.of
def oq:ϓ (aK rL) "MOST_FIGURES":=.of
def Gs(T:Txt K I)(G:bQ (τ P w)):Ok P w K I base "is_number" rL ["word"] 1 (yN T):=λ_ _ D=>by
 refine D.F.ϊ Go λC A m s H O Q E R h=>?_;obtain⟨n,rfl,nb,k⟩:=h;refine⟨_,(ax (cg (PW.pt (uM (nF (xQ sK sK aM (lE Ga T.len (ag (γ 0) aq)) (nD oq.g T.Uc (hd:=oq.d)))) (wm (nF (mW (lE (GD rfl) T.all (ag (iE rfl (mi (Nc:=["sign"]) 1 (by decide +kernel) (by decide +kernel) rfl (by decide +kernel) rfl) (Sc (γ 0)) (λ_ _ _ _=>(fF (i:=0) (show(["sign"]:hG).Nodup from by decide +kernel) rfl (Or.inl rfl))) (λ_ _ _ _=>ik) (λ_ _ _ _=>(jB MJ (pv 0) (Nm (by rfl) T.V1) (by with_unfolding_all rfl)))) aq))))))) (aJ (bn qI)) bR) (aJ (bn (S8 (jB dJ (γ 0) bE (i9 _)) (wO (jB p9 (ω RY (γ 0) aM) bE (i9 _))))))),?_⟩;walk_at "s";refine b6 λJ B=>?_;walk_at "";have a:(fL n).length<=60:=mf 59 n nb;have L:1<=(fL n).length:=by
  have:=wj n;cases hh:fL n with
  | nil=>exact absurd hh this
  | cons _ _=>simp
 have t:(FS n).length=(fL n).length:=by rw[dI];rfl
 refine⟨FS n,rfl,by rw[t];exact aV a (by decide),?_⟩;rw[t,aj (by lia),ah (by lia)];refine⟨FS n,rfl,Ke n,λp u=>?_⟩;refine O8 (λi f q j=>δ H j/\j p=some (.lst f)/\f=List.replicate i (V.bl true)/\∃v,q=[v]) ⟨δ.new _ u,az,rfl,_,rfl⟩ ?_ ?_
 .rintro i c f q j N hN hi ⟨s2,h2,rfl,v,rfl⟩;have hd:=lZ n c (aQ hi);have M:i<(fL n).length:=(aD.mp hi).1;walk_at "";refine⟨_,rfl,_,rfl,h2,eg (by rw[cf];lia),?_⟩;rw[Ta hd];refine hN _ _ _ ⟨?_,az,?_,_,rfl⟩
  .exact λb o e=>by rw[aW (dX e u)];exact s2 _ _ e
  .rw[jT]
 .rintro f q j ⟨s2,h2,rfl,v,rfl⟩;refine⟨p,rfl,List.replicate _ true,by rw[gW];exact ν.of h2,?_⟩;rw[ah (by simp)];refine B _ _ ?_;walk_at "";by_cases l:V.str (FS n)=V.str (Str.ofString "0")
  .rw[aj l];exact k _ s2
  .rw[ah l];obtain⟨c,r,x,y⟩:=Ex n (Mr l);refine ixS (i:=0) a (by rw[rq,x];rfl) ⟨rfl,?_⟩;rw[show decide (V.str ⟨#[c]⟩=V.str (Str.ofString "0"))=false from b4 λz=>y (by injection z with z;exact(fC (show[c]=[48]from congrArg (λs:Str=>s.cps.toList) z)).1)];exact k _ s2
def wS(T:Txt K I):Sp:=λb H Q _=>∃(n:Nat)(i:Int),b=[.str (FS n),.int i]/\n<10^60/\∀a,δ H a->Q (.int n) a
abbrev sC:Stmt:=top 90
def DS:ζ ["word","at"] ["word","at"] (aK sC):=.of
def DJ(T:Txt K I)(b:bQ (τ P w))(d:Cb P w K I base "is_number" rL ["word"] 1 (yN T)):Ok P w K I base "read_number" sC ["word","at"] 2 (wS T):=λ_ _ D=>by
 refine D.F.ϊ DS λg A a s H m Q E e h=>?_;obtain⟨n,i,rfl,nb,k⟩:=h;refine⟨_,(ax (cg (nF (mW (Ν d e b (ag (γ 0) aq)))) (aJ j0) bR) (aJ (bn (ϰ lL T.int (ag (γ 0) aq))))),?_⟩;walk_at "t";have c:(fL n).length<=60:=mf 59 n nb;have l:(FS n).length=(fL n).length:=by rw[dI];rfl
 refine⟨n,rfl,nb,λj f=>⟨true,rfl,?_⟩⟩;rw[ah (by simp)];exact⟨FS n,rfl,n,qj n nb,by lia,k _ f⟩
def xZ(T:Txt K I):Sp:=λc H Q _=>E3 λ(l:Addr)(a:List Nat)(i:Int)=>c=[.ref l,.int a.length,.int i]/\H l=some (.lst ((a.map FS).map V.str))/\a.length<=100/\(∀n∈a,n<10^60)/\∀p b,H p=none->δ H b->b p=some (.lst (VD a))->Q (.ref p) b
abbrev tQ:Stmt:=top 89
def Fz:ζ ["words","many","at"] ["words","many","at"] (aK tQ):=.of
def Fp(T:Txt K I)(L:bQ (τ P w))(q:Cb P w K I base "read_number" sC ["word","at"] 2 (wS T)):Ok P w K I base "read_words" tQ ["words","many","at"] 3 (xZ T):=λ_ _ D=>by
 refine D.F.ϊ Fz λS A u s H X Q E R h=>?_;obtain⟨l,d,g,rfl,t,W,nb,k⟩:=h;refine⟨_,(ax (cg (Υ p9 (lE fq T.len (ag (γ 0) aq)) (γ 1)) (aJ j0) bR) (aJ (bn (iE rfl (We ["word","at"] 1 [2]) (gC (γ 0)) (λ_ _ _ _=>(fF (i:=0) (show(["word","at"]:hG).Nodup from by decide +kernel) rfl (Or.inl rfl))) (λ_ _ _ _=>ik) (λ_ _ _ _=>(iU q.G (R.mono (by decide)) (by rfl) q.D.m q.D.F.kp q.D.b .nil (gJ L) (ag (pv 0) (ag (pv 1) aq)))))))),?_⟩;walk_at "t";have C:((d.map FS).map V.str).length=d.length:=by rw[aa,aa]
 refine⟨_,.inl (ν.of t),?_⟩;rw[ah (by rw[C];exact λz=>z rfl)];refine⟨⟨_,ν.of t⟩,λp y=>?_⟩;refine oQ (K:=K) (c:=true) (a:=l) (xs:=(d.map FS).map V.str) (λi f r j=>δ H j/\j p=some (.lst f)/\f=VD (d.take i)/\∃v,r=[v,some (V.int g)]) ⟨δ.new _ y,az,by simp[VD],_,rfl⟩ (λi f r j _ ⟨z,_⟩=>ν.of (z _ _ t)) ?_ ?_
 .rintro i x f r j N hN hi ⟨s5,h2,rfl,v,rfl⟩;obtain⟨z,M,rfl⟩:=List.θ hi;obtain⟨n,B,rfl⟩:=List.θ M;have O:d.take (i+1)=d.take i++[n]:=by rw[bj,B];rfl
  have Y:i<d.length:=(aD.mp B).1;walk_at "";refine⟨n,g,rfl,nb n (aQ B),λU J=>⟨J _ _ h2,eg (by unfold VD;rw[aa,bA];lia),hN _ _ _ ⟨?_,az,?_,_,rfl⟩⟩⟩
  .exact λb o e=>by rw[aW (dX e y)];exact J _ _ (s5 _ _ e)
  .rw[O];unfold VD;rw[au];rfl
 .rintro f r j ⟨s5,h2,rfl,v,rfl⟩;rw[C,bx]at h2;exact k p _ y s5 h2
abbrev y4(P w base)(T:Txt K I):=Cb P w K I base "read_words" tQ ["words","many","at"] 3 (xZ T)
def x6(T:Txt K I):Sp:=λd H Q E=>E6 λ(p t:Addr)(m:Int)(e:hD)(c:hR)(a:Int)=>d=[.ref p,.int a]/\μ T.Web H p m t e c/\(∀l b,0<=a->a<m->H l=none->δ H b->b l=some (.lst ((ki m c a).map V.int))->Q (.ref l) b)/\(¬(0<=a/\a<m)->E (.ref T.NoPlace) none H)
abbrev tE:Stmt:=top 17
def Fx:ζ ["web","a"] ["web","a"] (aK tE):=.of
def Fy(T:Txt K I)(C:bQ (τ P w))(r:lH P w base T)(v:yK P w base T):Ok P w K I base "neighbours" tE ["web","a"] 3 (x6 T):=λ_ _ D=>by
 refine D.F.Ϻ Fx λB A c s H M Q E l h=>?_;obtain⟨p,t,m,n,b,a,rfl,W,k,e⟩:=h;obtain⟨u,ob⟩:=W.ob;refine⟨_,(ax (cV (Κ r l bT (ag (γ 0) (ag (γ 1) aq)))) (aJ (bn (lE IJ T.sorted (ag (Κ v l bT (ag (dG (γ 0) rfl) (ag (γ 1) aq))) aq))))),?_⟩;walk_at "t";refine⟨p,t,m,n,b,a,rfl,W,λj f=>?_,e⟩;have i:(b.length:Int)=m-1:=W.go.len;have Β:=W.go.Β;refine⟨T.Web,u,_,ob,T.Ι,T.TX,_,vE m t,t,n,b,a,rfl,Δ.of W.tu,W.ro,by lia,λy J L g x=>?_⟩;refine⟨y,rfl,gK b a,ν.of x,by have:=GH b a;lia,λq G d z o=>?_⟩;rw[Qo W.go j f z o];exact k q _ j f (g.free d) (g.trans (δ.new _ d)) az
def JS(T:Txt K I):Sp:=λe H Q _=>E7 λ(p t:Addr)(m:Int)(f:hD)(d:hR)(a:Int)(b:V)=>e=[.ref p,.int a,b]/\μ T.Web H p m t f d/\0<=a/\a<m/\(b=.ο\/∃i,b=.int i)/\∀l c,H l=none->δ H c->c l=some (.lst ((bU m d b a).map V.int))->Q (.ref l) c
abbrev G3:Stmt:=top 34
def Qi:ζ ["web","place","front"] ["web","place","front"] (aK G3):=.of
def Qc(T:Txt K I)(J:bQ (τ P w))(C:Cb P w K I base "neighbours" tE ["web","a"] 3 (x6 T)):Ok P w K I base "kids" G3 ["web","place","front"] 4 (JS T):=λ_ _ D=>by
 refine D.F.ϊ Qi λξ A r s H vs Q E X h=>?_;obtain⟨p,t,m,Y,d,a,e,rfl,W,O,L,M,k⟩:=h;have Β:=W.go.Β;refine⟨_,(aJ (bn (iE rfl (We ["near","front"] 1 [2]) (gC (Ν C X J (ag (γ 0) (ag (γ 1) aq)))) (λ_ _ _ _=>(fF (i:=0) (show(["near","front"]:hG).Nodup from by decide +kernel) rfl (Or.inl rfl))) (λ_ _ _ _=>(Ee (Υ p9 (pv 0) (pv 1)))) (λ_ _ _ _=>(pv 0))))),?_⟩;walk_at "t";have nl:(ki m d a).length<=24:=by
  have:=bW (λq=>decide (q∈gK d a)) (cj m.toNat);rw[cu]at this;unfold ki
  lia
 refine⟨p,t,m,Y,d,a,rfl,W,λx R _ _ n1 B u=>⟨x,rfl,⟨_,ν.of u⟩,λo n=>?_⟩,λz=>absurd ⟨O,L⟩ z⟩;have S:H o=none:=B.free n;refine oQ (c:=true) (K:=K) (a:=x) (xs:=(ki m d a).map V.int) (λj g l f=>δ R f/\f o=some (.lst g)/\g=(((ki m d a).take j).filter λv=>decide (V.int v≠e)).map V.int/\∃v,l=[v,some e]) ⟨δ.new _ n,az,rfl,_,rfl⟩ (λj g l f _ z=>ν.of (z.1 _ _ u)) ?_ ?_
 .rintro j xj g l f N hN hj ⟨s2,h2,rfl,v,rfl⟩;rw[aP]at hj;obtain⟨b,Z,rfl⟩:=b9.mp hj;have y:(ki m d a).take (j+1)=(ki m d a).take j++[b]:=by rw[bj,Z];rfl
  have ll:(((ki m d a).take j).filter λv=>decide (V.int v≠e)).length<=24:=by
   have U:=bW (λv=>decide (V.int v≠e)) ((ki m d a).take j);rw[bA]at U
   lia
  walk_at "";have G:sB (V.int b) e=true:=by
   rcases M with rfl|⟨i,rfl⟩<;>rfl
  refine⟨G,?_⟩;by_cases c:V.int b=e
  .rw[ah (λz=>z c)];refine hN _ _ _ ⟨s2,h2,?_,_,rfl⟩;rw[y,b7];simp[c]
  .rw[aj c];refine⟨h2,eg (by rw[aa];lia),hN _ _ _ ⟨s2.put n _,az,?_,_,rfl⟩⟩;rw[y,b7];simp[c]
 .rintro g l f ⟨s2,h2,rfl,v,rfl⟩;rw[aa,bx]at h2;exact k o f S (B.trans s2) h2
abbrev Ho(P w base)(T:Txt K I):=Cb P w K I base "kids" G3 ["web","place","front"] 4 (JS T)
def FW(T:Txt K I):Sp:=λe H Q E=>E6 λ(p t:Addr)(m:Int)(f:hD)(d:hR)(r:Int)=>e=[.ref p,.int r]/\μ T.Web H p m t f d/\(0<=r->r<m->∃a b,ε m d r a b/\∀l c,H l=none->δ H c->c l=some (.lst (qF m r a))->Q (.ref l) c)/\(¬(0<=r/\r<m)->E (.ref T.NoPlace) none H)
abbrev Ed:Stmt:=top 32
def Ou:ζ ["web","r","nearer","waiting","place","front","kid"] ["web","r"] (aK Ed):=.of
def OP(T:Txt K I)(hq:bQ (τ P w))(dF:lH P w base T)(nM:Ho P w base T):Ok P w K I base "ahead" Ed ["web","r"] 5 (FW T):=λ_ _ D=>by
 refine D.F.Ϻ Ou λξ A aH s H vs Q E hr h=>?_;obtain⟨p,t,m,ps,N,r,rfl,W,k,e⟩:=h;obtain⟨dx,ob⟩:=W.ob;have g:=W.go;have Β:=g.Β;refine⟨_,(ax (cV (Κ dF hr bT (ag (γ 0) (ag (γ 1) aq)))) (ax (Γ 2 (bg pN (ee (ag tY aq)) (dG (γ 0) rfl))) (ax (Γ 3 (ee (ag (γ 1) aq))) (ax (xE PassesOwn.leaving (BG (γ 3) (λ_=>rfl)) (ax (Γ 4 (Gj eP PySem.F.slot_list_pop PySem.F.type_list_pop Gb (γ 3))) (ax (Γ 5 (ω bC (γ 2) (γ 4))) (aJ (fh PassesOwn.leaving rfl (gC (Κ nM hr bT (ag (γ 0) (ag (γ 4) (ag (γ 5) aq))))) (ϑ 6) (ax (j7 (γ 4) (nO (γ 2) (γ 6) hW)) (aJ (cV (Uj (γ 3) (γ 6)))))))))) (aJ (bn (γ 2))))))),?_⟩;walk_at "s";refine b6 λN1 g1=>?_;walk_at "";refine⟨p,t,m,ps,N,r,rfl,W,λr0 r1=>g1 _ _ (b6 λN2 g2=>?_),e⟩;clear g1;obtain⟨par,ck,R,k⟩:=k r0 r1;walk_at "";refine⟨by decide,λl1 n1=>?_⟩;have s1:=δ.new (.lst [V.ο]) n1;refine⟨T.Web,dx,_,s1 _ _ ob,T.Ι,T.Ψ,_,rfl,?_⟩;refine⟨l1,m,[V.ο],rfl,rfl,az,by lia,by lia,bL (by simp;lia),λb n2=>?_⟩;have Zr:H b=none:=s1.free n2;rw[ug,<-RZ (par:=par)];refine g2 _ _ (b6 λN3 g3=>?_);clear g2;have s2:=s1.trans (δ.new (.lst (nl m par [])) n2);walk_at "";refine⟨bL (by simp),λa n3=>g3 _ _ (b6 λN4 g4=>?_)⟩;clear g3;have Y5:H a=none:=s2.free n3;have l:a≠b:=λz=>by rw[z,az]at n3;cases n3
 have s3:=s2.trans (δ.new (.lst [V.int r]) n3);have X:upd (upd (upd H l1 (.lst [V.ο])) b (.lst (nl m par []))) a (.lst [V.int r]) b=some (.lst (nl m par [])):=by rw[aW l.symm,az]
 have S:upd (upd (upd H l1 (.lst [V.ο])) b (.lst (nl m par []))) a (.lst [V.int r]) a=some (.lst [V.int r]):=az;generalize upd (upd (upd H l1 (.lst [V.ο])) b (.lst (nl m par []))) a (.lst [V.int r])=H3 at s3 X S ⊢;walk_at "";refine D0 (λn C f=>E5 λ(B U:ej)(v4 v5 G:Option V)=>n=2*(m.toNat-B.length)+U.length/\C=[some (.ref p),some (.int r),some (.ref b),some (.ref a),v4,v5,G]/\δ H f/\f b=some (.lst (nl m par B))/\f a=some (.lst (U.map V.int))/\Ϧ m N r par B U) (2*m.toNat+1) ⟨[],[r],_,_,_,rfl,rfl,s3,X,S,Ϧ.start⟩ ?_;rintro n C f NW BB Λ hN V9 ⟨B,U,v4,v5,G,rfl,rfl,s4,h2,Y,J⟩;refine Λ _ _ _ ?_;have kl:=iz (by lia) J.nd J.Μ;walk_at "";refine⟨_,.inl ⟨_,ν.of Y,rfl⟩,?_⟩;rcases jO U with rfl|⟨ws',q,rfl⟩
 .refine gT (by simp) (g4 _ _ ?_);walk_at "";rw[J.done R]at h2;exact k b f Zr s4 h2
 .rw[jQ]at J Y hN V9 ⊢;refine TF (by simp) ?_;have hq:q∈ws'++[q]:=bo _ (aG.mpr rfl);have u:=J.at_ r0 r1 hq;have L:=J.step g R r0 r1 (p:=q) (ws':=ws') (kE q ws');refine⟨NW,λcl H' z=>?_,?_⟩
  .obtain⟨m',lt,ks',WO,a4,a5,a6,e1,X,S⟩:=V9 _ _ z
   first|exact⟨m',lt,ks',WO,a4,a5,a6,e1,X,S⟩|exact⟨m',lt,ks',WO,e1,a4,a5,a6,X,S⟩
  rw[au,aF,dB]at Y;refine⟨Rw Y,Pg Y ?_⟩;have s5:δ H (upd f a (.lst (ws'.map V.int))):=s4.put Y5 _;have j:upd f a (.lst (ws'.map V.int)) b=some (.lst (nl m par B)):=by rw[aW l.symm];exact h2
  have y:upd f a (.lst (ws'.map V.int)) a=some (.lst (ws'.map V.int)):=az;generalize upd f a (.lst (ws'.map V.int))=H5 at s5 j y ⊢;refine Θ j (iQ u.1 (MT u.1 u.2)) ?_;rw[J.front hq];have aS:Pb.front r par q=.ο\/∃i,Pb.front r par q=.int i:=by
   unfold Pb.front;by_cases c:q=r
   .rw[aj c];exact .inl rfl
   .rw[ah c];exact .inr ⟨_,rfl⟩
  have mk:∀v,v∈bU m N (Pb.front r par q) q->(0<=v/\v<m)/\v≠r/\par v=q:=λv=>(cR g R u.1 u.2).mp;refine⟨p,t,m,ps,N,q,_,rfl,W.same s5,u.1,u.2,aS,λM H6 Z s6 e6=>⟨M,rfl,⟨_,ν.of e6⟩,?_⟩⟩;generalize bU m N (Pb.front r par q) q=d at mk e6 L ⊢;have cr:H M=none:=s5.free Z;have av:M≠b:=λz=>by rw[z,j]at Z;cases Z
  have ap:M≠a:=λz=>by rw[z,y]at Z;cases Z
  have a1:=iz (by lia) L.nd L.Μ;rw[ay]at a1;have ak:=iz (by lia) L.Zm λw hw=>L.at_ r0 r1 hw;rw[ay]at ak;refine hZ (K:=K) (xs:=d.map V.int) (λi C o=>∃G,C=[some (.ref p),some (.int r),some (.ref b),some (.ref a),some (.int q),some (Pb.front r par q),G]/\δ H o/\o M=some (.lst (d.map V.int))/\o b=some (.lst (nl m par (B++d.take i)))/\o a=some (.lst ((ws'++d.take i).map V.int))) ⟨_,rfl,s5.trans s6,e6,by rw[eO,bX];exact s6 _ _ j,by rw[eO,bX];exact s6 _ _ y⟩ (λi C o _ z=>by obtain⟨_,_,_,z,_⟩:=z;exact ν.of z) ?_ ?_
  .rintro i x C o NI BB Λ hI hi ⟨G,rfl,s7,e7,h27,X5⟩;refine Λ _ _ ?_;rw[aP]at hi;obtain⟨v,hv,rfl⟩:=b9.mp hi;obtain⟨vr,_,vp⟩:=mk v (aQ hv);have et:d.take (i+1)=d.take i++[v]:=(by rw[bj,hv];rfl);walk_at "";refine⟨b,_,v,v.toNat,rfl,rfl,h27,by unfold Wo;rw[aj vr.1,aj (by rw[uF];lia)],?_⟩;rw[<-vp,SB vr.1 vr.2,vp,bO,<-et];have O:upd o b (.lst (nl m par (B++d.take (i+1)))) a=some (.lst ((ws'++d.take i).map V.int)):=(by rw[aW l];exact X5);have cc:(ws'++d.take i).length<=100:=by
    rw[ay,bA]
    lia
   refine⟨Rw O,mM O (eg (by rw[aa];lia)) (hI _ _ ⟨_,rfl,(s7.put Zr _).put Y5 _,?_,?_,?_⟩)⟩
   .rw[aW ap,aW av];exact e7
   .rw[aW l.symm,az]
   .rw[az,et,<-bO,au (l₁:=ws'++d.take i)];rfl
  .rintro BB C o Λ ⟨G,rfl,s7,e7,h27,X5⟩;refine Λ _ _ ?_;rw[aa,bx]at h27 X5;refine hN _ _ _ ?_ ⟨_,_,_,_,_,rfl,rfl,s7,h27,X5,L⟩;rw[ay,ay,ay];simp only[aR,eL]
   lia
abbrev Dw(P w base)(T:Txt K I):=Cb P w K I base "ahead" Ed ["web","r"] 5 (FW T)
def Hr(T:Txt K I):Sp:=λf H Q _=>E4 λ(a b:Addr)(c e:ej)=>f=[.ref a,.ref b]/\H a=some (.lst (c.map V.int))/\H b=some (.lst (e.map V.int))/\c.length<=1000/\∀l d,H l=none->δ H d->d l=some (.lst ((oP c e).map V.int))->Q (.ref l) d
abbrev zW:Stmt:=top 62
def Oq:ζ ["one","other"] ["one","other"] (aK zW):=.of
def Gd:ϓ (aK zW) "zip":=.of
def PB(T:Txt K I)(B:bQ (τ P w)):Ok P w K I base "added" zW ["one","other"] 1 (Hr T):=λ_ _ D=>by
 refine D.F.ϊ Oq λM A r s H R Q E S h=>?_;obtain⟨a,b,xs,f,rfl,y,G,O,k⟩:=h;refine⟨_,(aJ (bn (iE rfl (mi (Nc:=["left","right"]) 2 (by decide +kernel) (by decide +kernel) rfl (by decide +kernel) rfl) (MN true true Gd.g T.zip (ag (γ 0) (ag (γ 1) aq))) (λ_ _ _ _=>(D1 K rfl (n:=2) rfl (ci (fF (i:=0) (show(["left","right"]:hG).Nodup from by decide +kernel) rfl (Or.inl rfl)) (ci (fF (i:=1) (show(["left","right"]:hG).Nodup from by decide +kernel) rfl (Or.inl rfl)) g6)))) (λ_ _ _ _=>ik) (λ_ _ _ _=>(bg gm (pv 0) (pv 1)))))),?_⟩;walk_at "t";refine⟨a,b,⟨rfl,rfl⟩,⟨_,ν.of y⟩,⟨_,ν.of G⟩,λp t=>?_⟩;refine Ht (K:=K) (c:=true) (d:=true) (xs:=xs.map V.int) (zs:=f.map V.int) (λi l m j=>δ H j/\j p=some (.lst l)/\l=(((xs.zip f).take i).map λq=>q.1+q.2).map V.int/\∃v w,m=[v,w]) ⟨δ.new _ t,az,rfl,_,_,rfl⟩ (λi l m j z=>⟨ν.of (z.1 _ _ y),ν.of (z.1 _ _ G)⟩) ?_ ?_
 .rintro i x z l m j q N hN hx hz' ⟨s2,e2,rfl,v,w,rfl⟩ B;rw[aP]at hx hz';obtain⟨x,C,rfl⟩:=b9.mp hx;obtain⟨z,J,rfl⟩:=b9.mp hz';have u:=δ.new (.tup [V.int x,V.int z]) B;have L:=(aD.mp C).1;walk_at "";refine⟨_,Δ.of az,rfl,_,_,rfl,_,_,rfl,rfl,?_⟩;walk_at "";refine⟨u _ _ e2,eg (by simp;lia),hN _ _ _ ⟨(s2.trans u).put t _,az,?_,_,_,rfl⟩⟩;have o:(xs.zip f)[i]?=some (x,z):=by rw[kP];exact⟨C,J⟩
  rw[bj,o,au,au]
  rfl
 .rintro l m j ⟨s2,e2,rfl,v,w,rfl⟩;have e:(((xs.zip f).take (min (xs.map V.int).length (f.map V.int).length)).map λq=>q.1+q.2)=oP xs f:=by
   rw[cH (by rw[List.length_zip,aa,aa];exact aU _)];unfold oP;rw[List.zip,List.map_zipWith]
  rw[e]at e2;exact k p j t s2 e2
abbrev Ai(P w base)(T:Txt K I):=Cb P w K I base "added" zW ["one","other"] 1 (Hr T)
def pp(p c a b:Addr):List (Str×V):=dz "idle" (.ref b) (dz "kids" (.ref a) (dz "needs" (.ref c) (dz "web" (.ref p) [])))
def uU(p c a b:Addr):(pp p c a b).lookup ("web":Str)=some (.ref p):=by
 unfold pp;rw[d6,ah (by decide +kernel),d6,ah (by decide +kernel),d6,ah (by decide +kernel),d6,aj rfl]
def vU(p a b c:Addr):(pp p a b c).lookup ("needs":Str)=some (.ref a):=by
 unfold pp;rw[d6,ah (by decide +kernel),d6,ah (by decide +kernel),d6,aj rfl]
def CA(p c a b:Addr):(pp p c a b).lookup ("kids":Str)=some (.ref a):=by
 unfold pp;rw[d6,ah (by decide +kernel),d6,aj rfl]
def CS(p c b a:Addr):(pp p c b a).lookup ("idle":Str)=some (.ref a):=by
 unfold pp;rw[d6,aj rfl]
structure ϔ(C O:Addr)(H:Hp)(o p t:Addr)(m:Int)(ps:hD)(rs:hR)(r:Int)(par:eX)(dep:fb)(nd:eX)(na ka ia:Addr)(kl:hD)(bs:List V)(S:Int->Prop):Prop where
 ob:∃dx,H o=some (.ins O dx (pp p na ka ia))
 web:μ C H p m t ps rs
 rt:ε m rs r par dep
 hn:H na=some (.lst (((cj m.toNat).map nd).map V.int))
 hk:H ka=some (.lst (kl.map V.ref))
 kp:Paired (λa v=>H a=some (.lst ((kd m rs r par v).map V.int))) kl (cj m.toNat)
 hi:H ia=some (.lst bs)
 done:∀c,S c->∃a,aT bs c=some (.ref a)/\H a=some (.lst ((ϡ m rs r par dep nd c).map V.int))
 cl:∀u,0<=u->u<m->S u->∀c∈kd m rs r par u,S c
def ϔ.same{C O:Addr}{H i:Hp}{o p t:Addr}{m:Int}{l:hD}{k:hR}{r:Int}{par:eX}{b:fb}{nd:eX}{g j f:Addr}{d:hD}{bs:List V}{S:Int->Prop}(e:δ H i)(h:ϔ C O H o p t m l k r par b nd g j f d bs S):ϔ C O i o p t m l k r par b nd g j f d bs S where
 ob:=let ⟨dx,q⟩:=h.ob;⟨dx,e _ _ q⟩
 web:=h.web.same e
 rt:=h.rt
 hn:=e _ _ h.hn
 hk:=e _ _ h.hk
 kp:=Paired.imp' (λq v x=>e q _ x) h.kp
 hi:=e _ _ h.hi
 done:=λc n=>let ⟨a,h1,h2⟩:=h.done c n;⟨a,h1,e _ _ h2⟩
 cl:=h.cl
def ϔ.kids{C O:Addr}{H:Hp}{o p t:Addr}{m:Int}{s:hD}{f:hR}{r:Int}{b:eX}{c:fb}{j:eX}{l n i:Addr}{d:hD}{q:List V}{S:Int->Prop}(h:ϔ C O H o p t m s f r b c j l n i d q S){v:Int}(e:0<=v)(g:v<m):∃a,aT (d.map V.ref) v=some (.ref a)/\H a=some (.lst ((kd m f r b v).map V.int)):=by
 obtain⟨a,k,u⟩:=MC h.kp (Em e g);exact⟨a,iQ e (by rw[aP,k];rfl),u⟩
def TD{m:Int}{b:hR}(g:Good m b){r:Int}{a:eX}{v:Int}:(kd m b r a v).length<=24:=by
 have d:=bW (λu=>decide (V.int u≠front r a v)) (ki m b v);have c:=bW (λq=>decide (q∈gK b v)) (cj m.toNat);rw[cu]at c;have:=g.Β;show((ki m b v).filter λu=>decide (V.int u≠front r a v)).length<=24;unfold ki at d ⊢
 lia
def yI(T:Txt K I):Sp:=λq H Q _=>E18 λ(o p t:Addr)(m:Int)(s:hD)(d:hR)(r:Int)(a:eX)(b:fb)(f:eX)(j k h:Addr)(g:hD)(n:List V)(S:Int->Prop)(v:Int)(x:V)=>q=[.ref o,.int v,x]/\ϔ T.Web T.Outlook H o p t m s d r a b f j k h g n S/\(0<=v/\v<m)/\(x=.ο\/∃i,x=.int i)/\(∀c∈kd m d r a v,S c)/\∀l e,H l=none->δ H e->e l=some (.lst ((eQ m d r a (ϡ m d r a b f) v x).map V.int))->Q (.ref l) e
abbrev vZ:Stmt:=top 61
def GJ:ζ ["outlook","place","left_out","load","kid"] ["outlook","place","left_out"] (aK vZ):=.of
def HU(T:Txt K I)(hq:bQ (τ P w))(kF:Ai P w base T):Ok P w K I base "idle_kids" vZ ["outlook","place","left_out"] 2 (yI T):=λ_ _ D=>by
 refine D.F.ϊ GJ λξ A M s H vs Q E hr h=>?_;obtain⟨o,p,t,m,ps,b,r,a,e,Y,na,ka,ia,kl,bs,S,v,x,rfl,O,J,hx,hS,k⟩:=h;have g:=O.web.go;have R:=O.rt;have Β:=g.Β;obtain⟨L,ob⟩:=O.ob;obtain⟨dw,wb⟩:=O.web.ob;refine⟨_,(ax (Γ 3 (bg pN (ee (ag aM aq)) (dG (dG (γ 0) rfl) rfl))) (ax (fh PassesOwn.never rfl (gC (ω bC (dG (γ 0) rfl) (γ 1))) (ϑ 4) (aJ (cg (Υ p9 (γ 4) (γ 2)) (aJ (Γ 3 (Ν kF hr hq (ag (γ 3) (ag (ω bC (dG (γ 0) rfl) (γ 4)) aq))))) bR))) (aJ (bn (γ 3))))),?_⟩;walk_at "t";refine⟨by decide,λX n1=>?_⟩;have q:=δ.new (.lst [V.int 0]) n1;refine⟨T.Outlook,L,_,q _ _ ob,T.ρ,T.Ω,_,uU _ _ _ _,p,rfl,?_⟩;refine⟨T.Web,dw,_,q _ _ wb,T.Ι,T.Ψ,_,gI _ _,?_⟩;refine⟨X,m,[V.int 0],rfl,rfl,az,by lia,by lia,bL (by simp;lia),λj Z=>?_⟩;rw[ug,<-DA];have f:=q.trans (δ.new (.lst ((Ϗ m).map V.int)) Z);have Zr:H j=none:=q.free Z;have e2:upd (upd H X (.lst [V.int 0])) j (.lst ((Ϗ m).map V.int)) j=some (.lst ((Ϗ m).map V.int)):=az;generalize upd (upd H X (.lst [V.int 0])) j (.lst ((Ϗ m).map V.int))=H2 at f e2 ⊢;obtain⟨ak,U,n⟩:=O.kids J.1 J.2;refine⟨T.Outlook,L,_,f _ _ ob,T.ρ,T.HV,_,CA _ _ _ _,Θ (f _ _ O.hk) U ⟨ak,rfl,⟨_,ν.of (f _ _ n)⟩,?_⟩⟩;have kr:∀c∈kd m b r a v,0<=c/\c<m:=λc B=>((cR g R J.1 J.2).mp B).1;refine hZ (K:=K) (xs:=(kd m b r a v).map V.int) (λi C d=>δ H d/\∃(l:Addr)(W:Option V),H l=none/\d l=some (.lst ((uP m ((((kd m b r a v).take i).filter λk=>decide (V.int k≠x)).map (ϡ m b r a e Y))).map V.int))/\C=[some (V.ref o),some (V.int v),some x,some (V.ref l),W]) ⟨f,j,_,Zr,e2,rfl⟩ (λi C d _ z=>ν.of (z.1 _ _ n)) ?_ ?_
 .rintro i y C d N BB Λ hN G ⟨s3,l,W,nl,el,rfl⟩;refine Λ _ _ ?_;rw[aP]at G;obtain⟨c,B,rfl⟩:=b9.mp G;have cm:c∈kd m b r a v:=aQ B;have et:(kd m b r a v).take (i+1)=(kd m b r a v).take i++[c]:=by rw[bj,B];rfl
  walk_at "";have sc:sB (V.int c) x=true:=by
   rcases hx with rfl|⟨i,rfl⟩<;>rfl
  refine⟨sc,?_⟩;by_cases u:V.int c=x
  .rw[ah (λz=>z u)];refine hN _ _ ⟨s3,l,_,nl,?_,rfl⟩;rw[et,b7]
   simpa[u]using el
  .rw[aj u];obtain⟨ai,h1,h2⟩:=O.done c (hS c cm);refine⟨T.Outlook,L,_,s3 _ _ ob,T.ρ,T.Vu,_,CS _ _ _ _,Θ (s3 _ _ O.hi) h1 ?_⟩;have ll:(uP m ((((kd m b r a v).take i).filter λk=>decide (V.int k≠x)).map (ϡ m b r a e Y))).length=m.toNat:=yD _ _ (mD m) λy G=>by
    obtain⟨k,hk,rfl⟩:=aE.mp G;have:=kr k (jJ (bG.mp hk).1);exact zO g R this.1 this.2
   refine⟨l,ai,_,_,rfl,el,s3 _ _ h2,by lia,λl4 H4 n4 s4 e4=>hN _ _ ⟨s3.trans s4,l4,_,s3.free n4,?_,rfl⟩⟩;rw[et,b7,bZ (by simpa using u),fH,au,aF,dB,Kq];exact e4
 .rintro BB C d Λ ⟨s3,l,W,nl,el,rfl⟩;refine Λ _ _ ?_;rw[aa,bx]at el;walk_at "";exact k l d nl s3 el
abbrev rJ(P w base)(T:Txt K I):=Cb P w K I base "idle_kids" vZ ["outlook","place","left_out"] 2 (yI T)
def JA(T:Txt K I):Sp:=λd H Q E=>E7 λ(p t:Addr)(m:Int)(e:hD)(c:hR)(a b:Int)=>d=[.ref p,.int a,.int b]/\μ T.Web H p m t e c/\(∀k,0<=a->a<m->0<=b->b<m->cD c a b=some k->Q (.int k) H)/\(¬((0<=a/\a<m)/\(0<=b/\b<m))->E (.ref T.NoPlace) none H)/\(0<=a->a<m->0<=b->b<m->cD c a b=none->E (.ref T.NoRoad) none H)
abbrev Cu:Stmt:=top 16
def Q8:ζ ["web","a","b","one","other","there","back"] ["web","a","b"] (aK Cu):=.of
def wH:ϓ (aK Cu) "NoRoad":=.of
def QH(T:Txt K I)(hq:bQ (τ P w))(Y:lH P w base T):Ok P w K I base "toll" Cu ["web","a","b"] 3 (JA T):=λ_ _ D=>by
 refine D.F.Ϻ Q8 λξ A S s H vs Q E hr h=>?_;obtain⟨p,t,m,L,f,a,b,rfl,W,k,Z,e2⟩:=h;obtain⟨dx,ob⟩:=W.ob;refine⟨_,(ax (cV (Κ Y hr bT (ag (γ 0) (ag (γ 1) aq)))) (ax (cV (Κ Y hr bT (ag (γ 0) (ag (γ 2) aq)))) (ax (fh PassesOwn.leaving rfl (wL (dG (γ 0) rfl)) (jK (n:=4) rfl (ci (ϑ 3) (ci (ϑ 4) (ci (ϑ 5) (ci (ϑ 6) g6))))) (ax (cg (PW.pt (zh (Υ dJ (γ 3) (γ 1)) (wG (Υ dJ (γ 4) (γ 2))))) (aJ (bn (γ 5))) bR) (aJ (cg (PW.pt (zh (Υ dJ (γ 3) (γ 2)) (wG (Υ dJ (γ 4) (γ 1))))) (aJ (bn (γ 6))) bR)))) (aJ (rB T.WL rfl sY wH.g T.WG (ag bE aq) (hdb:=wH.d)))))),?_⟩;walk_at "t";refine⟨p,t,m,L,f,a,rfl,W,λC B=>?_,λz=>Z λw=>z w.1⟩;refine⟨p,t,m,L,f,b,rfl,W,λy G=>?_,λz=>Z λw=>z w.2⟩;refine⟨T.Web,dx,_,ob,T.Ι,T.TX,_,vE m t,t,rfl,⟨_,Δ.of W.tu⟩,?_⟩;have l:L.length=f.length:=Paired.length W.ro;refine Hx (K:=K) (xs:=L.map V.ref) (λi J o=>o=H/\cD (f.take i) a b=none/\∃O U X R,J=[some (V.ref p),some (V.int a),some (V.int b),O,U,X,R]) ⟨rfl,rfl,_,_,_,_,rfl⟩ (λi J o _ z=>by rw[z.1];exact Δ.of W.tu) ?_ ?_
 .rintro i x J o N hN hx ⟨rfl,Vs,O,U,X,R,rfl⟩;obtain⟨q,r,rfl,h1,M,h3⟩:=W.ro.get hx;have et:f.take (i+1)=f.take i++[r]:=by rw[bj,M];rfl
  have split:cD f a b=(cD (f.take i) a b).or ((jb a b r).or (cD (f.drop (i+1)) a b)):=by
   have:f=f.take i++r::f.drop (i+1):=by
    have Le:i<f.length:=(aD.mp M).1;have e:f[i]=r:=(by rw[aB Le]at M;exact bN M);rw[<-e,jo,dP]
   conv=>lhs;rw[this]
   unfold cD;rw[gn,gX];cases jb a b r<;>rfl
  rw[Vs,Option.none_or]at split;walk_at "";refine⟨_,Δ.of h3,rfl,_,_,rfl,_,_,rfl,_,_,rfl,_,_,rfl,rfl,?_⟩;walk_at "";have c:jb a b r=none->N [some (V.ref p),some (V.int a),some (V.int b),some (V.int r.a),some (V.int r.b),some (V.int r.t),some (V.int r.u)] o:=λz=>hN _ _ ⟨rfl,by
   rw[et];unfold cD at Vs ⊢;rw[gn,Vs,gX,z]
   rfl,_,_,_,_,rfl⟩
  have j:∀v,jb a b r=some v->cD f a b=some v:=λv z=>by rw[split,z];rfl
  unfold jb at c j;split
  .rename_i c1
   split
   .rename_i c2
    exact k _ C B y G (j _ (by rw[aj ⟨c1,c2⟩]))
   .rename_i c2
    split
    .rename_i c3
     split
     .rename_i c4
      exact k _ C B y G (j _ (by rw[ah (λz=>c2 z.2),aj ⟨c3,c4⟩]))
     .rename_i c4
      exact c (by rw[ah (λz=>c2 z.2),ah (λz=>c4 z.2)])
    .rename_i c3
     exact c (by rw[ah (λz=>c2 z.2),ah (λz=>c3 z.1)])
  .rename_i c1
   split
   .rename_i c3
    split
    .rename_i c4
     exact k _ C B y G (j _ (by rw[ah (λz=>c1 z.1),aj ⟨c3,c4⟩]))
    .rename_i c4
     exact c (by rw[ah (λz=>c1 z.1),ah (λz=>c4 z.2)])
   .rename_i c3
    exact c (by rw[ah (λz=>c1 z.1),ah (λz=>c3 z.1)])
 .rintro J o ⟨rfl,Vs,O,U,X,R,rfl⟩;rw[aa,l,bx]at Vs;walk_at "";exact⟨by decide,e2 C B y G Vs⟩
abbrev oU(P w base)(T:Txt K I):=Cb P w K I base "toll" Cu ["web","a","b"] 3 (JA T)
def HS(T:Txt K I):Sp:=λb H Q _=>∃(p:Addr)(a:ej),b=[.ref p]/\(ν K H p (a.map V.int)\/Δ K H p (a.map V.int))/\Q (.int a.sum) H
abbrev D3:Stmt:=top 28
def Nq:ζ ["numbers"] ["numbers"] (aK D3):=.of
def Pu(T:Txt K I)(g:bQ (τ P w)):Ok P w K I base "total" D3 ["numbers"] 1 (HS T):=λ_ _ D=>by
 refine D.F.ϊ Nq λf A a s H d Q E e h=>?_;obtain⟨p,b,rfl,c,k⟩:=h;refine⟨_,(aJ (bn (lE (xT rfl) T.sum (ag (γ 0) aq)))),?_⟩;walk_at "t";exact⟨b,c,k⟩
abbrev zZ(P w base)(T:Txt K I):=Cb P w K I base "total" D3 ["numbers"] 1 (HS T)
def pL(T:Txt K I):Nat->Sp
 | 0=>λ_ _ _ _=>False
 | n+1=>λq H Q _=>E18 λ(o p t:Addr)(m:Int)(s:hD)(e:hR)(r:Int)(a:eX)(b:fb)(f:eX)(i j h:Addr)(g:hD)(k:List V)(S:Int->Prop)(v y:Int)=>q=[.ref o,.int v,.int y]/\ϔ T.Web T.Outlook H o p t m s e r a b f i j h g k S/\(0<=v/\v<m)/\m.toNat<=b v+1+n/\(∀c∈kd m e r a v,S c)/\∀l d,H l=none->δ H d->d l=some (.lst ((TN m e r a b f v y).map V.int))->Q (.ref l) d
def qd(T:Txt K I):Sp:=pL T 25
def IY(T:Txt K I):Nat->Sp
 | 0=>λ_ _ _ _=>False
 | n+1=>λq H Q _=>E19 λ(o p t:Addr)(m:Int)(s:hD)(d:hR)(r:Int)(a:eX)(b:fb)(e:eX)(i j h:Addr)(g:hD)(k:List V)(S:Int->Prop)(v c y:Int)=>q=[.ref o,.int v,.int c,.int y]/\ϔ T.Web T.Outlook H o p t m s d r a b e i j h g k S/\(0<=v/\v<m)/\c∈kd m d r a v/\m.toNat<=b c+1+n/\(∀c∈kd m d r a v,S c)/\∀l f,H l=none->δ H f->f l=some (.lst ((W8 m d r a e (ϡ m d r a b e) (TN m d r a b e) v y c).map V.int))->Q (.ref l) f
abbrev dA:Stmt:=top 63
def tZ:ζ ["outlook","place","over","room","best","kid","load"] ["outlook","place","over"] (aK dA):=.of
def FN:Ve (aK dA) "outlook":=.of (by kernel_rfl)
def IK:Ve (aK dA) "place":=.of (by kernel_rfl)
def Jh:Ve (aK dA) "over":=.of (by kernel_rfl)
def JR:Ve (aK dA) "room":=.of (by kernel_rfl)
def JG:Ve (aK dA) "best":=.of (by kernel_rfl)
def Lp:Ve (aK dA) "kid":=.of (by kernel_rfl)
def JF:Ve (aK dA) "load":=.of (by kernel_rfl)
def nL:ϓ (aK dA) "idle_kids":=.of
def oS:ϓ (aK dA) "load_by":=.of
def jH:ϓ (aK dA) "total":=.of
abbrev lU:Stmt:=top 64
def Ka:ζ ["outlook","place","kid","room","given","over"] ["outlook","place","kid","room"] (aK lU):=.of
def om:ϓ (aK lU) "toll":=.of
def uq:ϓ (aK lU) "added":=.of
def oV:ϓ (aK lU) "greatest_load":=.of
def qC:ϓ (aK lU) "idle_kids":=.of
def Il(T:Txt K I)(u:bQ (τ P w)){f:Addr}{fd:FuncData}(D:Df K I "load_by" lU ["outlook","place","kid","room"] f fd)(M:Ai P w base T)(U:rJ P w base T)(j:oU P w base T){iA:Addr}{hV:FuncData}(eN:Df K I "greatest_load" dA ["outlook","place","over"] iA hV){n N:Nat}(hN:3<=N)(gl:ύ P w K I base (τ P w) N iA hV ["outlook","place","over"] (pL T n)):ύ P w K I base (τ P w) (N+1) f fd ["outlook","place","kid","room"] (IY T n):=by
 refine D.F.ϊ Ka (λξ A ae s H vs Q E x h=>?_) (λvs H Q E h=>?_)
 rotate_left
 .cases n with
  | zero=>exact h.elim
  | succ n=>
  obtain⟨o,p,t,m,B,q,r,e,l,J,V,X,ia,kl,Y,S,v,c,y,rfl,_⟩:=h
  rfl
 .cases n with
  | zero=>exact h.elim
  | succ n=>
  obtain⟨o,p,t,m,B,q,r,e,l,J,V,X,ia,kl,Y,S,v,c,y,rfl,O,C,cm,fu,hS,k⟩:=h;have g:=O.web.go;have R:=O.rt;have Β:=g.Β;obtain⟨dx,ob⟩:=O.ob;obtain⟨⟨a,cn,cp⟩,_,_⟩:=kb g R C.1 C.2 cm;obtain⟨k1,i,a0,a1⟩:=rE g R a.1 a.2 cn;obtain⟨k2,L,b0,b1⟩:=jg g R a.1 a.2 cn;have e1:RW q e c=k1:=by unfold RW;rw[i];rfl
  have e2:Ug q e c=k2:=by unfold Ug;rw[L];rfl
  rw[cp]at i L;refine⟨_,(ax (Γ 4 (bg j5 (γ 3) (bg kR (ω bC (dG (γ 0) rfl) (γ 2)) (iU j.G (x.mono (by lia)) om.g j.D.m j.D.F.kp j.D.b .nil (gJ u) (ag (dG (γ 0) rfl) (ag (γ 1) (ag (γ 2) aq))) (hdb:=om.d))))) (ax (Γ 5 (bg j5 (bg kR (iU j.G (x.mono (by lia)) om.g j.D.m j.D.F.kp j.D.b .nil (gJ u) (ag (dG (γ 0) rfl) (ag (γ 2) (ag (γ 1) aq))) (hdb:=om.d)) (bg gm (γ 4) aM)) aM)) (aJ (bn (iU M.G (x.mono (by lia)) uq.g M.D.m M.D.F.kp M.D.b .nil (gJ u) (ag (iU gl (x.mono (by lia)) oV.g eN.m eN.F.kp eN.b .nil (gJ u) (ag (γ 0) (ag (γ 2) (ag (γ 5) aq))) (hdb:=oV.d)) (ag (iU U.G (x.mono (by lia)) qC.g U.D.m U.D.F.kp U.D.b .nil (gJ u) (ag (γ 0) (ag (γ 1) (ag (γ 2) aq))) (hdb:=qC.d)) aq)) (hdb:=uq.d)))))),?_⟩;walk_at "t";refine⟨T.Outlook,dx,_,ob,T.ρ,T.Ad,_,vU _ _ _ _,Θ O.hn (Dy J a.1 a.2) ?_⟩;have W:=O.web;refine⟨T.Outlook,dx,_,ob,T.ρ,T.Ω,_,uU _ _ _ _,?_⟩;refine⟨p,t,m,B,q,v,c,rfl,W,λk' _ _ _ _ h=>?_,λz=>absurd ⟨C,a⟩ z,λ_ _ _ _ z=>by rw[i]at z;cases z⟩;rw[i]at h;cases h;refine⟨_,rfl,_,rfl,.inr ⟨by lia,by lia⟩,?_⟩;refine⟨T.Outlook,dx,_,ob,T.ρ,T.Ω,_,uU _ _ _ _,?_⟩;refine⟨p,t,m,B,q,c,v,rfl,W,λk' _ _ _ _ h=>?_,λz=>absurd ⟨a,C⟩ z,λ_ _ _ _ z=>by rw[L]at z;cases z⟩;rw[L]at h;cases h;refine⟨_,rfl,.inl ⟨by lia,by lia⟩,?_⟩;refine⟨o,p,t,m,B,q,r,e,l,J,V,X,ia,kl,Y,S,c,_,rfl,O,a,fu,λd hd=>O.cl c a.1 a.2 (hS c cm) d hd,λl1 H1 n1 Z h1=>?_⟩;refine⟨o,p,t,m,B,q,r,e,l,J,V,X,ia,kl,Y,S,v,_,rfl,O.same Z,C,.inr ⟨_,rfl⟩,hS,λl2 H2 n2 s2 h2=>?_⟩;refine⟨l1,l2,_,_,rfl,s2 _ _ h1,h2,by rw[QX g R a.1 a.2];lia,λl3 H3 n3 s3 h3=>?_⟩;refine k l3 H3 (Z.free (s2.free n3)) (Z.trans (s2.trans s3)) ?_;unfold W8;rw[e1,e2];exact h3
def Aq(T:Txt K I)(L:bQ (τ P w)){f:Addr}{fd:FuncData}(D:Df K I "greatest_load" dA ["outlook","place","over"] f fd){zm:Addr}{wZ:FuncData}(Y:Df K I "load_by" lU ["outlook","place","kid","room"] zm wZ)(kF:Ai P w base T)(W:rJ P w base T)(dY:oU P w base T)(B:zZ P w base T):∀n:Nat,ύ P w K I base (τ P w) (2*n+4) f fd ["outlook","place","over"] (pL T n):=by
 intro n;have eN:=D
 induction n with
 | zero=>exact D.F.ϊ tZ (λξ A C s H vs Q E U h=>h.elim) (λvs H Q E h=>h.elim)
 | succ n gl=>
 have Mf:=Il T L Y kF W dY eN (by lia) gl;refine D.F.ϊ tZ λξ A C s H vs Q E U h=>?_;obtain⟨o,p,t,m,ps,j,r,a,e,u,na,ka,ia,kl,bs,S,v,y,rfl,O,x,fu,hS,k⟩:=h;have g:=O.web.go;have R:=O.rt;have Β:=g.Β;obtain⟨dx,ob⟩:=O.ob;refine⟨_,(ax (Γ 3 (bg gm (ω bC (dG (γ 0) rfl) (γ 1)) (γ 2))) (ax (Γ 4 (iU W.G (U.mono (by lia)) nL.g W.D.m W.D.F.kp W.D.b .nil (gJ L) (ag (γ 0) (ag (γ 1) (ag tY aq))) (hdb:=nL.d))) (ax (wM (γ 4) (γ 1) ud (γ 3) wI hW) (ax (fh PassesOwn.never rfl (gC (ω bC (dG (γ 0) rfl) (γ 1))) (ϑ 5) (ax (Γ 6 (iU Mf (U.mono (by lia)) oS.g Y.m Y.F.kp Y.b .nil (gJ L) (ag (γ 0) (ag (γ 1) (ag (γ 5) (ag (γ 3) aq)))) (hdb:=oS.d))) (aJ (cg (Υ xB (iU B.G (U.mono (by lia)) jH.g B.D.m B.D.F.kp B.D.b .nil (gJ L) (ag (γ 6) aq) (hdb:=jH.d)) (iU B.G (U.mono (by lia)) jH.g B.D.m B.D.F.kp B.D.b .nil (gJ L) (ag (γ 4) aq) (hdb:=jH.d))) (aJ (Γ 4 (γ 6))) bR)))) (aJ (bn (γ 4))))))),?_⟩;walk_at "t";refine⟨T.Outlook,dx,_,ob,T.ρ,T.Ad,_,vU _ _ _ _,Θ O.hn (Dy u x.1 x.2) ⟨_,rfl,?_⟩⟩;refine⟨o,p,t,m,ps,j,r,a,e,u,na,ka,ia,kl,bs,S,v,_,rfl,O,x,.inl rfl,hS,λl1 H1 n1 s1 h1=>?_⟩;have bm:(eQ m j r a (ϡ m j r a e u) v V.ο).length=m.toNat:=wy λk hk=>by
  have w:=kb g R x.1 x.2 hk;exact zO g R w.1.1.1 w.1.1.2
 refine Θ h1 (ϩ x.1 (by lia)) ⟨_,rfl,pJ h1 x.1 (by rw[aa];lia) ?_⟩;have M:=s1.put n1 (.lst (((eQ m j r a (ϡ m j r a e u) v V.ο).map V.int).set v.toNat (V.int ((eQ m j r a (ϡ m j r a e u) v V.ο).getD v.toNat 0+(u v+y)))));have h2:upd H1 l1 (.lst (((eQ m j r a (ϡ m j r a e u) v V.ο).map V.int).set v.toNat (V.int ((eQ m j r a (ϡ m j r a e u) v V.ο).getD v.toNat 0+(u v+y))))) l1=some (.lst ((tV (eQ m j r a (ϡ m j r a e u) v V.ο) v (u v+y)).map V.int)):=by
  rw[az];unfold tV;rw[dh]
 generalize upd H1 l1 (.lst (((eQ m j r a (ϡ m j r a e u) v V.ο).map V.int).set v.toNat (V.int ((eQ m j r a (ϡ m j r a e u) v V.ο).getD v.toNat 0+(u v+y)))))=H2 at M h2 ⊢;obtain⟨ak,ae,X⟩:=O.kids x.1 x.2;refine⟨T.Outlook,dx,_,M _ _ ob,T.ρ,T.HV,_,CA _ _ _ _,Θ (M _ _ O.hk) ae ⟨ak,rfl,⟨_,ν.of (M _ _ X)⟩,?_⟩⟩;refine hZ (K:=K) (xs:=(kd m j r a v).map V.int) (λi Z J=>δ H J/\E3 λ(l:Addr)(v5 v6:Option V)=>H l=none/\J l=some (.lst (((((kd m j r a v).take i).map (W8 m j r a u (ϡ m j r a e u) (TN m j r a e u) v (u v+y))).foldl qU (tV (eQ m j r a (ϡ m j r a e u) v .ο) v (u v+y))).map V.int))/\Z=[some (V.ref o),some (V.int v),some (V.int y),some (V.int (u v+y)),some (V.ref l),v5,v6]) ⟨M,l1,_,_,n1,h2,rfl⟩ (λi Z J _ z=>ν.of (z.1 _ _ X)) ?_ ?_
 .rintro i y' Z J N BB Λ hN hy ⟨s3,l,v5,v6,nl,el,rfl⟩;refine Λ _ _ ?_;rw[aP]at hy;obtain⟨c,hc,rfl⟩:=b9.mp hy;have cm:c∈kd m j r a v:=aQ hc;have et:(kd m j r a v).take (i+1)=(kd m j r a v).take i++[c]:=by rw[bj,hc];rfl
  have w:=kb g R x.1 x.2 cm;obtain⟨n',rfl⟩:∃n',n=n'+1:=⟨n-1,by lia⟩;walk_at "";refine⟨o,p,t,m,ps,j,r,a,e,u,na,ka,ia,kl,bs,S,v,c,_,rfl,O.same s3,x,cm,by lia,hS,λl4 H4 n4 s4 h4=>?_⟩;refine⟨l4,_,rfl,.inl (ν.of h4),l,_,rfl,.inl (ν.of (s4 _ _ el)),?_⟩;refine⟨_,rfl,_,rfl,?_⟩;have ef:(((kd m j r a v).take (i+1)).map (W8 m j r a u (ϡ m j r a e u) (TN m j r a e u) v (u v+y))).foldl qU (tV (eQ m j r a (ϡ m j r a e u) v .ο) v (u v+y))=qU ((((kd m j r a v).take i).map (W8 m j r a u (ϡ m j r a e u) (TN m j r a e u) v (u v+y))).foldl qU (tV (eQ m j r a (ϡ m j r a e u) v .ο) v (u v+y))) (W8 m j r a u (ϡ m j r a e u) (TN m j r a e u) v (u v+y) c):=by
   rw[et,au,jr]
   rfl
  split
  .rename_i q
   refine hN _ _ ⟨s3.trans s4,l4,_,_,s3.free n4,?_,rfl⟩;rw[ef,Mw q];exact h4
  .rename_i q
   refine hN _ _ ⟨s3.trans s4,l,_,_,nl,?_,rfl⟩;rw[ef,Lv q];exact s4 _ _ el
 .rintro BB Z J Λ ⟨s3,l,v5,v6,nl,el,rfl⟩;refine Λ _ _ ?_;rw[aa,bx]at el;walk_at "";refine k l J nl s3 ?_;rw[xL g R x.1 x.2];exact el
def BO(T:Txt K I)(j:bQ (τ P w)){f:Addr}{a:FuncData}(D:Df K I "greatest_load" dA ["outlook","place","over"] f a){h:Addr}{e:FuncData}(g:Df K I "load_by" lU ["outlook","place","kid","room"] h e)(i:Ai P w base T)(b:rJ P w base T)(c:oU P w base T)(d:zZ P w base T):ύ P w K I base (τ P w) 54 f a ["outlook","place","over"] (qd T):=Aq T j D g i b c d 25
def zE(T:Txt K I):Sp:=λn H Q _=>E17 λ(o p t:Addr)(m:Int)(q:hD)(e:hR)(r:Int)(a:eX)(b:fb)(f:eX)(i j h:Addr)(g:hD)(k:List V)(S:Int->Prop)(v:Int)=>n=[.ref o,.int v,.int (a v)]/\ϔ T.Web T.Outlook H o p t m q e r a b f i j h g k S/\(0<=v/\v<m)/\v≠r/\(∀c∈kd m e r a v,S c)/\∀l d,H l=none->δ H d->d l=some (.lst ((ϡ m e r a b f v).map V.int))->Q (.ref l) d
abbrev vR:Stmt:=top 60
def Gi:ζ ["outlook","place","front"] ["outlook","place","front"] (aK vR):=.of
def Hk(T:Txt K I)(i:bQ (τ P w)){N:Addr}{C:FuncData}(V:Df K I "greatest_load" dA ["outlook","place","over"] N C)(gl:ύ P w K I base (τ P w) 54 N C ["outlook","place","over"] (qd T))(X:rJ P w base T)(Y:oU P w base T):Ok P w K I base "idle_load" vR ["outlook","place","front"] 55 (zE T):=λ_ _ D=>by
 refine D.F.ϊ Gi λξ A l s H vs Q E n h=>?_;obtain⟨o,p,t,m,q,f,r,b,d,e,B,G,y,x,J,S,v,rfl,O,a,U,M,k⟩:=h;have g:=O.web.go;have R:=O.rt;have Β:=g.Β;have W:=O.web;obtain⟨L,ob⟩:=O.ob;obtain⟨k2,j,b0,b1⟩:=jg g R a.1 a.2 U;have Z:Ug f b v=k2:=by unfold Ug;rw[j];rfl
 have u:=R.up v a.1 a.2 U;rw[BA g R a.1 a.2]at k;refine⟨_,(ax (cg (Υ xB (ω bC (dG (γ 0) rfl) (γ 1)) aM) (aJ (bn (Ν X n i (ag (γ 0) (ag (γ 1) (ag tY aq)))))) bR) (aJ (bn (pcq V gl n i (ag (γ 0) (ag (γ 1) (ag (bg j5 (Ν Y n i (ag (dG (γ 0) rfl) (ag (γ 1) (ag (γ 2) aq)))) aM) aq))))))),?_⟩;walk_at "t";refine⟨T.Outlook,L,_,ob,T.ρ,T.Ad,_,vU _ _ _ _,Θ O.hn (Dy e a.1 a.2) ⟨_,rfl,?_⟩⟩;by_cases c:0<e v
 .rw[aj c]at k ⊢;exact⟨o,p,t,m,q,f,r,b,d,e,B,G,y,x,J,S,v,_,rfl,O,a,.inl rfl,M,k⟩
 .rw[ah c]at k ⊢;refine⟨T.Outlook,L,_,ob,T.ρ,T.Ω,_,uU _ _ _ _,?_⟩;refine⟨p,t,m,q,f,v,b v,rfl,W,λk' _ _ _ _ h=>?_,λz=>absurd ⟨a,u.1⟩ z,λ_ _ _ _ z=>by rw[j]at z;cases z⟩;rw[j]at h;cases h;refine⟨_,rfl,?_⟩;refine⟨o,p,t,m,q,f,r,b,d,e,B,G,y,x,J,S,v,_,rfl,O,a,by show m.toNat<=d v+1+24;lia,M,?_⟩;rw[<-Z];exact k
def Jv(T:Txt K I):Sp:=λe H Q E=>E6 λ(p t:Addr)(m:Int)(f:hD)(c:hR)(r:Int)=>e=[.ref p,.int r]/\μ T.Web H p m t f c/\(0<=r->r<m->∃a b,ε m c r a b/\∀l d,H l=none->δ H d->d l=some (.lst ((eE m c r a b r).map V.int))->(eE m c r a b r).Nodup->(∀v,v∈eE m c r a b r↔0<=v/\v<m)->Q (.ref l) d)/\(¬(0<=r/\r<m)->E (.ref T.NoPlace) none H)
abbrev CV:Stmt:=top 33
def QE:ζ ["web","r","nearer","places","waiting","place","kid"] ["web","r"] (aK CV):=.of
def BW:ϓ (aK CV) "reversed":=.of
def Rf(T:Txt K I)(hq:bQ (τ P w))(pb:Dw P w base T)(nM:Ho P w base T):Ok P w K I base "down" CV ["web","r"] 6 (Jv T):=λ_ _ D=>by
 refine D.F.Ϻ QE λξ A a7 s H vs Q E hr h=>?_;obtain⟨p,t,m,ps,Z,r,rfl,W,k,e⟩:=h;have g:=W.go;have Β:=g.Β;refine⟨_,(ax (Γ 2 (Κ pb hr bT (ag (γ 0) (ag (γ 1) aq)))) (ax (Γ 3 (ee aq)) (ax (Γ 4 (ee (ag (γ 1) aq))) (ax (xE PassesOwn.leaving (BG (γ 4) (λ_=>rfl)) (ax (Γ 5 (Gj eP PySem.F.slot_list_pop PySem.F.type_list_pop Gb (γ 4))) (ax (cV (Uj (γ 3) (γ 5))) (aJ (fh PassesOwn.leaving rfl (yX BW.g T.reversed (Κ nM hr bT (ag (γ 0) (ag (γ 5) (ag (ω bC (γ 2) (γ 5)) aq))))) (ϑ 6) (aJ (cV (Uj (γ 4) (γ 6))))))))) (aJ (bn (γ 3))))))),?_⟩;walk_at "s";refine b6 λN1 g1=>?_;walk_at "";refine⟨p,t,m,ps,Z,r,rfl,W,λr0 r1=>?_,e⟩;obtain⟨a,C,R,k⟩:=k r0 r1;refine⟨a,C,R,λy H1 n1 s1 e1=>g1 _ _ (b6 λN2 g2=>?_)⟩;clear g1;walk_at "";refine⟨by decide,λb n3=>g2 _ _ (b6 λN3 g3=>?_)⟩;clear g2;walk_at "";refine⟨bL (by simp),λd L=>g3 _ _ (b6 λN4 g4=>?_)⟩;clear g3;have Y5:H b=none:=s1.free n3;have s3:=s1.trans (δ.new (.lst []) n3);have Y6:H d=none:=s3.free L;have bk:y≠b:=λz=>by rw[<-z,e1]at n3;cases n3
 have o:b≠d:=λz=>by rw[<-z,az]at L;cases L
 have Zt:=δ.new (.lst []) n3 _ _ e1;have ai:y≠d:=λz=>by rw[<-z,Zt]at L;cases L
 have s4:=s3.trans (δ.new (.lst [V.int r]) L);have al:=δ.new (.lst [V.int r]) L _ _ Zt;have Y4:upd (upd H1 b (.lst [])) d (.lst [V.int r]) b=some (.lst []):=by rw[aW o,az]
 have ap:upd (upd H1 b (.lst [])) d (.lst [V.int r]) d=some (.lst [V.int r]):=az;generalize upd (upd H1 b (.lst [])) d (.lst [V.int r])=H4 at s4 al Y4 ap ⊢;walk_at "";refine D0 (λn X l=>E5 λ(O S f:ej)(v5 v6:Option V)=>n=2*(m.toNat-O.length)+S.length/\X=[some (.ref p),some (.int r),some (.ref y),some (.ref b),some (.ref d),v5,v6]/\δ H l/\l y=some (.lst (qF m r a))/\l b=some (.lst (f.map V.int))/\l d=some (.lst (S.map V.int))/\Ϧ m Z r a O S/\(f++S).Perm (r::O)/\f++S.reverse.flatMap (eE m Z r a C)=eE m Z r a C r) (2*m.toNat+1) ⟨[],[r],[],_,_,rfl,rfl,s4,al,Y4,ap,Ϧ.start,List.Perm.refl _,by simp⟩ ?_;rintro n X l NW BB Λ hN V9 ⟨O,S,f,v5,v6,rfl,rfl,s5,h1,h3,h4,J,M,ep⟩;refine Λ _ _ _ ?_;have rk:∀w∈r::O,0<=w/\w<m:=λw hw=>by
  rcases aA.mp hw with rfl|z
  .exact⟨r0,r1⟩
  .exact J.Μ w z
 have nk:(r::O).Nodup:=aZ.mpr ⟨J.nr,J.nd⟩;have kl:=iz (m:=m) (by lia) nk rk;have cA:=iz (m:=m) (by lia) J.nd J.Μ;have U:=M.length_eq;rw[ay]at U;rw[aR]at kl U;walk_at "";refine⟨_,.inl ⟨_,ν.of h4,rfl⟩,?_⟩;rcases jO S with rfl|⟨ws',q,rfl⟩
 .refine gT (by simp) (g4 _ _ ?_);walk_at "";rw[List.reverse_nil,List.flatMap_nil,bX]at ep;rw[bX]at M;subst ep;refine k b l Y5 s5 h3 (M.nodup_iff.mpr nk) λv=>⟨λz=>rk v (M.mem_iff.mp z),λz=>M.mem_iff.mpr ?_⟩;by_cases c:v=r
  .rw[c];exact aL
  .exact aw _ (J.all R v z.1 z.2 c)
 .rw[jQ]at J h4 hN V9 M ep U ⊢;refine TF (by simp) ?_;have hq:q∈ws'++[q]:=bo _ (aG.mpr rfl);have G:=J.at_ r0 r1 hq;have J2:=J.step g R r0 r1 (p:=q) (ws':=ws') (kE q ws');refine⟨NW,λcy H' z=>?_,?_⟩
  .obtain⟨m',lt,ks',WO,pl',a5,a6,z1,z2⟩:=V9 _ _ z
   first|exact⟨m',lt,ks',WO,pl',a5,a6,z1,z2⟩|exact⟨m',lt,ks',WO,z1,pl',a5,a6,z2⟩
  rw[au,aF,dB]at h4;refine⟨Rw h4,Pg h4 ?_⟩;have s6:δ H (upd l d (.lst (ws'.map V.int))):=s5.put Y6 _;have Y:upd l d (.lst (ws'.map V.int)) b=some (.lst (f.map V.int)):=by rw[aW o];exact h3
  have af:upd l d (.lst (ws'.map V.int)) y=some (.lst (qF m r a)):=by rw[aW ai];exact h1
  have ar:upd l d (.lst (ws'.map V.int)) d=some (.lst (ws'.map V.int)):=az;generalize upd l d (.lst (ws'.map V.int))=H6 at s6 Y af ar ⊢;refine⟨Rw Y,mM Y (eg (by rw[aa];lia)) ?_⟩;have s7:δ H (upd H6 b (.lst (f.map V.int++[V.int q]))):=s6.put Y5 _;have X5:upd H6 b (.lst (f.map V.int++[V.int q])) b=some (.lst ((f++[q]).map V.int)):=by rw[az,au];rfl
  have u:upd H6 b (.lst (f.map V.int++[V.int q])) y=some (.lst (qF m r a)):=by rw[aW bk];exact af
  have N:upd H6 b (.lst (f.map V.int++[V.int q])) d=some (.lst (ws'.map V.int)):=by rw[aW o.symm];exact ar
  generalize upd H6 b (.lst (f.map V.int++[V.int q]))=H7 at s7 X5 u N ⊢;refine Θ u (iQ G.1 (BK G.1 G.2)) ?_;have a9:Pb.front r a q=.ο\/∃i,Pb.front r a q=.int i:=by
   unfold Pb.front;by_cases c:q=r
   .rw[aj c];exact .inl rfl
   .rw[ah c];exact .inr ⟨_,rfl⟩
  have pq:=jP g R G.1 G.2;refine⟨p,t,m,ps,Z,q,_,rfl,W.same s7,G.1,G.2,a9,λl8 H8 n8 s8 e8=>⟨l8,rfl,_,ν.of e8,?_⟩⟩;generalize bU m Z (Pb.front r a q) q=j at e8 J2 pq ⊢;have dk:y≠l8:=λz=>by rw[<-z,u]at n8;cases n8
  have dm:b≠l8:=λz=>by rw[<-z,X5]at n8;cases n8
  have a3:d≠l8:=λz=>by rw[<-z,N]at n8;cases n8
  have bl:=iz (m:=m) (by lia) J2.nd J2.Μ;rw[ay]at bl;have a1:=iz (m:=m) (by lia) J2.Zm λw hw=>J2.at_ r0 r1 hw;rw[ay]at a1;refine xJ (K:=K) (xs:=j.map V.int) (λi X B=>∃v6,X=[some (.ref p),some (.int r),some (.ref y),some (.ref b),some (.ref d),some (.int q),v6]/\δ H B/\B l8=some (.lst (j.map V.int))/\B y=some (.lst (qF m r a))/\B b=some (.lst ((f++[q]).map V.int))/\B d=some (.lst ((ws'++j.reverse.take i).map V.int))) ⟨_,rfl,s7.trans s8,e8,s8 _ _ u,s8 _ _ X5,by rw[eO,bX];exact s8 _ _ N⟩ (λi X B _ z=>by obtain⟨_,_,_,z,_⟩:=z;exact ν.of z) ?_ ?_
  .rintro i x X B NI hI hi ⟨v6,rfl,s9,e9,h19,h39,h49⟩;rw[<-gA,aP]at hi;obtain⟨v,hv,rfl⟩:=b9.mp hi;have et:j.reverse.take (i+1)=j.reverse.take i++[v]:=(by rw[bj,hv];rfl);have cx:(ws'++j.reverse.take i).length<=100:=by
    rw[ay,bA,bi]
    lia
   walk_at "";refine⟨Rw h49,mM h49 (eg (by rw[aa];lia)) (hI _ _ ⟨_,rfl,s9.put Y6 _,?_,?_,?_,?_⟩)⟩
   .rw[aW a3.symm];exact e9
   .rw[aW ai];exact h19
   .rw[aW o];exact h39
   .rw[az,et,<-bO,au (l₁:=ws'++j.reverse.take i)];rfl
  .rintro X B ⟨v6,rfl,s9,e9,h19,h39,h49⟩;rw[aa,show j.length=j.reverse.length by rw[bi],bx]at h49;refine hN _ _ _ ?_ ⟨O++j,ws'++j.reverse,f++[q],_,_,rfl,rfl,s9,h19,h39,h49,J2.perm (nh _ j.reverse_perm.symm),?_,?_⟩
   .rw[ay,ay,ay,bi];simp only[aR,eL]
    lia
   .have p1:(f++[q]++(ws'++j.reverse)).Perm (f++(ws'++[q])++j):=by
     rw[bO,bO];refine nh _ ?_;rw[<-bO];exact List.Perm.append (List.perm_append_comm) j.reverse_perm
    exact p1.trans (List.Perm.append_right _ M)
   .rw[<-ep,gL,gL,iy,List.reverse_singleton,List.singleton_append,dj,pq,oj];simp
def Kp(a:eX)(v:Int):List V:=[.int v,.int (a v)]
abbrev χ(H:Hp)(a:eX):List Addr->List Int->Prop:=Paired λq v=>H q=some (.tup (Kp a v))
def χ.same{H d:Hp}{a:eX}{c:hD}{b:ej}(e:δ H d)(h:χ H a c b):χ d a c b:=Paired.imp' (λq v x=>e q _ x) h
theorem χ.get{H:Hp}{c:eX}:∀{d:hD}{f:ej}{i:Nat}{x:V},χ H c d f->(d.map V.ref)[i]?=some x->∃p r,x=.ref p/\d[i]?=some p/\f[i]?=some r/\H p=some (.tup (Kp c r))
 | _,_,i,x,.nil,e=>by simp at e
 | _,_,0,x,.cons (a:=p) (b:=r) h hs,e=>⟨p,r,by simpa using e.symm,by simp,by simp,h⟩
 | a::l1,_,i+1,x,.cons h hs,e=>by
   have k:(List.map V.ref l1)[i]?=some x:=by simpa using e
   obtain⟨p,r,m,l,g,j⟩:=χ.get hs k;exact⟨p,r,m,by simpa using l,by simpa using g,j⟩
theorem χ.snoc{H:Hp}{a:eX}{q:Addr}{v:Int}(e:H q=some (.tup (Kp a v))):∀{c:hD}{b:ej},χ H a c b->χ H a (c++[q]) (b++[v])
 | _,_,.nil=>.cons e .nil
 | _,_,.cons x xs=>.cons x (χ.snoc e xs)
def Fc(T:Txt K I):Sp:=λg H Q E=>E6 λ(p t:Addr)(m:Int)(h:hD)(d:hR)(r:Int)=>g=[.ref p,.int r]/\μ T.Web H p m t h d/\(0<=r->r<m->∃a b,ε m d r a b/\∀l f e c,eE m d r a b r=r::e->H l=none->δ H c->c l=some (.lst (f.map V.ref))->χ c a f e.reverse->Order m r a e->Q (.ref l) c)/\(¬(0<=r/\r<m)->E (.ref T.NoPlace) none H)
abbrev tP:Stmt:=top 35
def Ff:ζ ["web","r","nearer"] ["web","r"] (aK tP):=.of
def A7:Wx (aK tP) "nearer":=.of (by kernel_rfl)
def yy:ϓ (aK tP) "reversed":=.of
def L8(T:Txt K I)(hq:bQ (τ P w))(pb:Dw P w base T)(GU:Cb P w K I base "down" CV ["web","r"] 6 (Jv T)):Ok P w K I base "inward" tP ["web","r"] 7 (Fc T):=λ_ _ D=>by
 refine D.F.Ϻ Ff λξ A U s H vs Q E hr h=>?_;obtain⟨p,t,m,ps,rs,r,rfl,W,k,e⟩:=h;have g:=W.go;have Β:=g.Β;refine⟨_,(ax (se (i:=2) Ff.nd rfl (Or.inr A7.l) (Κ pb hr bT (ag (γ 0) (ag (Us 1) aq)))) (aJ (bn (iE rfl (We ["place","nearer","r"] 1 [2,1]) (yX yy.g T.reversed (Κ GU hr bT (ag (γ 0) (ag (Us 1) aq)))) (λ_ _ _ _=>(fF (i:=0) (show(["place","nearer","r"]:hG).Nodup from by decide +kernel) rfl (Or.inl rfl))) (λ_ _ _ _=>(Ee (Υ p9 (pv 0) (pv 2)))) (λ_ _ _ _=>(lN (ag (pv 0) (ag (ω (qi K rfl) (pv 1) (pv 0)) aq)))))))),?_⟩;walk_at "t";refine⟨p,t,m,ps,rs,r,?_⟩;refine Wa rfl W (λL C=>?_) e;obtain⟨d,B,R,k⟩:=k L C;refine⟨d,B,R,λl1 H1 n1 s1 e1=>?_⟩;refine⟨p,t,m,ps,rs,r,?_⟩;refine Wa rfl (W.same s1) (λ_ _=>⟨d,B,R,λl2 H2 n2 s2 S nd al=>?_⟩) (λz=>absurd ⟨L,C⟩ z);obtain⟨n,et,O⟩:=B6 g R L C nd al;have ll:=uC g R L C;rw[et]at S ll;rw[aR]at ll;refine⟨l2,rfl,_,ν.of S,λM Z=>?_⟩;have Xe:=s2 _ _ e1;have Ϣ:=s1.trans s2;have ab:=Ϣ.free Z;refine Oo (K:=K) (xs:=(r::n).map V.int) (λi u G j=>δ H2 j/\j M=some (.lst u)/\(∃f:List Addr,u=f.map V.ref/\χ j d f (n.reverse.take i))/\∃v,G=[v,some (V.ref l1),some (V.int r)]) ⟨δ.new _ Z,az,⟨[],rfl,.nil⟩,_,rfl⟩ (λi u G j _ z=>ν.of (z.1 _ _ S)) ?_ ?_
 .rintro i x u G j N hN hx ⟨s3,e3,⟨f,rfl,pa⟩,v,rfl⟩;rw[<-gA,kJ,aP]at hx;obtain⟨y,o,rfl⟩:=b9.mp hx;have il:=(aD.mp o).1;rw[ay,bi]at il;have ql:f.length=(n.reverse.take i).length:=Paired.length pa;rw[bA,bi]at ql;walk_at "";by_cases c:i<n.length
  .rw[dH (by rw[bi];exact c)]at o;have ym:y∈n:=dq.mp (aQ o);have Y:=O.Μ y ym;rw[aj (O.ne ym)];have gp:aT (qF m r d) y=some (V.int (d y)):=by
    have ef:Pb.front r d y=V.int (d y):=(by unfold Pb.front;rw[ah (O.ne ym)]);rw[<-ef];exact iQ Y.1 (BK Y.1 Y.2)
   refine Θ (s3 _ _ Xe) gp ⟨bL (by simp),λq J=>?_⟩;have s4:=δ.new (.tup [V.int y,V.int (d y)]) J;have X:q≠M:=λz=>by rw[z,e3]at J;cases J
   refine⟨s4 _ _ e3,eg (by rw[aa];lia),hN _ _ _ ⟨(s3.trans s4).put Z _,az,⟨f++[q],by rw[au];rfl,?_⟩,_,rfl⟩⟩;rw[bj,o];refine χ.snoc (by rw[aW X,az];rfl) ?_;exact Paired.imp' (λa b h=>by
    rw[aW (eG h e3 (by nofun)),aW (dX h J)];exact h) pa
  .have ei:i=n.reverse.length:=(by rw[bi];simp at il;lia);rw[ei,db (aU _),eT]at o;cases o;rw[ah (λz=>z rfl)];refine hN _ _ _ ⟨s3,e3,⟨f,rfl,?_⟩,_,rfl⟩;rw[cH (by lia)]at pa ⊢;exact pa
 .rintro u G j ⟨s3,e3,⟨f,rfl,pa⟩,v,rfl⟩;rw[cH (by rw[aa,bi,aR];lia)]at pa;exact k M f n j et ab (Ϣ.trans s3) e3 pa O
abbrev kL(P w base)(T:Txt K I):=Cb P w K I base "inward" tP ["web","r"] 7 (Fc T)
def Ie(T:Txt K I):Sp:=λh H Q E=>E9 λ(p a t:Addr)(c:Bool)(m:Int)(i:hD)(g:hR)(e:ej)(r:Int)=>h=[.ref p,.ref a,.int r]/\μ T.Web H p m t i g/\ϐ K c H a (e.map V.int)/\e.length<=1000/\(bI m e=true->0<=r->r<m->∃d f,ε m g r d f/\∀l b,H l=none->δ H b->b l=some (.lst ((oY m g r d f (λv=>e.getD v.toNat 0) (Xv g d)).map V.int))->Q (.ref l) b)/\(bI m e=false->∀b,δ H b->E (.ref T.BadWish) none b)/\(bI m e=true->¬(0<=r/\r<m)->∀b,δ H b->E (.ref T.NoPlace) none b)
abbrev Dt:Stmt:=top 54
def Pw:ζ ["web","wish","r","found","place","front"] ["web","wish","r"] (aK Dt):=.of
def Nw(T:Txt K I)(hq:bQ (τ P w))(dv:kL P w base T)(dY:oU P w base T)(ji:uE P w base T):Ok P w K I base "needs" Dt ["web","wish","r"] 8 (Ie T):=λ_ _ D=>by
 refine D.F.Ϻ Pw λξ A S s H vs Q E hr h=>?_;obtain⟨p,a,t,c,m,ps,j,xs,r,rfl,W,ha,hz,k,e,e'⟩:=h;have g:=W.go;have Β:=g.Β;refine⟨_,(ax (Γ 3 (ϰ oX T.list (ag (Κ ji hr bT (ag (γ 0) (ag (γ 1) aq))) aq))) (ax (fh PassesOwn.leaving rfl (gC (Κ dv hr bT (ag (γ 0) (ag (γ 2) aq)))) (jK (n:=2) rfl (ci (ϑ 4) (ci (ϑ 5) g6))) (aJ (wM (γ 3) (γ 5) ud (bg kR (ω bC (γ 3) (γ 4)) (Κ dY hr bT (ag (γ 0) (ag (γ 5) (ag (γ 4) aq))))) wI hW))) (aJ (bn (γ 3))))),?_⟩;walk_at "t";refine⟨p,a,t,c,m,ps,j,xs,?_⟩;refine an6 rfl W ha hz (λC l0 H0 s0 _ e0=>?_) e;have xl:(xs.length:Int)=m:=by
  unfold bI at C;rw[bB]at C;exact bu C.1
 refine⟨l0,rfl,_,.inr e0,λl n1=>?_⟩;have s1:=δ.new (.lst (xs.map V.int)) n1;have G:=s0.trans s1;have nl:=s0.free n1;have U:upd H0 l (.lst (xs.map V.int)) l=some (.lst (xs.map V.int)):=az;generalize upd H0 l (.lst (xs.map V.int))=H1 at s1 G U ⊢;refine⟨p,t,m,ps,j,r,?_⟩;refine Wa rfl (W.same G) (λr0 r1=>?_) (λz=>e' C z H1 G);obtain⟨d,y,R,k⟩:=k C r0 r1;refine⟨d,y,R,λZ L M H2 _ n2 s2 e2 pa O=>?_⟩;have WQ:Z≠l:=λz=>by rw[z,U]at n2;cases n2
 refine⟨Z,rfl,⟨_,ν.of e2⟩,?_⟩;have ql:L.length=M.reverse.length:=Paired.length pa;refine hZ (K:=K) (xs:=L.map V.ref) (λi J f=>δ H f/\f Z=some (.lst (L.map V.ref))/\χ f d L M.reverse/\E3 λ(B:ej)(Y v5:Option V)=>f l=some (.lst (B.map V.int))/\Ϛ m j r d y (λv=>xs.getD v.toNat 0) (Xv j d) (M.drop (M.length-i)) B/\J=[some (V.ref p),some (V.ref a),some (V.int r),some (V.ref l),Y,v5]) ⟨G.trans s2,e2,pa,xs,_,_,s2 _ _ U,by rw[gc,dE];exact Ϛ.nil xl,rfl⟩ (λi J f _ z=>ν.of z.2.1) ?_ ?_
 .rintro i x J f N BB Λ hN hx ⟨s3,e3,Vg,B,Y,v5,c3,so,rfl⟩;refine Λ _ _ ?_;obtain⟨q,v,rfl,hq,hv,eq⟩:=Vg.get hx;obtain⟨⟨o,vn⟩,ev,Y7⟩:=O.turn g R so hv;have u:=R.up v o.1 o.2 vn;obtain⟨kk,X,k0,k1⟩:=rE g R o.1 o.2 vn;have cl:=so.len;walk_at "";refine⟨_,Δ.of eq,rfl,_,_,rfl,_,_,rfl,rfl,?_⟩;refine Θ c3 (ϩ u.1.1 (by lia)) (Θ c3 (ϩ o.1 (by lia)) ?_);refine⟨p,t,m,ps,j,d v,v,rfl,W.same s3,λk' _ _ _ _ h=>?_,λz=>absurd ⟨u.1,o⟩ z,λ_ _ _ _ z=>by rw[X]at z;cases z⟩;rw[X]at h;cases h;refine⟨_,rfl,_,rfl,.inr ⟨by lia,by lia⟩,_,rfl,pJ c3 u.1.1 (by rw[aa];lia) (hN _ _ ⟨s3.put nl _,?_,?_,rM d (Xv j d) B v,_,_,?_,Y7,rfl⟩)⟩
  .rw[aW WQ];exact e3
  .exact Paired.imp' (λa b h=>by rw[aW (eG h c3 (by nofun))];exact h) Vg
  .rw[az,<-dh];unfold rM Xv;rw[X]
   rfl
 .rintro BB J f Λ ⟨s3,e3,Vg,B,Y,v5,c3,so,rfl⟩;refine Λ _ _ ?_;rw[aa,ql,bi,eT,eI]at so;rw[O.done g R so]at c3;walk_at "";exact k l f nl s3 c3
def ϔ.put{C O:Addr}{H:Hp}{o p t:Addr}{m:Int}{B:hD}{rs:hR}{r:Int}{par:eX}{d:fb}{nd:eX}{i j b:Addr}{g:hD}{bs:List V}{S:Int->Prop}(h:ϔ C O H o p t m B rs r par d nd i j b g bs S)(y:i≠b)(k:j≠b)(s:∀q∈g,q≠b)(hd:∀c,S c->0<=c/\∀a,aT bs c=some (.ref a)->a≠b)(bl:bs.length=m.toNat){v:Int}(v0:0<=v)(v1:v<m)(G:∀c∈kd m rs r par v,S c){l:Addr}(F:H l=some (.lst ((ϡ m rs r par d nd v).map V.int)))(nl:l≠b):ϔ C O (upd H b (.lst (bs.set v.toNat (.ref l)))) o p t m B rs r par d nd i j b g (bs.set v.toNat (.ref l)) (λc=>c=v\/S c) where
 ob:=by
  obtain⟨n,q⟩:=h.ob;exact⟨n,by rw[aW (eG q h.hi (by nofun))];exact q⟩
 web:=by
  have W:=h.web;refine⟨?_,?_,?_,W.go⟩
  .obtain⟨n,q⟩:=W.ob;exact⟨n,by rw[aW (eG q h.hi (by nofun))];exact q⟩
  .rw[aW (eG W.tu h.hi (by nofun))];exact W.tu
  .exact Paired.imp' (λq x e=>by rw[aW (eG e h.hi (by nofun))];exact e) W.ro
 rt:=h.rt
 hn:=by rw[aW y];exact h.hn
 hk:=by rw[aW k];exact h.hk
 kp:=DZ (λq x D e=>by rw[aW (s q D)];exact e) h.kp
 hi:=az
 done:=λc f=>by
  by_cases e:c=v
  .subst e;refine⟨l,iQ v0 ?_,by rw[aW nl];exact F⟩;rw[dg (by lia)]
  .have f:=f.resolve_left e;obtain⟨a,A,J⟩:=h.done c f;obtain⟨z,E⟩:=hd c f;refine⟨a,iQ z ?_,by rw[aW (E a A)];exact J⟩;rw[cG (by lia)];exact(C3 z).symm.trans A
 cl:=λu u0 u1 hu c f=>by
  rcases hu with rfl|hu
  .exact .inr (G c f)
  .exact .inr (h.cl u u0 u1 hu c f)
def ϔ.sub{C O:Addr}{H:Hp}{o p t:Addr}{m:Int}{q:hD}{e:hR}{r:Int}{a:eX}{b:fb}{j:eX}{k l i:Addr}{g:hD}{n:List V}{S:Int->Prop}{d:Int->Prop}(h:ϔ C O H o p t m q e r a b j k l i g n S)(f:∀c,d c->S c)(v:∀u,0<=u->u<m->d u->∀c∈kd m e r a u,d c):ϔ C O H o p t m q e r a b j k l i g n d:=⟨h.ob,h.web,h.rt,h.hn,h.hk,h.kp,h.hi,λc s=>h.done c (f c s),v⟩
def μ.Xd{C O:Addr}{H f:Hp}{o p:Addr}{m:Int}{t b:Addr}{c:hD}{d:hR}(e:Ϸ o H f)(a:H o=some (.ins O b []))(h:μ C H p m t c d):μ C f p m t c d:=⟨let ⟨b,q⟩:=h.ob;⟨b,e _ _ q (eG q a (by nofun))⟩,e _ _ h.tu (eG h.tu a (by nofun)),Paired.imp' (λq x z=>e _ _ z (eG z a (by nofun))) h.ro,h.go⟩
def qR(T:Txt K I):Sp:=λu H Q _=>W9 λ(o s p a t:Addr)(c:Bool)(m:Int)(i:hD)(f:hR)(h:ej)(r:Int)=>u=[.ref o,.ref p,.ref a,.int r]/\H o=some (.ins T.Outlook s [])/\μ T.Web H p m t i f/\ϐ K c H a (h.map V.int)/\bI m h=true/\(0<=r/\r<m)/\∃d e,ε m f r d e/\∀l n k j q g,ϔ T.Web T.Outlook g o p t m i f r d e (Ζ m f r d e (λv=>h.getD v.toNat 0) (Xv f d)) l n k j q (λv=>(0<=v/\v<m)/\v≠r)->(∀b x,H b=some x->b≠o->g b=some x)->Q .ο g
abbrev lR:Stmt:=mF (top 59) 0
def yo:ζ ["self","web","wish","r","place","front"] ["self","web","wish","r"] (aK lR):=.of
def qQ:ϓ (aK lR) "enumerate":=.of
def yk(T:Txt K I)(O:bQ (τ P w))(pb:Dw P w base T)(vK:Cb P w K I base "idle_load" vR ["outlook","place","front"] 55 (zE T))(dv:kL P w base T)(nM:Ho P w base T)(DR:Cb P w K I base "needs" Dt ["web","wish","r"] 8 (Ie T)):Wf P w K I base "__init__" "Outlook.__init__" lR ["self","web","wish","r"] 56 (qR T):=λ_ _ F=>by
 refine F.ϊ yo λξ A cn s H vs Q E hr h=>?_;obtain⟨o,f,p,a,t,c,m,ps,L,xs,r,rfl,ho,W,ha,fi,rr,par,J,R,k⟩:=h;have g:=W.go;have Β:=g.Β;obtain⟨dw,wb⟩:=W.ob;refine⟨_,(ax (rY (γ 0) (Us 1) rfl) (ax (rY (γ 0) (Ν DR hr O (ag (Us 1) (ag (γ 2) (ag (γ 3) aq)))) rfl) (ax (rY (γ 0) (iE rfl (We ["place","front","web"] 2 [1]) (Q6 true qQ.g T.enumerate (Ν pb hr O (ag (Us 1) (ag (γ 3) aq)))) (λ_ _ _ _=>(D1 K rfl (n:=2) rfl (ci (fF (i:=0) (show(["place","front","web"]:hG).Nodup from by decide +kernel) rfl (Or.inl rfl)) (ci (fF (i:=1) (show(["place","front","web"]:hG).Nodup from by decide +kernel) rfl (Or.inl rfl)) g6)))) (λ_ _ _ _=>ik) (λ_ _ _ _=>(iU nM.G (hr.mono (by decide)) (by rfl) nM.D.m nM.D.F.kp nM.D.b .nil (gJ O) (ag (pv 2) (ag (pv 0) (ag (pv 1) aq)))))) rfl) (ax (rY (γ 0) (bg pN (ee (ag tY aq)) (dG (Us 1) rfl)) rfl) (aJ (fh PassesOwn.never rfl (gC (Ν dv hr O (ag (Us 1) (ag (γ 3) aq)))) (jK (n:=2) rfl (ci (ϑ 4) (ci (ϑ 5) g6))) (aJ (j7 (Ν vK hr O (ag (γ 0) (ag (γ 4) (ag (γ 5) aq)))) (nO (dG (γ 0) rfl) (γ 4) hW))))))))),?_⟩;walk_at "s";refine b6 λN1 h1=>?_;walk_at "";have xl:(xs.length:Int)=m:=by
  have fi:=fi;unfold bI at fi;rw[bB]at fi;exact bu fi.1
 refine⟨T.Outlook,f,[],ho,T.ρ,T.Ω,by decide,h1 _ _ (b6 λN2 h2=>?_)⟩;clear h1;have k1:Ϸ o H (upd H o (.ins T.Outlook f (dz "web" (.ref p) []))):=Ϸ.refl.put _;have o1:upd H o (.ins T.Outlook f (dz "web" (.ref p) [])) o=some (.ins T.Outlook f (dz "web" (.ref p) [])):=az;generalize upd H o (.ins T.Outlook f (dz "web" (.ref p) []))=H1 at k1 o1 ⊢;walk_at "";refine⟨p,a,t,c,m,ps,L,xs,r,rfl,W.Xd k1 ho,k1.ϭ ho ha,by lia,λ_ _ _=>⟨par,J,R,λj H2 n2 s2 e2=>?_⟩,λz=>(by rw[fi]at z;cases z),λ_ z=>absurd rr z⟩;have k2:=k1.then s2;refine⟨T.Outlook,f,_,s2 _ _ o1,T.ρ,T.Ad,by show 1<1000;decide,h2 _ _ (b6 λN3 h3=>?_)⟩;clear h2;have al:j≠o:=λz=>by rw[z,o1]at n2;cases n2
 have k3:=k2.put (.ins T.Outlook f (dz "needs" (.ref j) (dz "web" (.ref p) [])));have o3:upd H2 o (.ins T.Outlook f (dz "needs" (.ref j) (dz "web" (.ref p) []))) o=some (.ins T.Outlook f (dz "needs" (.ref j) (dz "web" (.ref p) []))):=az;have e3:upd H2 o (.ins T.Outlook f (dz "needs" (.ref j) (dz "web" (.ref p) []))) j=_:=(aW al).trans e2;generalize upd H2 o (.ins T.Outlook f (dz "needs" (.ref j) (dz "web" (.ref p) [])))=H3 at k3 o3 e3 ⊢;have W3:=W.Xd k3 ho;walk_at "";refine⟨p,t,m,ps,L,r,rfl,W3,λ_ _=>⟨par,J,R,λla H4 n4 s4 e4=>⟨la,rfl,⟨_,ν.of e4⟩,λB af=>?_⟩⟩,λz=>absurd rr z⟩;have eN:=s4.free af;refine MV (K:=K) (c:=true) (xs:=qF m r par) (λi ys U S=>δ H4 S/\S B=some (.lst ys)/\(∃M:List Addr,ys=M.map V.ref/\Paired (λa v=>S a=some (.lst ((kd m L r par v).map V.int))) M ((cj m.toNat).take i)/\∀q∈M,q≠B)/\∃v w,U=[v,w,some (V.ref p)]) ⟨δ.new _ af,az,⟨[],rfl,.nil,by simp⟩,_,_,rfl⟩ (λi ys U S z=>ν.of (z.1 _ _ e4)) ?_ ?_
 .rintro i x ys U S q N hN hx ⟨s5,e5,⟨M,rfl,pk,hkq⟩,v,w,rfl⟩ nq;have il:i<m.toNat:=by
   have:=(aD.mp hx).1;unfold qF at this
   rwa [aa,cu]at this
  have ex:x=Pb.front r par (i:Int):=by
   have:=BK (m:=m) (r:=r) (par:=par) (v:=(i:Int)) (by lia) (by lia);rw[show((i:Int)).toNat=i from rfl,hx]at this;exact bN this
  have qe:=s5 _ _ e4;have s6:=δ.new (.tup [V.int i,x]) nq;have b0:=s5.trans s6;have et:(cj m.toNat).take (i+1)=(cj m.toNat).take i++[(i:Int)]:=by rw[bj,gS il];rfl
  have ev:M.length<=24:=by
   have:=Paired.length pk;rw[bA]at this
   lia
  walk_at "";refine⟨_,Δ.of az,rfl,_,_,rfl,_,_,rfl,rfl,?_⟩;refine⟨p,t,m,ps,L,i,x,rfl,W3.same (s4.trans b0),by lia,by lia,?_,λl6 H6 n6 s7 e7=>?_⟩
  .rw[ex];unfold Pb.front;split
   .exact .inl rfl
   .exact .inr ⟨_,rfl⟩
  have ae:=s6.trans s7;refine⟨ae _ _ e5,eg (by rw[aa];lia),hN _ _ _ ⟨(s5.trans ae).put af _,az,⟨M++[l6],by rw[au];rfl,?_,λq O=>?_⟩,_,_,rfl⟩⟩;have nk:l6≠B:=λz=>by rw[z,s6 _ _ e5]at n6;cases n6
  rotate_left
  .rcases aX.mp O with h|h
   .exact hkq q h
   .rw[aG.mp h];exact λz=>by rw[z,s6 _ _ e5]at n6;cases n6
  rw[et];refine Bi (by rw[aW nk,e7,ex]) (DZ (λq v O h=>?_) pk);have e:q≠B:=λz=>hkq q O z;rw[aW e];exact ae _ _ h
 .rintro ys U S ⟨s5,e5,⟨M,rfl,pk,hkq⟩,v,w,rfl⟩;rw[show(qF m r par).length=m.toNat by unfold qF;rw[aa,cu],cH (by rw[cu];exact aU _)]at pk;have o5:=s5 _ _ (s4 _ _ o3);have k5:=(k3.then s4).then s5;have cx:=s5 _ _ (s4 _ _ e3);refine⟨T.Outlook,f,_,o5,T.ρ,T.HV,by show 2<1000;decide,h3 _ _ (b6 λN4 h4=>?_)⟩;clear h3;have a1:B≠o:=λz=>by rw[z,o5]at e5;cases e5
  have k6:=k5.put (.ins T.Outlook f (dz "kids" (.ref B) (dz "needs" (.ref j) (dz "web" (.ref p) []))));have o6:upd S o (.ins T.Outlook f (dz "kids" (.ref B) (dz "needs" (.ref j) (dz "web" (.ref p) [])))) o=some (.ins T.Outlook f (dz "kids" (.ref B) (dz "needs" (.ref j) (dz "web" (.ref p) [])))):=az;have e6:upd S o (.ins T.Outlook f (dz "kids" (.ref B) (dz "needs" (.ref j) (dz "web" (.ref p) [])))) B=_:=(aW a1).trans e5;have ai:upd S o (.ins T.Outlook f (dz "kids" (.ref B) (dz "needs" (.ref j) (dz "web" (.ref p) [])))) j=_:=(aW al).trans cx;have ad:Paired (λa v=>upd S o (.ins T.Outlook f (dz "kids" (.ref B) (dz "needs" (.ref j) (dz "web" (.ref p) [])))) a=some (.lst ((kd m L r par v).map V.int))) M (cj m.toNat):=Paired.imp' (λq v h=>by rw[aW (eG h o5 (by nofun))];exact h) pk;generalize upd S o (.ins T.Outlook f (dz "kids" (.ref B) (dz "needs" (.ref j) (dz "web" (.ref p) []))))=H6 at k6 o6 e6 ai ad ⊢;walk_at "";refine⟨by decide,λl1 n1=>?_⟩;have s7:=δ.new (.lst [V.ο]) n1;obtain⟨cp,dr⟩:=(W.Xd k6 ho).ob;refine⟨T.Web,cp,_,s7 _ _ dr,T.Ι,T.Ψ,_,gI _ _,?_⟩;refine⟨l1,m,[V.ο],rfl,rfl,az,by lia,by lia,bL (by simp;lia),λC a5=>?_⟩;rw[ug];have s8:=s7.trans (δ.new (.lst (List.replicate m.toNat V.ο)) a5);have i8:upd (upd H6 l1 (.lst [V.ο])) C (.lst (List.replicate m.toNat V.ο)) C=some (.lst (List.replicate m.toNat V.ο)):=az;have X:=s7.free a5;generalize upd (upd H6 l1 (.lst [V.ο])) C (.lst (List.replicate m.toNat V.ο))=H8 at s8 i8 ⊢;have o8:=s8 _ _ o6;refine⟨T.Outlook,f,_,o8,T.ρ,T.Vu,by show 3<1000;decide,h4 _ (upd H8 o (.ins T.Outlook f (pp p j B C))) ?_⟩;clear h4;have k8:=(k6.then s8).put (.ins T.Outlook f (pp p j B C));have a7:C≠o:=λz=>by rw[z,o6]at X;cases X
  have O9:ϔ T.Web T.Outlook (upd H8 o (.ins T.Outlook f (pp p j B C))) o p t m ps L r par J (Ζ m L r par J (λv=>xs.getD v.toNat 0) (Xv L par)) j B C M (List.replicate m.toNat V.ο) (λ_=>False):=⟨⟨f,az⟩,W.Xd k8 ho,R,(aW al).trans (s8 _ _ ai),(aW a1).trans (s8 _ _ e6),Paired.imp' (λq v h=>by rw[aW (eG h o6 (by nofun))];exact s8 _ _ h) ad,(aW a7).trans i8,λc z=>z.elim,λu _ _ z=>z.elim⟩
  have k9:=k8;generalize upd H8 o (.ins T.Outlook f (pp p j B C))=H9 at O9 k9 ⊢;walk_at "";have cc:H C=none:=by
   cases e:H C with
   | none=>rfl
   | some x=>rw[k6 _ _ e a7]at X;cases X
  have cz:j≠C:=λz=>by rw[<-z,ai]at X;cases X
  have dl:B≠C:=λz=>by rw[<-z,e6]at X;cases X
  have b1:∀q∈M,q≠C:=λq O z=>by
   obtain⟨v,hv⟩:=Jm ad O;rw[z,X]at hv;cases hv
  refine⟨p,t,m,ps,L,r,rfl,O9.web,λ_ _=>⟨par,J,R,λlq qs tl e0 et aS X7 aH pa Or=>⟨lq,rfl,⟨_,ν.of aH⟩,?_⟩⟩,λz=>absurd rr z⟩;have co:lq≠C:=λz=>by rw[z,O9.hi]at aS;cases aS
  refine hZ (K:=K) (xs:=qs.map V.ref) (λi U Z=>Ϸ o H Z/\Z lq=some (.lst (qs.map V.ref))/\χ Z par qs tl.reverse/\E3 λ(bs:List V)(v4 v5:Option V)=>ϔ T.Web T.Outlook Z o p t m ps L r par J (Ζ m L r par J (λv=>xs.getD v.toNat 0) (Xv L par)) j B C M bs (λc=>c∈tl.drop (tl.length-i))/\bs.length=m.toNat/\(∀c,c∈tl.drop (tl.length-i)->∀a,aT bs c=some (.ref a)->a≠C)/\U=[some (V.ref o),some (V.ref p),some (V.ref a),some (V.int r),v4,v5]) ⟨k9.then X7,aH,pa,List.replicate m.toNat V.ο,_,_,(O9.same X7).sub (λc d=>?_) (λu _ _ hu=>?_),cf,λc d=>?_,rfl⟩ (λi U Z _ z=>ν.of z.2.1) ?_ ?_
  .rw[gc,dE]at d;cases d
  .rw[gc,dE]at hu;cases hu
  .rw[gc,dE]at d;cases d
  .rintro i x U Z N BB Λ hN hx ⟨k11,e11,XD,bs,v4,v5,Y8,bl,hda,rfl⟩;refine Λ _ _ ?_;obtain⟨q,v,rfl,O,hv,eq⟩:=XD.get hx;obtain⟨⟨vr,vn⟩,ed,_,a0,cq⟩:=Or.cut R hv;have hS:∀c∈kd m L r par v,c∈tl.drop (tl.length-i):=λc d=>by
    have w:=(cR g R vr.1 vr.2).mp d;exact cq c w.1.1 w.1.2 w.2.1 w.2.2
   walk_at "";refine⟨_,Δ.of eq,rfl,_,_,rfl,_,_,rfl,rfl,?_⟩;refine⟨o,p,t,m,ps,L,r,par,J,_,j,B,C,M,bs,_,v,rfl,Y8,vr,vn,hS,λl er a4 Ϣ Xe=>?_⟩;have Y:=Y8.same Ϣ;obtain⟨dp,cv⟩:=Y.ob;have nl:l≠C:=λz=>by rw[z,Y8.hi]at a4;cases a4
   refine⟨T.Outlook,dp,_,cv,T.ρ,T.Vu,_,CS _ _ _ _,pJ Y.hi vr.1 (by lia) (hN _ _ ⟨?_,?_,?_,_,_,_,(Y.put cz dl b1 (λc d=>⟨(a0 c d).1.1,hda c d⟩) bl vr.1 vr.2 hS Xe nl).sub (λc d=>?_) (λu u0 u1 hu c d=>?_),?_,?_,rfl⟩)⟩
   .exact λb y hb nb=>by rw[aW (dX hb cc)];exact Ϣ _ _ (k11 b y hb nb)
   .rw[aW co];exact Ϣ _ _ e11
   .exact Paired.imp' (λa b h=>by rw[aW (eG (Ϣ _ _ h) Y.hi (by nofun))];exact Ϣ _ _ h) XD
   .rw[ed]at d;exact aA.mp d
   .rw[ed];rw[ed]at hu;rcases aA.mp hu with rfl|hu
    .exact aw _ (hS c d)
    .exact aw _ (Y8.cl u u0 u1 hu c d)
   .rw[bz];exact bl
   .intro c d a' Wg;rw[ed]at d;by_cases e:c=v
    .subst e;rw[C3 vr.1,dg (by lia)]at Wg;cases Wg;exact nl
    .have d:=(aA.mp d).resolve_left e;have c0:=(a0 c d).1.1;rw[C3 c0,cG (by lia),<-C3 c0]at Wg;exact hda c d a' Wg
  .rintro BB U Z Λ ⟨k11,e11,XD,bs,v4,v5,Y8,bl,hda,rfl⟩;refine Λ _ _ ?_;have ql:qs.length=tl.reverse.length:=Paired.length XD;rw[aa,ql,bi,eT,eI]at Y8;walk_at "";refine k j B C M bs Z (Y8.sub (λc d=>?_) (λu u0 u1 hu c d=>?_)) k11
   .exact(Or.all c d.1.1 d.1.2).resolve_left d.2
   .have w:=(cR g R u0 u1).mp d;exact⟨w.1,w.2.1⟩
def Cd(T:Txt K I):Sp:=λh H Q _=>E9 λ(p a t:Addr)(c:Bool)(m:Int)(i:hD)(e:hR)(f:ej)(r:Int)=>h=[.ref p,.ref a,.int r]/\μ T.Web H p m t i e/\ϐ K c H a (f.map V.int)/\bI m f=true/\(0<=r/\r<m)/\∃b d,ε m e r b d/\∀l g,H l=none->δ H g->g l=some (.tup ((TN m e r b d (pB m e r b d f) r (-1)).map V.int))->Q (.ref l) g
abbrev uY:Stmt:=top 58
def Lo:ζ ["web","wish","r"] ["web","wish","r"] (aK uY):=.of
def sd:ϓ (aK uY) "Outlook":=.of
def K4(T:Txt K I)(z:bQ (τ P w))(n:Cm P w K I base (Mk K T.Outlook) "__init__" "Outlook.__init__" lR ["self","web","wish","r"] 56 (qR T)){S:Addr}{B:FuncData}(eN:Df K I "greatest_load" dA ["outlook","place","over"] S B)(gl:ύ P w K I base (τ P w) 54 S B ["outlook","place","over"] (qd T)):Ok P w K I base "failing" uY ["web","wish","r"] 58 (Cd T):=λ_ _ D=>by
 refine D.F.ϊ Lo λξ A q s H vs Q E U h=>?_;obtain⟨p,a,t,c,m,V,L,xs,r,rfl,W,ha,fi,i,f,e,R,k⟩:=h;have Β:=W.go.Β;refine⟨_,(aJ (bn (ϰ iI T.tuple (ag (pcq eN gl U z (ag (zR n.M n.G (U.mono (by decide)) sd.g T.VU n.b .nil (gJ z) (ag (γ 0) (ag (γ 1) (ag (γ 2) aq))) (hdb:=sd.d)) (ag (γ 2) (ag (uK rX aM) aq)))) aq)))),?_⟩;walk_at "t";intro o j y VG ne;have u:upd H j (.own o) o=none:=by rw[aW ne.symm];exact y
 have v:δ H (upd (upd H j (.own o)) o (.ins T.Outlook j [])):=(δ.new _ VG).trans (δ.new _ u);refine⟨o,j,p,a,t,c,m,V,L,xs,r,rfl,az,W.same v,δ.ϭ v ha,fi,i,f,e,R,λna ka Z Y bs H1 O kp=>?_⟩;have C:δ H H1:=λb x X=>kp b x (v b x X) (dX X y);refine⟨rfl,?_⟩;refine⟨o,p,t,m,V,L,r,f,e,_,na,ka,Z,Y,bs,_,r,_,rfl,O,i,by show m.toNat<=e r+1+24;lia,λc hc=>?_,λl H2 n2 J h2=>?_⟩
 .have w:=(cR W.go R i.1 i.2).mp hc;exact⟨w.1,w.2.1⟩
 .refine⟨l,rfl,_,.inl ⟨ν.of h2,λl3 N=>k l3 _ (C.free (J.free N)) ((C.trans J).trans (δ.new _ N)) az⟩⟩
def CG(T:Txt K I):Sp:=λe H Q E=>E8 λ(p a t:Addr)(c:Bool)(m:Int)(f:hD)(g:hR)(b:ej)=>e=[.ref p,.ref a]/\μ T.Web H p m t f g/\ϐ K c H a (b.map V.int)/\b.length<=1000/\(bI m b=true->∀d,δ H d->Q (.bl (decide (b.sum=0))) d)/\(bI m b=false->∀d,δ H d->E (.ref T.BadWish) none d)
abbrev zq:Stmt:=top 57
def K8:ζ ["web","wish"] ["web","wish"] (aK zq):=.of
def Ki(T:Txt K I)(B:bQ (τ P w))(u:zZ P w base T)(g:uE P w base T):Ok P w K I base "is_idle" zq ["web","wish"] 3 (CG T):=λ_ _ D=>by
 refine D.F.Ϻ K8 λy A d s H C Q E f h=>?_;obtain⟨p,a,t,c,m,v,q,b,rfl,W,i,o,k,e⟩:=h;refine⟨_,(aJ (bn (jB dJ (Κ u f bT (ag (Κ g f bT (ag (γ 0) (ag (γ 1) aq))) aq)) aM (i9 _)))),?_⟩;walk_at "t";refine⟨p,a,t,c,m,v,q,b,rfl,W,i,o,λj l n x _ r=>?_,e⟩;refine⟨l,_,rfl,.inr r,?_⟩;refine⟨rfl,?_⟩;rw[show decide (V.int b.sum=V.int 0)=decide (b.sum=0) by by_cases z:b.sum=0<;>simp[z]];exact k j n x
abbrev EF(P w base)(T:Txt K I):=Cb P w K I base "is_idle" zq ["web","wish"] 3 (CG T)
def GG(T:Txt K I):Sp:=λh H Q E=>E8 λ(p a t:Addr)(c:Bool)(m:Int)(i:hD)(g:hR)(b:ej)=>h=[.ref p,.ref a]/\μ T.Web H p m t i g/\ϐ K c H a (b.map V.int)/\b.length<=1000/\(bI m b=true->b.sum≠0->∃e f,ε m g (jm m b) e f/\∀l d,H l=none->δ H d->d l=some (.tup ((TN m g (jm m b) e f (pB m g (jm m b) e f b) (jm m b) (-1)).map V.int))->Q (.ref l) d)/\(bI m b=false->∀d,δ H d->E (.ref T.BadWish) none d)/\(bI m b=true->b.sum=0->∀d,δ H d->E (.ref T.NoWorst) none d)
abbrev tD:Stmt:=top 56
def GI:ζ ["web","wish","wanted_at"] ["web","wish"] (aK tD):=.of
def y7:Ve (aK tD) "wanted_at":=.of (by kernel_rfl)
def tW:ϓ (aK tD) "NoWorst":=.of
def Ec:ϓ (aK tD) "range":=.of
def Ps(T:Txt K I)(hq:bQ (τ P w))(Z:Cb P w K I base "failing" uY ["web","wish","r"] 58 (Cd T))(X:EF P w base T):Ok P w K I base "fails" tD ["web","wish"] 59 (GG T):=λ_ _ D=>by
 refine D.F.Ϻ GI λξ A B s H vs Q E O h=>?_;obtain⟨p,a,t,c,m,S,M,b,rfl,W,x,hz,k,e,e'⟩:=h;have g:=W.go;have Β:=g.Β;obtain⟨dw,wb⟩:=W.ob;refine⟨_,(ax (cg (mW (Κ X O bT (ag (γ 0) (ag (Us 1) aq)))) (aJ (rB T.VZ rfl sY tW.g T.Uu (ag bE aq) (hdb:=tW.d))) bR) (ax (sJ (i:=2) GI.nd rfl y7.l rfl (We ["place","wish"] 1 [1]) (jk Ec.g T.range (ag (dG (γ 0) rfl) aq)) (λ_ _ _ _=>(fF (i:=0) (show(["place","wish"]:hG).Nodup from by decide +kernel) rfl (Or.inl rfl))) (λ_ _ _ _=>(Ee (Υ xB (ω (QQ c K rfl) (pv 1) (pv 0)) aM))) (λ_ _ _ _=>(pv 0))) (aJ (bn (Κ Z O bT (ag (γ 0) (ag (Us 1) (ag (ω bC (γ 2) aM) aq)))))))),?_⟩;walk_at "t";refine⟨p,a,t,c,m,S,M,b,rfl,W,x,hz,λf L j=>?_,e⟩;refine⟨_,rfl,?_⟩;by_cases z:b.sum=0
 .rw[aj (by simpa using z)];exact⟨by decide,e' f z L j⟩
 .rw[ah (by simpa using z)];obtain⟨u,y,R,k⟩:=k f z;have xl:=jc f;have nn:=ES f;obtain⟨tl,C,Y,x0⟩:=JB xl nn z;refine⟨T.Web,dw,_,j _ _ wb,T.Ι,T.Ψ,_,gI _ _,m,rfl,by lia,by lia,λU G=>?_⟩;have ap:=j.free G;refine ku (λi o J n=>δ L n/\n U=some (.lst o)/\o=((cj i).filter λv=>decide (0<b.getD v.toNat 0)).map V.int/\∃v,J=[v,some (V.ref a)]) ⟨δ.new _ G,az,rfl,_,rfl⟩ ?_ ?_
  .rintro i o J n N hN hi ⟨s3,e3,rfl,v,rfl⟩;have ll:((cj i).filter λv=>decide (0<b.getD v.toNat 0)).length<=24:=by
    have h1:=bW (λv=>decide (0<b.getD v.toNat 0)) (cj i);rw[cu]at h1
    lia
   walk_at "";rw[ce];refine ixX (δ.ϭ (j.trans s3) x) (ϩ (by lia) (by lia)) ⟨_,rfl,?_⟩;rw[show((i:Int)).toNat=i from rfl];by_cases q:0<b.getD i 0
   .rw[aj q];refine⟨e3,eg (by rw[aa];lia),hN _ _ _ ⟨s3.put G _,az,?_,_,rfl⟩⟩;rw[sF,b7,bZ (by simpa using q),fH,au]
    rfl
   .rw[ah q];refine hN _ _ _ ⟨s3,e3,?_,_,rfl⟩;rw[sF,b7,b8 (by simpa using q),fH,bX]
  .rintro o J n ⟨s3,e3,rfl,v,rfl⟩;rw[C]at e3;have r:=j.trans s3;refine Θ (v:=V.int (jm m b)) e3 (iQ (by decide) rfl) ?_;exact⟨p,a,t,c,m,S,M,b,_,rfl,W.same r,δ.ϭ r x,f,Y,u,y,R,λl H4 n4 s4 h4=>k l H4 (r.free n4) (r.trans s4) h4⟩
abbrev JX(P w base)(T:Txt K I):=Cb P w K I base "fails" tD ["web","wish"] 59 (GG T)
def ER(T:Txt K I):Sp:=λh H Q E=>E8 λ(p a t:Addr)(c:Bool)(m:Int)(i:hD)(g:hR)(b:ej)=>h=[.ref p,.ref a]/\μ T.Web H p m t i g/\ϐ K c H a (b.map V.int)/\b.length<=1000/\(bI m b=true->b.sum≠0->∃e f,ε m g (jm m b) e f/\∀d,δ H d->Q (.int ((TN m g (jm m b) e f (pB m g (jm m b) e f b) (jm m b) (-1)).sum+1)) d)/\(bI m b=true->b.sum=0->∀d,δ H d->Q (.int 0) d)/\(bI m b=false->∀d,δ H d->E (.ref T.BadWish) none d)
abbrev Br:Stmt:=top 55
def Ni:ζ ["web","wish"] ["web","wish"] (aK Br):=.of
def Mn(T:Txt K I)(S:bQ (τ P w))(B:JX P w base T)(v:EF P w base T)(J:zZ P w base T):Ok P w K I base "always" Br ["web","wish"] 60 (ER T):=λ_ _ D=>by
 refine D.F.Ϻ Ni λO A j s H U Q E n h=>?_;obtain⟨p,a,t,c,m,u,r,f,rfl,W,o,q,k,e,G⟩:=h;refine⟨_,(ax (cg (mW (Κ v n bT (ag (γ 0) (ag (γ 1) aq)))) (aJ (bn aM)) bR) (aJ (bn (bg gm (Κ J n bT (ag (Κ B n bT (ag (γ 0) (ag (γ 1) aq))) aq)) aM)))),?_⟩;walk_at "t";refine⟨p,a,t,c,m,u,r,f,rfl,W,o,q,λg x b=>?_,G⟩;refine⟨_,rfl,?_⟩;by_cases z:f.sum=0
 .rw[aj (by simpa using z)];exact e g z x b
 .rw[ah (by simpa using z)];obtain⟨d,i,R,k⟩:=k g z;refine⟨p,a,t,c,m,u,r,f,rfl,W.same b,δ.ϭ b o,q,λ_ _=>⟨d,i,R,λl L N y M=>?_⟩,λz=>(by rw[g]at z;cases z),λ_ C=>absurd C z⟩;refine⟨l,_,rfl,.inr (Δ.of M),_,rfl,k L (b.trans y)⟩
def Au(T:Txt K I):Sp:=λh H Q E=>E9 λ(p a t:Addr)(c:Bool)(m:Int)(i:hD)(g:hR)(e:ej)(r:Int)=>h=[.ref p,.ref a,.int r]/\μ T.Web H p m t i g/\ϐ K c H a (e.map V.int)/\e.length<=1000/\(bI m e=true->0<=r->r<m->∃d f,ε m g r d f/\∀l b,H l=none->δ H b->b l=some (.lst ((oY m g r d f (λv=>e.getD v.toNat 0) (Ϭ g d)).map V.int))->Q (.ref l) b)/\(bI m e=false->∀b,δ H b->E (.ref T.BadLaying) none b)/\(bI m e=true->¬(0<=r/\r<m)->∀b,δ H b->E (.ref T.NoPlace) none b)
abbrev wV:Stmt:=top 66
def II:ζ ["web","laying","r","counts","place","front"] ["web","laying","r"] (aK wV):=.of
def Iv(T:Txt K I)(hq:bQ (τ P w))(dv:kL P w base T)(iY:vX P w base T)(dY:oU P w base T):Ok P w K I base "gathered" wV ["web","laying","r"] 8 (Au T):=λ_ _ D=>by
 refine D.F.Ϻ II λξ A S s H vs Q E hr h=>?_;obtain⟨p,a,t,c,m,ps,j,xs,r,rfl,W,ha,hz,k,e,e'⟩:=h;have g:=W.go;have Β:=g.Β;refine⟨_,(ax (Γ 3 (ϰ oX T.list (ag (Κ iY hr bT (ag (γ 0) (ag (γ 1) aq))) aq))) (ax (fh PassesOwn.leaving rfl (gC (Κ dv hr bT (ag (γ 0) (ag (γ 2) aq)))) (jK (n:=2) rfl (ci (ϑ 4) (ci (ϑ 5) g6))) (aJ (wM (γ 3) (γ 5) ud (bg iB (ω bC (γ 3) (γ 4)) (Κ dY hr bT (ag (γ 0) (ag (γ 4) (ag (γ 5) aq))))) wI hW))) (aJ (bn (γ 3))))),?_⟩;walk_at "t";refine⟨p,a,t,c,m,ps,j,xs,?_⟩;refine an6 rfl W ha hz (λC l0 H0 s0 _ e0=>?_) e;have xl:(xs.length:Int)=m:=by
  unfold bI at C;rw[bB]at C;exact bu C.1
 refine⟨l0,rfl,_,.inr e0,λl n1=>?_⟩;have s1:=δ.new (.lst (xs.map V.int)) n1;have G:=s0.trans s1;have nl:=s0.free n1;have U:upd H0 l (.lst (xs.map V.int)) l=some (.lst (xs.map V.int)):=az;generalize upd H0 l (.lst (xs.map V.int))=H1 at s1 G U ⊢;refine⟨p,t,m,ps,j,r,?_⟩;refine Wa rfl (W.same G) (λr0 r1=>?_) (λz=>e' C z H1 G);obtain⟨d,y,R,k⟩:=k C r0 r1;refine⟨d,y,R,λZ L M H2 _ n2 s2 e2 pa O=>?_⟩;have WQ:Z≠l:=λz=>by rw[z,U]at n2;cases n2
 refine⟨Z,rfl,⟨_,ν.of e2⟩,?_⟩;have ql:L.length=M.reverse.length:=Paired.length pa;refine hZ (K:=K) (xs:=L.map V.ref) (λi J f=>δ H f/\f Z=some (.lst (L.map V.ref))/\χ f d L M.reverse/\E3 λ(B:ej)(Y v5:Option V)=>f l=some (.lst (B.map V.int))/\Ϛ m j r d y (λv=>xs.getD v.toNat 0) (Ϭ j d) (M.drop (M.length-i)) B/\J=[some (V.ref p),some (V.ref a),some (V.int r),some (V.ref l),Y,v5]) ⟨G.trans s2,e2,pa,xs,_,_,s2 _ _ U,by rw[gc,dE];exact Ϛ.nil xl,rfl⟩ (λi J f _ z=>ν.of z.2.1) ?_ ?_
 .rintro i x J f N BB Λ hN hx ⟨s3,e3,Vg,B,Y,v5,c3,so,rfl⟩;refine Λ _ _ ?_;obtain⟨q,v,rfl,hq,hv,eq⟩:=Vg.get hx;obtain⟨⟨o,vn⟩,ev,Y7⟩:=O.turn g R so hv;have u:=R.up v o.1 o.2 vn;obtain⟨kk,X,k0,k1⟩:=jg g R o.1 o.2 vn;have cl:=so.len;walk_at "";refine⟨_,Δ.of eq,rfl,_,_,rfl,_,_,rfl,rfl,?_⟩;refine Θ c3 (ϩ u.1.1 (by lia)) (Θ c3 (ϩ o.1 (by lia)) ?_);refine⟨p,t,m,ps,j,v,d v,rfl,W.same s3,λk' _ _ _ _ h=>?_,λz=>absurd ⟨o,u.1⟩ z,λ_ _ _ _ z=>by rw[X]at z;cases z⟩;rw[X]at h;cases h;refine⟨_,rfl,_,rfl,⟨by lia,by lia⟩,_,rfl,pJ c3 u.1.1 (by rw[aa];lia) (hN _ _ ⟨s3.put nl _,?_,?_,rM d (Ϭ j d) B v,_,_,?_,Y7,rfl⟩)⟩
  .rw[aW WQ];exact e3
  .exact Paired.imp' (λa b h=>by rw[aW (eG h c3 (by nofun))];exact h) Vg
  .rw[az,<-dh];unfold rM Ϭ;rw[X]
   rfl
 .rintro BB J f Λ ⟨s3,e3,Vg,B,Y,v5,c3,so,rfl⟩;refine Λ _ _ ?_;rw[aa,ql,bi,eT,eI]at so;rw[O.done g R so]at c3;walk_at "";exact k l f nl s3 c3
abbrev B5(P w base)(T:Txt K I):=Cb P w K I base "gathered" wV ["web","laying","r"] 8 (Au T)
def G8(T:Txt K I):Sp:=λj H Q E=>E9 λ(p a t:Addr)(c:Bool)(m:Int)(k:hD)(g:hR)(f:ej)(r:Int)=>j=[.ref p,.ref a,.int r]/\μ T.Web H p m t k g/\ϐ K c H a (f.map V.int)/\f.length<=1000/\(bI m f=true->0<=r->r<m->∃b e,ε m g r b e/\∀l i h d,eE m g r b e r=r::h->H l=none->δ H d->d l=some (.lst (i.map V.ref))->Ϡ d m g r b e (λv=>f.getD v.toNat 0) i (eF m g r b e (λv=>f.getD v.toNat 0) h.reverse)->Order m r b h->Q (.ref l) d)/\(bI m f=false->∀d,δ H d->E (.ref T.BadLaying) none d)/\(bI m f=true->¬(0<=r/\r<m)->∀d,δ H d->E (.ref T.NoPlace) none d)
abbrev Eh:Stmt:=top 68
def Ov:ζ ["web","laying","r","counts","steps","place","front","times"] ["web","laying","r"] (aK Eh):=.of
def OY(T:Txt K I)(hq:bQ (τ P w))(pD:B5 P w base T)(dv:kL P w base T)(dY:oU P w base T):Ok P w K I base "bring" Eh ["web","laying","r"] 9 (G8 T):=λ_ _ D=>by
 refine D.F.Ϻ Ov λξ A ab s H vs Q E hr h=>?_;obtain⟨p,a,t,c,m,ps,j,xs,r,rfl,W,ha,hz,k,e,e'⟩:=h;have g:=W.go;have Β:=g.Β;refine⟨_,(ax (Γ 3 (Κ pD hr bT (ag (γ 0) (ag (γ 1) (ag (γ 2) aq))))) (ax (Γ 4 (ee aq)) (ax (fh PassesOwn.leaving rfl (gC (Κ dv hr bT (ag (γ 0) (ag (γ 2) aq)))) (jK (n:=2) rfl (ci (ϑ 5) (ci (ϑ 6) g6))) (ax (Γ 7 (bg iB (ω bC (γ 3) (γ 5)) (Κ dY hr bT (ag (γ 0) (ag (γ 5) (ag (γ 6) aq)))))) (aJ (cg (Υ xB (γ 7) aM) (aJ (cV (Uj (γ 4) (lN (ag (γ 5) (ag (γ 6) (ag (γ 7) aq))))))) bR)))) (aJ (bn (γ 4)))))),?_⟩;walk_at "s";refine b6 λN1 g1=>?_;walk_at "";refine⟨p,a,t,c,m,ps,j,xs,r,?_⟩;refine an7 rfl W ha hz (λfi r0 r1=>?_) e e';obtain⟨d,f,R,k⟩:=k fi r0 r1;refine⟨d,f,R,λlc H1 nc s1 ec=>g1 _ _ (b6 λN2 g2=>?_)⟩;clear g1;walk_at "";refine⟨bL (by simp),λB M=>g2 _ _ (b6 λN3 g3=>?_)⟩;clear g2;have s2:=δ.new (.lst []) M;have X9:=s1.free M;have Ϣ:=s1.trans s2;have es:upd H1 B (.lst []) B=some (.lst []):=az;have Yb:=s2 _ _ ec;generalize upd H1 B (.lst [])=H2 at s2 Ϣ es Yb ⊢;walk_at "";refine⟨p,t,m,ps,j,r,?_⟩;refine Wa rfl (W.same Ϣ) (λ_ _=>⟨d,f,R,λl2 L l H3 et n2 S e3 pa O=>?_⟩) (λz=>absurd ⟨r0,r1⟩ z);refine⟨l2,rfl,⟨_,ν.of e3⟩,?_⟩;have ql:L.length=l.reverse.length:=Paired.length pa;have ll:=uC g R r0 r1;rw[et,aR]at ll;have Z:l2≠B:=λz=>by rw[z,es]at n2;cases n2
 have U:lc≠B:=λz=>by rw[<-z,ec]at M;cases M
 have TY:=Ϣ.trans S;refine hZ (K:=K) (xs:=L.map V.ref) (λi J y=>δ H y/\y l2=some (.lst (L.map V.ref))/\y lc=some (.lst ((oY m j r d f (λv=>xs.getD v.toNat 0) (Ϭ j d)).map V.int))/\χ y d L l.reverse/\E4 λ(C:hD)(v5 X v7:Option V)=>y B=some (.lst (C.map V.ref))/\Ϡ y m j r d f (λv=>xs.getD v.toNat 0) C (eF m j r d f (λv=>xs.getD v.toNat 0) (l.reverse.take i))/\J=[some (V.ref p),some (V.ref a),some (V.int r),some (V.ref lc),some (V.ref B),v5,X,v7]) ⟨TY,e3,S _ _ Yb,pa,[],_,_,_,S _ _ es,.nil,rfl⟩ (λi J y _ z=>ν.of z.2.1) ?_ ?_
 .rintro i x J y N BB Λ hN hx ⟨s4,e4,c4,VI,C,v5,X,v7,u4,ba,rfl⟩;refine Λ _ _ ?_;obtain⟨q,v,rfl,hq,hv,eq⟩:=VI.get hx;have vm:v∈l:=dq.mp (aQ hv);obtain⟨G,vn⟩:=O.places v vm;have u:=R.up v G.1 G.2 vn;obtain⟨kk,hk,k0,k1⟩:=jg g R G.1 G.2 vn;have Ud:l.reverse.take (i+1)=l.reverse.take i++[v]:=by rw[bj,hv];rfl
  have ul:C.length=(eF m j r d f (λv=>xs.getD v.toNat 0) (l.reverse.take i)).length:=Paired.length ba;have bt:C.length<=24:=by
   rw[ul];refine aV (bW _ _) ?_;rw[bA,bi]
   lia
  walk_at "";refine⟨_,Δ.of eq,rfl,_,_,rfl,_,_,rfl,rfl,?_⟩;refine Θ c4 (ϩ G.1 (by unfold oY;rw[aa,cu];lia)) ?_;rw[uu G.1 G.2];refine⟨p,t,m,ps,j,v,d v,rfl,W.same s4,λk' _ _ _ _ h=>?_,λz=>absurd ⟨G,u.1⟩ z,λ_ _ _ _ z=>by rw[hk]at z;cases z⟩;rw[hk]at h;cases h;refine⟨_,rfl,_,rfl,⟨by lia,by lia⟩,?_⟩;have Y:Ζ m j r d f (λv=>xs.getD v.toNat 0) (Ϭ j d) v/kk=gE m j r d f (λv=>xs.getD v.toNat 0) v:=by
   unfold gE Ϭ;rw[hk]
   rfl
  rw[Y];by_cases c:0<gE m j r d f (λv=>xs.getD v.toNat 0) v
  .rw[aj c];refine⟨Rw u4,bL (by simp),λq5 n5=>?_⟩;have o:=δ.new (.tup (Lb m j r d f (λv=>xs.getD v.toNat 0) v)) n5;refine mM (o _ _ u4) (eg (by rw[aa];lia)) (hN _ _ ⟨(s4.trans o).put X9 _,?_,?_,?_,C++[q5],_,_,_,?_,?_,rfl⟩)
   .rw[aW Z];exact o _ _ e4
   .rw[aW U];exact o _ _ c4
   .exact Paired.imp' (λa b h=>by rw[aW (eG (o _ _ h) (o _ _ u4) (by nofun))];exact o _ _ h) VI
   .rw[az,au];rfl
   .have n5s:q5≠B:=λz=>by rw[z,u4]at n5;cases n5
    have eb:eF m j r d f (λv=>xs.getD v.toNat 0) (l.reverse.take (i+1))=eF m j r d f (λv=>xs.getD v.toNat 0) (l.reverse.take i)++[v]:=by
     rw[Ud,KU c]
    rw[eb];refine Ϡ.snoc (by rw[aW n5s,az];rfl) ?_;exact Paired.imp' (λa b h=>by rw[aW (eG (o _ _ h) (o _ _ u4) (by nofun))];exact o _ _ h) ba
  .rw[ah c];have eb:eF m j r d f (λv=>xs.getD v.toNat 0) (l.reverse.take (i+1))=eF m j r d f (λv=>xs.getD v.toNat 0) (l.reverse.take i):=by
    rw[Ud,KO c]
   exact hN _ _ ⟨s4,e4,c4,VI,C,_,_,_,u4,by rw[eb];exact ba,rfl⟩
 .rintro BB J y Λ ⟨s4,e4,c4,VI,C,v5,X,v7,u4,ba,rfl⟩;refine Λ _ _ (g3 _ _ ?_);rw[aa,ql,bx]at ba;walk_at "";exact k B C l y et X9 s4 u4 ba O
def ze(T:Txt K I):Sp:=λd H Q _=>E10 λ(p t:Addr)(m:Int)(e:hD)(c:hR)(x v u b a:Int)=>d=[.ref p,.int x,.int v,.int u]/\μ T.Web H p m t e c/\(0<=v/\v<m)/\(0<=u/\u<m)/\cD c v u=some b/\cD c u v=some a/\(2<=b/\b<=1000000)/\(2<=a/\a<=1000000)/\Q (.int (if 0<=x then x/b else x*a)) H
abbrev vF:Stmt:=top 46
def Hf:ζ ["web","over","place","front"] ["web","over","place","front"] (aK vF):=.of
def Gg(T:Txt K I)(y:bQ (τ P w))(b:oU P w base T):Ok P w K I base "handed_on" vF ["web","over","place","front"] 4 (ze T):=λ_ _ D=>by
 refine D.F.Ϻ Hf λr A a s H G Q E i h=>?_;obtain⟨p,t,m,j,e,x,v,u,C,B,rfl,W,f,d,g,l,n,o,k⟩:=h;refine⟨_,(ax (cg (Υ wY (γ 1) aM) (aJ (bn (bg iB (γ 1) (Κ b i bT (ag (γ 0) (ag (γ 2) (ag (γ 3) aq))))))) bR) (aJ (bn (bg kR (γ 1) (Κ b i bT (ag (γ 0) (ag (γ 3) (ag (γ 2) aq)))))))),?_⟩;walk_at "t";by_cases c:0<=x
 .rw[aj c]at k ⊢;refine⟨p,t,m,j,e,v,u,rfl,W,λq _ _ _ _ h=>?_,λz=>absurd ⟨f,d⟩ z,λ_ _ _ _ z=>by rw[g]at z;cases z⟩;rw[g]at h;cases h;exact⟨_,rfl,⟨by lia,by lia⟩,k⟩
 .rw[ah c]at k ⊢;refine⟨p,t,m,j,e,u,v,rfl,W,λq _ _ _ _ h=>?_,λz=>absurd ⟨d,f⟩ z,λ_ _ _ _ z=>by rw[l]at z;cases z⟩;rw[l]at h;cases h;exact⟨_,rfl,.inr ⟨by lia,by lia⟩,k⟩
abbrev Az(P w base)(T:Txt K I):=Cb P w K I base "handed_on" vF ["web","over","place","front"] 4 (ze T)
def yw(T:Txt K I):Sp:=λk H Q E=>YV λ(p a b t:Addr)(c d:Bool)(m:Int)(n:hD)(j:hR)(g h:ej)(r:Int)=>k=[.ref p,.ref a,.ref b,.int r]/\μ T.Web H p m t n j/\ϐ K c H a (g.map V.int)/\g.length<=1000/\ϐ K d H b (h.map V.int)/\h.length<=1000/\(bI m g=true->bI m h=true->0<=r->r<m->∃f i,ε m j r f i/\∀l e,H l=none->δ H e->e l=some (.lst ((oY m j r f i (λv=>(dS m g h).getD v.toNat 0) (ό j f)).map V.int))->Q (.ref l) e)/\(bI m g=false->∀e,δ H e->E (.ref T.BadLaying) none e)/\(bI m g=true->bI m h=false->∀e,δ H e->E (.ref T.BadWish) none e)/\(bI m g=true->bI m h=true->¬(0<=r/\r<m)->∀e,δ H e->E (.ref T.NoPlace) none e)
abbrev mq:Stmt:=top 45
def qz:ζ ["web","laying","wish","r","has","wanted","over","place","front"] ["web","laying","wish","r"] (aK mq):=.of
def BF:Wx (aK mq) "has":=.of (by kernel_rfl)
def yh:Wx (aK mq) "wanted":=.of (by kernel_rfl)
def Ao:Ve (aK mq) "over":=.of (by kernel_rfl)
def y8:ϓ (aK mq) "range":=.of
def Gp(T:Txt K I)(hq:bQ (τ P w))(nQ:Az P w base T)(dv:kL P w base T)(iY:vX P w base T)(ji:uE P w base T):Ok P w K I base "standings" mq ["web","laying","wish","r"] 8 (yw T):=λ_ _ D=>by
 refine D.F.Ϻ qz λξ A an s H vs Q E hr h=>?_;obtain⟨p,a,b,t,c,d,m,ps,G,xs,C,r,rfl,W,ha,hz,hb,hy,k,e1,e2,e3⟩:=h;have g:=W.go;have m1:=g.m1;have Β:=g.Β;refine⟨_,(ax (se (i:=4) qz.nd rfl (Or.inr BF.l) (Κ iY hr bT (ag (γ 0) (ag (γ 1) aq)))) (ax (se (i:=5) qz.nd rfl (Or.inr yh.l) (Κ ji hr bT (ag (γ 0) (ag (γ 2) aq)))) (ax (sJ (i:=6) qz.nd rfl Ao.l rfl (We ["place","has","wanted"] 1 [4,5]) (jk y8.g T.range (ag (dG (γ 0) rfl) aq)) (λ_ _ _ _=>(fF (i:=0) (show(["place","has","wanted"]:hG).Nodup from by decide +kernel) rfl (Or.inl rfl))) (λ_ _ _ _=>ik) (λ_ _ _ _=>(bg j5 (ω (J4 K rfl) (pv 1) (pv 0)) (ω (J4 K rfl) (pv 2) (pv 0))))) (ax (fh PassesOwn.leaving rfl (gC (Κ dv hr bT (ag (γ 0) (ag (γ 3) aq)))) (jK (n:=2) rfl (ci (ϑ 7) (ci (ϑ 8) g6))) (aJ (wM (γ 6) (γ 8) ud (Κ nQ hr bT (ag (γ 0) (ag (ω bC (γ 6) (γ 7)) (ag (γ 7) (ag (γ 8) aq))))) wI hW))) (aJ (bn (γ 6))))))),?_⟩;walk_at "s";refine b6 λN1 g1=>?_;walk_at "";refine⟨p,a,t,c,m,ps,G,xs,rfl,W,ha,hz,λfi la H1 Y _ ea=>g1 _ _ (b6 λN2 g2=>?_),e1⟩;clear g1;walk_at "";refine⟨p,b,t,d,m,ps,G,C,rfl,W.same Y,δ.ϭ Y hb,hy,λX lb H2 Z _ eb=>g2 _ _ (b6 λN3 g3=>?_),λX H2 Z=>e2 fi X H2 (Y.trans Z)⟩;clear g2;walk_at "";have S:∀{j:ej},bI m j=true->(j.length:Int)=m:=λ{j} f=>by
  unfold bI at f;rw[bB]at f;exact bu f.1
 have xl:=S fi;have yl:=S X;have Ϣ:=Y.trans Z;have W2:=W.same Ϣ;obtain⟨dx,ob⟩:=W2.ob;refine⟨T.Web,dx,_,ob,T.Ι,T.Ψ,_,gI m t,m,rfl,by lia,by lia,λlo no=>?_⟩;have ak:=δ.tup Z ea;refine ku (λi j o J=>δ H2 J/\J lo=some (.lst j)/\j=((List.range i).map λi=>xs.getD i 0-C.getD i 0).map V.int/\∃v,o=[v,some (V.ref la),some (V.ref lb)]) ⟨δ.new _ no,az,rfl,_,rfl⟩ ?_ ?_
 .rintro i j o J N hN hi ⟨s3,e3',rfl,v,rfl⟩;rw[ce];have i0:(0:Int)<=(i:Int):=by lia
  have ga:=ϩ (xs:=xs) i0 (by lia);have gb:=ϩ (xs:=C) i0 (by lia);rw[bM]at ga gb;walk_at "";refine Gu (δ.tup s3 ak) ga (Gu (δ.tup s3 eb) gb ⟨_,rfl,_,rfl,e3',eg (by simp;lia),hN _ _ _ ⟨s3.put no _,az,?_,_,rfl⟩⟩);rw[gQ,au,au]
  rfl
 .rintro j o J ⟨s3,e3',rfl,v,rfl⟩;have M:=Ϣ.free no;refine g3 _ _ (b6 λN4 g4=>?_);clear g3;walk_at "";have TY:=Ϣ.trans s3;have ol:=Mi (m:=m) (by lia) xs C;change J lo=some (.lst ((dS m xs C).map V.int))at e3';refine⟨p,t,m,ps,G,r,rfl,W.same TY,λr0 r1=>?_,λz=>e3 fi X z J TY⟩;obtain⟨e,L,R,k⟩:=k fi X r0 r1;refine⟨e,L,R,λl2 qs tl H4 _ n2 s4 e4 pa O=>?_⟩;have WQ:l2≠lo:=λz=>by rw[z,e3']at n2;cases n2
  refine⟨l2,rfl,⟨_,ν.of e4⟩,?_⟩;have ql:qs.length=tl.reverse.length:=Paired.length pa;refine uJ (K:=K) (xs:=qs.map V.ref) (λi o y=>δ H y/\y l2=some (.lst (qs.map V.ref))/\χ y e qs tl.reverse/\E3 λ(U:ej)(v4 v5:Option V)=>y lo=some (.lst (U.map V.int))/\Ϛ m G r e L (λv=>(dS m xs C).getD v.toNat 0) (ό G e) (tl.drop (tl.length-i)) U/\o=[some (V.ref p),some (V.ref a),some (V.ref b),some (V.int r),some (V.ref la),some (V.ref lb),some (V.ref lo),v4,v5]) ⟨TY.trans s4,e4,pa,dS m xs C,_,_,s4 _ _ e3',by rw[gc,dE];exact Ϛ.nil ol,rfl⟩ (λi o y _ z=>ν.of z.2.1) ?_ ?_
  .rintro i x o y N hN hx ⟨s5,e5,Y9,U,v4,v5,c5,so,rfl⟩;obtain⟨q,v,rfl,hq,hv,eq⟩:=Y9.get hx;obtain⟨⟨B,vn⟩,ev,Y7⟩:=O.turn g R so hv;have u:=R.up v B.1 B.2 vn;obtain⟨kk,hk,k0,k1⟩:=jg g R B.1 B.2 vn;obtain⟨kd,hd,d0,d1⟩:=rE g R B.1 B.2 vn;have cl:=so.len;walk_at "";refine⟨_,Δ.of eq,rfl,_,_,rfl,_,_,rfl,rfl,?_⟩;refine Θ c5 (ϩ u.1.1 (by lia)) (Θ c5 (ϩ B.1 (by lia)) ?_);refine⟨p,t,m,ps,G,_,v,e v,kk,kd,rfl,W.same s5,B,u.1,hk,hd,⟨k0,k1⟩,⟨d0,d1⟩,?_⟩;refine⟨_,rfl,_,rfl,pJ c5 u.1.1 (by rw[aa];lia) (hN _ _ ⟨s5.put M _,?_,?_,rM e (ό G e) U v,_,_,?_,Y7,rfl⟩)⟩
   .rw[aW WQ];exact e5
   .exact Paired.imp' (λa b h=>by rw[aW (eG h c5 (by nofun))];exact h) Y9
   .rw[az,<-dh];unfold rM ό;rw[hk,hd]
    rfl
  .rintro o y ⟨s5,e5,Y9,U,v4,v5,c5,so,rfl⟩;refine g4 _ _ ?_;rw[aa,ql,bi,eT,eI]at so;rw[O.done g R so]at c5;walk_at "";exact k lo y M s5 c5
abbrev wa(P w base)(T:Txt K I):=Cb P w K I base "standings" mq ["web","laying","wish","r"] 8 (yw T)
def AV(T:Txt K I):Sp:=λk H Q E=>YV λ(p a b t:Addr)(c d:Bool)(m:Int)(l:hD)(j:hR)(g h:ej)(r:Int)=>k=[.ref p,.ref a,.ref b,.int r]/\μ T.Web H p m t l j/\ϐ K c H a (g.map V.int)/\g.length<=1000/\ϐ K d H b (h.map V.int)/\h.length<=1000/\(bI m g=true->bI m h=true->0<=r->r<m->∃f i,ε m j r f i/\∀e,δ H e->Q (.int (Ζ m j r f i (λv=>(dS m g h).getD v.toNat 0) (ό j f) r)) e)/\(bI m g=false->∀e,δ H e->E (.ref T.BadLaying) none e)/\(bI m g=true->bI m h=false->∀e,δ H e->E (.ref T.BadWish) none e)/\(bI m g=true->bI m h=true->¬(0<=r/\r<m)->∀e,δ H e->E (.ref T.NoPlace) none e)
abbrev xD:Stmt:=top 47
def IZ:ζ ["web","laying","wish","r"] ["web","laying","wish","r"] (aK xD):=.of
def IL(T:Txt K I)(V:bQ (τ P w))(u:wa P w base T):Ok P w K I base "standing" xD ["web","laying","wish","r"] 9 (AV T):=λ_ _ D=>by
 refine D.F.Ϻ IZ λU A g s H Y Q E M h=>?_;obtain⟨p,a,b,t,c,d,m,N,L,x,o,r,rfl,W,q,G,S,z,k,i,J,v⟩:=h;refine⟨_,(aJ (bn (rP bC (Κ u M bT (ag (γ 0) (ag (γ 1) (ag (γ 2) (ag (γ 3) aq))))) (γ 3) (λ_ _=>rfl)))),?_⟩;walk_at "t";refine⟨p,a,b,t,c,d,m,N,L,x,o,r,rfl,W,q,G,S,z,λy O j n=>?_,i,J,v⟩;obtain⟨e,f,R,k⟩:=k y O j n;refine⟨e,f,R,λl C X B i=>?_⟩;refine Θ i (ϩ j ?_) ?_
 .unfold oY;rw[aa,cu];lia
 .rw[uu j n];exact k C B
abbrev xy(P w base)(T:Txt K I):=Cb P w K I base "standing" xD ["web","laying","wish","r"] 9 (AV T)
def Eu(T:Txt K I):Sp:=λk H Q E=>W9 λ(p a b t:Addr)(c d:Bool)(m:Int)(l:hD)(j:hR)(g h:ej)=>k=[.ref p,.ref a,.ref b]/\μ T.Web H p m t l j/\ϐ K c H a (g.map V.int)/\g.length<=1000/\ϐ K d H b (h.map V.int)/\h.length<=1000/\(bI m g=true->bI m h=true->∃f i,ε m j 0 f i/\∀e,δ H e->Q (.bl (decide (0<=Ζ m j 0 f i (λv=>(dS m g h).getD v.toNat 0) (ό j f) 0))) e)/\(bI m g=false->∀e,δ H e->E (.ref T.BadLaying) none e)/\(bI m g=true->bI m h=false->∀e,δ H e->E (.ref T.BadWish) none e)
abbrev BJ:Stmt:=top 48
def LC:ζ ["web","laying","wish"] ["web","laying","wish"] (aK BJ):=.of
def L6(T:Txt K I)(N:bQ (τ P w))(B:xy P w base T):Ok P w K I base "is_met" BJ ["web","laying","wish"] 10 (Eu T):=λ_ _ D=>by
 refine D.F.Ϻ LC λM A g s H O Q E C h=>?_;obtain⟨p,a,b,t,c,d,m,G,x,o,j,rfl,W,l,u,L,r,k,y,v⟩:=h;have m1:=W.go.m1;refine⟨_,(aJ (bn (jB wY (Κ B C bT (ag (γ 0) (ag (γ 1) (ag (γ 2) (ag aM aq))))) aM (i9 _)))),?_⟩;walk_at "t";refine⟨p,a,b,t,c,d,m,G,x,o,j,0,rfl,W,l,u,L,r,λq J _ _=>?_,y,v,λ_ _ z=>absurd ⟨bF _,by lia⟩ z⟩;obtain⟨e,f,R,k⟩:=k q J;exact⟨e,f,R,λn i=>⟨_,rfl,k n i⟩⟩
def LX{m:Int}{a:hR}{b:hP}{e:Int->Int->Nat}{c d:ej}{i:Nat}:lB m a b e c d (i+1)=lB m a b e c d i++[Ζ m a i (b i) (e i) (λv=>(dS m c d).getD v.toNat 0) (ό a (b i)) i]:=by
 unfold lB;rw[sF,au]
 rfl
def AQ(T:Txt K I):Sp:=λk H Q _=>E13 λ(p a b t:Addr)(c d:Bool)(m:Int)(n:hD)(h:hR)(g e:ej)(j:hP)(i:Int->Int->Nat)=>k=[.ref p,.ref a,.ref b]/\μ T.Web H p m t n h/\ϐ K c H a (g.map V.int)/\bI m g=true/\ϐ K d H b (e.map V.int)/\bI m e=true/\(∀r,0<=r->r<m->ε m h r (j r) (i r))/\∀l f,H l=none->δ H f->f l=some (.tup (((lB m h j i g e m.toNat).map λx=>-x).map V.int))->Q (.ref l) f
abbrev sS:Stmt:=top 52
def Im:ζ ["web","laying","wish"] ["web","laying","wish"] (aK sS):=.of
def Ap:ϓ (aK sS) "range":=.of
def Ir(T:Txt K I)(X:bQ (τ P w))(j:xy P w base T):Ok P w K I base "lacks_of" sS ["web","laying","wish"] 10 (AQ T):=λ_ _ D=>by
 refine D.F.ϊ Im λξ A n s H vs Q E hr h=>?_;obtain⟨p,a,b,t,c,d,m,ps,J,u,r,R,C,rfl,W,U,S,hb,L,Z,k⟩:=h;have g:=W.go;have Β:=g.Β;have m1:=g.m1;have xl:=jc S;have yl:=jc L;obtain⟨Y,ob⟩:=W.ob;refine⟨_,(aJ (bn (ϰ iI T.tuple (ag (iE rfl (We ["r","web","laying","wish"] 1 [0,1,2]) (jk Ap.g T.range (ag (dG (Us 0) rfl) aq)) (λ_ _ _ _=>(fF (i:=0) (show(["r","web","laying","wish"]:hG).Nodup from by decide +kernel) rfl (Or.inl rfl))) (λ_ _ _ _=>ik) (λ_ _ _ _=>(uK rX (iU j.G (hr.mono (by decide)) (by rfl) j.D.m j.D.F.kp j.D.b .nil (gJ X) (ag (pv 1) (ag (pv 2) (ag (pv 3) (ag (pv 0) aq)))))))) aq)))),?_⟩;walk_at "t";refine⟨T.Web,Y,_,ob,T.Ι,T.Ψ,_,gI m t,m,rfl,by lia,by lia,λq y=>?_⟩;refine ku (λi f o e=>δ H e/\e q=some (.lst f)/\f=((lB m J R C u r i).map λx=>-x).map V.int/\∃v,o=[v,some (V.ref p),some (V.ref a),some (V.ref b)]) ⟨δ.new _ y,az,rfl,_,rfl⟩ ?_ ?_
 .rintro i f o e N hN hi ⟨s3,e3,rfl,v,rfl⟩;rw[ce];have B:(0:Int)<=(i:Int):=by lia
  have M:(i:Int)<m:=by lia
  walk_at "";refine⟨p,a,b,t,c,d,m,ps,J,u,r,(i:Int),rfl,W.same s3,δ.ϭ s3 U,by lia,δ.ϭ s3 hb,by lia,λ_ _ _ _=>⟨R i,C i,Z i B M,λH4 O=>?_⟩,(λz=>by rw[S]at z;cases z),(λ_ z=>by rw[L]at z;cases z),λ_ _ z=>absurd ⟨B,M⟩ z⟩;refine⟨_,rfl,O _ _ e3,eg (by rw[aa,aa,rz];lia),hN _ _ _ ⟨(s3.trans O).put y _,az,?_,_,rfl⟩⟩;rw[LX,au,au]
  rfl
 .rintro f o e ⟨s3,e3,rfl,v,rfl⟩;refine⟨q,rfl,_,.inl ⟨ν.of e3,λl nl=>?_⟩⟩;exact k l _ (s3.free nl) (s3.trans (δ.new _ nl)) az
def AN(T:Txt K I):Sp:=λo H Q _=>E14 λ(p a b t:Addr)(c d:Bool)(m:Int)(q:hD)(g:hR)(j i:ej)(r:Int)(e:eX)(f:fb)=>o=[.ref p,.ref a,.ref b,.int r]/\μ T.Web H p m t q g/\ϐ K c H a (j.map V.int)/\bI m j=true/\ϐ K d H b (i.map V.int)/\bI m i=true/\(0<=r/\r<m)/\ε m g r e f/\∀l n k h,eE m g r e f r=r::k->H l=none->δ H h->h l=some (.lst (n.map V.ref))->Τ h n (iP g e (ψ m g r e f i j) k.reverse)->Order m r e k->Q (.ref l) h
abbrev xw:Stmt:=top 50
def Iw:ζ ["web","laying","wish","r","over","steps","place","front","times"] ["web","laying","wish","r"] (aK xw):=.of
def IX(T:Txt K I)(L:bQ (τ P w))(nQ:Az P w base T)(dv:kL P w base T)(jF:wa P w base T):Ok P w K I base "steps_in" xw ["web","laying","wish","r"] 9 (AN T):=λ_ _ D=>by
 refine D.F.ϊ Iw λξ A ad s H vs Q E hr h=>?_;obtain⟨p,a,b,t,c,d,m,ps,j,xs,o,r,e,f,rfl,W,ha,fx,hb,fy,rr,R,k⟩:=h;obtain⟨r0,r1⟩:=rr;have g:=W.go;have Β:=g.Β;have xl:=jc fx;have yl:=jc fy;refine⟨_,(ax (Γ 4 (Ν jF hr L (ag (γ 0) (ag (γ 1) (ag (γ 2) (ag (γ 3) aq)))))) (ax (Γ 5 (ee aq)) (ax (fh PassesOwn.never rfl (gC (Ν dv hr L (ag (γ 0) (ag (γ 3) aq)))) (jK (n:=2) rfl (ci (ϑ 6) (ci (ϑ 7) g6))) (ax (Γ 8 (Ν nQ hr L (ag (γ 0) (ag (ω bC (γ 4) (γ 6)) (ag (γ 6) (ag (γ 7) aq)))))) (aJ (cg (Υ xB (γ 8) aM) (aJ (cV (Uj (γ 5) (lN (ag (γ 6) (ag (γ 7) (ag (γ 8) aq))))))) bR)))) (aJ (bn (γ 5)))))),?_⟩;walk_at "s";refine b6 λN1 g1=>?_;walk_at "";refine⟨p,a,b,t,c,d,m,ps,j,xs,o,r,rfl,W,ha,by lia,hb,by lia,λ_ _ _ _=>⟨e,f,R,λlc H1 nc s1 ec=>g1 _ _ (b6 λN2 g2=>?_)⟩,(λz=>by rw[fx]at z;cases z),(λ_ z=>by rw[fy]at z;cases z),λ_ _ z=>absurd ⟨r0,r1⟩ z⟩;clear g1;walk_at "";refine⟨bL (by simp),λC X=>g2 _ _ (b6 λN3 g3=>?_)⟩;clear g2;have s2:=δ.new (.lst []) X;have X9:=s1.free X;have Ϣ:=s1.trans s2;have es:upd H1 C (.lst []) C=some (.lst []):=az;have Yb:=s2 _ _ ec;generalize upd H1 C (.lst [])=H2 at s2 Ϣ es Yb ⊢;walk_at "";refine⟨p,t,m,ps,j,r,?_⟩;refine Wa rfl (W.same Ϣ) (λ_ _=>⟨e,f,R,λl2 U J H3 et n2 Y e3 pa O=>?_⟩) (λz=>absurd ⟨r0,r1⟩ z);refine⟨l2,rfl,⟨_,ν.of e3⟩,?_⟩;have ql:U.length=J.reverse.length:=Paired.length pa;have ll:=uC g R r0 r1;rw[et,aR]at ll;have ac:l2≠C:=λz=>by rw[z,es]at n2;cases n2
 have Z:lc≠C:=λz=>by rw[<-z,ec]at X;cases X
 have TY:=Ϣ.trans Y;refine hZ (K:=K) (xs:=U.map V.ref) (λi M B=>δ H B/\B l2=some (.lst (U.map V.ref))/\B lc=some (.lst ((oY m j r e f (λv=>(dS m xs o).getD v.toNat 0) (ό j e)).map V.int))/\χ B e U J.reverse/\E4 λ(G:hD)(v5 v6 v7:Option V)=>B C=some (.lst (G.map V.ref))/\Τ B G (iP j e (ψ m j r e f o xs) (J.reverse.take i))/\M=[some (V.ref p),some (V.ref a),some (V.ref b),some (V.int r),some (V.ref lc),some (V.ref C),v5,v6,v7]) ⟨TY,e3,Y _ _ Yb,pa,[],_,_,_,Y _ _ es,.nil,rfl⟩ (λi M B _ z=>ν.of z.2.1) ?_ ?_
 .rintro i x M B N BB Λ hN hx ⟨s4,e4,c4,VI,G,v5,v6,v7,u4,ba,rfl⟩;refine Λ _ _ ?_;obtain⟨q,v,rfl,L,hv,eq⟩:=VI.get hx;have vm:v∈J:=dq.mp (aQ hv);obtain⟨l,S⟩:=O.places v vm;have u:=R.up v l.1 l.2 S;obtain⟨kk,hk,k0,k1⟩:=jg g R l.1 l.2 S;obtain⟨kd,hd,d0,d1⟩:=rE g R l.1 l.2 S;have Ud:J.reverse.take (i+1)=J.reverse.take i++[v]:=by rw[bj,hv];rfl
  have ul:G.length=(iP j e (ψ m j r e f o xs) (J.reverse.take i)).length:=Paired.length ba;have b1:G.length<=24:=by
   rw[ul];unfold iP;rw[aa];refine aV (bW _ _) ?_;rw[bA,bi]
   lia
  walk_at "";refine⟨_,Δ.of eq,rfl,_,_,rfl,_,_,rfl,rfl,?_⟩;refine Θ c4 (ϩ l.1 (by unfold oY;rw[aa,cu];lia)) ?_;rw[uu l.1 l.2];refine⟨p,t,m,ps,j,_,v,e v,kk,kd,rfl,W.same s4,l,u.1,hk,hd,⟨k0,k1⟩,⟨d0,d1⟩,?_⟩;have eh:(if 0<=ψ m j r e f o xs v then ψ m j r e f o xs v/kk else ψ m j r e f o xs v*kd)=ό j e v (ψ m j r e f o xs v):=by
   unfold ό;rw[hk,hd]
   rfl
  rw[eh];refine⟨_,rfl,?_⟩;obtain⟨i1,i2⟩:=Qz g R (ψ m j r e f o xs) l.1 l.2 S;by_cases z:0<ό j e v (ψ m j r e f o xs v)
  .rw[aj z,i1 z];rw[i1 z]at z;refine⟨Rw u4,bL (by simp),λq5 n5=>?_⟩;have y:=δ.new (.tup (vSt (Oi j e (ψ m j r e f o xs) v))) n5;refine mM (y _ _ u4) (eg (by rw[aa];lia)) (hN _ _ ⟨(s4.trans y).put X9 _,?_,?_,?_,G++[q5],_,_,_,?_,?_,rfl⟩)
   .rw[aW ac];exact y _ _ e4
   .rw[aW Z];exact y _ _ c4
   .exact Paired.imp' (λa b h=>by rw[aW (eG (y _ _ h) (y _ _ u4) (by nofun))];exact y _ _ h) VI
   .rw[az,au];rfl
   .have n5s:q5≠C:=λz=>by rw[z,u4]at n5;cases n5
    rw[Ud,Pm (bD z)];refine DW (by rw[aW n5s,az];rfl) ?_;exact Paired.imp' (λa b h=>by rw[aW (eG (y _ _ h) (y _ _ u4) (by nofun))];exact y _ _ h) ba
  .rw[ah z];exact hN _ _ ⟨s4,e4,c4,VI,G,_,_,_,u4,by rw[Ud,O5 (by unfold Bd;rw[bw];exact i2 z)];exact ba,rfl⟩
 .rintro BB M B Λ ⟨s4,e4,c4,VI,G,v5,v6,v7,u4,ba,rfl⟩;refine Λ _ _ (g3 _ _ ?_);rw[aa,ql,bx]at ba;walk_at "";exact k C G J B et X9 s4 u4 ba O
def yM(T:Txt K I):Sp:=λo H Q _=>E14 λ(p a b t:Addr)(c d:Bool)(m:Int)(q:hD)(h:hR)(j i:ej)(r:Int)(e:eX)(f:fb)=>o=[.ref p,.ref a,.ref b,.int r]/\μ T.Web H p m t q h/\ϐ K c H a (j.map V.int)/\bI m j=true/\ϐ K d H b (i.map V.int)/\bI m i=true/\(0<=r/\r<m)/\ε m h r e f/\∀l n k g,eE m h r e f r=r::k->H l=none->δ H g->g l=some (.lst (n.map V.ref))->Τ g n (ko e (ψ m h r e f i j) k)->Order m r e k->Q (.ref l) g
abbrev rQ:Stmt:=top 51
def Ia:ζ ["web","laying","wish","r","over","steps","place","front"] ["web","laying","wish","r"] (aK rQ):=.of
def wN:ϓ (aK rQ) "reversed":=.of
def Hv(T:Txt K I)(hq:bQ (τ P w))(dv:kL P w base T)(jF:wa P w base T):Ok P w K I base "steps_out" rQ ["web","laying","wish","r"] 9 (yM T):=λ_ _ D=>by
 refine D.F.ϊ Ia λξ A Y s H vs Q E hr h=>?_;obtain⟨p,a,b,t,c,d,m,ps,j,xs,B,r,e,f,rfl,W,ha,fx,hb,fy,rr,R,k⟩:=h;obtain⟨r0,r1⟩:=rr;have g:=W.go;have Β:=g.Β;have xl:=jc fx;have yl:=jc fy;refine⟨_,(ax (Γ 4 (Ν jF hr hq (ag (γ 0) (ag (γ 1) (ag (γ 2) (ag (γ 3) aq)))))) (ax (Γ 5 (ee aq)) (ax (fh PassesOwn.never rfl (yX wN.g T.reversed (Ν dv hr hq (ag (γ 0) (ag (γ 3) aq)))) (jK (n:=2) rfl (ci (ϑ 6) (ci (ϑ 7) g6))) (aJ (cg (Υ sE (ω bC (γ 4) (γ 6)) aM) (aJ (cV (Uj (γ 5) (lN (ag (γ 7) (ag (γ 6) (ag (uK rX (ω bC (γ 4) (γ 6))) aq))))))) bR))) (aJ (bn (γ 5)))))),?_⟩;walk_at "t";refine⟨p,a,b,t,c,d,m,ps,j,xs,B,r,rfl,W,ha,by lia,hb,by lia,λ_ _ _ _=>⟨e,f,R,λlc H1 nc s1 ec=>⟨bL (by simp),λu L=>?_⟩⟩,(λz=>by rw[fx]at z;cases z),(λ_ z=>by rw[fy]at z;cases z),λ_ _ z=>absurd ⟨r0,r1⟩ z⟩;have Z:=δ.new (.lst []) L;have X9:=s1.free L;have Ϣ:=s1.trans Z;have es:upd H1 u (.lst []) u=some (.lst []):=az;have Yb:=Z _ _ ec;generalize upd H1 u (.lst [])=H2 at Z Ϣ es Yb ⊢;refine⟨p,t,m,ps,j,r,?_⟩;refine Wa rfl (W.same Ϣ) (λ_ _=>⟨e,f,R,λl2 G C H3 et n2 M e3 pa O=>?_⟩) (λz=>absurd ⟨r0,r1⟩ z);have ql:G.length=C.reverse.length:=Paired.length pa;rw[bi]at ql;have ll:=uC g R r0 r1;rw[et,aR]at ll;have X:l2≠u:=λz=>by rw[z,es]at n2;cases n2
 have S:lc≠u:=λz=>by rw[<-z,ec]at L;cases L
 have TY:=Ϣ.trans M;refine⟨l2,rfl,_,ν.of e3,?_⟩;refine xJ (K:=K) (xs:=G.map V.ref) (λi J o=>δ H o/\o l2=some (.lst (G.map V.ref))/\o lc=some (.lst ((oY m j r e f (λv=>(dS m xs B).getD v.toNat 0) (ό j e)).map V.int))/\χ o e G C.reverse/\E3 λ(y:hD)(v5 U:Option V)=>o u=some (.lst (y.map V.ref))/\Τ o y (ko e (ψ m j r e f B xs) (C.take i))/\J=[some (V.ref p),some (V.ref a),some (V.ref b),some (V.int r),some (V.ref lc),some (V.ref u),v5,U]) ⟨TY,e3,M _ _ Yb,pa,[],_,_,M _ _ es,.nil,rfl⟩ (λi J o _ z=>ν.of z.2.1) ?_ ?_
 .rintro i x J o N hN hx ⟨s4,e4,c4,VI,y,v5,U,u4,ba,rfl⟩;have il:=(aD.mp hx).1;rw[bi,aa]at il;rw[cL (by rw[aa];exact il),aa]at hx;obtain⟨q,v,rfl,TR,hv,eq⟩:=VI.get hx;rw[cL (by lia),show C.length-1-(G.length-1-i)=i by lia]at hv;have vm:=aQ hv;have vr:=O.Μ v vm;have Ud:C.take (i+1)=C.take i++[v]:=by rw[bj,hv];rfl
  have ul:y.length=(ko e (ψ m j r e f B xs) (C.take i)).length:=Paired.length ba;have bs:y.length<=24:=by
   rw[ul];unfold ko;rw[aa];refine aV (bW _ _) ?_;rw[bA]
   lia
  have gv:aT ((oY m j r e f (λv=>(dS m xs B).getD v.toNat 0) (ό j e)).map V.int) v=some (V.int (ψ m j r e f B xs v)):=by
   rw[ϩ vr.1 (by unfold oY;rw[aa,cu];lia),uu vr.1 vr.2]
  walk_at "";refine⟨_,Δ.of eq,rfl,_,_,rfl,_,_,rfl,rfl,?_⟩;refine Θ c4 gv ⟨_,rfl,?_⟩;by_cases z:ψ m j r e f B xs v<0
  .rw[aj z];refine⟨Rw u4,Θ c4 gv ⟨_,rfl,bL (by simp),λq5 n5=>?_⟩⟩;have l:=δ.new (.tup (vSt (NF e (ψ m j r e f B xs) v))) n5;refine mM (l _ _ u4) (eg (by rw[aa];lia)) (hN _ _ ⟨(s4.trans l).put X9 _,?_,?_,?_,y++[q5],_,_,?_,?_,rfl⟩)
   .rw[aW X];exact l _ _ e4
   .rw[aW S];exact l _ _ c4
   .exact Paired.imp' (λa b h=>by rw[aW (eG (l _ _ h) (l _ _ u4) (by nofun))];exact l _ _ h) VI
   .rw[az,au];rfl
   .have n5s:q5≠u:=λz=>by rw[z,u4]at n5;cases n5
    rw[Ud,Px (bD z)];refine DW (by rw[aW n5s,az];rfl) ?_;exact Paired.imp' (λa b h=>by rw[aW (eG (l _ _ h) (l _ _ u4) (by nofun))];exact l _ _ h) ba
  .rw[ah z];exact hN _ _ ⟨s4,e4,c4,VI,y,_,_,u4,by rw[Ud,Om (by unfold yQ;rw[bw];exact z)];exact ba,rfl⟩
 .rintro J o ⟨s4,e4,c4,VI,y,v5,U,u4,ba,rfl⟩;rw[aa,ql,bx]at ba;walk_at "";exact k u y C o et X9 s4 u4 ba O
def CK(T:Txt K I):Sp:=λq H Q E=>W9 λ(p a b t:Addr)(c d:Bool)(m:Int)(s:hD)(i:hR)(f h:ej)=>q=[.ref p,.ref a,.ref b]/\μ T.Web H p m t s i/\ϐ K c H a (f.map V.int)/\f.length<=1000/\ϐ K d H b (h.map V.int)/\h.length<=1000/\(bI m f=true->bI m h=true->∃g j,(∀r,0<=r->r<m->ε m i r (g r) (j r))/\(0<=ψ m i 0 (g 0) (j 0) h f 0->∀l n o k e,eE m i 0 (g 0) (j 0) 0=0::k->Order m 0 (g 0) k->H n=none->H l=none->δ H e->e l=some (.tup [.str "steps",.ref n])->e n=some (.lst (o.map V.ref))->Τ e o (iP i (g 0) (ψ m i 0 (g 0) (j 0) h f) k.reverse++ko (g 0) (ψ m i 0 (g 0) (j 0) h f) k)->Q (.ref l) e)/\(¬0<=ψ m i 0 (g 0) (j 0) h f 0->∀l lt e,H lt=none->H l=none->δ H e->e l=some (.tup [.str "lack",.ref lt])->e lt=some (.tup (((lB m i g j f h m.toNat).map λx=>-x).map V.int))->Q (.ref l) e))/\(bI m f=false->∀e,δ H e->E (.ref T.BadLaying) none e)/\(bI m f=true->bI m h=false->∀e,δ H e->E (.ref T.BadWish) none e)
abbrev yB:Stmt:=top 49
def KP:ζ ["web","laying","wish"] ["web","laying","wish"] (aK yB):=.of
def Kl(T:Txt K I)(hq:bQ (τ P w))(Bs:Cb P w K I base "is_met" BJ ["web","laying","wish"] 10 (Eu T))(xV:Cb P w K I base "lacks_of" sS ["web","laying","wish"] 10 (AQ T))(wX:Cb P w K I base "steps_in" xw ["web","laying","wish","r"] 9 (AN T))(vM:Cb P w K I base "steps_out" rQ ["web","laying","wish","r"] 9 (yM T)):Ok P w K I base "meeting" yB ["web","laying","wish"] 11 (CK T):=λ_ _ D=>by
 refine D.F.Ϻ KP λξ A X s H vs Q E C h=>?_;obtain⟨p,a,b,t,c,d,m,G,j,o,i,rfl,W,u,hz,J,hy,k,e1,e2⟩:=h;have m1:=W.go.m1;have Β:=W.go.Β;have g:=W.go;refine⟨_,(ax (cg (mW (Κ Bs C bT (ag (γ 0) (ag (γ 1) (ag (γ 2) aq))))) (aJ (bn (lN (ag bE (ag (bg wD (Κ wX C bT (ag (γ 0) (ag (γ 1) (ag (γ 2) (ag aM aq))))) (Κ vM C bT (ag (γ 0) (ag (γ 1) (ag (γ 2) (ag aM aq)))))) aq))))) bR) (aJ (bn (lN (ag bE (ag (Κ xV C bT (ag (γ 0) (ag (γ 1) (ag (γ 2) aq)))) aq)))))),?_⟩;walk_at "t";refine⟨p,a,b,t,c,d,m,G,j,o,i,rfl,W,u,hz,J,hy,λB v=>?_,e1,e2⟩;obtain⟨n,q,RR,k1,k2⟩:=k B v;have x:=RR 0 (bF _) (by lia);refine⟨n 0,q 0,x,λH1 e=>⟨_,rfl,?_⟩⟩;by_cases z:0<=ψ m j 0 (n 0) (q 0) i o 0
 .rw[aj (bD z)];refine⟨p,a,b,t,c,d,m,G,j,o,i,0,n 0,q 0,rfl,W.same e,δ.ϭ e u,B,δ.ϭ e J,v,⟨bF _,by lia⟩,x,λl1 U tl H2 et n1 y S Zc O=>?_⟩;have L:=e.trans y;refine⟨p,a,b,t,c,d,m,G,j,o,i,0,n 0,q 0,rfl,W.same L,δ.ϭ L u,B,δ.ϭ L J,v,⟨bF _,by lia⟩,x,λl2 Z r H3 Ud n2 M h3 Vc _=>?_⟩;have Y:r=tl:=by rw[et]at Ud;cases Ud;rfl
  subst Y;have ll:=uC g x (bF _) (by lia);rw[et,aR]at ll;have b1:U.length<=24:=by
   rw[Paired.length Zc];unfold iP;rw[aa];refine aV (bW _ _) ?_;rw[bi]
   lia
  have b2:Z.length<=24:=by
   rw[Paired.length Vc];unfold ko;rw[aa];refine aV (bW _ _) ?_
   lia
  have R:=L.trans M;refine Sh (M _ _ S) h3 (bL (by rw[aa,aa];lia)) λl3 n3=>⟨bL (by simp),λN l=>?_⟩;have s4:=δ.new (.lst (U.map V.ref++Z.map V.ref)) n3;have f:=δ.new (.tup [V.str (Str.ofString "steps"),V.ref l3]) l;have Y5:=R.free n3;have Y6:=(R.trans s4).free l;refine k1 z N l3 (U++Z) r _ et O Y5 Y6 (R.trans (s4.trans f)) az (by rw[f _ _ az,au]) (Τ.same (s4.trans f) ?_);exact HA Vc (Τ.same M Zc)
 .rw[ah (by rw[bw];exact z)];refine⟨p,a,b,t,c,d,m,G,j,o,i,n,q,rfl,W.same e,δ.ϭ e u,B,δ.ϭ e J,v,RR,λl2 H2 n2 y S=>⟨bL (by simp),λN l=>?_⟩⟩;have f:=δ.new (.tup [V.str (Str.ofString "lack"),V.ref l2]) l;exact k2 z N l2 _ (e.free n2) ((e.trans y).free l) (e.trans (y.trans f)) az (f _ _ S)
def wP(T:Txt K I):Sp:=λb H Q _=>∃z:Int,b=[.int z]/\Bt z/\∀a,δ H a->Q (.str (tI z)) a
abbrev lG:Stmt:=top 84
def Dp:ζ ["number","pieces"] ["number"] (aK lG):=.of
def ig:ϓ (aK lG) "PIECE":=.of
def mN:ϓ (aK lG) "PIECE_FIGURES":=.of
def uD:ϓ (aK lG) "reversed":=.of
def DP(T:Txt K I)(y:bQ (τ P w)):Ok P w K I base "number_text" lG ["number"] 1 (wP T):=λ_ _ D=>by
 refine D.F.ϊ Dp λx A i s H G Q E J h=>?_;obtain⟨z,rfl,nb,k⟩:=h;refine⟨_,(ax (Γ 1 (ee aq)) (ax (xE PassesOwn.never (Υ wY (γ 0) (nD ig.g T.UM (hd:=ig.d))) (ax (cV (Uj (γ 1) (kX PySem.F.plainAttrs_str PySem.F.slot_str_zfill PySem.F.type_str_zfill NO (ϰ dQ T.str (ag (bg fk (γ 0) (nD ig.g T.UM (hd:=ig.d))) aq)) (ag (nD mN.g T.TQ (hd:=mN.d)) aq)))) (aJ (Γ 0 (bg Hs (γ 0) (nD ig.g T.UM (hd:=ig.d))))))) (ax (cV (Uj (γ 1) (ϰ dQ T.str (ag (γ 0) aq)))) (aJ (bn (NM rfl uD.g T.reversed (γ 1))))))),?_⟩;walk_at "s";refine b6 λC o=>?_;walk_at "";refine⟨bL (by simp),λl nl=>o _ _ (b6 λv u=>?_)⟩;refine D0 (λk j n=>∃q:Int,k=q.toNat/\∃b,n=upd H l (.lst (b.map V.str))/\Np z q b/\j=[some (V.int q),some (V.ref l)]) z.toNat ⟨z,rfl,[],rfl,.start nb,rfl⟩ ?_;rintro _ j _ N B t m r ⟨q,rfl,b,rfl,a,rfl⟩;have f:=a.cnt;have f:(b.map V.str).length<sizeLine:=eg (by rw[aa];lia);refine t _ _ _ ?_;walk_at "";by_cases c:(1000000000000000000:Int)<=q
 .rw[aj c];obtain⟨p,e⟩:=a.step c;refine⟨N,r,Rw az,by decide,p,by simp[Uo],_,rfl,by decide,mM az f ⟨⟨by decide,by decide⟩,m _ _ _ (by lia) ⟨_,rfl,_,?_,e,rfl⟩⟩⟩;rw[au];exact nS
 .rw[ah c];refine u _ _ ?_;walk_at "";refine⟨Rw az,a.big.log,mM az f ⟨b++[tI q],?_,a.sum,?_⟩⟩
  .rw[nS,au];exact ν.of az
  .rw[show Str.ofString ""=("":Str)from rfl,a.done];refine k _ ?_;rw[nS];exact δ.new _ nl
abbrev qc(P w base)(T:Txt K I):=Cb P w K I base "number_text" lG ["number"] 1 (wP T)
def u9(T:Txt K I):Sp:=λe H Q _=>E3 λ(a:Addr)(c:Bool)(b:ej)=>e=[.ref a]/\AtX c H a (b.map V.int)/\b.length<=100/\(∀z∈b,Bt z)/\∀d,δ H d->Q (.str (ϯ b)) d
abbrev rA:Stmt:=top 85
def C4:ζ ["numbers"] ["numbers"] (aK rA):=.of
def C0(T:Txt K I)(u:bQ (τ P w))(f:qc P w base T):Ok P w K I base "numbers_text" rA ["numbers"] 2 (u9 T):=λ_ _ D=>by
 refine D.F.ϊ C4 λC A o s H M Q E B h=>?_;obtain⟨a,c,j,rfl,r,y,nb,k⟩:=h;refine⟨_,(aJ (bn (kX PySem.F.plainAttrs_str PySem.F.slot_str_join PySem.F.type_str_join rm bE (ag (iE rfl (mi (Nc:=["number"]) 1 (by decide +kernel) (by decide +kernel) rfl (by decide +kernel) rfl) (Ck c (γ 0)) (λ_ _ _ _=>(fF (i:=0) (show(["number"]:hG).Nodup from by decide +kernel) rfl (Or.inl rfl))) (λ_ _ _ _=>ik) (λ_ _ _ _=>(iU f.G (B.mono (by decide)) (by rfl) f.D.m f.D.F.kp f.D.b .nil (gJ u) (ag (pv 0) aq)))) aq)))),?_⟩;walk_at "t";refine⟨by simp[Uo],⟨_,r.sq⟩,λp t=>?_⟩;refine oQ (K:=K) (xs:=j.map V.int) (λi d g e=>δ H e/\e p=some (.lst d)/\d=((j.take i).map tI).map V.str/\∃v,g=[v]) ⟨δ.new _ t,az,rfl,_,rfl⟩ (λi d g e _ ⟨z,_⟩=>δ.ϭ z r.sq) ?_ ?_
 .rintro i x d g e N hN hi ⟨s2,h2,rfl,v,rfl⟩;obtain⟨n,l,rfl⟩:=List.θ hi;have L:i<j.length:=(aD.mp l).1;walk_at "";refine⟨n,rfl,nb n (aQ l),λJ q=>⟨q _ _ h2,eg (by rw[aa,aa,bA];lia),hN _ _ _ ⟨(s2.trans q).put t _,az,?_,_,rfl⟩⟩⟩;rw[bj,l,au,au]
  rfl
 .rintro d g e ⟨s2,h2,rfl,v,rfl⟩;rw[aa,bx]at h2;exact⟨_,p,_,rfl,rfl,ν.of h2,Rr nb y,k _ s2⟩
abbrev pC(P w base)(T:Txt K I):=Cb P w K I base "numbers_text" rA ["numbers"] 2 (u9 T)
def yc(T:Txt K I):Sp:=λe H Q _=>E4 λ(a:Addr)(c:Bool)(as:hD)(b:List ϵ)=>e=[.ref a]/\AtX c H a (as.map V.ref)/\Τ H as b/\b.length<=200/\(∀s∈b,VR s)/\∀d,δ H d->Q (.str (Bv b)) d
abbrev t9:Stmt:=top 86
def Fl:ζ ["steps"] ["steps"] (aK t9):=.of
def FB(T:Txt K I)(J:bQ (τ P w))(l:pC P w base T):Ok P w K I base "steps_text" t9 ["steps"] 3 (yc T):=λ_ _ D=>by
 refine D.F.ϊ Fl λO A t s H W Q E M h=>?_;obtain⟨a,c,as,o,rfl,g,e,L,nb,k⟩:=h;refine⟨_,(ax (cg (Υ dJ (lE fq T.len (ag (γ 0) aq)) aM) (aJ (bn bE)) bR) (aJ (bn (kX PySem.F.plainAttrs_str PySem.F.slot_str_join PySem.F.type_str_join rm bE (ag (iE rfl (mi (Nc:=["step"]) 1 (by decide +kernel) (by decide +kernel) rfl (by decide +kernel) rfl) (Ck c (γ 0)) (λ_ _ _ _=>(fF (i:=0) (show(["step"]:hG).Nodup from by decide +kernel) rfl (Or.inl rfl))) (λ_ _ _ _=>ik) (λ_ _ _ _=>(iU l.G (M.mono (by decide)) (by rfl) l.D.m l.D.F.kp l.D.b .nil (gJ J) (ag (pv 0) aq)))) aq))))),?_⟩;walk_at "t";have y:as.length=o.length:=Paired.length e;refine⟨as.map V.ref,by cases c;exact .inr (Δ.of g);exact .inl (ν.of g),?_⟩;rw[aa];unfold Bv at k;by_cases n:((as.length:Nat):Int)=0
 .rw[aj (List.length_eq_zero_iff.mp (by lia))]at k;rw[aj n];exact k H (δ.refl _)
 .rw[ah λz=>n (by rw[y,z];rfl)]at k;rw[ah n];refine⟨by simp[Uo],⟨_,g.sq⟩,λp B=>?_⟩;refine oQ (K:=K) (xs:=as.map V.ref) (λi d j f=>δ H f/\f p=some (.lst d)/\d=((o.take i).map UJ).map V.str/\∃v,j=[v]) ⟨δ.new _ B,az,rfl,_,rfl⟩ (λi d j f _ ⟨z,_⟩=>δ.ϭ z g.sq) ?_ ?_
  .rintro i x d j f N hN hi ⟨s2,h2,rfl,v,rfl⟩;obtain⟨q,s,rfl,S,r,C⟩:=J0 e hi;have U:i<o.length:=(aD.mp r).1;walk_at "";refine⟨q,false,[s.1,s.2.1,s.2.2],rfl,s2 _ _ C,cT rfl,nb s (aQ r),λR u=>⟨u _ _ h2,eg (by rw[aa,aa,bA];lia),hN _ _ _ ⟨(s2.trans u).put B _,az,?_,_,rfl⟩⟩⟩;rw[bj,r,au,au]
   rfl
  .rintro d j f ⟨s2,h2,rfl,v,rfl⟩;rw[aa,y,bx]at h2;exact⟨_,p,_,rfl,rfl,ν.of h2,SA nb L,k _ s2⟩
abbrev zg(P w base)(T:Txt K I):=Cb P w K I base "steps_text" t9 ["steps"] 3 (yc T)
def uO(T:Txt K I):Sp:=λf H Q _=>E3 λ(p a:Addr)(w:Str)=>f=[.ref p]/\H p=some (.tup [.str w,.ref a])/\((∃(e:hD)(d:List ϵ),w="steps"/\H a=some (.lst (e.map V.ref))/\Τ H e d/\d.length<=48/\(∀s∈d,VR s)/\∀b,δ H b->Q (.str (Str.ofString "steps " ++ Bv d)) b)\/∃c:List Int,w="lack"/\H a=some (.tup (c.map V.int))/\c.length<=24/\(∀z∈c,Bt z)/\∀b,δ H b->Q (.str (Str.ofString "lack " ++ ϯ c)) b)
abbrev qS:Stmt:=top 116
def Da:ζ ["found"] ["found"] (aK qS):=.of
def Cf(T:Txt K I)(g:bQ (τ P w))(m:pC P w base T)(j:zg P w base T):Ok P w K I base "meeting_text" qS ["found"] 4 (uO T):=λ_ _ D=>by
 refine D.F.ϊ Da λn A d s H o Q E i h=>?_;obtain⟨p,a,w,rfl,e,h⟩:=h;refine⟨_,(ax (cg (Υ dJ (ω jM (γ 0) aM) bE) (aJ (bn (bg cJ bE (Ν j i g (ag (ω jM (γ 0) aM) aq))))) bR) (aJ (bn (bg cJ bE (Ν m i g (ag (ω jM (γ 0) aM) aq)))))),?_⟩;walk_at "t";refine Gu (Δ.of e) rfl ?_;rcases h with⟨qs,ss,rfl,ha,st,l,b,k⟩|⟨zs,rfl,ha,l,b,k⟩
 .rw[aj rfl];have:=Ej b l;exact⟨rfl,Gu (Δ.of e) rfl ⟨a,true,qs,ss,rfl,ha,st,by lia,b,λc f=>⟨_,rfl,_,rfl,bL (by rw[show(Str.ofString "steps ").length=6 from rfl];lia),k c f⟩⟩⟩
 .rw[ah (UI (by decide))];have:=mS b;exact⟨rfl,Gu (Δ.of e) rfl ⟨a,false,zs,rfl,ha,by lia,b,λc f=>⟨_,rfl,_,rfl,bL (by rw[show(Str.ofString "lack ").length=5 from rfl];lia),k c f⟩⟩⟩
def JN(T:Txt K I):Sp:=λh H Q E=>E9 λ(p a t:Addr)(c:Bool)(m:Int)(i:hD)(g:hR)(e:ej)(r:Int)=>h=[.ref p,.ref a,.int r]/\μ T.Web H p m t i g/\ϐ K c H a (e.map V.int)/\e.length<=1000/\(bI m e=true->0<=r->r<m->∃d f,ε m g r d f/\∀b,δ H b->Q (.int (Ζ m g r d f (λv=>e.getD v.toNat 0) (Ϭ g d) r)) b)/\(bI m e=false->∀b,δ H b->E (.ref T.BadLaying) none b)/\(bI m e=true->¬(0<=r/\r<m)->∀b,δ H b->E (.ref T.NoPlace) none b)
abbrev Ih:Stmt:=top 67
def QK:ζ ["web","laying","r"] ["web","laying","r"] (aK Ih):=.of
def Qt(T:Txt K I)(L:bQ (τ P w))(G:B5 P w base T):Ok P w K I base "most" Ih ["web","laying","r"] 9 (JN T):=λ_ _ D=>by
 refine D.F.Ϻ QK λJ A f s H N Q E B h=>?_;obtain⟨p,a,t,c,m,C,y,n,r,rfl,W,j,v,k,e,z⟩:=h;refine⟨_,(aJ (bn (rP bC (Κ G B bT (ag (γ 0) (ag (γ 1) (ag (γ 2) aq)))) (γ 2) (λ_ _=>rfl)))),?_⟩;walk_at "t";refine⟨p,a,t,c,m,C,y,n,r,?_⟩;refine an7 rfl W j v (λo g i=>?_) e z;obtain⟨b,d,R,k⟩:=k o g i;refine⟨b,d,R,λl u M q x=>?_⟩;refine Θ x (ϩ g ?_) ?_
 .unfold oY;rw[aa,cu];lia
 .rw[uu g i];exact k u q
def uv(T:Txt K I):Sp:=λb H Q _=>∃z:Int,b=[.int z]/\Bt z/\∀a,δ H a->Q (.str (tI z)) a
abbrev qD:Stmt:=top 115
def BP:ζ ["number"] ["number"] (aK qD):=.of
def Bn(T:Txt K I)(e:bQ (τ P w))(d:qc P w base T):Ok P w K I base "standing_text" qD ["number"] 2 (uv T):=λ_ _ D=>by
 refine D.F.ϊ BP λj A b s H l Q E f h=>?_;obtain⟨z,rfl,nb,k⟩:=h;refine⟨_,(ax (cg (Υ sE (γ 0) aM) (aJ (bn (bg cJ bE (Ν d f e (ag (uK rX (γ 0)) aq))))) bR) (aJ (bn (Ν d f e (ag (γ 0) aq))))),?_⟩;walk_at "t";by_cases c:z<0
 .rw[aj c];have a:Bt (-z):=by show(-z).natAbs<_;rw[Int.natAbs_neg];exact nb
  refine⟨-z,rfl,a,λg i=>⟨_,rfl,_,rfl,?_,?_⟩⟩
  .have:=mJ a;exact bL (by rw[show(Str.ofString "-").length=1 from rfl];lia)
  .rw[zC c];exact k g i
 .rw[ah c];exact⟨z,rfl,nb,k⟩
def uW(T:Txt K I):Sp:=λa H Q E=>E7 λ(p t:Addr)(m:Int)(b:hD)(c:hR)(r x:Int)=>a=[.ref p,.int r,.int x]/\μ T.Web H p m t b c/\(0<=r->r<m->1<=x->Q .ο H)/\(¬(0<=r/\r<m)->E (.ref T.NoPlace) none H)/\(0<=r->r<m->x<1->E (.ref T.BadWish) none H)
abbrev pE:Stmt:=top 72
def C5:ζ ["web","r","wanted"] ["web","r","wanted"] (aK pE):=.of
def pF:ϓ (aK pE) "BadWish":=.of
def Dh(T:Txt K I)(q:bQ (τ P w))(f:lH P w base T):Ok P w K I base "check_wanted" pE ["web","r","wanted"] 3 (uW T):=λ_ _ D=>by
 refine D.F.Ϻ C5 λo A a s H u Q E l h=>?_;obtain⟨p,t,m,n,i,r,x,rfl,W,k,e,j⟩:=h;refine⟨_,(ax (cV (Κ f l bT (ag (γ 0) (ag (γ 1) aq)))) (aJ (cg (Υ sE (γ 2) aM) (aJ (rB T.Uw rfl sY pF.g T.BV (ag bE aq) (hdb:=pF.d))) bR))),?_⟩;walk_at "t";refine⟨p,t,m,n,i,r,rfl,W,λc b=>?_,e⟩;show if x<1 then _ else _;by_cases z:x<1
 .rw[aj z];exact⟨by decide,j c b z⟩
 .rw[ah z];exact k c b (by lia)
abbrev wc(P w base)(T:Txt K I):=Cb P w K I base "check_wanted" pE ["web","r","wanted"] 3 (uW T)
def AE(T:Txt K I):Sp:=λh H Q E=>E10 λ(p b t:Addr)(c:Bool)(m:Int)(i:hD)(f:hR)(d:ej)(r w:Int)=>h=[.ref p,.int r,.int w,.ref b]/\μ T.Web H p m t i f/\ϐ K c H b (d.map V.int)/\(d.length:Int)=m/\(∀x∈d,x.natAbs<2^4000)/\(w-1).natAbs<2^4000/\(0<=r->r<m->1<=w->∃a e,ε m f r a e/\∀g,δ H g->Q (.int (XY m f r a d w)) g)/\(¬(0<=r/\r<m)->E (.ref T.NoPlace) none H)/\(0<=r->r<m->w<1->E (.ref T.BadWish) none H)
abbrev sH:Stmt:=top 71
def AZ:ζ ["web","r","wanted","weights","bound","place","front"] ["web","r","wanted","weights"] (aK sH):=.of
def Ar:Ve (aK sH) "bound":=.of (by kernel_rfl)
def IV(T:Txt K I)(hq:bQ (τ P w))(kH:wc P w base T)(dv:kL P w base T)(dY:oU P w base T):Ok P w K I base "bound_by" sH ["web","r","wanted","weights"] 8 (AE T):=λ_ _ D=>by
 refine D.F.Ϻ AZ λξ A B s H vs Q E M h=>?_;obtain⟨p,b,t,c,m,S,j,xs,r,w,rfl,W,hb,xl,xb,wb,k,e,e'⟩:=h;have g:=W.go;refine⟨_,(ax (cV (Κ kH M bT (ag (γ 0) (ag (γ 1) (ag (γ 2) aq))))) (ax (Γ 4 (bg Re (ω (CN c) (γ 3) (γ 1)) (bg j5 (γ 2) aM))) (ax (fh PassesOwn.leaving rfl (gC (Κ dv M bT (ag (γ 0) (ag (γ 1) aq)))) (jK (n:=2) rfl (ci (ϑ 5) (ci (ϑ 6) g6))) (aJ (Rs (i:=4) AZ.nd rfl (Or.inl Ar.l) (bg kR (ω (CN c) (γ 3) (γ 5)) (bg j5 (Κ dY M bT (ag (γ 0) (ag (γ 5) (ag (γ 6) aq)))) aM)) wI))) (aJ (bn (γ 4)))))),?_⟩;walk_at "t";refine⟨p,t,m,S,j,r,w,rfl,W,λX Y w1=>?_,e,e'⟩;obtain⟨a,y,R,k⟩:=k X Y w1;have gr:=ϩ (xs:=xs) X (by lia);have hm:=QI (cs:=xs) (i:=r.toNat) (by lia);refine ixX hb gr ⟨_,rfl,Sb (xb _ hm) wb,?_⟩;refine⟨p,t,m,S,j,r,?_⟩;refine Wa rfl W (λ_ _=>⟨a,y,R,λl2 qs tl H2 _ n2 C Z pa O=>?_⟩) (λz=>absurd ⟨X,Y⟩ z);refine⟨l2,rfl,⟨_,ν.of Z⟩,?_⟩;have ql:qs.length=tl.reverse.length:=Paired.length pa;refine hZ (K:=K) (xs:=qs.map V.ref) (λi o f=>f=H2/\∃(J G:Option V),o=[some (V.ref p),some (V.int r),some (V.int w),some (V.ref b),some (V.int (xs.getD r.toNat 0*(w-1)+((tl.reverse.take i).map (YL j a xs)).sum)),J,G]) ⟨rfl,_,_,by rw[eO,dB,List.sum_nil,lK]⟩ (λi o f _ z=>by rw[z.1];exact ν.of Z) ?_ ?_
 .rintro i x o f N BB Λ hN hx ⟨rfl,J,G,rfl⟩;refine Λ _ _ ?_;obtain⟨q,v,rfl,hq,hv,eq⟩:=pa.get hx;have U:=dq.mp (aQ hv);have d:=O.Μ v U;have u:=R.up v d.1 d.2 (O.ne U);obtain⟨kk,L,k0,k1⟩:=jg g R d.1 d.2 (O.ne U);walk_at "";refine⟨_,Δ.of eq,rfl,_,_,rfl,_,_,rfl,rfl,?_⟩;refine ixX (δ.ϭ C hb) (ϩ d.1 (by lia)) ?_;refine⟨p,t,m,S,j,v,a v,rfl,W.same C,λk' _ _ _ _ h=>?_,λz=>absurd ⟨d,u.1⟩ z,λ_ _ _ _ z=>by rw[L]at z;cases z⟩;rw[L]at h;cases h;refine⟨_,rfl,_,rfl,.inr ⟨by lia,by lia⟩,hN _ _ ⟨rfl,some (V.int v),some (V.int (a v)),?_⟩⟩;rw[OV hv];unfold YL;rw[L,Int.add_assoc]
  rfl
 .rintro BB o f Λ ⟨rfl,J,G,rfl⟩;refine Λ _ _ ?_;rw[aa,ql,bx,gA,List.sum_reverse,O.sums];walk_at "";exact k _ C
def Hh(T:Txt K I):Sp:=λe H Q _=>W9 λ(p b t:Addr)(c:Bool)(m:Int)(f:hD)(d:hR)(a:ej)(v u k:Int)=>e=[.ref p,.ref b,.int v,.int u]/\μ T.Web H p m t f d/\ϐ K c H b (a.map V.int)/\(0<=v/\v<m/\v<a.length)/\(0<=u/\u<m)/\cD d v u=some k/\k<=1000000/\2<=k/\Q (.int (a.getD v.toNat 0*k)) H
abbrev DF:Stmt:=top 70
def OB:ζ ["web","weights","place","front"] ["web","weights","place","front"] (aK DF):=.of
def OC(T:Txt K I)(q:bQ (τ P w))(f:oU P w base T):Ok P w K I base "borne" DF ["web","weights","place","front"] 4 (Hh T):=λ_ _ D=>by
 refine D.F.Ϻ OB λo A d s H C Q E j h=>?_;obtain⟨p,b,t,c,m,l,i,r,v,u,x,rfl,W,n,a,g,e,B,y,k⟩:=h;refine⟨_,(aJ (bn (bg kR (ω (CN c) (γ 1) (γ 2)) (Κ f j bT (ag (γ 0) (ag (γ 2) (ag (γ 3) aq))))))),?_⟩;walk_at "t";refine ixX n (ϩ a.1 a.2.2) ?_;refine⟨p,t,m,l,i,v,u,rfl,W,λG _ _ _ _ h=>?_,λz=>absurd ⟨⟨a.1,a.2.1⟩,g⟩ z,λ_ _ _ _ z=>by rw[e]at z;cases z⟩;rw[e]at h;cases h;exact⟨_,rfl,_,rfl,.inr ⟨by lia,by lia⟩,k⟩
abbrev Jw(P w base)(T:Txt K I):=Cb P w K I base "borne" DF ["web","weights","place","front"] 4 (Hh T)
def ux(T:Txt K I):Sp:=λe H Q E=>E6 λ(p t:Addr)(m:Int)(f:hD)(d:hR)(r:Int)=>e=[.ref p,.int r]/\μ T.Web H p m t f d/\(0<=r->r<m->∃b c,ε m d r b c/\∀l a,H l=none->δ H a->a l=some (.lst ((mI m d r b c).map V.int))->Q (.ref l) a)/\(¬(0<=r/\r<m)->∀a,δ H a->E (.ref T.NoPlace) none a)
abbrev qB:Stmt:=top 73
def BZ:ζ ["web","r","weights","place","front"] ["web","r"] (aK qB):=.of
def Bq(T:Txt K I)(hq:bQ (τ P w))(sZ:Jw P w base T)(dv:kL P w base T):Ok P w K I base "least_weights" qB ["web","r"] 8 (ux T):=λ_ _ D=>by
 refine D.F.Ϻ BZ λξ A L s H vs Q E hr h=>?_;obtain⟨p,t,m,ps,j,r,rfl,W,k,e⟩:=h;have g:=W.go;have m1:=g.m1;have Β:=g.Β;obtain⟨dx,ob⟩:=W.ob;refine⟨_,(ax (Γ 2 (bg pN (ee (ag aM aq)) (dG (γ 0) rfl))) (ax (fh PassesOwn.leaving rfl (gC (Κ dv hr bT (ag (γ 0) (ag (γ 1) aq)))) (jK (n:=2) rfl (ci (ϑ 3) (ci (ϑ 4) g6))) (aJ (j7 (lE (MP rfl) T.max (ag (ω bC (γ 2) (γ 4)) (ag (Κ sZ hr bT (ag (γ 0) (ag (γ 2) (ag (γ 3) (ag (γ 4) aq))))) aq))) (nO (γ 2) (γ 4) hW)))) (aJ (bn (γ 2))))),?_⟩;walk_at "t";refine⟨bL (by simp),λX n0=>?_⟩;have Z:=δ.new (.lst [V.int 1]) n0;refine⟨T.Web,dx,_,Z _ _ ob,T.Ι,T.Ψ,_,gI m t,?_⟩;refine⟨X,m,_,rfl,rfl,az,by lia,by lia,bL (by simp;lia),λl n1=>?_⟩;rw[FL];have B:=Z.trans (δ.new (.lst (List.replicate m.toNat (V.int 1))) n1);have nl:=Z.free n1;have M:upd (upd H X (.lst [V.int 1])) l (.lst (List.replicate m.toNat (V.int 1))) l=some (.lst ((List.replicate m.toNat (1:Int)).map V.int)):=by rw[az,gW]
 generalize upd (upd H X (.lst [V.int 1])) l (.lst (List.replicate m.toNat (V.int 1)))=H1 at B M ⊢;refine⟨p,t,m,ps,j,r,?_⟩;refine Wa rfl (W.same B) (λr0 r1=>?_) (λz=>e z H1 B);obtain⟨c,f,R,k⟩:=k r0 r1;refine⟨c,f,R,λU G J H2 _ n2 s2 e2 pa O=>?_⟩;have WQ:U≠l:=λz=>by rw[z,M]at n2;cases n2
 refine⟨U,rfl,⟨_,ν.of e2⟩,?_⟩;have ql:G.length=J.reverse.length:=Paired.length pa;have st:As mx m j r c f (λ_=>1) (bor j c) [] (List.replicate m.toNat (1:Int)):=As.nil (by rw[cf];lia) λv v0 v1=>by
  rw[List.getD,jU (by lia)];rfl
 refine hZ (K:=K) (xs:=G.map V.ref) (λi C d=>δ H d/\d U=some (.lst (G.map V.ref))/\χ d c G J.reverse/\E3 λ(o:ej)(S Y:Option V)=>d l=some (.lst (o.map V.int))/\As mx m j r c f (λ_=>1) (bor j c) (J.drop (J.length-i)) o/\C=[some (V.ref p),some (V.int r),some (V.ref l),S,Y]) ⟨B.trans s2,e2,pa,_,_,_,s2 _ _ M,by rw[gc,dE];exact st,rfl⟩ (λi C d _ z=>ν.of z.2.1) ?_ ?_
 .rintro i x C d N BB Λ hN hx ⟨s3,e3,Vg,o,S,Y,c3,so,rfl⟩;refine Λ _ _ ?_;obtain⟨q,v,rfl,hq,hv,eq⟩:=Vg.get hx;obtain⟨⟨y,vn⟩,ev,Y7⟩:=O.aao Jk g R so hv;have u:=R.up v y.1 y.2 vn;obtain⟨kk,hk,k0,k1⟩:=jg g R y.1 y.2 vn;have cl:=so.len;walk_at "";refine⟨_,Δ.of eq,rfl,_,_,rfl,_,_,rfl,rfl,?_⟩;refine Θ c3 (ϩ u.1.1 (by lia)) ?_;refine⟨p,l,t,true,m,ps,j,o,v,c v,kk,rfl,W.same s3,ν.of c3,⟨y.1,y.2,by lia⟩,u.1,hk,k1,k0,?_⟩;refine⟨_,_,⟨rfl,rfl⟩,pJ c3 u.1.1 (by rw[aa];lia) (hN _ _ ⟨s3.put nl _,?_,?_,zH mx c (bor j c) o v,_,_,?_,Y7,rfl⟩)⟩
  .rw[aW WQ];exact e3
  .exact Paired.imp' (λa b h=>by rw[aW (eG h c3 (by nofun))];exact h) Vg
  .rw[az,<-dh];unfold zH bor mx;rw[hk]
   rfl
 .rintro BB C d Λ ⟨s3,e3,Vg,o,S,Y,c3,so,rfl⟩;refine Λ _ _ ?_;rw[aa,ql,bi,eT,eI]at so;rw[O.doneF Jk g R so]at c3;walk_at "";exact k l d nl s3 c3
abbrev vc(P w base)(T:Txt K I):=Cb P w K I base "least_weights" qB ["web","r"] 8 (ux T)
def EW(T:Txt K I):Sp:=λe H Q E=>E7 λ(p t:Addr)(m:Int)(f:hD)(d:hR)(r w:Int)=>e=[.ref p,.int r,.int w]/\μ T.Web H p m t f d/\w<=10^60/\-(10^60)<=w/\(0<=r->r<m->1<=w->∃b c,ε m d r b c/\∀a,δ H a->Q (.int (XY m d r b (mI m d r b c) w+1)) a)/\(¬(0<=r/\r<m)->∀a,δ H a->E (.ref T.NoPlace) none a)/\(0<=r->r<m->w<1->∀a,δ H a->E (.ref T.BadWish) none a)
abbrev A8:Stmt:=top 74
def M8:ζ ["web","r","wanted"] ["web","r","wanted"] (aK A8):=.of
def Mu(T:Txt K I)(N:bQ (τ P w))(B:Cb P w K I base "bound_by" sH ["web","r","wanted","weights"] 8 (AE T))(y:vc P w base T):Ok P w K I base "enough" A8 ["web","r","wanted"] 9 (EW T):=λ_ _ D=>by
 refine D.F.Ϻ M8 λM A j s H O Q E v h=>?_;obtain⟨p,t,m,o,a,r,w,rfl,W,L,x,k,e,G⟩:=h;have g:=W.go;have m1:=g.m1;refine⟨_,(aJ (bn (bg gm (Κ B v bT (ag (γ 0) (ag (γ 1) (ag (γ 2) (ag (Κ y v bT (ag (γ 0) (ag (γ 1) aq))) aq))))) aM))),?_⟩;walk_at "t";refine⟨p,t,m,o,a,r,rfl,W,λd b=>?_,e⟩;have u:(w-1).natAbs<2^4000:=KZ x L;by_cases i:1<=w
 .obtain⟨par,dep,R,k⟩:=k d b i;refine⟨par,dep,R,λl q nl c f=>?_⟩;have n:((mI m a r par dep).length:Int)=m:=by rw[zJ];lia
  exact⟨p,l,t,true,m,o,a,mI m a r par dep,r,w,rfl,W.same c,ν.of f,n,Eo g R,u,λ_ _ _=>⟨par,dep,R,λJ C=>⟨_,rfl,k J (c.trans C)⟩⟩,λz=>absurd ⟨d,b⟩ z,λ_ _ z=>absurd i (by lia)⟩
 .obtain⟨par,dep,R⟩:=rV g d b;refine⟨par,dep,R,λl q nl c f=>?_⟩;have n:((mI m a r par dep).length:Int)=m:=by rw[zJ];lia
  exact⟨p,l,t,true,m,o,a,mI m a r par dep,r,w,rfl,W.same c,ν.of f,n,Eo g R,u,λ_ _ z=>absurd z i,λz=>absurd ⟨d,b⟩ z,λ_ _ z=>G d b z q c⟩
def Dg(T:Txt K I):Sp:=λ_ _ _ _=>False
abbrev yZ:Stmt:=top 78
def Kn:ζ ["web","wanted","numbers","greatest"] ["web","wanted"] (aK yZ):=.of
def Kv(T:Txt K I)(a:bQ (τ P w)):Ok P w K I base "hardest" yZ ["web","wanted"] 1 (Dg T):=λ_ _ D=>D.F.ϊ Kn (λ_ _ _ _ _ _ _ _ _ h=>h.elim) (λ_ _ _ _ h=>h.elim)
def AA(T:Txt K I):Sp:=λd H Q _=>E10 λ(p b t:Addr)(m:Int)(e:hD)(c:hR)(a:ej)(v u k:Int)=>d=[.ref p,.ref b,.int v,.int u]/\μ T.Web H p m t e c/\ν K H b (a.map V.int)/\(a.length:Int)=m/\(0<=v/\v<m)/\(0<=u/\u<m)/\cD c v u=some k/\k<=1000000/\2<=k/\Q (.bl (decide (a.getD v.toNat 0*k=a.getD u.toNat 0))) H
abbrev xH:Stmt:=top 77
def IW:ζ ["web","weights","place","front"] ["web","weights","place","front"] (aK xH):=.of
def Ik(T:Txt K I)(z:bQ (τ P w))(j:Jw P w base T):Ok P w K I base "is_heavy" xH ["web","weights","place","front"] 5 (AA T):=λ_ _ D=>by
 refine D.F.Ϻ IW λy A d s H B Q E r h=>?_;obtain⟨p,b,t,m,x,l,a,v,u,c,rfl,W,i,C,g,f,o,q,n,k⟩:=h;refine⟨_,(aJ (bn (jB dJ (Κ j r bT (ag (γ 0) (ag (γ 1) (ag (γ 2) (ag (γ 3) aq))))) (ω bC (γ 1) (γ 3)) (i9 _)))),?_⟩;walk_at "t";refine⟨p,b,t,true,m,x,l,a,v,u,c,rfl,W,i,⟨g.1,g.2,by lia⟩,f,o,q,n,?_⟩;refine ixS i (ϩ f.1 (by lia)) ?_;have e:decide (V.int (a.getD v.toNat 0*c)=V.int (a.getD u.toNat 0))=decide (a.getD v.toNat 0*c=a.getD u.toNat 0):=by simp
 rw[e];exact⟨rfl,k⟩
def Cs(T:Txt K I):Sp:=λf H Q E=>E6 λ(p t:Addr)(m:Int)(g:hD)(d:hR)(r:Int)=>f=[.ref p,.int r]/\μ T.Web H p m t g d/\(0<=r->r<m->∃a b,ε m d r a b/\∀e l c,eE m d r a b r=r::e->Order m r a e->H l=none->δ H c->c l=some (.lst (VP m (T8 m d r a b e)))->Q (.ref l) c)/\(¬(0<=r/\r<m)->∀c,δ H c->E (.ref T.NoPlace) none c)
abbrev uZ:Stmt:=top 76
def Kb:ζ ["web","r","weights","chosen","place","front"] ["web","r"] (aK uZ):=.of
def yi:ϓ (aK uZ) "reversed":=.of
def KH(T:Txt K I)(hq:bQ (τ P w))(dv:kL P w base T)(xm:Cb P w K I base "is_heavy" xH ["web","weights","place","front"] 5 (AA T))(jV:vc P w base T):Ok P w K I base "bearers" uZ ["web","r"] 9 (Cs T):=λ_ _ D=>by
 refine D.F.Ϻ Kb λξ A Y s H vs Q E hr h=>?_;obtain⟨p,t,m,ps,f,r,rfl,W,k,e⟩:=h;have g:=W.go;have m1:=g.m1;have Β:=g.Β;obtain⟨dx,ob⟩:=W.ob;refine⟨_,(ax (Γ 2 (Κ jV hr bT (ag (γ 0) (ag (γ 1) aq)))) (ax (Γ 3 (bg pN (ee (ag tY aq)) (dG (γ 0) rfl))) (ax (fh PassesOwn.leaving rfl (yX yi.g T.reversed (Κ dv hr bT (ag (γ 0) (ag (γ 1) aq)))) (jK (n:=2) rfl (ci (ϑ 4) (ci (ϑ 5) g6))) (aJ (cg (mW (Κ xm hr bT (ag (γ 0) (ag (γ 2) (ag (γ 4) (ag (γ 5) aq)))))) (aJ (j7 (γ 4) (nO (γ 3) (γ 5) hW))) bR))) (aJ (bn (γ 3)))))),?_⟩;walk_at "t";refine⟨p,t,m,ps,f,r,?_⟩;refine Wa rfl W (λr0 r1=>?_) e;obtain⟨c,d,R,k⟩:=k r0 r1;refine⟨c,d,R,λlw H0 nw s0 ew=>⟨bL (by simp),λl0 n0=>?_⟩⟩;have G:=δ.new (.lst [V.ο]) n0;refine⟨T.Web,dx,_,G _ _ (s0 _ _ ob),T.Ι,T.Ψ,_,gI m t,?_⟩;refine⟨l0,m,_,rfl,rfl,az,by lia,by lia,bL (by simp;lia),λl M=>?_⟩;rw[FL];have Z:=G.trans (δ.new (.lst (List.replicate m.toNat V.ο)) M);have nl:=(s0.trans G).free M;have X:lw≠l:=λz=>by rw[<-z,G _ _ ew]at M;cases M
 have el:VP m (λ_=>none)=List.replicate m.toNat V.ο:=by
  unfold VP;rw[List.map_const',cu]
  rfl
 have e1:upd (upd H0 l0 (.lst [V.ο])) l (.lst (List.replicate m.toNat V.ο)) l=some (.lst (VP m (T8 m f r c d []))):=by rw[az,<-el];rfl
 generalize upd (upd H0 l0 (.lst [V.ο])) l (.lst (List.replicate m.toNat V.ο))=H1 at Z e1 ⊢;have Xf:=s0.trans Z;have ae:=Z _ _ ew;refine⟨p,t,m,ps,f,r,?_⟩;refine Wa rfl (W.same Xf) (λ_ _=>⟨c,d,R,λl2 C y H2 ab n2 S e2 pa O=>?_⟩) (λz=>absurd ⟨r0,r1⟩ z);have WQ:l2≠l:=λz=>by rw[z,e1]at n2;cases n2
 refine⟨l2,rfl,_,ν.of e2,?_⟩;have U:C.length=y.reverse.length:=Paired.length pa;have ll:((mI m f r c d).length:Int)=m:=by rw[zJ];lia
 refine xJ (K:=K) (xs:=C.map V.ref) (λi L j=>δ H j/\j lw=some (.lst ((mI m f r c d).map V.int))/\j l2=some (.lst (C.map V.ref))/\χ j c C y.reverse/\∃(v4 v5:Option V),j l=some (.lst (VP m (T8 m f r c d (y.take i))))/\L=[some (V.ref p),some (V.int r),some (V.ref lw),some (V.ref l),v4,v5]) ⟨Xf.trans S,S _ _ ae,e2,pa,_,_,S _ _ e1,rfl⟩ (λi L j _ z=>ν.of z.2.2.1) ?_ ?_
 .rintro i x L j N hN hx ⟨s4,w3,e3,Vg,v4,v5,c3,rfl⟩;have il:=(aD.mp hx).1;rw[bi,aa]at il;rw[bi]at U;rw[cL (by rw[aa];exact il),aa]at hx;obtain⟨q,v,rfl,TR,hv,eq⟩:=Vg.get hx;rw[cL (by lia),show y.length-1-(C.length-1-i)=i by lia]at hv;have vm:=aQ hv;have o:=O.Μ v vm;have vn:=O.ne vm;have u:=R.up v o.1 o.2 vn;obtain⟨kk,hk,k0,k1⟩:=jg g R o.1 o.2 vn;have ek:tup f c v=kk:=by unfold tup;rw[hk];rfl
  walk_at "";refine⟨_,Δ.of eq,rfl,_,_,rfl,_,_,rfl,rfl,?_⟩;refine⟨p,lw,t,m,ps,f,mI m f r c d,v,c v,kk,rfl,W.same s4,ν.of w3,ll,o,u.1,hk,k1,k0,_,rfl,?_⟩;rw[sV o.1 o.2,sV u.1.1 u.1.2];have B:y.take (i+1)=y.take i++[v]:=by rw[bj,hv];rfl
  by_cases J:ϣ m f r c d v*kk=ϣ m f r c d (c v)
  .rw[aj (bD J)];refine pJ c3 u.1.1 (by unfold VP;rw[aa,cu];lia) ?_;rw[Rb u.1.1 u.1.2];exact hN _ _ ⟨s4.put nl _,by rw[aW X];exact w3,by rw[aW WQ];exact e3,Paired.imp' (λa b h=>by rw[aW (eG h c3 (by nofun))];exact h) Vg,_,_,by rw[az,B,MA (by rw[ek];exact J)],rfl⟩
  .rw[ah (by rw[b4 J];decide)];exact hN _ _ ⟨s4,w3,e3,Vg,_,_,by rw[B,Lu (by rw[ek];exact J)];exact c3,rfl⟩
 .rintro L j ⟨s4,w3,e3,Vg,v4,v5,c3,rfl⟩;rw[bi]at U;rw[aa,U,bx]at c3;walk_at "";exact k y l j ab O nl s4 c3
def GQ(T:Txt K I):Sp:=λg H Q E=>E7 λ(p t:Addr)(m:Int)(h:hD)(c:hR)(r w:Int)=>g=[.ref p,.int r,.int w]/\μ T.Web H p m t h c/\(0<=r->r<m->1<=w->∃a b,ε m c r a b/\∀f d l e,eE m c r a b r=r::d->Order m r a d->iS m c r a (T8 m c r a b d) w f->H l=none->δ H e->e l=some (.tup (((cj m.toNat).map (lies (T8 m c r a b d) f)).map V.int))->Q (.ref l) e)/\(¬(0<=r/\r<m)->E (.ref T.NoPlace) none H)/\(0<=r->r<m->w<1->E (.ref T.BadWish) none H)
abbrev rF:Stmt:=top 75
def A9:ζ ["web","r","wanted","chosen","counts","place","front","given"] ["web","r","wanted"] (aK rF):=.of
def Dd:Wx (aK rF) "chosen":=.of (by kernel_rfl)
def CD:Wx (aK rF) "counts":=.of (by kernel_rfl)
def Aj:ϓ (aK rF) "reversed":=.of
def DB:ϓ (aK rF) "range":=.of
def Op(T:Txt K I)(hq:bQ (τ P w))(yt:Cb P w K I base "bearers" uZ ["web","r"] 9 (Cs T))(kH:wc P w base T)(dv:kL P w base T)(dY:oU P w base T):Ok P w K I base "worst" rF ["web","r","wanted"] 10 (GQ T):=λ_ _ D=>by
 refine D.F.Ϻ A9 λξ A a2 s H vs Q E hr h=>?_;obtain⟨p,t,m,ps,o,r,w,rfl,W,k,e,e'⟩:=h;have g:=W.go;have m1:=g.m1;have Β:=g.Β;obtain⟨dx,ob⟩:=W.ob;refine⟨_,(ax (cV (Κ kH hr bT (ag (γ 0) (ag (γ 1) (ag (γ 2) aq))))) (ax (se (i:=3) A9.nd rfl (Or.inr Dd.l) (Κ yt hr bT (ag (γ 0) (ag (γ 1) aq)))) (ax (se (i:=4) A9.nd rfl (Or.inr CD.l) (bg pN (ee (ag aM aq)) (dG (γ 0) rfl))) (ax (j7 (bg j5 (γ 2) aM) (nO (Us 4) (γ 1) hW)) (ax (fh PassesOwn.leaving rfl (yX Aj.g T.reversed (Κ dv hr bT (ag (γ 0) (ag (γ 1) aq)))) (jK (n:=2) rfl (ci (ϑ 5) (ci (ϑ 6) g6))) (ax (Γ 7 (BN (Υ dJ (ω bC (Us 3) (γ 6)) (γ 5)) (ω bC (Us 4) (γ 6)) aM)) (aJ (j7 (bg j5 (bg kR (bg gm (γ 7) aM) (Κ dY hr bT (ag (γ 0) (ag (γ 5) (ag (γ 6) aq))))) aM) (nO (Us 4) (γ 5) hW))))) (aJ (bn (ϰ iI T.tuple (ag (iE rfl (We ["place","counts","chosen"] 1 [4,3]) (jk DB.g T.range (ag (dG (γ 0) rfl) aq)) (λ_ _ _ _=>(fF (i:=0) (show(["place","counts","chosen"]:hG).Nodup from by decide +kernel) rfl (Or.inl rfl))) (λ_ _ _ _=>ik) (λ_ _ _ _=>(BN (HK (Mp (ω (qi K rfl) (pv 2) (pv 0)))) (ω (qi K rfl) (pv 1) (pv 0)) aM))) aq))))))))),?_⟩;walk_at "s";refine b6 λN1 h1=>?_;walk_at "";refine⟨p,t,m,ps,o,r,w,rfl,W,λr0 r1 w1=>?_,e,e'⟩;obtain⟨c,G,R,k⟩:=k r0 r1 w1;refine h1 _ _ (b6 λN2 h2=>?_);clear h1;walk_at "";refine⟨p,t,m,ps,o,r,rfl,W,λ_ _=>⟨c,G,R,λX J H0 et O nc s0 ec=>?_⟩,λz=>absurd ⟨r0,r1⟩ z⟩;refine h2 _ _ (b6 λN3 h3=>?_);clear h2;walk_at "";generalize VJ:T8 m o r c G X=ch at ec k;refine⟨bL (by simp),λl0 n0=>?_⟩;have s1:=δ.new (.lst [V.int 0]) n0;refine⟨T.Web,dx,_,s1 _ _ (s0 _ _ ob),T.Ι,T.Ψ,_,gI m t,?_⟩;refine⟨l0,m,_,rfl,rfl,az,by lia,by lia,bL (by simp;lia),λl n1=>?_⟩;rw[FL];refine h3 _ _ (b6 λN4 h4=>?_);clear h3;have s2:=s1.trans (δ.new (.lst (List.replicate m.toNat (V.int 0))) n1);have nl:=(s0.trans s1).free n1;have ab:J≠l:=λz=>by rw[<-z,s1 _ _ ec]at n1;cases n1
 have e1:upd (upd H0 l0 (.lst [V.int 0])) l (.lst (List.replicate m.toNat (V.int 0))) l=some (.lst ((List.replicate m.toNat (0:Int)).map V.int)):=by rw[az,gW]
 generalize upd (upd H0 l0 (.lst [V.int 0])) l (.lst (List.replicate m.toNat (V.int 0)))=H1 at s2 e1 ⊢;walk_at "";refine pJ e1 r0 (by rw[aa,cf];lia) ?_;rw[<-dh];refine h4 _ _ (b6 λN5 h5=>?_);clear h4;have st:YM m o r c ch w [] ((List.replicate m.toNat (0:Int)).set r.toNat (w-1)):=⟨by rw[bz,cf];lia,by rw[g9 _ _ _ _ (by rw[cf];lia),aj rfl],λv Z=>by cases Z⟩;have Xf:=(s0.trans s2).put nl (.lst (((List.replicate m.toNat (0:Int)).set r.toNat (w-1)).map V.int));have e3:upd H1 l (.lst (((List.replicate m.toNat (0:Int)).set r.toNat (w-1)).map V.int)) l=some (.lst (((List.replicate m.toNat (0:Int)).set r.toNat (w-1)).map V.int)):=az;have ad:upd H1 l (.lst (((List.replicate m.toNat (0:Int)).set r.toNat (w-1)).map V.int)) J=some (.lst (VP m ch)):=by rw[aW ab];exact s2 _ _ ec
 generalize upd H1 l (.lst (((List.replicate m.toNat (0:Int)).set r.toNat (w-1)).map V.int))=H3 at Xf e3 ad ⊢;generalize (List.replicate m.toNat (0:Int)).set r.toNat (w-1)=a9 at st e3;walk_at "";refine⟨p,t,m,ps,o,r,?_⟩;refine Wa rfl (W.same Xf) (λ_ _=>⟨c,G,R,λl2 qs dm H4 B n2 s4 e4 pa _=>?_⟩) (λz=>absurd ⟨r0,r1⟩ z);rw[et]at B;injection B with _ B
 subst B;have WQ:l2≠l:=λz=>by rw[z,e3]at n2;cases n2
 have ql:qs.length=X.reverse.length:=Paired.length pa;rw[bi]at ql;refine⟨l2,rfl,_,ν.of e4,?_⟩;refine xJ (K:=K) (xs:=qs.map V.ref) (λi C j=>δ H j/\j J=some (.lst (VP m ch))/\j l2=some (.lst (qs.map V.ref))/\χ j c qs X.reverse/\E4 λ(f:ej)(v5 v6 M:Option V)=>j l=some (.lst (f.map V.int))/\YM m o r c ch w (X.take i) f/\C=[some (V.ref p),some (V.int r),some (V.int w),some (V.ref J),some (V.ref l),v5,v6,M]) ⟨Xf.trans s4,s4 _ _ ad,e4,pa,a9,_,_,_,s4 _ _ e3,by rw[eO];exact st,rfl⟩ (λi C j _ z=>ν.of z.2.2.1) ?_ ?_
 .rintro i x C j N hN hx ⟨s5,ec5,e5,Y9,f,v5,v6,M,c5,S,rfl⟩;have il:=(aD.mp hx).1;rw[bi,aa]at il;rw[cL (by rw[aa];exact il),aa]at hx;obtain⟨q,v,rfl,TR,Z,eq⟩:=Y9.get hx;rw[cL (by lia),show X.length-1-(qs.length-1-i)=i by lia]at Z;have vm:=aQ Z;have L:=O.Μ v vm;have vn:=O.ne vm;have u:=R.up v L.1 L.2 vn;obtain⟨kk,Y,k0,k1⟩:=jg g R L.1 L.2 vn;have ek:tup o c v=kk:=by unfold tup;rw[Y];rfl
  have sl:=S.len;walk_at "";refine⟨_,Δ.of eq,rfl,_,_,rfl,_,_,rfl,rfl,?_⟩;have sc:sB (Xw (ch (c v))) (V.int v)=true:=by cases ch (c v)<;>rfl
  have d:∀(gv:Int)(M:Option V),gv=(if ch (c v)=some v then f.getD (c v).toNat 0 else 0)->Wq (V.ref l) (V.int v) (V.int ((gv+1)*kk-1)) j λH3=>N [some (V.ref p),some (V.int r),some (V.int w),some (V.ref J),some (V.ref l),some (V.int v),some (V.int (c v)),M] H3:=λgv M hg=>by
   refine pJ c5 L.1 (by rw[aa];lia) (hN _ _ ⟨s5.put nl _,by rw[aW ab];exact ec5,by rw[aW WQ];exact e5,Paired.imp' (λa b h=>by rw[aW (eG h c5 (by nofun))];exact h) Y9,_,_,_,_,by rw[az,<-dh],S.step R O r0 Z (by rw[ek,hg]),rfl⟩)
  refine Θ ec5 (JZ u.1.1 u.1.2) ⟨sc,?_⟩;by_cases z:ch (c v)=some v
  .rw[z]at d ⊢;refine TF (show Xw (some v)=V.int v from rfl) ?_;refine Θ c5 (ϩ u.1.1 (by lia)) ⟨_,rfl,p,t,m,ps,o,v,c v,rfl,W.same s5,λk' _ _ _ _ h=>?_,λz=>absurd ⟨L,u.1⟩ z,λ_ _ _ _ z=>by rw[Y]at z;cases z⟩;rw[Y]at h;cases h;exact⟨_,rfl,.inr ⟨by lia,by lia⟩,d _ _ (by rw[aj rfl])⟩
  .rw[ah (λy=>z (by cases e:ch (c v)with|none=>rw[e]at y;cases y|some b=>rw[e]at y;cases y;rfl))];refine⟨p,t,m,ps,o,v,c v,rfl,W.same s5,λk' _ _ _ _ h=>?_,λz=>absurd ⟨L,u.1⟩ z,λ_ _ _ _ z=>by rw[Y]at z;cases z⟩;rw[Y]at h;cases h;exact⟨_,rfl,.inr ⟨by lia,by lia⟩,d 0 _ (by rw[ah z])⟩
 .rintro C j ⟨s5,ec5,e5,Y9,f,v5,v6,M,c5,S,rfl⟩;refine h5 _ _ ?_;rw[aa,ql,bx]at S;have N:=S.done O;have sl:=S.len;have W5:=W.same s5;obtain⟨a8,a1⟩:=W5.ob;walk_at "";refine⟨T.Web,a8,_,a1,T.Ι,T.Ψ,_,gI m t,m,rfl,by lia,by lia,λpc Vf=>?_⟩;refine ku (λi zs C U=>δ j U/\U pc=some (.lst zs)/\zs=((cj i).map (lies ch λv=>f.getD v.toNat 0)).map V.int/\∃v,C=[v,some (V.ref l),some (V.ref J)]) ⟨δ.new _ Vf,az,rfl,_,rfl⟩ ?_ ?_
  .rintro i zs C U N2 hN hi ⟨s6,e6,rfl,v,rfl⟩;rw[ce];have i0:(0:Int)<=(i:Int):=(by lia);have i1:(i:Int)<m:=(by lia);walk_at "";refine Θ (s6 _ _ ec5) (JZ i0 i1) ?_;have d:∀y:Int,y=lies ch (λv=>f.getD v.toNat 0) (i:Int)->U pc=some (.lst (((cj i).map (lies ch λv=>f.getD v.toNat 0)).map V.int))/\(((cj i).map (lies ch λv=>f.getD v.toNat 0)).map V.int).length<sizeLine/\N2 (((cj i).map (lies ch λv=>f.getD v.toNat 0)).map V.int++[V.int y]) [some (V.int (i:Int)),some (V.ref l),some (V.ref J)] (upd U pc (.lst (((cj i).map (lies ch λv=>f.getD v.toNat 0)).map V.int++[V.int y]))):=λy hy=>by
    refine⟨e6,eg (by rw[aa,aa,cu];lia),hN _ _ _ ⟨s6.put Vf _,az,?_,_,rfl⟩⟩;rw[sF,au,au,hy]
    rfl
   cases e:ch (i:Int)with
   | none=>
     rw[aj (show Xw none=V.ο from rfl)];exact Θ (s6 _ _ c5) (ϩ i0 (by lia)) (d _ (by unfold lies;rw[aj e]))
   | some b=>
     rw[ah (show ¬Xw (some b)=V.ο from by intro z;cases z)];exact d 0 (by unfold lies;rw[ah (by rw[e];intro z;cases z)])
  .rintro zs C U ⟨s6,e6,rfl,v,rfl⟩;refine⟨pc,rfl,_,.inl ⟨ν.of e6,λlr nr=>?_⟩⟩;have ac:=s5.trans s6;exact k _ X lr _ et O (by rw[VJ];exact N) (ac.free nr) (ac.trans (δ.new _ nr)) (by rw[az,VJ])
def ye(T:Txt K I):Sp:=λ_ _ _ _=>False
abbrev t7:Stmt:=top 100
def Fv:ζ ["web","r","wanted"] ["web","r","wanted"] (aK t7):=.of
def Ft(T:Txt K I)(a:bQ (τ P w)):Ok P w K I base "worst_many" t7 ["web","r","wanted"] 1 (ye T):=λ_ _ D=>D.F.ϊ Fv (λ_ _ _ _ _ _ _ _ _ h=>h.elim) (λ_ _ _ _ h=>h.elim)
def wC(T:Txt K I):Sp:=λf H Q _=>E9 λ(p t b:Addr)(m:Int)(g:hD)(c:hR)(w:Str)(d:List Nat)(a:Str)=>f=[.ref p,.str w,.ref b]/\μ T.Web H p m t g c/\H b=some (.lst (VD d))/\UK m c w d a/\∀e,δ H e->Q (.str a) e
abbrev sD:Stmt:=top 114
def DM:ζ ["web","word","numbers"] ["web","word","numbers"] (aK sD):=.of
def D4(T:Txt K I)(c:bQ (τ P w))(L:Cb P w K I base "enough" A8 ["web","r","wanted"] 9 (EW T))(G:Cb P w K I base "hardest" yZ ["web","wanted"] 1 (Dg T))(o:qc P w base T)(B:pC P w base T)(U:Cb P w K I base "worst" rF ["web","r","wanted"] 10 (GQ T))(C:Cb P w K I base "worst_many" t7 ["web","r","wanted"] 1 (ye T)):Ok P w K I base "told_of_web" sD ["web","word","numbers"] 11 (wC T):=λ_ _ D=>by
 refine D.F.ϊ DM λV A i s H Y Q E d h=>?_;obtain⟨p,t,X,m,y,x,w,Z,a,rfl,W,f,r,k⟩:=h;refine⟨_,(ax (cg (Υ dJ (γ 1) bE) (aJ (bn (Ν o d c (ag (Ν L d c (ag (γ 0) (ag (ω bC (γ 2) aM) (ag (ω bC (γ 2) aM) aq)))) aq)))) bR) (ax (cg (Υ dJ (γ 1) bE) (aJ (bn (Ν B d c (ag (Ν G d c (ag (γ 0) (ag (ω bC (γ 2) aM) aq))) aq)))) bR) (ax (cg (Υ dJ (γ 1) bE) (aJ (bn (Ν B d c (ag (Ν U d c (ag (γ 0) (ag (ω bC (γ 2) aM) (ag (ω bC (γ 2) aM) aq)))) aq)))) bR) (aJ (bn (Ν o d c (ag (Ν C d c (ag (γ 0) (ag (ω bC (γ 2) aM) (ag (ω bC (γ 2) aM) aq)))) aq))))))),?_⟩;walk_at "t"
 induction r with
 | @enough v w par dep h w1 w2 R b=>
   refine TF rfl ?_;exact Θ f rfl (Θ f rfl ⟨p,t,m,y,x,v,w,rfl,W,by lia,by lia,λ_ _ _=>⟨par,dep,R,λO g=>⟨_,rfl,b,λn j=>k n (g.trans j)⟩⟩,λz=>absurd ⟨by lia,h⟩ z,λ_ _ z=>absurd z (by lia)⟩)
 | @worst v w par dep tl zs cn h w1 w2 R et N ez l b=>
   refine gT (UI (by decide)) (gT (UI (by decide)) (TF rfl ?_));exact Θ f rfl (Θ f rfl ⟨p,t,m,y,x,v,w,rfl,W,λ_ _ _=>⟨par,dep,R,λJ M q O u _ S _ g e=>by
    rw[et]at u;cases u;rw[iS.YN R S N,<-ez]at e;exact⟨q,false,_,rfl,e,by lia,b,λn j=>k n (g.trans j)⟩⟩,λz=>absurd ⟨by lia,h⟩ z,λ_ _ z=>absurd z (by lia)⟩)
def uQ(T:Txt K I):Sp:=λi H Q E=>E13 λ(o h g t d:Addr)(m:Int)(j:hD)(e:hR)(c:List (List Int×List Int))(s:List Int×List Int)(w:Str)(f:List Nat)(r:Sum Str Nat)=>i=[.ref o,.str w,.ref d]/\ς T.Web T.Desk H o h g m t j e (c++[s])/\bI m s.1=true/\bI m s.2=true/\H d=some (.lst (VD f))/\FX m e s.1 s.2 w f r/\(∀a,r=.inl a->∀b,δ H b->Q (.str a) b)/\(r=.inr 4->∀x b,δ H b->E (.ref T.NoWorst) x b)
abbrev qX:Stmt:=top 113
def Cr:ζ ["desk","word","numbers"] ["desk","word","numbers"] (aK qX):=.of
def Ch(T:Txt K I)(hq:bQ (τ P w))(i:sv P w base T)(f:vQ P w base T)(Bb:Cb P w K I base "always" Br ["web","wish"] 60 (ER T))(Dl:Cb P w K I base "bring" Eh ["web","laying","r"] 9 (G8 T))(tq:JX P w base T)(yx:Cb P w K I base "meeting" yB ["web","laying","wish"] 11 (CK T))(rf:Cb P w K I base "meeting_text" qS ["found"] 4 (uO T))(GN:Cb P w K I base "most" Ih ["web","laying","r"] 9 (JN T))(dR:qc P w base T)(dC:pC P w base T)(iJ:xy P w base T)(qP:Cb P w K I base "standing_text" qD ["number"] 2 (uv T))(mP:zg P w base T)(sj:Cb P w K I base "told_of_web" sD ["web","word","numbers"] 11 (wC T)):Ok P w K I base "told_of_desk" qX ["desk","word","numbers"] 61 (uQ T):=λ_ _ D=>by
 refine D.F.Ϻ Cr λξ A ae s H vs Q E c h=>?_;obtain⟨o,x,pl,t,ln,m,B,y,Z,s,w,ns,r,rfl,O,U,J,hl,r,k,e4⟩:=h;have g:=O.web.go;refine⟨_,(ax (cg (Υ dJ (γ 1) bE) (aJ (bn (Κ dC c bT (ag (iM (γ 0) T.η i.M i.G (c.mono (by decide)) i.b .nil bT) aq)))) bR) (ax (cg (Υ dJ (γ 1) bE) (aJ (bn (Κ dC c bT (ag (iM (γ 0) T.η f.M f.G (c.mono (by decide)) f.b .nil bT) aq)))) bR) (ax (cg (Υ dJ (γ 1) bE) (aJ (bn (Κ dR c bT (ag (Κ GN c bT (ag (dG (γ 0) rfl) (ag (iM (γ 0) T.η i.M i.G (c.mono (by decide)) i.b .nil bT) (ag (ω bC (γ 2) aM) aq)))) aq)))) bR) (ax (cg (Υ dJ (γ 1) bE) (aJ (bn (Κ mP c bT (ag (Κ Dl c bT (ag (dG (γ 0) rfl) (ag (iM (γ 0) T.η i.M i.G (c.mono (by decide)) i.b .nil bT) (ag (ω bC (γ 2) aM) aq)))) aq)))) bR) (ax (cg (Υ dJ (γ 1) bE) (aJ (bn (Κ qP c bT (ag (Κ iJ c bT (ag (dG (γ 0) rfl) (ag (iM (γ 0) T.η i.M i.G (c.mono (by decide)) i.b .nil bT) (ag (iM (γ 0) T.η f.M f.G (c.mono (by decide)) f.b .nil bT) (ag (ω bC (γ 2) aM) aq))))) aq)))) bR) (ax (cg (Υ dJ (γ 1) bE) (aJ (bn (Κ rf c bT (ag (Κ yx c bT (ag (dG (γ 0) rfl) (ag (iM (γ 0) T.η i.M i.G (c.mono (by decide)) i.b .nil bT) (ag (iM (γ 0) T.η f.M f.G (c.mono (by decide)) f.b .nil bT) aq)))) aq)))) bR) (ax (cg (Υ dJ (γ 1) bE) (aJ (bn (Κ dR c bT (ag (Κ Bb c bT (ag (dG (γ 0) rfl) (ag (iM (γ 0) T.η f.M f.G (c.mono (by decide)) f.b .nil bT) aq))) aq)))) bR) (ax (cg (Υ dJ (γ 1) bE) (aJ (bn (Κ dC c bT (ag (Κ tq c bT (ag (dG (γ 0) rfl) (ag (iM (γ 0) T.η f.M f.G (c.mono (by decide)) f.b .nil bT) aq))) aq)))) bR) (aJ (bn (Κ sj c bT (ag (dG (γ 0) rfl) (ag (γ 1) (ag (γ 2) aq)))))))))))))),?_⟩;walk_at "s";have Β:=g.Β;have xl:=jc U;have yl:=jc J;have u:∀{P:Prop}{z:ej},bI m z=true->bI m z=false->P:=λa b=>by rw[a]at b;cases b
 walk_at "";have S:∀{R:V->Hp->Prop},(∀a,H a=some (.tup (s.1.map V.int))->R (.ref a) H)->qY T [.ref o] H R E:=λh=>⟨o,x,pl,t,m,B,y,Z,s,rfl,O,h⟩;have L:∀{R:V->Hp->Prop},(∀a,H a=some (.tup (s.2.map V.int))->R (.ref a) H)->tT T [.ref o] H R E:=λh=>⟨o,x,pl,t,m,B,y,Z,s,rfl,O,h⟩;rcases r with⟨r,n0⟩|⟨a,rfl,r⟩
 .induction r with
  | laying l b=>
    refine TF rfl ?_;exact O.Ϟ (S λa d=>⟨a,false,_,rfl,d,by lia,b,k _ rfl⟩)
  | wish l b=>
    refine gT (UI (by decide)) (TF rfl ?_);exact O.Ϟ (L λa d=>⟨a,false,_,rfl,d,by lia,b,k _ rfl⟩)
  | @most v par dep h R b=>
    repeat refine gT (UI (by decide)) ?_
    refine TF rfl ?_;exact O.WN T.η T.υ (O.Ϟ (S λa d=>Θ hl rfl ⟨x,a,t,false,m,B,y,s.1,v,rfl,O.web,Δ.of d,by lia,λ_ _ _=>⟨par,dep,R,λC e=>⟨_,rfl,b,λn j=>k _ rfl n (e.trans j)⟩⟩,u U,λ_ z=>absurd ⟨by lia,h⟩ z⟩))
  | aav h=>exact absurd rfl n0
  | @bring v par dep tl ss h R et es l b=>
    repeat refine gT (UI (by decide)) ?_
    refine TF rfl ?_;refine O.WN T.η T.υ (O.Ϟ (S λa d=>Θ hl rfl ⟨x,a,t,false,m,B,y,s.1,v,rfl,O.web,Δ.of d,by lia,λ_ _ _=>⟨par,dep,R,λp qs ac C X n1 e N ba _=>?_⟩,u U,λ_ z=>absurd ⟨by lia,h⟩ z⟩));rw[et]at X;cases X;subst es;exact⟨p,true,qs,_,rfl,N,NC ba,by lia,b,λn j=>k _ rfl n (e.trans j)⟩
  | YW h=>exact absurd rfl n0
  | @stands v par dep h R b=>
    repeat refine gT (UI (by decide)) ?_
    refine TF rfl ?_;exact O.WN T.η T.υ (O.Ϟ (S λa d=>O.Ϟ (L λY W=>Θ hl rfl ⟨x,a,Y,t,false,false,m,B,y,s.1,s.2,v,rfl,O.web,Δ.of d,by lia,Δ.of W,by lia,λ_ _ _ _=>⟨par,dep,R,λC e=>⟨_,rfl,b,λn j=>k _ rfl n (e.trans j)⟩⟩,u U,λ_=>u J,λ_ _ z=>absurd ⟨by lia,h⟩ z⟩)))
  | Xy h=>exact absurd rfl n0
  | @VE Η Ρ tl ss RR et h es l b=>
    repeat refine gT (UI (by decide)) ?_
    refine TF rfl ?_;refine O.WN T.η T.υ (O.Ϟ (S λa d=>O.Ϟ (L λY W=>⟨x,a,Y,t,false,false,m,B,y,s.1,s.2,rfl,O.web,Δ.of d,by lia,Δ.of W,by lia,λ_ _=>⟨Η,Ρ,RR,λ_ p q qs ac C X _ _ _ e N e2 st=>?_,λz=>absurd h z⟩,u U,λ_=>u J⟩)));rw[et]at X;cases X;subst es;exact⟨p,q,_,rfl,N,.inl ⟨qs,_,rfl,e2,st,l,b,λn j=>k _ rfl n (e.trans j)⟩⟩
  | @VF Η Ρ zs RR h es l b=>
    repeat refine gT (UI (by decide)) ?_
    refine TF rfl ?_;subst es;exact O.WN T.η T.υ (O.Ϟ (S λa d=>O.Ϟ (L λY W=>⟨x,a,Y,t,false,false,m,B,y,s.1,s.2,rfl,O.web,Δ.of d,by lia,Δ.of W,by lia,λ_ _=>⟨Η,Ρ,RR,λz=>absurd z h,λ_ p q C _ _ e N e2=>⟨p,q,_,rfl,N,.inr ⟨_,rfl,e2,l,b,λn j=>k _ rfl n (e.trans j)⟩⟩⟩,u U,λ_=>u J⟩)))
  | TV h=>
    repeat refine gT (UI (by decide)) ?_
    refine TF rfl ?_;exact O.WN T.η T.υ (O.Ϟ (L λa d=>⟨x,a,t,false,m,B,y,s.2,rfl,O.web,Δ.of d,by lia,λ_ z=>absurd h z,λ_ _ C e=>⟨0,rfl,by decide,λn j=>k _ rfl n (e.trans j)⟩,u J⟩))
  | @always par dep h R b=>
    repeat refine gT (UI (by decide)) ?_
    refine TF rfl ?_;exact O.WN T.η T.υ (O.Ϟ (L λa d=>⟨x,a,t,false,m,B,y,s.2,rfl,O.web,Δ.of d,by lia,λ_ _=>⟨par,dep,R,λC e=>⟨_,rfl,b,λn j=>k _ rfl n (e.trans j)⟩⟩,λ_ z=>absurd z h,u J⟩))
  | WC h=>
    repeat refine gT (UI (by decide)) ?_
    refine TF rfl ?_;exact O.WN T.η T.υ (O.Ϟ (L λa d=>⟨x,a,t,false,m,B,y,s.2,rfl,O.web,Δ.of d,by lia,λ_ z=>absurd h z,u J,λ_ _=>e4 rfl none⟩))
  | @fails par dep zs h R es l b=>
    repeat refine gT (UI (by decide)) ?_
    refine TF rfl ?_;subst es;exact O.WN T.η T.υ (O.Ϟ (L λa d=>⟨x,a,t,false,m,B,y,s.2,rfl,O.web,Δ.of d,by lia,λ_ _=>⟨par,dep,R,λp C _ e N=>⟨p,false,_,rfl,N,by lia,b,λn j=>k _ rfl n (e.trans j)⟩⟩,u J,λ_ z=>absurd z h⟩))
 .repeat refine gT (UI (QY r (by decide))) ?_
  exact O.WN T.η T.υ ⟨x,t,ln,m,B,y,w,ns,a,rfl,O.web,hl,r,λC e=>k _ rfl C e⟩
def yJ(T:Txt K I):Sp:=λh H Q E=>YV λ(o f d t:Addr)(m:Int)(g:hD)(e:hR)(b:List (List Int×List Int))(s:List Int×List Int)(z:Str)(r:Sum Str Nat)(S:List (List Int×List Int))=>h=[.ref o,.str z]/\ς T.Web T.Desk H o f d m t g e (b++[s])/\b.length<=500/\bI m s.1=true/\bI m s.2=true/\By m e b s z r S/\(∀a,r=.inl a->∀c,ς T.Web T.Desk c o f d m t g e S->Ϸ d H c->Q (.str a) c)/\(r=.inr 4->∀x c,δ H c->E (.ref T.NoWorst) x c)
abbrev vh:Stmt:=top 111
def GS:ζ ["desk","row","words","numbers"] ["desk","row"] (aK vh):=.of
def GP(T:Txt K I)(hq:bQ (τ P w))(zB:Cb P w K I base "do_deed" yL ["desk","word","numbers"] 7 (C9 T))(mG:y4 P w base T)(rn:Cb P w K I base "told_of_desk" qX ["desk","word","numbers"] 61 (uQ T))(Ϩ:DK w K T.NUMBERS_BEHIND nbK):Ok P w K I base "answer_of" vh ["desk","row"] 62 (yJ T):=λ_ _ D=>by
 refine D.F.Ϻ GS λξ A G s H vs Q E N h=>?_;obtain⟨o,wb,W,t,m,ps,Y,g,s,z,r,S,rfl,O,sl,fi,fj,⟨zl,b,d,ez,L,M,ra⟩,k,e4⟩:=h;refine⟨_,(ax (Γ 2 (kX PySem.F.plainAttrs_str PySem.F.slot_str_split PySem.F.type_str_split qf (γ 1) (ag bE aq))) (ax (cg (qm (Rh w K rfl rfl Ϩ) (ω bC (γ 2) aM) (pgl T.ϧ) (by with_unfolding_all rfl)) (aJ j0) bR) (ax (Γ 3 (Κ mG N bT (ag (iu rp (γ 2) (jf aM) je) (ag (Oh w K rfl rfl Ϩ (pgl T.ϧ) (ω bC (γ 2) aM) (λ_ _=>rfl)) (ag aM aq))))) (ax (cg (qm LM (ω bC (γ 2) aM) (pgl T.XA) (by with_unfolding_all rfl)) (ax (cV (Κ zB N bT (ag (γ 0) (ag (ω bC (γ 2) aM) (ag (γ 3) aq))))) (aJ (bn bE))) bR) (aJ (bn (Κ rn N bT (ag (γ 0) (ag (ω bC (γ 2) aM) (ag (γ 3) aq)))))))))),?_⟩;walk_at "s";unfold Xk sU ϛ;refine b6 λN1 h1=>?_;walk_at "";refine⟨by simp[Uo],z,rfl,_,rfl,rfl,zl,λl nl=>h1 _ _ (b6 λN2 h2=>?_)⟩;have Z:=δ.new (HO.lst ((Txt.split z (Str.ofString " ")).map V.str)) nl;have e:upd H l (HO.lst ((Txt.split z (Str.ofString " ")).map V.str)) l=some (.lst ((b::d.map FS).map V.str)):=by rw[az,<-ez];rfl
 generalize upd H l (HO.lst ((Txt.split z (Str.ofString " ")).map V.str))=X at Z e ⊢;have i:aT ((b::d.map FS).map V.str) 0=some (.str b):=iQ (by decide) rfl;walk_at "";refine Θ e i ⟨b,rfl,rfl,_,rfl,?_⟩;rw[LA,M,ah (by exact bq)];refine h2 _ _ (b6 λN3 h3=>?_);walk_at "";refine⟨l,_,rfl,ν.of e,λv n2=>?_⟩;rw[CW _ (by decide)];have s2:=Z.trans (δ.new (HO.lst (((b::d.map FS).map V.str).drop (1:Int).toNat)) n2);have J:=δ.new (HO.lst (((b::d.map FS).map V.str).drop (1:Int).toNat)) n2 _ _ e;have f:upd X v (HO.lst (((b::d.map FS).map V.str).drop (1:Int).toNat)) v=some (.lst ((d.map FS).map V.str)):=az;generalize upd X v (HO.lst (((b::d.map FS).map V.str).drop (1:Int).toNat))=H2 at s2 J f ⊢;refine Θ J i ⟨b,.int d.length,rfl,rfl,by rw[LA,M];rfl,?_⟩;refine⟨v,d,1,rfl,f,aV (KF M) (by decide),L,λp H3 np U q=>?_⟩;refine h3 _ _ ?_;have u:=s2.trans U;have R:=O.same u;have C:=U _ _ J;walk_at "";refine Θ C i ⟨T.DEEDS,_,rfl,.inr T.XB.sq,rfl,rfl,_,rfl,?_⟩;rcases ra with⟨er,s',rfl,h⟩|⟨eS,h⟩
 .refine TF (Sa h) ?_;exact Θ C i ⟨o,wb,W,t,p,m,ps,Y,g,s,b,d,s',rfl,R,sl,fi,fj,q,h,λj O4 k4=>k _ er j O4 λc y h n=>k4 c y (u _ _ h) n⟩
 .refine gT (PH h) ?_;exact Θ C i ⟨o,wb,W,t,p,m,ps,Y,g,s,b,d,r,rfl,R,fi,fj,q,h,λa ea j B=>k a ea j (eS▸R.same B) λc y h n=>B _ _ (u _ _ h),λz x j B=>e4 z x j (u.trans B)⟩
def Ur{K:gy}{C b:Addr}(c:TL K b C){a:Addr}{d R2:Prop}(ne:a≠b)(n:a≠C)(h:R2):∃D,Value.ref C=Value.ref D/\∃x,PySem.W.mroIn K D (Value.ref a)=some x/\if x=true then d else R2:=⟨C,rfl,false,by rw[c.mr,b4 ne,nZ,b4 n],h⟩
def hit{K:gy}{C b:Addr}(c:TL K b C){a R2:Prop}(h:a):∃D,Value.ref C=Value.ref D/\∃x,PySem.W.mroIn K D (Value.ref C)=some x/\if x=true then a else R2:=⟨C,rfl,true,by rw[c.mr];simp,h⟩
def wF(T:Txt K I):Sp:=λg H Q _=>YV λ(o e c t:Addr)(m:Int)(f:hD)(b:hR)(a:List (List Int×List Int))(s:List Int×List Int)(z:Str)(r:Sum Str Nat)(S:List (List Int×List Int))=>g=[.ref o,.str z]/\ς T.Web T.Desk H o e c m t f b (a++[s])/\a.length<=500/\bI m s.1=true/\bI m s.2=true/\By m b a s z r S/\∀d,ς T.Web T.Desk d o e c m t f b S->Ϸ c H d->Q (.str (qM r)) d
abbrev h9:Stmt:=mF (top 110) 9
def DC:ζ ["self","row"] ["self","row"] (aK h9):=.of
def pW:ϓ (aK h9) "BadText":=.of
def pQ:ϓ (aK h9) "NoPlace":=.of
def oZ:ϓ (aK h9) "BadLaying":=.of
def pU:ϓ (aK h9) "BadWish":=.of
def pX:ϓ (aK h9) "BadStep":=.of
def qw:ϓ (aK h9) "NoDeed":=.of
def pS:ϓ (aK h9) "NoWorst":=.of
def DD(T:Txt K I)(R:bQ (τ P w))(G:Cb P w K I base "answer_of" vh ["desk","row"] 62 (yJ T)):Wf P w K I base "answer" "Desk.answer" h9 ["self","row"] 63 (wF T):=λ_ _ F=>by
 refine F.ϊ DC λN A j s H U Q E J h=>?_;obtain⟨o,B,y,t,m,L,C,l,s,z,r,S,rfl,O,q,u,M,n,k⟩:=h;refine⟨_,(aJ (LZ rfl rfl rfl (GZ (Q3 (pyb G J (ag (γ 0) (ag (γ 1) aq))))) (xi T.Ux.x pW.g T.Uv (λ_=>(aJ (bn bE))) (xi T.VW.x pQ.g T.Ut (λ_=>(aJ (bn bE))) (xi T.U9.x oZ.g T.TJ (λ_=>(aJ (bn bE))) (xi T.VY.x pU.g T.BV (λ_=>(aJ (bn bE))) (xi T.V0.x pX.g T.VS (λ_=>(aJ (bn bE))) (xi T.WM.x qw.g T.WH (λ_=>(aJ (bn bE))) (xi T.ϋ.x pS.g T.Uu (λ_=>(aJ (bn bE))) MZ (hdb:=pS.d)) (hdb:=qw.d)) (hdb:=pX.d)) (hdb:=pU.d)) (hdb:=oZ.d)) (hdb:=pQ.d)) (hdb:=pW.d)))),?_⟩;walk_at "s";unfold Kr Gy;walk_at "";have v:∀{c:Nat},r=.inr c->∀f,δ H f->Q (.str (RP c)) f:=λe f i=>by
  have:=k f;rw[e]at this;exact this (by rw[n.same e];exact O.same i) λb x h _=>i b x h
 exact⟨o,B,y,t,m,L,C,l,s,z,r,S,rfl,O,q,u,M,n,(λa e f p D=>by have:=k f p D;rw[e]at this;exact this),(λe x f i=>Ur T.ϋ (Wc T.VG 9 0) (Wc T.VG 9 6) (Ur T.ϋ (Wc T.VG 2 0) (Wc T.VG 2 6) (Ur T.ϋ (Wc T.VG 4 0) (Wc T.VG 4 6) (Ur T.ϋ (Wc T.VG 5 0) (Wc T.VG 5 6) (Ur T.ϋ (Wc T.VG 8 0) (Wc T.VG 8 6) (Ur T.ϋ (Wc T.VG 7 0) (Wc T.VG 7 6) (hit T.ϋ (v e _ i))))))))⟩
def y6(T:Txt K I):Sp:=λb H Q _=>E3 λ(l:Addr)(a:List V)(i:Int)=>b=[.ref l,.int i]/\H l=some (.lst a)/\(a.length:Int)<=i/\Q .ο H
abbrev vP:Stmt:=top 92
def HB:ζ ["rows","last"] ["rows","last"] (aK vP):=.of
def Gh(T:Txt K I)(e:bQ (τ P w)):Ok P w K I base "check_end" vP ["rows","last"] 1 (y6 T):=λ_ _ D=>by
 refine D.F.ϊ HB λd A a s H f Q E g h=>?_;obtain⟨l,b,i,rfl,c,le,k⟩:=h;refine⟨_,(aJ (cg (Υ xB (lE fq T.len (ag (γ 0) aq)) (γ 1)) (aJ j0) bR)),?_⟩;walk_at "t";refine⟨b,.inl (ν.of c),?_⟩;rw[ah (by lia)];exact k
def Aw(T:Txt K I):Sp:=λf H Q _=>E5 λ(a:Addr)(e:hG)(i:Nat)(c:Str)(b:List Nat)=>f=[.ref a,.int (i+1:Nat),.str c,.int b.length]/\H a=some (.lst (e.map V.str))/\e[i]?=some (Ε c b)/\Vq c/\b.length<=4/\(∀n∈b,n<10^60)/\∀p d,H p=none->δ H d->d p=some (.lst (VD b))->Q (.ref p) d
abbrev xx:Stmt:=top 88
def IA:ζ ["rows","at","head","many","words"] ["rows","at","head","many"] (aK xx):=.of
def IE(T:Txt K I)(t:bQ (τ P w))(y:y4 P w base T):Ok P w K I base "read_row" xx ["rows","at","head","many"] 4 (Aw T):=λ_ _ D=>by
 refine D.F.ϊ IA λG A c s H J Q E B h=>?_;obtain⟨a,o,i,d,b,rfl,f,j,g,nl,nb,k⟩:=h;refine⟨_,(ax (cg (Υ xB (γ 1) (lE fq T.len (ag (γ 0) aq))) (aJ j0) bR) (ax (Γ 4 (kX PySem.F.plainAttrs_str PySem.F.slot_str_split PySem.F.type_str_split qf (ω bC (γ 0) (bg j5 (γ 1) aM)) (ag bE aq))) (ax (cg (Υ p9 (ω bC (γ 4) aM) (γ 2)) (aJ j0) bR) (aJ (bn (Ν y B t (ag (iu rp (γ 4) (jf aM) je) (ag (γ 3) (ag (γ 1) aq))))))))),?_⟩;walk_at "s";unfold Xk sU ϛ;walk_at "";have L:i<o.length:=(aD.mp j).1;refine⟨_,.inl (ν.of f),?_⟩;rw[ah (by rw[aa];lia),show(((i+1:Nat):Int)-1)=(i:Int) by lia];refine Θ f (iQ (Int.natCast_nonneg i) (v:=V.str (Ε d b)) (by rw[bM,aP,j];rfl)) ?_;refine⟨by simp[Uo],_,rfl,_,rfl,rfl,?_,λl nl=>?_⟩
 .have:=rD g nb
  lia
 rw[zA g];have x:=δ.new (.lst ((d::b.map FS).map V.str)) nl;refine Θ (v:=V.str d) az (iQ (by decide) rfl) ⟨by simp[sB],?_⟩;rw[ah (λz=>z rfl)];refine⟨l,_,rfl,ν.of az,λq C=>?_⟩;rw[CW _ (by decide)];have m:=x.trans (δ.new (.lst ((b.map FS).map V.str)) C);refine⟨q,b,_,rfl,az,by lia,nb,λp u r n e=>k p u (m.free r) (m.trans n) e⟩
def AR(T:Txt K I):Sp:=λc H Q _=>∃(m:Int)(a:hR),c=[.str (wbt m a)]/\Good m a/\∀p t d b,H p=none->δ H b->μ T.Web b p m t d a->Q (.ref p) b
abbrev lO:Stmt:=top 87
def vo:ζ ["text","rows","many","last","roads"] ["text"] (aK lO):=.of
def Bh:Wx (aK lO) "rows":=.of (by kernel_rfl)
def Ak:Ve (aK lO) "roads":=.of (by kernel_rfl)
def pG:ϓ (aK lO) "MOST_PLACES":=.of
def An:ϓ (aK lO) "range":=.of
def uR:ϓ (aK lO) "Web":=.of
def IU(T:Txt K I)(J:bQ (τ P w))(Y:wg P w base T)(vN:Cb P w K I base "check_end" vP ["rows","last"] 1 (y6 T))(p:Cb P w K I base "read_row" xx ["rows","at","head","many"] 4 (Aw T)):Ok P w K I base "read_web" lO ["text"] 5 (AR T):=λ_ _ D=>by
 refine D.F.ϊ vo λξ A U s H vs Q E L h=>?_;obtain⟨m,a,rfl,g,k⟩:=h;refine⟨_,(ax (se (i:=1) vo.nd rfl (Or.inr Bh.l) (kX PySem.F.plainAttrs_str PySem.F.slot_str_split PySem.F.type_str_split qf (γ 0) (ag bE aq))) (ax (Γ 2 (rP bC (Ν p L J (ag (Us 1) (ag aM (ag bE (ag aM aq))))) aM (λ_ _=>rfl))) (ax (Γ 3 (BN (xQ sK sK aM (γ 2) (nD pG.g T.ϻ (hd:=pG.d))) (γ 2) aM)) (ax (sJ (i:=4) vo.nd rfl Ak.l rfl (We ["at","rows"] 1 [1]) (Es An.g T.range (ag aM (ag (bg gm (γ 3) aM) aq))) (λ_ _ _ _=>(fF (i:=0) (show(["at","rows"]:hG).Nodup from by decide +kernel) rfl (Or.inl rfl))) (λ_ _ _ _=>ik) (λ_ _ _ _=>(lM (we K rfl) (by rfl) T.tuple HX (ag (iU p.G (L.mono (by decide)) (by rfl) p.D.m p.D.F.kp p.D.b .nil (gJ J) (ag (pv 1) (ag (pv 0) (ag bE (ag aM aq))))) aq)))) (ax (cV (Ν vN L J (ag (Us 1) (ag (γ 3) aq)))) (aJ (bn (zR Y.M Y.G (L.mono (by decide)) uR.g T.X1 Y.b .nil (gJ J) (ag (γ 2) (ag (γ 4) aq)) (hdb:=uR.d))))))))),?_⟩;walk_at "s";have m1:=g.m1;have Β:=g.Β;have YZ:=g.len;refine b6 λN0 h0=>?_;walk_at "";refine⟨by simp[Uo],_,rfl,_,rfl,rfl,Q1 g,λl nl=>h0 _ _ (b6 λN1 h1=>?_)⟩;rw[PF];have S:=δ.new (.lst ((eJ m a).map V.str)) nl;have C:upd H l (.lst ((eJ m a).map V.str)) l=some (.lst ((eJ m a).map V.str)):=az;generalize upd H l (.lst ((eJ m a).map V.str))=H1 at S C ⊢;walk_at "";refine⟨l,eJ m a,0,Ui,[m.toNat],rfl,C,rfl,Eg,(show 1<=4 by decide),?_,λp2 H2 a0 t e2=>?_⟩
 .intro n hn;rw[aG.mp hn];exact fX (show m.toNat<=24 by lia) (by decide)
 refine Θ (v:=V.int m) e2 (iQ (by decide) (by show some (V.int (m.toNat:Int))=_;rw[bJ (show 0<=m by lia)])) (h1 _ _ (b6 λN2 h2=>?_));have y:=t _ _ C;have Ϣ:=S.trans t;clear S t C e2 h0 h1;walk_at "";rw[aj m1,aj Β];refine h2 _ _ (b6 λN3 h3=>?_);clear h2;walk_at "";refine⟨2,m+1,⟨rfl,rfl⟩,⟨by lia,by lia,by lia,by lia⟩,λpc Vf=>?_⟩;have en:(m+1-2).toNat=a.length:=by lia
 rw[en];have t:=δ.new (.lst []) Vf;refine ku (λi B X u=>δ H2 u/\u pc=some (.lst B)/\(∃j:List Addr,B=j.map V.ref/\j.length=i/\ι u j (a.take i))/\∃v,X=[v,some (V.ref l)]) ⟨t,az,⟨[],rfl,rfl,.nil⟩,_,rfl⟩ ?_ ?_
 .rintro i B X u N hN hi ⟨s3,e3,⟨j,rfl,pl,ro⟩,v,rfl⟩;have gi:a[i]?=some a[i]:=aB hi;obtain⟨rv,rb⟩:=KI (g.ok a[i] (dL hi)) Β;have et:a.take (i+1)=a.take i++[a[i]]:=by rw[bj,gi];rfl
  have gw:(eJ m a)[i+1]?=some (Ε Ub (mh a[i])):=by
   show(a.map Bm)[i]?=_;rw[aP,gi];rfl
  walk_at "";refine⟨l,eJ m a,i+1,Ub,mh a[i],?_,s3 _ _ y,gw,Bj,(show 4<=4 by decide),rb,λq H4 nq O e4=>?_⟩
  .rw[show((i+1+1:Nat):Int)=2+(i:Int) by lia];rfl
  refine⟨q,rfl,_,.inl ⟨ν.of e4,λqt f=>?_⟩⟩;have R:=O.trans (δ.new (.tup (VD (mh a[i]))) f);have Z:qt≠pc:=λz=>by rw[z,O _ _ e3]at f;cases f
  refine⟨R _ _ e3,eg (by rw[aa];lia),hN _ _ _ ⟨?_,az,⟨j++[qt],by rw[au];rfl,by rw[ay,pl];rfl,?_⟩,_,rfl⟩⟩
  .exact λb o e=>by rw[aW (dX e Vf)];exact R _ _ (s3 _ _ e)
  .rw[et];refine HA (.cons ?_ .nil) (Paired.imp' (λb r hb=>?_) ro)
   .rw[aW Z,rv];exact az
   .rw[aW (eG hb e3 (by nofun))];exact R _ _ hb
 .rintro B X u ⟨s3,e3,⟨j,rfl,pl,ro⟩,v,rfl⟩;rw[bx]at ro;have TY:=Ϣ.trans s3;refine h3 _ _ ?_;walk_at "";refine⟨l,_,m,rfl,s3 _ _ y,?_,?_⟩
  .rw[aa,qu g];exact bF _
  exact ML T (c:=true) (ν.of e3) ro g λx tw H4 hx a9 O W=>k x tw j H4 (TY.free hx) (TY.trans O) W
def Ly(T:Txt K I):Sp:=λd H Q _=>E5 λ(m:Int)(b:hR)(B a:hG)(e:List (List Int×List Int))=>d=[.str (Str.join (Str.ofString "\n") (eJ m b++Str.ofString "" :: B))]/\Good m b/\(∀y∈B,Pl y/\y.length<=400)/\B.length<=70/\Ξ m b [(Ϗ m,Ϗ m)] B a e/\∀c,δ H c->Q (.str (Str.join (Str.ofString "\n") a)) c
abbrev zS:Stmt:=top 117
def R9:ζ ["text","rows","gap","web","desk","answers","row"] ["text"] (aK zS):=.of
def wK:ϓ (aK zS) "BadText":=.of
def Fq:ϓ (aK zS) "BadWeb":=.of
def AX:ϓ (aK zS) "Desk":=.of
def RT(T:Txt K I)(hq:bQ (τ P w))(lQ:Cm P w K I base (Mk K T.Desk) "__init__" "Desk.__init__" oz ["self","web"] 5 (qh T))(nP:Cm P w K I base (Meth K T.Desk "answer") "answer" "Desk.answer" h9 ["self","row"] 63 (wF T))(xM:Cb P w K I base "read_web" lO ["text"] 5 (AR T)):Ok P w K I base "run" zS ["text"] 65 (Ly T):=λ_ _ D=>by
 refine D.F.ϊ R9 λξ A al s H vs Q E hr h=>?_;obtain⟨m,f,B,v,S0,rfl,g,bp,bl,w,k⟩:=h;have wo:=Jd g;have wn:=qu g;have Β:=g.Β;obtain⟨eY,zl,_⟩:=Mz (Y:=eJ m f++Str.ofString "" :: B) (by simp) (λy hy=>by
  rcases aX.mp hy with hy|hy
  .exact⟨(wo.2 y hy).1,aV (wo.2 y hy).2 (by decide)⟩
  .rcases aA.mp hy with rfl|hy
   .exact⟨by unfold Pl;decide +kernel,by decide⟩
   .exact bp y hy) (by rw[ay,aR];lia)
 generalize Str.join (Str.ofString "\n") (eJ m f++Str.ofString "" :: B)=z at eY zl ⊢;have n:Str.ofString "" ∉ eJ m f:=λq=>NZ g _ q rfl;refine⟨_,(ax (Γ 1 (kX PySem.F.plainAttrs_str PySem.F.slot_str_split PySem.F.type_str_split qf (γ 0) (ag bE aq))) (ax (cg (qm HM bE (γ 1) (by with_unfolding_all rfl)) (aJ (bn bE)) bR) (ax (Γ 2 (kX eP PySem.F.slot_list_index PySem.F.type_list_index MD (γ 1) (ag bE aq))) (ax (LZ rfl rfl rfl (GZ (pxs 3 (pyb xM hr (ag (kX PySem.F.plainAttrs_str PySem.F.slot_str_join PySem.F.type_str_join rm bE (ag (iu rp (γ 1) je (jf (γ 2))) aq)) aq)))) (RK T.Ux.x T.WK.x wK.g T.Uv Fq.g T.WD (λ_=>(aJ (bn bE))) MZ (hdb:=wK.d))) (ax (Γ 4 (zR lQ.M lQ.G (hr.mono (by decide)) AX.g T.YY lQ.b .nil (gJ hq) (ag (γ 3) aq) (hdb:=AX.d))) (ax (Γ 5 (ee aq)) (ax (fh PassesOwn.never rfl (gC (iu rp (γ 1) (jf (bg gm (γ 2) aM)) je)) (ϑ 6) (aJ (cV (Uj (γ 5) (sW (γ 4) T.η nP.M nP.G (hr.mono (by decide)) nP.b .nil (gJ hq) (ag (γ 6) aq)))))) (aJ (bn (kX PySem.F.plainAttrs_str PySem.F.slot_str_join PySem.F.type_str_join rm bE (ag (γ 5) aq))))))))))),?_⟩;walk_at "s";unfold Xk sU ϛ;refine b6 λN1 h1=>?_;walk_at "";refine⟨by simp[Uo],z,rfl,_,rfl,rfl,zl,λl nl=>h1 _ _ (b6 λN2 h2=>?_)⟩;have s1:=δ.new (HO.lst ((Txt.split z (Str.ofString "\n")).map V.str)) nl;have C:upd H l (HO.lst ((Txt.split z (Str.ofString "\n")).map V.str)) l=some (.lst ((eJ m f++Str.ofString "" :: B).map V.str)):=by rw[az,<-eY]
 generalize upd H l (HO.lst ((Txt.split z (Str.ofString "\n")).map V.str))=H1 at s1 C ⊢;walk_at "";refine⟨l,_,rfl,.inl (ν.of C),rfl,MW _,_,rfl,?_⟩;rw[aj (show(true:Bool)=true from rfl),Qj,ah (by simp)];refine h2 _ _ (b6 λN3 h3=>?_);clear h1 h2;walk_at "";refine⟨Rw C,l,_,_,(eJ m f).length,rfl,rfl,C,by simp,λi hi z=>n ?_,by lia,h3 _ _ (b6 λN4 h4=>?_)⟩
 .rw[dH hi]at z;exact aQ z
 clear h3;unfold Kr JT;walk_at "";refine⟨by simp[Uo],Q9 C (by lia) λl2 H2 s2 e2=>?_⟩;rw[bM,List.take_left]at e2;have Ϣ:=s1.trans s2;refine⟨_,l2,eJ m f,rfl,rfl,ν.of e2,Pz g,m,f,rfl,g,?_⟩;intro x t ps H3 _ Z W;refine h4 _ _ (b6 λN5 h5=>?_);clear h4;walk_at "";refine Qp T W λd wb R t1 H4 _ ad s4 D=>h5 _ _ (b6 λN6 h6=>?_);clear h5;have WR:=Ϣ.trans (Z.trans s4);have ab:=(Ϣ.trans Z).free ad;walk_at "";refine⟨bL (by simp),λp j=>h6 _ _ (b6 λN7 h7=>?_)⟩;clear h6;have J:=δ.new (HO.lst []) j;have ea:upd H4 p (HO.lst []) p=some (HO.lst (([]:hG).map V.str)):=az;generalize upd H4 p (HO.lst [])=H5 at J ea ⊢;have D5:=D.same J;obtain⟨qs,pq,_⟩:=D.pa;have O:R≠p:=λz=>by rw[<-z,pq]at j;cases j
 have a0:=WR.free j;have aH:LS H5 l (eJ m f++Str.ofString "" :: B):=(s2.trans (Z.trans (s4.trans J))) _ _ C;walk_at "";refine⟨l,_,rfl,ν.of aH,λu L=>?_⟩;rw[CW _ (by lia),<-kt,show(((eJ m f).length:Int)+1).toNat=(eJ m f).length+1 by lia,show(eJ m f++Str.ofString "" :: B).drop ((eJ m f).length+1)=B by simp];have X:=δ.new (HO.lst (B.map V.str)) L;have e6:upd H5 u (HO.lst (B.map V.str)) u=some (.lst (B.map V.str)):=az;generalize upd H5 u (HO.lst (B.map V.str))=H6 at X e6 ⊢;have av:u≠R:=λz=>by rw[z,J _ _ pq]at L;cases L
 have ak:u≠p:=λz=>by rw[z,ea]at L;cases L
 refine⟨u,rfl,⟨_,ν.of e6⟩,?_⟩;have wl:=w.len;refine hZ (K:=K) (xs:=B.map V.str) (λi U r=>δ H r/\r u=some (.lst (B.map V.str))/\E4 λ(S:List (List Int×List Int))(c rest:hG)(v6:Option V)=>ς T.Web T.Desk r d wb R m t1 ps f S/\r p=some (.lst (c.map V.str))/\c.length=i/\v=c++rest/\Ξ m f S (B.drop i) rest S0/\U=[some (V.str z),some (V.ref l),some (V.int (eJ m f).length),some (V.ref x),some (V.ref d),some (V.ref p),v6]) ⟨WR.trans (J.trans X),e6,_,[],v,_,D5.same X,X _ _ ea,rfl,rfl,w,rfl⟩ (λi U r _ z=>ν.of z.2.1) ?_ ?_
 .rintro i y U r N BB Λ hN hi ⟨s7,e7,S,c,rest,v6,D7,a7,dl,eo,w7,rfl⟩;refine Λ _ _ ?_;obtain⟨y,hy,rfl⟩:=List.θ hi;have il:=(aD.mp hy).1;rw[eM il,(aD.mp hy).2]at w7;cases w7 with
  | @cons sts S' _ s _ o _ as sl sz h t=>
  walk_at "";have ff:=sz.UR;refine⟨Rw a7,D7.Ϟ ⟨d,wb,R,t1,m,ps,f,sts,s,y,o,S',rfl,D7,sl,rS sz.l1 ff.1,rS sz.l2 ff.2,h,λH8 D8 k8=>?_⟩⟩;have a8:=k8 _ _ a7 O.symm;have s8:δ H H8:=λb x e=>k8 b x (s7 b x e) (dX e ab);refine mM a8 (eg (by rw[aa];lia)) (hN _ _ ⟨s8.put a0 _,?_,S',c++[qM o],as,_,D8.Xd (Ϸ.refl.put _) a8 O,?_,by rw[ay,dl];rfl,by rw[eo];simp,t,rfl⟩)
  .rw[aW ak];exact k8 _ _ e7 av
  .rw[az,au]
   rfl
 .rintro BB U r Λ ⟨s7,e7,S,c,rest,v6,D7,a7,dl,eo,w7,rfl⟩;refine Λ _ _ (h7 _ _ ?_);rw[aa,dE]at w7;cases w7;rw[bX]at eo;subst eo;walk_at "";have sm:=sg λa ha=>(wl.2 a ha).2;exact⟨by simp[Uo],_,p,v,rfl,rfl,ν.of a7,by rw[show(Str.ofString "\n").length=1 from rfl];lia,k r s7⟩
def tG(T:Txt K I):Sp:=λi H Q _=>W9 λ(a b c:Addr)(m:Int)(f:hR)(Z d e g:hG)(S j:List (List Int×List Int))=>i=[.ref a,.ref b,.ref c]/\LS H a (eJ m f)/\LS H b Z/\LS H c d/\Good m f/\(∀y∈Z++d,Pl y/\y.length<=400)/\Z.length<=40/\d.length<=10/\d≠[]/\Ξ m f [(Ϗ m,Ϗ m)] Z e S/\Ξ m f S d g j/\((e++g).map (·.length)).sum<=59000/\∀p h,δ H h->LS h p g->Q (.ref p) h
abbrev vy:Stmt:=top 130
def HD:ζ ["lead","rows","questions","answers"] ["lead","rows","questions"] (aK vy):=.of
def F2(T:Txt K I)(hq:bQ (τ P w))(L:Cb P w K I base "run" zS ["text"] 65 (Ly T)):Ok P w K I base "_law_asked" vy ["lead","rows","questions"] 66 (tG T):=λ_ _ D=>by
 refine D.F.ϊ HD λξ A o s H vs Q E hr h=>?_;obtain⟨a,b,c,m,i,Z,n,d,e,S,S',rfl,M,G,hc,g,u,zl,ac,zn,w,v,so,k⟩:=h;have Β:=g.Β;have wn:=qu g;have B:=w.app v;have lo:=w.len.1;obtain⟨lw,nw⟩:=B.len;refine⟨_,(ax (Γ 3 (kX PySem.F.plainAttrs_str PySem.F.slot_str_split PySem.F.type_str_split qf (Ν L hr hq (ag (kX PySem.F.plainAttrs_str PySem.F.slot_str_join PySem.F.type_str_join rm bE (ag (bg wD (bg wD (bg wD (γ 0) (ee (ag bE aq))) (γ 1)) (γ 2)) aq)) aq)) (ag bE aq))) (aJ (bn (iu rp (γ 3) (jf (lE fq T.len (ag (γ 1) aq))) je)))),?_⟩;walk_at "s";unfold Xk sU ϛ;refine b6 λN1 h1=>?_;walk_at "";refine⟨by simp[Uo],bL (by simp),λp np=>?_⟩;have j:=δ.new (HO.lst [V.str (Str.ofString "")]) np;refine B8 (j _ _ M) (show LS _ p [Str.ofString ""]from az) (by show _+1<=_;lia) λp2 H2 q e2=>B8 e2 (q _ _ (j _ _ G)) (by rw[ay];show _+1+_<=_;lia) λp3 H3 r e3=>B8 e3 (r _ _ (q _ _ (j _ _ hc))) (by rw[ay,ay];show _+1+_+_<=_;lia) λp4 H4 s4 e4=>?_;have wo:=Jd g;have eq:eJ m i++[Str.ofString ""]++Z++n=eJ m i++Str.ofString "" :: (Z++n):=by simp
 have O:=sg (ws:=eJ m i++Str.ofString "" :: (Z++n)) (m:=400) λy hy=>by
  rcases aX.mp hy with hy|hy
  .exact aV (wo.2 y hy).2 (by decide)
  .rcases aA.mp hy with rfl|hy
   .decide
   .exact(u y hy).2
 rw[ay,aR,ay]at O;refine⟨_,p4,_,rfl,rfl,ν.of e4,?_,?_⟩
 .rw[eq,ay,aR,ay,show(Str.ofString "\n").length=1 from rfl]
  lia
 rw[eq];have W:d++e≠[]:=λz=>zn (jW (by have:=congrArg List.length z;have:=v.len.1;rw[ay,eL]at *;lia));have R:=QW (Str.ofString "\n") (d++e);rw[show(Str.ofString "\n").length=1 from rfl]at R;rw[ay]at lw;refine⟨m,i,Z++n,d++e,S',rfl,g,u,by rw[ay];lia,B,λC U=>⟨by simp[Uo],_,rfl,_,rfl,rfl,by lia,λl nl=>h1 _ _ ?_⟩⟩;have X:Txt.split (Str.join (Str.ofString "\n") (d++e)) (Str.ofString "\n")=d++e:=qJ (c:=10) W λy hy=>(nw y hy).1;rw[X];have J:=δ.new (HO.lst ((d++e).map V.str)) nl;have t:LS (upd C l (HO.lst ((d++e).map V.str))) l (d++e):=az;have f:=(j.trans (q.trans (r.trans s4))).trans (U.trans J);generalize upd C l (HO.lst ((d++e).map V.str))=H6 at J t f ⊢;walk_at "";refine⟨_,.inl (ν.of (f _ _ G)),?_⟩;rw[aa,lo];refine Jf t (by lia) λN Y s7 x=>?_;rw[bM,List.drop_left]at x;exact k N Y (f.trans s7) x
abbrev rG(P w base)(T:Txt K I):=Cb P w K I base "_law_asked" vy ["lead","rows","questions"] 66 (tG T)
def wu(T:Txt K I):Sp:=λc H Q _=>∃(a:ej),c=[.str (ϯ a)]/\(∀z∈a,-(10^60)<z/\z<10^60)/\a.length<=24/\∀p b,H p=none->δ H b->b p=some (.lst (a.map V.int))->Q (.ref p) b
abbrev sx:Stmt:=top 128
def Dq:ζ ["text","signed","word"] ["text"] (aK sx):=.of
def Du(T:Txt K I)(Z:bQ (τ P w)):Ok P w K I base "_law_numbers" sx ["text"] 1 (wu T):=λ_ _ D=>by
 refine D.F.ϊ Dq λY A m s H vs Q E hr h=>?_;obtain⟨a,rfl,C,zl,k⟩:=h;refine⟨_,(ax (cg (Υ dJ (γ 0) bE) (aJ (bn (ee aq))) bR) (ax (Γ 1 (ee aq)) (ax (fh PassesOwn.never rfl (gC (kX PySem.F.plainAttrs_str PySem.F.slot_str_split PySem.F.type_str_split qf (γ 0) (ag bE aq))) (ϑ 2) (aJ (cg (Υ dJ (iu qG (γ 2) je (jf aM)) bE) (aJ (cV (Uj (γ 1) (uK rX (ϰ lL T.int (ag (iu qG (γ 2) (jf aM) je) aq)))))) (aJ (cV (Uj (γ 1) (ϰ lL T.int (ag (γ 2) aq)))))))) (aJ (bn (γ 1)))))),?_⟩;walk_at "s";unfold Xk sU ϛ;refine b6 λN1 O=>?_;walk_at "";have u:∀z∈a,Bt z:=λz f=>sR (n:=200) (by have:=C z f;lia) (by decide);have wl:=mS u;by_cases ne:a=[]
 .subst ne;rw[aj (show V.str (ϯ [])=V.str (Str.ofString "")from rfl)];exact⟨by decide,λp d=>k p _ d (δ.new _ d) az⟩
 rw[ah (UI (Sv ne))];refine O _ _ (b6 λW U=>?_);walk_at "";refine⟨by decide,λp d=>U _ _ (b6 λX L=>?_)⟩;have x:=δ.new (HO.lst []) d;have q:upd H p (HO.lst []) p=some (.lst (([]:ej).map V.int)):=az;generalize upd H p (HO.lst [])=B at x q ⊢;walk_at "";refine⟨by simp[Uo],_,rfl,_,rfl,rfl,by lia,λl nl=>?_⟩;rw[El ne];have o:=δ.new (HO.lst ((a.map tI).map V.str)) nl;have j:upd B l (HO.lst ((a.map tI).map V.str)) l=some (.lst ((a.map tI).map V.str)):=az;have J:l≠p:=λz=>by rw[z,q]at nl;cases nl
 generalize upd B l (HO.lst ((a.map tI).map V.str))=H2 at o j ⊢;refine⟨⟨_,ν.of j⟩,?_⟩;refine hZ (K:=K) (xs:=(a.map tI).map V.str) (λi g c=>δ H c/\c l=some (.lst ((a.map tI).map V.str))/\c p=some (.lst ((a.take i).map V.int))/\∃v,g=[some (V.str (ϯ a)),some (V.ref p),v]) ⟨x.trans o,j,o _ _ q,_,rfl⟩ (λi g c _ z=>ν.of z.2.1) ?_ ?_
 .rintro i y g c N BB Λ hN hi ⟨s3,e3,ep,v,rfl⟩;obtain⟨w,M,rfl⟩:=List.θ hi;obtain⟨z,f,rfl⟩:=List.θ M;have il:=(aD.mp f).1;have b:=C z (aQ f);have tl:=mJ (u z (aQ f));have R:a.take (i+1)=a.take i++[z]:=by rw[bj,f];rfl
  have G:∀t,δ c t->TU (V.ref p) [V.int z] t λ_ S=>N [some (V.str (ϯ a)),some (V.ref p),some (V.str (tI z))] S:=λt r=>by
   refine mM (r _ _ ep) (eg (by rw[aa,bA];lia)) (hN _ _ ⟨(s3.trans r).put d _,?_,?_,_,rfl⟩)
   .rw[aW J];exact r _ _ e3
   .rw[az,R,au]
    rfl
  refine Λ _ _ ?_;walk_at "";refine⟨_,rfl,bL (by lia),rfl,?_⟩;by_cases n:z<0
  .obtain⟨c1,c2⟩:=Ra n;rw[c1,aj rfl];refine⟨Rw ep,_,rfl,bL (by lia),_,rfl,z.natAbs,by rw[c2];exact qj _ (by lia),by rw[c2];exact aV (Vr (by lia)) (by decide),?_⟩;rw[show -((z.natAbs:Nat):Int)=z by lia];exact G c (δ.refl _)
  .rw[ah (UI (Qs (by lia)))];have e:tI z=FS z.natAbs:=(by rw[<-lV];congr 1;lia);refine⟨Rw ep,_,rfl,z.natAbs,by rw[e];exact qj _ (by lia),by lia,?_⟩;rw[show((z.natAbs:Nat):Int)=z by lia];exact G c (δ.refl _)
 .rintro BB g c Λ ⟨s3,e3,ep,v,rfl⟩;refine Λ _ _ (L _ _ ?_);rw[aa,aa,bx]at ep;walk_at "";exact k p c d s3 ep
abbrev qa(P w base)(T:Txt K I):=Cb P w K I base "_law_numbers" sx ["text"] 1 (wu T)
def yY(T:Txt K I):Sp:=λe H Q _=>E5 λ(l:Addr)(d:hD)(c:hR)(a b:Int)=>e=[.ref l,.int a,.int b]/\H l=some (.lst (d.map V.ref))/\ι H d c/\(∀k,cD c a b=some k->Q (.int k) H)/\(cD c a b=none->Q .ο H)
abbrev vk:Stmt:=top 124
def Hu:ζ ["roads","a","b","one","other","there","back"] ["roads","a","b"] (aK vk):=.of
def Gr(T:Txt K I)(X:bQ (τ P w)):Ok P w K I base "_law_price" vk ["roads","a","b"] 1 (yY T):=λ_ _ D=>by
 refine D.F.ϊ Hu λW A B s H Z Q E hr h=>?_;obtain⟨l,L,d,a,b,rfl,J,M,k,R⟩:=h;refine⟨_,(ax (fh PassesOwn.never rfl (gC (γ 0)) (jK (n:=4) rfl (ci (ϑ 3) (ci (ϑ 4) (ci (ϑ 5) (ci (ϑ 6) g6))))) (ax (cg (PW.pt (zh (Υ dJ (γ 3) (γ 1)) (wG (Υ dJ (γ 4) (γ 2))))) (aJ (bn (γ 5))) bR) (aJ (cg (PW.pt (zh (Υ dJ (γ 3) (γ 2)) (wG (Υ dJ (γ 4) (γ 1))))) (aJ (bn (γ 6))) bR)))) (aJ (bn tY))),?_⟩;walk_at "t";have g:L.length=d.length:=Paired.length M;refine⟨⟨_,ν.of J⟩,?_⟩;refine uJ (K:=K) (xs:=L.map V.ref) (λi m j=>j=H/\cD (d.take i) a b=none/\∃p C G y,m=[some (V.ref l),some (V.int a),some (V.int b),p,C,G,y]) ⟨rfl,rfl,_,_,_,_,rfl⟩ (λi m j _ z=>by rw[z.1];exact ν.of J) ?_ ?_
 .rintro i x m j N hN hx ⟨rfl,Vs,p,C,G,y,rfl⟩;obtain⟨q,r,rfl,Y,o,O⟩:=M.get hx;have U:d.take (i+1)=d.take i++[r]:=by rw[bj,o];rfl
  have split:cD d a b=(cD (d.take i) a b).or ((jb a b r).or (cD (d.drop (i+1)) a b)):=by
   have:d=d.take i++r::d.drop (i+1):=by
    have S:i<d.length:=(aD.mp o).1;have e:d[i]=r:=(by rw[aB S]at o;exact bN o);rw[<-e,jo,dP]
   conv=>lhs;rw[this]
   unfold cD;rw[gn,gX];cases jb a b r<;>rfl
  rw[Vs,Option.none_or]at split;walk_at "";refine⟨_,Δ.of O,rfl,_,_,rfl,_,_,rfl,_,_,rfl,_,_,rfl,rfl,?_⟩;walk_at "";have c:jb a b r=none->N [some (V.ref l),some (V.int a),some (V.int b),some (V.int r.a),some (V.int r.b),some (V.int r.t),some (V.int r.u)] j:=λz=>hN _ _ ⟨rfl,by
   rw[U];unfold cD at Vs ⊢;rw[gn,Vs,gX,z]
   rfl,_,_,_,_,rfl⟩
  have f:∀v,jb a b r=some v->cD d a b=some v:=λv z=>by rw[split,z];rfl
  unfold jb at c f;split
  .rename_i c1
   split
   .rename_i c2
    exact k _ (f _ (by rw[aj ⟨c1,c2⟩]))
   .rename_i c2
    split
    .rename_i c3
     split
     .rename_i c4
      exact k _ (f _ (by rw[ah (λz=>c2 z.2),aj ⟨c3,c4⟩]))
     .rename_i c4
      exact c (by rw[ah (λz=>c2 z.2),ah (λz=>c4 z.2)])
    .rename_i c3
     exact c (by rw[ah (λz=>c2 z.2),ah (λz=>c3 z.1)])
  .rename_i c1
   split
   .rename_i c3
    split
    .rename_i c4
     exact k _ (f _ (by rw[ah (λz=>c1 z.1),aj ⟨c3,c4⟩]))
    .rename_i c4
     exact c (by rw[ah (λz=>c1 z.1),ah (λz=>c4 z.2)])
   .rename_i c3
    exact c (by rw[ah (λz=>c1 z.1),ah (λz=>c3 z.1)])
 .rintro m j ⟨rfl,Vs,p,C,G,y,rfl⟩;rw[aa,g,bx]at Vs;walk_at "";exact R Vs
def xY(T:Txt K I):Sp:=λg H Q _=>E7 λ(l e:Addr)(f:hD)(c:hR)(m:Int)(b:ej)(a:List ϵ)=>g=[.ref l,.ref e,.str (Bv a)]/\H l=some (.lst (f.map V.ref))/\ι H f c/\Good m c/\H e=some (.lst (b.map V.int))/\(b.length:Int)=m/\kW m c b a/\(∀s∈a,s.2.2<10^60)/\a.length<=8/\∀p d,δ H d->d p=some (.lst ((a.foldl (cQ c) b).map V.int))->Q (.ref p) d
abbrev tS:Stmt:=top 129
def Fj:ζ ["roads","held","text","now","part","a","b","often","each"] ["roads","held","text"] (aK tS):=.of
def FD(T:Txt K I)(hq:bQ (τ P w))(eU:qa P w base T)(vJ:Cb P w K I base "_law_price" vk ["roads","a","b"] 1 (yY T)):Ok P w K I base "_law_walked" tS ["roads","held","text"] 2 (xY T):=λ_ _ D=>by
 refine D.F.ϊ Fj λξ A R s H vs Q E hr h=>?_;obtain⟨l,la,ps,j,m,xs,d,rfl,hl,ro,g,ha,xl,ca,tb,sl,k⟩:=h;refine⟨_,(ax (Γ 3 (ϰ oX T.list (ag (γ 1) aq))) (ax (cg (Υ dJ (γ 2) bE) (aJ (bn (γ 3))) bR) (ax (fh PassesOwn.never rfl (gC (kX PySem.F.plainAttrs_str PySem.F.slot_str_split PySem.F.type_str_split qf (γ 2) (ag bE aq))) (ϑ 4) (ax (j7 (Ν eU hr hq (ag (γ 4) aq)) (SE (n:=3) rfl (ci (ϑ 5) (ci (ϑ 6) (ci (ϑ 7) g6))))) (ax (Γ 8 (Ν vJ hr hq (ag (γ 0) (ag (γ 5) (ag (γ 6) aq))))) (ax (cg (PW.pt (uM (HK (Mp (γ 8))) (uM (Υ sE (γ 7) aM) (wm (Υ sE (ω bC (γ 3) (γ 5)) (bg kR (γ 8) (γ 7))))))) (aJ (bn tY)) bR) (ax (j7 (bg j5 (ω bC (γ 3) (γ 5)) (bg kR (γ 8) (γ 7))) (nO (γ 3) (γ 5) hW)) (aJ (j7 (bg gm (ω bC (γ 3) (γ 6)) (γ 7)) (nO (γ 3) (γ 6) hW)))))))) (aJ (bn (γ 3)))))),?_⟩;walk_at "s";unfold RS;refine b6 λN1 h1=>?_;walk_at "";refine⟨_,.inl (ν.of ha),λp X=>h1 _ _ (b6 λN2 h2=>?_)⟩;have O:=δ.new (HO.lst (xs.map V.int)) X;have B:upd H p (HO.lst (xs.map V.int)) p=some (.lst (xs.map V.int)):=az;generalize upd H p (HO.lst (xs.map V.int))=J at O B ⊢;have Β:=g.Β;have v:∀s∈d,((0<=s.1/\s.1<m)/\(0<=s.2.1/\s.2.1<m))/\Vd j s.1 s.2.1/\1<=s.2.2:=λs f=>by
  obtain⟨i,hi⟩:=cF f;obtain⟨a,b,c⟩:=qZ (tM (ca i s hi)).1;have G:=(j2 g).mp b;exact⟨⟨a,(g.Vz G).2.1⟩,G,c⟩
 have bs:∀s∈d,VR s:=λs f z x=>by
  have:=v s f;have:=tb s f;simp only[aA,fM,or_false]at x;exact sR (n:=200) (by rcases x with rfl|rfl|rfl<;>lia) (by decide)
 have tl:=uT bs sl;walk_at "";by_cases ne:d=[]
 .subst ne;rw[aj (show V.str (Bv [])=V.str (Str.ofString ".")from rfl)];exact k p J O B
 rw[ah (UI (Qh ne))];refine h2 _ _ (b6 λN3 h3=>?_);walk_at "";refine⟨by simp[Uo],_,rfl,_,rfl,rfl,by lia,λu nl=>?_⟩;rw[Ew ne];have S:=δ.new (HO.lst ((d.map UJ).map V.str)) nl;have e2:upd J u (HO.lst ((d.map UJ).map V.str)) u=some (.lst ((d.map UJ).map V.str)):=az;have lp:u≠p:=λz=>by rw[z,B]at nl;cases nl
 generalize upd J u (HO.lst ((d.map UJ).map V.str))=H2 at S e2 ⊢;refine⟨⟨_,ν.of e2⟩,?_⟩;refine hZ (K:=K) (xs:=(d.map UJ).map V.str) (λi C r=>δ H r/\r u=some (.lst ((d.map UJ).map V.str))/\r p=some (.lst ((oW j xs d i).map V.int))/\∃Z v5 M v7 U,C=[some (V.ref l),some (V.ref la),some (V.str (Bv d)),some (V.ref p),Z,v5,M,v7,U]) ⟨O.trans S,e2,S _ _ B,_,_,_,_,_,rfl⟩ (λi C r _ z=>ν.of z.2.1) ?_ ?_
 .rintro i y C r N BB Λ hN hi ⟨s3,e3,ep,Z,v5,M,v7,U,rfl⟩;obtain⟨w,hw,rfl⟩:=List.θ hi;obtain⟨s,f,rfl⟩:=List.θ hw;have il:=(aD.mp f).1;have sm:=aQ f;obtain⟨⟨L,br⟩,G,n1⟩:=v s sm;have nb:=tb s sm;have cd:=(tM (ca i s f)).2;have et:oW j xs d (i+1)=cQ j (oW j xs d i) s:=by
   unfold oW;rw[bj,f];simp
  have ln:((oW j xs d i).length:Int)=m:=by
   unfold oW;rw[rC];exact xl
  refine Λ _ _ (b6 λM1 k1=>?_);walk_at "";refine⟨[s.1,s.2.1,s.2.2],rfl,λz x=>?_,by show 3<=24;decide,λq W nq s4 e4=>?_⟩
  .simp only[aA,fM,or_false]at x;rcases x with rfl|rfl|rfl<;>lia
  refine⟨q,rfl,_,ν.of e4,rfl,_,_,rfl,_,_,rfl,_,_,rfl,rfl,k1 _ _ (b6 λM2 k2=>?_)⟩;walk_at "";obtain⟨t,Y,t2,t6⟩:=oM g G;have td:gd j s.1 s.2.1=t:=by unfold gd;rw[Y];rfl
  rw[td]at cd;have Y2:=s3.trans s4;have e:=s4 _ _ ep;have Y4:=s4 _ _ e3;refine⟨l,ps,j,s.1,s.2.1,rfl,Y2 _ _ hl,ι.same Y2 ro,λk' ek=>k2 _ _ (b6 λM3 k3=>?_),λz=>by rw[Y]at z;cases z⟩;rw[Y]at ek;cases ek;clear k1 k2;walk_at "";rw[ah (by nofun),ah (by lia)];rw[lW]at cd;have c0:0<=t*s.2.2:=fR (by lia) (by lia);refine Θ e (ϩ L.1 (by lia)) ⟨.inl ⟨by lia,by lia⟩,_,rfl,?_⟩;rw[ah (by lia)];refine k3 _ _ (b6 λM4 k4=>?_);clear k3;walk_at "";refine Θ e (ϩ L.1 (by lia)) ⟨.inl ⟨by lia,by lia⟩,_,rfl,pJ e L.1 (by rw[aa];lia) (k4 _ _ ?_)⟩;clear k4;rw[<-dh];generalize oW j xs d i=ys at et ln e cd ⊢;obtain⟨o,ey⟩:∃o,o=ys.set s.1.toNat (ys.getD s.1.toNat 0-t*s.2.2):=⟨_,rfl⟩;rw[<-ey];have yl:(o.length:Int)=m:=by rw[ey,bz];exact ln
  have e5:upd W p (.lst (o.map V.int)) p=some (.lst (o.map V.int)):=az;have X4:upd W p (.lst (o.map V.int)) u=some (.lst ((d.map UJ).map V.str)):=by rw[aW lp];exact Y4
  have s5:=Y2.put X (.lst (o.map V.int));generalize upd W p (.lst (o.map V.int))=H5 at e5 X4 s5 ⊢;walk_at "";refine Θ e5 (ϩ br.1 (by lia)) ⟨_,rfl,pJ e5 br.1 (by rw[aa];lia) (hN _ _ ⟨s5.put X _,?_,?_,_,_,_,_,_,rfl⟩)⟩
  .rw[aW lp];exact X4
  .rw[az,et,<-dh];unfold cQ;rw[td,lW s.2.2 t,<-ey]
 .rintro BB C r Λ ⟨s3,e3,ep,Z,v5,M,v7,U,rfl⟩;refine Λ _ _ (h3 _ _ ?_);unfold oW at ep;rw[aa,aa,bx]at ep;walk_at "";exact k p r s3 ep
abbrev zu(P w base)(T:Txt K I):=Cb P w K I base "_law_walked" tS ["roads","held","text"] 2 (xY T)
def yd(T:Txt K I):Sp:=λh H Q _=>YV λ(a l b e:Addr)(f:hD)(m:Int)(c:hR)(Z d:hG)(S:List (List Int×List Int))(s:List Int×List Int)(v:Nat)=>h=[.ref a,.ref l,.ref b,.ref e,.str (FS v)]/\LS H a (eJ m c)/\H l=some (.lst (f.map V.ref))/\ι H f c/\LS H b Z/\H e=some (.lst (s.1.map V.int))/\Wkd m c Z d S s/\(v:Int)<m/\∀g,δ H g->Q (.bl true) g
abbrev uk:Stmt:=top 133
def Fs:ζ ["lead","roads","rows","held","r","told","now"] ["lead","roads","rows","held","r"] (aK uk):=.of
def Fi(T:Txt K I)(u:bQ (τ P w))(M:rG P w base T)(mL:zu P w base T):Ok P w K I base "_law_brings" uk ["lead","roads","rows","held","r"] 67 (yd T):=λ_ _ D=>by
 refine D.F.ϊ Fs λξ A o s H vs Q E C h=>?_;obtain⟨a,l,b,N,ps,m,r,Z,i,S,s,v,rfl,L,J,ro,eb,O,W,G,k⟩:=h;have m5:=W.m5;have sl:=W.sl;have so:=W.so;have zl:=W.zl;obtain⟨z,n,an,B,c,Y⟩:=L9 (S:=S) W.g m5 (by lia) W.lm (by decide) G;refine⟨_,(ax (Γ 5 (Ν M C u (ag (γ 0) (ag (γ 2) (ag (ee (ag (bg cJ bE (γ 4)) (ag (bg cJ bE (γ 4)) aq))) aq))))) (ax (Γ 6 (Ν mL C u (ag (γ 1) (ag (γ 3) (ag (ω bC (γ 5) aM) aq))))) (aJ (bn (wT (MO (JQ (γ 6))) (wO (jB dJ (ω bC (γ 6) (ϰ lL T.int (ag (γ 4) aq))) (ϰ lL T.int (ag (ω bC (γ 5) aM) aq)) (i9 _)))))))),?_⟩;walk_at "s";refine b6 λN1 h1=>?_;walk_at "";have e:v<10^60:=by lia
 have fv:=Vr e;have mo:=pI "most ";have br:=pI "bring ";refine⟨_,rfl,_,rfl,bL (by lia),_,rfl,_,rfl,bL (by lia),bL (by simp),λp U=>?_⟩;rw[KW (w:="most") (by decide +kernel),KW (w:="bring") (by decide +kernel)];have j:=δ.new (HO.lst [V.str (Ε "most" [v]),V.str (Ε "bring" [v])]) U;have b1:∀y∈[Ε "most" [v],Ε "bring" [v]],Pl y/\y.length<=400:=mE (kN (by decide +kernel) (Dk e)) (mE (kN (by decide +kernel) (Dk e)) z9);have tz:=mJ (kq (show -(10^60)<z/\z<10^60 by lia));have ts:=uT c.bts c.len;refine⟨a,b,p,m,r,Z,_,i,_,_,_,rfl,j _ _ L,j _ _ eb,(az:_=some (HO.lst ([Ε "most" [v],Ε "bring" [v]].map V.str))),W.g,u6 W.pl b1,zl,cT rfl,by simp,W.an,an,?_,λq H2 s2 x=>h1 _ _ (b6 λN2 h2=>?_)⟩
 .rw[au,cU];show _+((tI z).length+((Bv n).length+0))<=_
  lia
 have d:=j.trans s2;walk_at "";refine Θ x rfl ⟨l,N,ps,r,m,s.1,n,rfl,d _ _ J,ι.same d ro,W.g,d _ _ O,W.lm.l1,c.can,c.num,c.len,λq2 X t R=>h2 _ _ ?_⟩;walk_at "";have f:=t _ _ x;have ln:((n.foldl (cQ r) s.1).length:Int)=m:=by rw[rC];exact W.lm.l1
 have ez:tI z=FS z.toNat:=by rw[<-lV,bJ B.1]
 refine TF (by nofun) ⟨_,rfl,v,qj v e,by lia,Θ R (ϩ (by lia) (by lia)) (Θ f rfl ⟨_,rfl,z,?_,by lia,rfl,?_⟩)⟩
 .rw[ez,qj _ (by lia),bJ B.1]
 .rw[bM,Y,bD rfl];exact k X (d.trans t)
def AU(T:Txt K I):Sp:=λd H Q _=>∃(a:Addr)(b:ej),d=[.ref a]/\H a=some (.lst (b.map V.int))/\b.length<=5/\(∀z∈b,0<=z/\z<10^40)/\∀p c,δ H c->LS c p (oC "put" b b.length)->Q (.ref p) c
abbrev sP:Stmt:=top 131
def IT:ζ ["numbers"] ["numbers"] (aK sP):=.of
def Al:ϓ (aK sP) "range":=.of
def IB(T:Txt K I)(C:bQ (τ P w)):Ok P w K I base "_law_laid" sP ["numbers"] 1 (AU T):=λ_ _ D=>by
 refine D.F.ϊ IT λB A l s H O Q E R h=>?_;obtain⟨a,e,rfl,p,J,x,k⟩:=h;refine⟨_,(aJ (bn (iE rfl (We ["place","numbers"] 1 [0]) (jk Al.g T.range (ag (lE fq T.len (ag (Us 0) aq)) aq)) (λ_ _ _ _=>(fF (i:=0) (show(["place","numbers"]:hG).Nodup from by decide +kernel) rfl (Or.inl rfl))) (λ_ _ _ _=>ik) (λ_ _ _ _=>(bg cJ (bg cJ (bg cJ bE (lM dQ (by rfl) T.str wz (ag (pv 0) aq))) bE) (lM dQ (by rfl) T.str wz (ag (ω (qi K rfl) (pv 1) (pv 0)) aq))))))),?_⟩;walk_at "t";refine⟨_,.inl (ν.of p),by lia,by rw[aa];lia,λo q=>?_⟩;rw[bM,aa];refine ku (λi f m c=>δ H c/\c o=some (.lst f)/\f=(oC "put" e i).map V.str/\∃v,m=[v,some (V.ref a)]) ⟨δ.new _ q,az,rfl,_,rfl⟩ ?_ ?_
 .rintro i f m c N hN hi ⟨s3,e3,rfl,v,rfl⟩;rw[ce];have b:=oN (P:=λz=>0<=z/\z<10^40) x (by decide) i;walk_at "";have r:i<10^60:=by lia
  have d:(e.getD i 0).toNat<10^60:=by lia
  have t:∀{j:Nat},j<10^60->((j:Nat):Int).natAbs.log2<1920:=λh=>(sR (z:=_) (n:=200) (by lia) (by decide)).log;have L:(Str.ofString " ").length=1:=rfl;have y:=pI "put ";have G:=Vr r;have M:=Vr d;have u:((e.getD i 0).toNat:Int)=e.getD i 0:=bJ b.1;refine⟨t r,_,rfl,_,rfl,bL (by rw[eR];lia),_,rfl,_,rfl,bL (by rw[dU,eR];lia),Θ (s3 _ _ p) (ϩ (by lia) (by lia)) ?_⟩;rw[bM,<-u];refine⟨_,rfl,t d,_,rfl,_,rfl,bL (by rw[dU,dU,eR,eR];lia),e3,eg (by rw[aa];unfold oC;rw[aa,cK];lia),hN _ _ _ ⟨s3.put q _,az,?_,_,rfl⟩⟩;rw[eR,eR,show Str.ofString "put "=Str.ofString "put" ++ Str.ofString " " by decide +kernel,BC,xp,au]
  rfl
 .rintro f m c ⟨s3,e3,rfl,v,rfl⟩;exact k o c s3 e3
def yH(T:Txt K I):Sp:=λg H Q _=>W9 λ(a b e:Addr)(m:Int)(d:hR)(Z c:hG)(S:List (List Int×List Int))(s:List Int×List Int)(v w:Nat)=>g=[.ref a,.ref b,.ref e,.str (FS v),.str (FS w)]/\LS H a (eJ m d)/\LS H b Z/\H e=some (.lst (s.2.map V.int))/\Wkd m d Z c S s/\(v:Int)<m/\1<=w/\w<=9/\∀f,δ H f->Q (.bl true) f
abbrev pR:Stmt:=top 134
def zt:ζ ["lead","rows","wish","r","wanted","told","worst_one","laying","wants","meet"] ["lead","rows","wish","r","wanted"] (aK pR):=.of
def zw:Ve (aK pR) "wants":=.of (by kernel_rfl)
def za:ϓ (aK pR) "range":=.of
def GM(T:Txt K I)(B:bQ (τ P w))(fJ:rG P w base T)(sG:Cb P w K I base "_law_laid" sP ["numbers"] 1 (AU T))(eU:qa P w base T):Ok P w K I base "_law_fails" pR ["lead","rows","wish","r","wanted"] 67 (yH T):=λ_ _ D=>by
 refine D.F.ϊ zt λξ A a7 s H vs Q E J h=>?_;obtain⟨a,b,lb,m,rs,Z,bv,S,s,v,w,rfl,ea,eb,V3,W,v1,w1,w9,k⟩:=h;have m1:=W.g.m1;have m5:=W.m5;have sl:=W.sl;have so:=W.so;have zl:=W.zl;have t:v<10^60:=by lia
 have Y:w<10^60:=by lia
 have fv:=Vr t;have fw:=Vr Y;have l1:(Str.ofString " ").length=1:=rfl;obtain⟨zs,u,U,dt,en,wo,z,mo,z0,z1⟩:=Oy W.g m5 v1 w1 w9;obtain⟨oA,oF,tA,tF,cs⟩:=Os W.g m5 W.lm;have an:Ξ m rs (S++[s]) [Ε "enough" [v,w],Ε "worst" [v,w],Ε "always" [],Ε "fails" []] [tI (zs.sum+1),ϯ zs,qM oA,qM oF] (S++[s]):=vg (k:=2) (o:=.inl _) (by lia) W.lm (by decide) rfl (u7 t Y) (.inr ⟨_,rfl,en⟩) (vg (k:=2) (o:=.inl _) (by lia) W.lm (by decide) rfl (u7 t Y) (.inr ⟨_,rfl,wo⟩) (vg (k:=0) (by lia) W.lm (by decide) rfl (λ_ h=>by cases h) (.inl ⟨tA,by rcases cs with⟨_,rfl,_⟩|⟨_,X,rfl,_⟩<;>intro z<;>cases z⟩) (vg (k:=0) (by lia) W.lm (by decide) rfl (λ_ h=>by cases h) (.inl ⟨tF,by rcases cs with⟨_,_,rfl⟩|⟨_,X,_,rfl,_⟩<;>intro z<;>cases z⟩) .nil)));refine⟨_,(ax (Γ 5 (Ν fJ J B (ag (γ 0) (ag (γ 1) (ag (ee (ag (bg cJ (bg cJ (bg cJ bE (γ 3)) bE) (γ 4)) (ag (bg cJ (bg cJ (bg cJ bE (γ 3)) bE) (γ 4)) (ag bE (ag bE aq))))) aq))))) (ax (Γ 6 (Ν eU J B (ag (ω bC (γ 5) aM) aq))) (ax (cg (qm p9 (lE (xT rfl) T.sum (ag (γ 6) aq)) (bg j5 (ϰ lL T.int (ag (ω bC (γ 5) aM) aq)) aM) (i9 _)) (aJ (bn qI)) bR) (ax (cg (qm wY (ϰ lL T.int (ag (rP bC (Ν fJ J B (ag (γ 0) (ag (Ν sG J B (ag (γ 6) aq)) (ag (ee (ag (bg cJ bE (γ 3)) aq)) aq)))) aM (λ_ _=>rfl)) aq)) (ϰ lL T.int (ag (γ 4) aq)) (i9 _)) (aJ (bn qI)) bR) (ax (cg (Υ dJ (lE (xT rfl) T.sum (ag (Us 2) aq)) aM) (aJ (bn (wT (jB dJ (ω bC (γ 5) aM) bE (i9 _)) (wO (jB dJ (ω bC (γ 5) aM) bE (i9 _)))))) bR) (ax (Γ 7 (Ν eU J B (ag (ω bC (γ 5) aM) aq))) (ax (sJ (i:=8) zt.nd rfl zw.l rfl (We ["k","wish"] 1 [2]) (jk za.g T.range (ag (lE fq T.len (ag (Us 2) aq)) aq)) (λ_ _ _ _=>(fF (i:=0) (show(["k","wish"]:hG).Nodup from by decide +kernel) rfl (Or.inl rfl))) (λ_ _ _ _=>ik) (λ_ _ _ _=>(bg cJ (bg cJ (bg cJ bE (lM dQ (by rfl) T.str wz (ag (pv 0) aq))) bE) (lM dQ (by rfl) T.str wz (ag (ω (qi K rfl) (pv 1) (pv 0)) aq))))) (ax (Γ 9 (rP bC (Ν fJ J B (ag (γ 0) (ag (bg wD (Ν sG J B (ag (γ 7) aq)) (γ 8)) (ag (ee (ag bE aq)) aq)))) aM (λ_ _=>rfl))) (aJ (bn (wT (jB dJ (lE (xT rfl) T.sum (ag (γ 7) aq)) (bg j5 (ϰ lL T.int (ag (ω bC (γ 5) aM) aq)) aM) (i9 _)) (wO (jB dJ (iu qG (γ 9) je (jf aM)) bE (i9 _)))))))))))))),?_⟩;walk_at "s";unfold Xk sU ϛ;refine b6 λN1 h1=>?_;walk_at "";have du:=pI "enough ";have eS:=pI "worst ";refine⟨_,rfl,_,rfl,bL (by lia),_,rfl,_,rfl,bL (by rw[dU];lia),_,rfl,_,rfl,bL (by rw[dU,dU];lia),_,rfl,_,rfl,bL (by lia),_,rfl,_,rfl,bL (by rw[dU];lia),_,rfl,_,rfl,bL (by rw[dU,dU];lia),bL (by simp),λp C=>?_⟩;rw[show Str.ofString "enough "=Str.ofString "enough" ++ Str.ofString " " by decide +kernel,BC,show Str.ofString "worst "=Str.ofString "worst" ++ Str.ofString " " by decide +kernel,BC,<-BD (Str.ofString "always"),<-BD (Str.ofString "fails")];have b1:∀y∈[Ε (Str.ofString "enough") [v,w],Ε (Str.ofString "worst") [v,w],Ε (Str.ofString "always") [],Ε (Str.ofString "fails") []],Pl y/\y.length<=400:=mE (kN (by decide +kernel) (u7 t Y)) (mE (kN (by decide +kernel) (u7 t Y)) (mE (kN (by decide +kernel) (λ_ h=>by cases h)) (mE (kN (by decide +kernel) (λ_ h=>by cases h)) z9)));have wl:∀{X:ej},X.length=m.toNat->(∀x∈X,0<=x/\x<10^40)->(ϯ X).length<=4000:=λM d=>by
  have:=mS λx hx=>kq (z:=x) (by have:=d x hx;lia)
  lia
 have t1:=mJ (kq (show -(10^60)<zs.sum+1/\zs.sum+1<10^60 by lia));have t2:=wl u U;have tl:(qM oA).length<=600/\(qM oF).length<=4000:=by
  rcases cs with⟨_,rfl,rfl⟩|⟨_,X,rfl,rfl,M,d,xs,_⟩
  .exact⟨by decide,by decide⟩
  .exact⟨mJ (kq (by lia)),wl M d⟩
 have s1:=δ.new (HO.lst [V.str (Ε (Str.ofString "enough") [v,w]),V.str (Ε (Str.ofString "worst") [v,w]),V.str (Ε (Str.ofString "always") []),V.str (Ε (Str.ofString "fails") [])]) C;refine⟨a,b,p,m,rs,Z,_,bv,_,_,_,rfl,s1 _ _ ea,s1 _ _ eb,(az:_=some (HO.lst ([Ε (Str.ofString "enough") [v,w],Ε (Str.ofString "worst") [v,w],Ε (Str.ofString "always") [],Ε (Str.ofString "fails") []].map V.str))),W.g,u6 W.pl b1,zl,cT rfl,by simp,W.an,an,?_,λq H2 s2 c=>h1 _ _ (b6 λN2 h2=>?_)⟩
 .rw[au,cU];show _+((tI (zs.sum+1)).length+((ϯ zs).length+((qM oA).length+((qM oF).length+0))))<=_
  lia
 clear h1;have Ϣ:=s1.trans s2;clear s1 s2 C b1;walk_at "";refine Θ c rfl ⟨zs,rfl,λz L=>by have:=U z L;lia,by lia,λq1 H3 _ s3 e3=>h2 _ _ (b6 λN3 h3=>?_)⟩;clear h2;have TY:=Ϣ.trans s3;have c:=s3 _ _ c;walk_at "";refine⟨zs,.inl (ν.of e3),Θ c rfl ⟨_,rfl,zs.sum+1,Dr (by lia) (by lia),by lia,gT (λh=>h (by lia)) (h3 _ _ (b6 λN4 h4=>?_))⟩⟩;clear h3;walk_at "";obtain⟨S1,es,lz⟩:=JD (rs:=rs) W.g m5 u U;have ed:=pI "most ";refine⟨q1,zs,rfl,e3,by lia,U,λq2 H4 s4 e4=>⟨_,rfl,_,rfl,bL (by lia),bL (by simp),λp C=>?_⟩⟩;rw[KW (w:="most") (by decide +kernel)];have s5:=δ.new (HO.lst [V.str (Ε "most" [v])]) C;have b2:∀y∈[Ε "most" [v]],Pl y/\y.length<=400:=mE (kN (by decide +kernel) (Dk t)) z9;have a5:Lm m 1 (zs,Ϗ m):=FE m5 m1 u (mD m) U (P7 (by decide));have Zw:Ξ m rs (S1++[(zs,Ϗ m)]) [Ε "most" [v]] [tI z] (S1++[(zs,Ϗ m)]):=vg (k:=1) (o:=.inl _) (by lia) a5 (by decide) rfl (Dk t) (.inl ⟨mo,by intro z;cases z⟩) .nil;have tz:=mJ (kq (show -(10^60)<z/\z<10^60 by lia));have WR:=TY.trans s4;refine⟨a,q2,p,m,rs,_,_,_,_,_,_,rfl,s5 _ _ (WR _ _ ea),s5 _ _ e4,(az:_=some (HO.lst ([Ε "most" [v]].map V.str))),W.g,u6 (DQ (by decide +kernel) U (by lia)) b2,by rw[q8];lia,cT rfl,by simp,lz,Zw,?_,λq3 H5 s6 e6=>Θ e6 rfl ⟨_,rfl,z,Dr z0 (by lia),by lia,_,rfl,_,qj w Y,by lia,gT (by lia) (h4 _ _ (b6 λN5 h5=>?_))⟩⟩
 .rw[au,cU,KA];show _+((tI z).length+0)<=_
  lia
 clear h4;have Zx:=WR.trans (s5.trans s6);have c:=s6 _ _ (s5 _ _ (s4 _ _ c));clear TY WR s4 s5 s6 s3 e3 e4 e6 C b2;walk_at "";refine⟨s.2,.inl (ν.of (Zx _ _ V3)),?_⟩;have lg:∀{j:Nat},j<10^60->((j:Nat):Int).natAbs.log2<1920:=λh=>(sR (z:=_) (n:=200) (by lia) (by decide)).log;rcases cs with⟨y0,rfl,rfl⟩|⟨yn,X,rfl,rfl,M,d,xs,r,par,dep,R,rr,st⟩
 .refine TF y0 (Θ c rfl ⟨rfl,TF rfl (Θ c rfl ⟨rfl,?_⟩)⟩);rw[bD (show V.str (qM (.inr 4))=V.str (Str.ofString "refused none")from rfl)];exact k H5 Zx
 refine gT yn (h5 _ _ (b6 λN6 h6=>?_));clear h5;walk_at "";refine Θ c rfl ⟨X,rfl,λz L=>by have:=d z L;lia,by lia,λq4 H6 _ s6 e6=>h6 _ _ (b6 λN7 h7=>?_)⟩;clear h6;have e:=Zx.trans s6;have c:=s6 _ _ c;have yl:s.2.length=m.toNat:=by have:=W.lm.l2;lia
 have yb:=W.lm.b2;walk_at "";refine⟨_,.inl (ν.of (e _ _ V3)),by lia,by rw[aa];lia,λpc nc=>?_⟩;rw[bM,aa];refine ku (λi ws σ H7=>δ H6 H7/\H7 pc=some (.lst ws)/\ws=(oC "want" s.2 i).map V.str/\∃v,σ=[v,some (V.ref lb)]) ⟨δ.new _ nc,az,rfl,_,rfl⟩ ?_ ?_
 .rintro i ws σ H7 N hN hi ⟨O,e7,rfl,v',rfl⟩;rw[ce];have b:=oN (P:=λz=>0<=z/\z<=6) yb (by decide) i;have V2:i<10^60:=by lia
  have ak:(s.2.getD i 0).toNat<10^60:=by lia
  have dF:=pI "want ";have fi:=Vr V2;have fn:=Vr ak;have en:((s.2.getD i 0).toNat:Int)=s.2.getD i 0:=bJ b.1;walk_at "";refine⟨lg V2,_,rfl,_,rfl,bL (by rw[eR];lia),_,rfl,_,rfl,bL (by rw[dU,eR];lia),Θ (O _ _ (e _ _ V3)) (ϩ (by lia) (by lia)) ?_⟩;rw[bM,<-en];refine⟨_,rfl,lg ak,_,rfl,_,rfl,bL (by rw[dU,dU,eR,eR];lia),e7,eg (by rw[aa,q8];lia),hN _ _ _ ⟨O.put nc _,az,?_,_,rfl⟩⟩;rw[eR,eR,show Str.ofString "want "=Str.ofString "want" ++ Str.ofString " " by decide +kernel,BC,xp,au]
  rfl
 rintro ws σ H7 ⟨O,e7,rfl,v',rfl⟩;refine h7 _ _ (b6 λN8 h8=>?_);clear h7;walk_at "";have Yc:=e.trans O;obtain⟨S2,l2,lx⟩:=JD (rs:=rs) W.g m5 M d;obtain⟨S3,l3,ly⟩:=Nt (rs:=rs) (S0:=S2) W.g m5 M yl d yb (by lia);have e7:LS H7 pc (oC "want" s.2 s.2.length):=e7;refine⟨q4,X,rfl,O _ _ e6,by lia,d,λq5 H8 s8 e8=>B8 e8 (s8 _ _ e7) (by rw[q8,q8];lia) λq6 H9 s9 e9=>⟨bL (by simp),λp C=>?_⟩⟩;have X7:=δ.new (HO.lst [V.str (Str.ofString "meet")]) C;have aS:=(Yc.trans s8).trans s9;have f:Lm m 1 (X,s.2):=FE m5 m1 M yl d yb;obtain⟨Η,Ρ,RR⟩:=Kj W.g;have y0:=λy hy=>(yb y hy).1;have x0:=λx hx=>(d x hx).1;have mn:=Ef (S:=S3) W.g m5 (by lia) f (by decide) RR (Classical.byContradiction λn=>by
  have:=tf W.g (RR 0 (by lia) (by lia)) (by lia) (by lia) R rr.1 rr.2 (by lia) x0 y0 (Int.not_lt.mp n)
  lia)
 have av:=wd W.g m5 f (by decide) RR;have tu:=mS (zs:=(lB m rs Η Ρ X s.2 m.toNat).map λz=>-z) λz L=>by
  obtain⟨y,hy,rfl⟩:=aE.mp L;have:=av y hy;exact kq (by lia)
 rw[aa,rz]at tu;have ds:=pI "lack ";have bV:Ξ m rs (S3++[(X,s.2)]) [Ε "meet" []] [Str.ofString "lack " ++ ϯ ((lB m rs Η Ρ X s.2 m.toNat).map λz=>-z)] (S3++[(X,s.2)]):=.cons (by lia) (f.sz (by decide)) mn .nil;refine⟨a,q6,p,m,rs,_,_,_,_,_,_,rfl,X7 _ _ (aS _ _ ea),X7 _ _ e9,?_,W.g,u6 (u6 (DQ (by decide +kernel) d (by lia)) (DQ (by decide +kernel) (λz L=>by have:=yb z L;lia) (by lia))) (mE (kN (by decide +kernel) (λ_ h=>by cases h)) z9),by rw[ay,q8,q8];lia,cT rfl,by simp,lx.app ly,bV,?_,λq7 bt a3 aH=>Θ aH rfl (h8 _ _ ?_)⟩
 .rw[BD];exact az
 .rw[au,cU,au,cU,KA,KA];show _+((Str.ofString "lack " ++ ϯ _).length+0)<=_;rw[dU]
  lia
 clear h8;walk_at "";have G:=O.trans (s8.trans (s9.trans (X7.trans a3)));refine⟨X,.inl (ν.of (G _ _ e6)),Θ (G _ _ c) rfl ⟨_,rfl,X.sum+1,Dr (by lia) (by lia),aV tl.1 (by decide),TF (by lia) ⟨_,rfl,bL (by rw[dU];lia),rfl,?_⟩⟩⟩;rw[(Ba _).1,bD rfl];exact k bt (e.trans G)
def AF(T:Txt K I):Sp:=λb H Q _=>∃(a:Addr)(c:ej),b=[.ref a]/\ν K H a (c.map V.int)/\∀v,Q (.int v) H
abbrev xh:Stmt:=top 120
def IG:ζ ["script"] ["script"] (aK xh):=.of
def I0(T:Txt K I)(j:bQ (τ P w)):Ok P w K I base "_law_last" xh ["script"] 1 (AF T):=λ_ _ D=>by
 refine D.F.ϊ IG λi A b s H f Q E g h=>?_;obtain⟨a,e,rfl,d,k⟩:=h;refine⟨_,(ax (cg (Υ dJ (lE fq T.len (ag (γ 0) aq)) aM) (aJ (bn aM)) bR) (aJ (bn (ω bC (γ 0) (bg j5 (lE fq T.len (ag (γ 0) aq)) aM))))),?_⟩;walk_at "t";refine⟨_,.inl d,?_⟩;rw[aa];by_cases c:((e.length:Nat):Int)=0
 .rw[aj c];exact k 0
 .rw[ah c];refine⟨_,.inl d,?_⟩;rw[aa];exact ixS d (ϩ (by lia) (by lia)) (k _)
def yq(T:Txt K I):Sp:=λi H Q _=>YV λ(a l b e g:Addr)(f:hD)(m:Int)(c:hR)(Z d:hG)(S:List (List Int×List Int))(s:List Int×List Int)=>i=[.ref a,.ref l,.ref b,.ref e,.ref g]/\LS H a (eJ m c)/\H l=some (.lst (f.map V.ref))/\ι H f c/\LS H b Z/\H e=some (.lst (s.1.map V.int))/\H g=some (.lst (s.2.map V.int))/\Wkd m c Z d S s/\∀h,δ H h->Q (.bl true) h
abbrev p6:Stmt:=top 132
def yG:ζ ["lead","roads","rows","held","wish","many","told","stands","now","lacks","place","met","short"] ["lead","roads","rows","held","wish"] (aK p6):=.of
def BQ:Wx (aK p6) "now":=.of (by kernel_rfl)
def o7:ϓ (aK p6) "range":=.of
def F9(T:Txt K I)(hq:bQ (τ P w))(fJ:rG P w base T)(eU:qa P w base T)(mL:zu P w base T):Ok P w K I base "_law_meets" p6 ["lead","roads","rows","held","wish"] 67 (yq T):=λ_ _ D=>by
 refine D.F.ϊ yG λξ A br s H vs Q E hr h=>?_;obtain⟨a,l,b,la,lb,ps,m,rs,Z,a1,S,s,rfl,ea,el,ro,eb,Wh,V3,W,k⟩:=h;have hv:=hr.units;have m1:=W.g.m1;have m5:=W.m5;have sl:=W.sl;have so:=W.so;have zl:=W.zl;have xl:=W.lm.l1;obtain⟨M,d,J,zb,ml,an,cs⟩:=OG (S:=S) W.g m5 (by lia) W.lm;refine⟨_,(ax (Γ 5 (lE fq T.len (ag (γ 3) aq))) (ax (Γ 6 (Ν fJ hr hq (ag (γ 0) (ag (γ 2) (ag (bg wD (ee (ag bE aq)) (iE rfl (mi (Nc:=["place"]) 1 (by decide +kernel) (by decide +kernel) rfl (by decide +kernel) rfl) (jk o7.g T.range (ag (γ 5) aq)) (λ_ _ _ _=>(fF (i:=0) (show(["place"]:hG).Nodup from by decide +kernel) rfl (Or.inl rfl))) (λ_ _ _ _=>ik) (λ_ _ _ _=>(bg cJ bE (lM dQ (by rfl) T.str wz (ag (pv 0) aq)))))) aq))))) (ax (Γ 7 (Ν eU hr hq (ag (kX PySem.F.plainAttrs_str PySem.F.slot_str_join PySem.F.type_str_join rm bE (ag (iu rp (γ 6) (jf aM) je) aq)) aq))) (ax (cg (Υ dJ (iu qG (ω bC (γ 6) aM) je (jf aM)) bE) (ax (se (i:=8) yG.nd rfl (Or.inr BQ.l) (Ν mL hr hq (ag (γ 1) (ag (γ 3) (ag (iu qG (ω bC (γ 6) aM) (jf aM) je) aq))))) (aJ (bn (wT (MO (JQ (Us 8))) (wT (jB wY (lE (yA rfl) T.min (ag (γ 7) aq)) aM (i9 _)) (wO (jB wY (lE (yA rfl) T.min (ag (iE rfl (We ["k","now","wish"] 1 [8,4]) (jk o7.g T.range (ag (γ 5) aq)) (λ_ _ _ _=>(fF (i:=0) (show(["k","now","wish"]:hG).Nodup from by decide +kernel) rfl (Or.inl rfl))) (λ_ _ _ _=>ik) (λ_ _ _ _=>(bg j5 (ω (qi K rfl) (pv 1) (pv 0)) (ω (qi K rfl) (pv 2) (pv 0))))) aq)) aM (i9 _)))))))) bR) (ax (Γ 9 (Ν eU hr hq (ag (iu qG (ω bC (γ 6) aM) (jf aM) je) aq))) (ax (cg (PW.pt (uM (Υ p9 (iu qG (ω bC (γ 6) aM) je (jf aM)) bE) (uM (qm (Hy hv) (γ 9) (iE rfl (mi (Nc:=["number"]) 1 (by decide +kernel) (by decide +kernel) rfl (by decide +kernel) rfl) (gC (γ 7)) (λ_ _ _ _=>(fF (i:=0) (show(["number"]:hG).Nodup from by decide +kernel) rfl (Or.inl rfl))) (λ_ _ _ _=>ik) (λ_ _ _ _=>(uK rX (pv 0)))) (i9 _)) (wm (Υ sE (lE (yA rfl) T.min (ag (γ 9) aq)) aM))))) (aJ (bn qI)) bR) (ax (fh PassesOwn.never rfl (jk o7.g T.range (ag (γ 5) aq)) (ϑ 10) (ax (Γ 11 (rP bC (Ν fJ hr hq (ag (γ 0) (ag (γ 2) (ag (ee (ag (bg cJ (bg cJ (bg cJ bE (ϰ dQ T.str (ag (γ 10) aq))) bE) (ϰ dQ T.str (ag (ω bC (γ 9) (γ 10)) aq))) (ag bE aq))) aq)))) aM (λ_ _=>rfl))) (ax (Γ 12 (rP bC (Ν fJ hr hq (ag (γ 0) (ag (γ 2) (ag (ee (ag (bg cJ (bg cJ (bg cJ bE (ϰ dQ T.str (ag (γ 10) aq))) bE) (ϰ dQ T.str (ag (bg j5 (ω bC (γ 9) (γ 10)) aM) aq))) (ag bE aq))) aq)))) aM (λ_ _=>rfl))) (aJ (cg (PW.pt (uM (Υ p9 (iu qG (γ 11) je (jf aM)) bE) (wm (Υ p9 (iu qG (γ 12) je (jf aM)) bE)))) (aJ (bn qI)) bR))))) (aJ (bn qI))))))))),?_⟩;walk_at "s";unfold Xk sU ϛ;refine b6 λN1 h1=>?_;walk_at "";refine⟨_,.inl (ν.of Wh),?_⟩;rw[aa,xl];refine h1 _ _ (b6 λN2 h2=>?_);clear h1;walk_at "";refine⟨bL (by simp),λp R=>⟨by lia,by lia,λpc f=>?_⟩⟩;have C:=δ.new (HO.lst [V.str (Str.ofString "meet")]) R;have e1:LS (upd H p (HO.lst [V.str (Str.ofString "meet")])) p [Str.ofString "meet"]:=az;have hH:=C.free f;generalize upd H p (HO.lst [V.str (Str.ofString "meet")])=Y at C e1 f ⊢;have lg:∀{j:Nat},j<10^60->((j:Nat):Int).natAbs.log2<1920:=λh=>(sR (z:=_) (n:=200) (by lia) (by decide)).log;refine ku (λi ws e H3=>δ Y H3/\H3 pc=some (.lst ws)/\ws=((List.range i).map λi=>Ε "stands" [i]).map V.str/\∃v,e=[v]) ⟨δ.new _ f,az,rfl,_,rfl⟩ ?_ ?_
 .rintro i ws e H3 N hN hi ⟨u,L,rfl,v,rfl⟩;rw[ce];have V2:i<10^60:=by lia
  have em:=pI "stands ";have fi:=Vr V2;walk_at "";refine⟨lg V2,_,rfl,_,rfl,bL (by rw[eR];lia),L,eg (by rw[aa,aa,cK];lia),hN _ _ _ ⟨u.put f _,az,?_,_,rfl⟩⟩;rw[eR,KW (w:="stands") (by decide +kernel),gQ,au,au]
  rfl
 rintro ws e H3 ⟨u,L,rfl,v,rfl⟩;refine B8 (u _ _ e1) L (by rw[aa,cK];show 1+_<=_;lia) λq H4 s4 e4=>?_;have WR:=C.trans (u.trans s4);clear C u s4 e1 L f hH R;have b1:∀y∈Ε "meet" []::(List.range m.toNat).map λi=>Ε "stands" [i],Pl y/\y.length<=400:=mE (kN (by decide +kernel) (λ_ h=>by cases h)) λy hy=>by
  obtain⟨i,hi,rfl⟩:=aE.mp hy;have:=de.mp hi;exact kN (by decide +kernel) (Dk (by lia))
 have tz:=sg (ws:=d.map tI) (m:=600) λw hw=>by
  obtain⟨z,hz,rfl⟩:=aE.mp hw;have:=zb z hz;exact mJ (kq (by lia))
 rw[aa,J]at tz;refine⟨a,b,q,m,rs,Z,_,a1,_,_,_,rfl,WR _ _ ea,WR _ _ eb,?_,W.g,u6 W.pl b1,zl,?_,by simp,W.an,an,?_,λq2 H5 s5 X=>h2 _ _ (b6 λN3 h3=>?_)⟩
 .rw[BD];exact e4
 .rw[aR,aa,cK]
  lia
 .rw[au,cU,aF,aN]
  lia
 clear h2;have Zx:=WR.trans s5;walk_at "";refine⟨by simp[Uo],Jf X (by decide) λq3 H6 s6 e6=>?_⟩;have e6:LS H6 q3 (d.map tI):=e6;refine⟨_,q3,d.map tI,rfl,rfl,ν.of e6,by rw[aa,J,show(Str.ofString " ").length=1 from rfl];lia,?_⟩;have bp:∀z∈d,-(10^60)<z/\z<10^60:=λz hz=>by have:=zb z hz;lia
 refine⟨d,rfl,bp,by lia,λst H7 _ s7 e7=>h3 _ _ (b6 λN4 h4=>Te λA B hA hB=>?_)⟩;clear h3;have Yc:=Zx.trans (s6.trans s7);have X:=s7 _ _ (s6 _ _ X);clear s6 s7 e6 WR Zx s5 e4 tz;walk_at "";have g0:aT ((M::d.map tI).map V.str) 0=some (.str M):=iQ (by decide) rfl;refine Θ X g0 ⟨M,rfl,bL (by lia),rfl,?_⟩;have zn:d≠[]:=λz=>by rw[z]at J;have:0=m.toNat:=J;lia
 rcases cs with⟨ss,rfl,ok,z0,cv⟩|⟨rfl,z1,cs⟩
 .obtain⟨c1,c2⟩:=E1 (Bv ss);refine TF (congrArg V.str c1) (hA _ _ (b6 λN5 h5=>?_));walk_at "";refine Θ X g0 ⟨_,rfl,bL (by lia),?_⟩;rw[c2];refine⟨l,la,ps,rs,m,s.1,ss,rfl,Yc _ _ el,ι.same Yc ro,W.g,Yc _ _ Wh,xl,ok.can,ok.num,ok.len,λp H8 O U=>h5 _ _ ?_⟩;walk_at "";refine TF (by nofun) ⟨d,ν.of (O _ _ e7),zn,λy hy _=>TF (z0 y hy) ⟨by lia,by lia,λpc f=>?_⟩⟩;have ln:((ss.foldl (cQ rs) s.1).length:Int)=m:=by rw[rC];exact xl
  have r:=Yc.trans O;have yl:=W.lm.l2;generalize ss.foldl (cQ rs) s.1=nw at U ln cv;refine ku (λi ws e t=>δ H8 t/\t pc=some (.lst ws)/\ws=((List.range i).map λi=>nw.getD i 0-s.2.getD i 0).map V.int/\∃v,e=[v,some (V.ref p),some (V.ref lb)]) ⟨δ.new _ f,az,rfl,_,rfl⟩ ?_ ?_
  .rintro i ws e t N hN hi ⟨o,G,rfl,v,rfl⟩;rw[ce];walk_at "";refine Θ (o _ _ U) (ϩ (by lia) (by lia)) (Θ (o _ _ (r _ _ V3)) (ϩ (by lia) (by lia)) ⟨_,rfl,?_⟩);refine⟨_,rfl,G,eg (by rw[aa,aa,cK];lia),hN _ _ _ ⟨o.put f _,az,?_,_,rfl⟩⟩;rw[bM,gQ,au,au]
   rfl
  .rintro ws e t ⟨o,G,rfl,v,rfl⟩;refine⟨pc,rfl,_,ν.of G,λz=>?_,λy hy _=>?_⟩
   .have:=congrArg List.length z;rw[aa,cK,eL]at this
    lia
   .obtain⟨i,hi,rfl⟩:=aE.mp hy;have:=cv i (by have:=de.mp hi;lia);rw[bD (show(0:Int)<=nw.getD i 0-s.2.getD i 0 by lia)];exact k t (r.trans o)
 .obtain⟨c1,c2⟩:=Ba (ϯ (d.map λz=>-z));refine gT (UI (Qx _)) (hB _ _ (h4 _ _ (b6 λN5 h5=>?_)));clear h4 hA hB;walk_at "";refine Θ X g0 ⟨_,rfl,bL (by lia),?_⟩;rw[c2];refine⟨_,rfl,λz hz=>?_,by rw[aa];lia,λlk H8 fc O U=>h5 _ _ (b6 λN6 h6=>?_)⟩
  .obtain⟨z,mz,rfl⟩:=aE.mp hz;have:=zb z mz
   lia
  clear h5;have r:=Yc.trans O;walk_at "";refine Θ (O _ _ X) g0 ⟨_,rfl,bL (by lia),rfl,?_⟩;rw[c1];refine gT (λz=>z rfl) ⟨⟨_,ν.of (O _ _ e7)⟩,λpc f=>?_⟩;refine oQ (K:=K) (c:=true) (a:=st) (xs:=d.map V.int) (λi ws e t=>δ H8 t/\t pc=some (.lst ws)/\ws=((d.take i).map λz=>-z).map V.int/\∃v,e=[v]) ⟨δ.new _ f,az,rfl,_,rfl⟩ (λi ws e t _ z=>ν.of (z.1 _ _ (O _ _ e7))) ?_ ?_
  .rintro i x ws e t N hN hx ⟨o,G,rfl,v,rfl⟩;obtain⟨z,gz,rfl⟩:=List.θ hx;have il:=(aD.mp gz).1;walk_at "";refine⟨G,eg (by rw[aa,aa,bA];lia),hN _ _ _ ⟨o.put f _,az,?_,_,rfl⟩⟩;rw[bj,gz,au,au]
   rfl
  rintro ws e t ⟨o,G,rfl,v,rfl⟩;rw[aa,bx]at G;have bl:=r.trans o;have U:=o _ _ U;refine BX U G ⟨false,rfl,gT (by decide) ⟨_,ν.of U,by simp[zn],λy hy _=>gT (λh=>?_) (h6 _ _ (b6 λN7 h7=>?_))⟩⟩
  .obtain⟨z,mz,rfl⟩:=aE.mp hy;have:=z1 z mz
   lia
  clear h6;clear o G e7 O f Yc r X g0 c1 c2;walk_at "";refine⟨by lia,by lia,?_⟩;refine sI (λi e Y=>δ H Y/\Y lk=some (.lst ((d.map λz=>-z).map V.int))/\∃v1 v2 v3,e=[some (V.ref a),some (V.ref l),some (V.ref b),some (V.ref la),some (V.ref lb),some (V.int m),some (V.ref q2),some (V.ref st),none,some (V.ref lk),v1,v2,v3]) ⟨bl,U,_,_,_,rfl⟩ ?_ ?_
  .rintro i e Y N BB Λ hN hi ⟨C,e1,v1,v2,v3,rfl⟩;refine Λ _ _ (b6 λM1 k1=>?_);have i1:(i:Int)<m:=(by lia);have V2:i<10^60:=(by lia);have il:i<d.length:=(by lia);obtain⟨c,ec⟩:∃c,c=(d.map λz=>-z).getD i 0:=⟨_,rfl⟩;have ez:c=-(d.getD i 0):=by
    rw[ec,bc,bc,aP,aB il]
    rfl
   have zi:d.getD i 0∈d:=by
    rw[bc,aB il];exact dL il
   have z2:=z1 _ zi;have z3:=zb _ zi;have cc:aT ((d.map λz=>-z).map V.int) i=some (.int c):=by
    have:=ϩ (xs:=d.map λz=>-z) (i:=(i:Int)) (by lia) (by rw[aa];lia);rw[this,bM,ec]
   have eu:=pI "put ";have l1:(Str.ofString " ").length=1:=rfl;have fi:=Vr V2;have a4:∀{H':Hp}{p:Addr}{n:Nat}{A:Str}{S':List (List Int×List Int)}{Q':VK},δ H H'->H' p=none->n<10^58->A.length<=15020->Ξ m rs (S++[s]) [Ε "put" [i,n],Ε "meet" []] [Str.ofString "done",A] S'->(∀q Za,δ H' Za->LS Za q [Str.ofString "done",A]->Q' (.ref q) Za)->tG T [V.ref a,V.ref b,V.ref p] (upd H' p (HO.lst [V.str (Str.ofString "put " ++ Str.ofString (toString (i:Int))++Str.ofString " " ++ Str.ofString (toString (n:Int))),V.str (Str.ofString "meet")])) Q' E0:=λ{H' p n A S' Q'} sh R hn hA an' q=>by
    rw[eR,eR,show Str.ofString "put "=Str.ofString "put" ++ Str.ofString " " by decide +kernel,BC];have s2:=δ.new (HO.lst [V.str (Ε (Str.ofString "put") [i,n]),V.str (Str.ofString "meet")]) R;have b1:∀y∈[Ε (Str.ofString "put") [i,n],Ε "meet" []],Pl y/\y.length<=400:=mE (kN (by decide +kernel) (u7 V2 (by lia))) (mE (kN (by decide +kernel) (λ_ h=>by cases h)) z9);refine⟨a,b,p,m,rs,Z,_,a1,_,_,_,rfl,s2 _ _ (sh _ _ ea),s2 _ _ (sh _ _ eb),?_,W.g,u6 W.pl b1,zl,cT rfl,by simp,W.an,an',?_,λq' H2 u L=>q q' H2 (s2.trans u) L⟩
    .rw[BD];exact az
    .rw[au,cU];show _+(4+(A.length+0))<=_
     lia
   obtain⟨n,en⟩:=d5 (show 0<=c by lia);obtain⟨n',b0⟩:=d5 (show 0<=c-1 by lia);have Y6:n<10^58:=(by lia);have ar:n'<10^58:=(by lia);have fn:=Vr (show n<10^60 by lia);have eH:=Vr (show n'<10^60 by lia);obtain⟨ss,S1,bt,fa⟩:=(cs i n i1 Y6).1 (by lia);obtain⟨us,S2,Zw,ek⟩:=(cs i n' i1 ar).2 (by lia);have ey:=pI "steps ";have ei:=pI "lack ";walk_at "";rw[ce];refine⟨lg V2,_,rfl,_,rfl,bL (by rw[eR];lia),_,rfl,_,rfl,bL (by rw[dU,eR];lia),Θ e1 cc ?_⟩;rw[en];refine⟨_,rfl,lg (by lia),_,rfl,_,rfl,bL (by rw[dU,dU,eR,eR];lia),bL (by simp),λp R=>a4 C R Y6 (by rw[dU];lia) bt λq H2 s2 e2=>Θ e2 rfl (k1 _ _ (b6 λM2 k2=>?_))⟩;clear k1;have Xe:=s2 _ _ e1;have Ϣ:=C.trans s2;walk_at "";refine⟨lg V2,_,rfl,_,rfl,bL (by rw[eR];lia),_,rfl,_,rfl,bL (by rw[dU,eR];lia),Θ Xe cc ⟨_,rfl,?_⟩⟩;rw[b0];refine⟨lg (by lia),_,rfl,_,rfl,bL (by rw[dU,dU,eR,eR];lia),bL (by simp),λp R=>a4 Ϣ R ar (by rw[dU];lia) Zw λq H3 u L=>Θ L rfl (k2 _ _ ?_)⟩;clear k2;walk_at "";refine⟨_,rfl,bL (by rw[dU];lia),rfl,gT (λh=>h (congrArg V.str (E1 _).1)) ⟨_,rfl,bL (by rw[dU];lia),rfl,gT (λh=>h (congrArg V.str (Ba _).1)) (hN _ _ ⟨Ϣ.trans u,u _ _ Xe,_,_,_,rfl⟩)⟩⟩
  .rintro BB e Y Λ ⟨C,e1,v1,v2,v3,rfl⟩;refine Λ _ _ (h7 _ _ ?_);walk_at "";exact k Y C
def Av(T:Txt K I):Sp:=λb H Q _=>E3 λ(a:Addr)(c:ej)(k:Int)=>b=[.ref a,.int k]/\ν K H a (c.map V.int)/\0<=k/\∀v,Q (.int v) H
abbrev xK:Stmt:=top 119
def IM:ζ ["script","k"] ["script","k"] (aK xK):=.of
def IH(T:Txt K I)(l:bQ (τ P w)):Ok P w K I base "_law_cell" xK ["script","k"] 1 (Av T):=λ_ _ D=>by
 refine D.F.ϊ IM λj A b s H m Q E n h=>?_;obtain⟨a,d,i,rfl,e,f,k⟩:=h;refine⟨_,(ax (cg (Υ sE (γ 1) (lE fq T.len (ag (γ 0) aq))) (aJ (bn (ω bC (γ 0) (γ 1)))) bR) (aJ (bn aM))),?_⟩;walk_at "t";refine⟨_,.inl e,?_⟩;rw[aa];by_cases c:i<(d.length:Int)
 .rw[aj c];have g:i.toNat<d.length:=by lia
  exact ixS e (iQ f (v:=.int d[i.toNat]) (by rw[aP,aB g];rfl)) (k _)
 .rw[ah c];exact k 0
def Dc(T:Txt K I):Sp:=λe H Q _=>E4 λ(c o m b:Int)=>e=[.int c,.int o,.int m,.int b]/\0<=m/\m<=1000/\0<b/\b<1000000000000000000/\∀(l:Addr)(a:ej)(d:Hp),H l=none->δ H d->d l=some (.lst (a.map V.int))->(a.length:Int)=m->(∀x∈a,0<=x)->Q (.ref l) d
abbrev uG:Stmt:=top 121
def KR:ζ ["cell","mode","many","base","found","rest","k","m"] ["cell","mode","many","base"] (aK uG):=.of
def B3:ϓ (aK uG) "range":=.of
def Li(T:Txt K I)(Y:bQ (τ P w)):Ok P w K I base "_law_row" uG ["cell","mode","many","base"] 1 (Dc T):=λ_ _ D=>by
 refine D.F.ϊ KR λW A q s H vs Q E hr h=>?_;obtain⟨c,o,m,b,rfl,m0,Z,B,b1,k⟩:=h;refine⟨_,(ax (Γ 4 (ee aq)) (ax (Γ 5 (γ 0)) (ax (fh PassesOwn.never rfl (jk B3.g T.range (ag (γ 2) aq)) (ϑ 6) (aJ (cg (Υ dJ (γ 1) aM) (ax (cV (Uj (γ 4) (bg fk (γ 5) (γ 3)))) (aJ (Γ 5 (bg Hs (γ 5) (γ 3))))) (ax (Γ 7 (bg fk (bg kR (bg gm (bg gm (bg fk (γ 0) aM) (bg kR aM (γ 6))) aM) aM) aM)) (ax (Γ 7 (bg fk (bg kR (bg fk (bg kR (γ 7) (γ 7)) aM) aM) aM)) (aJ (cV (Uj (γ 4) (bg iB (γ 7) aM))))))))) (aJ (bn (γ 4)))))),?_⟩;walk_at "t";refine⟨by decide,λl j=>?_⟩;refine⟨by lia,by lia,?_⟩;refine CU (λi v f=>δ H f/\E4 λ(a:ej)(r:Int)(t p:Option V)=>f l=some (.lst (a.map V.int))/\a.length=i/\(∀x∈a,0<=x)/\v=[some (V.int c),some (V.int o),some (V.int m),some (V.int b),some (V.ref l),some (V.int r),t,p]) ⟨δ.new _ j,[],c,_,_,az,rfl,(λx u=>absurd u fM),rfl⟩ ?_ ?_
 .rintro i v f N hN hi ⟨s2,a,r,t,p,e2,xl,x0,rfl⟩;have J:(0:Int)+(i:Int)=(i:Int):=by lia
  rw[J];walk_at "";have C:(a.map V.int).length<sizeLine:=eg (by rw[aa];lia);have d:∀y:Int,0<=y->∀x∈a++[y],0<=x:=λy M x u=>by
   rcases aX.mp u with h|h
   .exact x0 x h
   .rw[aG.mp h];exact M
  by_cases z:o=0
  .rw[aj z];refine⟨Rw e2,B,mM e2 C ⟨⟨B,by lia⟩,hN _ _ ⟨s2.put j _,a++[r%b],_,_,_,?_,by rw[ay,xl];rfl,d _ (cC _ (by lia)),rfl⟩⟩⟩;rw[az,au]
   rfl
  .rw[ah z];have S:=cC c (show(998244353:Int)≠0 by decide);have U:=cM c (show(0:Int)<998244353 by decide);generalize c%998244353=n at S U ⊢;have L:=cC ((n+7919*(i:Int)+11)*48271) (show(2147483647:Int)≠0 by decide);have R:=cM ((n+7919*(i:Int)+11)*48271) (show(0:Int)<2147483647 by decide);refine⟨by decide,.inl ⟨by decide,by decide⟩,.inr ⟨by decide,by decide⟩,by decide,?_⟩;generalize (n+7919*(i:Int)+11)*48271%2147483647=e at L R ⊢;have X:=cC (e*e) (show(2147483629:Int)≠0 by decide);refine⟨.inl ⟨by lia,by lia⟩,by decide,.inr ⟨by decide,by decide⟩,by decide,?_⟩;have G:=cC (e*e%2147483629*40692) (show(2147483399:Int)≠0 by decide);generalize e*e%2147483629*40692%2147483399=O at G ⊢;refine⟨Rw e2,⟨by decide,by decide⟩,mM e2 C (hN _ _ ⟨s2.put j _,a++[O/7],_,_,_,?_,by rw[ay,xl];rfl,d _ (iR G (by decide)),rfl⟩)⟩;rw[az,au]
   rfl
 .rintro v f ⟨s2,a,r,t,p,e2,xl,x0,rfl⟩;exact⟨_,rfl,k l a f j s2 e2 (by lia) x0⟩
theorem A1{c d:Type}{R:c->d->Prop}:∀(n:Nat){b:List c}{a:List d},Paired R b a->Paired R (b.take n) (a.take n)
 | 0,_,_,_=>by rw[eO,eO];exact .nil
 | _+1,_,_,.nil=>.nil
 | n+1,_,_,.cons x xs=>.cons x (A1 n xs)
theorem Ay{c d:Type}{R:c->d->Prop}:∀(n:Nat){b:List c}{a:List d},Paired R b a->Paired R (b.drop n) (a.drop n)
 | 0,_,_,h=>h
 | _+1,_,_,.nil=>.nil
 | n+1,_,_,.cons x xs=>Ay n xs
theorem B4{e f:Type}{R:e->f->Prop}{a:List e}{d:List f}(h:Paired R a d):∀{c:List e}{b:List f},Paired R c b->Paired R (c++a) (b++d)
 | _,_,.nil=>h
 | _,_,.cons x xs=>.cons x (B4 h xs)
def ι.ins{H:Hp}{b:hD}{a:hR}{q:Addr}{r:Road}(n:Nat)(h:ι H b a)(e:H q=some (.tup (qb r))):ι H (b.take n++q::b.drop n) (a.take n++r::a.drop n):=B4 (R:=λp r=>H p=some (.tup (qb r))) (.cons e (Ay n h)) (A1 n h)
def F4{H:Hp}{p:Addr}(o:HO):∀b u,H b=some u->b≠p->upd H p o b=some u:=λb u h n=>by rw[aW n];exact h
def oB(m s:Int):List Int:=(cj m.toNat).map λv=>(v+s)%m
def EU{m s v:Int}(a:0<=v)(b:v<m):(oB m s).getD v.toNat 0=(v+s)%m:=by
 unfold oB;rw[List.getD,aP,gS (by lia),bJ a]
 rfl
def NK{m s a b:Int}(j:0<=a)(g:a<m)(f:0<=b)(i:b<m)(e:(a+s)%m=(b+s)%m):a=b:=by
 have l:=Int.emod_emod_of_dvd (a+s) (Int.dvd_refl m);have c:(a-b)%m=0:=by
  have:=Int.emod_eq_emod_iff_emod_sub_eq_zero.mp e
  rwa [show a+s-(b+s)=a-b by lia]at this
 obtain⟨k,d⟩:=Int.dvd_of_emod_eq_zero c;have h:0<m:=by lia
 have:k=0:=by
  rcases Int.lt_trichotomy k 0 with z|z|z
  .have:m*k<=m*(-1):=b3 (by lia) (by lia)
   lia
  .exact z
  .have:m*1<=m*k:=b3 (by lia) (by lia)
   lia
 rw[this]at d
 lia
def PK{m s:Int}(f:1<=m):T5 m.toNat (oB m s) where
 len:=by unfold oB;rw[aa,cu]
 nd:=by
  unfold oB;refine List.pairwise_map.mpr ((iZ m.toNat).imp_of_mem λ{a b} ha hb h e=>h ?_);obtain⟨a0,a1⟩:=fe.mp ha;obtain⟨b0,b1⟩:=fe.mp hb;exact NK a0 (by lia) b0 (by lia) e
 all:=λv d c=>by
  unfold oB;refine aE.mpr ⟨(v-s)%m,fe.mpr ⟨cC _ (by lia),?_⟩,?_⟩
  .have:=cM (v-s) (show 0<m by lia)
   lia
  .rw[Int.emod_add_emod,show v-s+s=v by lia,Int.emod_eq_of_lt d (by lia)]
 Μ:=λv hv=>by
  unfold oB at hv;obtain⟨u,_,rfl⟩:=aE.mp hv;have c:=cC (u+s) (show m≠0 by lia);have g:=cM (u+s) (show 0<m by lia)
  lia
def zD(T:Txt K I):Sp:=λe H Q _=>∃(a:Addr)(f:ej),e=[.ref a]/\ν K H a (f.map V.int)/\∀(t l:Addr)(m:Int)(c:hD)(d:hR)(b:Hp),H t=none->H l=none->δ H b->b t=some (.tup [.int m,.ref l])->b l=some (.lst (c.map V.ref))->ι b c d->Good m d->m<=5->Q (.ref t) b
abbrev rH:Stmt:=top 123
def GB:ζ ["script","mode","shape","tolls","many","roads","k","one","other","there","back","road"] ["script"] (aK rH):=.of
def yT:ϓ (aK rH) "range":=.of
def FQ(T:Txt K I)(L:bQ (τ P w))(qO:Cb P w K I base "_law_cell" xK ["script","k"] 1 (Av T))(uL:Cb P w K I base "_law_row" uG ["cell","mode","many","base"] 1 (Dc T))(vx:Cb P w K I base "_law_tolls" vO ["t"] 1 (yW T)):Ok P w K I base "_law_roads" rH ["script"] 2 (zD T):=λ_ _ D=>by
 refine D.F.ϊ GB λξ A a9 s H vs Q E Z h=>?_;obtain⟨a,ns,rfl,ha,k⟩:=h;refine⟨_,(ax (Γ 1 (bg fk (Ν qO Z L (ag (γ 0) (ag aM aq))) aM)) (ax (Γ 2 (Ν uL Z L (ag (bg iB (Ν qO Z L (ag (γ 0) (ag aM aq))) aM) (ag (γ 1) (ag aM (ag aM aq)))))) (ax (Γ 3 (Ν uL Z L (ag (Ν qO Z L (ag (γ 0) (ag aM aq))) (ag (γ 1) (ag aM (ag (bg kR aM (bg Mg aM aM)) aq)))))) (ax (Γ 4 (bg gm aM (bg fk (ω bC (γ 2) aM) aM))) (ax (Γ 5 (ee aq)) (ax (fh PassesOwn.never rfl (Es yT.g T.range (ag aM (ag (γ 4) aq))) (ϑ 6) (ax (Γ 7 (bg fk (bg gm (bg fk (ω bC (γ 2) (bg gm (γ 6) aM)) (γ 6)) (ω bC (γ 2) aM)) (γ 4))) (ax (Γ 8 (bg fk (bg gm (γ 6) (ω bC (γ 2) aM)) (γ 4))) (ax (j7 (Ν vx Z L (ag (ω bC (γ 3) (γ 6)) aq)) (jK (n:=2) rfl (ci (ϑ 9) (ci (ϑ 10) g6)))) (ax (Γ 11 (lN (ag (γ 7) (ag (γ 8) (ag (γ 9) (ag (γ 10) aq)))))) (ax (cg (qm dJ (bg fk (bg iB (ω bC (γ 2) (bg gm (γ 6) aM)) aM) aM) aM (i9 _)) (aJ (Γ 11 (lN (ag (γ 8) (ag (γ 7) (ag (γ 10) (ag (γ 9) aq))))))) bR) (aJ (cV (kX eP lh PySem.F.type_list_insert M7 (γ 5) (ag (bg fk (bg iB (ω bC (γ 2) (bg gm (γ 6) aM)) aM) (bg gm (lE fq T.len (ag (γ 5) aq)) aM)) (ag (γ 11) aq))))))))))) (aJ (bn (lN (ag (γ 4) (ag (γ 5) aq))))))))))),?_⟩;walk_at "s";have em:∀(x n:Int),0<n->0<=x%n/\x%n<n:=λx n h=>⟨cC x (o9 h),cM x h⟩;have cd:∀x n:Int,0<n->n<1073741824->Bl x n:=λx n h1 h2=>⟨h1,h2⟩;refine b6 λN1 h1=>?_;walk_at "";refine⟨a,ns,0,rfl,ha,by decide,λc0=>⟨c0,rfl,by decide,h1 _ _ (b6 λN2 h2=>?_)⟩⟩;walk_at "";refine⟨a,ns,0,rfl,ha,by decide,λc1=>⟨c1,rfl,cd _ _ (by decide) (by decide),?_⟩⟩;refine⟨_,_,8,9600,rfl,by decide,by decide,by decide,by decide,λls O H1 n1 s1 e1 dk al=>h2 _ _ (b6 λN3 h3=>?_)⟩;walk_at "";refine⟨a,ns,1,rfl,δ.seq s1 ha,by decide,λc2=>⟨⟨by decide,by decide,by decide⟩,.inl ⟨by decide,by decide⟩,?_⟩⟩;refine⟨_,_,8,_,rfl,by decide,by decide,by decide,by decide,λlt ts H2 n2 s2 e2 tl t0=>h3 _ _ (b6 λN4 h4=>?_)⟩;walk_at "";have ak:=s2 _ _ e1;have Xf:=s1.trans s2;have g0:=ϩ (xs:=O) (i:=0) (by decide) (by lia);have g1:=ϩ (xs:=O) (i:=1) (by decide) (by lia);have p1:0<=O.getD (1:Int).toNat 0:=pi al _;generalize O.getD (0:Int).toNat 0=w0 at g0 ⊢;generalize O.getD (1:Int).toNat 0=e at g1 p1 ⊢;refine Θ ak g0 ⟨w0,rfl,by decide,?_⟩;have mm:=em w0 5 (by decide);obtain⟨m,ae⟩:∃m,m=1+w0%5:=⟨_,rfl⟩;rw[<-ae];have m1:1<=m:=by lia
 have Β:m<=5:=by lia
 clear ae mm;refine h4 _ _ (b6 λN6 h6=>?_);walk_at "";refine⟨by decide,λlo W=>h6 _ _ (b6 λN7 h7=>?_)⟩;walk_at "";refine⟨1,m,⟨rfl,rfl⟩,⟨by decide,by decide,by lia,by lia⟩,?_⟩;have bY:H lo=none:=Xf.free W;refine sI (λi σ U=>E9 λ(v:hD)(S:hR)(b:List Row)(v6 Y X v9 u l:Option V)=>σ=[some (V.ref a),some (V.int (c0%2)),some (V.ref ls),some (V.ref lt),some (V.int m),some (V.ref lo),v6,Y,X,v9,u,l]/\δ H2 U/\U lo=some (.lst (v.map V.ref))/\ι U v S/\Rows i b/\XW (oB m e) b S) ⟨[],[],[],_,_,_,_,_,_,rfl,δ.new _ W,az,.nil,⟨rfl,λi r h=>by cases h⟩,XW.nil _⟩ ?_ ?_
 .rintro i σ U N BB Λ hN hi ⟨v,S,b,v6,Y,X,v9,u,l,rfl,s3,hl3,ro3,R,P⟩;refine Λ _ _ ?_;have k0:(1:Int)<=1+(i:Int):=by lia
  have k1:1+(i:Int)<m:=by lia
  generalize hk:(1:Int)+(i:Int)=d at k0 k1 ⊢;have dw:v.length=S.length:=Paired.length ro3;have rl:=R.len;have pl:=P.len;have gk:=ϩ (xs:=O) (i:=d+1) (by lia) (by lia);have pk:0<=O.getD (d+1).toNat 0:=pi al _;generalize O.getD (d+1).toNat 0=J at gk pk;have gt:=ϩ (xs:=ts) (i:=d) (by lia) (by lia);generalize ts.getD d.toNat 0=tk at gt;have B:=s3 _ _ ak;have ck:=s3 _ _ e2;have hg:=em J d (by lia);obtain⟨o,b2⟩:∃o,o=J%d:=⟨_,rfl⟩;have u0:0<=o:=by lia
  have u1:o<d:=by lia
  refine b6 λM2 ca=>?_;walk_at "";refine Θ B gk ⟨J,rfl,by lia,Θ B g1 ⟨e,rfl,by lia,ca _ _ (b6 λM3 a0=>?_)⟩⟩;rw[<-b2];walk_at "";refine Θ B g1 ⟨e,rfl,by lia,a0 _ _ (b6 λM4 bH=>?_)⟩;walk_at "";refine Θ ck gt ?_;refine⟨tk,rfl,λq2 C G br ai t1 b0 b1=>?_⟩;have s5:=δ.new (.tup [.int C,.int G]) br;refine⟨q2,rfl,_,Δ.of az,rfl,_,_,rfl,_,_,rfl,rfl,bH _ _ (b6 λM5 cl=>?_)⟩;walk_at "";refine⟨bL (by simp),λq3 bV=>cl _ _ (b6 λM6 am=>?_)⟩;walk_at "";have s6:=δ.new (.tup [.int ((o+e)%m),.int ((d+e)%m),.int C,.int G]) bV;have M:=s5.trans s6;have ac:upd (upd U q2 (.tup [.int C,.int G])) q3 (.tup [.int ((o+e)%m),.int ((d+e)%m),.int C,.int G]) q3=some (.tup [.int ((o+e)%m),.int ((d+e)%m),.int C,.int G]):=az;generalize upd (upd U q2 (.tup [.int C,.int G])) q3 (.tup [.int ((o+e)%m),.int ((d+e)%m),.int C,.int G])=H6 at M ac ⊢;have bm:=M _ _ B;have lu:=EU (s:=e) u0 (show o<m by lia);have lk:=EU (s:=e) (show 0<=d by lia) k1;have put:∀(H7:Hp)(q:Addr)(f:Row)(Y X v9 u l:Option V),δ U H7->f.k=d->XU f->H7 q=some (.tup (qb (qA (oB m e) f)))->Uo K "list" (V.ref lo) H7/\D9 K (V.ref ls) (V.int (d+1)) H7 λx H1=>∃i,x=V.int i/\Bl i 48/\∃y,(ν K H1 lo y\/Δ K H1 lo y)/\0<(y.length:Int)+1/\UB (V.ref lo) [V.int (i/48%((y.length:Int)+1)),V.ref q] H1 λ_ H2=>N [some (V.ref a),some (V.int (c0%2)),some (V.ref ls),some (V.ref lt),some (V.int m),some (V.ref lo),some (V.int d),Y,X,v9,u,l] H2:=by
   intro H7 q f Y X v9 u l s7 rk a6 L;have z:=s7 _ _ hl3;have sp:=em (J/48) ((v.length:Int)+1) (by lia);refine⟨Rw z,Θ (s7 _ _ B) gk ⟨J,rfl,cd _ _ (by decide) (by decide),_,.inl (ν.of z),by lia,?_⟩⟩;rw[aa];refine Tt z sp.1 (by rw[aa];lia) (eg (by rw[aa];lia)) (hN _ _ ⟨v.take (J/48%((v.length:Int)+1)).toNat++q::v.drop (J/48%((v.length:Int)+1)).toNat,S.take (J/48%((v.length:Int)+1)).toNat++qA (oB m e) f::S.drop (J/48%((v.length:Int)+1)).toNat,b++[f],_,_,_,_,_,_,rfl,?_,?_,?_,?_,P.step f _⟩)
   .exact(s3.trans s7).put W _
   .rw[az,au,aF,nu,kt]
   .exact ι.ins _ (Paired.imp' (λp r h=>F4 _ _ _ h (eG h z (by nofun))) (ι.same s7 ro3)) (F4 _ _ _ L (eG L z (by nofun)))
   .refine⟨by rw[ay,rl];rfl,λj r hj=>?_⟩;by_cases W6:j<b.length
    .rw[dH W6]at hj;exact R.ok j r hj
    .have hj2:j=b.length:=by
      have:=(aD.mp hj).1;rw[ay]at this;simp at this
      lia
     rw[hj2,db (aU _),eT]at hj;cases hj;exact⟨by lia,a6⟩
  refine Θ bm gk ⟨J,rfl,cd _ _ (by decide) (by decide),by decide,?_⟩;by_cases c:J/24%2=1
  .rw[aj c];refine⟨bL (by simp),λq4 ba=>am _ _ ?_⟩;walk_at "";refine put _ q4 ⟨d,o,G,C,0,0⟩ _ _ _ _ _ (M.trans (δ.new _ ba)) rfl ⟨u0,u1,b0,b1,ai,t1,bF _,by show(0:Int)<d;lia⟩ ?_;rw[az];unfold qA;rw[ah (show ¬(0:Int)=1 by decide)];show _=some (HO.tup [V.int ((oB m e).getD d.toNat 0),V.int ((oB m e).getD o.toNat 0),V.int G,V.int C]);rw[lu,lk]
  .rw[ah c];refine am _ _ ?_;walk_at "";refine put _ q3 ⟨d,o,C,G,1,0⟩ _ _ _ _ _ M rfl ⟨u0,u1,ai,t1,b0,b1,bF _,by show(0:Int)<d;lia⟩ ?_;rw[ac];unfold qA;rw[aj rfl];show _=some (HO.tup [V.int ((oB m e).getD o.toNat 0),V.int ((oB m e).getD d.toNat 0),V.int C,V.int G]);rw[lu,lk]
 .rintro BB σ U Λ ⟨v,S,b,v6,Y,X,v9,u,l,rfl,s3,hl3,ro3,R,P⟩;refine Λ _ _ ?_;have g:=Rj (n:=m.toNat) (by lia) (by lia) (PK m1) (by rw[show m.toNat-1=(m-1).toNat by lia];exact R) P;rw[bJ (by lia)]at g;walk_at "";refine h7 _ _ ?_;walk_at "";refine⟨bL (by simp),λt nt=>?_⟩;have s4:=δ.new (.tup [.int m,.ref lo]) nt;exact k t lo m v S _ ((Xf.trans s3).free nt) bY (Xf.trans (s3.trans s4)) az (s4 _ _ hl3) (ι.same s4 ro3) g Β
def yg(T:Txt K I):Sp:=λe H Q _=>E3 λ(a:Addr)(d:ej)(z:Int)=>e=[.ref a,.int z]/\ν K H a (d.map V.int)/\d.length<=63/\1<=z/\z<=40/\∀p (c:ej) b,H p=none->δ H b->b p=some (.lst (c.map V.int))->c.length<=40->Q (.ref p) b
abbrev qE:Stmt:=top 126
def Fu:ζ ["cells","many","folded","k"] ["cells","many"] (aK qE):=.of
def yj:ϓ (aK qE) "range":=.of
def Fk(T:Txt K I)(u:bQ (τ P w)):Ok P w K I base "_law_folded" qE ["cells","many"] 1 (yg T):=λ_ _ D=>by
 refine D.F.ϊ Fu λr A f s H G Q E J h=>?_;obtain⟨a,m,z,rfl,n,B,C,y,k⟩:=h;refine⟨_,(ax (Γ 2 (ee aq)) (ax (fh PassesOwn.never rfl (jk yj.g T.range (ag (lE fq T.len (ag (γ 0) aq)) aq)) (ϑ 3) (aJ (cg (Υ sE (γ 3) (γ 1)) (aJ (cV (Uj (γ 2) (ω bC (γ 0) (γ 3))))) (aJ (j7 (bg gm (bg kR (ω bC (γ 2) (bg fk (γ 3) (γ 1))) aM) (ω bC (γ 0) (γ 3))) (nO (γ 2) (bg fk (γ 3) (γ 1)) hW)))))) (aJ (bn (γ 2))))),?_⟩;walk_at "t";refine⟨bL (by simp),λl nl=>?_⟩;have e:=δ.new (HO.lst []) nl;have p:upd H l (HO.lst []) l=some (HO.lst (([]:ej).map V.int)):=az;generalize upd H l (HO.lst [])=x at e p ⊢;refine⟨_,.inl (δ.seq e n),?_⟩;rw[aa];refine⟨by lia,by lia,?_⟩;refine sI (lo:=0) (λi j d=>δ H d/\∃(xs:ej)(v:Option V),d l=some (.lst (xs.map V.int))/\xs.length=min i z.toNat/\j=[some (V.ref a),some (V.int z),some (V.ref l),v]) ⟨e,[],_,p,by simp,rfl⟩ ?_ ?_
 .rintro i j d N BB Λ hN hi ⟨s2,xs,v,e2,xl,rfl⟩;refine Λ _ _ ?_;rw[show(0:Int)+(i:Int)=(i:Int) by lia];walk_at "";have o:=ϩ (xs:=m) (i:=(i:Int)) (by lia) (by lia);have b:=δ.seq s2 n;by_cases c:(i:Int)<z
  .rw[aj c];refine⟨Rw e2,⟨a,_,_,_,rfl,rfl,b,o,mM e2 (eg (by rw[aa];lia)) (hN _ _ ⟨s2.put nl _,xs++[m.getD i 0],_,by rw[az,au];rfl,by rw[ay,eD];lia,rfl⟩)⟩⟩
  .rw[ah c];have q:=cC (i:Int) (show z≠0 by lia);have t:=cM (i:Int) (show 0<z by lia);refine⟨by lia,Θ e2 (ϩ q (by lia)) ⟨_,rfl,.inr ⟨by decide,by decide⟩,⟨a,_,_,_,rfl,rfl,b,o,_,rfl,by lia,pJ e2 q (by rw[aa];lia) (hN _ _ ⟨s2.put nl _,xs.set ((i:Int)%z).toNat (xs.getD ((i:Int)%z).toNat 0*31+m.getD i 0),_,by rw[az,dh];rfl,by rw[bz];lia,rfl⟩)⟩⟩⟩
 .rintro BB j d Λ ⟨s2,xs,v,e2,xl,rfl⟩;refine Λ _ _ ?_;walk_at "";exact k l xs d nl s2 e2 (by lia)
def AW(T:Txt K I):Sp:=λh H Q _=>E4 λ(a:Addr)(e:ej)(m:Int)(f:hR)=>h=[.ref a,.int m]/\ν K H a (e.map V.int)/\e.length<=63/\Good m f/\m<=5/\∀(t p d g:Addr)(Z c:hG)(S:List (List Int×List Int))(s:List Int×List Int)(b:Hp),δ H b->b t=some (.tup [.ref p,.ref d,.ref g])->LS b p Z->b d=some (.lst (s.1.map V.int))->b g=some (.lst (s.2.map V.int))->Ξ m f [(Ϗ m,Ϗ m)] Z c (S++[s])->S.length<=40->Z.length<=40->(∀y∈Z,Pl y/\y.length<=400)->(c.map (·.length)).sum<=4*Z.length->Lm m 40 s->Q (.ref t) b
abbrev xN:Stmt:=top 127
def Iy:ζ ["script","many","rows","held","wish","cell","place","more"] ["script","many"] (aK xN):=.of
def Iz(T:Txt K I)(hq:bQ (τ P w))(tH:Cb P w K I base "_law_folded" qE ["cells","many"] 1 (yg T)):Ok P w K I base "_law_rows" xN ["script","many"] 2 (AW T):=λ_ _ D=>by
 refine D.F.ϊ Iy λξ A a4 s H vs Q E hr h=>?_;obtain⟨a,ns,m,rs,rfl,ha,hn,g,m5,k⟩:=h;have m1:=g.m1;have Β:=g.Β;refine⟨_,(ax (Γ 2 (ee aq)) (ax (Γ 3 (bg pN (ee (ag aM aq)) (γ 1))) (ax (Γ 4 (bg pN (ee (ag aM aq)) (γ 1))) (ax (fh PassesOwn.never rfl (gC (Ν tH hr hq (ag (iu rp (γ 0) (jf aM) je) (ag aM aq)))) (ϑ 5) (ax (Γ 6 (bg fk (bg iB (γ 5) aM) (γ 1))) (ax (Γ 7 (bg fk (bg iB (γ 5) aM) aM)) (ax (cg (Υ dJ (bg fk (bg iB (γ 5) aM) aM) aM) (aJ (Γ 7 (bg fk (bg iB (γ 5) aM) (bg Mg aM aM)))) bR) (aJ (cg (Υ dJ (bg fk (γ 5) aM) aM) (ax (cV (Uj (γ 2) (bg cJ (bg cJ (bg cJ bE (ϰ dQ T.str (ag (γ 6) aq))) bE) (ϰ dQ T.str (ag (γ 7) aq))))) (aJ (j7 (bg gm (ω bC (γ 3) (γ 6)) (γ 7)) (nO (γ 3) (γ 6) hW)))) (ax (cV (Uj (γ 2) (bg cJ (bg cJ (bg cJ bE (ϰ dQ T.str (ag (γ 6) aq))) bE) (ϰ dQ T.str (ag (bg fk (γ 7) aM) aq))))) (aJ (j7 (bg fk (γ 7) aM) (nO (γ 4) (γ 6) hW)))))))))) (aJ (bn (lN (ag (γ 2) (ag (γ 3) (ag (γ 4) aq)))))))))),?_⟩;walk_at "s";unfold Xk sU ϛ;refine b6 λN1 h1=>?_;walk_at "";refine⟨by decide,λp np=>h1 _ _ (b6 λN2 h2=>?_)⟩;have M:=δ.new (HO.lst []) np;have U:LS (upd H p (HO.lst [])) p []:=az;generalize upd H p (HO.lst [])=H1 at M U ⊢;have J:∀{H':Hp}{Q':VK},(∀p Za,H' p=none->δ H' Za->Za p=some (.lst ((Ϗ m).map V.int))->Q' (.ref p) Za)->[V.int 0].length<=sizeLine/\∀(p:Addr),H' p=none->Z3 (V.ref p) (V.int m) (upd H' p (.lst [V.int 0])) Q':=λ{H' Q'} q=>⟨by decide,λp np=>by
  have W:=δ.new (.lst [V.int 0]) np;refine⟨p,m,[V.int 0],rfl,rfl,az,by lia,by lia,bL (by simp;lia),λp2 Y=>?_⟩;rw[ug,<-DA];exact q p2 _ (W.free Y) (W.trans (δ.new _ Y)) az⟩
 walk_at "";refine J λf H2 na G e2=>h2 _ _ (b6 λN3 h3=>?_);walk_at "";refine J λo H3 nb B e3=>h3 _ _ (b6 λN4 h4=>?_);clear J h1 h2 h3;walk_at "";refine slI (δ.seq (M.trans (G.trans B)) ha) λc nc=>?_;have cl:=NV ns (some 2) none;generalize D2 ns (some 2) none=cs at cl nc ⊢;have s4:=δ.new (HO.lst (cs.map V.int)) nc;refine⟨c,cs,38,rfl,ν.of az,by lia,by decide,by decide,λl xs H5 nl s5 O xl=>⟨l,rfl,⟨_,ν.of O⟩,?_⟩⟩;have e:=s4.trans s5;have r:=e _ _ (B _ _ (G _ _ U));have R:=e _ _ (B _ _ e2);have X:=e _ _ e3;have ap:f≠p:=λz=>by rw[z,U]at na;cases na
 have bp:o≠p:=λz=>by rw[z,G _ _ U]at nb;cases nb
 have ba:o≠f:=λz=>by rw[z,e2]at nb;cases nb
 have fl:∀{q:Addr}{y:HO},H3 q=some y->l≠q:=λh z=>by rw[z,s4 _ _ h]at nl;cases nl
 have lp:=fl (B _ _ (G _ _ U));have bs:=fl (B _ _ e2);have bm:=fl e3;have pH:=np;have aH:H f=none:=M.free na;have bH:H o=none:=(M.trans G).free nb;have a5:=M.trans (G.trans (B.trans e));clear M G B s4 s5 e U e2 e3 na nb nc nl fl cl;have zl:((Ϗ m).length:Int)=m:=by rw[mD];lia
 have l0:Lm m 0 (Ϗ m,Ϗ m):=⟨zl,zl,λx hx=>by rw[(fW.mp hx).2];decide,by
  show(Ϗ m).sum<=_;rw[QF]
  decide,λy hy=>by rw[(fW.mp hy).2];decide⟩
 refine hZ (K:=K) (xs:=xs.map V.int) (λi σ d=>δ H d/\d l=some (.lst (xs.map V.int))/\E7 λ(Z b:hG)(S:List (List Int×List Int))(s:List Int×List Int)(v5 v6 v7:Option V)=>LS d p Z/\d f=some (.lst (s.1.map V.int))/\d o=some (.lst (s.2.map V.int))/\Ξ m rs [(Ϗ m,Ϗ m)] Z b (S++[s])/\S.length=i/\Z.length=i/\(∀y∈Z,Pl y/\y.length<=400)/\(b.map (·.length)).sum<=4*i/\Lm m i s/\σ=[some (V.ref a),some (V.int m),some (V.ref p),some (V.ref f),some (V.ref o),v5,v6,v7]) ⟨a5,O,[],[],[],(Ϗ m,Ϗ m),_,_,_,r,R,X,.nil,rfl,rfl,(λy hy=>by cases hy),by decide,l0,rfl⟩ (λi σ d _ z=>ν.of z.2.1) ?_ ?_
 .rintro i y σ d N BB Λ hN hi ⟨s6,O,Z,b,S,s,v5,v6,v7,r,R,X,w,Sl,Zl,zp,os,lm,rfl⟩;obtain⟨c,hc,rfl⟩:=List.θ hi;have il:=(aD.mp hc).1;refine Λ _ _ (b6 λM1 k1=>?_);walk_at "";have v0:=cC (c/2) (show m≠0 by lia);have W:=cM (c/2) (show 0<m by lia);obtain⟨v,ev⟩:=d5 v0;rw[ev]at W;refine⟨⟨by decide,by decide⟩,by lia,?_⟩;rw[ev];refine k1 _ _ (b6 λM2 k2=>?_);walk_at "";refine⟨⟨by decide,by decide⟩,by decide,k2 _ _ (b6 λM3 k3=>?_)⟩;have nx:∀n:Nat,n<10^58->M3 [some (V.ref a),some (V.int m),some (V.ref p),some (V.ref f),some (V.ref o),some (V.int c),some (V.int v),some (V.int n)] d:=λn ad=>by
   refine k3 _ _ ?_;have vb:v<10^60:=(by lia);have sz:=lm.sz (by lia);have lg:∀{j:Nat},j<10^60->((j:Nat):Int).natAbs.log2<1920:=λh=>(sR (z:=_) (n:=200) (by lia) (by decide)).log;have L:∀{j:Nat},j<10^58->∀i∈[v,j],i<10^60:=λh i hi=>by
    rcases aA.mp hi with rfl|hi
    .lia
    .rw[aG.mp hi];lia
   have fv:=Vr vb;have l1:(Str.ofString " ").length=1:=rfl;walk_at "";refine⟨by decide,?_⟩;have dw:=lm.l1;have ds:=lm.l2;have cv:(Str.ofString "done").length=4:=rfl;have ac:((b++[Str.ofString "done"]).map (·.length)).sum<=4*(i+1):=by
    rw[au,cU];show _+(4+0)<=_
    lia
   have af:∀{w:Str}{j:Nat},Xa w=true->j<10^58->∀y∈Z++[Ε w [v,j]],Pl y/\y.length<=400:=λ{w j} hw hj y hy=>by
    rcases aX.mp hy with hy|hy
    .exact zp y hy
    .rw[aG.mp hy];have:=rD (zY hw).1 (L hj);exact⟨Ct (zY hw).2 _,aV this (by show 61*(2+1)<=400;decide)⟩
   have dr:=pI "put ";have dx:=pI "want ";split
   .have fn:=Vr (show n<10^60 by lia);refine⟨Rw r,lg vb,_,rfl,_,rfl,bL (by rw[eR];lia),_,rfl,_,rfl,bL (by rw[dU,eR];lia),lg (by lia),_,rfl,_,rfl,bL (by rw[dU,dU,eR,eR];lia),?_⟩;rw[eR,eR,show Str.ofString "put "=Str.ofString "put" ++ Str.ofString " " by decide +kernel,BC];have C:=Lc (w:="put") (k:=2) (ns:=[v,n]) (sts:=S) (rs:=rs) rfl (L ad) (.put (s:=s) (m:=m) W);refine mM r (eg (by rw[aa];lia)) ?_;have ae:upd d p (.lst (Z.map V.str++[V.str (Ε (Str.ofString "put") [v,n])])) f=some (.lst (s.1.map V.int)):=(by rw[aW ap];exact R);refine Θ ae (ϩ (by lia) (by lia)) ⟨_,rfl,pJ ae (by lia) (by rw[aa];lia) (hN _ _ ⟨(s6.put pH _).put aH _,?_,Z++[Ε "put" [v,n]],b++[Str.ofString "done"],S++[s],_,_,_,_,?_,?_,?_,w.snoc (by lia) sz C rfl,by rw[ay,Sl];rfl,by rw[ay,Zl];rfl,af (by decide +kernel) ad,ac,?_,rfl⟩)⟩
    .rw[aW bs,aW lp];exact O
    .show upd _ _ _ _=_;rw[aW ap.symm,az,au]
     rfl
    .rw[az,<-dh,bM]
    .rw[aW ba,aW bp];exact X
    .refine⟨by rw[bz];exact lm.l1,lm.l2,DV lm.b1 ?_,?_,lm.b2⟩
     .have:=oN (P:=λx=>0<=x) lm.b1 (by decide) v
      lia
     .rw[JO (by lia)];have:=lm.su
      lia
   .have n7:n%7<7:=j8 _ (by decide);have fn:=Vr (show n%7<10^60 by lia);rw[show(n:Int)%7=((n%7:Nat):Int) by lia];refine⟨Rw r,lg vb,_,rfl,_,rfl,bL (by rw[eR];lia),_,rfl,_,rfl,bL (by rw[dU,eR];lia),by decide,lg (by lia),_,rfl,_,rfl,bL (by rw[dU,dU,eR,eR];lia),?_⟩;rw[eR,eR,show Str.ofString "want "=Str.ofString "want" ++ Str.ofString " " by decide +kernel,BC];have C:=Lc (w:="want") (k:=2) (ns:=[v,n%7]) (sts:=S) (rs:=rs) rfl (L (by lia)) (.want (s:=s) (m:=m) W);refine mM r (eg (by rw[aa];lia)) ?_;have a6:upd d p (.lst (Z.map V.str++[V.str (Ε (Str.ofString "want") [v,n%7])])) o=some (.lst (s.2.map V.int)):=(by rw[aW bp];exact X);refine⟨by decide,pJ a6 (by lia) (by rw[aa];lia) (hN _ _ ⟨(s6.put pH _).put bH _,?_,Z++[Ε "want" [v,n%7]],b++[Str.ofString "done"],S++[s],_,_,_,_,?_,?_,?_,w.snoc (by lia) sz C rfl,by rw[ay,Sl];rfl,by rw[ay,Zl];rfl,af (by decide +kernel) (by lia),ac,?_,rfl⟩)⟩
    .rw[aW bm,aW lp];exact O
    .show upd _ _ _ _=_;rw[aW bp.symm,az,au]
     rfl
    .rw[aW ba.symm,aW ap];exact R
    .rw[az,<-dh,bM]
    .exact⟨lm.l1,by rw[bz];exact lm.l2,lm.b1,by have:=lm.su;show s.1.sum<=_;lia,DV lm.b2 (by lia)⟩
  clear k1 k2;walk_at "";refine⟨⟨by decide,by decide⟩,by decide,?_⟩;split
  .have p58:(0:Int)<10^Int.toNat 58:=(by decide);have u0:=cC (c/1716) (o9 p58);have u1:=cM (c/1716) p58;obtain⟨u,eu⟩:=d5 u0;refine⟨⟨by decide,by decide⟩,⟨by decide,by decide,by decide⟩,p58,?_⟩;rw[eu]at u1 ⊢;rw[show(10:Int)^Int.toNat 58=10^58 from rfl]at u1;exact nx _ (by lia)
  .have u0:=cC (c/12) (show(13:Int)≠0 by decide);have u1:=cM (c/12) (show(0:Int)<13 by decide);obtain⟨u,eu⟩:=d5 u0;rw[eu]at u1 ⊢;exact nx _ (by lia)
 .rintro BB σ d Λ ⟨s6,O,Z,b,S,s,v5,v6,v7,r,R,X,w,Sl,Zl,zp,os,lm,rfl⟩;refine Λ _ _ (h4 _ _ ?_);rw[aa]at Sl Zl os lm;walk_at "";refine⟨bL (by simp),λt nt=>?_⟩;have s7:=δ.new (HO.tup [V.ref p,V.ref f,V.ref o]) nt;exact k t p f o Z b S s _ (s6.trans s7) az (s7 _ _ r) (s7 _ _ R) (s7 _ _ X) w (by lia) (by lia) zp (by lia) ⟨lm.l1,lm.l2,lm.b1,by have:=lm.su;lia,lm.b2⟩
def u8(T:Txt K I):Sp:=λd H Q _=>E4 λ(l:Addr)(m:Int)(c:hD)(a:hR)=>d=[.int m,.ref l]/\H l=some (.lst (c.map V.ref))/\ι H c a/\Good m a/\∀p b,H p=none->δ H b->LS b p (eJ m a)->Q (.ref p) b
abbrev rc:Stmt:=top 125
def Di:ζ ["many","roads","rows","road"] ["many","roads"] (aK rc):=.of
def CY(T:Txt K I)(hq:bQ (τ P w)):Ok P w K I base "_law_web_rows" rc ["many","roads"] 1 (u8 T):=λ_ _ D=>by
 refine D.F.ϊ Di λξ A G s H vs Q E hr h=>?_;obtain⟨l,m,ps,J,rfl,R,ro,g,k⟩:=h;have m1:=g.m1;have Β:=g.Β;have YZ:=g.len;have o:ps.length=J.length:=Paired.length ro;refine⟨_,(ax (Γ 2 (ee (ag (bg cJ bE (ϰ dQ T.str (ag (γ 0) aq))) aq))) (ax (fh PassesOwn.never rfl (gC (γ 1)) (ϑ 3) (aJ (cV (Uj (γ 2) (bg cJ bE (kX PySem.F.plainAttrs_str PySem.F.slot_str_join PySem.F.type_str_join rm bE (ag (iE rfl (mi (Nc:=["number"]) 1 (by decide +kernel) (by decide +kernel) rfl (by decide +kernel) rfl) (wL (γ 3)) (λ_ _ _ _=>(fF (i:=0) (show(["number"]:hG).Nodup from by decide +kernel) rfl (Or.inl rfl))) (λ_ _ _ _=>ik) (λ_ _ _ _=>(lM dQ (by rfl) T.str wz (ag (pv 0) aq)))) aq))))))) (aJ (bn (γ 2))))),?_⟩;walk_at "s";refine b6 λN2 h2=>?_;walk_at "";have Z:=sR (z:=m) (n:=5) (by lia) (by decide);have fl:=mJ Z;have X:=lV m.toNat;rw[bJ (show 0<=m by lia)]at X;refine⟨Z.log,_,rfl,_,rfl,bL (by rw[show(Str.ofString "web ").length=4 from rfl];show 4+(tI m).length<=_;lia),bL (by simp),λq M=>h2 _ _ (b6 λN3 h3=>?_)⟩;rw[show Str.ofString (toString m)=FS m.toNat from X,QS];have B:=δ.new (HO.lst [V.str (Ε Ui [m.toNat])]) M;have W:upd H q (HO.lst [V.str (Ε Ui [m.toNat])]) q=some (.lst ((Ε Ui [m.toNat]::([]:hR).map Bm).map V.str)):=az;generalize upd H q (HO.lst [V.str (Ε Ui [m.toNat])])=H3 at B W ⊢;walk_at "";refine⟨⟨_,ν.of (B _ _ R)⟩,?_⟩;refine hZ (K:=K) (xs:=ps.map V.ref) (λi b d=>δ H d/\d q=some (.lst ((Ε Ui [m.toNat]::(J.take i).map Bm).map V.str))/\∃C,b=[some (V.int m),some (V.ref l),some (V.ref q),C]) ⟨B,W,_,rfl⟩ (λi b d _ z=>ν.of (z.1 _ _ R)) ?_ ?_
 .rintro i x b d N BB Λ hN hi ⟨s4,e4,C,rfl⟩;obtain⟨U,r,rfl,ad,e,u⟩:=ro.get hi;have Le:i<J.length:=(aD.mp e).1;obtain⟨rv,L⟩:=KI (g.ok r (aQ e)) Β;have O:d U=some (.tup (qb r)):=s4 _ _ u;rw[rv]at O;refine Λ _ _ ?_;walk_at "";refine⟨Rw e4,by simp[Uo],⟨_,Δ.of O⟩,λS Y=>?_⟩;refine oQ (K:=K) (c:=false) (a:=U) (xs:=VD (mh r)) (λj f b t=>δ d t/\t S=some (.lst f)/\f=(((mh r).take j).map FS).map V.str/\∃v,b=[v]) ⟨δ.new _ Y,az,rfl,_,rfl⟩ (λj f b t _ ⟨z,_⟩=>Δ.of (z _ _ O)) ?_ ?_
  .rintro j y f b t N5 hN5 hj ⟨s5,h5,rfl,v,rfl⟩;obtain⟨n,p,rfl⟩:=List.θ hj;have jl:j<4:=(aD.mp p).1;walk_at "";refine⟨JJ (L n (aQ p)) (by decide) (by decide),h5,eg (by simp only[aa,bA];lia),hN5 _ _ _ ⟨s5.put Y _,az,?_,_,rfl⟩⟩;rw[bj,p,au,au,eR]
   rfl
  .rintro f b t ⟨s5,h5,rfl,v,rfl⟩;have ll:(VD (mh r)).length=4:=rfl;rw[ll,show(mh r).take 4=mh r from rfl]at h5;have wl:=Qn (k:=59) L;rw[show(mh r).length=4 from rfl]at wl;have sm:=RB (ns:=mh r) (λn p=>be (L n p) (by decide)) (cT rfl);refine⟨_,S,_,rfl,rfl,ν.of h5,sm,_,rfl,_,rfl,?_,?_⟩
   .exact bL (by rw[show(Str.ofString "road ").length=5 from rfl];show 5+(wds (mh r)).length<=_;lia)
   .rw[show Str.ofString "road " ++ Str.join (Str.ofString " ") ((mh r).map FS)=Bm r from NG];refine mM (s5 _ _ e4) (eg (by rw[aa,aR,aa,bA];lia)) (hN _ _ ⟨(s4.trans s5).put M _,?_,_,rfl⟩);rw[az,bj,e,au,<-List.cons_append,au]
    rfl
 .rintro BB b d Λ ⟨s4,e4,C,rfl⟩;refine Λ _ _ (h3 _ _ ?_);rw[aa,o,bx]at e4;walk_at "";exact k q d M s4 e4
def K5(K:gy):Sp:=λc H Q _=>∃(a:Addr)(b:ej),c=[.ref a]/\ν K H a (b.map V.int)/\b.length<=63/\∀d,Q (.bl true) d
def Rv(T:Txt K I):Sp:=K5 K
abbrev FI:Stmt:=top 135
def Ry:ζ ["script","many","roads","lead","rows","held","wish","told","last","place"] ["script"] (aK FI):=.of
def HQ:ϓ (aK FI) "range":=.of
def Sg(T:Txt K I)(e:bQ (τ P w)){f:Addr}{fd:FuncData}(D:Df K I "law" FI ["script"] f fd)(fJ:rG P w base T)(tJ:Cb P w K I base "_law_brings" uk ["lead","roads","rows","held","r"] 67 (yd T))(vI:Cb P w K I base "_law_fails" pR ["lead","rows","wish","r","wanted"] 67 (yH T))(xS:Cb P w K I base "_law_last" xh ["script"] 1 (AF T))(vT:Cb P w K I base "_law_meets" p6 ["lead","roads","rows","held","wish"] 67 (yq T))(eU:qa P w base T)(vW:Cb P w K I base "_law_roads" rH ["script"] 2 (zD T))(xF:Cb P w K I base "_law_rows" xN ["script","many"] 2 (AW T))(qW:Cb P w K I base "_law_web_rows" rc ["many","roads"] 1 (u8 T)):ύ P w K I base (τ P w) 68 f fd ["script"] (Rv T):=by
 refine D.F.ϊ Ry λξ A ar s H vs Q E c h=>?_;obtain⟨a,ns,rfl,ha,hn,k⟩:=h;have hv:=c.units;refine⟨_,(ax (j7 (Ν vW c e (ag (γ 0) aq)) (jK (n:=2) rfl (ci (ϑ 1) (ci (ϑ 2) g6)))) (ax (Γ 3 (Ν qW c e (ag (γ 1) (ag (γ 2) aq)))) (ax (j7 (Ν xF c e (ag (γ 0) (ag (γ 1) aq))) (jK (n:=3) rfl (ci (ϑ 4) (ci (ϑ 5) (ci (ϑ 6) g6))))) (ax (Γ 7 (Ν fJ c e (ag (γ 3) (ag (γ 4) (ag (ee (ag bE (ag bE aq))) aq))))) (ax (cg (PW.pt (uM (Υ (Hy hv) (Ν eU c e (ag (ω bC (γ 7) aM) aq)) (γ 5)) (wm (Υ (Hy hv) (Ν eU c e (ag (ω bC (γ 7) aM) aq)) (γ 6))))) (aJ (bn qI)) bR) (ax (cg (nF (mW (Ν vT c e (ag (γ 3) (ag (γ 2) (ag (γ 4) (ag (γ 5) (ag (γ 6) aq)))))))) (aJ (bn qI)) bR) (ax (Γ 8 (Ν xS c e (ag (γ 0) aq))) (ax (fh PassesOwn.never rfl (jk HQ.g T.range (ag (γ 1) aq)) (ϑ 9) (aJ (cg (nF (mW (Ν tJ c e (ag (γ 3) (ag (γ 2) (ag (γ 4) (ag (γ 5) (ag (ϰ dQ T.str (ag (γ 9) aq)) aq)))))))) (aJ (bn qI)) bR))) (aJ (bn (Ν vI c e (ag (γ 3) (ag (γ 4) (ag (γ 6) (ag (ϰ dQ T.str (ag (bg fk (γ 8) (γ 1)) aq)) (ag (ϰ dQ T.str (ag (bg gm aM (bg fk (bg iB (γ 8) aM) aM)) aq)) aq)))))))))))))))),?_⟩;walk_at "s";refine b6 λN1 h1=>?_;walk_at "";refine⟨a,ns,rfl,ha,λt l m ps u H1 nt nl s1 et M U g m5=>?_⟩;have m1:=g.m1;have Β:=g.Β;refine⟨t,rfl,_,Δ.of et,rfl,_,_,rfl,_,_,rfl,rfl,h1 _ _ (b6 λN2 h2=>?_)⟩;clear h1;walk_at "";refine⟨l,m,ps,u,rfl,M,U,g,λld H2 _ Y e2=>h2 _ _ (b6 λN3 h3=>?_)⟩;clear h2;walk_at "";refine⟨a,ns,m,u,rfl,δ.seq (s1.trans Y) ha,hn,g,m5,λt' p la lb Z d S s H3 X Ud C O L an Sl Zl pl so r=>?_⟩;refine⟨t',rfl,_,Δ.of Ud,rfl,_,_,rfl,_,_,rfl,_,_,rfl,rfl,h3 _ _ (b6 λN4 h4=>?_)⟩;clear h3;have W:Wkd m u Z d S s:=⟨g,m5,pl,Zl,an,Sl,so,r⟩;walk_at "";have xl:=r.l1;have yl:=r.l2;have xb:∀x∈s.1,-(10^60)<x/\x<10^60:=λx hx=>by
  have:=zM r.b1 hx;have:=r.b1 x hx;have:=r.su
  constructor<;>lia
 have yb:∀x∈s.2,-(10^60)<x/\x<10^60:=λx hx=>by
  have:=r.b2 x hx
  constructor<;>lia
 have Zw:Ξ m u (S++[s]) [Ε "laying" [],Ε "wish" []] [ϯ s.1,ϯ s.2] (S++[s]):=vg (k:=0) (o:=.inl _) (by lia) r (by decide) rfl (λ_ h=>by cases h) (.inl ⟨.laying (by lia) λz R=>kq (xb z R),by intro z;cases z⟩) (vg (k:=0) (o:=.inl _) (by lia) r (by decide) rfl (λ_ h=>by cases h) (.inl ⟨.wish (by lia) λz R=>kq (yb z R),by intro z;cases z⟩) .nil);have t1:=mS λz R=>kq (xb z R);have t2:=mS λz R=>kq (yb z R);refine⟨bL (by simp),λq nq=>?_⟩;have s4:=δ.new (HO.lst [V.str (Str.ofString "laying"),V.str (Str.ofString "wish")]) nq;have J:=X _ _ e2;refine⟨ld,p,q,m,u,Z,_,d,_,_,_,rfl,s4 _ _ J,s4 _ _ C,?_,g,u6 pl (mE (kN (by decide +kernel) (λ_ h=>by cases h)) (mE (kN (by decide +kernel) (λ_ h=>by cases h)) z9)),Zl,cT rfl,by simp,an,Zw,?_,λq2 H5 s5 e5=>h4 _ _ (b6 λN5 h5=>?_)⟩
 .rw[BD,BD];exact az
 .rw[au,cU];show _+((ϯ s.1).length+((ϯ s.2).length+0))<=_
  lia
 clear h4;have B:=s4.trans s5;have ab:=(s1.trans Y).trans (X.trans B);have b:=B _ _ J;have C:=B _ _ C;have O:=B _ _ O;have L:=B _ _ L;have M:=(Y.trans (X.trans B)) _ _ M;have U:=ι.same (Y.trans (X.trans B)) U;clear s1 Y X s4 s5 B e2 J nq et Ud nt nl;walk_at "";refine Θ e5 rfl ⟨s.1,rfl,xb,by lia,λq3 H6 _ s6 e6=>BX e6 (s6 _ _ O) ⟨false,rfl,gT (by decide) (Θ (s6 _ _ e5) rfl ⟨s.2,rfl,yb,by lia,λq4 H7 _ s7 e7=>BX e7 (s7 _ _ (s6 _ _ L)) ⟨false,rfl,gT (by decide) (h5 _ _ (b6 λN6 h6=>?_))⟩⟩)⟩⟩;clear h5;have G:=s6.trans s7;have ap:=ab.trans G;have b:=G _ _ b;have C:=G _ _ C;have O:=G _ _ O;have L:=G _ _ L;have M:=G _ _ M;have U:=ι.same G U;clear ab s6 s7 G e5 e6 e7 Zw;walk_at "";refine⟨ld,l,p,la,lb,ps,m,u,Z,d,S,s,rfl,b,M,U,C,O,L,W,λH8 s8=>⟨true,rfl,gT (by decide) (h6 _ _ (b6 λN7 h7=>?_))⟩⟩;clear h6;walk_at "";refine⟨a,ns,rfl,δ.seq (ap.trans s8) ha,λy=>h7 _ _ (b6 λN8 h8=>?_)⟩;clear h7;walk_at "";have lg:∀{j:Nat},j<10^60->((j:Nat):Int).natAbs.log2<1920:=λh=>(sR (z:=_) (n:=200) (by lia) (by decide)).log;refine⟨by lia,by lia,?_⟩;refine sI (λi σ H9=>δ H7 H9/\∃v,σ=[some (V.ref a),some (V.int m),some (V.ref l),some (V.ref ld),some (V.ref p),some (V.ref la),some (V.ref lb),some (V.ref q2),some (V.int y),v]) ⟨s8,_,rfl⟩ ?_ ?_
 .rintro i σ H9 N BB Λ hN hi ⟨s9,v,rfl⟩;refine Λ _ _ ?_;walk_at "";rw[ce];refine⟨lg (by lia),?_⟩;rw[eR];exact⟨ld,l,p,la,ps,m,u,Z,d,S,s,i,rfl,s9 _ _ b,s9 _ _ M,ι.same s9 U,s9 _ _ C,s9 _ _ O,W,by lia,λad X7=>⟨true,rfl,gT (by decide) (hN _ _ ⟨s9.trans X7,_,rfl⟩)⟩⟩
 .rintro BB σ H9 Λ ⟨s9,v,rfl⟩;refine Λ _ _ (h8 _ _ ?_);walk_at "";have v0:=cC y (show m≠0 by lia);have v1:=cM y (show 0<m by lia);have w0:=cC (y/24) (show(9:Int)≠0 by decide);have w1:=cM (y/24) (show(0:Int)<9 by decide);obtain⟨v,ev⟩:=d5 v0;obtain⟨w,ew⟩:=d5 (show 0<=1+y/24%9 by lia);rw[ev]at v1 ⊢;rw[ew];refine⟨by lia,lg (by lia),⟨by decide,by decide⟩,by decide,lg (by lia),?_⟩;rw[eR,eR];exact⟨ld,p,lb,m,u,Z,d,S,s,v,w,rfl,s9 _ _ b,s9 _ _ C,s9 _ _ L,W,v1,by lia,by lia,λad _=>k ad⟩
end
def walk{l:PySem.W.OpenLaw}{q:Program}{c:hG}{XP:(Str->Option Value)->Heap->Prop}{i:World->Heap->Prop}{d:DefRec}{K:Params->PySem.W.Frag}(p:l.most=some 63)(y:d.params.defaults=[])(o:∀(w:World) (h:Heap),i w h->(K w.params).In h)(F:∀(w:World) (e:hF) (g:Addr) (h:Heap),(K w.params).In h->h.Ns mainGlobals e->e d.name=some (.ref g)->∃j:FuncData,(∀(s:Shared) (u:Value),BindsTo s j ⟨[u],[]⟩ [("script",u)])/\∀b:Heap,(K w.params).In b->b.Ns mainGlobals e->ύ l.prog w (K w.params) e b (τ l.prog w) 68 g j ["script"] (K5 (K w.params))):PySem.W.WalkO q c XP i l.row.toRowW d [] (λf t=>PySem.call f t):=L2.Xn (n:=63) (k:=68) (x:="script") (CX:=λw=>τ l.prog w) (sp:=λw=>K5 (K w.params)) p (by decide) y ⟨rfl,by decide,by decide⟩ o F (λ_ _ a v m _ r=>⟨a,v,rfl,r,m,λ_=>rfl⟩) λ_ _ _ _ _ z=>bK _ _ _ _ _ z
end Pk
open L2
open PySem PySem.W PyProof.Rows
set_option maxRecDepth 100000 in
set_option maxHeartbeats 0 in
theorem PySem.Challenge.cw_pebbletoll_k66_whole_answers_walked_holds : PySem.Challenge.rw_pebbletoll_k66_whole_answers_walked.Holds := by
 w_on;refine PySem.W.holds_law Hd.ws λakV=>?_
 refine PySem.W.holds_open (q:=Hd.qq) (loose:=["NUMBERS_BEHIND"]) (Xt:=(λs=>PySem.W.xlAt Hd.qq [] s&&PySem.W.recOk (PySem.W.RowW.records (PySem.W.OpenRow.toRowW (PySem.Challenge.rw_pebbletoll_k66_whole_answers_walked).row)) s)) (XP:=PySem.W.XL Hd.qq []) (Yf:=PySem.W.Hook.obs (PySem.W.kHook Hd.KK Hd.V5 Hd.Ϝ)) (Ya:=PySem.W.Hook.val (PySem.W.kHook Hd.KK Hd.V5 Hd.Ϝ)) (YP:=PySem.W.Hook.says (PySem.W.kHook Hd.KK Hd.V5 Hd.Ϝ)) (N:=13812) Hd.left (PySem.W.Hook.of (PySem.W.kHook Hd.KK Hd.V5 Hd.Ϝ)) (PySem.W.Hook.keeps (PySem.W.kHook Hd.KK Hd.V5 Hd.Ϝ)) (λs e=>PySem.W.xl_of s (ou.mp e).1) PySem.W.XL.keeps (by rfl) (by rfl) (by rfl) (λs e=>PySem.W.recFacts_of (ou.mp e).2) (by rfl) (by assumption) (by decide +kernel) ⟨rfl,rfl,rfl,rfl,rfl,by decide +kernel⟩ ?hw ?hc
 (case hw=>w_witness2)
 k_fill
 refine Pk.walk (l:=PySem.Challenge.rw_pebbletoll_k66_whole_answers_walked) rfl rfl (λw h Y=>PySem.W.kIn_of Y) λw mg fa h X G Z7=>?_
 let T:Pk.Txt (Hd.KK w.params) mg:=by
  constructor
  all_goals first|exact kz X G (by k_is)|exact PySem.W.mg_none_of X G (by k_is)|exact⟨_,kz X G (by k_is)⟩|k_is|exact Pb.afg (by k_is)|exact⟨by k_is,by k_is,by k_is,by k_is⟩|exact⟨by k_is,by k_is,by k_is⟩|decide|exact Ro (by k_is) (by k_is) (by k_is) (by k_is) (by k_is) (by k_is) (by k_is) (by k_is) (by rfl)|exact QB (by k_is) (by k_is) (by k_is) (by k_is) (by k_is) (by k_is) (by k_is) (by k_is) (by rfl)|exact QA _ _ _ _ _ _ _ _ _ _ _ _ _ _ _ _ (by k_is) (by rfl) (by kernel_rfl) (by k_is) (by kernel_rfl)|exact ach (by k_is) (by rfl) (by k_is) (by k_is) (by k_is)|exact⟨_,_,_,by k_is,rfl,rfl,by show 4<=sizeLine;decide,.cons ⟨_,rfl⟩ (.cons ⟨_,rfl⟩ (.cons ⟨_,rfl⟩ (.cons ⟨_,rfl⟩ (.nil))))⟩
 refine Pb.lw (st:=Pk.FI) X G Z7 λbase _ _ D=>?_;have C:=@Pb.cd PySem.Challenge.rw_pebbletoll_k66_whole_answers_walked.prog w _ _ _ base X G;have M:=@Pb.cm PySem.Challenge.rw_pebbletoll_k66_whole_answers_walked.prog w (Hd.KK w.params) mg base;have Io:=Pb.dkN (w:=w) (K:=(Hd.KK w.params)) "NUMBERS_BEHIND" Hd.Ϥ (by decide +kernel);have mY:=Pb.df (x:="load_by") (st:=Pk.lU) (ps:=["outlook","place","kid","room"]) X G;have eN:=Pb.df (x:="greatest_load") (st:=Pk.dA) (ps:=["outlook","place","over"]) X G;have re:=C (Pk.CF T bK);have nC:=C (Pk.Ip T bK);have tU:=C (Pk.Fh T bK nC);have mK:=C (Pk.Fw T bK);have q9:=C (Pk.CP T bK mK);have si:=C (Pk.DH T bK);have gP:=M "Web" (R:=Mk) (Pk.Dj T bK re tU q9 si);have vx:=C (Pk.FV T bK);have lQ:=M "Desk" (R:=Mk) (Pk.BU T bK gP);have pM:=M "Desk" (R:=(Meth · · "back")) (Pk.GL T bK);have i4:=M "Desk" (R:=(Meth · · "keep")) (Pk.FY T bK);have cq:=M "Desk" (R:=(Meth · · "laying")) (Pk.DI T bK);have cW:=M "Desk" (R:=(Meth · · "wish")) (Pk.HN T bK);have dF:=C (Pk.DE T bK nC);have nV:=C (Pk.GO T bK);have iY:=C (Pk.GX T bK nV);have Kk:=C (Pk.Su T bK dF iY);have HW:=C (Pk.Ri T bK Kk);have qL:=M "Desk" (R:=(Meth · · "put")) (Pk.IP T bK i4 cq cW HW);have pY:=M "Desk" (R:=(Meth · · "step")) (Pk.GF T bK);have ji:=C (Pk.Kd T bK nV);have p7:=M "Desk" (R:=(Meth · · "want")) (Pk.GC T bK i4 cq cW dF ji);have zB:=C (Pk.Kt T bK pM qL pY p7);have vY:=C (Pk.Gs T bK);have lJ:=C (Pk.DJ T bK vY);have mG:=C (Pk.Fp T bK lJ);have uz:=C (Pk.Fy T bK dF mK);have nM:=C (Pk.Qc T bK uz);have pb:=C (Pk.OP T bK dF nM);have kF:=C (Pk.PB T bK);have eZ:=C (Pk.HU T bK kF);have dY:=C (Pk.QH T bK dF);have iG:=C (Pk.Pu T bK);have gl:=Pk.BO (P:=PySem.Challenge.rw_pebbletoll_k66_whole_answers_walked.prog) (w:=w) (base:=base) T bK eN mY kF eZ dY iG;have vK:=C (Pk.Hk T bK eN gl eZ dY);have GU:=C (Pk.Rf T bK pb nM);have dv:=C (Pk.L8 T bK pb GU);have DR:=C (Pk.Nw T bK dv dY ji);have jN:=M "Outlook" (R:=Mk) (Pk.yk T bK pb vK dv nM DR);have zj:=C (Pk.K4 T bK jN eN gl);have qk:=C (Pk.Ki T bK iG ji);have tq:=C (Pk.Ps T bK zj qk);have Bb:=C (Pk.Mn T bK tq qk iG);have pD:=C (Pk.Iv T bK dv iY dY);have Dl:=C (Pk.OY T bK pD dv dY);have nQ:=C (Pk.Gg T bK dY);have jF:=C (Pk.Gp T bK nQ dv iY ji);have iJ:=C (Pk.IL T bK jF);have Bs:=C (Pk.L6 T bK iJ);have xV:=C (Pk.Ir T bK iJ);have wX:=C (Pk.IX T bK nQ dv jF);have vM:=C (Pk.Hv T bK dv jF);have yx:=C (Pk.Kl T bK Bs xV wX vM);have dR:=C (Pk.DP T bK);have dC:=C (Pk.C0 T bK dR);have mP:=C (Pk.FB T bK dC);have rf:=C (Pk.Cf T bK dC mP);have GN:=C (Pk.Qt T bK pD);have qP:=C (Pk.Bn T bK dR);have kH:=C (Pk.Dh T bK dF);have xt:=C (Pk.IV T bK kH dv dY);have sZ:=C (Pk.OC T bK dY);have jV:=C (Pk.Bq T bK sZ dv);have A4:=C (Pk.Mu T bK xt jV);have yp:=C (Pk.Kv T bK);have xm:=C (Pk.Ik T bK sZ);have yt:=C (Pk.KH T bK dv xm jV);have DT:=C (Pk.Op T bK yt kH dv dY);have ut:=C (Pk.Ft T bK);have sj:=C (Pk.D4 T bK A4 yp dR dC DT ut);have rn:=C (Pk.Ch T bK cq cW Bb Dl tq yx rf GN dR dC iJ qP mP sj);have vB:=C (Pk.GP T bK zB mG rn Io);have nP:=M "Desk" (R:=(Meth · · "answer")) (Pk.DD T bK vB);have vN:=C (Pk.Gh T bK);have nB:=C (Pk.IE T bK mG);have xM:=C (Pk.IU T bK gP vN nB);have KS:=C (Pk.RT T bK lQ nP xM);have fJ:=C (Pk.F2 T bK KS);have eU:=C (Pk.Du T bK);have vJ:=C (Pk.Gr T bK);have mL:=C (Pk.FD T bK eU vJ);have tJ:=C (Pk.Fi T bK fJ mL);have sG:=C (Pk.IB T bK);have vI:=C (Pk.GM T bK fJ sG eU);have xS:=C (Pk.I0 T bK);have vT:=C (Pk.F9 T bK fJ eU mL);have qO:=C (Pk.IH T bK);have uL:=C (Pk.Li T bK);have vW:=C (Pk.FQ T bK qO uL vx);have tH:=C (Pk.Fk T bK);have xF:=C (Pk.Iz T bK tH);have qW:=C (Pk.CY T bK);exact Pk.Sg T bK D fJ tJ vI xS vT eU vW xF qW
#print axioms PySem.Challenge.cw_pebbletoll_k66_whole_answers_walked_holds