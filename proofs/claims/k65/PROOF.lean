import PyProof.Rows.All
import Wide.All
import OpenK.AllK
import Wide.FinOn
import Lean
import PyProof.EqAt
import PyProof.EqKinds
import PyProof.TupleCall
import PyProof.P3Eq
import PyProof.NeData
import PyProof.FitsBits
import PyProof.ZipIter
import PyProof.TupleIter
import KE.KRevIter
import PyProof.TupleOfGen
import PyProof.ListRange
import KE.KIsAll
import PyProof.ExcArgsOwn
import OpenK.KDescr
import PyProof.StationsW
import PyProof.ExcBaseAll.ValueError
import OpenK.KOwn
import PyProof.RulesAs
import PyProof.RulesDel
import PyProof.Rows.SortWalk
import PyProof.CompUse
import KE.KDictSum
import PyProof.WalkInts
import KE.KSortTup
import PyProof.Rows.TupDisplay
import KE.KIntText
import PyProof.JoinWalk
import PyProof.ExcInit
import PyProof.ExcClass2
import KE.KRevSl
import KE.KSetAt
import PyProof.DictUpdate
import KE.KTryMore
import PySem.Challenge.RW_pebbletoll_k65_whole_texts_run
set_option Elab.async false
set_option linter.all false
set_option maxRecDepth 100000
def ji:=@Array.all_eq_true_iff_forall_mem
def dY:=@Array.getElem?_eq_some_iff
def iq:=@Array.getElem?_toList
def gG:=@Array.length_toList
def nY:=@Array.mem_toList_iff
def mS:=@Bool.and_eq_false_iff
def bw:=@Bool.and_eq_true
def nR:=@Bool.and_eq_true_iff
def gO:=@Bool.eq_iff_iff
def gw:=@Bool.false_and
def cR:=@Bool.false_eq_true
def bi:=@Bool.false_ne_true
def nL:=@Bool.false_or
def gV:=@Bool.not_eq_true'
def nF:=@Bool.or_false
def jG:=@Bool.or_true
def je:=@Bool.true_and
def kj:=@PySem.Calls.Name_function_global
def jf:=@PySem.Calls.callWith_builtin
def gg:=@PySem.Calls.evalArgs_plain
def dZ:=@PySem.Calls.spliced_cons
def fm:=@PySem.Calls.spliced_nil
def km:=@PySem.F.args_str_split_2
def jS:=@PySem.F.args_tuple_iterator_next_1
def kK:=@PySem.F.entry_str_split
def j8:=@PySem.F.entry_tuple_iterator_next
def lY:=@PySem.F.slot_str_join
def lK:=@PySem.F.slot_str_split
def gd:=@PySem.F.slot_tuple_iterator_next
def jJ:=@PySem.F.slot_zip_next
def gf:=@PySem.Heap.get?_none_of_le
def au:=@PySem.Heap.get?_push_of_some
def bg:=@PySem.Heap.get?_push_size
def cu:=@PySem.Heap.get?_update_other
def dC:=@PySem.Heap.get?_update_self
def aI:=@PySem.Heap.lt_size
def de:=@PySem.Heap.size_push
def iU:=@Int.add_mul
def cg:=@Int.emod_lt_of_pos
def b6:=@Int.emod_nonneg
def dH:=@Int.eq_ofNat_of_zero_le
def kh:=@Int.fdiv_eq_ediv_of_nonneg
def iA:=@Int.le_of_lt
def dU:=@Int.le_refl
def iz:=@Int.le_trans
def kz:=@Int.mul_assoc
def cB:=@Int.mul_le_mul_of_nonneg_left
def cQ:=@Int.mul_le_mul_of_nonneg_right
def mK:=@Int.mul_nonneg
def lh:=@Int.ne_of_gt
def lV:=@Int.pow_add
def dW:=@Int.pow_pos
def eE:=@Int.toNat_natCast
def bJ:=@Int.toNat_of_nonneg
def jB:=@Int.zero_add
def mC:=@List.Perm.append_left
def nM:=@List.all_cons
def cw:=@List.all_eq_true
def hG:=@List.any_cons
def b4:=@List.append_assoc
def bR:=@List.append_nil
def fS:=@List.concat_eq_append
def ck:=@List.cons.inj
def d9:=@List.contains_cons
def nu:=@List.dropLast_concat
def gj:=@List.drop_eq_getElem_cons
def eM:=@List.drop_length
def me:=@List.drop_of_length_le
def nP:=@List.drop_succ_cons
def iR:=@List.drop_zero
def ju:=@List.eq_nil_iff_forall_not_mem
def fV:=@List.eq_nil_or_concat
def gU:=@List.ext_getElem?
def iE:=@List.filterMap_cons
def cC:=@List.filter_append
def fH:=@List.filter_cons_of_neg
def eJ:=@List.filter_cons_of_pos
def iB:=@List.filter_nil
def eZ:=@List.find?_cons
def jv:=@List.findSome?_append
def j6:=@List.findSome?_cons
def nS:=@List.flatMap_append
def dJ:=@List.flatMap_cons
def fW:=@List.flatten_cons
def jb:=@List.foldl_append
def jH:=@List.foldl_cons
def mq:=@List.forIn_cons
def jY:=@List.getD_cons_succ
def bD:=@List.getD_eq_getElem?_getD
def cD:=@List.getElem?_append_left
def cA:=@List.getElem?_append_right
def gD:=@List.getElem?_cons_succ
def aB:=@List.getElem?_eq_getElem
def ce:=@List.getElem?_eq_none
def ay:=@List.getElem?_eq_some_iff
def aQ:=@List.getElem?_map
def cq:=@List.getElem?_of_mem
def nO:=@List.getElem?_range
def i6:=@List.getElem?_replicate
def ee:=@List.getElem?_reverse
def cV:=@List.getElem?_set_ne
def cN:=@List.getElem?_set_self
def jZ:=@List.getElem?_take
def iK:=@List.getElem?_take_of_lt
def ki:=@List.getElem?_zip_eq_some
def lN:=@List.getElem_cons_drop
def i7:=@List.getElem_map
def fk:=@List.getElem_mem
def mZ:=@List.getElem_of_mem
def ap:=@List.length_append
def aJ:=@List.length_cons
def bZ:=@List.length_drop
def lA:=@List.length_eq_zero_iff
def bN:=@List.length_filter_le
def ag:=@List.length_map
def dD:=@List.length_nil
def ik:=@List.length_pos_iff
def ku:=@List.length_range
def dy:=@List.length_replicate
def bA:=@List.length_reverse
def b7:=@List.length_set
def bM:=@List.length_singleton
def aZ:=@List.length_take
def cz:=@List.lookup_cons
def aE:=@List.map_append
def dG:=@List.map_congr_left
def bh:=@List.map_cons
def mQ:=@List.map_drop
def mY:=@List.map_eq_nil_iff
def dN:=@List.map_map
def cZ:=@List.map_nil
def gR:=@List.map_reverse
def cY:=@List.map_set
def aK:=@List.mem_append
def bH:=@List.mem_append_left
def aX:=@List.mem_append_right
def aG:=@List.mem_cons
def aL:=@List.mem_cons_of_mem
def aP:=@List.mem_cons_self
def mE:=@List.mem_erase_of_ne
def ci:=@List.mem_filter
def j5:=@List.mem_filterMap
def gQ:=@List.mem_flatMap
def aW:=@List.mem_map
def dL:=@List.mem_nil_iff
def aO:=@List.mem_of_getElem?
def cJ:=@List.mem_of_mem_drop
def dB:=@List.mem_of_mem_take
def eT:=@List.mem_or_eq_of_mem_set
def eD:=@List.mem_range
def iC:=@List.mem_replicate
def gS:=@List.mem_reverse
def ax:=@List.mem_singleton
def jk:=@List.nil_append
def fP:=@List.nodup_append
def bI:=@List.nodup_cons
def bX:=@List.not_mem_nil
def lH:=@List.of_mem_zip
def eU:=@List.pairwise_iff_getElem
def j9:=@List.perm_append_singleton
def dg:=@List.replicate_succ
def nh:=@List.reverse_append
def be:=@List.size_toArray
def dE:=@List.sum_cons
def fL:=@List.take_append_drop
def bQ:=@List.take_length
def cj:=@List.take_of_length_le
def bq:=@List.take_succ
def eB:=@List.take_zero
def i9:=@Nat.le_add_right
def eO:=@Nat.le_of_ble_eq_true
def kF:=@Nat.le_of_eq
def ic:=@Nat.le_of_lt
def aN:=@Nat.le_refl
def ft:=@Nat.le_succ
def aR:=@Nat.le_trans
def oB:=@Nat.log2_lt
def dh:=@Nat.lt_irrefl
def iH:=@Nat.lt_of_le_of_lt
def bc:=@Nat.lt_of_lt_of_le
def eV:=@Nat.lt_succ_of_lt
def eF:=@Nat.lt_succ_self
def lU:=@Nat.mod_lt
def j0:=@Nat.mul_assoc
def eX:=@Nat.ne_of_gt
def aU:=@Nat.ne_of_lt
def jF:=@Nat.pow_le_pow_right
def fJ:=@Nat.pow_succ
def eW:=@Nat.sub_self
def gA:=@Nat.sub_zero
def nG:=@Nat.succ.inj
def bT:=@Nat.zero_le
def dA:=@PySem.Obj.data_mapFields
def eP:=@PySem.Obj.isFreed_of_fields
def kM:=@Option.bind_some
def gm:=@Option.isSome_iff_exists
def ko:=@Option.isSome_map
def bS:=@Option.map_eq_some_iff
def bC:=@Option.some.inj
def cF:=@PyProof.Rows.callWith_type1
def lQ:=@PyProof.Rows.split_pos
def ig:=@PySem.F.excBase_ValueError
def kJ:=@PySem.F.slot_list_insert
def ja:=@PySem.W.any_some
def iG:=@PySem.W.callWith_K
def lO:=@PySem.W.cellsFrom_some
def da:=@PySem.W.kia_one
def jQ:=@PySem.W.looks_clsIn
def mD:=@PySem.W.looks_findIn
def jO:=@PySem.W.looks_mroIn
def jg:=@PySem.W.methodCall_KW
def jW:=@PySem.W.mg_of
def jP:=@PySem.W.plainGet_of
def j7:=@PySem.W.tail_of_in
def dF:=@PySem.mem_of_lookup
def i5:=@PySem.Str.ofString_eq_toList
def iV:=@beq_iff_eq
def jA:=@PySem.codeAny_call_builtin
def gC:=@PySem.codeAny_compStart_list
def hW:=@PySem.codeAny_mono
def bP:=@decide_eq_false
def eg:=@decide_eq_false_iff_not
def bB:=@decide_eq_true
def b8:=@decide_eq_true_eq
def iI:=@decide_eq_true_iff
def ah:=@if_neg
def ao:=@if_pos
def bn:=@of_decide_eq_true
def fF:=@PySem.wpAny_Call_Name_kw
def kq:=@PySem.wpAny_Call_ofName
def aj:=@PySem.wpAny_bind
def my:=@PySem.wpAny_bindName
def gX:=@PySem.wpAny_call
def jc:=@PySem.wpAny_call_entry
def gi:=@PySem.wpAny_comprehension_free
def kL:=@PySem.wpAny_execs_cons
def gn:=@PySem.wpAny_execs_nil
def b9:=@PySem.wpAny_field
def gB:=@PySem.wpAny_getItem_str_slice
def fY:=@PySem.wpAny_holding
def gq:=@PySem.wpAny_ite_split
def lG:=@PySem.wpAny_letGo
def fN:=@PySem.wpAny_loadPart_at
def bu:=@PySem.wpAny_mono
def gZ:=@PySem.wpAny_newFunctionEnv
def db:=@PySem.wpAny_newObj_type
def jX:=@PySem.wpAny_onRaise
def fC:=@PySem.wpAny_passesOwn
def aM:=@PySem.wpAny_pure
def iP:=@PySem.wpAny_pyIter_list
def g9:=@PySem.wpAny_pyIter_revIter
def j4:=@PySem.wpAny_pyIter_tuple
def lS:=@PySem.wpAny_rule
def fe:=@PySem.wpAny_seqItems
def fM:=@PySem.wpAny_setField
def fG:=@PySem.wpAny_setField_rec
def lJ:=@PySem.wpAny_specialOf
def cH:=@PySem.wpAny_standAt
def dc:=@PySem.wpAny_truthy_bool
def jw:=@PySem.wpAny_updateSeq_pair
namespace Hd
open PySem
def top(i:Nat):Stmt:=PySem.Challenge.pw_pebbletoll_k65_whole_texts_run.main.body.getD i (.Pass ⟨0,0,0,0⟩)
def inC(s:Stmt)(j:Nat):Stmt:=match s with
 | .ClassDef _ _ _ b _ _ _ _ _ _ _=>b.getD j (.Pass ⟨0,0,0,0⟩)
 | _=>.Pass ⟨0,0,0,0⟩
def kA(s:Stmt):Arguments:=match s with
 | .FunctionDef _ a _ _ _ _ _ _ _ _=>a
 | _=>{ posonlyargs:=[],args:=[],vararg:=none,kwonlyargs:=[],kw_defaults:=[],kwarg:=none,defaults:=[] }
def kB(s:Stmt):List Stmt:=match s with
 | .FunctionDef _ _ b _ _ _ _ _ _ _=>b
 | _=>[]
def kS(s:Stmt):Scope:=match s with
 | .FunctionDef _ _ _ _ _ _ sc _ _ _=>sc
 | _=>{ kind:=.function,names:=[],isGenerator:=false,isCoroutine:=false }
theorem wsA:(PySem.Challenge.rw_pebbletoll_k65_whole_texts_run).row.wellSaid=true:=by kernel_rfl
theorem ws:(PySem.Challenge.rw_pebbletoll_k65_whole_texts_run).wellSaid=true:=by unfold PySem.W.OpenLaw.wellSaid;rw[wsA];kernel_rfl
open PySem.W PySem.Calls PyProof.Rows
def en(P:Params)(s:Str)(t:Tok)(v:Value):DictEntry:=.mk (PyData.keyHash P s) (.str s t) v
def tO(a:List Value):Obj:=.mk (.type "tuple") none (.seq ⟨a⟩ 0) #[]
def pO(a:List Value):Obj:=.mk .none none (.fields ⟨a⟩) #[]
def fO(s:String)(a:List Value):Obj:=.mk (.type s) none (.fields ⟨a⟩) #[]
def dO(a:List DictEntry)(n:Nat):Obj:=.mk (.type "dict") none (.dict ⟨a⟩ n) #[]
def cO(n q:Str)(t l c g a:Nat)(b:Bool)(f d e:Value)(z:Nat):Obj:=fO "code" [.str n t,.str q (t+1),.str "/claim/cut.py" (t+2),.int (.ofNat l) 0,.int (.ofNat c) 0,.int 0 0,.int 0 0,.int (.ofNat g) 0,.ref a,.bool b,.int 181 0,.ref (a+1),.none,f,d,e,.int (.ofNat z) 0,.int (.ofNat l) 0,.str "/claim/cut.py" (z+1)]
def rO(c l:Nat)(m:Value):Obj:=.mk (.type "frame") none .plain #[some (.ref c),some (.ref 3),some (.ref l),none,some m,none,some (.ref 0)]
def sT(t:Nat):List Str->List Value
 | []=>[]
 | s::l=>.str s t::sT (t+1) l
structure It where
 o:List Obj
 e:DictEntry
 r:List Value
structure FT where
 m:Value
 n:Str
 q:Str
 s:Stmt
 a:Nat
 t:Nat
 k:Nat
 b:Bool
def FT.c(f:FT):Nat:=f.a+cond f.b 5 3
def FT.C(f:FT):Obj:=cO f.n f.q f.t f.s.pos.line (kA f.s).args.length 3 f.a true (cond f.b (.ref (f.a+2)) .none) (cond f.b (.ref (f.a+3)) .none) (.ref (f.a+cond f.b 4 2)) (f.t+3+f.k)
def FT.D(f:FT):Obj:=.mk (.type "function") none (.func (PySem.W.fnOf f.n f.q (kA f.s) (kB f.s) (kS f.s) .none .none .none f.m none (.ref f.c) .none)) #[]
def FT.R(f:FT):Obj:=.mk .none none (.func (.mk f.n f.q (kA f.s) (.stmts (kB f.s)) (kS f.s) 0 [] .none .none .none .none none .none .none 0)) #[]
def FT.o(f:FT):List Obj:=tO []::pO []::cond f.b [tO (sT (f.t+3) (((kS f.s).names.filter (·.2==.local)).map (·.1))),tO [],f.R,f.C,f.D] [f.R,f.C,f.D]
def FT.e(P:Params)(f:FT):DictEntry:=en P f.n (f.t+5+f.k) (.ref (f.c+1))
def FT.r(j:Nat)(f:FT):List Value:=[.int (.ofNat f.s.pos.line) 0,.int (.ofNat j) 0,.ref f.c]
def FT.i(P:Params)(f:FT):It:=⟨f.o,f.e P,f.r 0⟩
def fT(m:Value)(n:Str)(i a t k:Nat):FT:=⟨m,n,n,top i,a,t,k,true⟩
def fU(m:Value)(n:Str)(i a t:Nat):FT:=⟨m,n,n,top i,a,t,0,false⟩
def mT(m:Value)(n q:Str)(i j a t k:Nat):FT:=⟨m,n,q,inC (top i) j,a,t,k,true⟩
def mU(m:Value)(n q:Str)(i j a t:Nat):FT:=⟨m,n,q,inC (top i) j,a,t,0,false⟩
structure CT where
 m:Value
 n:Str
 a:Nat
 t:Nat
 l:Nat
 x:Nat
 y:Nat
 b:List Value
 u:List Value
 w:String
 f:List FT
 v:List Str
 d:Nat
 z:List Value
def CT.g(c:CT)(j:Nat):Obj:=cond (j==1) (fO "getset_descriptor" [.str "__weakref__" (c.y+c.v.length+2*c.d-1),.ref (c.x+2),.builtin "ExceptionGroup.__weakref__",.none]) (fO "getset_descriptor" [.str "__dict__" (c.y+c.v.length+1),.ref (c.x+2),.builtin "function.__dict__",.builtin "function.__dict__#set"])
def CT.k(P:Params)(c:CT):List DictEntry:=en P "__firstlineno__" (c.t+11) (.int (.ofNat c.l) (c.t+10))::c.f.map (·.e P)++[en P "__static_attributes__" (c.y+c.v.length) (.ref c.x)]
def CT.D(P:Params)(c:CT):Obj:=dO (en P "__module__" (c.t+7) c.m::c.k P++cond (c.d==2) [en P "__dict__" (c.y+c.v.length+2) (.ref (c.x+3))] []++cond (c.d==0) [] [en P "__weakref__" (c.y+c.v.length+2*c.d) (.ref (c.x+2+c.d))]++[en P "__doc__" (c.y+c.v.length+2*c.d+1) .none]) (2+c.d)
def CT.T(c:CT):Obj:=.mk (.type "type") none (.cls (.mk c.n (cond (c.d==2) [.type "object"] c.b) (.ref (c.x+2)::c.u) (c.x+1) c.n true [] c.z false none false)) #[cond (c.d==2) none (some (.ref (c.a-1))),none,some (.str c.n c.t),some (.str c.n (c.t+8)),some (.builtin c.w),some (.bool true)]
def CT.o(P:Params)(c:CT):List Obj:=tO c.b::fO "builtin_function_or_method" [.builtin "type.__prepare__",.type "type"]::dO (en P "__module__" (c.t+7) c.m::en P "__qualname__" (c.t+9) (.str c.n (c.t+8))::c.k P) (4+c.f.length)::tO []::pO (c.f.flatMap (·.r 4))::cO c.n c.n (c.t+2) c.l 0 0 (c.a+2) false .none .none .none (c.t+5)::rO (c.a+4) (c.a+1) c.m::c.f.flatMap (·.o)++tO (sT c.y c.v)::c.D P::c.T::cond (c.d==2) [c.g 0] []++cond (c.d==0) [] [c.g 1]++[fO "super" [.ref (c.x+2),.ref (c.x+2),.ref (c.x+2)],fO "builtin_function_or_method" [.builtin "object.__init_subclass__",.ref (c.x+2)]]
def CT.i(P:Params)(c:CT):It:=⟨c.o P,en P c.n (c.y+c.v.length+2*c.d+3) (.ref (c.x+2)),[.int (.ofNat c.l) 0,.int 0 0,.ref (c.a+4)]⟩
def kT(P:Params)(n:Str)(t:Tok)(v:Value)(o:List Obj:=[]):It:=⟨o,en P n t v,[]⟩
def dM(P:Params)(m:Value)(l:List It):Obj:=dO (en P "__name__" 165 m::en P "__doc__" 166 .none::en P "__package__" 167 .none::en P "__loader__" 168 (.builtin "__main__.__loader__#opaque")::en P "__spec__" 169 .none::en P "__annotations__" 170 (.ref 6)::en P "__builtins__" 171 (.ref 4)::en P "__file__" 173 (.str "/claim/cut.py" 172)::en P "__cached__" 174 .none::l.map (·.e)) (9+l.length)
def m0:Value:=.str "pebbletoll.errors" 187
def m1:Value:=.str "pebbletoll.webs" 369
def m2:Value:=.str "pebbletoll.layings" 488
def m3:Value:=.str "pebbletoll.ways" 531
def m4:Value:=.str "pebbletoll.steps" 571
def m5:Value:=.str "pebbletoll.wishes" 629
def m6:Value:=.str "pebbletoll.always" 718
def m7:Value:=.str "pebbletoll.bringing" 844
def m8:Value:=.str "pebbletoll.enough" 881
def m9:Value:=.str "pebbletoll.texts" 969
def XQ:Value:=.str "pebbletoll.polynomials" 1044
def VI:Value:=.str "pebbletoll.worsts" 1082
def RL:Value:=.str "pebbletoll.desk" 1169
def SV:Value:=.str "law_pebbletoll_k65_whole_texts_run" 1391
def f0:FT:=mT m0 "__init__" "BadStep.__init__" 9 0 119 331 2
def f1:FT:=mT m0 "__init__" "BadText.__init__" 10 0 138 356 2
def f2:FT:=mU m1 "__init__" "Web.__init__" 15 0 157 389
def f3:FT:=fT m1 "toll" 16 169 405 7
def f4:FT:=fT m1 "neighbours" 17 176 418 2
def f5:FT:=fT m1 "check_place" 18 183 426 2
def f6:FT:=fT m1 "is_place" 19 190 434 2
def f7:FT:=fT m1 "check_counts" 20 197 442 2
def f8:FT:=fT m1 "check_ends" 21 204 450 2
def f9:FT:=fT m1 "check_tolls" 22 211 458 2
def f10:FT:=fT m1 "check_joined" 23 218 466 6
def f11:FT:=fT m1 "other_ends" 24 225 478 4
def f12:FT:=fT m2 "laying_of" 26 232 490 2
def f13:FT:=fU m2 "is_filled" 27 239 498
def f14:FT:=fT m2 "total" 28 244 504 1
def f15:FT:=fT m2 "pile" 29 251 511 3
def f16:FT:=fT m2 "put" 30 258 520 5
def f17:FT:=fT m3 "ahead" 32 265 533 7
def f18:FT:=fT m3 "down" 33 272 546 7
def f19:FT:=fU m3 "kids" 34 279 559
def f20:FT:=fU m3 "inward" 35 284 565
def f21:FT:=fT m4 "walked" 37 289 573 3
def f22:FT:=fT m4 "layings" 38 296 582 6
def f23:FT:=fT m4 "can_be_done" 39 303 594 3
def f24:FT:=fT m4 "is_step" 40 310 603 2
def f25:FT:=fT m4 "taken" 41 317 611 2
def f26:FT:=fT m4 "behind" 42 324 619 4
def f27:FT:=fT m5 "wish_of" 44 331 631 2
def f28:FT:=fU m5 "standings" 45 338 639
def f29:FT:=fT m5 "handed_on" 46 343 645 4
def f30:FT:=fT m5 "standing" 47 350 655 4
def f31:FT:=fT m5 "is_met" 48 357 665 3
def f32:FT:=fT m5 "meeting" 49 364 674 3
def f33:FT:=fT m5 "steps_in" 50 371 683 9
def f34:FT:=fT m5 "steps_out" 51 378 698 8
def f35:FT:=fU m5 "lacks_of" 52 385 712
def f36:FT:=fT m6 "needs" 54 390 720 6
def f37:FT:=fT m6 "always" 55 397 732 2
def f38:FT:=fU m6 "fails" 56 404 740
def f39:FT:=fT m6 "is_idle" 57 409 746 2
def f40:FT:=fT m6 "failing" 58 416 754 3
def f41:FT:=mU m6 "__init__" "Outlook.__init__" 59 0 430 775
def f42:FT:=fT m6 "idle_load" 60 442 793 3
def f43:FT:=fT m6 "idle_kids" 61 449 802 5
def f44:FT:=fU m6 "added" 62 456 813
def f45:FT:=fT m6 "greatest_load" 63 461 819 7
def f46:FT:=fT m6 "load_by" 64 468 832 6
def f47:FT:=fT m7 "gathered" 66 475 846 6
def f48:FT:=fT m7 "most" 67 482 858 3
def f49:FT:=fT m7 "bring" 68 489 867 8
def f50:FT:=fT m8 "borne" 70 496 883 4
def f51:FT:=fT m8 "bound_by" 71 503 893 7
def f52:FT:=fT m8 "check_wanted" 72 510 906 3
def f53:FT:=fT m8 "least_weights" 73 517 915 5
def f54:FT:=fT m8 "enough" 74 524 926 3
def f55:FT:=fU m8 "worst" 75 531 935
def f56:FT:=fT m8 "bearers" 76 536 941 6
def f57:FT:=fT m8 "is_heavy" 77 543 953 4
def f58:FT:=fU m8 "hardest" 78 550 963
def f59:FT:=fT m9 "number_text" 84 555 979 2
def f60:FT:=fU m9 "numbers_text" 85 562 987
def f61:FT:=fU m9 "steps_text" 86 567 993
def f62:FT:=fU m9 "read_web" 87 572 999
def f63:FT:=fT m9 "read_row" 88 577 1005 5
def f64:FT:=fU m9 "read_words" 89 584 1016
def f65:FT:=fT m9 "read_number" 90 589 1022 2
def f66:FT:=fU m9 "is_number" 91 596 1030
def f67:FT:=fT m9 "check_end" 92 601 1036 2
def f68:FT:=fU XQ "differences" 94 608 1046
def f69:FT:=fT XQ "value_at" 95 613 1052 6
def f70:FT:=fU XQ "first_values" 96 620 1064
def f71:FT:=fU XQ "parted" 97 625 1070
def f72:FT:=fU XQ "parted_at" 98 630 1076
def f73:FT:=fT VI "worst_many" 100 635 1084 3
def f74:FT:=mU VI "__init__" "Tally.__init__" 101 0 649 1105
def f75:FT:=fU VI "rests_of" 102 661 1125
def f76:FT:=fT VI "is_free" 103 666 1131 3
def f77:FT:=fT VI "ways_of" 104 673 1140 3
def f78:FT:=fT VI "ways_given" 105 680 1149 4
def f79:FT:=fT VI "held_for" 106 687 1159 4
def f80:FT:=mT RL "__init__" "Desk.__init__" 110 0 703 1237 3
def f81:FT:=mU RL "put" "Desk.put" 110 1 710 1246
def f82:FT:=mT RL "want" "Desk.want" 110 2 715 1252 4
def f83:FT:=mT RL "step" "Desk.step" 110 3 722 1262 4
def f84:FT:=mT RL "keep" "Desk.keep" 110 4 729 1272 3
def f85:FT:=mT RL "back" "Desk.back" 110 5 736 1281 1
def f86:FT:=mT RL "laying" "Desk.laying" 110 6 743 1288 1
def f87:FT:=mT RL "wish" "Desk.wish" 110 7 750 1295 1
def f88:FT:=mT RL "deeds" "Desk.deeds" 110 8 757 1302 1
def f89:FT:=mT RL "answer" "Desk.answer" 110 9 764 1309 2
def f90:FT:=fT RL "answer_of" 111 778 1327 4
def f91:FT:=fT RL "do_deed" 112 785 1337 3
def f92:FT:=fT RL "told_of_desk" 113 792 1346 3
def f93:FT:=fT RL "told_of_web" 114 799 1355 3
def f94:FT:=fT RL "standing_text" 115 806 1364 1
def f95:FT:=fT RL "meeting_text" 116 813 1371 1
def f96:FT:=fT RL "run" 117 820 1378 7
def f97:FT:=fT SV "_law_cell" 119 827 1393 2
def f98:FT:=fT SV "_law_last" 120 834 1401 1
def f99:FT:=fT SV "_law_row" 121 841 1408 8
def Nk:FT:=fT SV "_law_tolls" 122 848 1422 3
def Mq:FT:=fT SV "_law_roads" 123 855 1431 13
def NC:FT:=fT SV "_law_deed" 124 862 1450 9
def MP:FT:=fU SV "_law_words" 125 869 1465
def Mz:FT:=fU SV "_law_web_rows" 126 874 1471
def Mt:FT:=fT SV "_law_folded" 127 879 1477 4
def MS:FT:=fT SV "_law_row_of" 128 886 1487 7
def Mm:FT:=fT SV "_law_spoilt" 129 893 1500 4
def Na:FT:=fT SV "_law_no_web" 130 900 1510 5
def Lz:FT:=fU SV "law" 131 907 1521
def cX(m:Value)(n:Str)(a t l x y:Nat)(f:List FT:=[])(v:List Str:=[]):CT:=⟨m,n,a,t,l,x,y,[(.ref 24)],[(.ref 24),(.type "ValueError"),(.type "Exception"),(.type "BaseException"),(.type "object")],"ValueError.__new__",f,v,0,[]⟩
def c0:CT:=⟨m0,"TollError",16,189,2,22,201,[(.type "ValueError")],[(.type "ValueError"),(.type "Exception"),(.type "BaseException"),(.type "object")],"ValueError.__new__",[],[],1,[(.ref 37),(.ref 49),(.ref 61),(.ref 73),(.ref 85),(.ref 97),(.ref 109),(.ref 128),(.ref 147)]⟩
def c1:CT:=cX m0 "BadWeb" 29 207 4 35 219
def c2:CT:=cX m0 "NoPlace" 41 223 6 47 235
def c3:CT:=cX m0 "NoRoad" 53 239 8 59 251
def c4:CT:=cX m0 "BadLaying" 65 255 10 71 267
def c5:CT:=cX m0 "BadWish" 77 271 12 83 283
def c6:CT:=cX m0 "NoWorst" 89 287 14 95 299
def c7:CT:=cX m0 "NoDeed" 101 303 16 107 315
def c8:CT:=cX m0 "BadStep" 113 319 18 126 339 [f0] ["at"]
def c9:CT:=cX m0 "BadText" 132 344 23 145 364 [f1] ["at"]
def XR:CT:=⟨m1,"Web",151,377,32,162,395,[],[(.type "object")],"object.__new__",[f2],["many","roads"],2,[]⟩
def XT:CT:=⟨m6,"Outlook",424,763,217,435,781,[],[(.type "object")],"object.__new__",[f41],["idle","kids","needs","web"],2,[]⟩
def XU:CT:=⟨VI,"Tally",643,1093,381,654,1111,[],[(.type "object")],"object.__new__",[f74],["bearers","down","kids","rests","web","weights"],2,[]⟩
def XW:CT:=⟨RL,"Desk",697,1225,415,771,1317,[],[(.type "object")],"object.__new__",[f80,f81,f82,f83,f84,f85,f86,f87,f88,f89],["past","web"],2,[]⟩
def P5:Obj:=(tO (sT 1171 ["put","want","step","back"]))
def Ϩ:List (Str×Tok×Int×Tok):=[("put",1176,2,1177),("want",1179,2,1180),("step",1182,3,1183),("back",1185,0,1186),("laying",1188,0,1189),("wish",1191,0,1192),("most",1194,1,1195),("bring",1197,1,1198),("stands",1200,1,1201),("meet",1203,0,1204),("enough",1206,2,1207),("hardest",1209,1,1210),("worst",1212,2,1213),("many",1215,2,1216),("always",1218,0,1219),("fails",1221,0,1222)]
def P7(P:Params):Obj:=dO (Ϩ.map λp=>en P p.1 p.2.1 (.int p.2.2.1 p.2.2.2)) 16
def s0(P:Params)(a:CT):List It:=[a.i P,c1.i P,c2.i P,c3.i P]
def s1(P:Params):List It:=[c4.i P,c5.i P,c6.i P,c7.i P]
def s2(P:Params):List It:=[c8.i P,c9.i P,kT P "MOST_PLACES" 372 (.int 24 371),kT P "LEAST_TOLL" 374 (.int 2 373),kT P "MOST_TOLL" 376 (.int 1000000 375),XR.i P,f3.i P,f4.i P,f5.i P,f6.i P,f7.i P,f8.i P,f9.i P,f10.i P]
def s3(P:Params):List It:=[f11.i P,f12.i P,f13.i P,f14.i P,f15.i P,f16.i P,f17.i P,f18.i P,f19.i P,f20.i P,f21.i P,f22.i P,f23.i P,f24.i P,f25.i P,f26.i P,f27.i P,f28.i P,f29.i P,f30.i P,f31.i P,f32.i P,f33.i P,f34.i P,f35.i P,f36.i P,f37.i P,f38.i P,f39.i P,f40.i P]
def s4(P:Params):List It:=[XT.i P,f42.i P,f43.i P,f44.i P,f45.i P,f46.i P,f47.i P,f48.i P,f49.i P,f50.i P,f51.i P,f52.i P,f53.i P,f54.i P,f55.i P,f56.i P,f57.i P,f58.i P,kT P "FIGURES" 972 (.str "0123456789" 971),kT P "MOST_FIGURES" 974 (.int 60 973),kT P "PIECE" 976 (.int 1000000000000000000 975),kT P "PIECE_FIGURES" 978 (.int 18 977),f59.i P,f60.i P,f61.i P,f62.i P,f63.i P,f64.i P]
def s5(P:Params):List It:=[f65.i P,f66.i P,f67.i P,f68.i P,f69.i P,f70.i P,f71.i P,f72.i P,f73.i P,XU.i P,f75.i P,f76.i P,f77.i P,f78.i P,f79.i P,kT P "DEEDS" 1175 (.ref 694) [P5]]
def s6(P:Params):List It:=[kT P "NUMBERS_BEHIND" 1224 (.ref 695) [P7 P]]
def s7(P:Params):List It:=[XW.i P,f90.i P,f91.i P,f92.i P,f93.i P,f94.i P,f95.i P,f96.i P,f97.i P,f98.i P,f99.i P,Nk.i P,Mq.i P,NC.i P,MP.i P,Mz.i P]
def s8(P:Params):List It:=[Mt.i P,MS.i P,Mm.i P,Na.i P,Lz.i P]
noncomputable def hM(P:Params)(d:Obj)(l:List It):Heap:=.mk (.mk (boot_o_0 P::boot_o_1 P::boot_o_2 P::d::boot_o_4 P::boot_o_5 P::boot_o_6 P::boot_o_7 P::boot_o_8 P::boot_o_9 P::boot_o_10 P::tO []::pO (l.flatMap (·.r))::cO "<module>" "<module>" 182 1 0 0 11 false .none .none .none 185::rO 13 3 (.str "__main__" 164)::l.flatMap (·.o))) (.mk [] [] [] 0 [] [] false #[] [] 0 false false false 0 [2000,10,10] false 0 true [] [] 0 false)
def l0(P:Params):List It:=s0 P ({c0 with z:=[(.ref 37),(.ref 49),(.ref 61)]})
def d0(P:Params):Obj:=dM P m0 (l0 P)
def l1(P:Params):List It:=s0 P ({c0 with z:=[(.ref 37),(.ref 49),(.ref 61),(.ref 73),(.ref 85),(.ref 97),(.ref 109)]})++s1 P
def d1(P:Params):Obj:=dM P m0 (l1 P)
def l2(P:Params):List It:=s0 P c0++(s1 P++s2 P)
def d2(P:Params):Obj:=dM P m1 (l2 P)
def l3(P:Params):List It:=s0 P c0++(s1 P++(s2 P++s3 P))
def d3(P:Params):Obj:=dM P m6 (l3 P)
def l4(P:Params):List It:=s0 P c0++(s1 P++(s2 P++(s3 P++s4 P)))
def d4(P:Params):Obj:=dM P m9 (l4 P)
def l5(P:Params):List It:=s0 P c0++(s1 P++(s2 P++(s3 P++(s4 P++s5 P))))
def d5(P:Params):Obj:=dM P RL (l5 P)
def l6(P:Params):List It:=s0 P c0++(s1 P++(s2 P++(s3 P++(s4 P++(s5 P++s6 P)))))
def d6(P:Params):Obj:=dM P RL (l6 P)
def l7(P:Params):List It:=s0 P c0++(s1 P++(s2 P++(s3 P++(s4 P++(s5 P++(s6 P++s7 P))))))
def d7(P:Params):Obj:=dM P SV (l7 P)
def l8(P:Params):List It:=s0 P c0++(s1 P++(s2 P++(s3 P++(s4 P++(s5 P++(s6 P++(s7 P++s8 P)))))))
def d8(P:Params):Obj:=dM P SV (l8 P)
noncomputable abbrev ha(P:Params):Heap:=hM P (boot_o_3 P) []
noncomputable abbrev hb(P:Params):Heap:=ha P
abbrev st0:List Stmt:=(List.range' 0 5).map top
abbrev Xs:List Stmt:=[top 5,top 6,top 7,top 8]
abbrev SN:List Stmt:=(List.range' 9 15).map top
abbrev Rh:List Stmt:=(List.range' 24 35).map top
abbrev st4:List Stmt:=(List.range' 59 31).map top
abbrev Rn:List Stmt:=(List.range' 90 19).map top
abbrev st6:List Stmt:=[top 109]
abbrev st7:List Stmt:=(List.range' 110 17).map top
abbrev st8:List Stmt:=(List.range' 127 5).map top
abbrev bb:List Stmt:=st0++(Xs++(SN++(Rh++(st4++(Rn++(st6++(st7++(st8++([])))))))))
def env:Env:={ scope:=PySem.Challenge.pw_pebbletoll_k65_whole_texts_run.main.scope,locals:=mainNs,globals:=mainNs,cells:=[],code:=(.ref 13),frame:=some 14 }
abbrev cE:Code:=.body bb env
theorem QA(w:World)(os:OsState):topGo treeTable PySem.Challenge.pw_pebbletoll_k65_whole_texts_run w 11 (some (.ref 6)) 12 (Shared.mk (boot_heap w.params) (.mk []) boot_drawn boot_toks os) (topStub PySem.Challenge.pw_pebbletoll_k65_whole_texts_run)=some ((Shared.mk (ha w.params) (.mk []) (.mk 0 0 0 0) 187 os),Thread.mk (denote treeTable cE) cE (.mk 0 0 0 0) [topFrame (.mk 0 0 0 0)]):=by kernel_rfl
theorem QC(w:World)(os:OsState):segRun treeTable PySem.Challenge.pw_pebbletoll_k65_whole_texts_run w 11 (some (.ref 6)) 1 1 (Shared.mk (ha w.params) (.mk []) (.mk 0 0 0 0) 187 os) (blockOf bb env cE (.mk 0 0 0 0) [topFrame (.mk 0 0 0 0)])=some (.next,(Shared.mk (hb w.params) (.mk []) (.mk 0 0 0 0) 187 os),cE,(.mk 0 0 0 0)):=by kernel_rfl
noncomputable def h0(P:Params):Heap:=hM P (d0 P) (l0 P)
theorem Qt(w:World)(os:OsState):segRun treeTable PySem.Challenge.pw_pebbletoll_k65_whole_texts_run w 11 (some (.ref 6)) 1 835 (Shared.mk (hb w.params) (.mk []) (.mk 0 0 0 0) 187 os) (piecesOf st0 env cE (.mk 0 0 0 0) [topFrame (.mk 0 0 0 0)])=some (.next,(Shared.mk (h0 w.params) (.mk []) (.mk 0 0 0 0) 255 os),cE,(.mk 8 0 9 8)):=by kernel_rfl
noncomputable def h1(P:Params):Heap:=hM P (d1 P) (l1 P)
theorem QB(w:World)(os:OsState):segRun treeTable PySem.Challenge.pw_pebbletoll_k65_whole_texts_run w 11 (some (.ref 6)) 1 853 (Shared.mk (h0 w.params) (.mk []) (.mk 0 0 0 0) 255 os) (piecesOf Xs env cE (.mk 8 0 9 8) [topFrame (.mk 0 0 0 0)])=some (.next,(Shared.mk (h1 w.params) (.mk []) (.mk 0 0 0 0) 319 os),cE,(.mk 16 0 17 8)):=by kernel_rfl
noncomputable def h2(P:Params):Heap:=hM P (d2 P) (l2 P)
theorem QI(w:World)(os:OsState):segRun treeTable PySem.Challenge.pw_pebbletoll_k65_whole_texts_run w 11 (some (.ref 6)) 1 995 (Shared.mk (h1 w.params) (.mk []) (.mk 0 0 0 0) 319 os) (piecesOf SN env cE (.mk 16 0 17 8) [topFrame (.mk 0 0 0 0)])=some (.next,(Shared.mk (h2 w.params) (.mk []) (.mk 0 0 0 0) 478 os),cE,(.mk 74 0 84 75)):=by kernel_rfl
noncomputable def h3(P:Params):Heap:=hM P (d3 P) (l3 P)
theorem QW(w:World)(os:OsState):segRun treeTable PySem.Challenge.pw_pebbletoll_k65_whole_texts_run w 11 (some (.ref 6)) 1 969 (Shared.mk (h2 w.params) (.mk []) (.mk 0 0 0 0) 478 os) (piecesOf Rh env cE (.mk 74 0 84 75) [topFrame (.mk 0 0 0 0)])=some (.next,(Shared.mk (h3 w.params) (.mk []) (.mk 0 0 0 0) 763 os),cE,(.mk 215 0 216 61)):=by kernel_rfl
noncomputable def h4(P:Params):Heap:=hM P (d4 P) (l4 P)
theorem QO(w:World)(os:OsState):segRun treeTable PySem.Challenge.pw_pebbletoll_k65_whole_texts_run w 11 (some (.ref 6)) 1 992 (Shared.mk (h3 w.params) (.mk []) (.mk 0 0 0 0) 763 os) (piecesOf st4 env cE (.mk 215 0 216 61) [topFrame (.mk 0 0 0 0)])=some (.next,(Shared.mk (h4 w.params) (.mk []) (.mk 0 0 0 0) 1022 os),cE,(.mk 341 0 344 52)):=by kernel_rfl
noncomputable def h5(P:Params):Heap:=hM P (d5 P) (l5 P)
theorem QD(w:World)(os:OsState):segRun treeTable PySem.Challenge.pw_pebbletoll_k65_whole_texts_run w 11 (some (.ref 6)) 1 672 (Shared.mk (h4 w.params) (.mk []) (.mk 0 0 0 0) 1022 os) (piecesOf Rn env cE (.mk 341 0 344 52) [topFrame (.mk 0 0 0 0)])=some (.next,(Shared.mk (h5 w.params) (.mk []) (.mk 0 0 0 0) 1176 os),cE,(.mk 413 0 413 5)):=by kernel_rfl
noncomputable def h6(P:Params):Heap:=hM P (d6 P) (l6 P)
theorem QN(w:World)(os:OsState):segRun treeTable PySem.Challenge.pw_pebbletoll_k65_whole_texts_run w 11 (some (.ref 6)) 1 252 (Shared.mk (h5 w.params) (.mk []) (.mk 0 0 0 0) 1176 os) (piecesOf st6 env cE (.mk 413 0 413 5) [topFrame (.mk 0 0 0 0)])=some (.next,(Shared.mk (h6 w.params) (.mk []) (.mk 0 0 0 0) 1225 os),cE,(.mk 414 0 414 14)):=by
 have a:∀(b:Bool)(v:World),v=w.withFollow "special-get-raises" b->(segRun treeTable PySem.Challenge.pw_pebbletoll_k65_whole_texts_run v 11 (some (.ref 6)) 1 252 (Shared.mk (h5 v.params) (.mk []) (.mk 0 0 0 0) 1176 os) (piecesOf st6 env cE (.mk 413 0 413 5) [topFrame (.mk 0 0 0 0)])=some (.next,(Shared.mk (h6 v.params) (.mk []) (.mk 0 0 0 0) 1225 os),cE,(.mk 414 0 414 14))):=λb v e=>by subst e;cases b<;>kernel_rfl
 exact a (w.params.followText "special-get-raises") w (World.withFollow_self w "special-get-raises").symm
noncomputable def h7(P:Params):Heap:=hM P (d7 P) (l7 P)
theorem QK(w:World)(os:OsState):segRun treeTable PySem.Challenge.pw_pebbletoll_k65_whole_texts_run w 11 (some (.ref 6)) 1 993 (Shared.mk (h6 w.params) (.mk []) (.mk 0 0 0 0) 1225 os) (piecesOf st7 env cE (.mk 414 0 414 14) [topFrame (.mk 0 0 0 0)])=some (.next,(Shared.mk (h7 w.params) (.mk []) (.mk 0 0 0 0) 1477 os),cE,(.mk 598 0 602 15)):=by kernel_rfl
noncomputable def h8(P:Params):Heap:=hM P (d8 P) (l8 P)
theorem QM(w:World)(os:OsState):segRun treeTable PySem.Challenge.pw_pebbletoll_k65_whole_texts_run w 11 (some (.ref 6)) 1 159 (Shared.mk (h7 w.params) (.mk []) (.mk 0 0 0 0) 1477 os) (piecesOf st8 env cE (.mk 598 0 602 15) [topFrame (.mk 0 0 0 0)])=some (.next,(Shared.mk (h8 w.params) (.mk []) (.mk 0 0 0 0) 1527 os),cE,(.mk 657 0 677 69)):=by kernel_rfl
noncomputable abbrev hf(P:Params):Heap:=h8 P
theorem QL(w:World)(os:OsState):topRun treeTable PySem.Challenge.pw_pebbletoll_k65_whole_texts_run w 11 (some (.ref 6)) 2 (Shared.mk (h8 w.params) (.mk []) (.mk 0 0 0 0) 1527 os) (restOf [] env cE (.mk 657 0 677 69) [topFrame (.mk 0 0 0 0)])=some (Shared.mk (hf w.params) (.mk []) (.mk 0 0 0 0) 1527 os):=by kernel_rfl
theorem run(w:World)(os:OsState):topRun treeTable PySem.Challenge.pw_pebbletoll_k65_whole_texts_run w 11 (some (.ref 6)) (12+(1+(835+(853+(995+(969+(992+(672+(252+(993+(159+(2)))))))))))) (Shared.mk (boot_heap w.params) (.mk []) boot_drawn boot_toks os) (topStub PySem.Challenge.pw_pebbletoll_k65_whole_texts_run)=some (Shared.mk (hf w.params) (.mk []) (.mk 0 0 0 0) 1527 os):=go_top (QA w os) (piece_block (QC w os) (piece_app (Qt w os) (piece_app (QB w os) (piece_app (QI w os) (piece_app (QW w os) (piece_app (QO w os) (piece_app (QD w os) (piece_app (QN w os) (piece_app (QK w os) (piece_app (QM w os) (QL w os)))))))))))
theorem opn:∀w:World,(fencedOpening treeTable PySem.Challenge.pw_pebbletoll_k65_whole_texts_run w 13548).map (λs=>(s.heap,s.gens,s.drawn,s.toks))=some (boot_heap w.params,Array.mk [],boot_drawn,boot_toks):=boot_open (by kernel_rfl) (by decide) λs=>by kernel_rfl
theorem siz(w:World):((boot_heap w.params).isNs mainGlobals&&(Array.mk ([]:List GenState)).size==0,(boot_heap w.params).objs.size,(boot_heap w.params).nsMap mainGlobals "__annotations__")=(true,11,(some (.ref 6))):=by kernel_rfl
noncomputable def KK:Params->Frag:=λP=>
 (nat_lit 2,boot_o_2 P)::(nat_lit 3,d8 P)::(nat_lit 23,c0.D P)::(nat_lit 24,c0.T)::(nat_lit 25,c0.g 1)::(nat_lit 36,c1.D P)::(nat_lit 37,c1.T)::(nat_lit 48,c2.D P)::(nat_lit 49,c2.T)::(nat_lit 60,c3.D P)::(nat_lit 61,c3.T)::(nat_lit 72,c4.D P)::(nat_lit 73,c4.T)::(nat_lit 84,c5.D P)::(nat_lit 85,c5.T)::(nat_lit 96,c6.D P)::(nat_lit 97,c6.T)::(nat_lit 108,c7.D P)::(nat_lit 109,c7.T)::(nat_lit 124,f0.C)::(nat_lit 125,f0.D)::(nat_lit 127,c8.D P)::(nat_lit 128,c8.T)::(nat_lit 143,f1.C)::(nat_lit 144,f1.D)::(nat_lit 146,c9.D P)::(nat_lit 147,c9.T)::(nat_lit 160,f2.C)::(nat_lit 161,f2.D)::(nat_lit 163,XR.D P)::(nat_lit 164,XR.T)::(nat_lit 165,XR.g 0)::(nat_lit 166,XR.g 1)::(nat_lit 174,f3.C)::(nat_lit 175,f3.D)::(nat_lit 181,f4.C)::(nat_lit 182,f4.D)::(nat_lit 188,f5.C)::(nat_lit 189,f5.D)::(nat_lit 195,f6.C)::(nat_lit 196,f6.D)::(nat_lit 202,f7.C)::(nat_lit 203,f7.D)::(nat_lit 209,f8.C)::(nat_lit 210,f8.D)::(nat_lit 216,f9.C)::(nat_lit 217,f9.D)::(nat_lit 223,f10.C)::(nat_lit 224,f10.D)::(nat_lit 230,f11.C)::(nat_lit 231,f11.D)::(nat_lit 237,f12.C)::(nat_lit 238,f12.D)::(nat_lit 242,f13.C)::(nat_lit 243,f13.D)::(nat_lit 249,f14.C)::(nat_lit 250,f14.D)::(nat_lit 256,f15.C)::(nat_lit 257,f15.D)::(nat_lit 263,f16.C)::(nat_lit 264,f16.D)::(nat_lit 270,f17.C)::(nat_lit 271,f17.D)::(nat_lit 277,f18.C)::(nat_lit 278,f18.D)::(nat_lit 282,f19.C)::(nat_lit 283,f19.D)::(nat_lit 287,f20.C)::(nat_lit 288,f20.D)::(nat_lit 294,f21.C)::(nat_lit 295,f21.D)::(nat_lit 301,f22.C)::(nat_lit 302,f22.D)::(nat_lit 308,f23.C)::(nat_lit 309,f23.D)::(nat_lit 315,f24.C)::(nat_lit 316,f24.D)::(nat_lit 322,f25.C)::(nat_lit 323,f25.D)::(nat_lit 329,f26.C)::(nat_lit 330,f26.D)::(nat_lit 336,f27.C)::(nat_lit 337,f27.D)::(nat_lit 341,f28.C)::(nat_lit 342,f28.D)::(nat_lit 348,f29.C)::(nat_lit 349,f29.D)::(nat_lit 355,f30.C)::(nat_lit 356,f30.D)::(nat_lit 362,f31.C)::(nat_lit 363,f31.D)::(nat_lit 369,f32.C)::(nat_lit 370,f32.D)::(nat_lit 376,f33.C)::(nat_lit 377,f33.D)::(nat_lit 383,f34.C)::(nat_lit 384,f34.D)::(nat_lit 388,f35.C)::(nat_lit 389,f35.D)::(nat_lit 395,f36.C)::(nat_lit 396,f36.D)::(nat_lit 402,f37.C)::(nat_lit 403,f37.D)::(nat_lit 407,f38.C)::(nat_lit 408,f38.D)::(nat_lit 414,f39.C)::(nat_lit 415,f39.D)::(nat_lit 421,f40.C)::(nat_lit 422,f40.D)::(nat_lit 433,f41.C)::(nat_lit 434,f41.D)::(nat_lit 436,XT.D P)::(nat_lit 437,XT.T)::(nat_lit 438,XT.g 0)::(nat_lit 439,XT.g 1)::(nat_lit 447,f42.C)::(nat_lit 448,f42.D)::(nat_lit 454,f43.C)::(nat_lit 455,f43.D)::(nat_lit 459,f44.C)::(nat_lit 460,f44.D)::(nat_lit 466,f45.C)::(nat_lit 467,f45.D)::(nat_lit 473,f46.C)::(nat_lit 474,f46.D)::(nat_lit 480,f47.C)::(nat_lit 481,f47.D)::(nat_lit 487,f48.C)::(nat_lit 488,f48.D)::(nat_lit 494,f49.C)::(nat_lit 495,f49.D)::(nat_lit 501,f50.C)::(nat_lit 502,f50.D)::(nat_lit 508,f51.C)::(nat_lit 509,f51.D)::(nat_lit 515,f52.C)::(nat_lit 516,f52.D)::(nat_lit 522,f53.C)::(nat_lit 523,f53.D)::(nat_lit 529,f54.C)::(nat_lit 530,f54.D)::(nat_lit 534,f55.C)::(nat_lit 535,f55.D)::(nat_lit 541,f56.C)::(nat_lit 542,f56.D)::(nat_lit 548,f57.C)::(nat_lit 549,f57.D)::(nat_lit 553,f58.C)::(nat_lit 554,f58.D)::(nat_lit 560,f59.C)::(nat_lit 561,f59.D)::(nat_lit 565,f60.C)::(nat_lit 566,f60.D)::(nat_lit 570,f61.C)::(nat_lit 571,f61.D)::(nat_lit 575,f62.C)::(nat_lit 576,f62.D)::(nat_lit 582,f63.C)::(nat_lit 583,f63.D)::(nat_lit 587,f64.C)::(nat_lit 588,f64.D)::(nat_lit 594,f65.C)::(nat_lit 595,f65.D)::(nat_lit 599,f66.C)::(nat_lit 600,f66.D)::(nat_lit 606,f67.C)::(nat_lit 607,f67.D)::(nat_lit 611,f68.C)::(nat_lit 612,f68.D)::(nat_lit 618,f69.C)::(nat_lit 619,f69.D)::(nat_lit 623,f70.C)::(nat_lit 624,f70.D)::(nat_lit 628,f71.C)::(nat_lit 629,f71.D)::(nat_lit 633,f72.C)::(nat_lit 634,f72.D)::(nat_lit 640,f73.C)::(nat_lit 641,f73.D)::(nat_lit 652,f74.C)::(nat_lit 653,f74.D)::(nat_lit 655,XU.D P)::(nat_lit 656,XU.T)::(nat_lit 657,XU.g 0)::(nat_lit 658,XU.g 1)::(nat_lit 664,f75.C)::(nat_lit 665,f75.D)::(nat_lit 671,f76.C)::(nat_lit 672,f76.D)::(nat_lit 678,f77.C)::(nat_lit 679,f77.D)::(nat_lit 685,f78.C)::(nat_lit 686,f78.D)::(nat_lit 692,f79.C)::(nat_lit 693,f79.D)::(nat_lit 694,P5)::(nat_lit 695,P7 P)::(nat_lit 708,f80.C)::(nat_lit 709,f80.D)::(nat_lit 713,f81.C)::(nat_lit 714,f81.D)::(nat_lit 720,f82.C)::(nat_lit 721,f82.D)::(nat_lit 727,f83.C)::(nat_lit 728,f83.D)::(nat_lit 734,f84.C)::(nat_lit 735,f84.D)::(nat_lit 741,f85.C)::(nat_lit 742,f85.D)::(nat_lit 748,f86.C)::(nat_lit 749,f86.D)::(nat_lit 755,f87.C)::(nat_lit 756,f87.D)::(nat_lit 762,f88.C)::(nat_lit 763,f88.D)::(nat_lit 769,f89.C)::(nat_lit 770,f89.D)::(nat_lit 772,XW.D P)::(nat_lit 773,XW.T)::(nat_lit 774,XW.g 0)::(nat_lit 775,XW.g 1)::(nat_lit 783,f90.C)::(nat_lit 784,f90.D)::(nat_lit 790,f91.C)::(nat_lit 791,f91.D)::(nat_lit 797,f92.C)::(nat_lit 798,f92.D)::(nat_lit 804,f93.C)::(nat_lit 805,f93.D)::(nat_lit 811,f94.C)::(nat_lit 812,f94.D)::(nat_lit 818,f95.C)::(nat_lit 819,f95.D)::(nat_lit 825,f96.C)::(nat_lit 826,f96.D)::(nat_lit 832,f97.C)::(nat_lit 833,f97.D)::(nat_lit 839,f98.C)::(nat_lit 840,f98.D)::(nat_lit 846,f99.C)::(nat_lit 847,f99.D)::(nat_lit 853,Nk.C)::(nat_lit 854,Nk.D)::(nat_lit 860,Mq.C)::(nat_lit 861,Mq.D)::(nat_lit 867,NC.C)::(nat_lit 868,NC.D)::(nat_lit 872,MP.C)::(nat_lit 873,MP.D)::(nat_lit 877,Mz.C)::(nat_lit 878,Mz.D)::(nat_lit 884,Mt.C)::(nat_lit 885,Mt.D)::(nat_lit 891,MS.C)::(nat_lit 892,MS.D)::(nat_lit 898,Mm.C)::(nat_lit 899,Mm.D)::(nat_lit 905,Na.C)::(nat_lit 906,Na.D)::(nat_lit 910,Lz.C)::(nat_lit 911,Lz.D)::[]
abbrev qq:Program:=PySem.W.view PySem.Challenge.pw_pebbletoll_k65_whole_texts_run [1,2,3,4,5,6,7,8,9,10,12,13,14,15,16,17,18,19,20,21,22,23,24,26,27,28,29,30,32,33,34,35,37,38,39,40,41,42,44,45,46,47,48,49,50,51,52,54,55,56,57,58,59,60,61,62,63,64,66,67,68,70,71,72,73,74,75,76,77,78,80,81,82,83,84,85,86,87,88,89,90,91,92,94,95,96,97,98,100,101,102,103,104,105,106,108,109,110,111,112,113,114,115,116,117,119,120,121,122,123,124,125,126,127,128,129,130,131]
abbrev T9:List Addr:=[2,3,23,24,25,36,37,48,49,60,61,72,73,84,85,96,97,108,109,124,125,127,128,143,144,146,147,160,161,163,164,165,166,174,175,181,182,188,189,195,196,202,203,209,210,216,217,223,224,230,231,237,238,242,243,249,250,256,257,263,264,270,271,277,278,282,283,287,288,294,295,301,302,308,309,315,316,322,323,329,330,336,337,341,342,348,349,355,356,362,363,369,370,376,377,383,384,388,389,395,396,402,403,407,408,414,415,421,422,433,434,436,437,438,439,447,448,454,455,459,460,466,467,473,474,480,481,487,488,494,495,501,502,508,509,515,516,522,523,529,530,534,535,541,542,548,549,553,554,560,561,565,566,570,571,575,576,582,583,587,588,594,595,599,600,606,607,611,612,618,619,623,624,628,629,633,634,640,641,652,653,655,656,657,658,664,665,671,672,678,679,685,686,692,693,694,695,708,709,713,714,720,721,727,728,734,735,741,742,748,749,755,756,762,763,769,770,772,773,774,775,783,784,790,791,797,798,804,805,811,812,818,819,825,826,832,833,839,840,846,847,853,854,860,861,867,868,872,873,877,878,884,885,891,892,898,899,905,906,910,911]
theorem ϟ:∀P,T9=(KK P).map (·.1):=λ_=>by kernel_rfl
theorem lk0(w:World):(λos=>seen ((recsOf qq).map (·.name)) (ownsOf qq) [] { (Shared.mk (Hd.hf w.params) (.mk []) (.mk 0 0 0 0) 1527 os)with gens:=#[] })=λ_=>expectedOf qq:=by kernel_rfl
theorem lk1(w:World):(λos=>((Shared.mk (Hd.hf w.params) (.mk []) (.mk 0 0 0 0) 1527 os)).heap.bltView)=λ_=>bltViewBooted:=by kernel_rfl
theorem lk2(w:World):(λos=>(((Shared.mk (Hd.hf w.params) (.mk []) (.mk 0 0 0 0) 1527 os)).heap.keysOk (looseW qq ["NUMBERS_BEHIND"]) ((recsOf qq).map (·.name)) ((litsOf qq).map (·.1)) ((clssOf qq (looseW qq ["NUMBERS_BEHIND"])).map (·.name))&&((Shared.mk (Hd.hf w.params) (.mk []) (.mk 0 0 0 0) 1527 os)).heap.accountedOkI (importedModules PySem.Challenge.pw_pebbletoll_k65_whole_texts_run.main.body)&&((Shared.mk (Hd.hf w.params) (.mk []) (.mk 0 0 0 0) 1527 os)).heap.isNs mainGlobals&&((Shared.mk (Hd.hf w.params) (.mk []) (.mk 0 0 0 0) 1527 os)).heap.isNs builtinsNs&&tablesOk qq ((Shared.mk (Hd.hf w.params) (.mk []) (.mk 0 0 0 0) 1527 os)).heap&&(λs=>PySem.W.xlAt Hd.qq [] s&&PySem.W.recOk (PySem.W.RowW.records (PySem.W.OpenRow.toRowW (PySem.Challenge.rw_pebbletoll_k65_whole_texts_run).row)) s) (Shared.mk (Hd.hf w.params) (.mk []) (.mk 0 0 0 0) 1527 os)&&(if true then((Shared.mk (Hd.hf w.params) (.mk []) (.mk 0 0 0 0) 1527 os)).gens.size==0 else !leftWithCleanup ((Shared.mk (Hd.hf w.params) (.mk []) (.mk 0 0 0 0) 1527 os)).gens)))=λ_=>true:=by kernel_rfl
theorem lk3(w:World):(λos=>tabsOk qq (Shared.mk (Hd.hf w.params) (.mk []) (.mk 0 0 0 0) 1527 os))=λ_=>true:=by kernel_rfl
theorem lk4(w:World):(λos=>pinSeenD qq (drecsOf qq) (Shared.mk (Hd.hf w.params) (.mk []) (.mk 0 0 0 0) 1527 os))=λ_=>pinGoodD (drecsOf qq):=by kernel_rfl
theorem lk5(w:World):(λos=>plainSeenE qq (looseW qq ["NUMBERS_BEHIND"]) (Shared.mk (Hd.hf w.params) (.mk []) (.mk 0 0 0 0) 1527 os))=λ_=>plainGoodE qq (looseW qq ["NUMBERS_BEHIND"]):=by kernel_rfl
theorem lk6(w:World):(λos=>plainSeenD qq ["NUMBERS_BEHIND"] (Shared.mk (Hd.hf w.params) (.mk []) (.mk 0 0 0 0) 1527 os))=λ_=>plainGoodD qq ["NUMBERS_BEHIND"]:=by kernel_rfl
theorem lk7(w:World):(λos=>wideSeen qq (Shared.mk (Hd.hf w.params) (.mk []) (.mk 0 0 0 0) 1527 os))=λ_=>wideGood qq:=by kernel_rfl
theorem lk8(w:World):(λos=>clsSeenW qq ["NUMBERS_BEHIND"] (Shared.mk (Hd.hf w.params) (.mk []) (.mk 0 0 0 0) 1527 os))=λ_=>clsGoodW qq ["NUMBERS_BEHIND"]:=by kernel_rfl
theorem Qe(w:World):(λos=>(staticsOk (importedModules PySem.Challenge.pw_pebbletoll_k65_whole_texts_run.main.body) (boot_heap w.params) (hf w.params)&&namesBound PySem.Challenge.pw_pebbletoll_k65_whole_texts_run (hf w.params)&&gensDone (Shared.mk (Hd.hf w.params) (.mk []) (.mk 0 0 0 0) 1527 os)&&laidKept (boot_heap w.params) (hf w.params)))=λ_=>true:=by kernel_rfl
theorem P9(w:World):(λos=>openSeen qq ["NUMBERS_BEHIND"] (importedModules PySem.Challenge.pw_pebbletoll_k65_whole_texts_run.main.body) (λs=>PySem.W.xlAt Hd.qq [] s&&PySem.W.recOk (PySem.W.RowW.records (PySem.W.OpenRow.toRowW (PySem.Challenge.rw_pebbletoll_k65_whole_texts_run).row)) s) true (Shared.mk (Hd.hf w.params) (.mk []) (.mk 0 0 0 0) 1527 os))=λ_=>openGood qq ["NUMBERS_BEHIND"]:=funext λos=>congr (congrArg Prod.mk (congrFun (lk0 w) os)) (congr (congrArg Prod.mk (congrFun (lk1 w) os)) (congr (congrArg Prod.mk (congrFun (lk2 w) os)) (congr (congrArg Prod.mk (congrFun (lk3 w) os)) (congr (congrArg Prod.mk (congrFun (lk4 w) os)) (congr (congrArg Prod.mk (congrFun (lk5 w) os)) (congr (congrArg Prod.mk (congrFun (lk6 w) os)) (congr (congrArg Prod.mk (congrFun (lk7 w) os)) (congrFun (lk8 w) os))))))))
theorem Qb(w:World):(λos=>Hook.obs (PySem.W.kHook Hd.KK Hd.T9 Hd.ϟ) (Shared.mk (Hd.hf w.params) (.mk []) (.mk 0 0 0 0) 1527 os))=λ_=>Hook.val (PySem.W.kHook Hd.KK Hd.T9 Hd.ϟ) w:=by kernel_rfl
theorem Qa(w:World):(λos=>((staticsOk (importedModules PySem.Challenge.pw_pebbletoll_k65_whole_texts_run.main.body) (boot_heap w.params) (hf w.params)&&namesBound PySem.Challenge.pw_pebbletoll_k65_whole_texts_run (hf w.params)&&gensDone (Shared.mk (Hd.hf w.params) (.mk []) (.mk 0 0 0 0) 1527 os)&&laidKept (boot_heap w.params) (hf w.params)),openSeen qq ["NUMBERS_BEHIND"] (importedModules PySem.Challenge.pw_pebbletoll_k65_whole_texts_run.main.body) (λs=>PySem.W.xlAt Hd.qq [] s&&PySem.W.recOk (PySem.W.RowW.records (PySem.W.OpenRow.toRowW (PySem.Challenge.rw_pebbletoll_k65_whole_texts_run).row)) s) true (Shared.mk (Hd.hf w.params) (.mk []) (.mk 0 0 0 0) 1527 os),Hook.obs (PySem.W.kHook Hd.KK Hd.T9 Hd.ϟ) (Shared.mk (Hd.hf w.params) (.mk []) (.mk 0 0 0 0) 1527 os)))=λ_=>(true,openGood qq ["NUMBERS_BEHIND"],Hook.val (PySem.W.kHook Hd.KK Hd.T9 Hd.ϟ) w):=funext λos=>congr (congrArg Prod.mk (congrFun (Qe w) os)) (congr (congrArg Prod.mk (congrFun (P9 w) os)) (congrFun (Qb w) os))
theorem left:PySem.W.LeftO (PySem.Challenge.rw_pebbletoll_k65_whole_texts_run).row.prog qq ["NUMBERS_BEHIND"] (λs=>PySem.W.xlAt Hd.qq [] s&&PySem.W.recOk (PySem.W.RowW.records (PySem.W.OpenRow.toRowW (PySem.Challenge.rw_pebbletoll_k65_whole_texts_run).row)) s) (PySem.W.Hook.obs (PySem.W.kHook Hd.KK Hd.T9 Hd.ϟ)) (PySem.W.Hook.val (PySem.W.kHook Hd.KK Hd.T9 Hd.ϟ)) 13548:=LeftO.of_pieces opn siz run (by decide) Qa
end Hd
abbrev hT:=Int->Int->Int
abbrev hO:=List PySem.Str
abbrev hL:=PySem.Str->Option PySem.Value
abbrev g8:=List PySem.Value
abbrev gy:=List PySem.Addr
abbrev fz:=List (PySem.Addr×PySem.Obj)
abbrev fv:=PySem.W.Frag
abbrev fc:=PySem.Value->PySem.Shared->Prop
abbrev ew:=Int->Nat
abbrev dt:=Int->Int
abbrev dm:=List Int
namespace L2
open PySem PySem.Spec PyProof.Rows
abbrev Key:=Sum Int Str
def yM:Key->Value->Bool
 | .inl k,v=>Value.isInt k v
 | .inr x,v=>Value.isStrOf x v
def Mw(w:World):Key->Int
 | .inl k=>hashInt k
 | .inr x=>hashStr w x
theorem jm:∀{k:Key}{v:Value},yM k v=true->(∃i t,k=Sum.inl i/\v=Value.int i t)\/(∃x t,k=Sum.inr x/\v=Value.str x t)
 | .inl i,v,h=>by
   obtain⟨t,e⟩:=Value.isInt_shape (k:=i) (v:=v) h;exact .inl ⟨i,t,rfl,e⟩
 | .inr x,v,h=>by
   obtain⟨t,e⟩:=Value.isStrOf_shape (x:=x) (v:=v) h;exact .inr ⟨x,t,rfl,e⟩
theorem KL(i:Int)(t:Tok):yM (.inl i) (.int i t)=true:=by simp[yM,Value.isInt]
theorem Lk(x:Str)(t:Tok):yM (.inr x) (.str x t)=true:=by simp[yM,Value.isStrOf]
theorem Pe(a b:Int):decide ((Sum.inl a:Key)=Sum.inl b)=(a==b):=by
 by_cases e:a=b
 .subst e;simp
 .have h:¬(Sum.inl a:Key)=Sum.inl b:=λq=>e (Sum.inl.inj q);rw[bP h];exact(beq_eq_false_iff_ne.mpr e).symm
theorem PR(a b:Str):decide ((Sum.inr a:Key)=Sum.inr b)=decide (a=b):=by
 by_cases e:a=b
 .subst e;simp
 .have h:¬(Sum.inr a:Key)=Sum.inr b:=λq=>e (Sum.inr.inj q);rw[bP h,bP e]
theorem PH(a:Int)(b:Str):decide ((Sum.inl a:Key)=Sum.inr b)=false:=bP (λq=>nomatch q)
theorem Po(a:Str)(b:Int):decide ((Sum.inr a:Key)=Sum.inl b)=false:=bP (λq=>nomatch q)
def hJ(prog:Program)(w:World):PySem.KeyKind prog w Key where
 is:=yM
 hash:=Mw w
 inj:=λv a b f d=>by
  rcases jm f with⟨i,t,rfl,rfl⟩|⟨x,t,rfl,rfl⟩
  .rcases jm d with⟨j,u,rfl,e⟩|⟨y,u,rfl,e⟩
   .injection e with e1 _;rw[e1]
   .exact nomatch e
  .rcases jm d with⟨j,u,rfl,e⟩|⟨y,u,rfl,e⟩
   .exact nomatch e
   .injection e with e1 _;rw[e1]
 byValue:=λk v h=>by
  rcases jm h with⟨i,t,rfl,rfl⟩|⟨x,t,rfl,rfl⟩<;>rfl
 pyHash:=λc h=>by
  rcases jm c with⟨i,t,rfl,rfl⟩|⟨x,t,rfl,rfl⟩
  .exact wpAny_pyHash_int h
  .exact wpAny_pyHash_str h
 eqBool:=λg c h=>by
  rcases jm g with⟨i,t,rfl,rfl⟩|⟨x,t,rfl,rfl⟩
  .rcases jm c with⟨j,u,rfl,rfl⟩|⟨y,u,rfl,rfl⟩
   .rw[Pe]at h;exact wpAny_eqBool_int h
   .rw[PH]at h;exact SeqAt.EqAt.int_str i t y u _ _ _ _ h
  .rcases jm c with⟨j,u,rfl,rfl⟩|⟨y,u,rfl,rfl⟩
   .rw[Po]at h;exact SeqAt.EqAt.str_int x t j u _ _ _ _ h
   .rw[PR]at h;exact wpAny_eqBool_str h
 «strs»:=λk x t v h=>by
  rcases jm h with⟨i,u,rfl,e⟩|⟨y,u,rfl,e⟩
  .exact nomatch e
  .injection e with e1 _
   subst e1;cases v<;>rfl
theorem GP(a:Program)(w:World)(i:Int)(t:Tok):(hJ a w).is (.inl i) (.int i t)=true:=KL i t
theorem uX(a:Program)(w:World)(x:Str)(t:Tok):(hJ a w).is (.inr x) (.str x t)=true:=Lk x t
inductive V where
 | τ|bl (b:Bool)|int (i:Int)|str (x:Str)|Tf (b:Array UInt8)|Wk (b:UInt64)|ref (a:Addr)|ty (n:String)
 deriving DecidableEq
def RelV:V->Value->Prop
 | .τ,u=>u=Value.none
 | .bl b,u=>u=Value.bool b
 | .int i,u=>∃t,u=Value.int i t
 | .str x,u=>∃t,u=Value.str x t
 | .Tf b,u=>∃t,u=Value.bytes b t
 | .Wk b,u=>∃t,u=Value.float b t
 | .ref a,u=>u=Value.ref a
 | .ty n,u=>u=Value.type n
abbrev Vals:List V->List Value->Prop:=Paired RelV
theorem Vals.length{a:List V}{b:g8}(r:Vals a b):a.length=b.length:=Paired.length r
theorem Vals.get:∀{a:List V}{b:g8}{i:Nat}{x:V},Vals a b->a[i]?=some x->∃u,b[i]?=some u/\RelV x u
 | _,_,_,_,.nil,e=>by simp at e
 | _,_,0,_,.cons r _,e=>by simp at e;subst e;exact⟨_,rfl,r⟩
 | _,_,i+1,x,.cons _ t,e=>by
   obtain⟨u,d,c⟩:=Vals.get (i:=i) (x:=x) t (by simpa using e);exact⟨u,by simpa using d,c⟩
theorem Vals.set{x:V}{u:Value}(r:RelV x u):∀{a:List V}{b:g8}(i:Nat),Vals a b->Vals (a.set i x) (b.set i u)
 | _,_,_,.nil=>.nil
 | _,_,0,.cons _ t=>.cons r t
 | _,_,i+1,.cons q t=>.cons q (Vals.set r i t)
theorem Vals.append:∀{a c:List V}{d b:g8},Vals a d->Vals c b->Vals (a++c) (d++b)
 | _,_,_,_,.nil,s=>s
 | _,_,_,_,.cons r t,s=>.cons r (Vals.append t s)
theorem Vals.take:∀{a:List V}{b:g8}(n:Nat),Vals a b->Vals (a.take n) (b.take n)
 | _,_,0,_=>.nil
 | _,_,_+1,.nil=>.nil
 | _,_,n+1,.cons r t=>.cons r (Vals.take n t)
theorem Vals.drop:∀{a:List V}{b:g8}(n:Nat),Vals a b->Vals (a.drop n) (b.drop n)
 | _,_,0,r=>r
 | _,_,_+1,.nil=>.nil
 | _,_,n+1,.cons _ t=>Vals.drop n t
def iN:Option V->Option Value->Prop
 | some v,some u=>RelV v u
 | none,none=>True
 | _,_=>False
def KV{a:Type}:List (a×V)->List (a×Value)->Prop:=Paired λ(p:a×V)(q:a×Value)=>p.1=q.1/\RelV p.2 q.2
def kV:Key->V
 | .inl i=>.int i
 | .inr x=>.str x
inductive HO where
 /-- a list -/
 | lst (xs:List V)
 /-- a tuple (never changes) -/
 | tup (xs:List V)
 /-- a dict XX keys are ints and texts;one XX keys are tuples of ints and texts (RD empty one is both) -/
 | dK (θ:List (Key×V))|dT (θ:List (List Key×V))
 /-- a set of ints: its members,its size -/
 | set (S:Int->Bool) (n:Nat)
 /-- an instance of RD class at C,its dict at dx,its attributes -/
 | ins (C dx:Addr) (fs:List (Str×V))
 /-- RD dict of RD instance at x -/
 | own (x:Addr)
 /-- RD dict of an exception -/
 | xd (fs:List (Str×V))
 /-- a bound method,f of x -/
 | met (f x:Addr)
 /-- a range object lo,lo+1,.. cM hi -/
 | ϭ (lo hi:Int)
 /-- a thing aca is known to RD object (RD script;a dict while a loop walks it): read,never written while it is so -/
 | SW (o:Obj) (u:HO)
 /-- a code XY table -/
 | VJ (ps:Array Value)
 /-- any other thing,by XZ is true of its one object (a def of aey own: agC a S n:=HO.ext λh=>..) -/
 | ext (φ:Heap->Prop)
abbrev Hp:=Addr->Option HO
def upd(H:Hp)(a:Addr)(o:HO):Hp:=λb=>if b=a then some o else H b
theorem aw{H:Hp}{a:Addr}{o:HO}:upd H a o a=some o:=by unfold upd;rw[ao rfl]
theorem aY{H:Hp}{a b:Addr}{o:HO}(h:b≠a):upd H a o b=H b:=by unfold upd;rw[ah h]
theorem mi{H:Hp}{a:Addr}{o u:HO}:upd (upd H a o) a u=upd H a u:=by
 funext b;unfold upd;split<;>rfl
theorem dX{H:Hp}{a b:Addr}{o u:HO}(h:H a=some o)(c:H b=some u)(d:o≠u):a≠b:=by
 intro e;subst e;rw[h]at c;exact d (bC c)
theorem cP{H:Hp}{a b:Addr}{o:HO}(h:H a=some o)(c:H b=none):a≠b:=by
 intro e;subst e;rw[h]at c;cases c
section
variable(P:Program)(w:World)
def Δ(H:Hp)(h:Heap)(a:Addr):HO->Prop
 | .lst c=>c.length<=sizeLine/\∃(b:g8)(n:Nat),Vals c b/\h.get? a=some { cls:=.type "list",data:=.seq b.toArray n }
 | .tup c=>c.length<=sizeLine/\∃b:List Value,Vals c b/\IsTup h a b.toArray
 | .dK θ=>θ.length<=sizeLine/\(a==sysModules)=false/\∃e,KV θ e/\h.DictOf (hJ P w) a e
 | .dT θ=>θ.length<=sizeLine/\(a==sysModules)=false/\∃c:List (List Key×Addr×Value),Paired (λ(p:List Key×V)(q:List Key×Addr×Value)=>p.1=q.1/\H q.2.1=some (.tup (p.1.map kV))/\RelV p.2 q.2.2) θ c/\∃o j k,h.get? a=some o/\o.ExactDict/\o.data=.dict j k/\j.toList=c.map (entryOfKey (tupleKind (hJ P w)))/\(c.map (·.1)).Nodup
 | .set S n=>h.SetOf (intKind P w) a S n
 | .ins C dx fs=>H dx=some (.own a)/\fs.length<=1000/\dx≠a/\h.get? a=some (PySem.W.instObj C dx)/\∃d,h.Ns1 dx d/\(∀f,iN (fs.lookup f) (d f))/\PySem.Within d (fs.map (·.1))
 | .own _=>∃o,h.get? a=some o
 | .xd fs=>∃d,h.Ns1 a d/\∀f,iN (fs.lookup f) (d f)
 | .ϭ lo hi=>∃t u v,h.get? a=some { cls:=.type "range",data:=.fields #[.int lo t,.int hi u,.int 1 v] }
 | .SW o u=>h.get? a=some o/\Δ H h a u
 | .VJ ps=>h.get? a=some { cls:=.none,data:=.fields ps }
 | .met f x=>h.get? a=some (PySem.W.methodObj (.ref f) (.ref x))
 | .ext φ=>φ h/\(∃o,h.get? a=some o)/\∀i g:Heap,φ i->(∀o,i.get? a=some o->g.get? a=some o)->φ g
def Ϸ(H:Hp)(h:Heap):Prop:=∀a o,H a=some o->Δ P w H h a o
end
section
variable{P:Program}{w:World}{H g:Hp}{h h':Heap}{a:Addr}{o:HO}
theorem Δ.lt(x:Δ P w H h a o):a<h.objs.size:=by
 cases o with
 | lst xs=>obtain⟨_,_,_,_,e⟩:=x;exact aI e
 | tup xs=>obtain⟨_,_,_,p⟩:=x;exact p.lt
 | dK θ=>obtain⟨_,_,_,_,o,_,_,e,_⟩:=x;exact aI e
 | dT θ=>obtain⟨_,_,_,_,o,_,_,e,_⟩:=x;exact aI e
 | set S n=>obtain⟨o,_,_,_,e,_⟩:=x;exact aI e
 | ins C dx fs=>obtain⟨_,_,_,e,_⟩:=x;exact aI e
 | own y=>obtain⟨_,e⟩:=x;exact aI e
 | xd fs=>obtain⟨_,⟨_,_,_,e,_⟩,_⟩:=x;exact aI e
 | ϭ lo hi=>obtain⟨_,_,_,e⟩:=x;exact aI e
 | SW ob u=>obtain⟨e,_⟩:=x;exact aI e
 | VJ ps=>exact aI (show h.get? a=some _ from x)
 | met f y=>exact aI (show h.get? a=some _ from x)
 | ext φ=>obtain⟨_,⟨_,e⟩,_⟩:=x;exact aI e
theorem Paired.Vb{e i:Type}{F G:e->i->Prop}:∀{d:List e}{c:List i},Paired F d c->(∀a b,F a b->G a b)->Paired G d c
 | _,_,.nil,_=>.nil
 | _,_,.cons r t,f=>.cons (f _ _ r) (Paired.Vb t f)
theorem Paired.imp'{e i:Type}{F G:e->i->Prop}(f:∀a b,F a b->G a b){d:List e}{c:List i}(r:Paired F d c):Paired G d c:=Paired.Vb r f
theorem Δ.iO(x:Δ P w H h a o)(k:∀b u,(b=a\/H b=some (.own a))->h.get? b=some u->h'.get? b=some u)(E:∀b,H b=some (.own a)->g b=some (.own a))(F:∀b s,H b=some (.tup s)->g b=some (.tup s)):Δ P w g h' a o:=by
 induction o with
 | lst s=>obtain⟨z,m,n,r,e⟩:=x;exact⟨z,m,n,r,k _ _ (.inl rfl) e⟩
 | tup s=>obtain⟨z,m,r,i,e,c⟩:=x;exact⟨z,m,r,i,k _ _ (.inl rfl) e,c⟩
 | dK θ=>obtain⟨z,y,D,r,i,j,l,e,c⟩:=x;exact⟨z,y,D,r,i,j,l,k _ _ (.inl rfl) e,c⟩
 | dT θ=>
   obtain⟨z,y,s,r,i,j,l,e,c⟩:=x;exact⟨z,y,s,Paired.Vb r λp q z=>⟨z.1,F _ _ z.2.1,z.2.2⟩,i,j,l,k _ _ (.inl rfl) e,c⟩
 | set S n=>obtain⟨i,j,l,t,e,c⟩:=x;exact⟨i,j,l,t,k _ _ (.inl rfl) e,c⟩
 | ins C dx fs=>
   obtain⟨d,z,ne,e,A,⟨B,j,l,G,c⟩,r⟩:=x;exact⟨E _ d,z,ne,k _ _ (.inl rfl) e,A,⟨B,j,l,k _ _ (.inr d) G,c⟩,r⟩
 | own y=>obtain⟨i,e⟩:=x;exact⟨i,k _ _ (.inl rfl) e⟩
 | xd fs=>obtain⟨A,⟨B,j,l,e,c⟩,r⟩:=x;exact⟨A,⟨B,j,l,k _ _ (.inl rfl) e,c⟩,r⟩
 | ϭ lo hi=>obtain⟨t,u,v,e⟩:=x;exact⟨t,u,v,k _ _ (.inl rfl) e⟩
 | SW i u ih=>obtain⟨e,q⟩:=x;exact⟨k _ _ (.inl rfl) e,ih q⟩
 | VJ ps=>
   have e:h.get? a=some { cls:=.none,data:=.fields ps }:=x;show h'.get? a=some { cls:=.none,data:=.fields ps };exact k a _ (.inl rfl) e
 | met f y=>
   have e:h.get? a=some (PySem.W.methodObj (.ref f) (.ref y)):=x;show h'.get? a=some (PySem.W.methodObj (.ref f) (.ref y));exact k a _ (.inl rfl) e
 | ext φ=>obtain⟨p,⟨o,e⟩,st⟩:=x;exact⟨st _ _ p λo q=>k _ _ (.inl rfl) q,⟨o,k _ _ (.inl rfl) e⟩,st⟩
theorem Ϸ.lt(x:Ϸ P w H h)(e:H a=some o):a<h.objs.size:=(x a o e).lt
theorem Ϸ.fresh(x:Ϸ P w H h)(e:h.objs.size<=a):H a=none:=by
 cases q:H a with
 | none=>rfl
 | some u=>exact absurd (bc (x.lt q) e) (dh _)
theorem Ϸ.kept(x:Ϸ P w H h)(k:∀b u,h.get? b=some u->h'.get? b=some u):Ϸ P w H h':=λa o e=>
 (x a o e).iO (λb u _ q=>k b u q) (λ_ q=>q) λ_ _ q=>q
theorem Ϸ.laid(x:Ϸ P w H h)(k:∀b u,h.get? b=some u->h'.get? b=some u)(j:h.objs.size<=a)(d:Δ P w (upd H a o) h' a o):Ϸ P w (upd H a o) h':=λb u e=>by
 have f:=x.fresh j;by_cases i:b=a
 .subst i;rw[aw]at e;cases e;exact d
 .rw[aY i]at e;exact(x b u e).iO (λc v _ q=>k c v q) (λc q=>by rw[aY (cP q f)];exact q) λc l q=>by rw[aY (cP q f)];exact q
end
def Rd(H:Hp)(a:Addr)(u:HO):Prop:=H a=some u\/∃o,H a=some (.SW o u)
theorem Rd.ok{P:Program}{w:World}{H:Hp}{h:Heap}{a:Addr}{u:HO}(r:Rd H a u)(x:Ϸ P w H h):Δ P w H h a u:=by
 rcases r with r|⟨o,r⟩
 .exact x a u r
 .obtain⟨_,q⟩:=x a _ r;exact q
def X0:Option HO->Prop
 | some (.lst _)=>True
 | some (.dK _)=>True
 | some (.dT _)=>True
 | some (.set _ _)=>True
 | some (.ins _ _ _)=>True
 | some (.ext _)=>True
 | _=>False
section
variable{P:Program}{w:World}{H:Hp}{h h':Heap}{x e:Addr}{a:HO}
theorem Ϸ.write(o:Ϸ P w H h)(d:X0 (H x))(m:e=x\/H e=some (.own x))(k:∀b u,b≠e->h.get? b=some u->h'.get? b=some u)(s:∃u,h'.get? e=some u)(j:Δ P w (upd H x a) h' x a):Ϸ P w (upd H x a) h':=λb u q=>by
 have n:∀c y,H c=some (.own y)->c≠x:=λc y r z=>by subst z;rw[r]at d;exact d
 have l:∀c g,H c=some (.tup g)->c≠x:=λc g r z=>by subst z;rw[r]at d;exact d
 by_cases i:b=x
 .subst i;rw[aw]at q;cases q;exact j
 .rw[aY i]at q;by_cases f:b=e
  .have q':H b=some (.own x):=by
    rcases m with z|z
    .exact absurd (f.trans z) i
    .rw[f];exact z
   rw[q]at q';cases q';obtain⟨v,p⟩:=s;exact⟨v,by rw[f];exact p⟩
  .refine(o b u q).iO (λc v hc r=>k c v ?_ r) (λc r=>by rw[aY (n c b r)];exact r) λc g r=>by rw[aY (l c g r)];exact r
   rcases hc with rfl|hc
   .exact f
   .rintro rfl;rcases m with z|z
    .exact n c b hc z
    .rw[hc]at z;cases z;exact i rfl
end
structure Un(fs ex:gy)(H H':Hp)(h h':Heap):Prop where
 keep:∀b o,h.get? b=some o->H b=none->b∉fs->b∉ex->h'.get? b=some o
 slot:∀b o,h.get? b=some o->H b=none->b∈fs->b∉ex->∃sl,h'.get? b=some { o with slots:=sl }
 free:∀b o,h.get? b=some o->H b=none->b∉ex->H' b=none
 there:∀b o,h.get? b=some o->b∉ex->∃o',h'.get? b=some o'
 iS:∀b xs,H b=some (.tup xs)->H' b=some (.tup xs)
 ϸ:∀b o u,H b=some (.SW o u)->H' b=some (.SW o u)
 lE:∀b ps,H b=some (.VJ ps)->∃more,H' b=some (.VJ (ps++more))
section
variable{d j c i:gy}{H g m:Hp}{h f l h':Heap}{a x e:Addr}{o:HO}
theorem Un.any(u:Un d c H g h f){b:Addr}{k:Obj}(q:h.get? b=some k)(n:H b=none)(p:b∉c):∃s,f.get? b=some { k with slots:=s }:=by
 by_cases r:b∈d
 .exact u.slot b k q n r p
 .exact⟨k.slots,u.keep b k q n r p⟩
theorem Un.kept(k:∀b u,h.get? b=some u->h'.get? b=some u):Un d c H H h h':=⟨λb p q _ _ _=>k b p q,λb p q _ _ _=>⟨p.slots,k b p q⟩,λ_ _ _ n _=>n,λb p q _=>⟨p,k b p q⟩,λ_ _ q=>q,λ_ _ _ q=>q,λ_ r q=>⟨#[],by rw[q];simp⟩⟩
theorem Un.refl:Un d c H H h h:=Un.kept λ_ _ q=>q
theorem Un.laid(k:∀b u,h.get? b=some u->h'.get? b=some u)(p:h.objs.size<=a)(hn:H a=none):Un d c H (upd H a o) h h' where
 keep:=λb u q _ _ _=>k b u q
 slot:=λb u q _ _ _=>⟨u.slots,k b u q⟩
 free:=λb u q n _=>by rw[aY (aU (bc (aI q) p))];exact n
 there:=λb u q _=>⟨u,k b u q⟩
 iS:=λb r q=>by rw[aY (cP q hn)];exact q
 ϸ:=λb u r q=>by rw[aY (cP q hn)];exact q
 lE:=λb s q=>⟨#[],by rw[aY (cP q hn),q];simp⟩
theorem Un.write(p:X0 (H x))(A:e=x\/H e=some (.own x))(k:∀b u,b≠e->h.get? b=some u->h'.get? b=some u)(C:∃u,h'.get? e=some u):Un d c H (upd H x o) h h':=by
 have v:∀b,H b=none->b≠x:=λb n z=>by subst z;rw[n]at p;exact p
 have w:∀b,H b=none->b≠e:=λb n z=>by
  subst z;rcases A with r|r
  .exact v b n r
  .rw[n]at r;cases r
 have s:∀b u,H b=some u->¬X0 (some u)->b≠x:=λb u q B z=>by subst z;rw[q]at p;exact B p
 refine⟨λb u q n _ _=>k b u (w b n) q,λb u q n _ _=>⟨u.slots,k b u (w b n) q⟩,λb u q n _=>by rw[aY (v b n)];exact n,λb u q _=>?_,λb y q=>by rw[aY (s b _ q λz=>z)];exact q,λb u y q=>by rw[aY (s b _ q λz=>z)];exact q,λb D q=>⟨#[],by rw[aY (s b _ q λz=>z),q];simp⟩⟩
 by_cases t:b=e
 .subst t;exact C
 .exact⟨u,k b u t q⟩
end
def Zo(h:Heap)(H:Hp):List Addr:=(List.range h.objs.size).filter λa=>(H a).isSome
def vS(h:Heap)(H:Hp):Heap:=PySem.W.hideAll h (Zo h H)
theorem JW(h:Heap)(H:Hp):(vS h H).objs.size=h.objs.size:=PySem.W.hideAll_size _ _
theorem Ny{h:Heap}{H:Hp}{b:Addr}{o:Obj}(e:h.get? b=some o)(n:H b=none):(vS h H).get? b=some o:=PySem.W.hideAll_get _ e λa=>by
 have q:(H b).isSome=true:=(ci.mp a).2;rw[n]at q;simp at q
theorem OJ{h:Heap}{H:Hp}{b:Addr}{o:Obj}(e:(vS h H).get? b=some o):h.get? b=some o/\H b=none:=by
 have a:h.get? b=some o:=PySem.W.of_hideAll (Zo h H) e;refine⟨a,?_⟩;cases q:H b with
 | none=>rfl
 | some x=>
   have c:b∈Zo h H:=ci.mpr ⟨eD.mpr (aI a),by simp[q]⟩;have z:(vS h H).get? b=none:=PySem.W.hideAll_none (Zo h H) c;rw[z]at e;cases e
def NS(g h:Heap)(L:Addr):List (Addr×Obj):=(List.range h.objs.size).filterMap λa=>if a=L\/(g.get? a).isSome=true then none else(h.get? a).map λo=>(a,o)
def rest(g h:Heap)(L d:Addr):List (Addr×Obj):=(NS g h L).filter λp=>decide (p.1≠d)
structure Mod(K:fv)(mg:hL)(base:Heap):Prop where
 Vc:K.In base
 glob:base.Ns mainGlobals mg
 blt:∃mb,base.Ns builtinsNs mb/\∀x:Str,x≠"__name__"->mb x=bootBuiltins x
 nolimit:base.NoLimit
structure Cx where
 prog:Program
 w:World
 K:PySem.W.Frag
 mg:Str->Option Value
 base:Heap
 A:Around
 N:List Str
 s₀:Shared
 H₀:Hp
 env:Env
 outer:List Env
 stack:List Env
 ex:List Addr
 fn:Str->Bool
 calm:Bool
 pn:List (Addr×Obj)
 xe:Value->Shared->Prop
def ϝ(l:List Env):List Addr:=l.filterMap (·.frame)
abbrev Cx.fs(X:Cx):List Addr:=ϝ X.outer
def Vis(a:Scope)(x:Str):Prop:=a.names.lookup x=some .local\/a.names.lookup x=some .cell\/a.names.lookup x=some .free
def Loc(a:Scope)(x:Str):Prop:=a.names.lookup x=some .local\/a.names.lookup x=some .cell
def QE(a:Env)(h:Heap)(m:hL)(x:Str)(u:Value):Prop:=(a.kindOf x=some .local/\m x=some u)\/((a.kindOf x=some .cell\/a.kindOf x=some .free)/\∃c,a.cells.lookup x=some c/\h.IsCell c (some u))
structure Cx.Ok(X:Cx):Prop where
 mod:Mod X.K X.mg X.base
 kind:X.env.scope.kind=.function
 glob:X.env.globals=mainGlobals
 blt:X.env.builtins=builtinsNs
 above:X.s₀.heap.objs.size<=X.env.locals
 inj:∀x y c,X.env.cells.lookup x=some c->X.env.cells.lookup y=some c->x=y
 has:∀x,(X.env.kindOf x=some .cell\/X.env.kindOf x=some .free)->∃c,X.env.cells.lookup x=some c
 VL:∀x c,X.fn x=true->X.env.cells.lookup x=some c->X.s₀.heap.objs.size<=c
 hd:X.calm=true->X.A.handled=none
 frames:X.A.frames=some X.stack
 Wm:X.stack=X.outer\/(X.stack=X.env::X.outer/\X.env.frame=some X.env.locals)
 X3:∀b∈X.ex,b≠X.env.locals/\∀x c,X.env.cells.lookup x=some c->c≠b
 bs:∀b o,X.base.get? b=some o->X.s₀.heap.get? b=some o/\X.H₀ b=none
 Ui:X.base.objs.size<=X.s₀.heap.objs.size
 Si:∀b o,X.base.get? b=some o->b∉X.ex
 Rq:∀b∈X.ex,b∉X.fs
 oK:X.s₀.heap.FunFrames X.base X.outer
 UU:∀b∈X.fs,X.H₀ b=none
structure Inv(X:Cx)(pins:fz)(σ:List (Option V))(H:Hp)(s:Shared):Prop where
 ok:X.Ok
 os:s.os=X.s₀.os
 bare:AllBare s.gens
 base:Un X.fs X.ex X.H₀ H X.s₀.heap s.heap
 loc:∃m,s.heap.Ns X.env.locals m/\∀(i:Nat)(x:Str)(v:V),X.N[i]?=some x->σ[i]?=some (some v)->Vis X.env.scope x->∃u,RelV v u/\QE X.env s.heap m x u
 cell:∀x c,X.env.cells.lookup x=some c->∃v,s.heap.IsCell c v
 free:H X.env.locals=none
 ϐ:∀x c,X.env.cells.lookup x=some c->H c=none
 pin:∀p∈X.pn++pins,s.heap.get? p.1=some p.2/\H p.1=none/\p.1≠X.env.locals/\p.1∉X.fs/\∀v,p.2.data≠.cell v
 χ:Ϸ X.prog X.w H s.heap
 len:σ.length=X.N.length
section
variable{X:Cx}{f:fz}{g:List (Option V)}{H B:Hp}{s:Shared}{h':Heap}
theorem Cx.Ok.acf(a:X.Ok){b:Addr}{o:Obj}(e:X.base.get? b=some o):b∉X.fs:=λc=>by
 have:=(a.oK.mem c).1;rw[e]at this;cases this
theorem Inv.bs(I:Inv X f g H s):∀b o,X.base.get? b=some o->s.heap.get? b=some o/\H b=none:=λb o e=>
 ⟨I.base.keep b o (I.ok.bs b o e).1 (I.ok.bs b o e).2 (I.ok.acf e) (I.ok.Si b o e),I.base.free b o (I.ok.bs b o e).1 (I.ok.bs b o e).2 (I.ok.Si b o e)⟩
theorem Inv.bk(I:Inv X f g H s):∀b o,X.base.get? b=some o->s.heap.get? b=some o:=λb o e=>(I.bs b o e).1
theorem Inv.mod(I:Inv X f g H s):Mod X.K X.mg X.base:=I.ok.mod
theorem Inv.ϵ(I:Inv X f g H s):X.K.In s.heap:=I.ok.mod.Vc.keeps I.bk
theorem Inv.lt(I:Inv X f g H s):X.env.locals<s.heap.objs.size:=let ⟨_,hn,_⟩:=I.loc;hn.lt
theorem Inv.sz(I:Inv X f g H s):X.s₀.heap.objs.size<=s.heap.objs.size:=aR I.ok.above (ic I.lt)
theorem Inv.acg(I:Inv X f g H s){a:Addr}(h:s.heap.objs.size<=a):a∉X.fs:=λc=>by
 obtain⟨_,o,b,_⟩:=I.ok.oK.mem c;exact absurd (bc (aI b) (aR I.sz h)) (dh _)
theorem Inv.Wn(I:Inv X f g H s):∀x c,X.env.cells.lookup x=some c->c≠X.env.locals:=λx c e z=>by
 obtain⟨v,o,b,d⟩:=I.cell x c e;obtain⟨m,⟨j,k,i,h,a,_⟩,_⟩:=I.loc;rw[z,h]at b;cases b;rw[a]at d;cases d
theorem Inv.oK(I:Inv X f g H s):s.heap.FunFrames X.base X.outer:=by
 have a:∀(l:List Env),(∀b∈ϝ l,b∈X.fs)->X.s₀.heap.FunFrames X.base l->s.heap.FunFrames X.base l:=by
  intro l
  induction l with
  | nil=>intro _ _;trivial
  | cons env r ih=>
    intro i n;obtain⟨q,⟨L,o,c,m,j,k⟩,p⟩:=n;have d:L∈X.fs:=i L (by unfold ϝ;rw[iE,c];exact aP);obtain⟨t,e⟩:=I.base.slot L o j (I.ok.UU L d) d λz=>I.ok.Rq L z d;exact⟨q,⟨L,_,c,m,e,k⟩,ih (λb h=>i b (by unfold ϝ;rw[iE,c];exact aL _ h)) p⟩
 exact a X.outer (λ_ h=>h) I.ok.oK
theorem Inv.stack(I:Inv X f g H s):s.heap.FunFrames X.base X.stack:=by
 rcases I.ok.Wm with e|⟨e,a⟩
 .rw[e];exact I.oK
 .rw[e];obtain⟨m,b,_⟩:=I.loc;refine .cons (by rw[I.ok.kind];decide) a b ?_ I.oK;exact gf (aR I.ok.Ui I.ok.above)
theorem Inv.RX(I:Inv X f g H s):∀b∈ϝ X.stack,b∈X.env.locals::X.fs:=λb a=>by
 rcases I.ok.Wm with e|⟨e,c⟩
 .rw[e]at a;exact aL _ a
 .rw[e]at a;unfold ϝ at a;rw[iE,c]at a;exact a
theorem Inv.Ϯ(I:Inv X f g H s):∀b∈ϝ X.stack,H b=none:=λb hb=>by
 rcases aG.mp (I.RX b hb)with e|hb
 .rw[e];exact I.free
 .obtain⟨_,o,ho,_⟩:=I.ok.oK.mem hb;exact I.base.free b o ho (I.ok.UU b hb) λz=>I.ok.Rq b z hb
theorem Inv.step{g':Array GenState}{t':Nat}{d':Drawn}{ch:gy}(I:Inv X f g H s)(J:∀b∈ch,(b∈X.ex\/X.s₀.heap.objs.size<=b)/\b≠X.env.locals/\(∀x c,X.env.cells.lookup x=some c->c≠b)/\∀p∈X.pn++f,p.1≠b)(keep:∀b o,b≠X.env.locals->b∉X.fs->b∉ch->s.heap.get? b=some o->H b=none->h'.get? b=some o)(slot:∀b o,b≠X.env.locals->b∈X.fs->b∉ch->s.heap.get? b=some o->H b=none->∃O,h'.get? b=some { o with slots:=O })(free:∀b o,b∉ch->s.heap.get? b=some o->H b=none->B b=none)(there:∀b o,b∉ch->s.heap.get? b=some o->∃C,h'.get? b=some C)(iS:∀b t,H b=some (.tup t)->B b=some (.tup t))(ϸ:∀b o u,H b=some (.SW o u)->B b=some (.SW o u))(lE:∀b L,H b=some (.VJ L)->∃D,B b=some (.VJ (L++D)))(R:∀m,s.heap.Ns X.env.locals m->h'.Ns X.env.locals m)(T:Ϸ X.prog X.w B h')(U:AllBare g'):Inv X f g B { s with heap:=h',gens:=g',drawn:=d',toks:=t' }:=by
 have E:∀b o,X.s₀.heap.get? b=some o->b≠X.env.locals:=λb o e=>aU (bc (aI e) I.ok.above);have K:∀b o,X.s₀.heap.get? b=some o->b∉X.ex->b∉ch:=λb o e a y=>by
  rcases(J b y).1 with z|z
  .exact a z
  .exact absurd (bc (aI e) z) (dh _)
 have h:∀x c,X.env.cells.lookup x=some c->∀v,s.heap.IsCell c v->h'.IsCell c v:=λx c e v ⟨o,A,M⟩=>by
  have G:c∉ch:=λz=>(J c z).2.2.1 x c e rfl;by_cases Q:c∈X.fs
  .obtain⟨O,q⟩:=slot c o (I.Wn x c e) Q G A (I.ϐ x c e);exact⟨_,q,M⟩
  .exact⟨o,keep c o (I.Wn x c e) Q G A (I.ϐ x c e),M⟩
 refine⟨I.ok,I.os,U,⟨λb o e n y a=>?_,λb o e n y a=>?_,λb o e n a=>?_,λb o e a=>?_,λb t e=>iS b t (I.base.iS b t e),λb o t e=>ϸ b o t (I.base.ϸ b o t e),λb L e=>?_⟩,?_,λx c e=>?_,?_,λx c e=>?_,λp P=>?_,T,I.len⟩
 .exact keep b o (E b o e) y (K b o e a) (I.base.keep b o e n y a) (I.base.free b o e n a)
 .obtain⟨O,j⟩:=I.base.slot b o e n y a;obtain⟨N,F⟩:=slot b _ (E b o e) y (K b o e a) j (I.base.free b o e n a);exact⟨N,F⟩
 .obtain⟨C,j⟩:=I.base.there b o e a;exact free b C (K b o e a) j (I.base.free b o e n a)
 .obtain⟨C,j⟩:=I.base.there b o e a;exact there b C (K b o e a) j
 .obtain⟨m1,j⟩:=I.base.lE b L e;obtain⟨V,F⟩:=lE b _ j;exact⟨m1++V,by rw[F,Array.append_assoc]⟩
 .obtain⟨m,hn,hl⟩:=I.loc;refine⟨m,R m hn,λi x v j F S=>?_⟩;obtain⟨u,r,l⟩:=hl i x v j F S;refine⟨u,r,?_⟩;rcases l with l|⟨k,c,e,z⟩
  .exact .inl l
  .exact .inr ⟨k,c,e,h x c e _ z⟩
 .obtain⟨v,z⟩:=I.cell x c e;exact⟨v,h x c e v z⟩
 .obtain⟨m,⟨o,_,_,A,_⟩,_⟩:=I.loc;exact free _ o (λz=>(J _ z).2.1 rfl) A I.free
 .obtain⟨v,o,A,M⟩:=I.cell x c e;exact free c o (λz=>(J c z).2.2.1 x c e rfl) A (I.ϐ x c e)
 .obtain⟨e,n,ne,nf,d⟩:=I.pin p P;have G:p.1∉ch:=λz=>(J p.1 z).2.2.2 p P rfl;exact⟨keep p.1 p.2 ne nf G e n,free p.1 p.2 G e n,ne,nf,d⟩
theorem Inv.un{t':Nat}(I:Inv X f g H s)(u:Un X.fs [] H B s.heap h')(p:Ϸ X.prog X.w B h'):Inv X f g B { s with heap:=h',toks:=t' }:=by
 obtain⟨m,⟨o,t,x,d,r⟩,_⟩:=id I.loc;obtain⟨v,i⟩:=u.any d I.free (by simp);exact I.step (g':=s.gens) (d':=s.drawn) (ch:=[]) (λ_ z=>nomatch z) (λb o _ c _ e n=>u.keep b o e n c (by simp)) (λb o _ c _ e n=>u.slot b o e n c (by simp)) (λb o _ e n=>u.free b o e n (by simp)) (λb o _ e=>u.there b o e (by simp)) u.iS u.ϸ u.lE (λy k=>by
  obtain⟨q,l,a,h,j⟩:=k;rw[d]at h;cases h;exact⟨_,l,a,i,j⟩) p I.bare
theorem Inv.call{g':Array GenState}{t':Nat}{d':Drawn}{ch:gy}(I:Inv X f g H s)(u:Un (ϝ X.stack) ch H B s.heap h')(y:Ϸ X.prog X.w B h')(A:AllBare g')(k:∀b∈ch,(b∈X.ex\/X.s₀.heap.objs.size<=b)/\b≠X.env.locals/\(∀x c,X.env.cells.lookup x=some c->c≠b)/\∀p∈X.pn++f,p.1≠b):Inv X f g B { s with heap:=h',gens:=g',drawn:=d',toks:=t' }:=by
 obtain⟨m,⟨o,D,F,i,r⟩,_⟩:=id I.loc;obtain⟨E,h⟩:=u.any i I.free λz=>(k _ z).2.1 rfl;exact I.step (ch:=ch) k (λb o h l a e n=>u.keep b o e n (λz=>(aG.mp (I.RX b z)).elim h l) a) (λb o _ _ a e n=>u.any e n a) (λb o a e n=>u.free b o e n a) (λb o a e=>u.there b o e a) u.iS u.ϸ u.lE (λG t=>by
  obtain⟨C,v,d,j,q⟩:=t;rw[i]at j;cases j;exact⟨_,v,d,h,q⟩) y A
theorem Inv.turned{t':Nat}{it:Addr}(I:Inv X f g H s)(k:∀b o,b≠it->s.heap.get? b=some o->h'.get? b=some o)(w:H it=none)(h:it≠X.env.locals)(j:it∈X.ex\/X.s₀.heap.objs.size<=it)(i:∀x c,X.env.cells.lookup x=some c->c≠it)(l:∀p∈X.pn++f,p.1≠it):Inv X f g H { s with heap:=h',toks:=t' }:=by
 have d:∀b u,H b=some u->b≠it:=λb u e z=>by rw[z,w]at e;cases e
 refine I.step (g':=s.gens) (d':=s.drawn) (ch:=[it]) (λb t=>?_) (λb o _ _ a e _=>k b o (λz=>a (by simp[z])) e) (λb o _ _ a e _=>⟨o.slots,k b o (λz=>a (by simp[z])) e⟩) (λ_ _ _ _ n=>n)
  (λb o a e=>⟨o,k b o (λz=>a (by simp[z])) e⟩) (λ_ _ e=>e) (λ_ _ _ e=>e) (λb A e=>⟨#[],by rw[e];simp⟩) (λm y=>?_) (λb u e=>?_) I.bare
 .have e:b=it:=by simpa using t
  subst e;exact⟨j,h,i,l⟩
 .obtain⟨o,es,ep,ho,r⟩:=y;exact⟨o,es,ep,k _ o (Ne.symm h) ho,r⟩
 .refine(I.χ b u e).iO (λc v a q=>k c v ?_ q) (λ_ q=>q) λ_ _ q=>q;rcases a with z|z
  .rw[z];exact d b u e
  .exact d c _ z
theorem Inv.tok(I:Inv X f g H s)(t:Nat):Inv X f g H { s with toks:=t }:=I.un (h':=s.heap) (t':=t) Un.refl I.χ
theorem Inv.kept{t':Nat}(I:Inv X f g H s)(k:∀b u,s.heap.get? b=some u->h'.get? b=some u):Inv X f g H { s with heap:=h',toks:=t' }:=I.un (Un.kept k) (I.χ.kept k)
theorem Inv.laid{a:Addr}{o:HO}{t':Nat}(I:Inv X f g H s)(k:∀b u,s.heap.get? b=some u->h'.get? b=some u)(c:s.heap.objs.size<=a)(d:Δ X.prog X.w (upd H a o) h' a o):Inv X f g (upd H a o) { s with heap:=h',toks:=t' }:=I.un (Un.laid k c (I.χ.fresh c)) (I.χ.laid k c d)
theorem Inv.write{x e:Addr}{o:HO}{t':Nat}(I:Inv X f g H s)(c:X0 (H x))(d:e=x\/H e=some (.own x))(k:∀b u,b≠e->s.heap.get? b=some u->h'.get? b=some u)(h:∃u,h'.get? e=some u)(a:Δ X.prog X.w (upd H x o) h' x o):Inv X f g (upd H x o) { s with heap:=h',toks:=t' }:=I.un (Un.write c d k h) (I.χ.write c d k h a)
theorem Inv.Tg{a:fz}(I:Inv X f g H s)(h:∀p∈a,s.heap.get? p.1=some p.2/\H p.1=none/\p.1≠X.env.locals/\p.1∉X.fs/\∀v,p.2.data≠.cell v):Inv X a g H s:=⟨I.ok,I.os,I.bare,I.base,I.loc,I.cell,I.free,I.ϐ,λp b=>(aK.mp b).elim (λz=>I.pin p (bH _ z)) (h p),I.χ,I.len⟩
theorem ES{N:hO}(d:N.Nodup){i j:Nat}{x:Str}(a:N[i]?=some x)(b:N[j]?=some x):i=j:=by
 obtain⟨h,e⟩:=ay.mp a;obtain⟨k,c⟩:=ay.mp b;exact(List.getElem_inj d).mp (e.trans c.symm)
theorem yA{M:Model}{A:Around}{E:fc}{i:Nat}{x:Str}{v:V}{u:Value}{Q:Unit->Shared->Prop}(I:Inv X f g H s)(hN:X.N.Nodup)(K:X.N[i]?=some x)(D:Loc X.env.scope x)(r:RelV v u)(h:∀s',Inv X f (g.set i (some v)) H s'->(∃a,Heap.SameBut a s.heap s'.heap/\(a=X.env.locals\/X.env.cells.lookup x=some a))->Q () s')(hf:X.fn x=true\/X.env.scope.names.lookup x=some .local:=by first|exact .inl rfl|exact .inr rfl|assumption):wpAny M A (storeName X.env x u) Q E s:=by
 obtain⟨m,U,hl⟩:=id I.loc;have S:(X.env.scope.kind==.class||(X.env.scope.kind==.module&&X.env.locals != X.env.globals))=false:=by rw[I.ok.kind];rfl
 have X5:i<g.length:=by rw[I.len];exact(ay.mp K).1
 have Wn:=I.Wn;have C:∀{a:Addr}{h':Heap},(∃o,s.heap.get? a=some o/\H a=none)->Heap.SameBut a s.heap h'->Ϸ X.prog X.w H h':=λ{a h'} ha l b ob e=>by
  obtain⟨_,_,Sj⟩:=ha;refine(I.χ b ob e).iO (λc L hc q=>(l.2 c ?_).trans q) (λ_ q=>q) λ_ _ q=>q;rintro rfl;rcases hc with rfl|hc
  .rw[Sj]at e;cases e
  .rw[Sj]at hc;cases hc
 rcases D with hk|hk
 .refine wpAny_storeName_local hk U (λh' Wo l=>?_) S;obtain⟨oL,_,_,P,_⟩:=id U;refine h _ ⟨I.ok,I.os,I.bare,⟨λb o e n G D=>?_,λb o e n G D=>?_,I.base.free,λb o e D=>?_,I.base.iS,I.base.ϸ,I.base.lE⟩,⟨_,Wo,λj y W t F Z=>?_⟩,λy c e=>?_,I.free,I.ϐ,λp Y=>?_,C ⟨oL,P,I.free⟩ l,by simpa using I.len⟩ ⟨_,l,.inl rfl⟩
  .exact(l.2 b (aU (bc (aI e) I.ok.above))).trans (I.base.keep b o e n G D)
  .obtain⟨sl,t⟩:=I.base.slot b o e n G D;exact⟨sl,(l.2 b (aU (bc (aI e) I.ok.above))).trans t⟩
  .obtain⟨o',t⟩:=I.base.there b o e D;exact⟨o',(l.2 b (aU (bc (aI e) I.ok.above))).trans t⟩
  .by_cases hj:j=i
   .subst hj;rw[K]at t;cases t;rw[cN X5]at F;cases F;exact⟨u,r,.inl ⟨hk,by simp⟩⟩
   .rw[cV (Ne.symm hj)]at F;obtain⟨R,r',q⟩:=hl j y W t F Z;refine⟨R,r',?_⟩;rcases q with⟨k,e⟩|⟨k,c,e,z⟩
    .refine .inl ⟨k,?_⟩;have:y≠x:=λe=>hj (ES hN t (e▸K));simp[this,e]
    .exact .inr ⟨k,c,e,z.sameBut l (Wn y c e)⟩
  .obtain⟨L,z⟩:=I.cell y c e;exact⟨L,z.sameBut l (Wn y c e)⟩
  .obtain⟨e,n,ne,nf,d⟩:=I.pin p Y;exact⟨(l.2 p.1 ne).trans e,n,ne,nf,d⟩
 .have hfn:X.fn x=true:=by
   rcases hf with z|z
   .exact z
   .rw[z]at hk;cases hk
  obtain⟨c,hc⟩:=I.ok.has x (.inl hk);obtain⟨L,z⟩:=I.cell x c hc;refine wpAny_storeName_cell I.ok.kind hk hc z (λh' X6 l=>?_);obtain⟨oc,J,T⟩:=id z;refine h { s with heap:=h' } ⟨I.ok,I.os,I.bare,⟨λb o e n G D=>?_,λb o e n G D=>?_,I.base.free,λb o e D=>?_,I.base.iS,I.base.ϸ,I.base.lE⟩,⟨m,U.sameBut l (Ne.symm (Wn x c hc)),λj y W t F Z=>?_⟩,λy O e=>?_,I.free,I.ϐ,λp Y=>?_,C ⟨oc,J,I.ϐ x c hc⟩ l,by simpa using I.len⟩ ⟨c,l,.inr hc⟩
  .exact(l.2 b (aU (bc (aI e) (I.ok.VL x c hfn hc)))).trans (I.base.keep b o e n G D)
  .obtain⟨sl,t⟩:=I.base.slot b o e n G D;exact⟨sl,(l.2 b (aU (bc (aI e) (I.ok.VL x c hfn hc)))).trans t⟩
  .obtain⟨o',t⟩:=I.base.there b o e D;exact⟨o',(l.2 b (aU (bc (aI e) (I.ok.VL x c hfn hc)))).trans t⟩
  .by_cases hj:j=i
   .subst hj;rw[K]at t;cases t;rw[cN X5]at F;cases F;exact⟨u,r,.inr ⟨.inl hk,c,hc,X6⟩⟩
   .rw[cV (Ne.symm hj)]at F;obtain⟨R,r',q⟩:=hl j y W t F Z;refine⟨R,r',?_⟩;rcases q with q|⟨k,O,e,z'⟩
    .exact .inl q
    .refine .inr ⟨k,O,e,z'.sameBut l ?_⟩;rintro rfl;exact hj (ES hN t (I.ok.inj _ _ _ e hc▸K))
  .by_cases hcc:O=c
   .subst hcc;exact⟨_,X6⟩
   .obtain⟨w2,z2⟩:=I.cell y O e;exact⟨w2,z2.sameBut l hcc⟩
  .obtain⟨e,n,ne,nf,d⟩:=I.pin p Y;refine⟨(l.2 p.1 ?_).trans e,n,ne,nf,d⟩;intro q;rw[q,J]at e;have q':oc=p.2:=bC e;exact d L (by rw[<-q'];exact T)
theorem tY{M:Model}{A:Around}{E:fc}{i:Nat}{x:Str}{v:V}{u:Value}{Q:Unit->Shared->Prop}(I:Inv X f g H s)(e:X.N.Nodup)(j:X.N[i]?=some x)(c:Loc X.env.scope x)(r:RelV v u)(h:∀a,Inv X f (g.set i (some v)) H a->Q () a)(b:X.fn x=true\/X.env.scope.names.lookup x=some .local:=by first|exact .inl rfl|exact .inr rfl|assumption):wpAny M A (storeName X.env x u) Q E s:=yA I e j c r (λa d _=>h a d) b
theorem Inv.Th{s':Shared}{ch:gy}(I:Inv X f g H s)(i:s'.os=s.os)(u:Un (ϝ X.stack) ch H B s.heap s'.heap)(d:Ϸ X.prog X.w B s'.heap)(h:AllBare s'.gens)(j:∀b∈ch,(b∈X.ex\/X.s₀.heap.objs.size<=b)/\b≠X.env.locals/\(∀x c,X.env.cells.lookup x=some c->c≠b)/\∀p∈X.pn++f,p.1≠b):Inv X f g B s':=by
 obtain⟨h',g',d',t',a⟩:=s';have e:a=s.os:=i;subst e;exact I.call (g':=g') (t':=t') (d':=d') u d h j
end
abbrev XK:=Value->Option Addr->Hp->Prop
abbrev St:=List (Option V)
abbrev VK:=V->Hp->Prop
abbrev TE:=St->Hp->VK->Prop
abbrev TT:=St->Hp->(Bool->Hp->Prop)->Prop
abbrev TA:=St->Hp->(List V->Hp->Prop)->Prop
structure Ends where
 nx:St->Hp->Prop
 rt:VK
 bk:St->Hp->Prop:=λ_ _=>False
 ct:St->Hp->Prop:=λ_ _=>False
abbrev TS:=Ends->St->Hp->Prop
def EP(X:Cx)(a:fz)(d:St)(Q:VK)(u:Value)(c:Shared):Prop:=∃v b,Inv X a d b c/\RelV v u/\Q v b
def TP(X:Cx)(a:fz)(e:St)(Q:Bool->Hp->Prop)(b:Bool)(d:Shared):Prop:=∃c,Inv X a e c d/\Q b c
def AP(X:Cx)(a:fz)(e:St)(Q:List V->Hp->Prop)(f:g8)(d:Shared):Prop:=∃b c,Inv X a e c d/\Vals b f/\Q b c
def SP(X:Cx)(b:fz)(D:Ends)(f:Flow)(d:Shared):Prop:=match f with
 | .next=>∃a c,Inv X b a c d/\D.nx a c
 | .brk=>∃a c,Inv X b a c d/\D.bk a c
 | .cont=>∃a c,Inv X b a c d/\D.ct a c
 | .ret u=>∃v a c,Inv X b a c d/\RelV v u/\D.rt v c
def PE(X:Cx)(e:Expr)(t:TE):Prop:=∀(a:fz)(s:Shared)(b:St)(H:Hp)(Q:VK),Inv X a b H s->t b H Q->wpAny (model X.prog X.w) X.A (eval e X.env) (EP X a b Q) X.xe s
def PT(X:Cx)(e:Expr)(t:TT):Prop:=∀(a:fz)(s:Shared)(b:St)(H:Hp)(Q:Bool->Hp->Prop),Inv X a b H s->t b H Q->wpAny (model X.prog X.w) X.A (isTrue e X.env (eval e X.env)) (TP X a b Q) X.xe s
def PW(X:Cx)(e:Expr)(t:TT):Prop:=∀(b:Sem Value)(a:fz)(s:Shared)(c:St)(H:Hp)(Q:Bool->Hp->Prop),Inv X a c H s->t c H Q->wpAny (model X.prog X.w) X.A (isTrue e X.env b) (TP X a c Q) X.xe s
theorem PW.pt{X:Cx}{e:Expr}{t:TT}(h:PW X e t):PT X e t:=h _
def PA(X:Cx)(d:List Expr)(t:TA):Prop:=∀(c:Pos)(a:fz)(s:Shared)(b:St)(H:Hp)(Q:List V->Hp->Prop),Inv X a b H s->t b H Q->wpAny (model X.prog X.w) X.A (spliced (backTo c (starEach d X.env))) (AP X a b Q) X.xe s
def PS(X:Cx)(st:Stmt)(t:TS):Prop:=∀(a:fz)(s:Shared)(b:St)(H:Hp)(D:Ends),Inv X a b H s->t D b H->wpAny (model X.prog X.w) X.A (exec st X.env) (SP X a D) X.xe s
def Sl(X:Cx)(st:List Stmt)(t:TS):Prop:=∀(a:fz)(s:Shared)(b:St)(H:Hp)(D:Ends),Inv X a b H s->t D b H->wpAny (model X.prog X.w) X.A (execs st X.env) (SP X a D) X.xe s
theorem Χ{b:Type}{t:Sem b}{Q c:b->Shared->Prop}{M:Model}{A:Around}{E:fc}{s:Shared}(h:wpAny M A t Q E s)(d:∀a s,Q a s->c a s):wpAny M A t c E s:=bu h d λ_ _ x=>x
theorem dP{t:Sem Value}{X:Cx}{a:fz}{c:St}{Q:VK}{b:fc}{M:Model}{A:Around}{E:fc}{s:Shared}(h:wpAny M A t (EP X a c Q) E s)(d:∀u s v H,Inv X a c H s->RelV v u->Q v H->b u s):wpAny M A t b E s:=Χ h λu s ⟨v,H,I,r,q⟩=>d u s v H I r q
theorem sd{t:Sem (List Value)}{X:Cx}{a:fz}{c:St}{Q:List V->Hp->Prop}{b:List Value->Shared->Prop}{M:Model}{A:Around}{E:fc}{s:Shared}(h:wpAny M A t (AP X a c Q) E s)(d:∀u s v H,Inv X a c H s->Vals v u->Q v H->b u s):wpAny M A t b E s:=Χ h λu s ⟨v,H,I,r,q⟩=>d u s v H I r q
theorem we{t:Sem Bool}{X:Cx}{a:fz}{c:St}{Q:Bool->Hp->Prop}{b:Bool->Shared->Prop}{M:Model}{A:Around}{E:fc}{s:Shared}(h:wpAny M A t (TP X a c Q) E s)(d:∀u s H,Inv X a c H s->Q u H->b u s):wpAny M A t b E s:=Χ h λu s ⟨H,I,q⟩=>d u s H I q
section
variable{X:Cx}
def xp(i:Nat):TE:=λa H Q=>∃v,a[i]?=some (some v)/\Q v H
def tC(v:V):TE:=λ_ H Q=>Q v H
theorem Gp{i:Nat}{x:Str}{f:Pos}(n:X.N[i]?=some x)(k:Vis X.env.scope x)(d:(x==("__debug__":Str))=false:=by decide)(j:(x==("__classdict__":Str))=false:=by decide):PE X (.Name x f) (xp i):=by
 intro b s g H Q I h;obtain⟨v,e,h⟩:=h;obtain⟨m,o,p⟩:=I.loc;obtain⟨u,r,l⟩:=p i x v n e k;have a:EP X b g Q u s:=⟨v,H,I,r,h⟩;rcases l with⟨hk,hm⟩|⟨hk,c,hc,Q8⟩
 .exact wpAny_Name (wpAny_loadName_local I.ok.kind hk o hm a) d
 .rcases hk with hk|hk
  .exact wpAny_Name (wpAny_loadName_cell I.ok.kind hk hc Q8 a) d
  .exact wpAny_Name (wpAny_loadName_free I.ok.kind hk hc Q8 a j) d
theorem aD{i j pos}:PE X (.Constant (.int i) j pos) (tC (.int i)):=λ_ _ _ H _ I h=>wpAny_Constant_int ⟨.int i,H,I.tok _,⟨_,rfl⟩,h⟩
theorem wB{b j pos}:PE X (.Constant (.bool b) j pos) (tC (.bl b)):=λ_ _ _ H _ I h=>Constant_bool ⟨.bl b,H,I,rfl,h⟩
theorem AU{j pos}:PE X (.Constant .none j pos) (tC .τ):=λ_ _ _ H _ I h=>Constant_none ⟨.τ,H,I,rfl,h⟩
theorem bo{x j pos}:PE X (.Constant (.str x) j pos) (tC (.str x)):=λ_ _ _ H _ I h=>Calls.Constant_str ⟨.str x,H,I.tok _,⟨_,rfl⟩,h⟩
def Gl(X:Cx)(x:Str):Prop:=X.env.kindOf x=some .globalImplicit
theorem nA{E:fc}{a:fz}{s:Shared}{e:St}{H:Hp}{x:Str}{u:Value}{b:Pos}{Q:fc}(I:Inv X a e H s)(c:Gl X x)(d:X.mg x=some u)(h:Q u s)(f:(x==("__debug__":Str))=false:=by decide):wpAny (model X.prog X.w) X.A (eval (.Name x b) X.env) Q E s:=kj I.ok.kind c (Calls.loadGlobal_global (by rw[I.ok.glob];exact I.mod.glob.keeps I.bk) d h) f
theorem pB{E:fc}{a:fz}{s:Shared}{d:St}{H:Hp}{x:Str}{u:Value}{b:Pos}{Q:fc}(I:Inv X a d H s)(k:Gl X x)(j:X.mg x=none)(f:bootBuiltins x=some u)(h:Q u s)(i:x≠"__name__":=by decide)(g:(x==("__debug__":Str))=false:=by decide):wpAny (model X.prog X.w) X.A (eval (.Name x b) X.env) Q E s:=by
 obtain⟨l,e,c⟩:=I.mod.blt;exact kj I.ok.kind k (Calls.loadGlobal_builtin (by rw[I.ok.glob];exact I.mod.glob.keeps I.bk) j (by rw[I.ok.blt];exact e.keeps I.bk) ((c x i).trans f) h) g
theorem CK{x:Str}{v:V}{u:Value}{a:Pos}(b:Gl X x)(c:X.mg x=some u)(r:RelV v u)(d:(x==("__debug__":Str))=false:=by decide):PE X (.Name x a) (tC v):=λ_ _ _ H _ I h=>nA I b c ⟨v,H,I,r,h⟩ d
theorem NU{x:Str}{v:V}{u:Value}{a:Pos}(b:Gl X x)(d:X.mg x=none)(c:bootBuiltins x=some u)(r:RelV v u)(hn:x≠"__name__":=by decide)(hd:(x==("__debug__":Str))=false:=by decide):PE X (.Name x a) (tC v):=λ_ _ _ H _ I h=>pB I b d c ⟨v,H,I,r,h⟩ hn hd
variable{a b:Expr}{g k:TE}{pos:Pos}
def PC(X:Cx)(h:CmpOp)(a b:Expr)(t:TE):Prop:=∀(c:fz)(s:Shared)(f:St)(H:Hp)(Q:VK),Inv X c f H s->t f H Q->wpAny (model X.prog X.w) X.A (eval a X.env) (λv e=>wpAny (model X.prog X.w) X.A (eval b X.env) (λu d=>wpAny (model X.prog X.w) X.A (compareOp h v u) (EP X c f Q) X.xe d) X.xe e) X.xe s
def tB(t:TE):TT:=λe H Q=>t e H λx d=>∃c,x=.bl c/\Q c d
theorem PP{i:CmpOp}{t:TE}(h:PC X i a b t)(f:behindInMarks i b=false:=by first|exact X7 _ (by decide) (by decide)|rfl):PT X (.Compare a [i] [b] pos) (tB t):=by
 intro e s m H Q I o;refine wpAny_isTrue_Compare1 (Χ (h e s m H _ I o) λv w f=>Χ f λu y l=>Χ l λc z ⟨x,n,j,p,r⟩=>?_) f;obtain⟨d,rfl,q⟩:=r;cases p;exact dc ⟨n,j,q⟩
theorem mR{e:Expr}{t:TE}(h:PE X e t)(j:∀c,isTrue e X.env c=(do let v <-c;standAt e.pos;holding [v] (truthy v)):=by intro _;rfl):PT X e (tB t):=by
 intro f s l H Q I n;refine isTrue_plain (dP (h f s l H _ I n) λv r x m i o p=>?_) (j _);obtain⟨d,rfl,q⟩:=p;cases o;exact dc ⟨m,i,q⟩
variable{n o:TT}{f:List Expr}
def Mr(t u:TT):TT:=λe H Q=>t e H λc d=>if c=true then u e d Q else Q false d
def tOr(t u:TT):TT:=λe H Q=>t e H λc d=>if c=true then Q true d else u e d Q
def Nm(t:TT):TT:=λe H Q=>t e H λc d=>Q (!c) d
theorem vM(i:PT X a n):PW X (.BoolOp .And [a] pos) n:=by
 intro m d s j H Q I h;refine isTrue_and (Χ (i d s j H Q I h) λc l e=>?_);cases c with
 | true=>exact isTrue_and_nil e
 | false=>exact e
theorem B8(i:PT X a n):PW X (.BoolOp .Or [a] pos) n:=by
 intro m d s j H Q I h;refine isTrue_or (Χ (i d s j H Q I h) λc l e=>?_);cases c with
 | false=>exact isTrue_or_nil e
 | true=>exact e
theorem yk(p:PT X a n)(r:PW X (.BoolOp .And (b::f) pos) o):PW X (.BoolOp .And (a::b::f) pos) (Mr n o):=by
 intro q d s l H Q I h;refine isTrue_and (we (p d s l H _ I h) λc m e i j=>?_);cases c with
 | true=>exact r q d m l e Q i j
 | false=>exact⟨e,i,j⟩
theorem yN(p:PT X a n)(r:PW X (.BoolOp .Or (b::f) pos) o):PW X (.BoolOp .Or (a::b::f) pos) (tOr n o):=by
 intro q d s l H Q I h;refine isTrue_or (we (p d s l H _ I h) λc m e i j=>?_);cases c with
 | true=>exact⟨e,i,j⟩
 | false=>exact r q d m l e Q i j
theorem nj(i:PT X a n):PT X (.UnaryOp .Not a pos) (Nm n):=by
 intro d s j H Q I h;exact isTrue_not (i d s j H (λc e=>Q (!c) e) I h)
def JO(g k:TE):TE:=λe H Q=>g e H λx d=>∃c,x=.bl c/\if c=true then k e d Q else Q (.bl false) d
def My(g k:TE):TE:=λe H Q=>g e H λx d=>∃c,x=.bl c/\if c=true then Q (.bl true) d else k e d Q
theorem BZ{op}{t:TE}(h:PE X a t):PE X (.BoolOp op [a] pos) t:=λc s d H Q I e=>BoolOp_one (h c s d H Q I e)
theorem BR(p:PE X a g)(r:PE X (.BoolOp .And (b::f) pos) k):PE X (.BoolOp .And (a::b::f) pos) (JO g k):=by
 intro d s l H Q I h;refine BoolOp_and (dP (p d s l H _ I h) λv m x i j q e=>?_);obtain⟨c,rfl,e⟩:=e;cases q;refine dc ?_;cases c with
 | true=>exact r d m l i Q j e
 | false=>exact⟨.bl false,i,j,rfl,e⟩
theorem Qd(p:PE X a g)(r:PE X (.BoolOp .Or (b::f) pos) k):PE X (.BoolOp .Or (a::b::f) pos) (My g k):=by
 intro d s l H Q I h;refine BoolOp_or (dP (p d s l H _ I h) λv m x i j q e=>?_);obtain⟨c,rfl,e⟩:=e;cases q;refine dc ?_;cases c with
 | false=>exact r d m l i Q j e
 | true=>exact⟨.bl true,i,j,rfl,e⟩
def tIf(t:TT)(g k:TE):TE:=λd H Q=>t d H λc e=>if c=true then g d e Q else k d e Q
theorem LU{c:Expr}(r:PT X c n)(q:PE X a g)(t:PE X b k):PE X (.IfExp c a b pos) (tIf n g k):=by
 intro e s i H Q I h;refine wpAny_IfExp (we (r e s i H _ I h) λd j l m p=>?_);cases d with
 | true=>exact q e j i l Q m p
 | false=>exact t e j i l Q m p
end
def ξ(K:fv)(H:Hp)(a:Addr)(xs:List V):Prop:=Rd H a (.lst xs)\/∃(o:Obj)(b:Array Value)(n:Nat),K.lookup a=some o/\o.cls=.type "list"/\o.dict=none/\o.data=.seq b n/\b.size<=sizeLine/\Vals xs b.toList
def Β(K:fv)(H:Hp)(a:Addr)(xs:List V):Prop:=Rd H a (.tup xs)\/∃(o:Obj)(b:Array Value)(n:Nat),K.lookup a=some o/\o.cls=.type "tuple"/\o.data=.seq b n/\b.size<=sizeLine/\Vals xs b.toList
def Qy:Value->Option V
 | .none=>some .τ
 | .bool b=>some (.bl b)
 | .int i _=>some (.int i)
 | .str x _=>some (.str x)
 | .bytes b _=>some (.Tf b)
 | .float b _=>some (.Wk b)
 | .ref a=>some (.ref a)
 | .type n=>some (.ty n)
 | _=>none
theorem RelV.abs{x:V}{u:Value}(r:RelV x u):Qy u=some x:=by
 cases x with
 | τ=>cases r;rfl
 | bl _=>cases r;rfl
 | int _=>obtain⟨t,rfl⟩:=r;rfl
 | str _=>obtain⟨t,rfl⟩:=r;rfl
 | Tf _=>obtain⟨t,rfl⟩:=r;rfl
 | Wk _=>obtain⟨t,rfl⟩:=r;rfl
 | ref _=>cases r;rfl
 | ty _=>cases r;rfl
theorem RelV.inj{x y:V}{u:Value}(r:RelV x u)(q:RelV y u):x=y:=bC (r.abs.symm.trans q.abs)
theorem Vals.inj{b a:List V}{d:g8}(h:Vals b d)(c:Vals a d):b=a:=by
 induction h generalizing a with
 | nil=>cases c;rfl
 | cons r _ ih=>cases c with|cons r2 t2=>rw[r.inj r2,ih t2]
section
variable{X:Cx}{b:fz}{c:St}{H:Hp}{s:Shared}{a:Addr}{xs f:List V}
theorem ξ.of{K:fv}(h:H a=some (.lst xs)):ξ K H a xs:=.inl (.inl h)
theorem Β.of{K:fv}(h:H a=some (.tup xs)):Β K H a xs:=.inl (.inl h)
theorem Inv.list(I:Inv X b c H s)(h:ξ X.K H a xs):∃its:List Value,Vals xs its/\PlainL s.heap a its.toArray/\xs.length<=sizeLine:=by
 rcases h with h|⟨o,its,n,j,g,i,d,k,r⟩
 .obtain⟨z,its,n,r,e⟩:=h.ok I.χ;exact⟨its,r,⟨_,n,e,rfl,rfl,rfl⟩,z⟩
 .refine⟨its.toList,r,⟨o,n,I.ϵ a o j,g,i,by simpa using d⟩,?_⟩;have e:=r.length;simp only[gG]at e
  lia
theorem Inv.tuple(I:Inv X b c H s)(h:Β X.K H a xs):∃d:List Value,Vals xs d/\IsTup s.heap a d.toArray/\xs.length<=sizeLine:=by
 rcases h with h|⟨o,d,n,j,i,g,k,r⟩
 .obtain⟨z,d,r,p⟩:=h.ok I.χ;exact⟨d,r,p,z⟩
 .refine⟨d.toList,r,⟨o,I.ϵ a o j,i,n,by simpa using g⟩,?_⟩;have e:=r.length;simp only[gG]at e
  lia
theorem Inv.Ac(I:Inv X b c H s)(h:ξ X.K H a xs)(m:ξ X.K H a f):xs=f:=by
 obtain⟨i,r,⟨o,n,e,_,_,d⟩,_⟩:=I.list h;obtain⟨g,l,⟨p,q,k,_,_,j⟩,_⟩:=I.list m;rw[e]at k;cases k;rw[d]at j;injection j with d1 _
 have:i=g:=by simpa using congrArg Array.toList d1
 subst this;exact r.inj l
theorem Inv.RM(I:Inv X b c H s)(h:Β X.K H a xs)(m:Β X.K H a f):xs=f:=by
 obtain⟨i,r,⟨o,e,_,n,d⟩,_⟩:=I.tuple h;obtain⟨g,l,⟨p,k,_,q,j⟩,_⟩:=I.tuple m;rw[e]at k;cases k;rw[d]at j;injection j with d1 _
 have:i=g:=by simpa using congrArg Array.toList d1
 subst this;exact r.inj l
end
abbrev Cx.wish(X:Cx)(E:fc):Cx:={ X with xe:=E }
abbrev Cx.Ua(X:Cx):Cx:=X.wish λ_ _=>False
theorem Cx.Ok.wish{X:Cx}(a:X.Ok)(E:fc):(X.wish E).Ok:=⟨a.mod,a.kind,a.glob,a.blt,a.above,a.inj,a.has,a.VL,a.hd,a.frames,a.Wm,a.X3,a.bs,a.Ui,a.Si,a.Rq,a.oK,a.UU⟩
theorem Cx.Ok.ϒ{X:Cx}{E:fc}(a:(X.wish E).Ok):X.Ok:=⟨a.mod,a.kind,a.glob,a.blt,a.above,a.inj,a.has,a.VL,a.hd,a.frames,a.Wm,a.X3,a.bs,a.Ui,a.Si,a.Rq,a.oK,a.UU⟩
section
variable{X:Cx}{a:fz}{b:St}{H:Hp}{s:Shared}{E:fc}
theorem Inv.wish(I:Inv X a b H s)(E:fc):Inv (X.wish E) a b H s:=⟨I.ok.wish E,I.os,I.bare,I.base,I.loc,I.cell,I.free,I.ϐ,I.pin,I.χ,I.len⟩
theorem Inv.ϒ(I:Inv (X.wish E) a b H s):Inv X a b H s:=⟨I.ok.ϒ,I.os,I.bare,I.base,I.loc,I.cell,I.free,I.ϐ,I.pin,I.χ,I.len⟩
theorem SP.ϒ{D:Ends}{f:Flow}{e:Shared}(h:SP (X.wish E) a D f e):SP X a D f e:=by
 cases f with
 | next=>obtain⟨c,d,I,q⟩:=h;exact⟨c,d,I.ϒ,q⟩
 | brk=>obtain⟨c,d,I,q⟩:=h;exact⟨c,d,I.ϒ,q⟩
 | cont=>obtain⟨c,d,I,q⟩:=h;exact⟨c,d,I.ϒ,q⟩
 | ret u=>obtain⟨v,c,d,I,r,q⟩:=h;exact⟨v,c,d,I.ϒ,r,q⟩
theorem Sl.Ua{st:List Stmt}{t:TS}(h:Sl X.Ua st t):Sl X st t:=λa s b H D I c=>
 bu (h a s b H D (I.wish _) c) (λ_ _ q=>q.ϒ) λ_ _ z=>False.elim z
end
section
variable{X:Cx}{k:Stmt}{j:List Stmt}{t u:TS}{e:Expr}{i:TE}{g:Pos}
def Uj:TS:=λD a H=>D.nx a H
def IB(t u:TS):TS:=λD a H=>t { D with nx:=u D } a H
theorem bE:Sl X [] Uj:=λ_ _ a H _ I h=>gn ⟨a,H,I,h⟩
theorem aA(o:PS X k t)(l:Sl X j u):Sl X (k::j) (IB t u):=by
 intro a s n H D I h;refine kL (Χ (o a s n H { D with nx:=u D } I h) λf c q=>?_);cases f with
 | next=>
   obtain⟨b,m,d,q⟩:=q;exact l a c b m D d q
 | ret v=>exact q
 | brk=>exact q
 | cont=>exact q
theorem aH(c:PS X k t):Sl X [k] t:=by
 intro a s b H D I h;refine kL (Χ (c a s b H D I h) λf d q=>?_);cases f with
 | next=>exact gn q
 | ret v=>exact q
 | brk=>exact q
 | cont=>exact q
theorem Inv.quiet{a:fz}{b:St}{H:Hp}{s:Shared}(I:Inv X a b H s):interactive X.env=false:=by simp[interactive,I.ok.kind]
def JG(i:TE):TS:=λD a H=>i a H λ_ b=>D.nx a b
theorem cL(m:PE X e i)(c:swapsWith e none g.line X.env=pure false:=by rfl):PS X (.Expr e g) (JG i):=by
 intro a s b H D I h;exact wpAny_Expr_any (dP (m a s b H _ I h) λv n x d f o l=>⟨b,d,f,l⟩) I.quiet c
def MA(i:TE):TS:=λD a H=>i a H D.rt
theorem bp(m:PE X e i):PS X (.Return (some e) g) (MA i):=by
 intro a s b H D I h;exact wpAny_Return_some (dP (m a s b H _ I h) λv n x c d f l=>⟨x,b,c,d,f,l⟩)
def Nt(c:TT)(t u:TS):TS:=λD a H=>c a H λb d=>if b=true then t D a d else u D a d
theorem b5{c:Expr}{a b:List Stmt}{o:TT}(v:PT X c o)(r:Sl X a t)(w:Sl X b u):PS X (.If c a b g) (Nt o t u):=by
 intro f s l H D I h;refine wpAny_If (we (v f s l H _ I h) λd m p n q=>?_);cases d with
 | true=>exact r f m l p D n q
 | false=>exact w f m l p D n q
def Uk:TS:=λ_ _ _=>False
theorem Mc:PS X k Uk:=λ_ _ _ _ _ _ h=>h.elim
end
abbrev TG:=V->St->Hp->(St->Hp->Prop)->Prop
abbrev VN:=List V->St->Hp->(St->Hp->Prop)->Prop
def PG(X:Cx)(a:Expr)(t:TG):Prop:=∀(b:fz)(s:Shared)(d:St)(H:Hp)(v:V)(u:Value)(Q:St->Hp->Prop),Inv X b d H s->RelV v u->t v d H Q->wpAny (model X.prog X.w) X.A (assign a X.env u) (λ_ f=>∃c e,Inv X b c e f/\Q c e) X.xe s
def Xv(X:Cx)(g:List Expr)(t:VN):Prop:=∀(a:fz)(s:Shared)(d:St)(H:Hp)(c:List V)(f:g8)(Q:St->Hp->Prop),Inv X a d H s->Vals c f->t c d H Q->wpAny (model X.prog X.w) X.A (assignInOrder ((assignEach g X.env).map (·.2)) f) (λ_ h=>∃b e,Inv X a b e h/\Q b e) X.xe s
abbrev FA:=V->V->V->Hp->(Hp->Prop)->Prop
def LQ(X:Cx)(t:FA):Prop:=∀(a:fz)(s:Shared)(b:St)(H:Hp)(o i v:V)(e d u:Value)(Q:Hp->Prop),Inv X a b H s->RelV o e->RelV i d->RelV v u->t o i v H Q->wpAny (model X.prog X.w) X.A (setItem e d u) (λ_ f=>∃c,Inv X a b c f/\Q c) X.xe s
abbrev Zu:=V->V->Hp->VK->Prop
def PIp(X:Cx)(c:Operator)(t:Zu):Prop:=∀(a:fz)(s:Shared)(b:St)(H:Hp)(x y:V)(v u:Value)(Q:VK),Inv X a b H s->RelV x v->RelV y u->t x y H Q->wpAny (model X.prog X.w) X.A (inplaceOp c v u) (EP X a b Q) X.xe s
section
variable{X:Cx}{c:Pos}
def uc(i:Nat):TG:=λv a H Q=>Q (a.set i (some v)) H
theorem fq{i:Nat}{x:Str}(f:X.N.Nodup)(g:X.N[i]?=some x)(d:Loc X.env.scope x)(b:X.fn x=true\/X.env.scope.names.lookup x=some .local:=by first|exact .inl rfl|exact .inr rfl|assumption):PG X (.Name x c) (uc i):=by
 intro a s k H v u Q I r h;exact wpAny_assign_Name (tY I f g d r (λj e=>⟨_,H,e,h⟩) b)
def Wq:VN:=λa b H Q=>a=[]/\Q b H
def JD(t:TG)(u:VN):VN:=λb e H Q=>∃v r,b=v::r/\t v e H λa d=>u r a d Q
theorem iT:Xv X [] Wq:=by
 intro a s b H d f Q I r h;obtain⟨e,h⟩:=h;subst e;cases r;exact assignInOrder_nil ⟨b,H,I,h⟩
theorem cK{e:Expr}{b:List Expr}{t:TG}{u:VN}(k:PG X e t)(i:Xv X b u)(m:(assignEach (e::b) X.env).map (·.2)=assign e X.env::(assignEach b X.env).map (·.2):=by rfl):Xv X (e::b) (JD t u):=by
 intro a s j H q w Q I r h;obtain⟨v,p,n,h⟩:=h;subst n;cases r with
 | cons r rr=>
   rw[m];refine assignInOrder_cons (Χ (k a s j H _ _ _ I r h) λ_ f ⟨d,l,g,o⟩=>?_);exact i a f d l _ _ Q g rr o
def JN(K:fv)(n:Nat)(t:VN):TG:=λv d H Q=>∃a b,v=.ref a/\Β K H a b/\b.length=n/\t b d H Q
theorem kU{f:List Expr}{k:Nat}{t:VN}{n:Nat}(B:X.calm=true)(h:Xv X f t)(hn:(assignEach f X.env).length=n:=by rfl)(l:(assignEach f X.env).findIdx? (·.1)=none:=by rfl):PG X (.Tuple f k c) (JN X.K n t):=by
 intro d s i H v u Q I r g;obtain⟨a,w,A,q,z,g⟩:=g;subst A;cases r;obtain⟨C,j,y,D⟩:=I.tuple q;refine assign_Tuple_tuple (I.ok.hd B) y (by simp[hn,<-z,j.length]) l λx p=>?_;have m:Inv X d i H { s with heap:=x }:=I.kept (t':=s.toks) λb o e=>p b o (aU (aI e)) e;exact h d _ i H w _ Q m (by simpa using j) g
def LA(f e:TE)(t:FA):TG:=λv a H Q=>f a H λo d=>e a d λi g=>t o i v g λb=>Q a b
theorem rX{o i:Expr}{f g:TE}{t:FA}(l:PE X o f)(q:PE X i g)(w:LQ X t)(z:∀v,assign (.Subscript o i c) X.env v=(do
 let b <-holding [v] (eval o X.env)
 let d <-holding [v,b] (eval i X.env)
 standAt c
 holding [v,b,d] (setItem b d v)
 release [v,b,d] []):=by intro _;rfl):PG X (.Subscript o i c) (LA f g t):=by
 intro a s e H v u Q I r h;rw[z];refine aj (fY (dP (l a s e H _ I h) λb j x m k F G=>?_));refine aj (fY (dP (q a j e m _ k G) λd p y D C B J=>?_));refine aj (cH (aj (fY (Χ (w a p e D x y v b d u _ C F B r J) λ_ K ⟨E,n,A⟩=>?_))));exact wpAny_release ⟨e,E,n,A⟩
def Ar(d:TE)(g:TG):TS:=λD a H=>d a H λx b=>g x a b D.nx
theorem mW{b e:Expr}{d:TE}{g:TG}(k:PE X e d)(r:PG X b g)(o:swapsWithSole [b] e c.line X.env=pure false:=by rfl)(n:swappedStores [b] e X.env=pure none:=by rfl)(l:(assignEach [b] X.env).map (·.2)=[assign b X.env]:=by rfl):PS X (.Assign [b] e c) (Ar d g):=by
 intro a s f H D I h;refine wpAny_Assign_stores (dP (k a s f H _ I h) λv i x m j p t=>?_) o n;rw[l];exact Χ (r a i f m x v _ j p t) λ_ u q=>q
theorem vD{i:Nat}{x:Str}{e:Expr}{d:TE}{a:Pos}(m:X.N.Nodup)(n:X.N[i]?=some x)(g:Loc X.env.scope x)(j:PE X e d)(p:swapsWith e (some (.Name x a)) c.line X.env=pure false:=by rfl)(o:X.fn x=true\/X.env.scope.names.lookup x=some .local:=by first|exact .inl rfl|exact .inr rfl|assumption):PS X (.Assign [.Name x a] e c) (Ar d (uc i)):=by
 intro b s k H D I h;refine wpAny_Assign_Name (dP (j b s k H _ I h) λv u y l f r t=>?_) p;exact tY f m n g r (λw q=>⟨_,l,q,t⟩) o
def JL(e k b:TE)(m:V->V->Hp->VK->Prop)(f:Zu)(n:FA):TS:=λD a H=>e a H λo g=>k a g λi l=>m o i l λx p=>b a p λy h=>f x y h λz j=>n o i z j λd=>D.nx a d
def PM(X:Cx)(t:V->V->Hp->VK->Prop):Prop:=∀(a:fz)(s:Shared)(b:St)(H:Hp)(o i:V)(e d:Value)(Q:VK),Inv X a b H s->RelV o e->RelV i d->t o i H Q->wpAny (model X.prog X.w) X.A (getItem e d) (EP X a b Q) X.xe s
theorem rg{o i e:Expr}{l p k:TE}{u:V->V->Hp->VK->Prop}{m:Zu}{w:FA}{r:Operator}{E:Pos}(G:PE X o l)(Y:PE X i p)(hg:PM X u)(J:PE X e k)(Z:PIp X r m)(hs:LQ X w)(ha:∀g f b,augStore i g f b=(do holding [b,g,f] (setItem g f b);release [b,g,f] [];pure .next):=by intros;rfl):PS X (.AugAssign (.Subscript o i E) r e c) (JL l p k u m w):=by
 intro a s d H D I h;refine wpAny_AugAssign_SubscriptAny (dP (G a s d H _ I h) λg z n P A t q1=>?_) ha;refine dP (Y a z d P _ A q1) λf T x H2 I2 q q2=>?_;refine Χ (hg a T d H2 n x g f _ I2 t q q2) λj s3 ⟨C,H3,R,y,q3⟩=>?_;refine dP (J a s3 d H3 _ R q3) λv s4 S Q M B L=>?_;refine Χ (Z a s4 d Q C S j v _ M y B L) λb O ⟨x5,U,I5,r5,W⟩=>?_;exact Χ (hs a O d U n x x5 g f b _ I5 t q r5 W) λ_ s6 ⟨K,F,N⟩=>⟨d,K,F,N⟩
def Zw(f:hT):Zu:=λx y H Q=>∃i j,x=.int i/\y=.int j/\Q (.int (f i j)) H
theorem vx:PIp X .Add (Zw λi j=>i+j):=by
 intro a s g H x y v u Q I f d h;obtain⟨i,j,e,b,q⟩:=h;subst e;subst b;obtain⟨t,rfl⟩:=f;obtain⟨k,rfl⟩:=d;exact iadd_int ⟨.int _,H,I.tok _,⟨_,rfl⟩,q⟩
theorem PQ:PIp X .Sub (Zw λi j=>i-j):=by
 intro a s g H x y v u Q I f d h;obtain⟨i,j,e,b,q⟩:=h;subst e;subst b;obtain⟨t,rfl⟩:=f;obtain⟨k,rfl⟩:=d;exact isub_int ⟨.int _,H,I.tok _,⟨_,rfl⟩,q⟩
end
section
variable{X:Cx}{a:Pos}
def F9(c:TT)(i:TS):TS:=λD d H=>∃W:Nat->St->Hp->Prop,(∃m,W m d H)/\∀m d H,W m d H->c d H λb f=>if b=true then ∃N:St->Hp->Prop,(∀e g,N e g->∃h,h<m/\W h e g)/\i { D with nx:=N,ct:=N,bk:=D.nx } d f else D.nx d f
theorem wy{c:Expr}{i:List Stmt}{x:TT}{F:TS}(B:PassesOwn (model X.prog X.w) X.A X.env X.xe)(P:PT X c x)(T:Sl X i F):PS X (.While c i [] a) (F9 x F):=by
 intro e s L H D I h;obtain⟨W,⟨M,S⟩,l⟩:=h;refine wpAny_While (codeAny_whileLoop (λn R=>∃j G,Inv X e j G R/\W n j G) ?_ M ⟨L,H,I,S⟩);rintro n J ⟨g,y,K,Q⟩;refine fC B (we (P e J g y _ K (l n g y Q)) λb O E C o=>?_);cases b with
 | true=>
   obtain⟨N,z,o⟩:=o;rw[ao rfl];refine fC B (Χ (T e O g E _ C o) λf U m=>?_);cases f with
   | next=>
     obtain⟨d,k,p,q⟩:=m;obtain⟨u,r,t⟩:=z d k q;exact⟨u,r,d,k,p,t⟩
   | cont=>
     obtain⟨d,k,p,q⟩:=m;obtain⟨u,r,t⟩:=z d k q;exact⟨u,r,d,k,p,t⟩
   | brk=>exact m
   | ret v=>exact m
 | false=>
   rw[ah bi];exact gn ⟨g,E,C,o⟩
end
structure It where
 go:Nat->Hp->Prop
 VO:Nat->Hp->V->Hp->Prop
 stop:Nat->Hp->Prop
def nN(X:Cx)(a:fz)(H:Hp)(b:Addr):Prop:=H b=none/\b≠X.env.locals/\b∉X.fs/\(b∈X.ex\/X.s₀.heap.objs.size<=b)/\(∀x c,X.env.cells.lookup x=some c->c≠b)/\∀p∈X.pn++a,p.1≠b
theorem Inv.SY{X:Cx}{a:fz}{i:St}{H f:Hp}{s:Shared}{b:Addr}(I:Inv X a i H s)(d:s.heap.objs.size<=b)(h:f b=none):nN X a f b:=by
 refine⟨h,eX (bc I.lt d),I.acg d,.inr (aR I.sz d),λx c e z=>?_,λp g z=>?_⟩
 .obtain⟨v,q⟩:=I.cell x c e;exact absurd (bc q.lt (by rw[z];exact d)) (dh _)
 .exact absurd (bc (aI (I.pin p g).1) (by rw[z];exact d)) (dh _)
structure Turn(P:Program)(w:World)(K:fv)(tg:Expr)(J:It)(fp:gy)(it:Addr)(tn:Nat->Heap->Prop):Prop where
 mem:it∈fp
 obj:∀i h,tn i h->∀b∈fp,∃o,h.get? b=some o/\∀v,o.data≠.cell v
 keep:∀i h h',tn i h->(∀b∈fp,∀o,h.get? b=some o->h'.get? b=some o)->tn i h'
 item:∀(X:Cx),X.prog=P->X.w=w->X.K=K->X.calm=true->∀(i:Nat)(pins:fz)(s:Shared)(σ:St)(H:Hp)(E:fc),Inv X pins σ H s->(∀b∈fp,nN X pins H b)->tn i s.heap->J.go i H->wpAny (model P w) X.A (pyNext (.ref it)) (λr s1=>∃u,r=some u/\wpAny (model P w) X.A (letOwnedTupleGo tg (.ref it) u) (λ_ s2=>∃x H',Inv X pins σ H' s2/\RelV x u/\J.VO i H x H'/\tn (i+1) s2.heap/\∀b∈fp,H' b=none) E s1) E s
 done:∀(X:Cx),X.prog=P->X.w=w->X.K=K->X.calm=true->∀(i:Nat)(pins:fz)(s:Shared)(σ:St)(H:Hp)(E:fc),Inv X pins σ H s->(∀b∈fp,nN X pins H b)->tn i s.heap->J.stop i H->wpAny (model P w) X.A (pyNext (.ref it)) (λr s1=>r=none/\Inv X pins σ H s1) E s
 self:∀(A:Around)(i:Nat)(s:Shared)(Q:fc)(E:fc),tn i s.heap->Q (.ref it) s->wpAny (model P w) A (pyIter (.ref it)) Q E s
abbrev TI:=St->Hp->(It->Hp->Prop)->Prop
def PIE(X:Cx)(a:fz)(j:St)(h:Expr)(R:It->Hp->Prop)(i:Value)(f:Shared):Prop:=∃(e:Addr)(d:gy)(g:Nat->Heap->Prop)(J:It)(c:Hp),i=.ref e/\Inv X a j c f/\Turn X.prog X.w X.K h J d e g/\g 0 f.heap/\(∀b∈d,nN X a c b)/\R J c
def PI(X:Cx)(e b:Expr)(f:TI):Prop:=∀(a:fz)(s:Shared)(c:St)(H:Hp)(R:It->Hp->Prop),Inv X a c H s->f c H R->wpAny (model X.prog X.w) X.A (eval b X.env) (λv d=>wpAny (model X.prog X.w) X.A (pyIter v) (PIE X a c e R) X.xe d) X.xe s
theorem Bi{M:Model}{A:Around}{E:fc}{s:Shared}{c:Expr}{b:Addr}{u:Value}{o:Obj}{n:String}{d:Array Value}{Q:Unit->Shared->Prop}(f:s.heap.get? b=some o)(e:o.cls=.type n)(g:o.data=.fields d)(i:["enumerate","zip","dict_itemiterator","dict_reverseitemiterator","odict_iterator","itertools.zip_longest","itertools.pairwise"].contains n=false)(a:Q () s):wpAny M A (letOwnedTupleGo c (.ref b) u) Q E s:=by
 unfold letOwnedTupleGo;cases c<;>first
  | exact aM a
  | (cases u<;>first
   | exact aM a
   | (refine aj (wpAny_load f ?_)
      rw[e,g];show wpAny M A (if(["enumerate","zip","dict_itemiterator","dict_reverseitemiterator","odict_iterator","itertools.zip_longest","itertools.pairwise"].contains n&&d[0]?==some (rawInt _))=true then _ else _) Q E s;rw[ah (by intro h;rw[i,gw]at h;cases h)];exact aM a))
def VP(K:fv)(a:Addr):It:=⟨λi H=>∃b x,ξ K H a b/\b[i]?=some x,λi H x c=>c=H/\∀b,ξ K H a b->b[i]?=some x,λi H=>∃b,ξ K H a b/\b.length<=i⟩
def Wr(K:fv)(a:Addr):It:=⟨λi H=>∃b x,Β K H a b/\b[i]?=some x,λi H x c=>c=H/\∀b,Β K H a b->b[i]?=some x,λi H=>∃b,Β K H a b/\b.length<=i⟩
def UX(lo:Int)(n:Nat):It:=⟨λi _=>i<n,λi H x a=>a=H/\x=.int (lo+i),λi _=>n<=i⟩
theorem KG{P:Program}{w:World}{K:fv}{R:Expr}(a g:Addr):Turn P w K R (VP K a) [g] g (λi h=>h.IsListIter g a i) where
 mem:=by simp
 obj:=λi h st b j=>by
  have e:b=g:=by simpa using j
  subst e;obtain⟨o,e,c,d⟩:=st;exact⟨o,e,λv z=>by rw[d]at z;cases z⟩
 keep:=λi h m st k=>st.at λo e=>k g (by simp) o e
 item:=by
  intro X t C A O i f s M H E I n st F;subst t C A;obtain⟨T,x,l,q⟩:=F;obtain⟨J,G,p,Z⟩:=I.list l;obtain⟨u,V,U⟩:=G.get q;obtain⟨r,L,Y,B,D,y⟩:=n g (by simp);refine wpAny_pyNext_list_item st p.isList (x:=u) (by simpa using V) λm N sb=>?_;have Q:Inv X f M H { s with heap:=m }:=I.turned (t':=s.toks) (λb o j e=>(sb.2 b j).trans e) r L B D y;obtain⟨o,e,c,d⟩:=id N;exact⟨u,rfl,Bi (s:={ s with heap:=m }) e c d (by decide) ⟨x,H,Q,U,⟨rfl,λys S=>by rw[I.Ac S l];exact q⟩,N,λb j=>(n b j).1⟩⟩
 done:=by
  intro X t C A O i f s M H E I n st F;subst t C A;obtain⟨T,l,q⟩:=F;obtain⟨J,G,p,Z⟩:=I.list l;obtain⟨r,L,Y,B,D,y⟩:=n g (by simp);have hl:=G.length;exact wpAny_pyNext_list_end (I.ok.hd O) st p.isList (by simp;lia) λm eb=>⟨rfl,I.turned (t':=s.toks) (λb o j e=>eb b o j e) r L B D y⟩
 self:=λ_ _ _ _ _ st h=>wpAny_pyIter_listiter st h
theorem IT{P:Program}{w:World}{K:fv}{R:Expr}(a g:Addr):Turn P w K R (Wr K a) [g] g (λi h=>h.IsTupleIter g a i) where
 mem:=by simp
 obj:=λi h st b l=>by
  have e:b=g:=by simpa using l
  subst e;obtain⟨o,e,c,d⟩:=st;exact⟨o,e,λv z=>by rw[d]at z;cases z⟩
 keep:=λi h n st k=>st.at λo e=>k g (by simp) o e
 item:=by
  intro X y D B O i f s M H E I q st G;subst y D B;obtain⟨T,x,m,r⟩:=G;obtain⟨j,J,p,Z⟩:=I.tuple m;obtain⟨u,V,U⟩:=J.get r;obtain⟨t,L,Y,C,F,A⟩:=q g (by simp);refine wpAny_pyNext_tuple_item st (show s.heap.IsTuple a j.toArray from p) (x:=u) (by simpa using V) λn N sb=>?_;have Q:Inv X f M H { s with heap:=n }:=I.turned (t':=s.toks) (λb o l e=>(sb.2 b l).trans e) t L C F A;obtain⟨o,e,c,d⟩:=id N;exact⟨u,rfl,Bi (s:={ s with heap:=n }) e c d (by decide) ⟨x,H,Q,U,⟨rfl,λys S=>by rw[I.RM S m];exact r⟩,N,λb l=>(q b l).1⟩⟩
 done:=by
  intro X y D B O i f s M H E I q st G;subst y D B;obtain⟨T,m,r⟩:=G;obtain⟨j,J,p,Z⟩:=I.tuple m;obtain⟨t,L,Y,C,F,A⟩:=q g (by simp);have hl:=J.length;exact wpAny_pyNext_tuple_end (I.ok.hd O) st (show s.heap.IsTuple a j.toArray from p) (by simp;lia) λn eb=>⟨rfl,I.turned (t':=s.toks) (λb o l e=>eb b o l e) t L C F A⟩
 self:=λ_ _ _ _ _ st h=>wpAny_pyIter_tupleiter st h
theorem Js{P:Program}{w:World}{K:fv}{F:Expr}(a:Addr)(lo:Int)(n:Nat):Turn P w K F (UX lo n) [a] a (λi h=>IsRangeIter h a (lo+(i:Nat)*1) ((n:Int)-(i:Nat)) 1) where
 mem:=by simp
 obj:=λi h st b d=>by
  have e:b=a:=by simpa using d
  subst e;exact⟨_,st,λv z=>by
   have G:Data.fields _=Data.cell v:=z;cases G⟩
 keep:=λi h f st k=>k a (by simp) _ st
 item:=by
  intro X l r p x i c s B H E I g st y;subst l r p;obtain⟨j,A,L,q,u,m⟩:=g a (by simp);have W:=Walks.range (prog:=X.prog) (w:=X.w) (I.ok.hd x) a lo 1 n;refine W.item i s _ _ y st λv f tk J C N=>?_;obtain⟨t,rfl⟩:=J;have D:Inv X c B H { s with heap:=f,toks:=tk }:=I.turned (λb o d e=>N b o (by simpa using d) e) j A q u m;refine⟨_,rfl,Bi (s:={ s with heap:=f,toks:=tk }) (n:="range_iterator") C rfl rfl (by decide) ⟨.int (lo+i),H,D,⟨t,?_⟩,⟨rfl,rfl⟩,C,λb d=>(g b d).1⟩⟩;rw[Int.mul_one]
 done:=by
  intro X l r p x i c s B H E I g st y;subst l r p;obtain⟨j,A,L,q,u,m⟩:=g a (by simp);exact wpAny_pyNext_range_end (I.ok.hd x) st (by have:n<=i:=y;lia) λf M=>⟨rfl,I.turned (t':=s.toks) (λb o d e=>M b o d e) j A q u m⟩
 self:=λ_ _ _ _ _ st h=>wpAny_pyIter_rangeiter st h
section
variable{X:Cx}{c:Expr}
def Jr(K:fv)(d:TE):TI:=λf H R=>d f H λx b=>∃a,x=.ref a/\(∃e,ξ K b a e)/\R (VP K a) b
def Nn(K:fv)(d:TE):TI:=λf H R=>d f H λx b=>∃a,x=.ref a/\(∃e,Β K b a e)/\R (Wr K a) b
theorem ie{l:Expr}{i:TE}(n:PE X l i):PI X c l (Jr X.K i):=by
 intro d s j H R I h;refine dP (n d s j H _ I h) λv f x k g r t=>?_;obtain⟨a,e,⟨y,m⟩,q⟩:=t;subst e;cases r;obtain⟨u,A,p,z⟩:=g.list m;refine iP p.isList ?_;refine⟨f.heap.objs.size,[f.heap.objs.size],_,_,k,rfl,g.kept (t':=f.toks) λb o e=>au _ e,KG a _,⟨_,bg _ rfl,rfl,rfl⟩,λb w=>?_,q⟩;have e:b=f.heap.objs.size:=by simpa using w
 subst e;exact g.SY (aN _) (g.χ.fresh (aN _))
theorem vk{l:Expr}{j:TE}(r:PE X l j):PI X c l (Nn X.K j):=by
 intro f s k H R I h;refine dP (r f s k H _ I h) λv d x m g t u=>?_;obtain⟨a,e,⟨y,n⟩,q⟩:=u;subst e;cases t;obtain⟨i,A,p,z⟩:=g.tuple n;refine j4 (show d.heap.IsTuple a i.toArray from p) ?_;refine⟨d.heap.objs.size,[d.heap.objs.size],_,_,m,rfl,g.kept (t':=d.toks) λb o e=>au _ e,IT a _,⟨_,bg _ rfl,rfl,rfl⟩,λb w=>?_,q⟩;have e:b=d.heap.objs.size:=by simpa using w
 subst e;exact g.SY (aN _) (g.χ.fresh (aN _))
theorem EU{d:fz}{h:St}{H:Hp}{s:Shared}{R:It->Hp->Prop}{E:fc}{lo a:Int}{t u v:Tok}{g:Nat}(I:Inv X d h H s)(j:-(2^62)<=lo)(i:lo<2^62)(k:-(2^62)<=a)(l:a<2^62)(q:R (UX lo (a-lo).toNat) H):wpAny (model X.prog X.w) X.A (pyIter (.ref s.heap.objs.size)) (PIE X d h c R) E { s with heap:=s.heap.push { cls:=.type "range",data:=.fields #[.int lo t,.int a u,.int 1 v] },toks:=g }:=by
 refine wpAny_pyIter_range (IsRange.new ..) (small_one j i k l) ?_;have f:Inv X d h H { s with heap:=s.heap.push { cls:=.type "range",data:=.fields #[.int lo t,.int a u,.int 1 v] },toks:=g }:=I.kept λb o e=>au _ e;refine⟨(s.heap.push { cls:=.type "range",data:=.fields #[.int lo t,.int a u,.int 1 v] }).objs.size,[(s.heap.push { cls:=.type "range",data:=.fields #[.int lo t,.int a u,.int 1 v] }).objs.size],_,_,H,rfl,f.kept (t':=g) λb o e=>au _ e,Js _ lo (a-lo).toNat,?_,λb n=>?_,q⟩
 .have e1:lo+((0:Nat):Int)*1=lo:=by simp
  have m:(((a-lo).toNat:Nat):Int)-((0:Nat):Int)=Builtin.Range.rangeSize lo a 1:=by rw[rangeSize_one];split<;>lia
  show IsRangeIter _ _ (lo+((0:Nat):Int)*1) ((((a-lo).toNat:Nat):Int)-((0:Nat):Int)) 1;rw[e1,m];exact bg _ rfl
 .have e:b=(s.heap.push { cls:=.type "range",data:=.fields #[.int lo t,.int a u,.int 1 v] }).objs.size:=by simpa using n
  subst e;exact f.SY (aN _) (f.χ.fresh (aN _))
def JH(a:TA):TI:=λe H R=>a e H λd b=>∃j:Int,d=[.int j]/\-(2^62)<=j/\j<2^62/\R (UX 0 j.toNat) b
def IY(a:TA):TI:=λe H R=>a e H λd b=>∃i j:Int,d=[.int i,.int j]/\(-(2^62)<=i/\i<2^62/\-(2^62)<=j/\j<2^62)/\R (UX i (j-i).toNat) b
theorem rZ{a:Expr}{g:TA}{p b:Pos}(u:Gl X "range")(n:X.mg "range"=none)(m:PA X [a] g)(l:starEach [a] X.env=[(false,eval a X.env)]:=by rfl):PI X c (.Call (.Name "range" p) [a] [] b) (JH g):=by
 intro d s k H R I h;refine Call_ (pB I u n boot_range (cF (sd (m b d s k H _ I h) λz w x y i o f=>?_) l rfl));obtain⟨j,e,f,v,q⟩:=f;subst e;cases o with
 | cons r rr=>
   cases rr;obtain⟨t,rfl⟩:=r;exact call_range_1 (EU i (by lia) (by lia) f v (by simpa using q))
theorem Dl{a b:Expr}{k:TA}{p d:Pos}(z:Gl X "range")(x:X.mg "range"=none)(w:PA X [a,b] k)(u:starEach [a,b] X.env=[(false,eval a X.env),(false,eval b X.env)]:=by rfl)(l:starEach [b] X.env=[(false,eval b X.env)]:=by rfl):PI X c (.Call (.Name "range" p) [a,b] [] d) (IY k):=by
 intro f s n H R I h;refine Call_ (pB I z x boot_range (cF (sd (w d f s n H _ I h) λF B C D m y g=>?_) (by rw[u,l]) (by rw[l];rfl)));obtain⟨i,j,e,⟨g,A,v,o⟩,q⟩:=g;subst e;cases y with
 | cons r rr=>
   cases rr with
   | cons r' rr=>
     cases rr;obtain⟨t,rfl⟩:=r;obtain⟨E,rfl⟩:=r';exact call_range_2 (EU m g A v o q)
def PU(k:TI)(g:TG)(j:TS):TS:=λD a H=>k a H λJ h=>∃W:Nat->Nat->St->Hp->Prop,(∃m,W 0 m a h)/\∀i m a H,W i m a H->(J.stop i H/\D.nx a H)\/(J.go i H/\∃N:St->Hp->Prop,(∀b d,N b d->∃f,f<m/\W (i+1) f b d)/\∀x d,J.VO i H x d->g x a d λe l=>j { D with nx:=N,ct:=N,bk:=D.nx } e l)
def mh(a:gy)(h:Heap):List (Addr×Obj):=a.filterMap λb=>(h.get? b).map λo=>(b,o)
theorem iM{a:gy}{h:Heap}{b:Addr}{o:Obj}(d:b∈a)(e:h.get? b=some o):(b,o)∈mh a h:=j5.mpr ⟨b,d,by rw[e];rfl⟩
theorem Lm{a:gy}{h:Heap}{p:Addr×Obj}(d:p∈mh a h):p.1∈a/\h.get? p.1=some p.2:=by
 obtain⟨b,g,e⟩:=j5.mp d;cases q:h.get? b with
 | none=>rw[q]at e;cases e
 | some o=>
   rw[q]at e;have f:(b,o)=p:=bC e;subst f;exact⟨g,q⟩
theorem Inv.pinned{a:fz}{g:St}{H:Hp}{s:Shared}{f:gy}(I:Inv X a g H s)(m:∀b∈f,nN X a H b)(j:∀b∈f,∃o,s.heap.get? b=some o/\∀v,o.data≠.cell v):Inv X (a++mh f s.heap) g H s:=I.Tg λp n=>(aK.mp n).elim (λz=>I.pin p (aX _ z)) λz=>by
 obtain⟨i,e⟩:=Lm z;obtain⟨k,q,l,_⟩:=m p.1 i;obtain⟨o,h,d⟩:=j p.1 i;rw[e]at h;cases h;exact⟨e,k,q,l,d⟩
theorem Inv.ϔ{a e:fz}{b:St}{H:Hp}{s:Shared}(I:Inv X (a++e) b H s):Inv X a b H s:=I.Tg λp d=>I.pin p (aX _ (bH _ d))
theorem gH{t:Expr}{F:List Stmt}{wi:TI}{g:TG}{tb:TS}{Q:Pos}(G:PassesOwn (model X.prog X.w) X.A X.env X.xe)(hc:X.calm=true)(hi:PI X c t wi)(hg:PG X c g)(q:Sl X F tb)(hs:∀x,foldedSetIterable t X.env x=pure x:=by intro _;rfl):PS X (.For c t F [] Q) (PU wi g tb):=by
 intro j s V H D I h;refine wpAny_For (Χ (hi j s V H _ I h) λv s1 h1=>Χ h1 λXw s2 h2=>?_) hs;obtain⟨it,L,tn,J,H2,e,I2,T,SN,Z,W,⟨m0,w0⟩,K⟩:=h2;subst e;have l:∀{C:Hp},(∀b∈L,C b=none)->∀b∈L,nN X j C b:=λhn b q=>⟨hn b q,(Z b q).2⟩;refine codeAny_forLoop_any (λn s'=>∃i B C,Inv X j B C s'/\tn i s'.heap/\(∀b∈L,C b=none)/\W i n B C) ?_ m0 ⟨0,V,H2,I2,SN,λb q=>(Z b q).1,w0⟩;rintro n s3 ⟨i,k,O,I3,Rh,Tj,w3⟩;rcases K i n k O w3 with⟨stop,qn⟩|⟨go,N,hN,step⟩
 .refine fC G (Χ (T.done X rfl rfl rfl hc i j s3 k O X.xe I3 (l Tj) Rh stop) λr s4 ⟨U,I4⟩=>?_);subst U;exact gn ⟨k,O,I4,qn⟩
 .refine fC G (Χ (T.item X rfl rfl rfl hc i j s3 k O X.xe I3 (l Tj) Rh go) λr s4 ⟨u,U,h4⟩=>?_);subst U;refine fC G (Χ h4 λ_ Y ⟨x,H5,I5,r5,y5,R,Vf⟩=>?_);have Vg:=I5.pinned (l Vf) (T.obj _ _ R);refine fC G (Χ (hg _ Y k H5 x u _ Vg r5 (step x H5 y5)) λ_ s6 ⟨S,H6,I6,q6⟩=>?_);refine fC G (Χ (q _ s6 S H6 _ I6 q6) λf P E=>?_);have z:∀{a:St}{y:Hp},Inv X (j++mh L Y.heap) a y P->N a y->∃m,m<n/\∃i B C,Inv X j B C P/\tn i P.heap/\(∀b∈L,C b=none)/\W i m B C:=λ{a y} p M=>by
   obtain⟨m',hm,w7⟩:=hN a y M;refine⟨m',hm,i+1,a,y,p.ϔ,T.keep _ _ _ R λb q o e=>(p.pin (b,o) (aX _ (aX _ (iM q e)))).1,λb q=>?_,w7⟩;obtain⟨o,e,d⟩:=T.obj _ _ R b q;exact(p.pin (b,o) (aX _ (aX _ (iM q e)))).2.1
  cases f with
  | next=>obtain⟨a,y,p,M⟩:=E;exact z p M
  | cont=>obtain⟨a,y,p,M⟩:=E;exact z p M
  | brk=>obtain⟨a,y,p,E⟩:=E;exact⟨a,y,p.ϔ,E⟩
  | ret v=>obtain⟨x7,a,y,p,r7,E⟩:=E;exact⟨x7,a,y,p.ϔ,r7,E⟩
end
theorem LX{K:fv}{a:Addr}{c:List V}{g:TG}{n:TS}{D:Ends}{b:St}{H:Hp}(d:Nat->St->Hp->Prop)(r:d 0 b H)(w:∀i b H,i<=c.length->d i b H->ξ K H a c)(v:∀i x b H,c[i]?=some x->d i b H->g x b H λj k=>n { D with nx:=d (i+1),ct:=d (i+1),bk:=D.nx } j k)(t:∀b H,d c.length b H->D.nx b H):∃W:Nat->Nat->St->Hp->Prop,(∃m,W 0 m b H)/\∀i m b H,W i m b H->((VP K a).stop i H/\D.nx b H)\/((VP K a).go i H/\∃N:St->Hp->Prop,(∀f h,N f h->∃o,o<m/\W (i+1) o f h)/\∀x h,(VP K a).VO i H x h->g x b h λj k=>n { D with nx:=N,ct:=N,bk:=D.nx } j k):=by
 refine⟨λi m b H=>m=c.length-i/\i<=c.length/\d i b H,⟨c.length,by simp,bT _,r⟩,?_⟩;rintro i m b H ⟨rfl,u,p⟩;have q:=w i b H u p;by_cases l:i<c.length
 .refine .inr ⟨⟨c,c[i],q,by simp[l]⟩,d (i+1),λf h s=>⟨c.length-(i+1),by lia,rfl,l,s⟩,λx h y=>?_⟩;obtain⟨e,y⟩:=y;subst e;exact v i x b _ (y c q) p
 .have e:i=c.length:=by lia
  subst e;exact .inl ⟨⟨c,q,aN _⟩,t b H p⟩
theorem Hm{K:fv}{a:Addr}{xs:List V}{g:TG}{l:TS}{D:Ends}{b:St}{H:Hp}(c:Nat->St->Hp->Prop)(o:c 0 b H)(v:∀i b H,i<=xs.length->c i b H->Β K H a xs)(u:∀i x b H,xs[i]?=some x->c i b H->g x b H λh j=>l { D with nx:=c (i+1),ct:=c (i+1),bk:=D.nx } h j)(s:∀b H,c xs.length b H->D.nx b H):∃W:Nat->Nat->St->Hp->Prop,(∃m,W 0 m b H)/\∀i m b H,W i m b H->((Wr K a).stop i H/\D.nx b H)\/((Wr K a).go i H/\∃N:St->Hp->Prop,(∀d f,N d f->∃n,n<m/\W (i+1) n d f)/\∀x f,(Wr K a).VO i H x f->g x b f λh j=>l { D with nx:=N,ct:=N,bk:=D.nx } h j):=by
 refine⟨λi m b H=>m=xs.length-i/\i<=xs.length/\c i b H,⟨xs.length,by simp,bT _,o⟩,?_⟩;rintro i m b H ⟨rfl,t,p⟩;have q:=v i b H t p;by_cases k:i<xs.length
 .refine .inr ⟨⟨xs,xs[i],q,by simp[k]⟩,c (i+1),λd f r=>⟨xs.length-(i+1),by lia,rfl,k,r⟩,λx f y=>?_⟩;obtain⟨e,y⟩:=y;subst e;exact u i x b _ (y xs q) p
 .have e:i=xs.length:=by lia
  subst e;exact .inl ⟨⟨xs,q,aN _⟩,s b H p⟩
theorem Ll{lo:Int}{n:Nat}{g:TG}{k:TS}{D:Ends}{a:St}{H:Hp}(c:Nat->St->Hp->Prop)(o:c 0 a H)(s:∀i a H,i<n->c i a H->g (.int (lo+i)) a H λf j=>k { D with nx:=c (i+1),ct:=c (i+1),bk:=D.nx } f j)(r:∀a H,c n a H->D.nx a H):∃W:Nat->Nat->St->Hp->Prop,(∃m,W 0 m a H)/\∀i m a H,W i m a H->((UX lo n).stop i H/\D.nx a H)\/((UX lo n).go i H/\∃N:St->Hp->Prop,(∀b d,N b d->∃l,l<m/\W (i+1) l b d)/\∀x d,(UX lo n).VO i H x d->g x a d λf j=>k { D with nx:=N,ct:=N,bk:=D.nx } f j):=by
 refine⟨λi m a H=>m=n-i/\i<=n/\c i a H,⟨n,by simp,bT _,o⟩,?_⟩;rintro i m a H ⟨rfl,t,p⟩;by_cases h:i<n
 .refine .inr ⟨h,c (i+1),λb d q=>⟨n-(i+1),by lia,rfl,h,q⟩,λx d y=>?_⟩;obtain⟨e,y⟩:=y;subst e y;exact s i a _ h p
 .have e:i=n:=by lia
  subst e;exact .inl ⟨aN _,r a H p⟩
abbrev R2:=V->V->Hp->VK->Prop
def oR(X:Cx)(f:Value->Value->Sem Value)(r:R2):Prop:=∀(a:fz)(s:Shared)(b:St)(H:Hp)(x y:V)(v u:Value)(Q:VK),Inv X a b H s->RelV x v->RelV y u->r x y H Q->wpAny (model X.prog X.w) X.A (f v u) (EP X a b Q) X.xe s
def UnR(X:Cx)(f:Value->Sem Value)(r:V->Hp->VK->Prop):Prop:=∀(a:fz)(s:Shared)(b:St)(H:Hp)(x:V)(v:Value)(Q:VK),Inv X a b H s->RelV x v->r x H Q->wpAny (model X.prog X.w) X.A (f v) (EP X a b Q) X.xe s
def kI(X:Cx)(f:Value)(r:List V->Hp->VK->Prop):Prop:=∀(a:fz)(s:Shared)(c:St)(H:Hp)(b:List V)(d:g8)(Q:VK),Inv X a c H s->Vals b d->r b H Q->wpAny (model X.prog X.w) X.A (call f d) (EP X a c Q) X.xe s
def QQ(X:Cx)(r:V->Hp->(Bool->Hp->Prop)->Prop):Prop:=∀(a:fz)(s:Shared)(b:St)(H:Hp)(x:V)(v:Value)(Q:Bool->Hp->Prop),Inv X a b H s->RelV x v->r x H Q->wpAny (model X.prog X.w) X.A (truthy v) (TP X a b Q) X.xe s
def Vh(r:R2)(b d:TE):TE:=λa H Q=>b a H λx c=>d a c λy e=>r x y e Q
def tUn(r:V->Hp->VK->Prop)(a:TE):TE:=λc H Q=>a c H λx b=>r x b Q
def rI(C:Int->Int->Prop)(g:Int->Int->V):R2:=λx y H Q=>∃i j,x=.int i/\y=.int j/\C i j/\Q (g i j) H
def UY(g:Int->Int->V):R2:=λx y H Q=>∃i j,x=.int i/\y=.int j/\Q (g i j) H
def rU(g:Int->V):V->Hp->VK->Prop:=λx H Q=>∃i,x=.int i/\Q (g i) H
section
variable{X:Cx}{a b c:Expr}{d k l:TE}{e:Pos}
theorem MT(B:PE X a d)(t:PE X b k){g:fz}{s:Shared}{i:St}{H:Hp}{R:V->V->Hp->Prop}(I:Inv X g i H s)(h:d i H λx p=>k i p λy j=>R x y j){Q:fc}{f:Value->Value->Sem Value}(z:∀v u o x y j,Inv X g i j o->RelV x v->RelV y u->R x y j->wpAny (model X.prog X.w) X.A (f v u) Q X.xe o):wpAny (model X.prog X.w) X.A (eval a X.env) (λv n=>wpAny (model X.prog X.w) X.A (eval b X.env) (λu m=>wpAny (model X.prog X.w) X.A (f v u) Q X.xe m) X.xe n) X.xe s:=by
 refine dP (B g s i H _ I h) λv q x p r E F=>?_;refine dP (t g q i p _ r F) λu o y j D C G=>?_;exact z v u o x y j D E C G
theorem aV{g:Operator}{r:R2}(i:oR X (binaryOp g) r)(p:PE X a d)(m:PE X b k):PE X (.BinOp a g b e) (Vh r d k):=by
 intro f s j H Q I h;exact wpAny_BinOp (MT p m I h λv u o x y z t w n q=>i f o j z x y v u Q t w n q)
theorem sG{g:UnaryOp}{r:V->Hp->VK->Prop}(t:UnR X (unaryOp g) r)(m:PE X a d):PE X (.UnaryOp g a e) (tUn r d):=by
 intro f s i H Q I h;exact UnaryOp_ (dP (m f s i H _ I h) λv j x n o p q=>t f j i n x v Q o p q)
theorem X8{f:Value->Value->Sem Value}{C:Int->Int->Prop}{g:hT}(m:∀(i j:Int) (t u:Tok) (s:Shared) (Q:fc) (E:fc),C i j->Q (.int (g i j) s.toks) { s with toks:=s.toks+1 }->wpAny (model X.prog X.w) X.A (f (.int i t) (.int j u)) Q E s):oR X f (rI C λi j=>.int (g i j)):=by
 intro n s B H x y v u Q I p o h;obtain⟨i,j,rfl,rfl,r,q⟩:=h;obtain⟨t,rfl⟩:=p;obtain⟨z,rfl⟩:=o;exact m i j t z s _ _ r ⟨.int (g i j),H,I.tok _,⟨_,rfl⟩,q⟩
theorem PN{f:Value->Value->Sem Value}{g:hT}(m:∀(i j:Int) (t u:Tok) (s:Shared) (Q:fc) (E:fc),Q (.int (g i j) s.toks) { s with toks:=s.toks+1 }->wpAny (model X.prog X.w) X.A (f (.int i t) (.int j u)) Q E s):oR X f (UY λi j=>.int (g i j)):=by
 intro n s z H x y v u Q I p o h;obtain⟨i,j,rfl,rfl,q⟩:=h;obtain⟨t,rfl⟩:=p;obtain⟨r,rfl⟩:=o;exact m i j t r s _ _ ⟨.int (g i j),H,I.tok _,⟨_,rfl⟩,q⟩
theorem Jh{f:Value->Value->Sem Value}{g:Int->Int->Bool}(m:∀(i j:Int) (t u:Tok) (s:Shared) (Q:fc) (E:fc),Q (.bool (g i j)) s->wpAny (model X.prog X.w) X.A (f (.int i t) (.int j u)) Q E s):oR X f (UY λi j=>.bl (g i j)):=by
 intro n s z H x y v u Q I p o h;obtain⟨i,j,rfl,rfl,q⟩:=h;obtain⟨t,rfl⟩:=p;obtain⟨r,rfl⟩:=o;exact m i j t r s _ _ ⟨.bl (g i j),H,I,rfl,q⟩
def z9(i j:Int):Prop:=0<j/\j<1073741824
def QF(i j:Int):Prop:=0<=j/\j<=1000000/\i.natAbs<2^64
def Ws(i j:Int):Prop:=(-(2^64)<i/\i<2^64)\/(-(2^64)<j/\j<2^64)
theorem Ws.ok{i j:Int}(h:Ws i j):IntMulOk i j:=by
 rcases h with⟨h1,h2⟩|⟨h1,h2⟩
 .exact .of_left (intBits_le_64 h1 h2)
 .exact .of_right (intBits_le_64 h1 h2)
theorem dR:oR X (binaryOp .Add) (UY λi j=>.int (i+j)):=PN λ_ _ _ _ _ _ _ q=>add_int q
theorem mj:oR X (binaryOp .Sub) (UY λi j=>.int (i-j)):=PN λ_ _ _ _ _ _ _ q=>sub_int q
theorem oq:oR X (binaryOp .Mult) (rI Ws λi j=>.int (i*j)):=X8 λ_ _ _ _ _ _ _ f q=>mul_int q f.ok
theorem dz:oR X (binaryOp .FloorDiv) (rI z9 λi j=>.int (i/j)):=X8 λi j _ _ _ _ _ f q=>by
 have h:(0:Int)<j:=f.1;have g:j<1073741824:=f.2;exact floordiv_int (by lia) (by rw[kh i (by lia)];exact q) (.inl (PyProof.noPylong_small (by lia)))
theorem cG:oR X (binaryOp .Mod) (rI (λ_ j=>0<j) λi j=>.int (i%j)):=X8 λi j _ _ _ _ _ f q=>by
 have g:(0:Int)<j:=f;exact mod_int' (by lia) (by rw[Int.fmod_eq_emod_of_nonneg i (by lia)];exact q)
theorem B3:oR X (binaryOp .Pow) (rI QF λi j=>.int (i^j.toNat)):=X8 λ_ _ _ _ _ _ _ f q=>pow_int_small f.1 f.2.1 f.2.2 q
theorem unI{f:Value->Sem Value}{g:dt}(j:∀(i:Int) (t:Tok) (s:Shared) (Q:fc) (E:fc),Q (.int (g i) s.toks) { s with toks:=s.toks+1 }->wpAny (model X.prog X.w) X.A (f (.int i t)) Q E s):UnR X f (rU λi=>.int (g i)):=by
 intro m s o H x v Q I n h;obtain⟨i,rfl,q⟩:=h;obtain⟨t,rfl⟩:=n;exact j i t s _ _ ⟨.int (g i),H,I.tok _,⟨_,rfl⟩,q⟩
theorem qg:UnR X (unaryOp .USub) (rU λi=>.int (-i)):=unI λ_ _ _ _ _ q=>neg_int q
end
def uP:V->V->Bool
 | .τ,.τ=>true|.τ,.int _=>true|.int _,.τ=>true|.τ,.bl _=>true|.bl _,.τ=>true|.τ,.str _=>true|.str _,.τ=>true
 | .int _,.int _=>true|.bl _,.bl _=>true|.str _,.str _=>true|.Tf _,.Tf _=>true
 | .int _,.str _=>true|.str _,.int _=>true|.bl _,.str _=>true|.str _,.bl _=>true
 | _,_=>false
def rEq:R2:=λx y H Q=>uP x y=true/\Q (.bl (decide (x=y))) H
def rNe:R2:=λx y H Q=>uP x y=true/\Q (.bl (!decide (x=y))) H
theorem HZ{i j:Int}:decide (V.int i=V.int j)=(i==j):=by
 rw[gO];simp
theorem KD{i j:Bool}:decide (V.bl i=V.bl j)=(i==j):=by
 rw[gO];simp
theorem Ih{i j:Str}:decide (V.str i=V.str j)=(i==j):=by
 rw[gO];simp
theorem Il{i j:Array UInt8}:decide (V.Tf i=V.Tf j)=(i.toList==j.toList):=by
 rw[gO];cases i;cases j;simp
section
variable{X:Cx}{a b c:Expr}{f g l:TE}{pos:Pos}
theorem eS{d:fz}{i:St}{H:Hp}{s:Shared}{Q:VK}{k h:Bool}(I:Inv X d i H s)(q:Q (.bl k) H)(e:k=h):EP X d i Q (.bool h) s:=by
 subst e;exact⟨.bl k,H,I,rfl,q⟩
theorem di:oR X (compareOp .Eq) rEq:=by
 intro n s o H x y v u Q I m d h;obtain⟨k,q⟩:=h;cases x with
 | τ=>
   cases m;cases y with
   | τ=>cases d;exact PySem.EqNone.eq_none_none (eS I q (by simp))
   | bl j=>cases d;exact PySem.EqNone.eq_none_bool (eS I q (by simp))
   | int j=>obtain⟨e,rfl⟩:=d;exact PySem.EqNone.eq_none_int (eS I q (by simp))
   | str j=>obtain⟨e,rfl⟩:=d;exact PySem.EqNone.eq_none_str (eS I q (by simp))
   | _=>exact absurd (show false=true from k) bi
 | bl i=>
   cases m;cases y with
   | τ=>cases d;exact PySem.EqNone.eq_bool_none (eS I q (by simp))
   | bl j=>cases d;exact eq_bool (eS I q KD)
   | str j=>obtain⟨e,rfl⟩:=d;exact PySem.EqMixed.eq_bool_str (eS I q (by simp))
   | _=>exact absurd (show false=true from k) bi
 | int i=>
   obtain⟨t,rfl⟩:=m;cases y with
   | τ=>cases d;exact PySem.EqNone.eq_int_none (eS I q (by simp))
   | int j=>obtain⟨e,rfl⟩:=d;exact eq_int (eS I q HZ)
   | str j=>obtain⟨e,rfl⟩:=d;exact PySem.EqMixed.eq_int_str (eS I q (by simp))
   | _=>exact absurd (show false=true from k) bi
 | str i=>
   obtain⟨t,rfl⟩:=m;cases y with
   | τ=>cases d;exact PySem.EqNone.eq_str_none (eS I q (by simp))
   | bl j=>cases d;exact PySem.EqMixed.eq_str_bool (eS I q (by simp))
   | int j=>obtain⟨e,rfl⟩:=d;exact PySem.EqMixed.eq_str_int (eS I q (by simp))
   | str j=>obtain⟨e,rfl⟩:=d;exact eq_str (eS I q Ih)
   | _=>exact absurd (show false=true from k) bi
 | Tf i=>
   obtain⟨t,rfl⟩:=m;cases y with
   | Tf j=>obtain⟨e,rfl⟩:=d;exact PySem.W.eq_bytes (eS I q Il)
   | _=>exact absurd (show false=true from k) bi
 | _=>cases y<;>exact absurd (show false=true from k) bi
theorem mL:oR X (compareOp .NotEq) rNe:=by
 intro n s o H x y v u Q I m d h;obtain⟨k,q⟩:=h;cases x with
 | τ=>
   cases m;cases y with
   | τ=>cases d;exact PySem.EqNone.ne_none_none (eS I q (by simp))
   | bl j=>cases d;exact PySem.EqNone.ne_none_bool (eS I q (by simp))
   | int j=>obtain⟨e,rfl⟩:=d;exact PySem.EqNone.ne_none_int (eS I q (by simp))
   | str j=>obtain⟨e,rfl⟩:=d;exact PySem.EqNone.ne_none_str (eS I q (by simp))
   | _=>exact absurd (show false=true from k) bi
 | bl i=>
   cases m;cases y with
   | τ=>cases d;exact PySem.EqNone.ne_bool_none (eS I q (by simp))
   | bl j=>cases d;exact ne_bool (eS I q (congrArg not KD))
   | str j=>obtain⟨e,rfl⟩:=d;exact PySem.EqMixed.ne_bool_str (eS I q (by simp))
   | _=>exact absurd (show false=true from k) bi
 | int i=>
   obtain⟨t,rfl⟩:=m;cases y with
   | τ=>cases d;exact PySem.EqNone.ne_int_none (eS I q (by simp))
   | int j=>obtain⟨e,rfl⟩:=d;exact ne_int (eS I q (congrArg not HZ))
   | str j=>obtain⟨e,rfl⟩:=d;exact PySem.EqMixed.ne_int_str (eS I q (by simp))
   | _=>exact absurd (show false=true from k) bi
 | str i=>
   obtain⟨t,rfl⟩:=m;cases y with
   | τ=>cases d;exact PySem.EqNone.ne_str_none (eS I q (by simp))
   | bl j=>cases d;exact PySem.EqMixed.ne_str_bool (eS I q (by simp))
   | int j=>obtain⟨e,rfl⟩:=d;exact PySem.EqMixed.ne_str_int (eS I q (by simp))
   | str j=>obtain⟨e,rfl⟩:=d;exact ne_str (eS I q (congrArg not Ih))
   | _=>exact absurd (show false=true from k) bi
 | Tf i=>
   obtain⟨t,rfl⟩:=m;cases y with
   | Tf j=>obtain⟨e,rfl⟩:=d;exact PySem.W.ne_bytes (eS I q (congrArg not Il))
   | _=>exact absurd (show false=true from k) bi
 | _=>cases y<;>exact absurd (show false=true from k) bi
theorem Be:oR X (compareOp .Lt) (UY λi j=>.bl (decide (i<j))):=Jh λ_ _ _ _ _ _ _ q=>lt_int q
theorem sA:oR X (compareOp .LtE) (UY λi j=>.bl (decide (i<=j))):=Jh λ_ _ _ _ _ _ _ q=>le_int q
theorem qk:oR X (compareOp .Gt) (UY λi j=>.bl (decide (j<i))):=Jh λ_ _ _ _ _ _ _ q=>gt_int q
theorem yZ:oR X (compareOp .GtE) (UY λi j=>.bl (decide (j<=i))):=Jh λ_ _ _ _ _ _ _ q=>ge_int q
theorem Ke:oR X (compareOp .In) (λx y H Q=>∃i j,x=.str i/\y=.str j/\Q (.bl (!(Builtin.Str.occurrences j i 0 j.length 1).isEmpty)) H):=by
 intro d s n H x y v u Q I e k h;obtain⟨i,j,rfl,rfl,q⟩:=h;obtain⟨t,rfl⟩:=e;obtain⟨m,rfl⟩:=k;exact in_str (eS I q rfl)
theorem jR(b:Expr){d:CmpOp}(h:d≠.In:=by decide)(i:d≠.NotIn:=by decide):behindInMarks d b=false:=by
 have j:(d==CmpOp.In)=false:=by cases d<;>first|rfl|exact absurd rfl h
 have e:(d==CmpOp.NotIn)=false:=by cases d<;>first|rfl|exact absurd rfl i
 cases b<;>simp[behindInMarks,j,e]
theorem kP{e:CmpOp}{r:R2}(i:oR X (compareOp e) r)(o:PE X a f)(k:PE X b g)(t:behindInMarks e b=false):PE X (.Compare a [e] [b] pos) (Vh r f g):=by
 intro d s j H Q I h;exact wpAny_Compare1 (MT o k I h λv u n x y z p w m q=>i d n j z x y v u Q p w m q) t
def BE(t:TE):TT:=λe H Q=>t e H λx d=>∃k,x=.bl k/\Q k d
theorem oQ{j:CmpOp}{r:R2}(p:oR X (compareOp j) r)(C:PE X a f)(w:PE X b g)(F:behindInMarks j b=false):PT X (.Compare a [j] [b] pos) (BE (Vh r f g)):=by
 intro d s i H Q I h;refine wpAny_isTrue_Compare1 (dP (C d s i H _ I h) λv n x q o K L=>dP (w d n i q _ o L) λu A y G E D M=>
  dP (p d A i G x y v u _ E K D M) λc N z J t m ⟨k,e,B⟩=>?_) F
 subst e;cases m;exact dc ⟨J,t,B⟩
def Bl(r j:R2)(f g l:TE):TE:=λd H Q=>f d H λx h=>g d h λy n=>r x y n λz e=>∃k,z=.bl k/\(if k=true then l d e λm i=>j y m i Q else Q (.bl false) e)
theorem Md{m n:CmpOp}{r t:R2}(E:oR X (compareOp m) r)(K:oR X (compareOp n) t)(S:PE X a f)(O:PE X b g)(Y:PE X c l)(V:lastMarks [m,n] [b,c]=false:=by with_unfolding_all rfl):PE X (.Compare a [m,n] [b,c] pos) (Bl r t f g l):=by
 intro i s j H Q I h;refine Compare_chain (dP (S i s j H _ I h) λv B x L C Z q1=>chain_link (dP (O i B j L _ C q1) λu P y W T q q2=>
  dP (E i P j W x y v u _ T Z q q2) λd R z w o A ⟨k,e,p⟩=>?_)) V
 subst e;cases A;refine dc ?_;cases k with
 | false=>exact ite_ff ⟨.bl false,w,o,rfl,p⟩
 | true=>exact ite_tt (chain_last (Χ (Y i R j w _ o p) λN U ⟨F,M,J,D,G⟩=>K i U j M y F u N Q J q D G))
theorem vO{m n:CmpOp}{r t:R2}(E:oR X (compareOp m) r)(L:oR X (compareOp n) t)(W:PE X a f)(R:PE X b g)(hc:PE X c l)(hm:lastMarks [m,n] [b,c]=false:=by with_unfolding_all rfl):PT X (.Compare a [m,n] [b,c] pos) (BE (Bl r t f g l)):=by
 intro i s j H Q I h;refine isTrue_chain (dP (W i s j H _ I h) λv B x M C r1 q1=>test_link (dP (R i B j M _ C q1) λu S y H2 Z q q2=>
  dP (E i S j H2 x y v u _ Z r1 q q2) λd V z w o A ⟨k,e,p⟩=>?_)) hm
 subst e;cases A;refine dc ?_;cases k with
 | false=>
   obtain⟨k',P,K⟩:=p;cases P;exact ite_ff ⟨w,o,K⟩
 | true=>
   refine ite_tt (test_last (Χ (hc i V j w _ o p) λO s4 ⟨F,N,J,D,G⟩=>Χ (L i s4 j N y F u O _ J q D G) λd' s5 ⟨z2,T,I5,r5,k2,Y,U⟩=>?_));subst Y;cases r5;exact dc ⟨T,I5,U⟩
def PZ(K:fv)(x:V)(H:Hp)(k:Bool):Prop:=match x with
 | .τ=>k=false
 | .bl b=>k=b
 | .int i=>k=(i != 0)
 | .str y=>y.length<=sizeLine/\k=((y.length:Int) != 0)
 | .Tf y=>y.size<=sizeLine/\k=((y.size:Int) != 0)
 | .ref p=>(∃d,ξ K H p d/\k=!d.isEmpty)\/(∃d,Β K H p d/\k=!d.isEmpty)\/∃e,H p=some (.dK e)/\k=!e.isEmpty
 | _=>False
theorem JC{d:Type}{h:List (d×V)}{e:List (d×Value)}(r:KV h e):(!e.isEmpty)=!h.isEmpty:=by
 cases r<;>rfl
theorem Bd{e:List V}{d:g8}(r:Vals e d):(!d.toArray.isEmpty)=!e.isEmpty:=by
 cases r<;>simp
theorem qv:(sizeLine:Nat)<2^63:=by rw[sizeLine_eq];decide
theorem Pu:QQ X (λx H Q=>∃k,PZ X.K x H k/\Q k H):=by
 intro D s G H x v Q I u h;obtain⟨k,e,q⟩:=h;have L:=qv;have J:sizeLine=16777216:=sizeLine_eq;cases x with
 | τ=>
   cases u;have d:k=false:=e;subst d;exact truthy_none ⟨H,I,q⟩
 | bl b=>
   cases u;have d:k=b:=e;subst d;exact dc ⟨H,I,q⟩
 | int i=>
   obtain⟨t,rfl⟩:=u;have d:k=(i != 0):=e;subst d;exact PySem.P.truthy_int ⟨H,I,q⟩
 | str y=>
   obtain⟨t,rfl⟩:=u;obtain⟨F,d⟩:y.length<=sizeLine/\k=((y.length:Int) != 0):=e;subst d;exact PySem.P.truthy_str (by lia) ⟨H,I.tok _,q⟩
 | Tf y=>
   obtain⟨t,rfl⟩:=u;obtain⟨F,d⟩:y.size<=sizeLine/\k=((y.size:Int) != 0):=e;subst d;exact PySem.W.truthy_bytes (by lia) ⟨H,I.tok _,q⟩
 | ref p=>
   cases u;have d:(∃n,ξ X.K H p n/\k=!n.isEmpty)\/(∃n,Β X.K H p n/\k=!n.isEmpty)\/∃o,H p=some (.dK o)/\k=!o.isEmpty:=e;rcases d with⟨n,hx,d⟩|⟨n,hx,d⟩|⟨o,hx,d⟩
   .subst d;obtain⟨B,r,A,C⟩:=I.list hx;have j:=r.length;exact wpAny_truthy_list A.isList (by simp only[be];lia) ⟨H,I.tok _,by rw[Bd r];exact q⟩
   .subst d;obtain⟨B,r,A,C⟩:=I.tuple hx;have j:=r.length;exact truthy_tuple A (by simp only[be];lia) ⟨H,I.tok _,by rw[Bd r];exact q⟩
   .subst d;obtain⟨C,E,z,r,m⟩:o.length<=sizeLine/\(p==sysModules)=false/\∃z,KV o z/\s.heap.DictOf (hJ X.prog X.w) p z:=I.χ p _ hx;have j:o.length=z.length:=Paired.length r;exact wpAny_truthy_dict E m (by lia) ⟨H,I.tok _,by rw[JC r];exact q⟩
 | _=>exact(show False from e).elim
theorem Ah(q:PE X a f)(o:∀d,isTrue a X.env d=(do let v <-d;standAt a.pos;holding [v] (truthy v))):PT X a (λi H Q=>f i H λx j=>∃k,PZ X.K x j k/\Q k j):=by
 intro e s i H Q I h;exact isTrue_plain (dP (q e s i H _ I h) λv m x p n r t=>Pu e m i p x v Q n r t) (o _)
theorem fZ:oR X (binaryOp .Add) (λx y H Q=>∃i j,x=.str i/\y=.str j/\i.length+j.length<=sizeLine/\Q (.str (i++j)) H):=by
 intro d s p H x y v u Q I k e h;obtain⟨i,j,rfl,rfl,n,q⟩:=h;obtain⟨t,rfl⟩:=k;obtain⟨m,rfl⟩:=e;exact add_str (λm o=>⟨.str (i++j),H,I.tok _,⟨_,rfl⟩,q⟩) n
theorem mP{x:V}{d:g8}(r:Vals [x] d):∃u,d=[u]/\RelV x u:=by
 cases r with
 | cons r1 r2=>cases r2;exact⟨_,rfl,r1⟩
theorem NK{x y:V}{e:g8}(r:Vals [x,y] e):∃u d,e=[u,d]/\RelV x u/\RelV y d:=by
 cases r with
 | cons r1 r2=>
   cases r2 with
   | cons r3 r4=>cases r4;exact⟨_,_,rfl,r1,r3⟩
theorem Kg:kI X (.type "int") (λd H Q=>(∃i,d=[.int i]/\Q (.int i) H)\/∃k,d=[.bl k]/\Q (.int (if k then 1 else 0)) H):=by
 intro e s j H d m Q I r h;rcases h with⟨i,rfl,q⟩|⟨k,rfl,q⟩
 .obtain⟨u,rfl,t,rfl⟩:=mP r;exact call_int_int ⟨.int i,H,I,⟨_,rfl⟩,q⟩
 .obtain⟨u,rfl,r1⟩:=mP r;cases r1;exact call_int_bool ⟨.int (if k then 1 else 0),H,I.tok _,⟨_,rfl⟩,q⟩
theorem iQ:kI X (.type "str") (λd H Q=>∃i,d=[.int i]/\i.natAbs.log2<1920/\Q (.str (toString i)) H):=by
 intro e s k H d m Q I r h;obtain⟨i,rfl,j,q⟩:=h;obtain⟨u,rfl,t,rfl⟩:=mP r;exact PySem.P.str_of_int j ⟨.str _,H,I.tok _,⟨_,rfl⟩,q⟩
end
structure S3(h:Heap)(x dx C:Addr)(mA:hL):Prop where
 obj:h.get? x=some (PySem.W.instObj C dx)
 ns:h.Ns1 dx mA
 ne:dx≠x
theorem Ka{h:Heap}{g:Addr}{d:hL}(n:h.Ns1 g d):∃i,h.get? g=some i/\∀b,PySem.W.lookIn b i=some (d b):=by
 obtain⟨o,f,s,j,m,r,_,p⟩:=n;refine⟨o,j,λb=>?_⟩;have e:=p b;unfold nsFind findBy at e;rw[<-Array.find?_toList]at e;unfold PySem.W.lookIn;rw[m];dsimp only;split
 .rename_i y q
  rw[q]at e;exact congrArg some e
 .rename_i q
  rw[q]at e;have a:f.toList.any (·.refKey)=false:=by
   rw[List.any_eq_false];intro y k;obtain⟨z,t,c⟩:=r y (nY.mp k);simp[DictEntry.refKey,c]
  have l:¬f.toList.any (·.refKey)=true:=by rw[a];exact bi
  rw[ah l];exact congrArg some e
theorem S3.look{h:Heap}{x d C:Addr}{c:hL}(I:S3 h x d C c):∃b,PySem.W.InstAt h x (PySem.W.instObj C d) C (some b)/\∀a,PySem.W.lookIn a b=some (c a):=let ⟨b,ho,hl⟩:=Ka I.ns
 ⟨b,⟨I.obj,rfl,rfl,ho⟩,hl⟩
section
variable{e:Program}{w:World}{A:Around}{E:fc}{s:Shared}{K:fv}{x j C f:Addr}{i:hL}{c:Str}{v:Value}
theorem Oq{a:Bool}{Q:fc}(X:K.In s.heap)(I:S3 s.heap x j C i)(g:PySem.W.plainGet K C c=true)(b:PySem.W.hasDictIn K C=true)(d:PySem.W.findIn K (.ref C) c=some none)(l:i c=some v)(m:PySem.W.handedIn v=true)(h:Q v { s with toks:=s.toks+1 }):wpAny (model e w) A (getAttr (.ref x) c a) Q E s:=by
 obtain⟨n,J,k⟩:=I.look;exact PySem.W.get_value X J (jP g).1 (PySem.W.findObj_own b d rfl (by rw[k,l])) m h
theorem Mg{g:Sem Bool}{Q:Value×List Value->Shared->Prop}(X:K.In s.heap)(I:S3 s.heap x j C i)(a:PySem.W.plainGet K C c=true)(b:PySem.W.findIn K (.ref C) c=some (some (.ref f)))(d:PySem.W.isFn K (.ref f)=true)(l:i c=none)(h:Q (.ref f,[.ref x]) s):wpAny (model e w) A (getMethod (.ref x) c g) Q E s:=by
 obtain⟨m,J,k⟩:=I.look;exact PySem.W.method_fn X J (jP a).1 (jP a).2 b (iV.mp d) (by show(PySem.W.lookIn c m).map (·.isSome)=some false;rw[k,l];rfl) h
theorem OY{ns:hO}{Q:Unit->Shared->Prop}(X:K.In s.heap)(I:S3 s.heap x j C i)(B:PySem.W.findIn K (.ref C) "__setattr__"=some (some (.builtin "object.__setattr__")))(z:PySem.W.plainOver K C=true)(D:PySem.W.takerIn K C c=some none)(t:PySem.W.hasDictIn K C=true)(u:PySem.Within i ns)(G:ns.length<=sizeLine)(h:∀d,S3 d x j C (λy=>if y=c then some v else i y)->Heap.SameBut j s.heap d->Q () { s with heap:=d,toks:=s.toks+2 }):wpAny (model e w) A (setAttr (.ref x) c v) Q E s:=by
 obtain⟨N,J,L⟩:=I.look;refine PySem.W.set_plain X J B (PySem.W.osa_open (s:={ s with toks:=s.toks+1 }) (r:=none) X J z D λb=>?_);obtain⟨cd,F,m⟩:=ja t;have p:s.heap.get? x=some ⟨.ref C,some j,.plain,#[]⟩:=I.obj;refine aj (aM (aj (aj (wpAny_loadPart p (aj (PySem.W.Looks.here (s:={ s with toks:=s.toks+1 }) (jQ X F) ?_))))));rw[m];refine aM (a:=some j) (aj (aM (aj ?_)));refine wpAny_nsSet1 (s:={ s with toks:=s.toks+1 }) I.ns λd o n=>?_;obtain⟨M,q,H,k,l,g⟩:=o.count (PySem.Within.cons c v u);refine aj (wpAny_lookBehind k (by rw[l];exact pastItsLine_dict (aR g (by rw[aJ];lia))) ?_);exact aM (h _ ⟨(n.2 _ (Ne.symm I.ne)).trans I.obj,o,I.ne⟩ n)
theorem L9{R:Result->Shared->Prop}{b:g8}{k:List (Str×Value)}(X:K.In s.heap)(m:PySem.W.makesIn K C=true)(n:PySem.W.findIn K (.ref C) "__init__"=some (some (.ref f)))(l:PySem.W.typeIn K (.ref f)=some (.type "function"))(h:codeAny (model e w) (A.under (.builtin "type.__call__" ⟨.ref C::b,k⟩)) (.call (.ref f) ⟨.ref (s.heap.objs.size+1)::b,k⟩) (PySem.W.InitBack (s.heap.objs.size+1) R)
 { s with heap:=(s.heap.push PySem.W.emptyDict).push (PySem.W.instObj C s.heap.objs.size) }):codeAny (model e w) A (.call (.ref C) ⟨b,k⟩) R s:=by
 obtain⟨o,g,d,t,os⟩:=s;exact PySem.W.make_core (PySem.W.makes_of X m) (mD X n) (λa=>PySem.W.bind_fn X a l) (.inl rfl) h
end
def cT(f:Str)(v:V):List (Str×V)->List (Str×V)
 | []=>[(f,v)]
 | (g,x)::r=>if g=f then(g,v)::r else(g,x)::cT f v r
theorem dI(f g:Str)(v:V):∀b:List (Str×V),(cT f v b).lookup g=if g=f then some v else b.lookup g
 | []=>by
   show List.lookup g [(f,v)]=_;by_cases h:g=f
   .have hb:(g==f)=true:=iV.mpr h;simp only[List.lookup,hb,ao h]
   .have hb:(g==f)=false:=beq_eq_false_iff_ne.mpr h;simp only[List.lookup,hb,ah h]
 | (k,x)::r=>by
   have c:=dI f g v r;rw[show cT f v ((k,x)::r)=(if k=f then(k,v)::r else(k,x)::cT f v r)from rfl];by_cases a:k=f
   .rw[ao a];by_cases h:g=k
    .have hb:(g==k)=true:=iV.mpr h;simp only[List.lookup,hb,ao (h.trans a)]
    .have hb:(g==k)=false:=beq_eq_false_iff_ne.mpr h;simp only[List.lookup,hb,ah (λe:g=f=>h (e.trans a.symm))]
   .rw[ah a];by_cases h:g=k
    .have hb:(g==k)=true:=iV.mpr h;simp only[List.lookup,hb,ah (λe:g=f=>a (h.symm.trans e))]
    .have hb:(g==k)=false:=beq_eq_false_iff_ne.mpr h;simp only[List.lookup,hb];exact c
theorem yd(f:Str)(v:V):∀a:List (Str×V),f∈(cT f v a).map (·.1)/\∀g,g∈a.map (·.1)->g∈(cT f v a).map (·.1)
 | []=>⟨by simp[cT],λg h=>by simp at h⟩
 | (k,x)::r=>by
   obtain⟨d,c⟩:=yd f v r;rw[show cT f v ((k,x)::r)=(if k=f then(k,v)::r else(k,x)::cT f v r)from rfl];by_cases b:k=f
   .rw[ao b];subst b;exact⟨by simp,λg h=>by simpa using h⟩
   .rw[ah b];refine⟨?_,λg h=>?_⟩
    .rw[bh];exact aL _ d
    .rw[bh]at h ⊢;rcases aG.mp h with e|e
     .exact aG.mpr (.inl e)
     .exact aL _ (c g e)
theorem zD(f:Str)(v:V):∀a:List (Str×V),(cT f v a).length<=a.length+1
 | []=>by simp[cT]
 | (k,x)::r=>by
   have c:=zD f v r;rw[show cT f v ((k,x)::r)=(if k=f then(k,v)::r else(k,x)::cT f v r)from rfl];by_cases b:k=f
   .rw[ao b,aJ,aJ];lia
   .rw[ah b,aJ,aJ];lia
theorem iN.some_of{v:V}{o:Option Value}(r:iN (some v) o):∃u,o=some u/\RelV v u:=by
 cases o with
 | none=>exact(show False from r).elim
 | some u=>exact⟨u,rfl,r⟩
theorem iN.none_of{o:Option Value}(r:iN none o):o=none:=by
 cases o with
 | none=>rfl
 | some u=>exact(show False from r).elim
theorem KS{v:V}{u:Value}(r:RelV v u):PySem.W.handedIn u=true:=by
 cases v with
 | τ=>cases(show u=Value.none from r);rfl
 | bl b=>cases(show u=Value.bool b from r);rfl
 | int i=>obtain⟨t,e⟩:=(show ∃t,u=Value.int i t from r);cases e;rfl
 | str x=>obtain⟨t,e⟩:=(show ∃t,u=Value.str x t from r);cases e;rfl
 | Tf b=>obtain⟨t,e⟩:=(show ∃t,u=Value.bytes b t from r);cases e;rfl
 | Wk b=>obtain⟨t,e⟩:=(show ∃t,u=Value.float b t from r);cases e;rfl
 | ref a=>cases(show u=Value.ref a from r);rfl
 | ty n=>cases(show u=Value.type n from r);rfl
section
variable{P:Program}{w:World}{H i:Hp}{h j:Heap}{a C c:Addr}{b g:List (Str×V)}
theorem yO(m:Ϸ P w H h)(e:H a=some (.ins C c b)):∃k,S3 h a c C k/\(∀f,iN (b.lookup f) (k f))/\PySem.Within k (b.map (·.1))/\b.length<=1000/\H c=some (.own a):=by
 obtain⟨d,z,ne,l,k,n,r,q⟩:=(show Δ P w H h a (.ins C c b)from m a _ e);exact⟨k,⟨l,n,ne⟩,r,q,z,d⟩
end
structure S4(K:fv)(C:Addr):Prop where
 pg:PySem.W.plainGet K C Str.empty=true
 hd:PySem.W.hasDictIn K C=true
 po:PySem.W.plainOver K C=true
 sa:PySem.W.findIn K (.ref C) "__setattr__"=some (some (.builtin "object.__setattr__"))
theorem S4.get{K:fv}{C:Addr}(c:S4 K C)(f:Str):PySem.W.plainGet K C f=true:=c.pg
def Ν(K:fv)(C:Addr)(f:Str):Prop:=PySem.W.findIn K (.ref C) f=some none
theorem Ν.X9{K:fv}{C:Addr}{f:Str}(n:Ν K C f):PySem.W.takerIn K C f=some none:=by
 unfold PySem.W.takerIn;rw[show PySem.W.findIn K (.ref C) f=some none from n]
 rfl
structure Meth(K:fv)(C:Addr)(m:Str)(f:Addr):Prop where
 at_:PySem.W.findIn K (.ref C) m=some (some (.ref f))
 fn:PySem.W.isFn K (.ref f)=true
 kp:PySem.W.keepIn K (.ref f)=true
section
variable{X:Cx}{d:fz}{j:St}{H:Hp}{s:Shared}{a C p:Addr}{i:List (Str×V)}{f:Str}{v:V}{A:Around}{E:fc}
theorem JF{b:Bool}{Q:fc}(I:Inv X d j H s)(e:H a=some (.ins C p i))(c:S4 X.K C)(n:Ν X.K C f)(l:i.lookup f=some v)(h:∀u k,Inv X d j H k->RelV v u->Q u k):wpAny (model X.prog X.w) A (getAttr (.ref a) f b) Q E s:=by
 obtain⟨m,O,r,_,_,_⟩:=yO I.χ e;obtain⟨u,q,g⟩:=iN.some_of (v:=v) (o:=m f) (by rw[<-l];exact r f);exact Oq I.ϵ O (c.get f) c.hd n q (KS g) (h u _ (I.tok _) g)
theorem BA{m:Str}{g:Addr}{n:Sem Bool}{Q:Value×List Value->Shared->Prop}(I:Inv X d j H s)(e:H a=some (.ins C p i))(c:S4 X.K C)(k:Meth X.K C m g)(l:i.lookup m=none)(h:Q (.ref g,[.ref a]) s):wpAny (model X.prog X.w) A (getMethod (.ref a) m n) Q E s:=by
 obtain⟨b,O,r,_,_,_⟩:=yO I.χ e;have o:b m=none:=iN.none_of (by rw[<-l];exact r m);exact Mg I.ϵ O (c.get m) k.at_ k.fn o h
theorem IH{y:V}{u:Value}{Q:Unit->Shared->Prop}(I:Inv X d j H s)(e:H a=some (.ins C p i))(c:S4 X.K C)(n:Ν X.K C f)(N:i.length<1000)(D:RelV y u)(h:∀t,Inv X d j (upd H a (.ins C p (cT f y i))) t->Q () t):wpAny (model X.prog X.w) A (setAttr (.ref a) f u) Q E s:=by
 obtain⟨m,O,r,B,_,l⟩:=yO I.χ e;have G:(i.map (·.1)).length<=sizeLine:=by rw[ag,sizeLine_eq];lia
 refine OY I.ϵ O c.sa c.po n.X9 c.hd B G λF k J=>h _ ?_;have hd:∃o,F.get? p=some o:=let ⟨o,_,_,e',_⟩:=k.ns;⟨o,e'⟩;refine I.write (x:=a) (e:=p) (by rw[e];exact True.intro) (.inr l) (λb q M z=>(J.2 b M).trans z) hd ?_;refine⟨by rw[aY O.ne];exact l,?_,O.ne,k.obj,_,k.ns,λg=>?_,λg L=>?_⟩
 .have:=zD f y i;lia
 .show iN ((cT f y i).lookup g) (if g=f then some u else m g);rw[dI];by_cases q:g=f
  .rw[ao q,ao q];exact D
  .rw[ah q,ah q];exact r g
 .by_cases q:g=f
  .rw[q];exact(yd f y i).1
  .refine(yd f y i).2 g (B g λz=>L ?_);show(if g=f then some u else m g)=none;rw[ah q];exact z
theorem Inv.made(I:Inv X d j H s):Inv X d j (upd (upd H s.heap.objs.size (.own (s.heap.objs.size+1))) (s.heap.objs.size+1) (.ins C s.heap.objs.size []))
 { s with heap:=(s.heap.push PySem.W.emptyDict).push (PySem.W.instObj C s.heap.objs.size) }:=by
 have c:(s.heap.push PySem.W.emptyDict).get? s.heap.objs.size=some PySem.W.emptyDict:=bg s.heap rfl;have k:((s.heap.push PySem.W.emptyDict).push (PySem.W.instObj C s.heap.objs.size)).get? (s.heap.objs.size+1)=some (PySem.W.instObj C s.heap.objs.size):=by
  have:=bg (s.heap.push PySem.W.emptyDict) (o:=PySem.W.instObj C s.heap.objs.size) rfl
  rwa [de]at this
 have g:(s.heap.push PySem.W.emptyDict).Ns s.heap.objs.size (λ_=>none):=⟨PySem.W.emptyDict,#[],_,c,rfl,(λe l=>absurd l (by simp)),λ_=>rfl⟩;have h:=I.laid (a:=s.heap.objs.size) (o:=.own (s.heap.objs.size+1)) (h':=s.heap.push PySem.W.emptyDict) (t':=s.toks) (λb u q=>au _ q) (aN _) ⟨_,c⟩;refine h.laid (a:=s.heap.objs.size+1) (o:=.ins C s.heap.objs.size []) (t':=s.toks) (λb u q=>au _ q) (kF (de _ _)) ?_;have ne:s.heap.objs.size≠s.heap.objs.size+1:=aU (eF _);refine⟨by rw[aY ne,aw],bT _,ne,k,λ_=>none,(Heap.Ns1.of_empty g).at λo q=>au _ q,λ_=>True.intro,λy m=>absurd rfl m⟩
theorem Op{c:Program}{w:World}{b:Env}{e:Expr}{f:Str}{k:Pos}{s:Shared}{Q:fc}(l:attributeBase e f b (eval e b)=eval e b)(h:wpAny (model c w) A (eval e b) (λo g=>wpAny (model c w) A (getAttr o f true) Q E g) E s):wpAny (model c w) A (eval (.Attribute e f k) b) Q E s:=Attribute_any_ h (by rw[arm_eval_Attribute,l])
end
def L6(K:fv)(d:TE)(f:Str):TE:=λe H Q=>d e H λx b=>∃a C g c v,x=.ref a/\b a=some (.ins C g c)/\S4 K C/\Ν K C f/\c.lookup f=some v/\Q v b
def LW(K:fv)(g h:TE)(f:Str):TS:=λD c H=>h c H λy i=>g c i λx e=>∃a C d b,x=.ref a/\e a=some (.ins C d b)/\S4 K C/\Ν K C f/\b.length<1000/\D.nx c (upd e a (.ins C d (cT f y b)))
section
variable{X:Cx}{o e b:Expr}{f:Str}{g d k:Pos}{i j:TE}
theorem dj(r:PE X e i)(z:attributeBase e f X.env (eval e X.env)=eval e X.env):PE X (.Attribute e f g) (L6 X.K i f):=by
 intro m s t H Q I h;refine Op z (dP (r m s t H _ I h) λu F x w p B ⟨a,C,L,M,v,D,E,c,n,l,q⟩=>?_);subst D;obtain rfl:u=Value.ref a:=B;exact JF p E c n l λG J A y=>⟨v,w,A,y,q⟩
theorem rQ(E:PE X o i)(z:PE X b j)(B:swapsWith b (some (.Attribute o f d)) g.line X.env=pure false):PS X (.Assign [.Attribute o f d] b g) (LW X.K i j f):=by
 intro m s p H D I h;refine plainObj_wpAny_Assign_Attribute (dP (z m s p H _ I h) λu r y v t A q=>dP (E m r p v _ t q) λM O x R F G ⟨a,C,Q,S,J,L,c,n,l,N⟩=>?_) B;subst J;obtain rfl:M=Value.ref a:=G;exact IH F L c n l A λP w=>⟨p,_,w,N⟩
end
section
variable{X:Cx}{d:fz}{f:St}{H:Hp}{s:Shared}{A:Around}{E:fc}{Q:fc}{c:Value}{b:Bool}
inductive Q1(K:fv)(H:Hp):V->Value->Prop where
 | τ:Q1 K H .τ (.type "NoneType")
 | bl (x:Bool):Q1 K H (.bl x) (.type "bool")
 | int (i:Int):Q1 K H (.int i) (.type "int")
 | str (x:Str):Q1 K H (.str x) (.type "str")
 | Wk (x:UInt64):Q1 K H (.Wk x) (.type "float")
 | lst {a:Addr} {xs:List V} (e:H a=some (.lst xs)):Q1 K H (.ref a) (.type "list")
 | SW {a:Addr} {o:Obj} {xs:List V} (e:H a=some (.SW o (.lst xs))):Q1 K H (.ref a) (.type "list")
 | tup {a:Addr} {xs:List V} (e:H a=some (.tup xs)):Q1 K H (.ref a) (.type "tuple")
 | dK {a:Addr} {θ:List (Key×V)} (e:H a=some (.dK θ)):Q1 K H (.ref a) (.type "dict")
 | dT {a:Addr} {θ:List (List Key×V)} (e:H a=some (.dT θ)):Q1 K H (.ref a) (.type "dict")
 | ins {a C dx:Addr} {fs:List (Str×V)} (e:H a=some (.ins C dx fs)) (cl:S4 K C) (ha:PySem.W.findIn K (.ref C) "__class__"=some (some (.builtin "object.__class__")))
  (hn:PySem.W.specialIn K (.builtin "object.__class__") "__get__"=some (some (.builtin "getset_descriptor.__get__"))) (htk:PySem.W.takesIn K (.builtin "object.__class__")=some true)
  (hm:PySem.W.mroIn K C (.type "object")=some true):Q1 K H (.ref a) (.ref C)
theorem KB{x:V}{u t:Value}(I:Inv X d f H s)(g:RelV x u)(v:Q1 X.K H x t)(e:PySem.W.kitOne X.K t c=some b)(h:∀m,Q (.bool b) { s with toks:=m }):wpAny (model X.prog X.w) A (call (.builtin "isinstance") [u,c]) Q E s:=by
 cases v with
 | τ=>cases(show u=Value.none from g);exact da PySem.W.kitx_none I.ϵ True.intro e (λz=>nomatch z) h
 | bl y=>cases(show u=Value.bool y from g);exact da PySem.W.kitx_bool I.ϵ True.intro e (λz=>nomatch z) h
 | int i=>obtain⟨t,q⟩:=(show ∃t,u=Value.int i t from g);cases q;exact da PySem.W.kitx_int I.ϵ True.intro e (λz=>nomatch z) h
 | str y=>obtain⟨t,q⟩:=(show ∃t,u=Value.str y t from g);cases q;exact da PySem.W.kitx_str I.ϵ True.intro e (λz=>nomatch z) h
 | Wk y=>obtain⟨t,q⟩:=(show ∃t,u=Value.float y t from g);cases q;exact da PySem.W.kitx_float I.ϵ True.intro e (λz=>nomatch z) h
 | @lst a k ea=>
   cases(show u=Value.ref a from g);obtain⟨_,_,n,_,j⟩:=(show Δ X.prog X.w H s.heap a (.lst k)from I.χ a _ ea);exact da PySem.W.kitx_list I.ϵ ⟨_,j,rfl⟩ e (λz=>nomatch z) h
 | @SW a ob k ea=>
   cases(show u=Value.ref a from g);obtain⟨_,_,_,n,_,j⟩:=(show Δ X.prog X.w H s.heap a (.SW ob (.lst k))from I.χ a _ ea);exact da PySem.W.kitx_list I.ϵ ⟨_,j,rfl⟩ e (λz=>nomatch z) h
 | @tup a k ea=>
   cases(show u=Value.ref a from g);obtain⟨_,_,_,p⟩:=(show Δ X.prog X.w H s.heap a (.tup k)from I.χ a _ ea);obtain⟨o,j,l,_⟩:=p;exact da PySem.W.kitx_tuple I.ϵ ⟨o,j,l⟩ e (λz=>nomatch z) h
 | @dK a θ ea=>
   cases(show u=Value.ref a from g);obtain⟨_,_,D,_,p⟩:=(show Δ X.prog X.w H s.heap a (.dK θ)from I.χ a _ ea);obtain⟨o,r,B,j,l,_⟩:=p;exact da PySem.W.kitx_dict I.ϵ ⟨o,j,l.1⟩ e (λz=>nomatch z) h
 | @dT a θ ea=>
   cases(show u=Value.ref a from g);obtain⟨_,_,k,_,o,r,B,j,l,_⟩:=(show Δ X.prog X.w H s.heap a (.dT θ)from I.χ a _ ea);exact da PySem.W.kitx_dict I.ϵ ⟨o,j,l.1⟩ e (λz=>nomatch z) h
 | @ins a C dx fs ea cl ha hn htk hm=>
   cases(show u=Value.ref a from g);obtain⟨F,O,_⟩:=yO I.χ ea;obtain⟨G,J,_⟩:=O.look;exact da (PySem.W.kitx_own (cl.get _) cl.hd ha hn htk hm) I.ϵ J e (λz=>nomatch z) h
end
structure Ρ(k:Nat)(A:Around):Prop where
 hd:A.handled=none
 dp:A.depth+3*k+5<recursionLimit
 un:A.units+16*k+200<cLine
theorem Ρ.mono{j k:Nat}{A:Around}(r:Ρ k A)(h:j<=k):Ρ j A:=⟨r.hd,by have:=r.dp;lia,by have:=r.un;lia⟩
theorem Ρ.deeper{k:Nat}{A:Around}(r:Ρ (k+1) A)(a:Env):Ρ k (A.deeper a):=⟨r.hd,by have:=r.dp;show A.depth+1+3*k+5<_;lia,by have:=r.un;show A.units+3+16*k+200<_;lia⟩
theorem IM{A:Around}{C:Addr}{b:g8}{a:List (Str×Value)}:(A.under (.builtin "type.__call__" ⟨.ref C::b,a⟩)).depth=A.depth+1:=by
 first|rfl|simp[Around.under,Code.weight,Code.isCreation,Code.isGuard,Code.isCaller,Code.frames,Code.isFrame,guardIds]
theorem Jf{A:Around}{C:Addr}{b:g8}{a:List (Str×Value)}:(A.under (.builtin "type.__call__" ⟨.ref C::b,a⟩)).units=A.units+1:=by
 first|rfl|simp[Around.under,Code.cUnits,Code.frames,Code.isFrame]
theorem Ρ.make{k:Nat}{A:Around}(r:Ρ (k+1) A)(C:Addr)(b:g8)(a:List (Str×Value)):Ρ k (A.under (.builtin "type.__call__" ⟨.ref C::b,a⟩)):=⟨r.hd,by have:=r.dp;rw[IM];lia,by have:=r.un;rw[Jf];lia⟩
theorem Ρ.depth{k:Nat}{A:Around}(r:Ρ k A):A.depth<recursionLimit:=by have:=r.dp;lia
theorem Ρ.units{k:Nat}{A:Around}(r:Ρ k A):A.units+64<cLine:=by have:=r.un;lia
def Vi:TA:=λ_ H Q=>Q [] H
def Ja(b:TE)(c:TA):TA:=λa H Q=>b a H λx d=>c a d λe f=>Q (x::e) f
section
variable{X:Cx}{e:Expr}{c:List Expr}{d:TE}{t:TA}{a:Pos}
theorem aq:PA X [] Vi:=λ_ _ _ _ H Q I h=>fm ⟨[],H,I,.nil,h⟩
theorem aa(m:PE X e d)(p:PA X c t)(l:starEach (e::c) X.env=(false,eval e X.env)::starEach c X.env:=by rfl):PA X (e::c) (Ja d t):=by
 intro a b s f H Q I h;rw[l];show wpAny _ _ (spliced ((false,eval e X.env)::backTo a (starEach c X.env))) _ _ s;refine dZ (dP (m b s f H _ I h) λu g x j i r v=>?_);exact sd (p a b g f j _ i v) λz y k q o n w=>⟨x::k,q,o,.cons r n,w⟩
def MO(t:TA):TE:=λg H Q=>t g H λf b=>f.length<=sizeLine/\∀p,b p=none->Q (.ref p) (upd b p (.tup f))
def LD(t:TA):TE:=λg H Q=>t g H λf b=>f.length<=sizeLine/\∀p,b p=none->Q (.ref p) (upd b p (.lst f))
theorem jT{x1}(h:PA X c t):PE X (.Tuple c x1 a) (MO t):=by
 intro f s k H Q I l;refine wpAny_Tuple_spliced (sd (h a f s k H _ I l) λo g m j i r ⟨z,q⟩=>⟨by rw[<-r.length];exact z,?_⟩);have n:j g.heap.objs.size=none:=i.χ.fresh (aN _);refine⟨.ref g.heap.objs.size,upd j g.heap.objs.size (.tup m),i.laid (t':=g.toks) (λb u e=>au _ e) (aN _) ?_,rfl,q _ n⟩;exact⟨z,o,r,⟨_,bg _ rfl,rfl,_,rfl⟩⟩
theorem cS(h:PA X c t):PE X (.List c a) (LD t):=by
 intro f s k H Q I l;refine wpAny_List_spliced (sd (h a f s k H _ I l) λo g m j i r ⟨z,q⟩=>⟨by rw[<-r.length];exact z,?_⟩);have n:j g.heap.objs.size=none:=i.χ.fresh (aN _);refine⟨.ref g.heap.objs.size,upd j g.heap.objs.size (.lst m),i.laid (t':=g.toks) (λb u e=>au _ e) (aN _) ?_,rfl,q _ n⟩;exact⟨z,o,0,r,bg _ rfl⟩
end
abbrev Sp:=List V->Hp->VK->XK->Prop
abbrev Bv:=List Env->Hp->Shared->XK->Value->Shared->Prop
structure S5(P:Program)(w:World)(K:fv)(mg:hL)(base:Heap)(A:Around)(outer:List Env)(s:Shared)(H:Hp):Prop where
 frames:A.frames=some outer
 mod:Mod K mg base
 bs:∀b o,base.get? b=some o->s.heap.get? b=some o/\H b=none
 Ui:base.objs.size<=s.heap.objs.size
 oK:s.heap.FunFrames base outer
 UU:∀b∈ϝ outer,H b=none
 χ:Ϸ P w H s.heap
 bare:AllBare s.gens
def CE(a:List Env)(P:Program)(w:World)(H:Hp)(s:Shared)(Q:VK)(u:Value)(b:Shared):Prop:=∃v c,b.os=s.os/\AllBare b.gens/\Un (ϝ a) [] H c s.heap b.heap/\Ϸ P w c b.heap/\RelV v u/\Q v c
def CR(c:Bv)(a:List Env)(P:Program)(w:World)(H:Hp)(s:Shared)(Q:VK)(E:XK)(r:Result)(b:Shared):Prop:=match r with
 | .ok (.ret u)=>CE a P w H s Q u b
 | .ok _=>False
 | .error e=>c a H s E e b
structure ϋ(P:Program)(w:World)(K:fv)(mg:hL)(base:Heap)(CX:Bv)(k:Nat)(f:Addr)(fd:FuncData)(ps:hO)(sp:Sp):Prop where
 len:∀vs H Q E,sp vs H Q E->vs.length=ps.length
 run:∀(A:Around)(outer:List Env)(s:Shared)(H:Hp)(args:Args)(us:g8)(vs:List V)(Q:VK)(E:XK),Ρ k A->S5 P w K mg base A outer s H->BindsTo s fd args (ps.zip us)->Vals vs us->sp vs H Q E->codeAny (model P w) A (.call (.ref f) args) (CR CX outer P w H s Q E) s
theorem S5.make{P:Program}{w:World}{K:fv}{c:hL}{b:Heap}{A:Around}{a:List Env}{s:Shared}{H:Hp}(e:S5 P w K c b A a s H)(C:Addr)(f:g8)(d:List (Str×Value)):S5 P w K c b (A.under (.builtin "type.__call__" ⟨.ref C::f,d⟩)) a s H:=⟨by first|exact e.frames|(simpa[Around.under,Code.envs,Code.isFrame,pushEnvs]using e.frames),e.mod,e.bs,e.Ui,e.oK,e.UU,e.χ,e.bare⟩
section
variable{X:Cx}{a:fz}{e:St}{H:Hp}{s c:Shared}
theorem Inv.Vj(I:Inv X a e H s):S5 X.prog X.w X.K X.mg X.base X.A X.stack s H:=⟨I.ok.frames,I.ok.mod,I.bs,aR I.ok.Ui I.sz,I.stack,I.Ϯ,I.χ,I.bare⟩
theorem Inv.after{Q:VK}{u:Value}(I:Inv X a e H s)(h:CE X.stack X.prog X.w H s Q u c):EP X a e Q u c:=by
 obtain⟨v,m,os,f,k,l,r,q⟩:=h;obtain⟨j,g,d,t,i⟩:=c;obtain rfl:i=s.os:=os;exact⟨v,m,I.call (h':=j) (g':=g) (d':=d) (t':=t) (ch:=[]) k l f (λb z=>absurd z (by simp)),r,q⟩
end
def rC(d:Sp)(b:List V)(E:XK)(t:TA):TE:=λe H Q=>t e H λc a=>d (c++b) a Q E
def Er(C:Addr)(m:Str)(h:Sp)(f:List V)(E:XK)(e:TE)(t:TA):TE:=λd H Q=>e d H λx b=>∃a i c,x=.ref a/\b a=some (.ins C i c)/\c.lookup m=none/\t d b λg j=>h (x::(g++f)) j Q E
def Jz(C:Addr)(e:Sp)(c:List V)(E:XK)(t:TA):TE:=λf H Q=>t f H λd b=>∀x a,b x=none->b a=none->a≠x->e (.ref x::(d++c)) (upd (upd b a (.own x)) x (.ins C a [])) (λv g=>v=.τ/\Q (.ref x) g) E
def Binds(K:fv)(d:FuncData)(c:hO)(b:g8):Prop:=∀(s:Shared)(a:g8),K.In s.heap->(a++b).length=c.length->BindsTo s d ⟨a,[]⟩ (c.zip (a++b))
theorem Binds.all{K:fv}{c:FuncData}{b:hO}(h:∀a:List Value,a.length=b.length->bindArgs c ⟨a,[]⟩=pure (b.zip a)):Binds K c b []:=λs a _ d=>by
 rw[bR]at d ⊢;exact .of_eq (h a d)
def pf(c:Bv)(X:Cx)(E:XK):Prop:=∀(a:fz)(d:St)(H:Hp)(s:Shared)(e:Value)(b:Shared),Inv X a d H s->c X.stack H s E e b->X.xe e b
section
variable{X:Cx}{B:Bv}{k:Nat}{f C:Addr}{y:FuncData}{n:hO}{z:Sp}{j:List V}{g:g8}{E:XK}{x m:Str}{p b d:Pos}{e o:Expr}{i:List Expr}{D:TE}{t:TA}
theorem GG{a:fz}{l:St}{H:Hp}{s:Shared}{Q:VK}{us:g8}{vs:List V}(F:ϋ X.prog X.w X.K X.mg X.base B k f y n z)(L:Ρ k X.A)(N:Binds X.K y n g)(G:Vals j g)(v:pf B X E)(I:Inv X a l H s)(r:Vals vs us)(h:z (vs++j) H Q E):wpAny (model X.prog X.w) X.A (call (.ref f) us) (EP X a l Q) X.xe s:=by
 have q:Vals (vs++j) (us++g):=r.append G;have J:(us++g).length=n.length:=by rw[<-q.length];exact F.len _ _ _ _ h
 refine gX (hW (F.run X.A X.stack s H ⟨us,[]⟩ (us++g) (vs++j) Q E L I.Vj (N s us I.ϵ J) q h) λr M c=>?_);cases r with
 | error e=>exact v a l H s e M I c
 | ok fl=>
   cases fl with
   | ret u=>exact I.after c
   | next=>exact False.elim c
   | brk=>exact False.elim c
   | cont=>exact False.elim c
theorem iW(F:ϋ X.prog X.w X.K X.mg X.base B k f y n z)(L:Ρ k X.A)(O:Gl X x)(J:X.mg x=some (.ref f))(N:PySem.W.keepIn X.K (.ref f)=true)(P:Binds X.K y n g)(hd:Vals j g)(l:pf B X E)(G:PA X (e::i) t)(hdb:(x==("__debug__":Str))=false:=by decide)(u:starEach (e::i) X.env=(false,eval e X.env)::starEach i X.env:=by rfl)(M:(backTo b (starEach i X.env)).any (·.1)=false:=by rfl):PE X (.Call (.Name x p) (e::i) [] b) (rC z j E t):=by
 intro a s v H Q I h;refine fF (nA I O J ?_ hdb);refine iG (h₀:=X.base) I.ok.mod.Vc N (sd (G b a s v H _ I h) λU R S T c r q=>⟨c.ϵ,?_⟩) u M;exact GG F L P hd l c r q
theorem pR{pl:Sem Bool}(S:PE X o D)(c:S4 X.K C)(N:Meth X.K C m f)(F:ϋ X.prog X.w X.K X.mg X.base B k f y n z)(Y:Ρ k X.A)(U:Binds X.K y n g)(hd:Vals j g)(R:pf B X E)(V:PA X (e::i) t)(O:starEach (e::i) X.env=(false,eval e X.env)::starEach i X.env:=by rfl)(ϲ:(backTo b (starEach i X.env)).any (·.1)=false:=by rfl)(W:eval (.Call (.Attribute o m d) (e::i) [] b) X.env=(do
 let L <-eval o X.env
 standAt d.atName
 let (f,first) <-holding [L] (getMethod L m pl)
 callWith b f first (backTo b (starEach (e::i) X.env)) (backToKw b (keywordEach [] X.env))):=by rfl):PE X (.Call (.Attribute o m d) (e::i) [] b) (Er C m z j E D t):=by
 intro v s J H Q I h;refine jg (pl:=pl) (dP (S v s J H _ I h) λu P x T G Z ⟨a,dx,fs,ex,ea,l,q⟩=>?_) W;subst ex;obtain rfl:u=Value.ref a:=Z;refine BA G ea c N l ?_;refine iG (first:=[.ref a]) (h₀:=X.base) I.ok.mod.Vc N.kp (sd (V b v P J T _ G q) λus s2 vs H2 M r q2=>⟨M.ϵ,?_⟩) O ϲ;exact GG (us:=.ref a::us) (vs:=.ref a::vs) F Y U hd R M (.cons rfl r) q2
theorem gu{pl:Sem Bool}(M:PE X o D)(c:S4 X.K C)(G:Meth X.K C m f)(F:ϋ X.prog X.w X.K X.mg X.base B k f y n z)(S:Ρ k X.A)(O:Binds X.K y n g)(P:Vals j g)(L:pf B X E)(R:eval (.Call (.Attribute o m d) [] [] b) X.env=(do
 let J <-eval o X.env
 standAt d.atName
 let (f,first) <-holding [J] (getMethod J m pl)
 callWith b f first (backTo b (starEach [] X.env)) (backToKw b (keywordEach [] X.env))):=by rfl):PE X (.Call (.Attribute o m d) [] [] b) (Er C m z j E D Vi):=by
 intro r s N H Q I h;refine jg (pl:=pl) (dP (M r s N H _ I h) λu Y x Z v T ⟨a,dx,fs,U,V,l,q⟩=>?_) R;subst U;obtain rfl:u=Value.ref a:=T;refine BA v V c G l ?_;exact PySem.W.callWith_K0 (first:=[.ref a]) v.ϵ G.kp (GG (us:=[.ref a]) (vs:=[.ref a]) F S O P L v (.cons rfl .nil) q)
structure Mk(K:fv)(C f:Addr):Prop where
 makes:PySem.W.makesIn K C=true
 init:PySem.W.findIn K (.ref C) "__init__"=some (some (.ref f))
 fn:PySem.W.isFn K (.ref f)=true
 kp:PySem.W.keepIn K (.ref C)=true
theorem NB{a:fz}{L:St}{H:Hp}{s:Shared}{Q:VK}{c:g8}{J:List V}(M:Mk X.K C f)(F:ϋ X.prog X.w X.K X.mg X.base B k f y n z)(Z:Ρ (k+1) X.A)(S:Binds X.K y n g)(T:Vals j g)(P:pf B X E)(I:Inv X a L H s)(r:Vals J c)(h:∀x G,H x=none->H G=none->G≠x->z (.ref x::(J++j)) (upd (upd H G (.own x)) x (.ins C G [])) (λv H2=>v=.τ/\Q (.ref x) H2) E):wpAny (model X.prog X.w) X.A (call (.ref C) c) (EP X a L Q) X.xe s:=by
 have N:=h (s.heap.objs.size+1) s.heap.objs.size (I.χ.fresh (ft _)) (I.χ.fresh (aN _)) (aU (eF _));have q:=Inv.made (C:=C) I;have O:Vals (V.ref (s.heap.objs.size+1)::(J++j)) (Value.ref (s.heap.objs.size+1)::(c++g)):=.cons rfl (r.append T);have Y:(Value.ref (s.heap.objs.size+1)::c++g).length=n.length:=by
  have e:=O.length;rw[F.len _ _ _ _ N]at e;exact e.symm
 refine gX (L9 (f:=f) I.ϵ M.makes M.init (iV.mp M.fn) (hW (F.run _ X.stack _ _ ⟨Value.ref (s.heap.objs.size+1)::c,[]⟩ (Value.ref (s.heap.objs.size+1)::(c++g)) _ _ E (Z.make C c [])
  (q.Vj.make C c []) (S _ (Value.ref (s.heap.objs.size+1)::c) q.ϵ Y) O N) λr s' l=>?_))
 cases r with
 | error e=>exact P a L _ _ e s' q l
 | ok fl=>
   cases fl with
   | ret u=>
     obtain⟨v,H',R,rv,U,W⟩:=q.after l;subst U;exact⟨rv,⟨V.ref (s.heap.objs.size+1),H',R,rfl,W⟩⟩
   | next=>exact False.elim l
   | brk=>exact False.elim l
   | cont=>exact False.elim l
theorem sN(M:Mk X.K C f)(F:ϋ X.prog X.w X.K X.mg X.base B k f y n z)(L:Ρ (k+1) X.A)(O:Gl X x)(J:X.mg x=some (.ref C))(P:Binds X.K y n g)(hd:Vals j g)(l:pf B X E)(G:PA X (e::i) t)(hdb:(x==("__debug__":Str))=false:=by decide)(u:starEach (e::i) X.env=(false,eval e X.env)::starEach i X.env:=by rfl)(N:(backTo b (starEach i X.env)).any (·.1)=false:=by rfl):PE X (.Call (.Name x p) (e::i) [] b) (Jz C z j E t):=by
 intro a s v H Q I h;refine fF (nA I O J ?_ hdb);refine iG (h₀:=X.base) I.ok.mod.Vc M.kp (sd (G b a s v H _ I h) λU R S T c r q=>⟨c.ϵ,?_⟩) u N;exact NB M F L P hd l c r q
end
structure ε(N P:hO)(sc:Scope):Prop where
 kind:sc.kind=.function
 co:sc.isCoroutine=false
 gen:sc.isGenerator=false
 nd:N.Nodup
 pre:N.take P.length=P
 par:∀x∈P,sc.names.lookup x=some .local\/sc.names.lookup x=some .cell
 Wv:∀y∈sc.names,y.2≠.free
theorem Dn{b:Str->Option NameKind}{x:Str}:∀{a:List (Str×Value)}{m:hL},(∀v,(x,v)∉a)->bindL b a m x=m x
 | [],_,_=>rfl
 | (n,v)::r,m,h=>by
   unfold bindL;rw[Dn λw c=>h w (aL _ c)];split
   .have:x≠n:=(by rintro rfl;exact h v aP);simp[this]
   .rfl
theorem Dy{b:Str->Option NameKind}{x:Str}:∀{a:List (Str×Value)}{m:hL},(∀v,(x,v)∉a)->bindC b a m x=m x
 | [],_,_=>rfl
 | (n,v)::r,m,h=>by
   unfold bindC;rw[Dy λw c=>h w (aL _ c)];split
   .rfl
   .have:x≠n:=(by rintro rfl;exact h v aP);simp[this]
theorem DU{a:Str->Option NameKind}{x:Str}{v:Value}:∀{P:hO}{b:g8}{i:Nat}{m:hL},P.Nodup->P[i]?=some x->b[i]?=some v->a x=some .local->bindL a (P.zip b) m x=some v
 | [],_,_,_,_,h,_,_=>by simp at h
 | _::_,[],_,_,_,_,h,_=>by simp at h
 | p::P,w::b,0,m,nd,h1,h2,hk=>by
   simp at h1 h2;subst h1;subst h2;show bindL a ((p,w)::P.zip b) m p=_;unfold bindL;rw[Dn λv c=>(bI.mp nd).1 (lH c).1,ao hk];simp
 | p::P,w::b,i+1,m,nd,h1,h2,hk=>by
   show bindL a ((p,w)::P.zip b) m x=_;unfold bindL;exact DU (i:=i) (bI.mp nd).2 (by simpa using h1) (by simpa using h2) hk
theorem DA{a:Str->Option NameKind}{x:Str}{v:Value}:∀{P:hO}{b:g8}{i:Nat}{m:hL},P.Nodup->P[i]?=some x->b[i]?=some v->a x≠some .local->bindC a (P.zip b) m x=some v
 | [],_,_,_,_,h,_,_=>by simp at h
 | _::_,[],_,_,_,_,h,_=>by simp at h
 | p::P,w::b,0,m,nd,h1,h2,hk=>by
   simp at h1 h2;subst h1;subst h2;show bindC a ((p,w)::P.zip b) m p=_;unfold bindC;rw[Dy λv c=>(bI.mp nd).1 (lH c).1,ah hk];simp
 | p::P,w::b,i+1,m,nd,h1,h2,hk=>by
   show bindC a ((p,w)::P.zip b) m x=_;unfold bindC;exact DA (i:=i) (bI.mp nd).2 (by simpa using h1) (by simpa using h2) hk
def start(N:hO)(a:List V):St:=a.map some++List.replicate (N.length-a.length) none
def qj(d:Bv)(P:Program)(w:World)(K:fv)(mg:hL)(base:Heap)(N:hO)(b:Str)(a:Scope)(f:Addr)(cd:Value)(A:Around)(outer:List Env)(s:Shared)(H:Hp)(E:XK):Cx where
 prog:=P
 w:=w
 K:=K
 mg:=mg
 base:=base
 A:=A.deeper (envOfC b a s.heap.objs.size f cd)
 N:=N
 s₀:=s
 H₀:=H
 env:=envOfC b a s.heap.objs.size f cd
 outer:=outer
 stack:=envOfC b a s.heap.objs.size f cd::outer
 ex:=[]
 calm:=true
 fn:=λ_=>true
 pn:=[]
 xe:=λe h=>wpAny (model P w) (A.deeper (envOfC b a s.heap.objs.size f cd)) (leaving (envOfC b a s.heap.objs.size f cd) e) (λ_ c=>d outer H s E e c) (λg c=>d outer H s E g c) h
theorem zK{a:Scope}{n:Nat}{x:Str}(h:a.names.lookup x=some .cell):∃c,(cellsFrom n a.names []).lookup x=some c:=by
 have q:=lO a.names n [] (.inl h);exact gm.mp q
theorem Lh{Q:Bv}{P:Program}{w:World}{K:fv}{I:hL}{m:Heap}{N B:hO}{j:Str}{d:Scope}{f:Addr}{cd:Value}{A:Around}{g:List Env}{s M:Shared}{H:Hp}{E:XK}{L:g8}{t:List V}(S:ε N B d)(T:A.handled=none)(o:S5 P w K I m A g s H)(hl:t.length=B.length)(r:Vals t L)(x:InCallC s s.heap.objs.size (bindL (envOfC j d s.heap.objs.size f cd).kindOf (B.zip L) λ_=>none) (cellsFrom (s.heap.objs.size+1) d.names []) (bindC (envOfC j d s.heap.objs.size f cd).kindOf (B.zip L) λ_=>none) M):Inv (qj Q P w K I m N j d f cd A g s H E) [] (start N t) H M:=by
 have ϲ:B.length<=N.length:=by have:=congrArg List.length S.pre;rw[aZ]at this;lia
 obtain⟨F,Y,rfl,R⟩:=x.done;have J:∀b:Addr,b∉(qj Q P w K I m N j d f cd A g s H E).ex:=λb z=>absurd (show b∈([]:gy)from z) (by simp);refine⟨⟨o.mod,S.kind,rfl,rfl,aN _,λy z c F l=>?_,λy hy=>?_,λy c _ h=>?_,λ_=>T,Around.frames_deeper o.frames,.inr ⟨rfl,rfl⟩,λb z=>absurd z (J b),o.bs,o.Ui,λb _ _=>J b,λb z=>absurd z (J b),o.oK,o.UU⟩,rfl,o.bare,Un.kept R,⟨_,x.toInCall.ns,λi y v F l Z=>?_⟩,λy c h=>⟨_,x.cell y c h⟩,o.χ.fresh (aN _),λy c h=>?_,λp C=>absurd (show p∈([]:fz)from C) (by simp),o.χ.kept R,?_⟩
 .exact name_of_addr x.apart (dF F) (dF l)
 .have hy:d.names.lookup y=some .cell\/d.names.lookup y=some .free:=hy;rcases hy with hy|hy
  .exact zK hy
  .exact absurd rfl (S.Wv _ (dF hy))
 .exact ic (x.above y c (dF h))
 .have G:i<t.length:=by
   unfold start at l;by_cases G:i<t.length
   .exact G
   .rw[cA (by simpa using G)]at l;rw[i6]at l;split at l<;>cases l
  have U:t[i]?=some v:=by
   unfold start at l;rw[cD (by simpa using G),aQ]at l;cases e:t[i]? with
   | none=>rw[e]at l;cases l
   | some a=>rw[e]at l;cases l;rfl
  obtain⟨u,O,X⟩:=r.get U;have C:B[i]?=some y:=by
   rw[<-S.pre,iK (by lia)];exact F
  have D:B.Nodup:=by rw[<-S.pre];exact S.nd.sublist (List.take_sublist _ _)
  refine⟨u,X,?_⟩;rcases S.par y (aO C)with k|k
  .exact .inl ⟨k,DU D C O k⟩
  .obtain⟨c,e⟩:=zK (n:=s.heap.objs.size+1) k;refine .inr ⟨.inl k,c,e,?_⟩;have q:=x.cell y c e;rw[DA D C O (by show d.names.lookup y≠_;rw[k];decide)]at q;exact q
 .exact o.χ.fresh (ic (x.above y c (dF h)))
 .unfold start;show _=N.length;rw[ap,ag,dy]
  lia
theorem NF{M:Bv}{P:Program}{w:World}{K:fv}{G:hL}{base:Heap}{k:Nat}{f:Addr}{l d:Str}{g:Arguments}{h:List Stmt}{a:Scope}{dV kV F pm p ct oc:Value}{an od:Option Addr}{Sn:Array (Option Value)}{N L:hO}{R:Sp}(lk:K.lookup f=some ⟨oc,od,.func (PySem.W.fnOf l d g h a dV kV F pm an p ct),Sn⟩)(TC:PySem.W.codeIn K p d=true)(S:ε N L a)(D:∀i H Q E,R i H Q E->i.length=L.length)(Sq:∀(A:Around) (c:List Env) (s:Shared) (H:Hp) (i:List V) (Q:VK) (E:XK),Ρ k (A.deeper (envOfC d a s.heap.objs.size f p))->R i H Q E->∃t,Sl (qj M P w K G base N d a f p A c s H E) h t/\t { nx:=λ_ m=>Q .τ m,rt:=Q } (start N i) H):ϋ P w K G base M (k+1) f (PySem.W.fnOf l d g h a dV kV F pm an p ct) L R:=by
 refine⟨D,λA c s H af us i Q E T C hb r Z=>?_⟩;have hl:=D _ _ _ _ Z;have KX:K.In s.heap:=C.mod.Vc.keeps λb o e=>(C.bs b o e).1;have O:s.heap.NoLimit:=C.mod.nolimit.keeps λb o e=>(C.bs b o e).1;have Yc:∀y∈L.zip us,a.names.lookup y.1=some .local\/(a.names.lookup y.1=some .cell/\((cellsFrom (s.heap.objs.size+1) a.names []).lookup y.1).isSome=true):=λ⟨n,v⟩ hy=>by
  rcases S.par n (lH hy).1 with q|q
  .exact .inl q
  .exact .inr ⟨q,lO _ _ _ (.inl q)⟩
 refine codeAny_call_function T.depth (KX _ _ lk) rfl S.co S.gen rfl (PySem.W.codeRec_of KX TC) (hb _ _ _ _ ?_);refine wpAny_newFunctionEnv_cells S.kind Yc λav he Y x=>?_;subst he;refine⟨O.keeps x.toInCall.keep,codeAny_func ?_⟩;obtain⟨t,ht,hq⟩:=Sq A c s H i Q E (T.deeper _) Z;have I:Inv (qj M P w K G base N d a f p A c s H E) [] (start N i) H Y:=Lh S T.hd C hl r x;refine bu (ht [] Y (start N i) H _ I hq) (λfl U z=>?_) λe U z=>z;have B:∀{j:St}{m:Hp}{v:V}{u:Value},Inv (qj M P w K G base N d a f p A c s H E) [] j m U->RelV v u->Q v m->CE c P w H s Q u U:=λ{j m v u} J X q=>⟨v,m,J.os,J.bare,J.base,J.χ,X,q⟩
 cases fl with
 | ret u=>
   obtain⟨v,j,m,J,X,q⟩:=z;exact B J X q
 | next=>
   obtain⟨j,m,J,q⟩:=z;exact B (v:=V.τ) (u:=Value.none) J rfl q
 | brk=>
   obtain⟨_,_,_,q⟩:=z;exact False.elim q
 | cont=>
   obtain⟨_,_,_,q⟩:=z;exact False.elim q
section
variable{X:Cx}{x:Str}{p a:Pos}{e:Expr}{b:List Expr}{t:TA}{c T:String}{r:List V->Hp->VK->Prop}
def Xy(r:List V->Hp->VK->Prop)(t:TA):TE:=λg H Q=>t g H λf d=>r f d Q
theorem LY(y:kI X (.builtin c) r)(z:Gl X x)(u:X.mg x=none)(n:bootBuiltins x=some (.builtin c))(q:PA X (e::b) t)(o:x≠"__name__":=by decide)(f:(x==("__debug__":Str))=false:=by decide)(l:starEach (e::b) X.env=(false,eval e X.env)::starEach b X.env:=by rfl)(v:(backTo a (starEach b X.env)).any (·.1)=false:=by rfl):PE X (.Call (.Name x p) (e::b) [] a) (Xy r t):=by
 intro d s g H Q I h;refine fF (pB I z u n ?_ o f);exact PyProof.Rows.callWith_builtin1 (sd (q a d s g H _ I h) λB i k m j w A=>y d i g m k B Q j w A) l v
theorem uh(y:kI X (.type T) r)(z:Gl X x)(u:X.mg x=none)(n:bootBuiltins x=some (.type T))(q:PA X (e::b) t)(o:x≠"__name__":=by decide)(f:(x==("__debug__":Str))=false:=by decide)(l:starEach (e::b) X.env=(false,eval e X.env)::starEach b X.env:=by rfl)(v:(backTo a (starEach b X.env)).any (·.1)=false:=by rfl):PE X (.Call (.Name x p) (e::b) [] a) (Xy r t):=by
 intro d s g H Q I h;refine fF (pB I z u n ?_ o f);exact cF (sd (q a d s g H _ I h) λB i k m j w A=>y d i g m k B Q j w A) l v
end
end L2
namespace HT
open PySem PyProof.Rows
section
variable{a:Program}{w:World}{A:Around}{E:fc}{s:Shared}
def RY(n d:Nat):Option Int->Nat
 | none=>d
 | some v=>if v<0 then(v+(n:Int)).toNat else min v.toNat n
end
end HT
namespace L2
open PySem PySem.Spec PyProof.Rows
abbrev TO:=St->Hp->(Option Int->Hp->Prop)->Prop
def PO(X:Cx)(e:Option Expr)(t:TO):Prop:=∀(a:fz)(s:Shared)(b:St)(H:Hp)(Q:Option Int->Hp->Prop),Inv X a b H s->t b H Q->wpAny (model X.prog X.w) X.A (evalPart e X.env) (λu d=>∃o c,Inv X a b c d/\IsPart u o/\Q o c) X.xe s
def bV:TO:=λ_ H Q=>Q none H
def yP(t:TE):TO:=λb H Q=>t b H λx a=>∃i,x=.int i/\Q (some i) a
section
variable{X:Cx}{e:Expr}{d:TE}{a c:Option Expr}{f g:TO}{j k:Pos}
theorem gP:PO X none bV:=by
 intro b s i H Q I h;rw[evalPart_none];exact aM ⟨none,H,I,.none,h⟩
theorem gN(h:PE X e d):PO X (some e) (yP d):=by
 intro b s p H Q I r;rw[evalPart_some];refine dP (h b s p H _ I r) λu v x l m n o=>?_;obtain⟨i,rfl,q⟩:=o;obtain⟨t,rfl⟩:=n;exact⟨some i,l,m,.int i t,q⟩
def SlR(X:Cx)(r:V->Option Int->Option Int->Hp->VK->Prop):Prop:=∀(b:fz)(s:Shared)(i:St)(H:Hp)(x:V)(v h l:Value)(a c:Option Int)(m:Addr)(Q:VK),Inv X b i H s->RelV x v->s.heap.IsSliceOf m h l .none->IsPart h a->IsPart l c->r x a c H Q->∃T id,typeLookup (.type T) "__getitem__"=pure (some (.builtin id))/\s.TypeIs v T/\wpAny (model X.prog X.w) X.A (getItem v (.ref m)) (EP X b i Q) X.xe s
def Xz(r:V->Option Int->Option Int->Hp->VK->Prop)(d:TE)(f g:TO):TE:=λb H Q=>d b H λx i=>f b i λl m=>g b m λu h=>r x l u h Q
theorem gc{r:V->Option Int->Option Int->Hp->VK->Prop}(P:SlR X r)(B:PE X e d)(O:PO X a f)(G:PO X c g):PE X (.Subscript e (.Slice a c none k) j) (Xz r d f g):=by
 intro i s n H Q I h;refine Subscript_ (dP (B i s n H _ I h) λv y x D z S U=>?_);refine wpAny_Slice (Χ (O i y n D _ z U) λp J ⟨l,R,N,M,Z⟩=>Χ (G i J n R _ N Z) λo m ⟨u,t,F,Y,K⟩=>?_);rw[evalPart_none];refine aM ?_;have C:Inv X i n t { m with heap:=m.heap.push { cls:=.type "slice",data:=.fields #[p,o,.none] } }:=F.kept (t':=m.toks) λb ob q=>au _ q;obtain⟨T,id,E,L,W⟩:=P i { m with heap:=m.heap.push { cls:=.type "slice",data:=.fields #[p,o,.none] } } n t x v p o l u m.heap.objs.size Q C S (Heap.IsSliceOf.new ..) M Y K;show wpAny (model X.prog X.w) X.A (subscriptTail e (.Slice a c none k) v (.ref m.heap.objs.size)) (EP X i n Q) X.xe { m with heap:=m.heap.push { cls:=.type "slice",data:=.fields #[p,o,.none] } };exact tail_any (ops:=[.ref m.heap.objs.size,v]) L E W (by with_unfolding_all rfl)
def xU(b:List V)(a c:Option Int):List V:=(b.drop (HT.RY b.length 0 a)).take (HT.RY b.length b.length c-HT.RY b.length 0 a)
theorem GQ(b:List V)(a c:Option Int):(xU b a c).length<=b.length:=by
 unfold xU;rw[aZ,bZ]
 lia
end
def TF(n:Nat)(i:Int):Option Nat:=if 0<=i then(if i<n then some i.toNat else none)else if -(n:Int)<=i then some (i+n).toNat else none
def Ϲ{b:Type}(a:List b)(i:Int):Option b:=(TF a.length i).bind λj=>a[j]?
theorem Ie{n:Nat}{i:Int}{j:Nat}(h:TF n i=some j):seqIndex? i n=some j/\j<n/\-(n:Int)<=i/\i<n:=by
 unfold TF at h;by_cases b:0<=i
 .rw[ao b]at h;by_cases a:i<n
  .rw[ao a]at h;have e:i.toNat=j:=bC h;exact⟨by rw[seqIndex_of b a,e],by lia,by lia,a⟩
  .rw[ah a]at h;cases h
 .rw[ah b]at h;by_cases a:-(n:Int)<=i
  .rw[ao a]at h;have e:(i+n).toNat=j:=bC h;exact⟨by rw[seqIndex_neg (by lia) a,e],by lia,a,by lia⟩
  .rw[ah a]at h;cases h
theorem yC{b:Type}{a:List b}{i:Int}{v:b}(h:Ϲ a i=some v):∃j,seqIndex? i a.length=some j/\a[j]?=some v/\j<a.length/\-(a.length:Int)<=i/\i<a.length:=by
 unfold Ϲ at h;cases e:TF a.length i with
 | none=>rw[e]at h;cases h
 | some j=>
   rw[e]at h;obtain⟨g,c,d,f⟩:=Ie e;exact⟨j,g,h,c,d,f⟩
theorem HC{b:Type}{a:List b}{j:Nat}{v:b}(h:a[j]?=some v):Ϲ a (j:Int)=some v:=by
 have c:j<a.length:=(ay.mp h).1;have e:TF a.length (j:Int)=some j:=by
  unfold TF;rw[ao (by lia),ao (by lia)];simp
 unfold Ϲ;rw[e];exact h
theorem zJ{b:Type}(a:List b)(v:b):Ϲ (a++[v]) (-1)=some v:=by
 have c:(a++[v]).length=a.length+1:=by simp
 have e:TF (a++[v]).length (-1)=some a.length:=by
  unfold TF;rw[c,ah (by decide),ao (by lia)]
  congr 1
  lia
 unfold Ϲ;rw[e];show(a++[v])[a.length]?=some v;simp
def Hv(b:Expr):Prop:=∀o i,subscripted b false o i=operate [o,i] (getItem o i)
def Vl(X:Cx)(r:R2):Prop:=∀(c a:Expr)(b:fz)(s:Shared)(d:St)(H:Hp)(x y:V)(v u:Value)(Q:VK),Inv X b d H s->RelV x v->RelV y u->r x y H Q->subscripted a false v u=operate [v,u] (getItem v u)->wpAny (model X.prog X.w) X.A (subscriptTail c a v u) (EP X b d Q) X.xe s
def MtR(X:Cx)(id:String)(r:V->List V->Hp->VK->Prop):Prop:=∀(a:fz)(s:Shared)(c:St)(H:Hp)(x:V)(b:List V)(v:Value)(d:g8)(Q:VK),Inv X a c H s->RelV x v->Vals b d->r x b H Q->wpAny (model X.prog X.w) X.A (call (.builtin id) (v::d)) (EP X a c Q) X.xe s
section
variable{X:Cx}{a b:Expr}{F G:TE}{E:Pos}
theorem oJ{r:R2}(l:Vl X r)(j:PE X a F)(e:PE X b G)(i:Hv b):PE X (.Subscript a b E) (Vh r F G):=by
 intro c s d H Q I h;exact Subscript_ (MT j e I h λv u g x y n k m f q=>l a b c g d n x y v u Q k m f q (i _ _))
def Av(K:fv):R2:=λx y H Q=>∃p c i v,x=.ref p/\y=.int i/\ξ K H p c/\Ϲ c i=some v/\Q v H
def Jw(K:fv):R2:=λx y H Q=>∃p c i v,x=.ref p/\y=.int i/\Β K H p c/\Ϲ c i=some v/\Q v H
def Yd:R2:=λx y H Q=>∃z i c,x=.str z/\y=.int i/\z.length<=sizeLine/\Ϲ z.cps.toList i=some c/\Q (.str ⟨#[c]⟩) H
theorem bG:Vl X (Av X.K):=by
 intro f g c s n H x y v u Q I P M h A;obtain⟨p,S,i,z,rfl,rfl,J,D,q⟩:=h;cases P;obtain⟨t,rfl⟩:=M;obtain⟨l,r,k,U⟩:=I.list J;obtain⟨j,e,C,T,N,L⟩:=yC D;obtain⟨w,o,B⟩:=r.get C;have O:=r.length;have hn:=qv;have d:EP X c n Q w s:=⟨z,H,I,B,q⟩;by_cases m:0<=i
 .have hj:i.toNat=j:=by
   rw[seqIndex_of m L]at e;exact bC e
  exact item_listR k.isList m (by lia) (by rw[hj];simpa using o) d A
 .have hj:(i+(l.toArray.size:Int)).toNat=j:=by
   rw[seqIndex_neg (by lia) N]at e;rw[be,<-O];exact bC e
  exact subscriptTail_builtinR (x:=w) k.isList.typeIs slot_list_getitem.lookup
   (wpAny_getItem_list_neg (Q:=λr R=>r=w/\EP X c n Q r R) k.isList (by lia) (by rw[be]<;>lia) (by lia) (by rw[hj];simpa using o) ⟨rfl,d⟩) A
theorem fB:Vl X (Jw X.K):=by
 intro e f c s g H x y v u Q I L C h D;obtain⟨p,O,i,z,rfl,rfl,A,n,q⟩:=h;cases L;obtain⟨t,rfl⟩:=C;obtain⟨N,r,k,U⟩:=I.tuple A;obtain⟨j,o,m,R,S,P⟩:=yC n;obtain⟨w,B,l⟩:=r.get m;have J:=r.length;have T:=qv;have d:EP X c g Q w s:=⟨z,H,I,l,q⟩;exact subscriptTail_builtinR (x:=w) k.typeIs slot_tuple_getitem.lookup
  (getItem_tuple (j:=j) (Q:=λr M=>r=w/\EP X c g Q r M) k (by lia) (by lia) (by rw[be,<-J];exact o) (by simpa using B) ⟨rfl,d⟩) D
theorem Pd:Vl X Yd:=by
 intro d e g s C H x y v u Q I B n h p;obtain⟨z,i,c,rfl,rfl,K,l,q⟩:=h;obtain⟨t,rfl⟩:=B;obtain⟨L,rfl⟩:=n;obtain⟨j,f,k,D,o,m⟩:=yC l;have w:z.cps.toList.length=z.length:=by simp[Str.length]
 rw[w]at f o m;have J:=qv;exact tail_any (typeIs_str s z t) slot_str_getitem.lookup (getItem_str (c:=c) (by
  have A:decide (i < -(2^63:Int))=false:=bP (by lia);have r:decide (i ≥ 2^63)=false:=bP (by lia);rw[A,r,nF]) (by rw[f];simpa using k) ⟨.str ⟨#[c]⟩,H,I.tok _,⟨_,rfl⟩,q⟩) p
theorem IG(c:g8)(n j:Nat)(u:Value):Obj.mapSeq (·.setIfInBounds j u) { cls:=.type "list",data:=.seq c.toArray n }={ cls:=.type "list",data:=.seq (c.set j u).toArray n }:=by
 simp[Obj.mapSeq]
theorem Inv.lst{d:fz}{g:St}{H:Hp}{s:Shared}{p:Addr}{f:List V}(I:Inv X d g H s)(h:H p=some (.lst f)):∃(c:g8)(n:Nat),Vals f c/\s.heap.get? p=some { cls:=.type "list",data:=.seq c.toArray n }/\f.length<=sizeLine:=by
 obtain⟨z,c,n,r,e⟩:=I.χ p _ h;exact⟨c,n,r,e,z⟩
theorem Inv.Ww{d:fz}{k:St}{H:Hp}{s:Shared}{p:Addr}{o j:List V}{g c:g8}{n i:Nat}{f:Obj->Obj}(I:Inv X d k H s)(h:H p=some (.lst o))(m:s.heap.get? p=some { cls:=.type "list",data:=.seq g.toArray n })(l:f { cls:=.type "list",data:=.seq g.toArray n }={ cls:=.type "list",data:=.seq c.toArray i })(r:Vals j c)(w:j.length<=sizeLine)(t:Nat):Inv X d k (upd H p (.lst j)) { s with heap:=s.heap.update p f,toks:=t }:=by
 have e:(s.heap.update p f).get? p=some { cls:=.type "list",data:=.seq c.toArray i }:=by
  rw[dC f m (by rw[l]<;>rfl),l]
 refine I.write (x:=p) (e:=p) (by rw[h];trivial) (.inl rfl) (λb u v q=>(cu _ _ (Ne.symm v)).trans q) ⟨_,e⟩ ?_;exact⟨w,c,i,r,e⟩
def Ul:V->V->V->Hp->(Hp->Prop)->Prop:=λo i v H Q=>∃p c k j,o=.ref p/\i=.int k/\H p=some (.lst c)/\TF c.length k=some j/\Q (upd H p (.lst (c.set j v)))
theorem iy:LQ X Ul:=by
 intro c s z H o i v O N u Q I J B K h;obtain⟨p,A,k,j,rfl,rfl,y,D,q⟩:=h;cases J;obtain⟨t,rfl⟩:=B;obtain⟨d,n,r,f,C⟩:=I.lst y;obtain⟨e,L,w,x⟩:=Ie D;have g:=r.length;have M:=qv;have m:Inv X c z (upd H p (.lst (A.set j v))) { s with heap:=s.heap.update p (Obj.mapSeq (·.setIfInBounds j u)) }:=I.Ww y f (IG d n j u) (r.set K j) (by rw[b7];exact C) s.toks
 by_cases l:0<=k
 .have hk:k.toNat=j:=by
   rw[seqIndex_of l x]at e;exact bC e
  exact PySem.W.ki_setAt f l (by lia) (by rw[be,<-g];exact x) (by rw[hk];exact⟨_,m,q⟩)
 .have hk:(k+(d.toArray.size:Int)).toNat=j:=by
   rw[seqIndex_neg (by lia) w]at e;rw[be,<-g];exact bC e
  exact PySem.W.ki_setBack f (by lia) (by rw[be,<-g];exact w) (by lia) (by rw[hk];exact⟨_,m,q⟩)
theorem Fn(lo c:Option Int)(n:Nat):(sliceBounds lo c none n).1=((HT.RY n 0 lo:Nat):Int)/\(sliceBounds lo c none n).2.1=((HT.RY n n c:Nat):Int)/\(sliceBounds lo c none n).2.2=1:=by
 refine⟨?_,?_,rfl⟩
 .cases lo with
  | none=>simp[sliceBounds,HT.RY]
  | some i=>
    simp only[sliceBounds,HT.RY,Option.getD_none,show(1:Int)>0 by decide,if_true];by_cases h:i<0
    .simp only[h,if_true]<;>lia
    .simp only[h,if_false]<;>lia
 .cases c with
  | none=>simp[sliceBounds,HT.RY]
  | some i=>
    simp only[sliceBounds,HT.RY,Option.getD_none,show(1:Int)>0 by decide,if_true];by_cases h:i<0
    .simp only[h,if_true]<;>lia
    .simp only[h,if_false]<;>lia
theorem Ed(c:g8)(lo d:Option Int):slicePick c.toArray lo d none=((c.drop (HT.RY c.length 0 lo)).take (HT.RY c.length c.length d-HT.RY c.length 0 lo)).toArray:=by
 obtain⟨g,e,f⟩:=Fn lo d c.toArray.size;unfold slicePick;rw[g,e,f];simp only[sliceRange_one,pick_run,be]<;>rfl
def Co(K:fv):V->Option Int->Option Int->Hp->VK->Prop:=λx lo d H Q=>∃a c,x=.ref a/\ξ K H a c/\∀p,H p=none->Q (.ref p) (upd H p (.lst (xU c lo d)))
theorem hV:SlR X (Co X.K):=by
 intro g s t H x v z w lo e u Q I m j l n h;obtain⟨a,c,rfl,i,q⟩:=h;cases m;obtain⟨p,r,f,k⟩:=I.list i;have d:=r.length;refine⟨"list",_,slot_list_getitem.lookup,f.isList.typeIs,?_⟩;refine wpAny_getItem_list_slice f.isList j l n .none (by simp) ?_ (by rw[be]<;>lia);rw[Ed,<-d];refine⟨.ref s.heap.objs.size,_,I.laid (t':=s.toks) (o:=.lst (xU c lo e)) (λb y q=>au _ q) (aN _) ?_,rfl,q _ (I.χ.fresh (aN _))⟩;exact⟨aR (GQ c lo e) k,_,0,(r.drop (HT.RY c.length 0 lo)).take (HT.RY c.length c.length e-HT.RY c.length 0 lo),bg _ rfl⟩
def rA:V->Bool
 | .τ=>true
 | .bl _=>true
 | .int _=>true
 | .str _=>true
 | _=>false
def Ub:V->V->Bool
 | .τ,.τ=>true
 | .bl a,.bl b=>a==b
 | .bl a,.int b=>(if a then 1 else 0)==b
 | .int a,.bl b=>a==(if b then 1 else 0)
 | .int a,.int b=>a==b
 | .str a,.str b=>a==b
 | _,_=>false
theorem Pg{A:Around}{s:Shared}{y x:V}{u v:Value}(f:RelV y u)(c:RelV x v)(g:rA y=true)(e:rA x=true):SeqAt.EqAt A s u v (Ub y x):=by
 cases y with
 | τ=>
   cases f;cases x with
   | τ=>cases c;exact SeqAt.EqAt.same _
   | bl b=>cases c;exact SeqAt.EqAt.none_bool b
   | int b=>obtain⟨t,rfl⟩:=c;exact SeqAt.EqAt.none_int b t
   | str b=>obtain⟨t,rfl⟩:=c;exact SeqAt.EqAt.none_str b t
   | _=>exact absurd (show false=true from e) bi
 | bl a=>
   cases f;cases x with
   | τ=>cases c;exact SeqAt.EqAt.bool_none a
   | bl b=>cases c;exact SeqAt.EqAt.bool_bool a b
   | int b=>obtain⟨t,rfl⟩:=c;exact SeqAt.EqAt.bool_int a b t
   | str b=>obtain⟨t,rfl⟩:=c;exact SeqAt.EqAt.bool_str a b t
   | _=>exact absurd (show false=true from e) bi
 | int a=>
   obtain⟨d,rfl⟩:=f;cases x with
   | τ=>cases c;exact SeqAt.EqAt.int_none a d
   | bl b=>cases c;exact SeqAt.EqAt.int_bool a d b
   | int b=>obtain⟨t,rfl⟩:=c;exact SeqAt.EqAt.int_int a d b t
   | str b=>obtain⟨t,rfl⟩:=c;exact SeqAt.EqAt.int_str a d b t
   | _=>exact absurd (show false=true from e) bi
 | str a=>
   obtain⟨d,rfl⟩:=f;cases x with
   | τ=>cases c;exact SeqAt.EqAt.str_none a d
   | bl b=>cases c;exact SeqAt.EqAt.str_bool a d b
   | int b=>obtain⟨t,rfl⟩:=c;exact SeqAt.EqAt.str_int a d b t
   | str b=>obtain⟨t,rfl⟩:=c;exact SeqAt.EqAt.str_str a d b t
   | _=>exact absurd (show false=true from e) bi
 | _=>exact absurd (show false=true from g) bi
def S6(x:V)(u:Value):Bool:=match u with
 | .none=>Ub .τ x
 | .bool b=>Ub (.bl b) x
 | .int i _=>Ub (.int i) x
 | .str z _=>Ub (.str z) x
 | _=>false
theorem KR{x y:V}{u:Value}(r:RelV y u)(f:rA y=true):S6 x u=Ub y x:=by
 cases y with
 | τ=>cases r;rfl
 | bl b=>cases r;rfl
 | int i=>obtain⟨t,rfl⟩:=r;rfl
 | str z=>obtain⟨t,rfl⟩:=r;rfl
 | _=>exact absurd (show false=true from f) bi
theorem vG{x:V}:∀{c:List V}{d:g8},Vals c d->c.all rA=true->d.any (S6 x)=c.any λy=>Ub y x
 | _,_,.nil,_=>rfl
 | y::c,u::d,.cons r t,f=>by
   rw[nM,bw]at f;rw[hG,hG,KR r f.1,vG t f.2]
theorem tK{A:Around}{s:Shared}{x:V}{v:Value}(g:RelV x v)(e:rA x=true):∀{c:List V}{d:g8},Vals c d->c.all rA=true->∀u∈d,SeqAt.EqAt A s u v (S6 x u)
 | _,_,.nil,_=>λu hu=>by cases hu
 | y::c,u::d,.cons r t,f=>λh hu=>by
   rw[nM,bw]at f;rcases aG.mp hu with rfl|hu
   .rw[KR r f.1];exact Pg r g f.1 e
   .exact tK g e t f.2 h hu
def Wx(x:V)(c:List V):Bool:=c.any λy=>Ub y x
def rIn(K:fv)(d:Bool):R2:=λx y H Q=>∃p c,y=.ref p/\(ξ K H p c\/Β K H p c)/\rA x=true/\c.all rA=true/\Q (.bl (if d then !Wx x c else Wx x c)) H
theorem Ds:oR X (compareOp .In) (rIn X.K false):=by
 intro g s j H x y v u Q I f i h;obtain⟨p,k,rfl,hq,e,c,q⟩:=h;cases i;rcases hq with hq|hq
 .obtain⟨its,r,pl,hz⟩:=I.list hq;refine SeqAt.in_listAt (S6 x) pl.isList (λw d=>tK f e r c w (by simpa using d)) ⟨.bl _,H,I,rfl,?_⟩;rw[show its.toArray.any (S6 x)=its.any (S6 x) by simp,vG r c];exact q
 .obtain⟨its,r,pl,hz⟩:=I.tuple hq;refine SeqAt.in_tupleAt (S6 x) pl (λw d=>tK f e r c w (by simpa using d)) ⟨.bl _,H,I,rfl,?_⟩;rw[show its.toArray.any (S6 x)=its.any (S6 x) by simp,vG r c];exact q
theorem EE:oR X (compareOp .NotIn) (rIn X.K true):=by
 intro g s j H x y v u Q I f i h;obtain⟨p,k,rfl,hq,e,c,q⟩:=h;cases i;rcases hq with hq|hq
 .obtain⟨its,r,pl,hz⟩:=I.list hq;refine SeqAt.notIn_listAt (S6 x) pl.isList (λw d=>tK f e r c w (by simpa using d)) ⟨.bl _,H,I,rfl,?_⟩;rw[show its.toArray.any (S6 x)=its.any (S6 x) by simp,vG r c];exact q
 .obtain⟨its,r,pl,hz⟩:=I.tuple hq;refine SeqAt.notIn_tupleAt (S6 x) pl (λw d=>tK f e r c w (by simpa using d)) ⟨.bl _,H,I,rfl,?_⟩;rw[show its.toArray.any (S6 x)=its.any (S6 x) by simp,vG r c];exact q
theorem dk:kI X (.builtin "len") (λe H Q=>∃p d,e=[.ref p]/\(ξ X.K H p d\/Β X.K H p d)/\Q (.int d.length) H):=by
 intro f s i H e j Q I r h;obtain⟨p,d,rfl,hq,q⟩:=h;obtain⟨u,rfl,g⟩:=mP r;cases g;have k:=qv;rcases hq with hq|hq
 .obtain⟨its,r',pl,hz⟩:=I.list hq;have c:=r'.length;exact Calls.call_len_list pl.isList (by simp only[be]<;>lia) ⟨.int d.length,H,I.tok _,⟨s.toks+1,by rw[be,c]⟩,q⟩
 .obtain⟨its,r',pl,hz⟩:=I.tuple hq;have c:=r'.length;exact len_tuple pl (by simp only[be]<;>lia) ⟨.int d.length,H,I.tok _,⟨s.toks+1,by rw[be,c]⟩,q⟩
theorem Gy:kI X (.builtin "len") (λc H Q=>∃z,c=[.str z]/\z.length<=sizeLine/\Q (.int z.length) H):=by
 intro d s f H c g Q I r h;obtain⟨z,rfl,e,q⟩:=h;obtain⟨u,rfl,t,rfl⟩:=mP r;have i:=qv;exact len_str (by lia) ⟨.int z.length,H,I.tok _,⟨_,rfl⟩,q⟩
theorem oz:kI X (.type "list") (λB H Q=>∃p i,B=[.ref p]/\(ξ X.K H p i\/Β X.K H p i)/\∀l,H l=none->Q (.ref l) (upd H l (.lst i))):=by
 intro t s C H B J Q I r h;obtain⟨p,i,rfl,hq,q⟩:=h;obtain⟨u,rfl,D⟩:=mP r;cases D;have j:∀(c:g8),Vals i c->i.length<=sizeLine->∀(d:Heap)(f:Nat),(∀b A,s.heap.get? b=some A->d.get? b=some A)->d.get? s.heap.objs.size=some { cls:=.type "list",dict:=none,data:=.seq c.toArray f,slots:=#[] }->EP X t C Q (.ref s.heap.objs.size) { s with heap:=d }:=λc g v d f m e=>
  ⟨.ref s.heap.objs.size,_,I.laid (t':=s.toks) m (aN _) (show Δ X.prog X.w _ d _ (.lst i)from⟨v,c,f,g,e⟩),rfl,q _ (I.χ.fresh (aN _))⟩
 rcases hq with hq|hq
 .obtain⟨c,g,pl,v⟩:=I.list hq;have k:=g.length;obtain⟨o,x,z,n,y⟩:=pl.isList;exact call_list_seq p (.inl rfl) x z y (λd f m e=>j c g v d f m e) (by simp only[be]<;>lia)
 .obtain⟨c,g,pl,v⟩:=I.tuple hq;have k:=g.length;obtain⟨o,x,z,n,y⟩:=pl;exact call_list_seq p (.inr rfl) x z y (λd f m e=>j c g v d f m e) (by simp only[be]<;>lia)
theorem ii:kI X (.type "tuple") (λj H Q=>∃p d,j=[.ref p]/\((ξ X.K H p d/\∀l,H l=none->Q (.ref l) (upd H l (.tup d)))\/(Β X.K H p d/\Q (.ref p) H))):=by
 intro c s i H j v Q I r h;obtain⟨p,d,rfl,h⟩:=h;obtain⟨u,rfl,t⟩:=mP r;cases t;rcases h with⟨hq,q⟩|⟨hq,q⟩
 .obtain⟨its,r',pl,hz⟩:=I.list hq;have k:=r'.length;refine call_tuple_list pl.isList (λf n=>?_) (by simp only[be]<;>lia);have g:Inv X c i H { s with heap:=f }:=I.kept (t':=s.toks) n;have m:Inv X c i (upd H f.objs.size (.tup d)) { s with heap:=f.push { cls:=.type "tuple",data:=.seq its.toArray } }:=g.laid (t':=s.toks) (λb o e=>au _ e) (aN _) (show Δ X.prog X.w _ _ _ (.tup d)from⟨hz,its,r',IsTup.new _ _⟩)
  exact⟨.ref f.objs.size,_,m,rfl,q _ (g.χ.fresh (aN _))⟩
 .obtain⟨its,r',pl,hz⟩:=I.tuple hq;exact call_tuple_same pl ⟨.ref p,H,I,rfl,q⟩
def Ra(K:fv)(T:String)(x:V)(H:Hp):Prop:=match x with
 | .str _=>T="str"
 | .int _=>T="int"
 | .ref p=>(T="list"/\∃d,ξ K H p d)\/(T="tuple"/\∃o,K.lookup p=some o/\o.cls=.type "tuple"/\o.dict=none)\/(T="dict"/\((∃c,H p=some (.dK c))\/∃c,H p=some (.dT c)))\/(T="set"/\∃S n,H p=some (.set S n))
 | _=>False
theorem K9{f:fz}{l:St}{H:Hp}{s:Shared}{T:String}{x:V}{v:Value}(I:Inv X f l H s)(r:RelV x v)(g:Ra X.K T x H):s.TypeIs v T/\∀a,v=.ref a->∃k,s.heap.get? a=some k/\k.dict=none:=by
 cases x with
 | str z=>
   obtain⟨t,rfl⟩:=r;cases(show T="str" from g);exact⟨typeIs_str s z t,λ_ e=>nomatch e⟩
 | int i=>
   obtain⟨t,rfl⟩:=r;cases(show T="int" from g);exact⟨typeIs_int s i t,λ_ e=>nomatch e⟩
 | ref p=>
   cases r;rcases g with⟨rfl,xs,hq⟩|⟨rfl,o,hk,hc,h⟩|⟨rfl,hk⟩|⟨rfl,S,n,hk⟩
   .obtain⟨its,_,pl,_⟩:=I.list hq;refine⟨pl.isList.typeIs,λa e=>?_⟩;cases e;obtain⟨o,n,e,c,h,_⟩:=pl;exact⟨o,e,h⟩
   .refine⟨⟨o,I.ϵ p o hk,hc⟩,λa e=>?_⟩;cases e;exact⟨o,I.ϵ _ o hk,h⟩
   .have z:∃o,s.heap.get? p=some o/\o.ExactDict:=by
     rcases hk with⟨θ,hk⟩|⟨θ,hk⟩
     .obtain⟨_,_,_,_,o,_,_,e,d,_⟩:=I.χ p _ hk;exact⟨o,e,d⟩
     .obtain⟨_,_,_,_,o,_,_,e,d,_⟩:=I.χ p _ hk;exact⟨o,e,d⟩
    obtain⟨o,e,d⟩:=z;refine⟨⟨o,e,d.1⟩,λa j=>?_⟩;cases j;exact⟨o,e,d.2.1⟩
   .obtain⟨o,_,_,_,e,d,_⟩:=I.χ p _ hk;refine⟨⟨o,e,d.1⟩,λa j=>?_⟩;cases j;exact⟨o,e,d.2.1⟩
 | _=>exact False.elim g
def No(K:fv)(T:String)(r:V->List V->Hp->VK->Prop)(D:TE):TE:=λd H Q=>D d H λx c=>Ra K T x c/\r x [] c Q
def tBM(K:fv)(T:String)(r:V->List V->Hp->VK->Prop)(D:TE)(t:TA):TE:=λd H Q=>D d H λx c=>Ra K T x c/\t d c λe f=>r x e f Q
variable{o e:Expr}{B:List Expr}{D:TE}{t:TA}{d:Str}{g m:Pos}{T C:String}{r:V->List V->Hp->VK->Prop}
theorem BU(J:PlainAttrs T)(i:Slot T d C)(j:typeOf (.builtin C)=pure (.type "method_descriptor"))(L:MtR X C r)(w:PE X o D)(p:attributeBase o d X.env (eval o X.env)=eval o X.env:=by rfl)(f:(g.endLine==m.line)=true:=by rfl):PE X (.Call (.Attribute o d g) [] [] m) (No X.K T r D):=by
 intro c s l H Q I h;refine wpAny_Call_method0_late p f (dP (w c s l H _ I h) λv q x z k n ⟨A,M⟩=>?_);obtain⟨y,u⟩:=K9 k n A;exact⟨T,C,J,i,j,y,u,jf rfl (PySem.evalArgs_none (L c q l z x [] v [] Q k n .nil M))⟩
theorem eu(O:PlainAttrs T)(i:Slot T d C)(k:typeOf (.builtin C)=pure (.type "method_descriptor"))(V:MtR X C r)(z:PE X o D)(R:PA X (e::B) t)(q:attributeBase o d X.env (eval o X.env)=eval o X.env:=by rfl)(L:((backTo m (starEach (e::B) X.env)).all (λx=>!x.1)&&(backToKw m (keywordEach [] X.env)).all (λx=>x.1.isSome)
 && decide ((e::B).length+([]:List Keyword).length+(if([]:List Keyword).isEmpty then 0 else 1)<30))=true:=by rfl)(f:(g.endLine==m.line)=true:=by rfl)(P:starEach (e::B) X.env=(false,eval e X.env)::starEach B X.env:=by rfl)(W:(backTo m (starEach B X.env)).any (·.1)=false:=by rfl):PE X (.Call (.Attribute o d g) (e::B) [] m) (tBM X.K T r D t):=by
 intro c s j H Q I h;refine wpAny_Call_method_late q L f rfl (dP (z c s j H _ I h) λv u x J l p ⟨N,Z⟩=>?_);obtain⟨A,y⟩:=K9 l p N;refine⟨T,C,O,i,k,A,y,?_⟩;have n:=R m c u j J _ l Z;rw[P]at n ⊢;refine jf (by show(false||(backTo m (starEach B X.env)).any (·.1))=false;rw[W]<;>rfl) (gg ?_);exact Χ n λus M ⟨w,Y,U,S,q2⟩=>V c M j Y x w v us Q U p S q2
end
def Wz(X:Cx)(id:String)(r:V->List V->Hp->VK->Prop):Prop:=∀(a:fz)(s:Shared)(c:St)(H:Hp)(x:V)(b:List V)(v:Value)(d:g8)(Q:VK),Inv X a c H s->RelV x v->Vals b d->r x b H Q->wpAny (model X.prog X.w) X.A (call (.builtin id) (v::d)) (EP X a c Q) X.xe s
theorem Vals.one{x:V}{a:g8}(h:Vals [x] a):∃u,a=[u]/\RelV x u:=by
 cases h with
 | cons r t=>cases t;exact⟨_,rfl,r⟩
theorem Vals.two{x y:V}{a:g8}(h:Vals [x,y] a):∃u v,a=[u,v]/\RelV x u/\RelV y v:=by
 cases h with
 | cons r t=>
   obtain⟨v,e,q⟩:=Vals.one t;subst e;exact⟨_,v,rfl,r,q⟩
theorem Vals.zero:∀{a:g8},Vals [] a->a=[]
 | _,.nil=>rfl
theorem Vals.dropLast{a:List V}{b:g8}(h:Vals a b):Vals a.dropLast b.dropLast:=by
 induction h with
 | nil=>exact .nil
 | cons r t ih=>
   cases t with
   | nil=>exact .nil
   | cons q t'=>exact .cons r ih
theorem Vals.rep{a:List V}{b:g8}(h:Vals a b):∀k:Nat,Vals (List.replicate k a).flatten (List.replicate k b).flatten
 | 0=>.nil
 | k+1=>by
   rw[dg,dg,fW,fW];exact Vals.append h (Vals.rep h k)
theorem JE{c:Type}(l:List c):l.eraseIdx (l.length-1)=l.dropLast:=by
 induction l with
 | nil=>rfl
 | cons a r ih=>
   cases r with
   | nil=>rfl
   | cons b r=>
     have e:(a::b::r).length-1=((b::r).length-1)+1:=by
      have f:(a::b::r).length=r.length+2:=rfl;have d:(b::r).length=r.length+1:=rfl
      lia
     rw[e,List.eraseIdx_cons_succ,ih]
     all_goals rfl
theorem DI(b:g8):∀(k:Nat)(a:g8),List.foldl (λd f=>d++f) a.toArray (List.replicate k b.toArray)=(a++(List.replicate k b).flatten).toArray
 | 0,a=>by simp
 | k+1,a=>by
   have e:a.toArray++b.toArray=(a++b).toArray:=by simp
   have c:(a++b)++(List.replicate k b).flatten=a++(List.replicate (k+1) b).flatten:=by
    rw[dg,fW,b4]
   rw[<-c,<-DI b k (a++b),<-e,dg,jH]
section
variable{X:Cx}{a:fz}{c:St}{H:Hp}{s:Shared}{l b:Addr}{g d i:List V}
theorem Inv.WB{h its':g8}{n:Nat}{f:Array Value->Array Value}{t:Nat}(I:Inv X a c H s)(r:H l=some (.lst g))(e:s.heap.get? l=some { cls:=.type "list",data:=.seq h.toArray n })(j:f h.toArray=its'.toArray)(m:Vals d its')(k:d.length<=sizeLine):Inv X a c (upd H l (.lst d)) { s with heap:=s.heap.update l (Obj.mapSeq f),toks:=t }:=by
 have q:=PySem.IsL.update e f;rw[j]at q;refine I.write (x:=l) (e:=l) (by rw[r];exact trivial) (.inl rfl) (λv u p o=>(cu s.heap (Obj.mapSeq f) (Ne.symm p)).trans o) ⟨_,q⟩ ?_;exact⟨k,its',_,m,q⟩
theorem Inv.Ye{e:g8}{t':Nat}(I:Inv X a c H s)(h:Vals d e)(f:d.length<=sizeLine):Inv X a c (upd H s.heap.objs.size (.lst d)) { s with heap:=s.heap.push { cls:=.type "list",data:=.seq e.toArray },toks:=t' }:=I.laid (λ_ _ q=>au _ q) (aN _) ⟨f,e,0,h,bg _ rfl⟩
theorem Inv.fresh(I:Inv X a c H s):H s.heap.objs.size=none:=I.χ.fresh (aN _)
theorem Inv.S8(I:Inv X a c H s)(h:H l=some (.lst g)):g.length<=sizeLine/\∃(f:g8)(n:Nat),Vals g f/\g.length=f.length/\s.heap.get? l=some { cls:=.type "list",data:=.seq f.toArray n }:=by
 obtain⟨z,f,n,r,e⟩:=I.χ l _ h;exact⟨z,f,n,r,r.length,e⟩
theorem Nu{n:Nat}(h:n<=sizeLine):Builtin.List.listTooLong n=false:=by
 unfold Builtin.List.listTooLong;exact bP (by lia)
end
section
variable{X:Cx}
def To:V->List V->Hp->VK->Prop:=λx b H Q=>∃l a y,x=.ref l/\b=[y]/\H l=some (.lst a)/\a.length<sizeLine/\Q .τ (upd H l (.lst (a++[y])))
theorem eG:Wz X "list.append" To:=by
 intro c s j H x i v p Q I f g h;obtain⟨l,k,y,rfl,rfl,b,o,q⟩:=h;cases f;obtain⟨u,rfl,d⟩:=g.one;obtain⟨z,a,n,r,m,e⟩:=I.S8 b;refine call_meets F.slot_list_append ⟨_,e,rfl⟩ F.entry_list_append (F.args_list_append_2 _ _) (PySem.list_append l a.toArray n u (by rw[be];lia)) ⟨e,?_⟩;refine⟨.τ,_,I.WB (its':=a++[u]) b e (by simp) (r.append (.cons d .nil)) ?_,rfl,q⟩;rw[ap,bM]
 lia
def Yg:V->List V->Hp->VK->Prop:=λx b H Q=>∃l a y,x=.ref l/\b=[]/\H l=some (.lst a)/\a[a.length-1]?=some y/\Q y (upd H l (.lst a.dropLast))
theorem Bn:Wz X "list.pop" Yg:=by
 intro d s t H x p v A Q I m o h;obtain⟨l,w,y,rfl,rfl,c,g,q⟩:=h;cases m;have b:=o.zero;subst b;obtain⟨z,a,n,r,k,e⟩:=I.S8 c;obtain⟨u,j,i⟩:=r.get g;have f:a.toArray[a.toArray.size-1]?=some u:=by
  show a.toArray[a.length-1]?=some u;rw[<-iq,<-k];exact j
 refine call_meets F.slot_list_pop ⟨_,e,rfl⟩ F.entry_list_pop (F.args_list_pop_1 _) (MeetsSeq.list_pop_last l a.toArray n u f (by rw[be];lia)) ⟨e,?_⟩;refine⟨y,_,I.WB (its':=a.dropLast) c e ?_ r.dropLast ?_,i,q⟩
 .show a.toArray.eraseIdxIfInBounds (a.toArray.size-1)=a.dropLast.toArray;rw[be,List.eraseIdxIfInBounds_toArray,JE]
 .rw[List.length_dropLast]
  lia
def Rj:R2:=λx y H Q=>∃l b a c,x=.ref l/\y=.ref b/\H l=some (.lst a)/\H b=some (.lst c)/\a.length+c.length<=sizeLine/\∀p,H p=none->Q (.ref p) (upd H p (.lst (a++c)))
theorem gh:oR X (binaryOp .Add) Rj:=by
 intro d s A H x y v u Q I m f h;obtain⟨l,b,B,t,rfl,rfl,g,k,D,q⟩:=h;cases m;cases f;obtain⟨z,a,n,r,E,e⟩:=I.S8 g;obtain⟨C,c,w,j,o,i⟩:=I.S8 k;refine PySem.P.add_list e i ?_ (by rw[be,be];lia);have p:a.toArray++c.toArray=(a++c).toArray:=by simp
 rw[p];exact⟨.ref _,_,I.Ye (t':=s.toks) (r.append j) (by rw[ap];lia),rfl,q _ I.fresh⟩
def acD:R2:=λx y H Q=>∃l k a,x=.ref l/\y=.int k/\H l=some (.lst a)/\-(2^63)<=k/\k<2^63/\a.length*k.toNat<=sizeLine/\∀p,H p=none->Q (.ref p) (upd H p (.lst (List.replicate k.toNat a).flatten))
theorem Ov{b:Type}(a:List b)(k:Nat):(List.replicate k a).flatten.length=k*a.length:=by
 induction k with
 | zero=>simp
 | succ k ih=>rw[dg,fW,ap,ih,Nat.succ_mul,Nat.add_comm]
theorem yB:oR X (binaryOp .Mult) acD:=by
 intro p s L H x y v u Q I J D h;obtain⟨l,k,M,rfl,rfl,E,C,w,o,q⟩:=h;cases J;obtain⟨t,rfl⟩:=D;obtain⟨z,b,n,r,G,e⟩:=I.S8 E;have c:b.toArray.size*k.toNat<=sizeLine:=by rw[be,<-G];exact o
 have g:¬b.toArray.size*k.toNat>(2^63-1)/8:=by
  have:(sizeLine:Nat)<=(2^63-1)/8:=by decide
  lia
 have i:¬(!Builtin.List.listFitsIndex k)=true:=by
  rw[fitsIndex_both C w];exact bi
 have A:¬Builtin.List.listTooLong (b.toArray.size*k.toNat)=true:=by
  rw[Nu c];exact bi
 have d:List.foldl (λf j=>f++j) #[] (List.replicate (if b.toArray.isEmpty=true then 0 else k.toNat) b.toArray)=(List.replicate k.toNat b).flatten.toArray:=by
  have B:∀m:Nat,List.foldl (λf j=>f++j) #[] (List.replicate m b.toArray)=(List.replicate m b).flatten.toArray:=λm=>by
   have:=DI b m [];rw[jk]at this;exact this
  rw[B];cases b with
  | nil=>simp
  | cons a r'=>rw[ah (by simp)]
 refine wpAny_binaryOp_repeat_ref (T:="list") (U:="int") (by decide) ⟨_,e,rfl⟩ (λK=>typeIs_int K k t) noFill_list_mul F.fills_int_mul F.slot_int_rmul repeat_list F.slot_int_index.lookup
  (call_meets F.slot_int_rmul (typeIs_int s k t) F.entry_int_rmul (F.args_int_rmul_2 _ _) (int___rmul___int_list k t l b.toArray n)
   ⟨e,rfl,⟨_,e,rfl⟩,call_meets F.slot_list_mul ⟨_,e,rfl⟩ F.entry_list_mul (F.args_list_mul_2 _ _) (AutoListH.list___mul___list_int_3 l b.toArray n k t i g A) ⟨e,?_⟩⟩)
 rw[d];exact⟨.ref _,_,I.Ye (t':=s.toks) (r.rep k.toNat) (by rw[Ov,Nat.mul_comm];exact o),rfl,q _ I.fresh⟩
end
section
variable{a:Program}{w:World}{A:Around}{E:fc}{s:Shared}
set_option maxRecDepth 100000 in
end
section
variable{a:Type}[DecidableEq a]
def nJ(b:List (a×V))(k:a):Option V:=(b.find? λc=>decide (c.1=k)).map (·.2)
def nI(c:List (a×V))(k:a)(v:V):List (a×V):=if(c.any λb=>decide (b.1=k))=true then c.map (λb=>if b.1=k then(b.1,v)else b)else c++[(k,v)]
theorem wJ{p:a×V}{r:List (a×V)}{k:a}(e:p.1=k):nJ (p::r) k=some p.2:=by simp[nJ,eZ,e]
theorem vY{p:a×V}{r:List (a×V)}{k:a}(e:¬p.1=k):nJ (p::r) k=nJ r k:=by simp[nJ,eZ,e]
theorem AB(k:a):∀b:List (a×V),(b.any λc=>decide (c.1=k))=(nJ b k).isSome
 | []=>rfl
 | p::r=>by
   rw[hG];by_cases e:p.1=k
   .simp only[wJ e,bB e,Bool.true_or,Option.isSome_some]
   .rw[vY e,bP e,nL];exact AB k r
theorem uR(b:List (a×V))(k:a)(v:V):(nI b k v).length<=b.length+1:=by
 unfold nI;split
 .rw[ag];lia
 .rw[ap,aJ,dD];lia
theorem Nz{b:List (a×V)}{k:a}(v:V)(h:nJ b k=none):nI b k v=b++[(k,v)]:=by
 unfold nI;rw[AB,h];exact ah (by decide)
theorem iN.bY{o:Option V}{u:Option Value}(r:iN o u):o.isSome=u.isSome:=by
 cases o with
 | none=>cases u with
   | none=>rfl
   | some _=>exact(show False from r).elim
 | some _=>cases u with
   | none=>exact(show False from r).elim
   | some _=>rfl
theorem KV.val{c:List (a×V)}{d:List (a×Value)}(r:KV c d)(k:a):iN (nJ c k) (valueAt d k):=by
 unfold KV at r
 induction r with
 | nil=>exact True.intro
 | @cons p q ps qs h t ih=>
   obtain⟨f,g⟩:=h;by_cases e:p.1=k
   .have e':q.1=k:=f.symm.trans e;have b:valueAt (q::qs) k=some q.2:=(by simp[valueAt,eZ,e']);rw[wJ e,b];exact g
   .have e':¬q.1=k:=λz=>e (f.trans z);have b:valueAt (q::qs) k=valueAt qs k:=(by simp[valueAt,eZ,e']);rw[vY e,b];exact ih
theorem KV.any{c:List (a×V)}{d:List (a×Value)}(r:KV c d)(k:a):(c.any λb=>decide (b.1=k))=d.any λb=>decide (b.1=k):=by
 unfold KV at r
 induction r with
 | nil=>rfl
 | cons h t ih=>rw[hG,hG,ih,h.1]
theorem KV.repl{d:List (a×V)}{f:List (a×Value)}(r:KV d f)(k:a){y:V}{u:Value}(i:RelV y u):KV (d.map λb=>if b.1=k then(b.1,y)else b) (f.map λb=>if b.1=k then(b.1,u)else b):=by
 unfold KV at r ⊢
 induction r with
 | nil=>exact .nil
 | @cons p q ps qs h t ih=>
   rw[bh,bh];refine .cons ?_ ih;obtain⟨c,g⟩:=h;by_cases e:p.1=k
   .rw[ao e,ao (c.symm.trans e)];exact⟨c,i⟩
   .rw[ah e,ah (λz=>e (c.trans z))];exact⟨c,g⟩
theorem KV.put{c:List (a×V)}{b:List (a×Value)}(r:KV c b)(k:a){y:V}{u:Value}(d:RelV y u):KV (nI c k y) (stored b k u):=by
 unfold nI stored;rw[r.any k];by_cases e:(b.any λf=>decide (f.1=k))=true
 .rw[ao e,ao e];exact r.repl k d
 .rw[ah e,ah e];exact Paired.snoc r ⟨rfl,d⟩
theorem KV.length{b:List (a×V)}{c:List (a×Value)}(r:KV b c):b.length=c.length:=Paired.length r
end
theorem yL{P:Program}{w:World}{k:Key}{u:Value}(r:RelV (kV k) u):(hJ P w).is k u=true:=by
 cases k with
 | inl i=>obtain⟨t,e⟩:=(show ∃t,u=Value.int i t from r);subst e;exact GP P w i t
 | inr x=>obtain⟨t,e⟩:=(show ∃t,u=Value.str x t from r);subst e;exact uX P w x t
theorem Di{P:Program}{w:World}:∀{a:List Key}{b:g8},Vals (a.map kV) b->ItemsAre (hJ P w) a b
 | [],_,r=>by rw[cZ]at r;cases r;exact .nil
 | k::a,_,r=>by
   rw[bh]at r;cases r with
   | cons h t=>exact .cons (yL h) (Di t)
abbrev KT(H:Hp):List (List Key×V)->List (List Key×Addr×Value)->Prop:=Paired λp q=>p.1=q.1/\H q.2.1=some (.tup (p.1.map kV))/\RelV p.2 q.2.2
theorem KT.val{H:Hp}{a:List (List Key×V)}{c:List (List Key×Addr×Value)}(r:KT H a c)(k:List Key):iN (nJ a k) ((atKey c k).map (·.2)):=by
 induction r with
 | nil=>exact True.intro
 | @cons p q ps qs h t ih=>
   obtain⟨d,_,f⟩:=h;by_cases e:p.1=k
   .have e':q.1=k:=d.symm.trans e;have b:atKey (q::qs) k=some q.2:=(by simp[atKey,eZ,e']);rw[wJ e,b];exact f
   .have e':¬q.1=k:=λz=>e (d.trans z);have b:atKey (q::qs) k=atKey qs k:=(by simp[atKey,eZ,e']);rw[vY e,b];exact ih
theorem KT.repl{H:Hp}{c:List (List Key×V)}{d:List (List Key×Addr×Value)}(r:KT H c d)(k:List Key){y:V}{u:Value}(g:RelV y u):KT H (c.map λb=>if b.1=k then(b.1,y)else b) (d.map (putAt k u)):=by
 induction r with
 | nil=>exact .nil
 | @cons p q ps qs h t ih=>
   rw[bh,bh];refine .cons ?_ ih;obtain⟨a,f,i⟩:=h;unfold putAt;by_cases e:p.1=k
   .rw[ao e,ao (a.symm.trans e)];exact⟨a,f,g⟩
   .rw[ah e,ah (λz=>e (a.trans z))];exact⟨a,f,i⟩
theorem KT.put{H:Hp}{c:List (List Key×V)}{a:List (List Key×Addr×Value)}(r:KT H c a)(k:List Key){b:Addr}{y:V}{u:Value}(g:H b=some (.tup (k.map kV)))(d:RelV y u):KT H (nI c k y) (storedH a k b u):=by
 have e:(c.any λf=>decide (f.1=k))=(atKey a k).isSome:=by
  rw[AB,(r.val k).bY,ko]
 unfold nI storedH;rw[e];by_cases q:(atKey a k).isSome=true
 .rw[ao q,ao q];exact r.repl k d
 .rw[ah q,ah q];exact Paired.snoc r ⟨rfl,g,d⟩
theorem KT.keeps{H d:Hp}{a:List (List Key×V)}{c:List (List Key×Addr×Value)}(r:KT H a c)(f:∀b e,H b=some (.tup e)->d b=some (.tup e)):KT d a c:=Paired.Vb r λ_ _ z=>⟨z.1,f _ _ z.2.1,z.2.2⟩
section
variable{P:Program}{w:World}{H:Hp}{h:Heap}{a:Addr}
theorem NL{u:HO}(ok:Ϸ P w H h)(e:Rd H a u):Δ P w H h a u:=e.ok ok
theorem JR{b:List (Key×V)}(d:Ϸ P w H h)(e:Rd H a (.dK b)):b.length<=sizeLine/\(a==sysModules)=false/\∃c,KV b c/\h.DictOf (hJ P w) a c:=show Δ P w H h a (.dK b)from NL d e
theorem NH{b:List (Key×V)}(d:Ϸ P w H h)(e:H a=some (.dK b)):b.length<=sizeLine/\(a==sysModules)=false/\∃c,KV b c/\h.DictOf (hJ P w) a c:=JR d (.inl e)
theorem Fv{b:List Key}(d:Ϸ P w H h)(e:H a=some (.tup (b.map kV))):(tupleKind (hJ P w)).is h b a:=by
 obtain⟨_,c,r,o,i,f,n,g⟩:=(show Δ P w H h a (.tup (b.map kV))from d a _ e);exact⟨o,c.toArray,n,i,f,g,by simpa using Di r⟩
theorem ND{b:List (List Key×V)}(f:Ϸ P w H h)(e:Rd H a (.dT b)):b.length<=sizeLine/\(a==sysModules)=false/\∃c,KT H b c/\h.DictOfH (tupleKind (hJ P w)) a c:=by
 obtain⟨z,y,c,r,o,j,u,i,g,n,s,k⟩:=(show Δ P w H h a (.dT b)from NL f e);refine⟨z,y,c,r,o,j,u,i,g,n,s,λx hx=>?_,k⟩;have d:∀{l:List (List Key×V)}{m:List (List Key×Addr×Value)},KT H l m->∀x∈m,(tupleKind (hJ P w)).is h x.1 x.2.1:=by
  intro l m q
  induction q with
  | nil=>intro x hx;exact nomatch hx
  | @cons p q ps qs hq t ih=>
    intro x hx;rcases aG.mp hx with e|hx
    .subst e;exact Fv f (by rw[<-hq.1];exact hq.2.1)
    .exact ih x hx
 exact d r x hx
theorem Qc{b:List (List Key×V)}(d:Ϸ P w H h)(e:H a=some (.dT b)):b.length<=sizeLine/\(a==sysModules)=false/\∃c,KT H b c/\h.DictOfH (tupleKind (hJ P w)) a c:=ND d (.inl e)
end
def Um(H:Hp)(a:Addr)(y:V)(r:Option V):Prop:=(∃c k,Rd H a (.dK c)/\y=kV k/\r=nJ c k)\/∃c k b,Rd H a (.dT c)/\y=.ref b/\H b=some (.tup (k.map kV))/\r=nJ c k
def Uo(H:Hp)(a:Addr)(y v:V)(d:Hp):Prop:=(∃c k,H a=some (.dK c)/\y=kV k/\c.length<sizeLine/\d=upd H a (.dK (nI c k v)))\/∃c k b,H a=some (.dT c)/\y=.ref b/\H b=some (.tup (k.map kV))/\c.length<sizeLine/\d=upd H a (.dT (nI c k v))
theorem Um.k{H:Hp}{a:Addr}{b:List (Key×V)}{k:Key}(e:H a=some (.dK b)):Um H a (kV k) (nJ b k):=.inl ⟨b,k,.inl e,rfl,rfl⟩
theorem Uo.k{H:Hp}{a:Addr}{b:List (Key×V)}{k:Key}{v:V}(e:H a=some (.dK b))(c:b.length<sizeLine):Uo H a (kV k) v (upd H a (.dK (nI b k v))):=.inl ⟨b,k,e,rfl,c,rfl⟩
section
variable{X:Cx}{d:fz}{f:St}{H:Hp}{s:Shared}{a:Addr}{y v:V}{u r:Value}{o:Option V}{A:Around}{E:fc}
theorem Inv.big(I:Inv X d f H s):sysModules<s.heap.objs.size:=by
 have h:mainGlobals<s.heap.objs.size:=(I.mod.glob.keeps I.bk).lt;exact Nat.lt_trans (by decide) h
theorem Of{Q:fc}(p:A.units+1<cLine)(I:Inv X d f H s)(g:Um H a y o)(n:RelV y u)(h:∀m,Inv X d f H m->Q (.bool (!o.isSome)) m):wpAny (model X.prog X.w) A (compareOp .NotIn u (.ref a)) Q E s:=by
 rcases g with⟨θ,k,e,ey,l⟩|⟨θ,k,b,e,ey,eb,l⟩
 .subst ey;obtain⟨z,j,x,c,i⟩:=JR I.χ e;refine wpAny_notIn_of (yL n) j i.mapOf ?_;rw[<-(c.val k).bY,<-l];exact h _ (I.tok _)
 .subst ey;cases(show u=Value.ref b from n);obtain⟨z,j,t,c,i⟩:=ND I.χ e;refine wpAny_notIn_heap (tupleKind_room_in1 p) (Fv I.χ eb) j i ?_;have q:=(c.val k).bY;rw[ko]at q;rw[<-q,<-l];exact h _ (I.tok _)
theorem CM{c:Heap}{l:Nat}{h:HO}(I:Inv X d f H s)(j:X0 (H a))(i:Heap.SameBut a s.heap c)(k:∃q,c.get? a=some q)(g:Δ X.prog X.w (upd H a h) c a h):Inv X d f (upd H a h) { s with heap:=c,toks:=l }:=I.write (x:=a) (e:=a) j (.inl rfl) (λb q m z=>(i.2 b m).trans z) k g
theorem K0{P:Program}{w:World}{i:Hp}{g:Heap}{b:List (Key×V)}{e:List (Key×Value)}(z:b.length<=sizeLine)(j:(a==sysModules)=false)(c:KV b e)(h:g.DictOf (hJ P w) a e):Δ P w i g a (.dK b):=⟨z,j,e,c,h⟩
theorem KY{K:Hp}{Q:Unit->Shared->Prop}(R:A.units+1<cLine)(I:Inv X d f H s)(g:Uo H a y v K)(D:RelV y u)(G:RelV v r)(h:∀J,Inv X d f K J->Q () J):wpAny (model X.prog X.w) A (setItem (.ref a) u r) Q E s:=by
 rcases g with⟨θ,k,e,ey,l,eH⟩|⟨θ,k,b,e,ey,eb,l,eH⟩
 .subst ey eH;obtain⟨z,p,L,i,n⟩:=NH I.χ e;have B:L.length<=sizeLine:=by rw[<-i.length];exact z
  have x:(nI θ k v).length<=sizeLine:=by have:=uR θ k v;lia
  refine wpAny_setItem_pairs (hsz:=B) (yL D) n λF m t=>h _ ?_;have N:∃q,F.get? a=some q:=let ⟨q,_,_,j,_⟩:=m;⟨q,j⟩;exact CM I (by rw[e];exact True.intro) t N (K0 x p (i.put k G) m)
 .subst ey eH;cases(show u=Value.ref b from D);obtain⟨z,p,O,i,n⟩:=Qc I.χ e;have B:O.length<=sizeLine:=by rw[<-Paired.length i];exact z
  have x:(nI θ k v).length<=sizeLine:=by have:=uR θ k v;lia
  refine wpAny_setItem_heap (hsz:=B) (tupleKind_room_in1 R) (Fv I.χ eb) n λF m t=>h _ ?_;obtain⟨q,P,V,j,M,T,U,_,S⟩:=m;refine CM I (by rw[e];exact True.intro) t ⟨q,j⟩ ⟨x,p,_,(i.put k eb G).keeps λc W C=>?_,q,P,V,j,M,T,U,S⟩;rw[aY (dX C e (λz=>nomatch z))];exact C
end
section
variable{X:Cx}{b:fz}{d:St}{H:Hp}{s:Shared}{a:Addr}{c:List (Key×V)}{k:Key}{u:Value}{A:Around}{E:fc}
theorem Qi{Q:fc}(I:Inv X b d H s)(e:Rd H a (.dK c))(h:∀t g,Inv X b d H g->Q (.int c.length t) g):wpAny (model X.prog X.w) A (call (.builtin "len") [.ref a]) Q E s:=by
 obtain⟨z,j,l,f,i⟩:=JR I.χ e;refine call_len_dict j i (by rw[<-f.length];rw[sizeLine_eq]at z;lia) ?_;rw[<-f.length];exact h _ _ (I.tok _)
end
def Pp(i:Expr):Prop:=∀b a,subscripted i false b a=operate [b,a] (getItem b a)
theorem OL{a:Program}{w:World}{A:Around}{E:fc}{s:Shared}{k:Env}{c b:Expr}{n:Pos}{T id:String}{Q:fc}(t:typeLookup (.type T) "__getitem__"=pure (some (.builtin id)))(q:Pp b)(h:wpAny (model a w) A (eval c k) (λo f=>wpAny (model a w) A (eval b k) (λi d=>d.TypeIs o T/\wpAny (model a w) A (getItem o i) Q E d) E f) E s):wpAny (model a w) A (eval (.Subscript c b n) k) Q E s:=by
 refine Subscript_ (bu h (λo f m=>bu m (λi d e=>?_) λ_ _ x=>x) λ_ _ x=>x);obtain⟨p,e⟩:=e;unfold subscriptTail;refine aj ?_;rw[getitemInPython_of_ne p.not_modules];refine aj (lJ p t ?_);have j:wpAny (model a w) A (subscripted b false o i) (λr g=>wpAny (model a w) A (letTemporaryGo c o r>>=λ_=>pure r) Q E g) E d:=by
  rw[q o i];exact wpAny_operating (bu e (λr g l=>aj (wpAny_letTemporaryGo (aM l))) λ_ _ x=>x)
 first
  | exact aM (aj j)
  | exact aj (aM (aj j))
  | exact aj j
def Cw(f e:TE):TE:=λb H Q=>f b H λy d=>e b d λx c=>∃a o,x=.ref a/\Um c a y o/\Q (.bl (!o.isSome)) c
def IU(g h e:TE):TS:=λD b H=>e b H λv f=>g b f λx i=>h b i λy d=>∃a c,x=.ref a/\Uo d a y v c/\D.nx b c
section
variable{X:Cx}{o i e b:Expr}{d c l:Pos}{f j k:TE}
theorem Kb(w:X.A.units+1<cLine)(B:PE X i j)(r:PE X o f):PC X .NotIn i o (Cw j f):=by
 intro m s n H Q I h;refine dP (B m s n H _ I h) λN p y t q z G=>dP (r m p n t _ q G) λu L x E C D ⟨a,J,F,g,K⟩=>?_;subst F;obtain rfl:u=Value.ref a:=D;exact Of w C g z λM v=>⟨.bl (!J.isSome),E,v,rfl,K⟩
theorem Oy(F:X.A.units+1<cLine)(t:PE X o f)(K:PE X i j)(E:PE X b k)(L:swapsWith b (some (.Subscript o i c)) d.line X.env=pure false):PS X (.Assign [.Subscript o i c] b d) (IU f j k):=by
 intro m s n H D I h;refine wpAny_Assign_Subscript (dP (E m s n H _ I h) λr p v z q S R=>dP (t m p n z _ q R) λu J x P N O T=>dP (K m J n P _ N T) λW U y Y C G ⟨a,B,Q,g,M⟩=>?_) L;subst Q;obtain rfl:u=Value.ref a:=O;exact KY F C g G S λV w=>⟨n,B,w,M⟩
end
theorem Nd{P:Program}{w:World}{H:Hp}(h:Heap)(a:sysModules<h.objs.size):Δ P w H (h.push { cls:=.type "dict",data:=.dict #[] }) h.objs.size (.dK []):=⟨bT _,beq_eq_false_iff_ne.mpr (Ne.symm (aU a)),[],.nil,Heap.DictOf.new h⟩
def yn:List (TE×TE)->St->Hp->(List (V×V)->Hp->Prop)->Prop
 | [],_,H,Q=>Q [] H
 | (tk,tv)::r,σ,H,Q=>tk σ H λx b=>tv σ b λy d=>yn r σ d λc a=>Q ((x,y)::c) a
abbrev VV:List (V×V)->List (Value×Value)->Prop:=Paired λp q=>RelV p.1 q.1/\RelV p.2 q.2
def Yj(X:Cx)(e:Pos)(c:List (Option Expr))(a:List Expr)(h:List (TE×TE)):Prop:=∀(b:fz)(s:Shared)(d:St)(H:Hp)(Q:List (V×V)->Hp->Prop),Inv X b d H s->yn h d H Q->wpAny (model X.prog X.w) X.A (evalPairs (pairTrees c a X.env e)) (λi j=>∃f g,Inv X b d g j/\VV f i/\Q f g) X.xe s
theorem NN{X:Cx}{a:Pos}:Yj X a [] [] []:=λb s c H Q I h=>pairTrees_nil_walk ⟨[],H,I,.nil,h⟩
theorem Nv{X:Cx}{b:Pos}{k v:Expr}{j:List (Option Expr)}{i:List Expr}{g e:TE}{f:List (TE×TE)}(C:PE X k g)(q:PE X v e)(A:Yj X b j i f):Yj X b (some k::j) (v::i) ((g,e)::f):=λa s c H Q I h=>
 pairTrees_cons_walk (dP (C a s c H _ I h) λu l x o m B F=>dP (q a l c o _ m F) λK t y D z r G=>
  Χ (A a t c D _ z G) λJ L ⟨n,E,p,d,w⟩=>⟨(x,y)::n,E,p,.cons ⟨B,r⟩ d,w⟩)
def vK(d a:List (Key×V)):List (Key×V):=a.foldl (λb c=>nI b c.1 c.2) d
theorem KV.merge:∀{a:List (Key×V)}{d:List (Key×Value)}{b:List (Key×V)}{c:List (Key×Value)},KV a d->KV b c->KV (vK b a) (merged c d):=by
 intro a d b c r;unfold KV at r
 induction r generalizing b c with
 | nil=>intro q;exact q
 | @cons p q ps qs h t ih=>
   intro f;have e:KV (nI b p.1 p.2) (stored c q.1 q.2):=by
    have:=f.put p.1 h.2;rw[<-h.1];exact this
   exact ih e
theorem wO:∀(b a:List (Key×V)),(vK a b).length<=a.length+b.length
 | [],a=>by show a.length<=a.length+0;lia
 | p::r,a=>by
   have d:=wO r (nI a p.1 p.2);have c:=uR a p.1 p.2;show(vK (nI a p.1 p.2) r).length<=_;rw[aJ];lia
theorem AY{P:Program}{w:World}:∀{e:List (Key×V)}{f:List (Value×Value)},VV (e.map λg=>(kV g.1,g.2)) f->∃d,Carries (hJ P w) f d/\KV e d
 | [],_,r=>by rw[cZ]at r;cases r;exact⟨[],True.intro,.nil⟩
 | p::e,_,r=>by
   rw[bh]at r;cases r with
   | @cons a b as bs h t=>
     obtain⟨d,c,q⟩:=AY (P:=P) (w:=w) t;obtain⟨j,i⟩:=b;exact⟨(p.1,i)::d,⟨yL h.1,rfl,c⟩,.cons ⟨rfl,h.2⟩ q⟩
def JB(d:List (TE×TE)):TE:=λe H Q=>∀p,H p=none->yn d e (upd H p (.dK [])) λf c=>c p=some (.dK [])/\∃a:List (Key×V),f=a.map (λb=>(kV b.1,b.2))/\a.length<=15/\Q (.ref p) (upd c p (.dK (vK [] a)))
theorem NQ{X:Cx}{f:Pos}{b:List (Option Expr)}{d:List Expr}{k:List (TE×TE)}(h:Yj X f b d k)(u:b.all (·.isSome)=true)(G:b.length=d.length)(r:b≠[])(i:b.length<=15):PE X (.Dict b d f) (JB k):=by
 intro g s x H Q I q;have E:=I.χ.fresh (aN s.heap.objs.size);have p:=I.laid (a:=s.heap.objs.size) (o:=.dK []) (h':=s.heap.push { cls:=.type "dict",data:=.dict #[] }) (t':=s.toks) (λ_ _ q=>au _ q) (aN _) (Nd s.heap I.big);refine wpAny_Dict_walk (knd:=hJ X.prog X.w) u G r i (Χ (h g _ x _ _ p (q _ E)) λN R ⟨O,S,m,j,e,l,K,T,M⟩=>?_);subst K;obtain⟨J,c,y⟩:=AY (P:=X.prog) (w:=X.w) j;obtain⟨z,D,A,C,t⟩:=NH m.χ e;cases C;refine⟨J,c,t,λh' n F=>⟨.ref s.heap.objs.size,_,?_,rfl,M⟩⟩;have L:(vK [] l).length<=sizeLine:=by
  have B:=wO l [];rw[dD]at B;rw[sizeLine_eq];lia
 have v:∃q,h'.get? s.heap.objs.size=some q:=let ⟨q,_,_,hq,_⟩:=n;⟨q,hq⟩;exact CM m (by rw[e];exact True.intro) F v (K0 L D (y.merge .nil) n)
end L2
namespace Att
open PySem PySem.W PySem.Calls PyProof.Rows
theorem BN{P:Params}{h:Heap}:∀(c:dm)(d:g8),WellAll P h d (c.map WData.int)->IntsAre d c:=by
 intro c
 induction c with
 | nil=>
   intro d w;rw[cZ]at w;cases w;exact .nil
 | cons n c ih=>
   intro d w;rw[bh]at w;cases w with
   | cons a b=>
     cases a;exact .cons _ _ (ih _ b)
theorem KU{l:OpenLaw}{n:Nat}(w:l.most=some n){P:Params}{h:Heap}{b:List WData}{e:g8}(p:l.row.toRowW.claim.pre b=true)(j:WellAll P h e b):∃a m c,e=[Value.ref a]/\b=[WData.list (c.map WData.int)]/\h.get? a=some { cls:=.type "list",data:=.seq m.toArray }/\IntsAre m c/\c.length<=n:=by
 have k:WShape.hasAll [] b [.list .int]=true:=(pre_splitW p).1;have o:l.pre.holds [] { args:=b }=true:=(pre_splitW p).2;obtain⟨d,r,rfl,u,s⟩:=hasAllW_cons k;obtain rfl:=hasAllW_nil s;obtain⟨x,rfl,v⟩:=hasW_list u;obtain⟨c,rfl⟩:=items_int v;have f:c.length<=n:=by
  unfold OpenLaw.pre at o;have i:(WTm.not (.lt (.lit (.int (n:Int))) (.len (.arg 0)))).holds [] { args:=[.list (c.map .int)] }=true:=by
   have i:=(holds_andW o).1;rw[w]at i;exact i
  have g:=condW_of i (w_not (w_lt w_lit (w_len_list (w_arg rfl))));rw[ag]at g;refine Nat.le_of_not_lt λq=>?_;have t:(n:Int)<((c.length:Nat):Int):=by lia
  first
   | (rw[bB t]at g;exact absurd g (by decide))
   | (simp at g;lia)
 cases j with
 | cons w1 w2=>
   cases w2;cases w1 with
   | list ho WD=>exact⟨_,_,c,rfl,rfl,ho,BN c _ WD,f⟩
theorem KM(l:OpenLaw)(a:List WData):l.row.toRowW.claim.post a (.bool true) a=true:=postW_of (r:=l.row.toRowW) (X:=(true==true))
 (show WShape.has [] (.bool true) .bool=true by first|rfl|decide|simp[WShape.has,WShape.arms,WShape.armsAll])
 (show(WTm.eq .res (.lit (.bool true))).value [] { args:=a,res:=some (.bool true),after:=a }=some (.bool (true==true))from w_eq_bool (w_res rfl) w_lit) rfl
theorem Sr{l:OpenLaw}{n:Nat}{q:Program}{e:hO}{XP:(Str->Option Value)->Heap->Prop}{x:World->Heap->Prop}{d:DefRec}(L:l.most=some n)(B:d.params.defaults=[])(call:∀(w:World) (c b:Shared) (m t:hL) (j:Addr) (o:Obj) (u cd g:Value) (a:Addr) (i:g8) (p:dm),Ground q e [] XP w c m t b.heap->x w b.heap->b.heap.get? j=some o->o.data=.func (docDef d.name d.params d.body d.scope u cd g)->b.heap.CodeRec cd d.name->m d.name=some (.ref j)->b.heap.get? a=some { cls:=.type "list",data:=.seq i.toArray }->IntsAre i p->p.length<=n->b.gens=#[]->codeAny (model l.prog w) callerA (.call (.ref j) ⟨[.ref a],[]⟩) (λr s=>r=.ok (.ret (.bool true))/\OldK b.heap s.heap/\s.os=b.os/\AllBare s.gens) b):WalkO q e XP x l.row.toRowW d [] (λf i=>PySem.call f i):=by
 intro w c b m t G Y j o u cd g D kV C I F y O P A z as T N S v R;obtain rfl:D=.none:=Dflts.none y B;obtain rfl:kV=.none:=Dflts.noKw y;obtain⟨a,i,p,rfl,rfl,E,h,k⟩:=KU L T v;refine enter_call (hW (call w c b m t j o u cd g a i p G Y C (fd_plain I) F O E h k P) λr s H=>?_);obtain⟨rfl,Q,J,K⟩:=H;exact⟨.inl ⟨.bool true,.bool true,[],rfl,λ_=>rfl,.bool true,KM l _,λ_=>⟨List.Pairwise.nil,λ_ M=>(nomatch M)⟩⟩,Q,J,K⟩
end Att
namespace L2
open PySem PySem.Spec PyProof.Rows
theorem Dz:∀{a:g8}{b:dm},IntsAre a b->Vals (b.map V.int) a
 | _,_,.nil=>.nil
 | _,_,.cons n t h=>.cons ⟨t,rfl⟩ (Dz h)
def LI(H:Hp):Prop:=∀b,H b=none\/∃o a,H b=some (.SW o (.lst a))
theorem Mn{P:Program}{w:World}{K:fv}{t I:hL}{CX:Bv}{k:Nat}{L a:Addr}{T:FuncData}{x:Str}{Z:Sp}{c:Shared}{l:g8}{y:dm}(R:K.In c.heap)(VQ:c.heap.Ns mainGlobals t)(f:c.heap.Ns builtinsNs I)(N:∀x:Str,x≠"__name__"->I x=bootBuiltins x)(M:c.heap.NoLimit)(hg:c.gens=#[])(E:c.heap.get? a=some { cls:=.type "list",data:=.seq l.toArray })(S:IntsAre l y)(X:y.length<=sizeLine)(hr:Ρ k callerA)(F:∀g:Heap,K.In g->g.Ns mainGlobals t->ϋ P w K t g CX k L T [x] Z)(Ym:∀(s:Shared) (u:Value),BindsTo s T ⟨[u],[]⟩ [(x,u)])(UZ:∀H:Hp,LI H->ξ K H a (y.map V.int)->Z [.ref a] H (λv _=>v=.bl true) λ_ _ _=>False)(Q:∀H e i,CX [] H c (λ_ _ _=>False) e i->False):codeAny (model P w) callerA (.call (.ref L) ⟨[.ref a],[]⟩) (λr i=>r=.ok (.ret (.bool true))/\OldK c.heap i.heap/\i.os=c.os/\AllBare i.gens) c:=by
 have rv:=Dz S;have J:=S.length;have j:∀H:Hp,LI H->ξ K H a (y.map V.int)->Ϸ P w H c.heap->(∀b,H b≠none->b=a)->(H a≠none->K.lookup a=none)->codeAny (model P w) callerA (.call (.ref L) ⟨[.ref a],[]⟩) (λr i=>r=.ok (.ret (.bool true))/\OldK c.heap i.heap/\i.os=c.os/\AllBare i.gens) c:=by
  intro H U hS χ Y hK;have Tp:∀{b:Addr}{o:Obj},c.heap.get? b=some o->H b=none->(vS c.heap H).get? b=some o:=λe n=>Ny e n;have Yb:∀{b:Addr}{o:Obj}{B:Array DictEntry}{C:Nat},c.heap.get? b=some o->o.data=.dict B C->H b=none:=λ{b o B C} e d=>by
   cases q:H b with
   | none=>rfl
   | some u=>
     have O:b=a:=Y b (by rw[q];simp);subst O;rw[E]at e;cases e;have d':Data.seq l.toArray _=Data.dict B C:=d;cases d'
  have G:∀{b:Addr}{m:hL},c.heap.Ns b m->(vS c.heap H).Ns b m:=λ{b m} ⟨o,B,C,e,d,r⟩=>⟨o,B,C,Tp e (Yb e d),d,r⟩;have p:K.In (vS c.heap H):=λb o e=>Tp (R b o e) (by
   cases q:H b with
   | none=>rfl
   | some u=>
     have O:b=a:=Y b (by rw[q];simp);subst O;rw[hK (by rw[q];simp)]at e;cases e)
  have hM:Mod K t (vS c.heap H):=⟨p,G VQ,⟨I,G f,N⟩,let ⟨mc,h1,h2⟩:=M;⟨mc,G h1,h2⟩⟩;have e0:S5 P w K t (vS c.heap H) callerA [] c H:=⟨rfl,hM,λb o e=>OJ e,kF (JW _ _),trivial,λb f=>absurd (show b∈([]:gy)from f) (by simp),χ,.of_eq hg⟩;refine hW ((F _ p (G VQ)).run callerA [] c H ⟨[.ref a],[]⟩ [.ref a] [.ref a] _ _ hr e0 (Ym c (.ref a)) (.cons rfl .nil) (UZ H U hS)) λr i h=>?_;cases r with
  | error e=>exact(Q H e i h).elim
  | ok fl=>
    cases fl with
    | next=>exact False.elim h
    | brk=>exact False.elim h
    | cont=>exact False.elim h
    | ret u=>
      obtain⟨v,H',os,D,un,Ss,r',q⟩:=h;have q':v=.bl true:=q;subst q';obtain rfl:u=Value.bool true:=r';refine⟨rfl,OldK.of_keep λb o e=>?_,os,D⟩;cases q:H b with
      | none=>exact un.keep b o e q (by intro z;exact absurd (show b∈([]:gy)from z) (by simp)) (by simp)
      | some u=>
        rcases U b with z|⟨ob,xs,z⟩
        .rw[q]at z;cases z
        .have z2:=un.ϸ b ob _ z;obtain⟨e1,_⟩:=χ b _ z;obtain⟨e2,_⟩:=Ss b _ z2;rw[e]at e1;cases e1;exact e2
 cases hk:K.lookup a with
 | some o=>
   have e:=R a o hk;rw[E]at e;cases e;refine j (λ_=>none) (λ_=>.inl rfl) (.inr ⟨_,l.toArray,_,hk,rfl,rfl,rfl,by rw[be,J];exact X,by simpa using rv⟩) (λb u z=>by have A:(none:Option HO)=some u:=z;cases A) (λb z=>absurd rfl z) λz=>absurd rfl z
 | none=>
   refine j (λb=>if b=a then some (.SW { cls:=.type "list",data:=.seq l.toArray } (.lst (y.map V.int)))else none) (λb=>?_) (.inl (.inr ⟨{ cls:=.type "list",data:=.seq l.toArray },ao rfl⟩)) (λb u z=>?_) (λb z=>?_) λ_=>hk
   .by_cases f:b=a
    .exact .inr ⟨_,_,ao f⟩
    .exact .inl (ah f)
   .by_cases f:b=a
    .have A:=(ao f).symm.trans z;cases A;subst f;exact⟨E,by rw[ag];exact X,l,_,rv,E⟩
    .have A:=(ah f).symm.trans z;cases A
   .by_cases f:b=a
    .exact f
    .exact absurd (ah f) z
theorem Vp{l:PySem.W.OpenLaw}{n k:Nat}{q:Program}{j:hO}{XP:(Str->Option Value)->Heap->Prop}{E:World->Heap->Prop}{d:DefRec}{K:Params->PySem.W.Frag}{CX:World->Bv}{sp:World->Sp}{x:Str}(P:l.most=some n)(Q:n<=sizeLine)(L:d.params.defaults=[])(X:Ρ k callerA)(R:∀(w:World) (h:Heap),E w h->(K w.params).In h)(F:∀(w:World) (p:hL) (y:Addr) (h:Heap),(K w.params).In h->h.Ns mainGlobals p->p d.name=some (.ref y)->∃A:FuncData,(∀(s:Shared) (u:Value),BindsTo s A ⟨[u],[]⟩ [(x,u)])/\∀c:Heap,(K w.params).In c->c.Ns mainGlobals p->ϋ l.prog w (K w.params) p c (CX w) k y A [x] (sp w))(J:∀(w:World) (H:Hp) (a:Addr) (t:dm),t.length<=n->LI H->ξ (K w.params) H a (t.map V.int)->sp w [.ref a] H (λv _=>v=.bl true) λ_ _ _=>False)(z:∀(w:World) (H:Hp) (s:Shared) (e:Value) (B:Shared),CX w [] H s (λ_ _ _=>False) e B->False):PySem.W.WalkO q j XP E l.row.toRowW d [] (λf C=>PySem.call f C):=by
 refine Att.Sr P L λw D r p mb y o pm cd Z a C t G Y ho hd TC Yl N m i hg=>?_;have I:=R w _ Y;obtain⟨A,O,S⟩:=F w p y _ I G.T.g Yl;exact Mn I G.T.g G.T.b G.T.builtins G.T.nolimit hg N m (aR i Q) X S O (λH U M=>J w H a t i U M) λH e B=>z w H r e B
def jL(s:Stmt)(j:Nat):Stmt:=match s with
 | .ClassDef _ _ _ body _ _ _ _ _ _ _=>body.getD j (.Pass ⟨0,0,0,0⟩)
 | _=>.Pass ⟨0,0,0,0⟩
def kf(s:Stmt):Arguments:=match s with
 | .FunctionDef _ a _ _ _ _ _ _ _ _=>a
 | _=>{ posonlyargs:=[],args:=[],vararg:=none,kwonlyargs:=[],kw_defaults:=[],kwarg:=none,defaults:=[] }
def jh(s:Stmt):List Stmt:=match s with
 | .FunctionDef _ _ b _ _ _ _ _ _ _=>b
 | _=>[]
def aF(s:Stmt):Scope:=match s with
 | .FunctionDef _ _ _ _ _ _ sc _ _ _=>sc
 | _=>{ kind:=.function,names:=[],isGenerator:=false,isCoroutine:=false }
abbrev E0:XK:=λ_ _ _=>False
structure U0(K:fv)(x qual:Str)(st:Stmt)(f:Addr)(fd:FuncData):Prop where
 ex:∃(oc:Value)(od:Option Addr)(kV doc pm:Value)(an:Option Addr)(ς ct:Value)(Sn:Array (Option Value)),fd=PySem.W.fnOf x qual (kf st) (jh st) (aF st) .none kV doc pm an ς ct/\K.lookup f=some ⟨oc,od,.func fd,Sn⟩/\PySem.W.codeIn K ς qual=true
 kp:PySem.W.keepIn K (.ref f)=true
section
variable{P:Program}{w:World}{K:fv}{b:hL}{a:Heap}
theorem U0.binds{x c:Str}{st:Stmt}{f:Addr}{m:FuncData}{g:hO}(F:U0 K x c st f m)(h:∀(kV d e:Value) (i:Option Addr) (j k:Value) (l:g8),l.length=g.length->bindArgs (PySem.W.fnOf x c (kf st) (jh st) (aF st) .none kV d e i j k) ⟨l,[]⟩=pure (g.zip l)):Binds K m g []:=by
 obtain⟨p,q,kV,d,e,i,j,k,o,rfl,r,n⟩:=F.ex;exact .all (h kV d e i j k)
theorem yj{x d:Str}{st:Stmt}{f:Addr}{m:Value}{n i:Option Addr}{o:Array (Option Value)}{kV e h g j:Value}(l:K.lookup f=some ⟨m,n,.func (PySem.W.fnOf x d (kf st) (jh st) (aF st) .none kV e h i g j),o⟩)(c:PySem.W.codeIn K g d=true)(k:PySem.W.keepIn K (.ref f)=true):U0 K x d st f (PySem.W.fnOf x d (kf st) (jh st) (aF st) .none kV e h i g j):=⟨⟨m,n,kV,e,h,i,g,j,o,rfl,l,c⟩,k⟩
end
theorem Qn{A:Around}{k:Nat}(a:Ρ k A):A.units+1<cLine:=iH (Nat.add_le_add_left (by decide:1<=64) _) a.units
section
variable{X:Cx}
theorem pv(i:Nat){x:Str}{a:Pos}(d:X.N[i]?=some x:=by rfl)(c:Vis X.env.scope x:=by first|exact Or.inl rfl|exact Or.inr (Or.inl rfl)|exact Or.inr (Or.inr rfl))(hd:(x==("__debug__":Str))=false:=by decide)(b:(x==("__classdict__":Str))=false:=by decide):PE X (.Name x a) (xp i):=Gp d c hd b
end
theorem Qz{A B:Prop}(h:B):if false=true then A else B:=by
 rw[ah bi];exact h
theorem QP{A B:Prop}(h:A):if true=true then A else B:=by
 rw[ao rfl];exact h
def γ(H a:Hp):Prop:=∀b o,H b=some o->a b=some o
theorem γ.refl(H:Hp):γ H H:=λ_ _ h=>h
theorem γ.trans{H d e:Hp}(a:γ H d)(b:γ d e):γ H e:=λc o h=>b c o (a c o h)
theorem γ.free{H a:Hp}(e:γ H a){l:Addr}(h:a l=Option.none):H l=Option.none:=by
 cases q:H l with
 | none=>rfl
 | some o=>
   rw[e l o q]at h;cases h
theorem γ.seq{K:fv}{H c:Hp}{a:Addr}{b:List V}(e:γ H c)(h:ξ K H a b):ξ K c a b:=by
 rcases h with(h|⟨o,h⟩)|h
 .exact .inl (.inl (e _ _ h))
 .exact .inl (.inr ⟨o,e _ _ h⟩)
 .exact .inr h
section
variable{X:Cx}
theorem KP:kI X (.builtin "len") (λc H Q=>∃a b,c=[V.ref a]/\H a=some (.dK b)/\Q (.int b.length) H):=by
 intro d s i H c k Q I r h;obtain⟨a,b,rfl,g,q⟩:=h;obtain⟨u,rfl,f⟩:=mP r;cases f;exact Qi I (.inl g) λt j e=>⟨.int b.length,H,e,⟨t,rfl⟩,q⟩
end
def Cx.comp(X:Cx)(e:hO)(a:Scope)(cl:List (Str×Addr))(C:Addr)(b:Shared)(c:Hp)(d:gy):Cx where
 prog:=X.prog
 w:=X.w
 K:=X.K
 mg:=X.mg
 base:=X.base
 A:=X.A
 N:=e
 s₀:=b
 H₀:=c
 env:=compEnvC a cl C X.env
 outer:=X.stack
 stack:=X.stack
 ex:=d
 fn:=λ_=>false
 calm:=X.calm
 pn:=[]
 xe:=λ_ _=>False
structure Ϛ(X:Cx)(Nc:hO)(own:Nat)(js:List Nat)(scope:Scope)(cl:List (Str×Addr)):Prop where
 Up:closureFor scope X.env=pure cl
 kind:scope.kind=.function
 Rr:∀y∈scope.names,y.2≠.cell
 names:∀y∈scope.names,y.2=.local->scope.names.lookup y.1=some .local
 cells:∀x c,cl.lookup x=some c->X.env.cells.lookup x=some c
 has:∀x,((relabel scope X.env).names.lookup x=some .cell\/(relabel scope X.env).names.lookup x=some .free)->∃c,cl.lookup x=some c
 len:Nc.length=own+js.length
 outer:∀i x,Nc[own+i]?=some x->∃j,js[i]?=some j/\X.N[j]?=some x/\X.env.scope.names.lookup x=some .cell/\(relabel scope X.env).names.lookup x=some .cell
def mM(a:Nat)(c:List Nat)(b:St):St:=List.replicate a none++c.map λj=>(b[j]?).getD none
def AW(h:Nat)(t:List Nat)(u:TI)(g:TG)(r:TT)(q:TE):TE:=λj H Q=>u j H λJ k=>∀p,k p=none->∃W:Nat->Nat->List V->St->Hp->Prop,(∃m,W 0 m [] (mM h t j) (upd k p (.lst [])))/\∀i m c f d,W i m c f d->(J.stop i d/\Q (.ref p) d)\/(J.go i d/\∀x o,J.VO i d x o->g x f o λa s=>r a s λb n=>
 if b=true then q a n λy l=>l p=some (.lst c)/\c.length<sizeLine/\∃e,e<m/\W (i+1) e (c++[y]) a (upd l p (.lst (c++[y])))
 else ∃e,e<m/\W (i+1) e c a n)
def WH(X:Cx)(b:List Expr)(t:TT):Prop:=∀(a:fz)(s:Shared)(d:St)(H:Hp)(Q:Bool->Hp->Prop),Inv X a d H s->t d H Q->wpAny (model X.prog X.w) X.A (forIn b true λc r=>if r=true then do let e <-isTrue c X.env (eval c X.env);pure (ForInStep.yield e)else pure (ForInStep.yield r)) (TP X a d Q) X.xe s
def WK:TT:=λ_ H Q=>Q true H
theorem iX{X:Cx}:WH X [] WK:=λa s b H Q I h=>wpAny_tests_nil ⟨H,I,h⟩
theorem CF{X:Cx}{c:Expr}{t:TT}(h:PT X c t):WH X [c] t:=λa s b H Q I q=>wpAny_tests_one (h a s b H Q I q)
section
variable{a:Program}{w:World}{A:Around}{E:fc}{R:Result->Shared->Prop}{s:Shared}
theorem zy{t b l:Expr}{y:List Expr}{g:Scope}{z:Pos}{G u:Value}{e:Env}(I:Nat->Shared->Prop)(C:∀n s,I n s->wpAny (model a w) A (pyNext G) (λr i=>match r with
 | none=>R (.ok .next) i
 | some v=>wpAny (model a w) A (letOwnedTupleGo b G v) (λ_ H=>wpAny (model a w) A (assign b e v) (λ_ p=>
  wpAny (model a w) A (forIn y true λc r=>if r=true then do let ok <-isTrue c e (eval c e);pure (ForInStep.yield ok)else pure (ForInStep.yield r)) (λok j=>
   if ok=true then wpAny (model a w) A (eval t e) (λx k=>
    wpAny (model a w) A (call (.builtin "list.append") [u,x]) (λ_ q=>∃m,m<n/\I m q) (λ_ _=>False) k) (λ_ _=>False) j
   else ∃m,m<n/\I m j) (λ_ _=>False) p) (λ_ _=>False) H) (λ_ _=>False) i) (λ_ _=>False) s)(n:Nat)(h:I n s):codeAny (model a w) A (.compLoop (.ListComp t [⟨b,l,y,0⟩] g z) 0 G u e) R s:=by
 refine codeAny_loop rfl I (λn s K=>?_) n h;show wpAny _ A ((compTurn (.ListComp t [⟨b,l,y,0⟩] g z) 0 G u e).onRaise (λx=>do noteFrame x e;theTreesLotGoes x)) _ _ s;refine wpAny_noted ?_;rw[compTurn_list];refine aj (cH (aj (bu (C n s K) (λr i o=>?_) λ_ _ f=>f.elim)));cases r with
 | none=>exact aM o
 | some v=>
   refine aj (bu o (λ_ H J=>?_) λ_ _ f=>f.elim);refine aj (bu J (λ_ p B=>aj (bu B (λok j d=>?_) λ_ _ f=>f.elim)) λ_ _ f=>f.elim);cases ok with
   | true=>
     rw[ao rfl]at d;simp only[if_true];exact aj (aj (bu d (λx k D=>aj (bu D (λ_ q F=>aM (aM ⟨rfl,F⟩)) λ_ _ f=>f.elim)) λ_ _ f=>f.elim))
   | false=>
     rw[ah bi]at d;simp only[cR,if_false]
     first
      | exact aM ⟨rfl,d⟩
      | exact aj (aM (aM ⟨rfl,d⟩))
end
section
variable{X:Cx}{Nc:hO}{f:Nat}{B:List Nat}{scope:Scope}{l:List (Str×Addr)}
theorem vy{g:fz}{q:St}{d:Hp}{a:Shared}{C:Addr}{k:gy}(T:Ϛ X Nc f B scope l)(I:Inv X g q d a)(m:a.heap.objs.size<=C)(j:∀b∈k,nN X g d b)(n:∀b∈k,b<a.heap.objs.size):(X.comp Nc scope l C a d k).Ok where
 mod:=I.ok.mod
 kind:=by show(relabel scope X.env).kind=_;exact T.kind
 glob:=I.ok.glob
 blt:=I.ok.blt
 above:=m
 inj:=λx y c r p=>I.ok.inj x y c (T.cells x c r) (T.cells y c p)
 has:=λx h=>T.has x h
 VL:=λx c h=>by cases h
 hd:=I.ok.hd
 frames:=I.ok.frames
 Wm:=.inl rfl
 X3:=λb i=>⟨aU (bc (n b i) m),λx c h=>(j b i).2.2.2.2.1 x c (T.cells x c h)⟩
 bs:=I.bs
 Ui:=aR I.ok.Ui I.sz
 Si:=λb o e i=>by
  rcases(j b i).2.2.2.1 with z|z
  .exact I.ok.Si b o e z
  .exact absurd (bc (aI (I.ok.bs b o e).1) z) (dh _)
 Rq:=λb i s=>by
  rcases aG.mp (I.RX b s)with z|z
  .exact(j b i).2.1 z
  .exact(j b i).2.2.1 z
 oK:=I.stack
 UU:=I.Ϯ
theorem wu{s:fz}{w:St}{g:Hp}{a:Shared}{C D:Addr}{K:gy}{h:Heap}{t:Nat}{m:hL}(T:Ϛ X Nc f B scope l)(I:Inv X s w g a)(M:a.heap.objs.size<=C)(E:a.heap.objs.size<=D)(TJ:D≠C)(f1:∀b∈K,nN X s g b)(P:∀b∈K,b<a.heap.objs.size)(A:∀b o,a.heap.get? b=some o->h.get? b=some o)(VQ:h.Ns C m)(J:∃n,h.get? D=some { cls:=.type "list",data:=.seq ([]:g8).toArray n }):Inv (X.comp Nc scope l C a g K) [] (mM f B w) (upd g D (.lst [])) { a with heap:=h,toks:=t }:=by
 obtain⟨W,J⟩:=J;have r:∀c v,a.heap.IsCell c v->h.IsCell c v:=λc v ⟨o,G,S⟩=>⟨o,A c o G,S⟩;refine⟨vy T I M f1 P,rfl,I.bare,Un.laid A E (I.χ.fresh E),⟨m,VQ,λi x v Z Y e3=>?_⟩,λx c e=>?_,?_,λx c e=>?_,λp V=>(by cases V),I.χ.laid A E ?_,?_⟩
 .have hN:Nc[i]?=some x:=Z;have d:(mM f B w)[i]?=some (some v):=Y;unfold mM at d;by_cases L:i<f
  .rw[cD (by simpa using L),i6]at d;simp[L]at d
  .obtain⟨k,rfl⟩:∃k,i=f+k:=⟨i-f,by lia⟩;rw[cA (by simp)]at d;simp only[dy,Nat.add_sub_cancel_left,aQ]at d;obtain⟨j,hj,Q,O,N⟩:=T.outer k x hN;rw[hj]at d;replace d:some (w[j]?.getD none)=some (some v):=d;have H:w[j]?=some (some v):=by
    cases q:w[j]? with
    | none=>rw[q]at d;simp at d
    | some y=>rw[q]at d;simpa using d
   obtain⟨m0,ad,F⟩:=I.loc;obtain⟨u,R,U⟩:=F j x v Q H (.inr (.inl O));refine⟨u,R,.inr ⟨.inl N,?_⟩⟩;rcases U with⟨z,_⟩|⟨_,c,hc,Q8⟩
   .have z':X.env.scope.names.lookup x=some .local:=z;rw[O]at z';cases z'
   .obtain⟨c',X6⟩:=T.has x (.inl N);have:=T.cells x c' X6;rw[hc]at this;cases this;exact⟨c,X6,r c _ Q8⟩
 .obtain⟨v,z⟩:=I.cell x c (T.cells x c e);exact⟨v,r c v z⟩
 .show upd g D (.lst []) C=none;rw[aY (Ne.symm TJ)];exact I.χ.fresh M
 .have e':=T.cells x c e;obtain⟨v,o,G,_⟩:=I.cell x c e';rw[aY (aU (bc (aI G) E))];exact I.ϐ x c e'
 .exact⟨bT _,[],W,.nil,J⟩
 .show(mM f B w).length=Nc.length;rw[T.len];simp[mM]
theorem rT{g:fz}{t s:St}{d i:Hp}{c s':Shared}{C:Addr}{p:gy}{h':Heap}(I:Inv X g t d c)(F:c.heap.objs.size<=C)(r:∀b∈p,nN X g d b)(m:Inv (X.comp Nc scope l C c d p) [] s i s')(E:Heap.SameBut C s'.heap h'):Inv X g t i { s' with heap:=h' }:=by
 have u:Un (ϝ X.stack) p d i c.heap s'.heap:=m.base;have ne:∀b o,c.heap.get? b=some o->b≠C:=λb o e=>aU (bc (aI e) F);have k:∀b o,b≠C->s'.heap.get? b=some o->h'.get? b=some o:=λb o n e=>E.extBut b o n e;have A:Un (ϝ X.stack) p d i c.heap h':=⟨λb o e n h j=>k b o (ne b o e) (u.keep b o e n h j),λb o e n h j=>let ⟨sl,q⟩:=u.slot b o e n h j;⟨sl,k b _ (ne b o e) q⟩,u.free,λb o e j=>let ⟨o',q⟩:=u.there b o e j;⟨o',k b o' (ne b o e) q⟩,u.iS,u.ϸ,u.lE⟩
 have x:i C=none:=m.free;have D:Ϸ X.prog X.w i h':=λa o e=>(m.χ a o e).iO (λb v h q=>k b v (λz=>by
  rcases h with y|y
  .rw[y]at z;rw[z,x]at e;cases e
  .rw[z,x]at y;cases y) q) (λ_ q=>q) λ_ _ q=>q
 exact I.Th (s':={ s' with heap:=h' }) (ch:=p) m.os A D m.bare λb h=>⟨(r b h).2.2.2.1,(r b h).2.1,(r b h).2.2.2.2.1,(r b h).2.2.2.2.2⟩
theorem jI{ac a F:Expr}{Y:List Expr}{al:Pos}{wi:TI}{g:TG}{tc:TT}{te:TE}(hc:X.calm=true)(T:Ϛ X Nc f B scope l)(hi:PI X a F wi)(hg:∀C m z k,PG (X.comp Nc scope l C m z k) a g)(ht:∀C m z k,WH (X.comp Nc scope l C m z k) Y tc)(he:∀C m z k,PE (X.comp Nc scope l C m z k) ac te)(hs:∀x,foldedSetIterable F X.env x=pure x:=by intro _;rfl):PE X (.ListComp ac [⟨a,F,Y,0⟩] scope al) (AW f B wi g tc te):=by
 intro V s σ H Q I h;rw[eval_ListComp];refine gi (use:=none) rfl hs T.Up T.kind T.names (Χ (hi V s σ H _ I h) λv s1 h1=>Χ h1 λXw j h2=>?_);obtain⟨it,k,tn,J,H1,rfl,I1,U,st,f1,R⟩:=h2;have RZ:∀b∈k,b<j.heap.objs.size:=λb D=>let ⟨o,e,_⟩:=U.obj _ _ st b D;aI e;refine db (gZ T.Rr (by intro y hy;simp at hy) (λE Ψ Κ=>?_) T.kind);dsimp only at Ψ Κ ⊢;generalize S9:j.heap.push { cls:=.type "list",dict:=none,data:=.seq ([]:g8).toArray }=M at Ψ Κ ⊢;have hC:M.objs.size=j.heap.objs.size+1:=by rw[<-S9,de]
 have TJ:j.heap.objs.size≠M.objs.size:=by rw[hC];exact aU (eF _)
 have ϖ:j.heap.objs.size<=M.objs.size:=by rw[hC];exact ft _
 have cM:∀b,b<j.heap.objs.size->b≠M.objs.size:=λb D=>by rw[hC];exact aU (eV D)
 have ak:∀b o,j.heap.get? b=some o->E.get? b=some o:=λb o e=>Κ.extBut b o (cM b (aI e)) (au _ (S9▸au _ e));have ϻ:∃n,E.get? j.heap.objs.size=some { cls:=.type "list",data:=.seq ([]:g8).toArray n }:=⟨_,Κ.extBut _ _ TJ (au _ (S9▸bg _ rfl))⟩;have aC:tn 0 E:=U.keep _ _ _ st λb _ o e=>ak b o e;obtain⟨W,⟨m0,w0⟩,am⟩:=R j.heap.objs.size I1.fresh;have Ic:=wu (t:=j.toks+([]:List (Str×Value)).length) T I1 ϖ (aN _) TJ f1 RZ ak Ψ ϻ;generalize R3:X.comp Nc scope l M.objs.size j H1 k=Xc at Ic;have K:∀{O:Hp},(∀b∈k,O b=none)->∀b∈k,nN Xc [] O b:=λ{O} hn b D=>by
  subst R3;exact⟨hn b D,cM b (RZ b D),(vy T I1 ϖ f1 RZ).Rq b D,.inl D,λx c e=>(f1 b D).2.2.2.2.1 x c (T.cells x c e),λp hp=>by cases hp⟩
 have WL:∀b∈k,upd H1 j.heap.objs.size (.lst []) b=none:=λb D=>by
  rw[aY (aU (RZ b D))];exact(f1 b D).1
 have Ur:Xc.calm=true:=by subst R3;exact hc
 have P:∀L:Shared,L={ j with heap:=E,toks:=j.toks+([]:List (Str×Value)).length }->codeAny (model X.prog X.w) X.A (.compLoop (.ListComp ac [⟨a,F,Y,0⟩] scope al) 0 (.ref it) (.ref j.heap.objs.size) (compEnvC scope l M.objs.size X.env))
  (compPost (model X.prog X.w) X.A X.xe none (EP X V σ Q) (.ref j.heap.objs.size) M.objs.size) L:=by
  rintro L rfl;refine zy (λn s'=>∃i ys an O,Inv Xc [] an O s'/\tn i s'.heap/\(∀b∈k,O b=none)/\W i n ys an O) ?_ m0 ⟨0,[],_,_,Ic,aC,WL,w0⟩;rintro n s3 ⟨i,ys,N,H3,I3,Rh,Tj,w3⟩;rcases am i n ys N H3 w3 with⟨stop,q⟩|⟨go,step⟩
  .subst R3;refine Χ (U.done (X.comp Nc scope l M.objs.size j H1 k) rfl rfl rfl hc i [] s3 N H3 _ I3 (K Tj) Rh stop) λr s4 ⟨hr,I4⟩=>?_;subst hr;obtain⟨m4,WM,_⟩:=id I4.loc;exact⟨m4,WM,λh' Us=>⟨.ref j.heap.objs.size,H3,rT I1 ϖ f1 I4 Us,rfl,q⟩⟩
  .subst R3;refine Χ (U.item (X.comp Nc scope l M.objs.size j H1 k) rfl rfl rfl hc i [] s3 N H3 _ I3 (K Tj) Rh go) λr s4 ⟨u,hr,h4⟩=>?_;subst hr;refine Χ h4 λ_ s5 ⟨x,H5,I5,r5,y5,Rn,Vf⟩=>?_;have Vg:=I5.pinned (K Vf) (U.obj _ _ Rn);have S:∀{Z:St}{H7:Hp}{s7:Shared},Inv (X.comp Nc scope l M.objs.size j H1 k) ([]++mh k s5.heap) Z H7 s7->Inv (X.comp Nc scope l M.objs.size j H1 k) [] Z H7 s7/\tn (i+1) s7.heap/\∀b∈k,H7 b=none:=λ{Z H7 s7} I7=>by
    refine⟨I7.ϔ,U.keep _ _ _ Rn λb D o e=>(I7.pin (b,o) (aX _ (aX _ (iM D e)))).1,λb D=>?_⟩;obtain⟨o,e,d⟩:=U.obj _ _ Rn b D;exact(I7.pin (b,o) (aX _ (aX _ (iM D e)))).2.1
   refine Χ (hg _ _ _ _ _ s5 N H5 x u _ Vg r5 (step x H5 y5)) λ_ s6 ⟨G,H6,I6,q6⟩=>?_;refine we (ht _ _ _ _ _ s6 G H6 _ I6 q6) λok s7 H7 I7 q7=>?_;cases ok with
   | false=>
     rw[ah bi]at q7 ⊢;obtain⟨m',hm,w7⟩:=q7;obtain⟨J1,J2,J3⟩:=S I7;exact⟨m',hm,i+1,ys,G,H7,J1,J2,J3,w7⟩
   | true=>
     rw[ao rfl]at q7 ⊢;refine dP (he _ _ _ _ _ s7 G H7 _ I7 q7) λy s8 yv H8 I8 r8 ⟨WN,WO,m',hm,w8⟩=>?_;refine Χ (eG _ s8 G H8 (.ref j.heap.objs.size) [yv] _ [y] (λv' O=>W (i+1) m' (ys++[yv]) G O) I8 rfl (.cons r8 .nil) ⟨_,ys,yv,rfl,rfl,WN,WO,w8⟩) λv9 s9 ⟨_,H9,I9,_,w9⟩=>?_;obtain⟨J1,J2,J3⟩:=S I9;exact⟨m',hm,i+1,ys++[yv],G,H9,J1,J2,J3,w9⟩
 exact gC (P _ rfl) (U.self _ 0 _ _ _ aC (P _ rfl))
end
section
variable{X:Cx}
def R5:V->List V->Hp->VK->Prop:=λx b H Q=>∃(l:Addr)(a:List V)(i:Int)(y:V),x=.ref l/\b=[.int i,y]/\H l=some (.lst a)/\0<=i/\i<=a.length/\a.length<sizeLine/\Q .τ (upd H l (.lst (a.take i.toNat++y::a.drop i.toNat)))
theorem Kt:Wz X "list.insert" R5:=by
 intro f s B H x A v K Q I o u h;obtain⟨l,D,i,y,rfl,rfl,d,w,J,G,q⟩:=h;cases o;obtain⟨C,b,rfl,⟨t,rfl⟩,g⟩:=u.two;obtain⟨z,a,n,r,m,e⟩:=I.S8 d;have E:=qv;have k:Builtin.List.listFitsIndex i=true:=by
  unfold Builtin.List.listFitsIndex;rw[bw];exact⟨bB (by lia),bB (by lia)⟩
 have c:¬(!Builtin.List.listFitsIndex i)=true:=by rw[k];decide
 have p:a.toArray.size<=sizeLine:=by rw[be,<-m];exact z
 refine call_meets kJ ⟨_,e,rfl⟩ PySem.F.entry_list_insert (PySem.F.args_list_insert_3 _ _ _) (PySem.AutoSeq1.list_insert_list_int_val_1 l a.toArray n i t b c p) ⟨e,?_⟩;refine⟨.τ,_,I.WB (its':=a.take i.toNat++b::a.drop i.toNat) d e ?_ ((r.take i.toNat).append (.cons g (r.drop i.toNat))) ?_,rfl,q⟩
 .show(a.toArray.extract 0 (if i<0 then(i+(a.toArray.size:Int)).toNat else min i.toNat a.toArray.size)).push b++a.toArray.extract (if i<0 then(i+(a.toArray.size:Int)).toNat else min i.toNat a.toArray.size)=_;have j:(if i<0 then(i+(a.toArray.size:Int)).toNat else min i.toNat a.toArray.size)=i.toNat:=by
   rw[ah (by lia),be]
   lia
  rw[j];exact PySem.W.kl_ins_eq a i.toNat b
 .rw[ap,aJ,aZ,bZ]
  lia
def NR(K:fv):List V->Hp->VK->Prop:=λd H Q=>∃x c t b,d=[x,c]/\Q1 K H x t/\(∀a,RelV c a->PySem.W.kitOne K t a=some b)/\Q (.bl b) H
theorem Hh:kI X (.builtin "isinstance") (NR X.K):=by
 intro a s k H l m Q I r h;obtain⟨x,c,t,b,rfl,g,i,q⟩:=h;obtain⟨u,j,rfl,e,f⟩:=NK r;exact KB I e g (i j f) λd=>⟨.bl b,H,I.tok d,rfl,q⟩
theorem Fi(P:X.calm=true):kI X (.builtin "all") (λm H Q=>∃(p:Addr)(c:List Bool),m=[.ref p]/\ξ X.K H p (c.map V.bl)/\Q (.bl (c.all id)) H):=by
 intro B s U H m Y Q I r h;obtain⟨p,c,rfl,M,q⟩:=h;obtain⟨u,rfl,j⟩:=mP r;cases j;obtain⟨a,C,w,W⟩:=I.list M;have y:=w.isList;have D:=w.lt;have G:X.A.in1.handled=none:=I.ok.hd P;have d:a.length=c.length:=by rw[<-C.length,ag]
 refine call_all_walk (iP y ?_);refine⟨s.heap.objs.size,[s.heap.objs.size,p],[s.heap.objs.size],a.toArray.size,_,_,λi=>(c[i]?).getD true,rfl,Walks.list (A:=X.A.in1) G _ p (aU D) a.toArray,⟨⟨_,bg _ rfl,rfl,rfl⟩,y.push _⟩,λi v S J T F g=>?_,λL E O=>?_⟩
 .have f:a[i]?=some v:=by simpa using F
  have l:i<c.length:=by rw[<-d];exact(ay.mp f).1
  obtain⟨u,n,j⟩:=C.get (i:=i) (x:=V.bl c[i]) (by rw[aQ,aB l];rfl);rw[f]at n;cases n;cases j;replace g:J (c[i]?.getD true) S:=g;rw[aB l]at g;exact dc g
 .have e:((List.range a.toArray.size).all λi=>(c[i]?).getD true)=c.all id:=by
   rw[be,d];rw[gO,cw,cw]
   constructor
   .intro z b hb;obtain⟨i,f,rfl⟩:=mZ hb;have:=z i (eD.mpr f);rw[aB f]at this;exact this
   .intro z i f;have t:=eD.mp f;rw[aB t];exact z _ (fk t)
  have R:∀b o,s.heap.get? b=some o->L.get? b=some o:=λb o k=>O b o (λN=>by rw[ax.mp N]at k;exact dh _ (aI k)) (au _ k);rw[e];exact⟨.bl _,H,I.kept (t':=E) R,rfl,q⟩
end
structure Q2(P:Program)(w:World)(l:Addr)(ob:Obj)(src:Heap->Array Value->Prop)(at':Addr->Nat->Heap->Prop):Prop where
 start:∀(A:Around)(s:Shared)(vs:Array Value)(Q:fc)(E:fc),src s.heap vs->Q (.ref s.heap.objs.size) { s with heap:=s.heap.push ob }->wpAny (model P w) A (pyIter (.ref l)) Q E s
 first:∀it h,h.get? it=some ob->at' it 0 h
 atK:∀it i h h',at' it i h->(∀o,h.get? it=some o->h'.get? it=some o)->at' it i h'
 R6:∀h h' vs,src h vs->(∀o,h.get? l=some o->h'.get? l=some o)->src h' vs
 obj:∀it i h,at' it i h->∃o,h.get? it=some o/\∀v,o.data≠.cell v
 item:∀(A:Around)(s:Shared)(it:Addr)(i:Nat)(vs:Array Value)(x:Value)(Q:fc)(E:fc),at' it i s.heap->src s.heap vs->vs[i]?=some x->(∀h',at' it (i+1) h'->Heap.SameBut it s.heap h'->Q x { s with heap:=h' })->wpAny (model P w) A (Builtin.SmallTypes.nextOf (.ref it)) Q E s
 fin:∀(A:Around)(s:Shared)(it:Addr)(i:Nat)(vs:Array Value)(Q:fc)(E:fc),A.handled=none->at' it i s.heap->src s.heap vs->vs[i]?=none->(∀h' e,Heap.ExtBut it s.heap h'->(∃o,h'.get? e=some o/\o.cls=.type "StopIteration")->E (.ref e) { s with heap:=h' })->wpAny (model P w) A (Builtin.SmallTypes.nextOf (.ref it)) Q E s
theorem JT{P:Program}{w:World}(l:Addr):Q2 P w l { cls:=.type "list_iterator",data:=.fields #[.ref l,.int 0 0] } (λh b=>h.IsList l b) (λa i h=>h.IsListIter a l i) where
 start:=λA s b Q E p c=>iP p c
 first:=λa h e=>⟨_,e,rfl,rfl⟩
 atK:=λa i h n x k=>x.at k
 R6:=λh n b x k=>x.at k
 obj:=λa i h x=>by
  obtain⟨o,j,_,hd⟩:=x;exact⟨o,j,λv z=>by rw[hd]at z;cases z⟩
 item:=λA s a i b x Q E g f d c=>wpAny_nextOf_list_item g f d c
 fin:=λA s a i b Q E m g f d c=>wpAny_nextOf_list_end m g f d c
section
variable{P:Program}{w:World}{A:Around}{E:fc}{s:Shared}
theorem y7{a t:Addr}{i:Nat}{h:Array Value}{x:Value}{Q:fc}(f:s.heap.IsTupleIter a t i)(m:s.heap.IsTuple t h)(j:h[i]?=some x)(l:∀e,e.IsTupleIter a t (i+1)->Heap.SameBut a s.heap e->Q x { s with heap:=e }):wpAny (model P w) A (Builtin.SmallTypes.nextOf (.ref a)) Q E s:=by
 obtain⟨p,c,d,b⟩:=id f;obtain⟨o,g,_,n,k⟩:=m;unfold Builtin.SmallTypes.nextOf;refine aj (wpAny_callSpecial?_slot (name:=Str.ofString "__next__") f.typeIs gd (jc gd f.typeIs j8 ?_ (jS _)));show wpAny (model P w) _ (field (.ref a) 0>>=_) _ _ s;refine aj (b9 c b (x:=.ref t) rfl ?_);show wpAny (model P w) _ (if(Value.ref t==Value.none)=true then _ else _) _ _ s;rw[ah (by exact bi)];show wpAny (model P w) _ (field (.ref a) 1>>=_) _ _ s;refine aj (b9 c b (x:=.int i 0) rfl ?_);show wpAny (model P w) _ (seqItems? (.ref t)>>=_) _ _ s;refine aj (fe g k ?_);simp only[eE,j];refine aj (fM c b (by simp) (aM ⟨x,rfl,aM (l _ ?_ (Heap.SameBut.update ..))⟩));exact⟨_,dC _ c (eP (dA b _)),(Obj.cls_mapFields ..).trans d,by rw[dA b];simp[rawInt]⟩
theorem zH{b t:Addr}{i:Nat}{j:Array Value}{Q:fc}(k:A.handled=none)(f:s.heap.IsTupleIter b t i)(r:s.heap.IsTuple t j)(l:j[i]?=none)(q:∀d e,Heap.ExtBut b s.heap d->(∃o,d.get? e=some o/\o.cls=.type "StopIteration")->E (.ref e) { s with heap:=d }):wpAny (model P w) A (Builtin.SmallTypes.nextOf (.ref b)) Q E s:=by
 obtain⟨y,h,p,c⟩:=id f;obtain⟨v,g,_,u,n⟩:=r;unfold Builtin.SmallTypes.nextOf;refine aj (wpAny_callSpecial?_slot (name:=Str.ofString "__next__") f.typeIs gd (jc gd f.typeIs j8 ?_ (jS _)));show wpAny (model P w) _ (field (.ref b) 0>>=_) _ _ s;refine aj (b9 h c (x:=.ref t) rfl ?_);show wpAny (model P w) _ (if(Value.ref t==Value.none)=true then _ else _) _ _ s;rw[ah (by exact bi)];show wpAny (model P w) _ (field (.ref b) 1>>=_) _ _ s;refine aj (b9 h c (x:=.int i 0) rfl ?_);show wpAny (model P w) _ (seqItems? (.ref t)>>=_) _ _ s;refine aj (fe g n ?_);simp only[eE,l];refine aj (lS (aj (fM h c (by simp) ?_)));show wpAny (model P w) _ (newExc (.type "StopIteration") []>>=_) _ _ _;refine aj ?_;simp only[newExc,newTuple];refine aj (db ?_ (by size_fits));refine aj (m:=firstArgMember _ _) (wpAny_of_eq (a:=Value.none) (by first|rfl|(simp only[firstArgMember];rfl)) ?_);refine db ?_ (by size_fits);simp only[raiseNew];refine aj (wpAny_handled ?_)
 first|rw[show A.in1.handled=none from k]|rw[k]
 refine aj (aM (wpAny_throw ?_));exact q _ _ (((Heap.SameBut.update ..).extBut.push _).push _) ⟨_,bg _ rfl,rfl⟩
end
theorem LG{P:Program}{w:World}(l:Addr):Q2 P w l { cls:=.type "tuple_iterator",data:=.fields #[.ref l,.int 0 0] } (λh b=>h.IsTuple l b) (λa i h=>h.IsTupleIter a l i) where
 start:=λA s b Q E p d=>j4 p d
 first:=λa h e=>⟨_,e,rfl,rfl⟩
 atK:=λa i h n x k=>let ⟨o,c,r⟩:=x;⟨o,k o c,r⟩
 R6:=λh n b x k=>let ⟨o,c,r⟩:=x;⟨o,k o c,r⟩
 obj:=λa i h x=>by
  obtain⟨o,c,_,hd⟩:=x;exact⟨o,c,λv z=>by rw[hd]at z;cases z⟩
 item:=λA s a i b x Q E j g f d=>y7 j g f d
 fin:=λA s a i b Q E m j g f d=>zH m j g f d
structure Zy(z TI TO i1 i2 l1 l2:Addr):Prop where
 a1:TI≠z
 a2:TO≠z
 a3:i1≠z
 a4:i2≠z
 a5:TI≠TO
 a6:TI≠i1
 a7:TI≠i2
 a8:TO≠i1
 a9:TO≠i2
 a0:i1≠i2
 b1:l1≠z/\l1≠TO/\l1≠i1/\l1≠i2
 b2:l2≠z/\l2≠TO/\l2≠i1/\l2≠i2
section
variable{P:Program}{w:World}{A:Around}{E:fc}{s:Shared}{p l:Addr}{f i:Obj}{m k:Heap->Array Value->Prop}{n j:Addr->Nat->Heap->Prop}
theorem FV(H:Q2 P w p f m n)(K:Q2 P w l i k j){z TI TO g h:Addr}{C J:Nat}{V ys:Array Value}{x y a b:Value}{Q:fc}(D:Zy z TI TO g h p l)(F:IsZip s.heap z TI TO .none)(HI:IsPair s.heap TI (.ref g) (.ref h))(T:IsPair s.heap TO a b)(p1:n g C s.heap)(p2:j h J s.heap)(q1:m s.heap V)(q2:k s.heap ys)(hx:V[C]?=some x)(hy:ys[J]?=some y)(hQ:∀q,IsZip q z TI TO (rawInt s.heap.objs.size)->IsPair q TO x y->n g (C+1) q->j h (J+1) q->IsPair q s.heap.objs.size x y->q.objs.size=s.heap.objs.size+1->(∀c o,c≠z->c≠TO->c≠g->c≠h->s.heap.get? c=some o->q.get? c=some o)->Q (.ref s.heap.objs.size) { s with heap:=q }):wpAny (model P w) A (Builtin.«zip.__next__» ⟨[.ref z],[]⟩) (λfn s'=>∃v,fn=.done (.ret v)/\Q v s') E s:=by
 show wpAny (model P w) _ (field (.ref z) 2>>=_) _ _ _;refine aj (b9 F rfl (x:=.bool false) rfl ?_);show wpAny (model P w) _ (field (.ref z) 3>>=_) _ _ _;refine aj (b9 F rfl (x:=.ref TI) rfl ?_);refine aj (fe HI rfl ?_);show wpAny (model P w) _ (Builtin.SmallTypes.ownedTupleIsFree (.ref z)>>=_) _ _ _;refine aj ?_;unfold Builtin.SmallTypes.ownedTupleIsFree;refine aj (b9 F rfl (x:=.none) rfl (aM ?_));simp only[if_true];refine aj (lS ?_);refine aj (b9 F rfl (x:=.ref TO) rfl ?_);refine aj (fG F (by simp) λg1 z1 t=>?_);replace z1:IsZip g1 z TI TO .ellipsis:=z1;refine aj ?_;simp only[List.zipIdx_cons,List.zipIdx_nil,mq,List.forIn_nil];refine aj (aj (jX ?_));show wpAny (model P w) _ (Builtin.SmallTypes.nextOf (.ref g)>>=_) _ _ _;refine aj (H.item _ { s with heap:=g1 } g C V x _ _ (H.atK _ _ _ _ p1 λo e=>t.extBut _ _ D.a3 e) (H.R6 _ _ _ q1 λo e=>t.extBut _ _ D.b1.1 e) hx λg2 ad B=>aM ?_);have o2:IsPair g2 TO a b:=B.extBut _ _ D.a8 (t.extBut _ _ D.a2 T);refine aj (fe o2 rfl ?_);refine aj (jw o2 λg3 o3 u=>?_);replace o3:IsPair g3 TO x b:=o3;refine aj (lG (aM ?_));refine aj (aj (jX ?_));show wpAny (model P w) _ (Builtin.SmallTypes.nextOf (.ref h)>>=_) _ _ _;refine aj (K.item _ { s with heap:=g3 } h J ys y _ _ (K.atK _ _ _ _ p2 λo e=>u.extBut _ _ D.a9.symm (B.extBut _ _ D.a0.symm (t.extBut _ _ D.a4 e))) (K.R6 _ _ _ q2 λo e=>u.extBut _ _ D.b2.2.1 (B.extBut _ _ D.b2.2.2.1 (t.extBut _ _ D.b2.1 e))) hy λg4 W G=>aM ?_);have o4:IsPair g4 TO x b:=G.extBut _ _ D.a9 o3;refine aj (fe o4 rfl ?_);refine aj (jw o4 λd N L=>?_);replace N:IsPair d TO x y:=N;refine aj (lG (aM (aM ?_)));refine aj (fe N rfl ?_);refine aj (wpAny_newTuple ?_);have sz:d.objs.size=s.heap.objs.size:=by rw[L.1,G.1,u.1,B.1,t.1]
 have z5:IsZip d z TI TO .ellipsis:=L.extBut _ _ D.a2.symm (G.extBut _ _ D.a4.symm (u.extBut _ _ D.a2.symm (B.extBut _ _ D.a3.symm z1)));have k5:∀c o,c≠z->c≠TO->c≠g->c≠h->s.heap.get? c=some o->d.get? c=some o:=λc o r O X U e=>
  L.extBut _ _ O (G.extBut _ _ U (u.extBut _ _ O (B.extBut _ _ X (t.extBut _ _ r e))))
 have ai:n g (C+1) d:=H.atK _ _ _ _ ad λo e=>L.extBut _ _ D.a8.symm (G.extBut _ _ D.a0 (u.extBut _ _ D.a8.symm e));have S:j h (J+1) d:=K.atK _ _ _ _ W λo e=>L.extBut _ _ D.a9.symm e;have M:z<d.objs.size:=aI z5;show wpAny (model P w) _ (Builtin.SmallTypes.ownedTupleHandOut (.ref z) (.ref d.objs.size)>>=_) _ _ _;refine aj ?_;unfold Builtin.SmallTypes.ownedTupleHandOut;have z6:IsZip (d.push { cls:=.type "tuple",data:=.seq #[x,y] }) z TI TO .ellipsis:=au _ z5;refine aj (fG z6 (by simp) λg7 Y e7=>?_);replace Y:IsZip g7 z TI TO (rawInt d.objs.size):=Y;refine fG Y (by simp) λI R Z=>?_;replace R:IsZip I z TI TO (rawInt d.objs.size):=R;have up:∀c o,c≠z->d.get? c=some o->I.get? c=some o:=λc o r e=>Z.extBut _ _ r (e7.extBut _ _ r (au _ e));have t8:IsPair I d.objs.size x y:=Z.extBut _ _ (eX M) (e7.extBut _ _ (eX M) (bg _ rfl));have s8:I.objs.size=d.objs.size+1:=by rw[Z.1,e7.1,de]
 rw[sz]at R t8 s8;refine aM ⟨_,rfl,?_⟩;show Q (.ref d.objs.size) _;rw[sz];exact hQ I R (up _ _ D.a2 N) (H.atK _ _ _ _ ai λo e=>up _ o D.a3 e) (K.atK _ _ _ _ S λo e=>up _ o D.a4 e) t8 s8 λc o r O X U e=>up c o r (k5 c o r O X U e)
theorem G7(K:Q2 P w p f m n)(W:Q2 P w l i k j){z TI TO d B:Addr}{v L:Nat}{y N:Array Value}{a b:Value}{Q:Fin->Shared->Prop}(hh:A.handled=none)(D:Zy z TI TO d B p l)(C:IsZip s.heap z TI TO .none)(HI:IsPair s.heap TI (.ref d) (.ref B))(S:IsPair s.heap TO a b)(p1:n d v s.heap)(p2:j B L s.heap)(q1:m s.heap y)(q2:k s.heap N)(Vr:y[v]?=none\/N[L]?=none)(hE:∀V e,(∀c o,c≠z->c≠TO->c≠d->c≠B->s.heap.get? c=some o->V.get? c=some o)->(∃o,V.get? e=some o/\o.cls=.type "StopIteration")->E (.ref e) { s with heap:=V }):wpAny (model P w) A (Builtin.«zip.__next__» ⟨[.ref z],[]⟩) Q E s:=by
 show wpAny (model P w) _ (field (.ref z) 2>>=_) _ _ _;refine aj (b9 C rfl (x:=.bool false) rfl ?_);show wpAny (model P w) _ (field (.ref z) 3>>=_) _ _ _;refine aj (b9 C rfl (x:=.ref TI) rfl ?_);refine aj (fe HI rfl ?_);show wpAny (model P w) _ (Builtin.SmallTypes.ownedTupleIsFree (.ref z)>>=_) _ _ _;refine aj ?_;unfold Builtin.SmallTypes.ownedTupleIsFree;refine aj (b9 C rfl (x:=.none) rfl (aM ?_));simp only[if_true];refine aj (lS ?_);refine aj (b9 C rfl (x:=.ref TO) rfl ?_);refine aj (fG C (by simp) λI M u=>?_);replace M:IsZip I z TI TO .ellipsis:=M;refine aj ?_;simp only[List.zipIdx_cons,List.zipIdx_nil,mq,List.forIn_nil];refine aj (aj (jX ?_));show wpAny (model P w) _ (Builtin.SmallTypes.nextOf (.ref d)>>=_) _ _ _;have H:n d v I:=K.atK _ _ _ _ p1 λo e=>u.extBut _ _ D.a3 e;have G:m I y:=K.R6 _ _ _ q1 λo e=>u.extBut _ _ D.b1.1 e;cases hx:y[v]? with
 | none=>
   refine aj (K.fin _ { s with heap:=I } d v y _ _ hh H G hx λY e g R=>?_);obtain⟨U,q,J⟩:=R;have z2:IsZip Y z TI TO .ellipsis:=g _ _ D.a3.symm M;have O:e≠z:=λt=>by subst t;rw[z2]at q;cases q;simp at J
   refine fG z2 (by simp) λX _ r=>hE X e (λc o F _ T _ t=>r.extBut _ _ F (g _ _ T (u.extBut _ _ F t))) ⟨U,r.extBut _ _ O q,J⟩
 | some x=>
   have hy:N[L]?=none:=by
    rcases Vr with h|h
    .rw[hx]at h;cases h
    .exact h
   refine aj (K.item _ { s with heap:=I } d v y x _ _ H G hx λY a1 g=>aM ?_);have o2:IsPair Y TO a b:=g.extBut _ _ D.a8 (u.extBut _ _ D.a2 S);refine aj (fe o2 rfl ?_);refine aj (jw o2 λX o3 r=>?_);refine aj (lG (aM ?_));refine aj (aj (jX ?_));show wpAny (model P w) _ (Builtin.SmallTypes.nextOf (.ref B)>>=_) _ _ _;refine aj (W.fin _ { s with heap:=X } B L N _ _ hh (W.atK _ _ _ _ p2 λo e=>r.extBut _ _ D.a9.symm (g.extBut _ _ D.a0.symm (u.extBut _ _ D.a4 e))) (W.R6 _ _ _ q2 λo e=>r.extBut _ _ D.b2.2.1 (g.extBut _ _ D.b2.2.2.1 (u.extBut _ _ D.b2.1 e))) hy λg4 e Z R=>?_);obtain⟨U,q,J⟩:=R;have z4:IsZip g4 z TI TO .ellipsis:=Z _ _ D.a4.symm (r.extBut _ _ D.a2.symm (g.extBut _ _ D.a3.symm M));have O:e≠z:=λt=>by subst t;rw[z4]at q;cases q;simp at J
   refine fG z4 (by simp) λg5 _ e5=>hE g5 e (λc o F c2 T c4 t=>e5.extBut _ _ F (Z _ _ c4 (r.extBut _ _ c2 (g.extBut _ _ T (u.extBut _ _ F t))))) ⟨U,e5.extBut _ _ O q,J⟩
abbrev Zz(h:Heap)(f i:Obj):Heap:=(h.push f).push i
abbrev ZA(h:Heap)(f i:Obj):Heap:=(Zz h f i).push { cls:=.type "tuple",data:=.seq #[.ref h.objs.size,.ref (h.push f).objs.size] }
abbrev ZC(h:Heap)(f i:Obj):Heap:=(ZA h f i).push { cls:=.type "tuple",data:=.seq #[.none,.none] }
abbrev XA(h:Heap)(f i:Obj):Heap:=(ZC h f i).push { cls:=.type "zip",data:=.fields #[.none,.bool false,.bool false,.ref (Zz h f i).objs.size,.ref (ZA h f i).objs.size] }
theorem Ei(C:∀P w,Q2 P w p f m n)(u:∀P w,Q2 P w l i k j)(ne:∀h y,k h y->∃o,h.get? l=some o)(q v:Array Value):Meets (Builtin.«zip.__new__» ⟨[.type "zip",.ref p,.ref l],[]⟩) (λ_ R s=>m s.heap q/\k s.heap v/\R (.ok (.ret (.ref (ZC s.heap f i).objs.size))) { s with heap:=XA s.heap f i }):=.of_wp λa w A R s b=>by
 obtain⟨t,g,d,c,os⟩:=s;obtain⟨D,F,r⟩:=b;have B:=sub_zip;have z:m (Shared.heap ⟨t,g,d,c,os⟩) q:=D;have x:k (Shared.heap ⟨t.push f,g,d,c,os⟩) v:=(u a w).R6 _ _ _ F λo e=>au _ e
 wp_walk using ((C a w).start _ _ _ _ _ z),((u a w).start _ _ _ _ _ x)
 exact⟨_,rfl,r⟩
theorem LO(t:∀P w,Q2 P w p f m n)(B:∀P w,Q2 P w l i k j)(ne:∀h G,k h G->∃o,h.get? l=some o){v C:Array Value}{Q:fc}(I:m s.heap v)(K:k s.heap C)(h:∀a,IsZip a (s.heap.objs.size+4) (s.heap.objs.size+2) (s.heap.objs.size+3) .none->IsPair a (s.heap.objs.size+2) (.ref s.heap.objs.size) (.ref (s.heap.objs.size+1))->IsPair a (s.heap.objs.size+3) .none .none->n s.heap.objs.size 0 a->j (s.heap.objs.size+1) 0 a->(∀c o,s.heap.get? c=some o->a.get? c=some o)->Q (.ref (s.heap.objs.size+4)) { s with heap:=a })(J:f.isFreed=false)(H:i.isFreed=false):wpAny (model P w) A (call (.type "zip") [.ref p,.ref l]) Q E s:=by
 refine callType_new F.called_zip (by decide) (F.typeCall_zip_2 _ _) (F.newCall_zip_2 _ _) (λq=>F.args_object_init_3 q _ _) F.entry_zip_new (Ei t B ne v C) ⟨I,K,?_⟩;have g:(s.heap.push f).objs.size=s.heap.objs.size+1:=de ..;have r:(Zz s.heap f i).objs.size=s.heap.objs.size+2:=by rw[de,g]
 have b:(ZA s.heap f i).objs.size=s.heap.objs.size+3:=by rw[de,r]
 have y:(ZC s.heap f i).objs.size=s.heap.objs.size+4:=by rw[de,b]
 have d:(XA s.heap f i).get? (ZC s.heap f i).objs.size=some _:=bg _ rfl;have u:(XA s.heap f i).get? (ZA s.heap f i).objs.size=some _:=au _ (bg _ rfl);have x:(XA s.heap f i).get? (Zz s.heap f i).objs.size=some _:=au _ (au _ (bg _ rfl));have z:(XA s.heap f i).get? (s.heap.push f).objs.size=some i:=au _ (au _ (au _ (bg _ H)));have D:(XA s.heap f i).get? s.heap.objs.size=some f:=au _ (au _ (au _ (au _ (bg _ J))));show _/\_;rw[r,b,y]at d;rw[g,r]at x;rw[b]at u;rw[g]at z;rw[y];exact⟨⟨_,d,rfl⟩,h _ d x u ((t P w).first _ _ D) ((B P w).first _ _ z) λc o e=>au _ (au _ (au _ (au _ (au _ e))))⟩
end
def ύ(K:fv):Bool->Hp->Addr->List V->Prop
 | true,H,a,xs=>ξ K H a xs
 | false,H,a,xs=>Β K H a xs
def Itz(K:fv)(c d:Bool)(a b:Addr):It:=⟨λi H=>∃e f x y,ύ K c H a e/\ύ K d H b f/\e[i]?=some x/\f[i]?=some y,λi H v g=>∃p x y,H p=none/\v=.ref p/\g=upd H p (.tup [x,y])/\(∀e,ύ K c H a e->e[i]?=some x)/\∀f,ύ K d H b f->f[i]?=some y,λi H=>∃e f,ύ K c H a e/\ύ K d H b f/\(e.length<=i\/f.length<=i)⟩
def Pn(a:Addr):Bool->Obj
 | true=>{ cls:=.type "list_iterator",data:=.fields #[.ref a,.int 0 0] }
 | false=>{ cls:=.type "tuple_iterator",data:=.fields #[.ref a,.int 0 0] }
def IL(a:Addr):Bool->Heap->Array Value->Prop
 | true,h,vs=>h.IsList a vs
 | false,h,vs=>h.IsTuple a vs
def Yq(a:Addr):Bool->Addr->Nat->Heap->Prop
 | true,it,i,h=>h.IsListIter it a i
 | false,it,i,h=>h.IsTupleIter it a i
theorem jV(a:Addr)(c:Bool)(P:Program)(w:World):Q2 P w a (Pn a c) (IL a c) (Yq a c):=by
 cases c
 .exact LG a
 .exact JT a
theorem yb(a:Addr)(c:Bool):(Pn a c).isFreed=false:=by cases c<;>rfl
theorem sD(a:Addr)(c:Bool)(h:Heap)(b:Array Value)(e:IL a c h b):∃o,h.get? a=some o:=by
 cases c
 .obtain⟨o,ho,_⟩:=e;exact⟨o,ho⟩
 .obtain⟨o,ho,_⟩:=e;exact⟨o,ho⟩
theorem Inv.ϳ{X:Cx}{d:fz}{g:St}{H:Hp}{s:Shared}{c:Bool}{a:Addr}{e:List V}(I:Inv X d g H s)(h:ύ X.K c H a e):∃b:List Value,Vals e b/\IL a c s.heap b.toArray:=by
 cases c with
 | true=>
   obtain⟨b,r,j,_⟩:=I.list h;exact⟨b,r,j.isList⟩
 | false=>
   obtain⟨b,r,⟨o,f,k,n,i⟩,_⟩:=I.tuple h;exact⟨b,r,⟨o,f,k,n,i⟩⟩
theorem Inv.R7{X:Cx}{b:fz}{g:St}{H:Hp}{s:Shared}{c:Bool}{a:Addr}{d e:List V}(I:Inv X b g H s)(h:ύ X.K c H a d)(f:ύ X.K c H a e):d=e:=by
 cases c with
 | true=>exact I.Ac h f
 | false=>exact I.RM h f
theorem Ms{P:Program}{w:World}{K:fv}{ab:List Expr}{x1}{Ri:Pos}(c d:Bool)(a b z TI TO i1 i2:Addr)(D:Zy z TI TO i1 i2 a b):Turn P w K (.Tuple ab x1 Ri) (Itz K c d a b) [z,TI,TO,i1,i2] z (λi h=>IsZip h z TI TO .none/\IsPair h TI (.ref i1) (.ref i2)/\(∃u v,IsPair h TO u v)/\Yq a c i1 i h/\Yq b d i2 i h) where
 mem:=by simp
 obj:=λi h t e he=>by
  obtain⟨t1,J,⟨u,v,N⟩,M,L⟩:=t;simp only[aG,dL,or_false]at he;rcases he with rfl|rfl|rfl|rfl|rfl
  .exact⟨_,t1,λv z=>by cases z⟩
  .exact⟨_,J,λv z=>by cases z⟩
  .exact⟨_,N,λv z=>by cases z⟩
  .exact(jV a c P w).obj _ _ _ M
  .exact(jV b d P w).obj _ _ _ L
 keep:=λi h h' t k=>by
  obtain⟨t1,J,⟨u,v,N⟩,M,L⟩:=t;exact⟨k z (by simp) _ t1,k TI (by simp) _ J,⟨u,v,k TO (by simp) _ N⟩,(jV a c P w).atK _ _ _ _ M λo e=>k i1 (by simp) o e,(jV b d P w).atK _ _ _ _ L λo e=>k i2 (by simp) o e⟩
 item:=λX e1 e2 e3 hc i C s σ H E I f t g=>by
  subst e1 e2 e3;obtain⟨t1,J,⟨u,v,N⟩,M,L⟩:=t;obtain⟨xs,ys,x,y,s1,s2,hx,hy⟩:=g;obtain⟨us,r1,q1⟩:=I.ϳ s1;obtain⟨vs,r2,q2⟩:=I.ϳ s2;obtain⟨xu,ZD,rx⟩:=r1.get hx;obtain⟨yu,bk,ry⟩:=r2.get hy;have Z:s.TypeIs (.ref z) "zip":=⟨_,t1,rfl⟩;unfold pyNext;refine aj (wpAny_attempt (wpAny_callSpecial?_slot (name:=Str.ofString "__next__") Z jJ (jc jJ Z F.entry_zip_next
   (FV (jV a c _ _) (jV b d _ _) D t1 J N M L q1 q2 (x:=xu) (y:=yu) (by simpa using ZD) (by simpa using bk) λh' w1 w2 w3 w4 w5 w6 w7=>aM ?_) (F.args_zip_next_1 _))))
  refine⟨_,rfl,wpAny_letOwnedTupleGo_zip w1 λU n1 R=>?_⟩;have G:∀q∈[z,TI,TO,i1,i2],nN X C H q:=f;have a0:s.heap.objs.size≠z:=eX (aI t1);have new:IsPair U s.heap.objs.size xu yu:=R.extBut _ _ a0 w5;have kp:∀q o,q∉[z,TI,TO,i1,i2]->s.heap.get? q=some o->U.get? q=some o:=λq o j e=>by
   simp only[aG,dL,or_false,not_or]at j;exact R.extBut _ _ j.1 (w7 q o j.1 j.2.2.1 j.2.2.2.1 j.2.2.2.2 e)
  have bf:U.get? TI=some _:=R.extBut _ _ D.a1 (w7 TI _ D.a1 D.a5 D.a6 D.a7 J);have V:∀q u,H q=some u->q∉[z,TI,TO,i1,i2]:=λq u e j=>by rw[(G q j).1]at e;cases e
  have B:Inv X C σ H { s with heap:=U }:=by
   refine I.step (g':=s.gens) (d':=s.drawn) (t':=s.toks) (ch:=[z,TI,TO,i1,i2]) (λq j=>⟨(G q j).2.2.2.1,(G q j).2.1,(G q j).2.2.2.2.1,(G q j).2.2.2.2.2⟩) (λq o _ _ j e _=>kp q o j e) (λq o _ _ j e _=>⟨o.slots,kp q o j e⟩) (λ_ _ _ _ n=>n)
    (λq o j e=>⟨o,kp q o j e⟩) (λ_ _ e=>e) (λ_ _ _ e=>e) (λq ps e=>⟨#[],by rw[e];simp⟩) (λm hm=>?_) (λq u e=>?_) I.bare
   .obtain⟨o,es,ep,O,r⟩:=hm;exact⟨o,es,ep,kp _ o (λj=>(G _ j).2.1 rfl) O,r⟩
   .refine(I.χ q u e).iO (λY v By l=>kp Y v ?_ l) (λ_ l=>l) λ_ _ l=>l;rcases By with rfl|By
    .exact V _ u e
    .exact V _ _ By
  have S:H s.heap.objs.size=none:=I.fresh;have I3:Inv X C σ (upd H s.heap.objs.size (.tup [x,y])) { s with heap:=U }:=by
   refine⟨B.ok,B.os,B.bare,?_,B.loc,B.cell,?_,λn c e=>?_,λp hp=>?_,λq u e=>?_,B.len⟩
   .refine⟨B.base.keep,B.base.slot,λq o e n hx=>?_,B.base.there,λq xs e=>?_,λq o u e=>?_,λq ps e=>?_⟩
    .have lt:q<X.s₀.heap.objs.size:=aI e;rw[aY (aU (bc lt I.sz))];exact B.base.free q o e n hx
    .have l:=B.base.iS q xs e;rw[aY (λz=>by rw[z,S]at l;cases l)];exact l
    .have l:=B.base.ϸ q o u e;rw[aY (λz=>by rw[z,S]at l;cases l)];exact l
    .obtain⟨more,l⟩:=B.base.lE q ps e;exact⟨more,by rw[aY (λz=>by rw[z,S]at l;cases l)];exact l⟩
   .rw[aY (aU I.lt)];exact B.free
   .obtain⟨vv,o,O,_⟩:=I.cell n c e;rw[aY (aU (aI O))];exact B.ϐ n c e
   .obtain⟨k1,k2,k3⟩:=I.pin p hp;rw[aY (aU (aI k1))];exact B.pin p hp
   .by_cases j:q=s.heap.objs.size
    .subst j;rw[aw]at e;cases e;exact⟨by show 2<=sizeLine;decide,[xu,yu],.cons rx (.cons ry .nil),_,new,rfl,_,rfl⟩
    .rw[aY j]at e;refine(B.χ q u e).iO (λ_ _ _ l=>l) (λY l=>?_) λY xs l=>?_
     .rw[aY (λz=>by rw[z,S]at l;cases l)];exact l
     .rw[aY (λz=>by rw[z,S]at l;cases l)];exact l
  refine⟨.ref s.heap.objs.size,_,I3,rfl,⟨_,x,y,S,rfl,rfl,λbU q=>?_,λϴ q=>?_⟩,⟨n1,bf,⟨_,_,R.extBut _ _ D.a2 w2⟩,(jV a c X.prog X.w).atK _ _ _ _ w3 λo e=>R.extBut _ _ D.a3 e,(jV b d X.prog X.w).atK _ _ _ _ w4 λo e=>R.extBut _ _ D.a4 e⟩,λq j=>?_⟩
  .rw[<-I.R7 s1 q];exact hx
  .rw[<-I.R7 s2 q];exact hy
  .have ϕ:q<s.heap.objs.size:=by
    simp only[aG,dL,or_false]at j;rcases j with rfl|rfl|rfl|rfl|rfl
    .exact aI t1
    .exact aI J
    .exact aI N
    .exact let ⟨o,e,_⟩:=(jV a c X.prog X.w).obj _ _ _ M;aI e
    .exact let ⟨o,e,_⟩:=(jV b d X.prog X.w).obj _ _ _ L;aI e
   rw[aY (aU ϕ)];exact(G q j).1
 done:=λX e1 e2 e3 hc i C s σ H E I f t g=>by
  subst e1 e2 e3;obtain⟨t1,J,⟨u,v,N⟩,M,L⟩:=t;obtain⟨xs,ys,s1,s2,Vr⟩:=g;obtain⟨us,r1,q1⟩:=I.ϳ s1;obtain⟨vs,r2,q2⟩:=I.ϳ s2;have G:∀q∈[z,TI,TO,i1,i2],nN X C H q:=f;have hh:X.A.handled=none:=I.ok.hd hc;have Z:s.TypeIs (.ref z) "zip":=⟨_,t1,rfl⟩;have Yr:us.toArray[i]?=none\/vs.toArray[i]?=none:=by
   rcases Vr with e|e
   .exact .inl (by have:=r1.length;simp;lia)
   .exact .inr (by have:=r2.length;simp;lia)
  unfold pyNext;refine aj (wpAny_attempt (wpAny_callSpecial?_slot (name:=Str.ofString "__next__") Z jJ (jc jJ Z F.entry_zip_next
   (G7 (jV a c _ _) (jV b d _ _) hh D t1 J N M L q1 q2 Yr λh' e hk he=>?_) (F.args_zip_next_1 _))))
  obtain⟨o,O,bj⟩:=he;refine aj (wpAny_isInstance (T:="StopIteration") (b:=true) ⟨o,O,bj⟩ isSubtype_stop (aM ⟨rfl,?_⟩));have kp:∀q o,q∉[z,TI,TO,i1,i2]->s.heap.get? q=some o->h'.get? q=some o:=λq o j e=>by
   simp only[aG,dL,or_false,not_or]at j;exact hk q o j.1 j.2.2.1 j.2.2.2.1 j.2.2.2.2 e
  have V:∀q u,H q=some u->q∉[z,TI,TO,i1,i2]:=λq u e j=>by rw[(G q j).1]at e;cases e
  refine I.step (g':=s.gens) (d':=s.drawn) (t':=s.toks) (ch:=[z,TI,TO,i1,i2]) (λq j=>⟨(G q j).2.2.2.1,(G q j).2.1,(G q j).2.2.2.2.1,(G q j).2.2.2.2.2⟩) (λq o _ _ j e _=>kp q o j e) (λq o _ _ j e _=>⟨o.slots,kp q o j e⟩) (λ_ _ _ _ n=>n)
   (λq o j e=>⟨o,kp q o j e⟩) (λ_ _ e=>e) (λ_ _ _ e=>e) (λq ps e=>⟨#[],by rw[e];simp⟩) (λm hm=>?_) (λq u e=>?_) I.bare
  .obtain⟨o,es,ep,O,r⟩:=hm;exact⟨o,es,ep,kp _ o (λj=>(G _ j).2.1 rfl) O,r⟩
  .refine(I.χ q u e).iO (λY v By l=>kp Y v ?_ l) (λ_ l=>l) λ_ _ l=>l;rcases By with rfl|By
   .exact V _ u e
   .exact V _ _ By
 self:=λA i s Q E t q=>wpAny_pyIter_zip t.1 q
theorem Jt:typeLookup (.type "list_reverseiterator") "__len__"=pure none:=by rw[typeLookup_type,builtinLookup_eq_fast];kernel_rfl
theorem L7:typeLookup (.type "list_reverseiterator") "__length_hint__"=pure (some (.builtin "list_reverseiterator.__length_hint__")):=by rw[typeLookup_type,builtinLookup_eq_fast];kernel_rfl
section
variable{P:Program}{w:World}{A:Around}{E:fc}{s:Shared}
theorem MG{f:Addr}{Q:Bool->Shared->Prop}(e:s.TypeIs (.ref f) "list_reverseiterator")(h:Q false s):wpAny (model P w) A (Builtin.List.listLengthHint (.ref f)) Q E s:=by
 unfold Builtin.List.listLengthHint;refine aj (lJ e Jt ?_);refine gq (λa=>absurd a (by decide)) (λ_=>?_);refine gq (λa=>absurd a (by decide)) (λ_=>?_);refine aj (lJ e L7 ?_);generalize c:("list_reverseiterator.__length_hint__":String)=d
 wp_delta
 rw[show splitId d=some ("list_reverseiterator","__length_hint__")from by subst c;decide +kernel];subst c;refine aj (wpAny_isInstance (T:="list_reverseiterator") (b:=true) e (by rw[isSubtype_type];kernel_rfl) ?_);refine gq (λa=>absurd a (by decide)) (λ_=>?_);refine gq (λ_=>?_) (λa=>absurd (by decide +kernel) a);refine gq (λa=>absurd a (by decide +kernel)) (λ_=>?_);exact aM h
end
def Ev(I l:Addr)(a:Array Value)(i:Nat)(h:Heap):Prop:=i<=a.size/\h.IsRevIter I l ((a.size:Int)-1-(i:Int))/\h.IsList l a
def IA(a:Array Value)(i:Nat)(v:Value):Prop:=a[a.size-1-i]?=some v
section
variable{P:Program}{w:World}{A:Around}{E:fc}{s:Shared}{R:Result->Shared->Prop}
theorem IW(r:A.handled=none){I l S:Addr}{its:Array Value}{g:Value}{j:Nat}(st:Ev I l its 0 s.heap)(ne:l≠I)(k:S≠I)(n:S≠l)(B:its.size<=sizeLine)(o:s.heap.get? S=some { cls:=.type "list",data:=.seq #[] j })(t:∀c d h,Moved [S,I] (λa b=>b=a) s c->c.heap.get? S=some { cls:=.type "list",dict:=none,data:=.seq d h,slots:=#[] }->ItemsOf (IA its) d its.size->R (.ok (.ret g)) c):wpAny (model P w) A.in1 (Builtin.List.listExtendWith (.ref S) (.ref I) g) (λv c=>match v with|.done f=>R (.ok f) c|.again h=>h.quiet=true/\codeAny (model P w) A h R c) (λe c=>R (.error e) c) s:=by
 have W:=(Walks.listRev (prog:=P) (w:=w) (A:=A.in1) r I l ne its).toS;have i:s.TypeIs (.ref I) "list_reverseiterator":=st.2.1.typeIs;unfold Builtin.List.listExtendWith;refine aj (wpAny_typeOf i ?_);have y:Builtin.List.listSameRef (.ref S) (.ref I)=false:=by simp[Builtin.List.listSameRef,k]
 have p:(Value.type "list_reverseiterator" == Value.type "list")=false:=by decide
 have z:(Value.type "list_reverseiterator" == Value.type "tuple")=false:=by decide
 simp only[y,p,z,nF,cR,if_false];refine aj (g9 st.2.1 ?_);refine aj (fY (MG i ?_));refine gq (λu=>absurd u (by decide +kernel)) (λ_=>?_);refine aM ⟨plainId_quiet F.plain_extend_loop _,codeAny_extend_loopS W B S (by simp[k,n]) g its.size 0 _ #[] j rfl (bT _) st o (ItemsOf.nil _) λc d h x m q=>?_⟩;exact t c d h x m q
theorem G8(m:A.handled=none){I l:Addr}{its:Array Value}{Q:List Value->Shared->Prop}(st:Ev I l its 0 s.heap)(ne:l≠I)(t:its.size<=sizeLine)(q:∀(c:Shared) (a:Array Value),c.os=s.os->c.gens=s.gens->c.drawn=s.drawn->(∀b o,b≠I->s.heap.get? b=some o->c.heap.get? b=some o)->s.heap.objs.size<=c.heap.objs.size->ItemsOf (IA its) a its.size->Q a.toList c):wpAny (model P w) A (collect (.ref I)) Q E s:=by
 obtain⟨x,g,_⟩:=id st.2.1;obtain⟨u,f,_⟩:=id st.2.2;have r:s.heap.objs.size≠I:=eX (aI g);have j:s.heap.objs.size≠l:=eX (aI f);unfold collect;refine aj (wpAny_runValue (codeAny_builtin F.entry_proto_collect ?_));rw[Around.under_plainId F.plain_proto_collect _];show wpAny (model P w) A.in1 (newList []>>=λl=>again (.builtin "list.__iadd__" ⟨[l,.ref I],[]⟩)) _ _ s;refine aj (db ?_);refine aM ⟨plainId_quiet F.plain_list_iadd _,codeAny_builtin F.entry_list_iadd ?_⟩;rw[Around.under_plainId F.plain_list_iadd _];have h:∀b o,s.heap.get? b=some o->(s.heap.push { cls:=.type "list",data:=.seq ([]:g8).toArray }).get? b=some o:=λb o e=>au _ e;show wpAny (model P w) A.in1 (Builtin.List.listExtendWith (.ref s.heap.objs.size) (.ref I) (.ref s.heap.objs.size)) _ _ _;have p:(s.heap.push { cls:=.type "list",data:=.seq ([]:g8).toArray }).get? s.heap.objs.size=some { cls:=.type "list",data:=.seq #[] }:=bg _ rfl;refine IW (R:=wants _ _) (s:={ s with heap:=s.heap.push { cls:=.type "list",data:=.seq ([]:g8).toArray } }) m (I:=I) (l:=l) (its:=its) ⟨st.1,st.2.1.at λo e=>h _ o e,st.2.2.at λo e=>h _ o e⟩ ne r j t p λc a v d i k=>?_;show wpAny (model P w) A (load s.heap.objs.size>>=_) _ _ c;refine aj (wpAny_load i (aM (q c a d.os d.gens d.drawn (λb o n e=>d.heap b o (λz=>?_) (h b o e)) (ic (aI i)) k)));simp only[aG,dL,or_false]at z;rcases z with z|z
 .exact absurd (aI e) (by rw[z];exact dh _)
 .exact n z
end
theorem Kq{b a:g8}(h:ItemsOf (IA b.toArray) a.toArray b.toArray.size):a=b.reverse:=by
 obtain⟨e,d⟩:=h;simp only[be]at e;refine gU λj=>?_;by_cases c:j<a.length
 .have q:=d j a[j] (by simp[c]);unfold IA at q;rw[aB c,ee (by lia)];simp only[be,List.getElem?_toArray]at q;exact q.symm
 .rw[ce (by lia),ce (by rw[bA];lia)]
section
variable{X:Cx}{e:Expr}{d:TE}{f c pos b:Pos}
theorem OP{i:fz}{s:Shared}{n:St}{H:Hp}{R:List Value->Shared->Prop}(G:Gl X "reversed")(D:X.mg "reversed"=none)(z:PE X e d)(I:Inv X i n H s){o:V->Hp->Prop}(h:d n H o)(B:starEach [.Call (.Name "reversed" c) [e] [] b] X.env=[(false,eval (.Call (.Name "reversed" c) [e] [] b) X.env)])(r:starEach [e] X.env=[(false,eval e X.env)])(k:∀j l x a m (g:g8),Inv X i n l j->o x l->x=.ref a->ξ X.K l a m->Vals m g->Ev j.heap.objs.size a g.toArray 0 (j.heap.push (revObj a ((g.toArray.size:Int)-1)))->a≠j.heap.objs.size->g.toArray.size<=sizeLine->R [.ref j.heap.objs.size] { j with heap:=j.heap.push (revObj a ((g.toArray.size:Int)-1)) })(J:∀x l,o x l->∃a m,x=.ref a/\ξ X.K l a m):wpAny (model X.prog X.w) X.A (spliced (backTo pos (starEach [.Call (.Name "reversed" c) [e] [] b] X.env))) R X.xe s:=by
 rw[B];show wpAny _ _ (spliced ((false,eval (.Call (.Name "reversed" c) [e] [] b) X.env)::backTo pos [])) _ _ s;refine dZ ?_;refine Call_ (pB I G D boot_reversed (cF ?_ r rfl));rw[r];show wpAny _ _ (spliced ((false,eval e X.env)::backTo b [])) _ _ s;refine dZ (dP (z i s n H _ I h) λu j x l q E v=>fm ?_);obtain⟨a,m,F,t⟩:=J x l v;subst F;cases E;obtain⟨g,y,p,C⟩:=q.list t;have ne:a≠j.heap.objs.size:=aU p.lt;refine call_reversed_list p.isList (fm ?_);refine k j l _ a m g q v rfl t y ⟨bT _,⟨_,bg _ rfl,rfl,?_⟩,p.isList.push _⟩ ne (by rw[be,<-y.length];exact C);simp[revObj]
end
theorem kG{a b:Nat}(h:a<b\/b<a):a≠b:=by lia
theorem Pj(n a b:Nat)(d:a<n)(c:b<n):Zy (n+4) (n+2) (n+3) n (n+1) a b:=⟨kG (by lia),kG (by lia),kG (by lia),kG (by lia),kG (by lia),kG (by lia),kG (by lia),kG (by lia),kG (by lia),kG (by lia),⟨kG (by lia),kG (by lia),kG (by lia),kG (by lia)⟩,⟨kG (by lia),kG (by lia),kG (by lia),kG (by lia)⟩⟩
section
variable{X:Cx}
def Nw(K:fv)(c d:Bool)(f:TA):TI:=λi H R=>f i H λh e=>∃a b,h=[.ref a,.ref b]/\(∃g,ύ K c e a g)/\(∃j,ύ K d e b j)/\R (Itz K c d a b) e
theorem Lf{j:List Expr}{x1}{Ri:Pos}{ea eb:Expr}{ta:TA}{p pos:Pos}(c d:Bool)(hg:Gl X "zip")(hm:X.mg "zip"=none)(ha:PA X [ea,eb] ta)(hs:starEach [ea,eb] X.env=[(false,eval ea X.env),(false,eval eb X.env)]:=by rfl)(Ti:starEach [eb] X.env=[(false,eval eb X.env)]:=by rfl):PI X (.Tuple j x1 Ri) (.Call (.Name "zip" p) [ea,eb] [] pos) (Nw X.K c d ta):=by
 intro k s y H R I h;refine Call_ (pB I hg hm boot_zip (cF (sd (ha pos k s y H _ I h) λP f x z g r l=>?_) (by rw[hs,Ti]) (by rw[Ti];rfl)));obtain⟨a,b,e,⟨Q,E⟩,⟨W,G⟩,q⟩:=l;subst e;obtain⟨u,v,rfl,B,N⟩:=NK r;cases B;cases N;obtain⟨P,r,l⟩:=g.ϳ E;obtain⟨x,U,w⟩:=g.ϳ G;obtain⟨T,n⟩:=sD a c _ _ l;obtain⟨V,m⟩:=sD b d _ _ w;have L:=aI n;have O:=aI m;refine LO (jV a c) (jV b d) (sD b d) l w (λS t A J C M F=>?_) (yb a c) (yb b d);refine wpAny_pyIter_zip t ?_;have D:=Pj f.heap.objs.size a b L O;refine⟨_,[f.heap.objs.size+4,f.heap.objs.size+2,f.heap.objs.size+3,f.heap.objs.size,f.heap.objs.size+1],_,_,z,rfl,g.kept (t':=f.toks) F,Ms c d a b _ _ _ _ _ D,⟨t,A,⟨_,_,J⟩,C,M⟩,λq o=>?_,q⟩;have i:f.heap.objs.size<=q:=by
  simp only[aG,dL,or_false]at o;rcases o with rfl|rfl|rfl|rfl|rfl
  .exact i9 _ 4
  .exact i9 _ 2
  .exact i9 _ 3
  .exact aN _
  .exact i9 _ 1
 exact g.SY i (g.χ.fresh i)
end
end L2
namespace Pb
structure Road where
 a:Int
 b:Int
 t:Int
 u:Int
 deriving DecidableEq
abbrev hU:=List Road
def vz(m:Int)(c:hU):Prop:=∀S:Int->Prop,S 0->(∀r∈c,(S r.a↔S r.b))->∀v,0<=v->v<m->S v
structure Ϡ(m:Int)(r:Road):Prop where
 a0:0<=r.a
 a1:r.a<m
 b0:0<=r.b
 b1:r.b<m
 ne:r.a≠r.b
 t0:2<=r.t
 t1:r.t<=1000000
 u0:2<=r.u
 u1:r.u<=1000000
structure Good(m:Int)(rs:hU):Prop where
 m1:1<=m
 ω:m<=24
 len:(rs.length:Int)=m-1
 ok:∀r∈rs,Ϡ m r
 jn:vz m rs
theorem q8{a:Type}[DecidableEq a]:∀{l l':List a},l.Nodup->(∀x∈l,x∈l')->l.length<=l'.length
 | [],_,_,_=>bT _
 | x::r,l',hn,hs=>by
   obtain⟨f,d⟩:=bI.mp hn;have b:x∈l':=hs x aP;have:r.length<=(l'.erase x).length:=q8 d λy c=>(mE (λ(e:y=x)=>f (by rw[<-e];exact c))).mpr (hs y (aL _ c));rw[List.length_erase_of_mem b]at this;have g:0<l'.length:=List.length_pos_of_mem b;rw[aJ]
   lia
def cM(n:Nat):List Int:=(List.range n).map λ(k:Nat)=>(k:Int)
theorem iZ{n:Nat}{v:Int}:v∈cM n↔0<=v/\v<n:=by
 unfold cM;rw[aW]
 constructor
 .rintro⟨k,hk,rfl⟩;have:=eD.mp hk
  lia
 .rintro⟨h0,h1⟩;exact⟨v.toNat,eD.mpr (by lia),by lia⟩
theorem dq(n:Nat):(cM n).length=n:=by simp[cM]
theorem o7(n:Nat):(cM n).Nodup:=by
 unfold cM;refine List.Pairwise.map _ (λa b h=>?_) (List.nodup_range (n:=n));intro e;exact h (by lia)
theorem gY{m:Int}{l:dm}(c:0<=m)(b:l.Nodup)(h:∀x∈l,0<=x/\x<m):(l.length:Int)<=m:=by
 have:=q8 (l':=cM m.toNat) b λx a=>iZ.mpr ⟨(h x a).1,by have:=(h x a).2;lia⟩;rw[dq]at this
 lia
theorem Lx{m:Int}{l:dm}(c:0<=m)(h:∀v,0<=v->v<m->v∈l):m<=(l.length:Int):=by
 have:=q8 (l:=cM m.toNat) (l':=l) (o7 _) λx b=>by
  obtain⟨a,d⟩:=iZ.mp b;exact h x a (by lia)
 rw[dq]at this
 lia
def ua(p:Int)(r:Road):List Int:=(if r.a=p then[r.b]else[])++(if r.b=p then[r.a]else[])
def fX(a:hU)(p:Int):List Int:=a.flatMap (ua p)
theorem qI{d:hU}{p e:Int}:e∈fX d p↔∃r∈d,(r.a=p/\r.b=e)\/(r.b=p/\r.a=e):=by
 unfold fX ua;rw[gQ]
 constructor
 .rintro⟨r,hr,h⟩;refine⟨r,hr,?_⟩;rcases aK.mp h with h|h
  .by_cases c:r.a=p
   .rw[ao c]at h;exact .inl ⟨c,(ax.mp h).symm⟩
   .rw[ah c]at h;cases h
  .by_cases c:r.b=p
   .rw[ao c]at h;exact .inr ⟨c,(ax.mp h).symm⟩
   .rw[ah c]at h;cases h
 .rintro⟨r,hr,h⟩;refine⟨r,hr,aK.mpr ?_⟩;rcases h with⟨h1,h2⟩|⟨h1,h2⟩
  .exact .inl (by rw[ao h1,h2];exact ax.mpr rfl)
  .exact .inr (by rw[ao h1,h2];exact ax.mpr rfl)
theorem EA(e:hU)(p:Int):(fX e p).length<=2*e.length:=by
 unfold fX
 induction e with
 | nil=>simp
 | cons r e ih=>
   rw[dJ,ap,aJ];have:(ua p r).length<=2:=by
    unfold ua;rw[ap];by_cases c:r.a=p<;>by_cases d:r.b=p<;>simp[c,d]
   lia
theorem uA(a:hU)(r:Road)(p:Int):fX (a++[r]) p=fX a p++ua p r:=by
 unfold fX;rw[nS];simp
def Bq(c:List Int×List Int)(e:Int):List Int×List Int:=if e∈c.1 then c else(c.1++[e],c.2++[e])
structure Sv(m:Int)(rs:hU)(ks ws:dm):Prop where
 nd:ks.Nodup
 zero:0∈ks
 ϭ:∀k∈ks,0<=k/\k<m
 sub:∀w∈ws,w∈ks
 cl:∀k∈ks,k∉ws->∀e∈fX rs k,e∈ks
 wl:ws.length<=ks.length
theorem Cc{l:dm}{e:Int}(h:l.Nodup)(d:e∉l):(l++[e]).Nodup:=by
 rw[fP];refine⟨h,by simp,λa c b f=>?_⟩;rw[ax.mp f];exact λz=>d (z▸c)
structure R8(m:Int)(rs:hU)(p:Int)(es ks ws WT:dm)(n0:Nat):Prop where
 nd:ks.Nodup
 zero:0∈ks
 ϭ:∀k∈ks,0<=k/\k<m
 sub:∀w∈ws,w∈ks
 cl:∀k∈ks,k∉ws->k=p\/∀e∈fX rs k,e∈ks
 seen:∀e∈es,e∈ks
 pin:p∈ks
 mu:ks.length+n0=WT.length+ws.length
 up:WT.length<=ks.length
 wl:ws.length<=ks.length
theorem R8.start{m:Int}{d:hU}{b a:dm}{p:Int}(h:Sv m d b (a++[p])):R8 m d p [] b a b a.length where
 nd:=h.nd
 zero:=h.zero
 ϭ:=h.ϭ
 sub:=λw c=>h.sub w (bH _ c)
 cl:=λk hk c=>by
  by_cases e:k=p
  .exact .inl e
  .exact .inr (h.cl k hk λz=>by
    rcases aK.mp z with z|z
    .exact c z
    .exact e (ax.mp z))
 seen:=λe f=>by cases f
 pin:=h.sub p (aX _ (ax.mpr rfl))
 mu:=rfl
 up:=aN _
 wl:=by have:=h.wl;rw[ap]at this;simp at this;lia
theorem R8.step{m:Int}{n:hU}{p:Int}{j d f l:dm}{i:Nat}{e:Int}(h:R8 m n p j d f l i)(o:0<=e)(q:e<m):R8 m n p (j++[e]) (Bq (d,f) e).1 (Bq (d,f) e).2 l i:=by
 unfold Bq;by_cases c:e∈d
 .rw[ao c];refine⟨h.nd,h.zero,h.ϭ,h.sub,h.cl,λx a=>?_,h.pin,h.mu,h.up,h.wl⟩;rcases aK.mp a with z|z
  .exact h.seen x z
  .rw[ax.mp z];exact c
 .rw[ah c];dsimp only;refine⟨Cc h.nd c,bH _ h.zero,λk g=>?_,λw b=>?_,λk g b=>?_,λx a=>?_,bH _ h.pin,?_,by have:=h.up;simp;lia,by have:=h.wl;simp;exact this⟩
  .rcases aK.mp g with z|z
   .exact h.ϭ k z
   .rw[ax.mp z];exact⟨o,q⟩
  .rcases aK.mp b with z|z
   .exact bH _ (h.sub w z)
   .exact aX _ z
  .rcases aK.mp g with z|z
   .rcases h.cl k z λy=>b (bH _ y)with y|y
    .exact .inl y
    .exact .inr λx a=>bH _ (y x a)
   .exact absurd (aX _ z) b
  .rcases aK.mp a with z|z
   .exact bH _ (h.seen x z)
   .exact aX _ z
  .have:=h.mu;simp only[ap,aJ,dD]
   lia
theorem R8.done{m:Int}{a:hU}{p:Int}{c b d:dm}{f:Nat}(h:R8 m a p (fX a p) c b d f):Sv m a c b where
 nd:=h.nd
 zero:=h.zero
 ϭ:=h.ϭ
 sub:=h.sub
 cl:=λk hk e=>by
  rcases h.cl k hk e with z|z
  .rw[z];exact h.seen
  .exact z
 wl:=h.wl
theorem Sv.start{m:Int}{b:hU}(c:1<=m):Sv m b [0] [0] where
 nd:=by simp
 zero:=by simp
 ϭ:=λk hk=>by rw[ax.mp hk];lia
 sub:=λw a=>a
 cl:=λk hk a=>absurd hk a
 wl:=by simp
theorem Sv.all{m:Int}{e:hU}{c:dm}(h:Sv m e c [])(f:1<=m)(j:vz m e):(c.length:Int)=m:=by
 have up:=gY (by lia) h.nd h.ϭ;have:∀v,0<=v->v<m->v∈c:=j (λv=>v∈c) h.zero λr d=>by
  constructor
  .intro ha;exact h.cl r.a ha (by simp) r.b (qI.mpr ⟨r,d,.inl ⟨rfl,rfl⟩⟩)
  .intro hb;exact h.cl r.b hb (by simp) r.a (qI.mpr ⟨r,d,.inr ⟨rfl,rfl⟩⟩)
 have:=Lx (by lia) this
 lia
theorem Ni{m:Int}{a:hU}(h:∀r∈a,Ϡ m r){p e:Int}(b:e∈fX a p):0<=e/\e<m:=by
 obtain⟨r,c,z⟩:=qI.mp b;have k:=h r c;rcases z with⟨_,rfl⟩|⟨_,rfl⟩
 .exact⟨k.b0,k.b1⟩
 .exact⟨k.a0,k.a1⟩
structure Row where
 k:Int
 un:Int
 t:Int
 u:Int
 sw:Int
 sp:Int
structure VU(r:Row):Prop where
 u0:0<=r.un
 u1:r.un<r.k
 t0:2<=r.t
 t1:r.t<=1000000
 v0:2<=r.u
 v1:r.u<=1000000
 s0:0<=r.sp
 s1:r.sp<r.k
structure Rows(n:Nat)(rows:List Row):Prop where
 len:rows.length=n
 ok:∀(i:Nat)(r:Row),rows[i]?=some r->r.k=(i:Int)+1/\VU r
structure Rv(n:Nat)(ls:dm):Prop where
 len:ls.length=n
 nd:ls.Nodup
 all:∀v:Int,0<=v->v<n->v∈ls
 ϭ:∀v∈ls,0<=v/\v<n
theorem Bc{a:Type}{l:List a}{k:Nat}{x y:a}:y∈l.take k++x::l.drop k↔y=x\/y∈l:=by
 rw[aK,aG]
 constructor
 .rintro(h|h|h)
  .exact .inr (dB h)
  .exact .inl h
  .exact .inr (cJ h)
 .rintro(h|h)
  .exact .inr (.inl h)
  .rw[<-fL k l]at h;rcases aK.mp h with z|z
   .exact .inl z
   .exact .inr (.inr z)
def qi(a:dm)(r:Row):Road:=if r.sw=1 then⟨a.getD r.un.toNat 0,a.getD r.k.toNat 0,r.t,r.u⟩else⟨a.getD r.k.toNat 0,a.getD r.un.toNat 0,r.t,r.u⟩
structure VW(ls:dm)(rows:List Row)(rs:hU):Prop where
 len:rs.length=rows.length
 of:∀r∈rs,∃w∈rows,r=qi ls w
 to:∀w∈rows,qi ls w∈rs
theorem VW.nil(a:dm):VW a [] []:=⟨rfl,λr h=>(by cases h),λr h=>(by cases h)⟩
theorem VW.step{ls:dm}{a:List Row}{c:hU}(h:VW ls a c)(w:Row)(k:Nat):VW ls (a++[w]) (c.take k++qi ls w::c.drop k) where
 len:=by
  rw[ap,aJ,aZ,bZ,ap,h.len];simp
  lia
 of:=λr f=>by
  rcases Bc.mp f with z|z
  .exact⟨w,by simp,z⟩
  .obtain⟨b,d,e⟩:=h.of r z;exact⟨b,bH _ d,e⟩
 to:=λb d=>by
  rw[Bc];rcases aK.mp d with z|z
  .exact .inr (h.to b z)
  .exact .inl (by rw[ax.mp z])
theorem yX{a:dm}{n:Nat}(h:Rv n a){i:Nat}(b:i<n):a[i]?=some (a.getD i 0):=by
 have:i<a.length:=by rw[h.len];exact b
 simp[List.getD,aB this]
theorem EG{a:dm}{n:Nat}(h:Rv n a){i:Nat}(b:i<n):a.getD i 0∈a:=aO (yX h b)
theorem Mj{a:dm}{n:Nat}(h:Rv n a){i j:Nat}(l:i<n)(k:j<n)(e:a.getD i 0=a.getD j 0):i=j:=by
 have b:i<a.length:=by rw[h.len];exact l
 have c:j<a.length:=by rw[h.len];exact k
 have d:=yX h l;have f:=yX h k;rw[e]at d;have g:a[i]'b=a[j]'c:=by
  rw[aB b]at d;rw[aB c]at f;exact bC (d.trans f.symm)
 have nd:=eU.mp h.nd;rcases Nat.lt_trichotomy i j with z|z|z
 .exact absurd g (nd i j b c z)
 .exact z
 .exact absurd g.symm (nd j i c b z)
theorem OS{n:Nat}{ls:dm}{a:List Row}{q:hU}(o:1<=n)(B:n<=24)(L:Rv n ls)(W:Rows (n-1) a)(P:VW ls a q):Good n q where
 m1:=by lia
 ω:=by lia
 len:=by rw[P.len,W.len];lia
 ok:=λr b=>by
  obtain⟨w,x,rfl⟩:=P.of r b;obtain⟨i,hi⟩:=cq x;obtain⟨t,ok⟩:=W.ok i w hi;have d:i<a.length:=(ay.mp hi).1;rw[W.len]at d;have hk:w.k.toNat<n:=by lia
  have g:w.un.toNat<n:=by have:=ok.u0;have:=ok.u1;lia
  have l:=L.ϭ _ (EG L hk);have h:=L.ϭ _ (EG L g);have ne:ls.getD w.k.toNat 0≠ls.getD w.un.toNat 0:=λe=>by
   have:=Mj L hk g e;have:=ok.u0;have:=ok.u1
   lia
  unfold qi;by_cases c:w.sw=1
  .rw[ao c];exact⟨h.1,h.2,l.1,l.2,ne.symm,ok.t0,ok.t1,ok.v0,ok.v1⟩
  .rw[ah c];exact⟨l.1,l.2,h.1,h.2,ne,ok.t0,ok.t1,ok.v0,ok.v1⟩
 jn:=by
  intro S s0 s;have f:∀i:Nat,i<n->(S (ls.getD i 0)↔S (ls.getD 0 0)):=by
   intro i
   induction i using Nat.strongRecOn with
   | ind i ih=>
     intro hi;by_cases z:i=0
     .rw[z]
     .have d:i-1<a.length:=(by rw[W.len];lia);obtain⟨t,ok⟩:=W.ok (i-1) a[i-1] (aB d);have y:=P.to a[i-1] (fk d);have b:=s _ y;have hk:(a[i-1]).k.toNat=i:=(by lia);have g:(a[i-1]).un.toNat<i:=(by have:=ok.u0;have:=ok.u1;lia);have p:=ih _ g (by lia);unfold qi at b;rw[hk]at b;by_cases c:(a[i-1]).sw=1
      .rw[ao c]at b;exact b.symm.trans p
      .rw[ah c]at b;exact b.trans p
  have at_:∀v,0<=v->v<(n:Int)->∃i,i<n/\ls.getD i 0=v:=λv m o=>by
   obtain⟨i,hi⟩:=cq (L.all v m o);have d:i<n:=(by have:=(ay.mp hi).1;rw[L.len]at this;exact this);refine⟨i,d,?_⟩;have:=yX L d;rw[hi]at this;exact(bC this).symm
  intro v m u;obtain⟨i,hi,rfl⟩:=at_ v m u;obtain⟨j,A,C⟩:=at_ 0 (by lia) (by lia);refine(f i hi).mpr ((f j A).mp ?_);rw[C];exact s0
def Ta(c:hU)(a b:Int):Prop:=∃x∈c,(x.a=a/\x.b=b)\/(x.b=a/\x.a=b)
theorem Ta.symm{d:hU}{a b:Int}(h:Ta d a b):Ta d b a:=by
 obtain⟨x,c,h⟩:=h;rcases h with⟨h1,h2⟩|⟨h1,h2⟩
 .exact⟨x,c,.inr ⟨h2,h1⟩⟩
 .exact⟨x,c,.inl ⟨h2,h1⟩⟩
theorem Ff{c:hU}{a b:Int}:b∈fX c a↔Ta c a b:=qI
theorem Good.Vs{m:Int}{c:hU}(g:Good m c){a b:Int}(h:Ta c a b):(0<=a/\a<m)/\(0<=b/\b<m)/\a≠b:=by
 obtain⟨x,d,h⟩:=h;have k:=g.ok x d;rcases h with⟨h1,h2⟩|⟨h1,h2⟩
 .subst h1 h2;exact⟨⟨k.a0,k.a1⟩,⟨k.b0,k.b1⟩,k.ne⟩
 .subst h1 h2;exact⟨⟨k.b0,k.b1⟩,⟨k.a0,k.a1⟩,k.ne.symm⟩
theorem Good.from{m:Int}{d:hU}(g:Good m d){r:Int}(e:0<=r)(k:r<m)(S:Int->Prop)(i:S r)(j:∀x∈d,(S x.a↔S x.b)):∀v,0<=v->v<m->S v:=by
 have c:∀v,0<=v->v<m->(S v↔S 0):=g.jn (λv=>S v↔S 0) Iff.rfl λx f=>by
  have:=j x f;exact⟨λh=>this.symm.trans h,λh=>this.trans h⟩
 intro v a b;exact(c v a b).mpr ((c r e k).mp i)
inductive Rx(rs:hU)(r:Int):Nat->Int->Prop
 | zero:Rx rs r 0 r
 | step {n:Nat} {u v:Int}:Rx rs r n u->Ta rs u v->Rx rs r (n+1) v
theorem Qh{P:Nat->Prop}:∀n,P n->∃k,P k/\∀j,j<k->¬P j:=by
 intro n
 induction n using Nat.strongRecOn with
 | ind n ih=>
   intro h;by_cases z:∃j,j<n/\P j
   .obtain⟨j,b,a⟩:=z;exact ih j b a
   .exact⟨n,h,λj b a=>z ⟨j,b,a⟩⟩
structure ζ(m:Int)(rs:hU)(r:Int)(par:dt)(dep:ew):Prop where
 root:dep r=0
 up:∀v,0<=v->v<m->v≠r->(0<=par v/\par v<m)/\Ta rs v (par v)/\dep (par v)+1=dep v
 road:∀x∈rs,(x.a≠r/\par x.a=x.b)\/(x.b≠r/\par x.b=x.a)
 one:(rs.map λx=>if x.a≠r/\par x.a=x.b then x.a else x.b).Nodup
theorem Od{n:Nat}{l:List Nat}(b:l.Nodup)(d:l.length=n)(a:∀x∈l,x<n):∀i,i<n->i∈l:=by
 intro i c;by_cases z:i∈l
 .exact z
 .have:=q8 (l:=i::l) (l':=List.range n) (bI.mpr ⟨z,b⟩) λx hx=>by
   rcases aG.mp hx with rfl|hx
   .exact eD.mpr c
   .exact eD.mpr (a x hx)
  rw[aJ,ku]at this
  lia
theorem vE{m:Int}{s:hU}(g:Good m s){r:Int}(V:0<=r)(h1:r<m):∃f o,ζ m s r f o:=by
 classical
 have D:∀v,0<=v->v<m->∃n,Rx s r n v:=g.from V h1 (λv=>∃n,Rx s r n v) ⟨0,.zero⟩ λx hx=>by
  constructor
  .rintro⟨n,d⟩;exact⟨n+1,d.step ⟨x,hx,.inl ⟨rfl,rfl⟩⟩⟩
  .rintro⟨n,d⟩;exact⟨n+1,d.step ⟨x,hx,.inr ⟨rfl,rfl⟩⟩⟩
 have hd:∀v,∃k,(0<=v/\v<m)->Rx s r k v/\∀j,j<k->¬Rx s r j v:=λv=>by
  by_cases z:0<=v/\v<m
  .obtain⟨n,d⟩:=D v z.1 z.2;obtain⟨k,h⟩:=Qh (P:=λk=>Rx s r k v) n d;exact⟨k,λ_=>h⟩
  .exact⟨0,λh=>absurd h z⟩
 obtain⟨o,U⟩:∃o:Int->Nat,∀v,0<=v->v<m->Rx s r (o v) v/\∀j,j<o v->¬Rx s r j v:=⟨λv=>(hd v).choose,λv a b=>(hd v).choose_spec ⟨a,b⟩⟩;have dr:o r=0:=by
  have:=(U r V h1).2 0;by_cases z:o r=0
  .exact z
  .exact absurd Rx.zero (this (by lia))
 have hp:∀v,∃u,(0<=v/\v<m/\v≠r)->Ta s v u/\o u+1=o v:=λv=>by
  by_cases z:0<=v/\v<m/\v≠r
  .obtain⟨a,b,c⟩:=z;obtain⟨d,Z⟩:=U v a b;generalize hk:o v=k at d Z;cases d with
   | zero=>exact absurd rfl c
   | @step n u _ d e=>
     refine⟨u,λ_=>⟨e.symm,?_⟩⟩;obtain⟨⟨u0,u1⟩,_⟩:=g.Vs e;have l1:o u<=n:=by
      by_cases w:o u<=n
      .exact w
      .exact absurd d ((U u u0 u1).2 n (by lia))
     have l2:¬o u<n:=λw=>Z (o u+1) (by lia) ((U u u0 u1).1.step e)
     lia
  .exact⟨0,λh=>absurd h z⟩
 obtain⟨f,H⟩:∃f:Int->Int,∀v,0<=v->v<m->v≠r->Ta s v (f v)/\o (f v)+1=o v:=⟨λv=>(hp v).choose,λv a b c=>(hp v).choose_spec ⟨a,b,c⟩⟩;have hi:∀v,∃i:Nat,(0<=v/\v<m/\v≠r)->∃x,s[i]?=some x/\((x.a=v/\x.b=f v)\/(x.b=v/\x.a=f v)):=λv=>by
  by_cases z:0<=v/\v<m/\v≠r
  .obtain⟨x,hx,h⟩:=(H v z.1 z.2.1 z.2.2).1;obtain⟨i,e⟩:=cq hx;exact⟨i,λ_=>⟨x,e,h⟩⟩
  .exact⟨0,λh=>absurd h z⟩
 obtain⟨t,R⟩:∃t:Int->Nat,∀v,0<=v->v<m->v≠r->∃x,s[t v]?=some x/\((x.a=v/\x.b=f v)\/(x.b=v/\x.a=f v)):=⟨λv=>(hi v).choose,λv a b c=>(hi v).choose_spec ⟨a,b,c⟩⟩;have W:∀v u,0<=v->v<m->v≠r->0<=u->u<m->u≠r->t v=t u->v=u:=by
  intro v u a b c G K J e;obtain⟨x,hx,h⟩:=R v a b c;obtain⟨y,O,h'⟩:=R u G K J;rw[e,O]at hx;cases hx;have N:=(H v a b c).2;have Q:=(H u G K J).2;rcases h with⟨p,q⟩|⟨p,q⟩<;>rcases h' with⟨p',q'⟩|⟨p',q'⟩
  .exact p.symm.trans p'
  .exfalso
   have E:v=f u:=p.symm.trans q';have I:u=f v:=p'.symm.trans q;rw[<-E]at Q;rw[<-I]at N
   lia
  .exfalso
   have E:v=f u:=p.symm.trans q';have I:u=f v:=p'.symm.trans q;rw[<-E]at Q;rw[<-I]at N
   lia
  .exact p.symm.trans p'
 let A:List Int:=(cM m.toNat).filter λv=>decide (v≠r)
 have F:∀v,v∈A↔(0<=v/\v<m/\v≠r):=λv=>by
  rw[ci,iZ,b8]
  constructor
  .rintro⟨⟨a,b⟩,c⟩;exact⟨a,by lia,c⟩
  .rintro⟨a,b,c⟩;exact⟨⟨a,by lia⟩,c⟩
 have nv:A.Nodup:=(o7 _).filter _;have lv:A.length=s.length:=by
  have E:(r::A).length<=(cM m.toNat).length:=q8 (bI.mpr ⟨λh=>((F r).mp h).2.2 rfl,nv⟩) λx hx=>by
   rcases aG.mp hx with rfl|hx
   .exact iZ.mpr ⟨V,by lia⟩
   .have:=(F x).mp hx;exact iZ.mpr ⟨this.1,by lia⟩
  have I:(cM m.toNat).length<=(r::A).length:=q8 (o7 _) λx hx=>by
   have:=iZ.mp hx;by_cases z:x=r
   .rw[z];exact aP
   .exact aL _ ((F x).mpr ⟨this.1,by lia,z⟩)
  rw[dq,aJ]at E I;have:=g.len;have:=g.m1
  lia
 have il:(A.map t).Nodup:=by
  have:∀(l:dm),l.Nodup->(∀v∈l,0<=v/\v<m/\v≠r)->(l.map t).Nodup:=by
   intro l
   induction l with
   | nil=>intro _ _;simp
   | cons v l ih=>
     intro hn Y;obtain⟨n1,n2⟩:=bI.mp hn;rw[bh];refine bI.mpr ⟨λz=>?_,ih n2 λu S=>Y u (aL _ S)⟩;obtain⟨u,S,e⟩:=aW.mp z;obtain⟨a,b,c⟩:=Y v aP;obtain⟨G,K,J⟩:=Y u (aL _ S);exact n1 (W u v G K J a b c e▸S)
  exact this A nv λv C=>(F v).mp C
 have ib:∀i∈A.map t,i<s.length:=λi T=>by
  obtain⟨v,C,rfl⟩:=aW.mp T;obtain⟨a,b,c⟩:=(F v).mp C;obtain⟨x,hx,_⟩:=R v a b c;exact(ay.mp hx).1
 have X:=Od il (by rw[ag,lv]) ib;have B:∀i x,s[i]?=some x->∃v,(0<=v/\v<m/\v≠r)/\t v=i/\((x.a=v/\x.b=f v)\/(x.b=v/\x.a=f v)):=λi x e=>by
  obtain⟨v,C,rfl⟩:=aW.mp (X i (ay.mp e).1);obtain⟨a,b,c⟩:=(F v).mp C;obtain⟨y,O,h⟩:=R v a b c;rw[e]at O;cases O;exact⟨v,⟨a,b,c⟩,rfl,h⟩
 have WU:∀v,0<=v->v<m->v≠r->f v≠r->f (f v)≠v:=λv a b c J z=>by
  have N:=H v a b c;obtain⟨_,⟨G,K⟩,_⟩:=g.Vs N.1;have Q:=H (f v) G K J;rw[z]at Q
  lia
 have L:∀i x,s[i]?=some x->∃v,(0<=v/\v<m/\v≠r)/\t v=i/\(if x.a≠r/\f x.a=x.b then x.a else x.b)=v:=λi x e=>by
  obtain⟨v,⟨a,b,c⟩,C,h⟩:=B i x e;refine⟨v,⟨a,b,c⟩,C,?_⟩;rcases h with⟨p,q⟩|⟨p,q⟩
  .rw[ao ⟨by rw[p];exact c,by rw[p];exact q.symm⟩];exact p
  .rw[ah]
   .exact p
   .rintro⟨z1,z2⟩;rw[q]at z1 z2;exact WU v a b c z1 (z2.trans p)
 refine⟨f,o,dr,λv a b c=>?_,λx hx=>?_,?_⟩
 .obtain⟨p,q⟩:=H v a b c;obtain⟨_,w,_⟩:=g.Vs p;exact⟨w,p,q⟩
 .obtain⟨i,e⟩:=cq hx;obtain⟨v,⟨a,b,c⟩,_,h⟩:=B i x e;rcases h with⟨p,q⟩|⟨p,q⟩
  .exact .inl ⟨by rw[p];exact c,by rw[p];exact q.symm⟩
  .exact .inr ⟨by rw[p];exact c,by rw[p];exact q.symm⟩
 .refine eU.mpr λi j T M lt=>?_;rw[ag]at T M;rw[i7,i7];intro z;obtain⟨v,_,E,k1⟩:=L i s[i] (aB T);obtain⟨u,_,I,k2⟩:=L j s[j] (aB M);rw[k1,k2]at z;rw[z]at E
  lia
theorem IX{m:Int}{n:hU}(g:Good m n){p:Int}(u:0<=p)(B:p<m):(fX n p).Nodup:=by
 obtain⟨f,C,R⟩:=vE g u B;have one:=R.one;have ok:=g.ok;have road:=R.road;clear R g
 induction n with
 | nil=>simp[fX]
 | cons x l ih=>
   have o:=ok x aP;have s:∀y∈l,Ϡ m y:=λy hy=>ok y (aL _ hy);rw[bh]at one;obtain⟨t,v⟩:=bI.mp one;have k:=ih v s λy hy=>road y (aL _ hy);have e:fX (x::l) p=ua p x++fX l p:=by unfold fX;rw[dJ]
   rw[e];have j:∀y,Ϡ m y->((y.a≠p/\f y.a=y.b)\/(y.b≠p/\f y.b=y.a))->(y.a=p->(if y.a≠p/\f y.a=y.b then y.a else y.b)=y.b)/\(y.b=p->(if y.a≠p/\f y.a=y.b then y.a else y.b)=y.a):=λy D hy=>by
    constructor
    .intro z;rw[ah (λw=>w.1 z)]
    .intro z;rcases hy with hy|hy
     .rw[ao hy]
     .exact absurd z hy.1
   have q:=j x o (road x aP);have i:∀e∈fX l p,e∈l.map λy=>if y.a≠p/\f y.a=y.b then y.a else y.b:=λe A=>by
    obtain⟨y,hy,h⟩:=qI.mp A;have r:=j y (s y hy) (road y (aL _ hy));refine aW.mpr ⟨y,hy,?_⟩;rcases h with⟨p1,q1⟩|⟨p1,q1⟩
    .rw[r.1 p1];exact q1
    .rw[r.2 p1];exact q1
   unfold ua;by_cases c:x.a=p
   .have d:¬x.b=p:=λz=>o.ne (c.trans z.symm);rw[ao c,ah d,bR];refine bI.mpr ⟨λz=>t ?_,k⟩;rw[q.1 c];exact i _ z
   .rw[ah c,jk];by_cases d:x.b=p
    .rw[ao d];refine bI.mpr ⟨λz=>t ?_,k⟩;rw[q.2 d];exact i _ z
    .rw[ah d];exact k
def jN(m:Int)(a:hU)(p:Int):List Int:=(cM m.toNat).filter λq=>decide (q∈fX a p)
theorem DN:∀{l c:dm},l.Perm c->l.Pairwise (·<=·)->c.Pairwise (·<=·)->l=c
 | [],c,p,_,_=>(List.Perm.nil_eq p)
 | a::l,c,p,h,h'=>by
   cases c with
   | nil=>exact absurd p.symm.nil_eq (by simp)
   | cons b r=>
     obtain⟨k,j⟩:=List.pairwise_cons.mp h;obtain⟨g,d⟩:=List.pairwise_cons.mp h';have e:a=b:=by
      have i:a∈b::r:=p.subset aP;have f:b∈a::l:=p.symm.subset aP;rcases aG.mp i with z|z
      .exact z
      .rcases aG.mp f with w|w
       .exact w.symm
       .have:=k b w;have:=g a z
        lia
     subst e;rw[DN (List.Perm.cons_inv p) j d]
theorem Gc(n:Nat):(cM n).Pairwise (·<=·):=by
 unfold cM;refine List.Pairwise.map _ (λa b (h:a<b)=>?_) List.pairwise_lt_range
 lia
theorem G1(m:Int)(a:hU)(p:Int):(jN m a p).Pairwise (·<=·):=(Gc _).filter _
theorem BG(m:Int)(a:hU)(p:Int):(jN m a p).Nodup:=(o7 _).filter _
theorem zN{m:Int}{c:hU}(g:Good m c){p q:Int}:q∈jN m c p↔Ta c p q:=by
 unfold jN;rw[ci,b8,Ff,iZ]
 constructor
 .exact λh=>h.2
 .intro h;obtain⟨_,⟨a,b⟩,_⟩:=g.Vs h;exact⟨⟨a,by lia⟩,h⟩
theorem sj:∀{l c:dm},l.Nodup->c.Nodup->(∀x,x∈l↔x∈c)->l.Perm c
 | [],c,_,_,h=>by
   cases c with
   | nil=>exact .nil
   | cons b r=>exact absurd ((h b).mpr aP) (by simp)
 | a::l,c,n,n',h=>by
   obtain⟨f,e⟩:=bI.mp n;have d:a∈c:=(h a).mp aP;refine List.Perm.trans (List.Perm.cons a ?_) (List.perm_cons_erase d).symm;refine sj e (n'.erase a) λx=>?_
   constructor
   .intro hx;have ne:x≠a:=λz=>f (z▸hx);exact(mE ne).mpr ((h x).mp (aL _ hx))
   .intro hx;have:x≠a:=λz=>by
     subst z;exact(List.Nodup.not_mem_erase n') hx
    rcases aG.mp ((h x).mpr (List.mem_of_mem_erase hx))with z|z
    .exact absurd z this
    .exact z
theorem OE{m:Int}{a:hU}(g:Good m a){p:Int}(e:0<=p)(f:p<m){b:dm}(c:b.Perm (fX a p))(d:b.Pairwise (·<=·)):b=jN m a p:=by
 refine DN (c.trans (sj (IX g e f) (BG m a p) λx=>?_)) d (G1 m a p);rw[zN g,Ff]
def mI(a b:Int)(x:Road):Option Int:=if x.a=a/\x.b=b then some x.t else if x.a=b/\x.b=a then some x.u else none
def fg(c:hU)(a b:Int):Option Int:=c.findSome? (mI a b)
def wt(x:Road)(a b:Int):Prop:=(x.a=a/\x.b=b)\/(x.b=a/\x.a=b)
theorem K6{m:Int}{d:hU}(g:Good m d){a b:Int}{i j:Nat}{x y:Road}(o:d[i]?=some x)(u:d[j]?=some y)(n:wt x a b)(B:wt y a b):i=j:=by
 obtain⟨⟨A,t⟩,_,_⟩:=g.Vs (show Ta d a b from⟨x,aO o,n⟩);obtain⟨c,D,R⟩:=vE g A t;have e:∀z∈d,wt z a b->(if z.a≠a/\c z.a=z.b then z.a else z.b)=b:=λz E C=>by
  rcases C with⟨p,q⟩|⟨p,q⟩
  .rw[ah (λw=>w.1 p)];exact q
  .rcases R.road z E with w|w
   .rw[ao w];exact q
   .exact absurd p w.1
 have h:=(ay.mp o);have f:=(ay.mp u);obtain⟨h,s⟩:=h;obtain⟨f,v⟩:=f;have k:=eU.mp R.one;have r:(d.map λz=>if z.a≠a/\c z.a=z.b then z.a else z.b)[i]'(by rw[ag];exact h)=b:=by
  rw[i7];exact e _ (fk h) (s▸n)
 have l:(d.map λz=>if z.a≠a/\c z.a=z.b then z.a else z.b)[j]'(by rw[ag];exact f)=b:=by
  rw[i7];exact e _ (fk f) (v▸B)
 rcases Nat.lt_trichotomy i j with z|z|z
 .exact absurd (r.trans l.symm) (k i j _ _ z)
 .exact z
 .exact absurd (l.trans r.symm) (k j i _ _ z)
theorem Jg{a b:Int}{x:Road}(h:¬wt x a b):mI a b x=none:=by
 unfold mI;rw[ah (λz=>h (.inl z)),ah (λz=>h (.inr ⟨z.2,z.1⟩))]
theorem xq{m:Int}{d:hU}(g:Good m d){a b:Int}{i:Nat}{x:Road}(l:d[i]?=some x)(j:wt x a b):fg d a b=mI a b x:=by
 have lt:=(ay.mp l);obtain⟨lt,r⟩:=lt;have e:d=d.take i++x::d.drop (i+1):=by rw[<-r,lN,fL]
 have f:fg (d.take i) a b=none:=by
  unfold fg;rw[List.findSome?_eq_none_iff];intro y o;refine Jg λq=>?_;obtain⟨k,h⟩:=cq o;have s:=(ay.mp h).1;rw[aZ]at s;rw[iK (by lia)]at h;have:=K6 g h l q j
  lia
 have n:(mI a b x).isSome=true:=by
  unfold mI;rcases j with z|z
  .rw[ao z];rfl
  .by_cases c:x.a=a/\x.b=b
   .rw[ao c];rfl
   .rw[ah c,ao ⟨z.2,z.1⟩];rfl
 obtain⟨v,p⟩:=gm.mp n;have:fg (d.take i++x::d.drop (i+1)) a b=mI a b x:=by
  unfold fg at f ⊢;rw[jv,f,j6,p]
  rfl
 rw[<-e]at this;exact this
end Pb
namespace L2
open PySem PySem.Spec PyProof.Rows
def bO(b:Bv):Prop:=∀a H s e c,¬b a H s E0 e c
theorem gF{a:Bv}(q:bO a){X:Cx}:pf a X E0:=λ_ _ _ _ _ _ _ h=>(q _ _ _ _ _ h).elim
structure Df(K:fv)(mg:hL)(x:Str)(st:Stmt)(ps:hO)(f:Addr)(fd:FuncData):Prop where
 F:U0 K x x st f fd
 m:mg x=some (.ref f)
 b:Binds K fd ps []
section
variable{P:Program}{w:World}{K:fv}{c:hL}{a:Heap}{b:Bv}
theorem U0.Ϙ{x e:Str}{st:Stmt}{f:Addr}{n:FuncData}{N j:hO}{k:Nat}{m:Sp}(F:U0 K x e st f n)(S:ε N j (aF st))(l:∀g H Q E,m g H Q E->g.length=j.length)(r:∀(i:Value) (A:Around) (d:List Env) (s:Shared) (H:Hp) (g:List V) (Q:VK) (E:XK),Ρ k (A.deeper (envOfC e (aF st) s.heap.objs.size f i))->m g H Q E->∃t,Sl (qj b P w K c a N e (aF st) f i A d s H E).Ua (jh st) t/\t { nx:=λ_ y=>Q .τ y,rt:=Q } (start N g) H):ϋ P w K c a b (k+1) f n j m:=by
 obtain⟨I,J,kV,v,B,C,i,G,D,rfl,z,p⟩:=F.ex;refine NF z p S l λA d s H g Q E u o=>?_;obtain⟨t,h,q⟩:=r i A d s H g Q E u o;exact⟨t,h.Ua,q⟩
end
structure Sw(sc:Scope)(x:Str):Prop where
 l:sc.names.lookup x=some .local
 d:(x==("__debug__":Str))=false
 c:(x==("__classdict__":Str))=false
structure Uu(sc:Scope)(x:Str):Prop where
 l:sc.names.lookup x=some .cell
 d:(x==("__debug__":Str))=false
 c:(x==("__classdict__":Str))=false
structure Υ(sc:Scope)(x:Str):Prop where
 g:sc.names.lookup x=some .globalImplicit
 d:(x==("__debug__":Str))=false
 n:x≠"__name__"
theorem Ys{a:g8}(h:a.length=1):∃b,a=[b]:=List.length_eq_one_iff.mp h
theorem ZG{c:g8}(h:c.length=2):∃b a,c=[b,a]:=by
 cases c with
 | nil=>cases h
 | cons b t=>
   obtain⟨a,e⟩:=Ys (nG h);subst e;exact⟨b,a,rfl⟩
theorem ZH{d:g8}(h:d.length=3):∃c b a,d=[c,b,a]:=by
 cases d with
 | nil=>cases h
 | cons c t=>
   obtain⟨b,a,e⟩:=ZG (nG h);subst e;exact⟨c,b,a,rfl⟩
theorem us4{f:g8}(h:f.length=4):∃d b a c,f=[d,b,a,c]:=by
 cases f with
 | nil=>cases h
 | cons d t=>
   obtain⟨b,a,c,e⟩:=ZH (nG h);subst e;exact⟨d,b,a,c,rfl⟩
def nmL(a:Scope)(x:Str):Bool:=decide (a.names.lookup x=some .local)&&!(x==("__debug__":Str))&&!(x==("__classdict__":Str))
def nmC(a:Scope)(x:Str):Bool:=decide (a.names.lookup x=some .cell)&&!(x==("__debug__":Str))&&!(x==("__classdict__":Str))
def nmG(a:Scope)(x:Str):Bool:=decide (a.names.lookup x=some .globalImplicit)&&!(x==("__debug__":Str))&&!decide (x="__name__")
theorem Sw.of{a:Scope}{x:Str}(h:nmL a x=true):Sw a x:=by
 unfold nmL at h;simp only[bw,b8,gV]at h;exact⟨h.1.1,h.1.2,h.2⟩
theorem Uu.of{a:Scope}{x:Str}(h:nmC a x=true):Uu a x:=by
 unfold nmC at h;simp only[bw,b8,gV]at h;exact⟨h.1.1,h.1.2,h.2⟩
theorem Υ.of{a:Scope}{x:Str}(h:nmG a x=true):Υ a x:=by
 unfold nmG at h;simp only[bw,b8,gV,eg]at h;exact⟨h.1.1,h.1.2,h.2⟩
def P2(N b:hO)(a:Scope):Bool:=decide (a.kind=.function)&&!a.isCoroutine&&!a.isGenerator&&decide N.Nodup&&decide (N.take b.length=b)&&(b.all λx=>decide (a.names.lookup x=some .local\/a.names.lookup x=some .cell))&&(a.names.all λy=>decide (y.2≠.free))
theorem ε.of{N a:hO}{b:Scope}(h:P2 N a b=true:=by kernel_rfl):ε N a b:=by
 unfold P2 at h;simp only[bw,b8,gV,cw]at h;obtain⟨⟨⟨⟨⟨⟨j,d⟩,f⟩,g⟩,e⟩,i⟩,c⟩:=h;exact⟨j,d,f,g,e,i,c⟩
theorem pvl{X:Cx}(i:Nat){x:Str}{a:Pos}(n:Sw X.env.scope x)(b:X.N[i]?=some x:=by rfl):PE X (.Name x a) (xp i):=Gp b (.inl n.l) n.d n.c
theorem pvc{X:Cx}(i:Nat){x:Str}{a:Pos}(n:Uu X.env.scope x)(b:X.N[i]?=some x:=by rfl):PE X (.Name x a) (xp i):=Gp b (.inr (.inl n.l)) n.d n.c
theorem Ki{e:Bv}{P:Program}{w:World}{K:fv}{g:hL}{d:Heap}{N:hO}{c:Str}{b:Scope}{f:Addr}{cd:Value}{A:Around}{a:List Env}{s:Shared}{H:Hp}{E:XK}:(qj e P w K g d N c b f cd A a s H E).K=K:=rfl
theorem DT(D:Ends)(a:St)(H:Hp):Uk D a H=False:=rfl
theorem NM(i j:Int):uP (.int i) (.int j)=true:=rfl
theorem Oa(i j:Bool):uP (.bl i) (.bl j)=true:=rfl
theorem O5(i:Int):uP (.int i) .τ=true:=rfl
theorem O6(i:Int):uP .τ (.int i)=true:=rfl
theorem OZ:uP .τ .τ=true:=rfl
theorem Oc(i j:Str):uP (.str i) (.str j)=true:=rfl
theorem Ry{K:fv}{H:Hp}{p:Addr}{a:List V}{i:Int}{v:V}{Q:VK}(h:H p=some (.tup a))(e:Ϲ a i=some v)(q:Q v H):Jw K (.ref p) (.int i) H Q:=⟨p,a,i,v,rfl,rfl,Β.of h,e,q⟩
theorem Ι{K:fv}{H:Hp}{p:Addr}{a:List V}{i:Int}{v:V}{Q:VK}(h:H p=some (.lst a))(e:Ϲ a i=some v)(q:Q v H):Av K (.ref p) (.int i) H Q:=⟨p,a,i,v,rfl,rfl,ξ.of h,e,q⟩
theorem ZI{K:fv}{H:Hp}{p:Addr}{a:List V}{i:Int}{v:V}{Q:VK}(h:ξ K H p a)(e:Ϲ a i=some v)(q:Q v H):Av K (.ref p) (.int i) H Q:=⟨p,a,i,v,rfl,rfl,h,e,q⟩
theorem Rz{K:fv}{H:Hp}{l:Addr}{a:List V}(h:H l=some (.lst a)):Ra K "list" (.ref l) H:=.inl ⟨rfl,_,ξ.of h⟩
theorem nK{H:Hp}{l:Addr}{a:List V}{y:V}{Q:VK}(h:H l=some (.lst a))(b:a.length<sizeLine)(q:Q .τ (upd H l (.lst (a++[y])))):To (.ref l) [y] H Q:=⟨l,a,y,rfl,rfl,h,b,q⟩
theorem QV{H:Hp}{l:Addr}{a:List V}{i:Int}{y:V}{Q:VK}(h:H l=some (.lst a))(b:0<=i)(d:i<=a.length)(c:a.length<sizeLine)(q:Q .τ (upd H l (.lst (a.take i.toNat++y::a.drop i.toNat)))):R5 (.ref l) [.int i,y] H Q:=⟨l,a,i,y,rfl,rfl,h,b,d,c,q⟩
theorem Ls{H:Hp}{l:Addr}{a:List V}{y:V}{Q:VK}(h:H l=some (.lst (a++[y])))(q:Q y (upd H l (.lst a))):Yg (.ref l) [] H Q:=⟨l,a++[y],y,rfl,rfl,h,by simp,by rw[nu];exact q⟩
theorem eK{n:Nat}(h:n<=100000):n<sizeLine:=iH h (by decide)
theorem bL{n:Nat}(h:n<=100000):n<=sizeLine:=ic (eK h)
theorem fo{a:Type}{b:List a}{i:Int}{v:a}(c:0<=i)(h:b[i.toNat]?=some v):Ϲ b i=some v:=by
 obtain⟨n,rfl⟩:∃n:Nat,i=n:=⟨i.toNat,by lia⟩;exact HC (by simpa using h)
theorem mJ{X:Cx}{x:Str}{i:Int}{a:Pos}(b:Gl X x)(c:∃t,X.mg x=some (.int i t))(hd:(x==("__debug__":Str))=false:=by decide):PE X (.Name x a) (tC (.int i)):=by
 obtain⟨t,e⟩:=c;exact CK b e ⟨t,rfl⟩ hd
def Itx(K:fv):Bool->Addr->It
 | true,a=>VP K a
 | false,a=>Wr K a
def Ma(K:fv)(c:Bool)(d:TE):TI:=λf H R=>d f H λx b=>∃a,x=.ref a/\(∃e,ύ K c b a e)/\R (Itx K c a) b
theorem yw{X:Cx}{d l:Expr}{a:TE}(c:Bool)(b:PE X l a):PI X d l (Ma X.K c a):=by
 cases c
 .exact vk b
 .exact ie b
def sU(J:It)(p:Addr)(Q:VK)(g:TG)(o:TT)(n:TE)(h:St)(q:Hp):Prop:=∃W:Nat->Nat->List V->St->Hp->Prop,(∃m,W 0 m [] h q)/\∀i m c e d,W i m c e d->(J.stop i d/\Q (.ref p) d)\/(J.go i d/\∀x l,J.VO i d x l->g x e l λa r=>o a r λb k=>
 if b=true then n a k λy j=>j p=some (.lst c)/\c.length<sizeLine/\∃f,f<m/\W (i+1) f (c++[y]) a (upd j p (.lst (c++[y])))
 else ∃f,f<m/\W (i+1) f c a k)
theorem Dt{a:Nat}{e:List Nat}{h:TI}{g:TG}{f:TT}{d:TE}{b:St}{H:Hp}{Q:VK}:AW a e h g f d b H Q=h b H λJ c=>∀p,c p=none->sU J p Q g f d (mM a e b) (upd c p (.lst [])):=rfl
def t9(J:It)(D:Ends)(g:TG)(f:TS)(b:St)(H:Hp):Prop:=∃W:Nat->Nat->St->Hp->Prop,(∃m,W 0 m b H)/\∀i m b H,W i m b H->(J.stop i H/\D.nx b H)\/(J.go i H/\∃N:St->Hp->Prop,(∀a c,N a c->∃e,e<m/\W (i+1) e a c)/\∀x c,J.VO i H x c->g x b c λd h=>f { D with nx:=N,ct:=N,bk:=D.nx } d h)
theorem Ht{c:TI}{g:TG}{b:TS}{D:Ends}{a:St}{H:Hp}:PU c g b D a H=c a H λJ d=>t9 J D g b a d:=rfl
theorem lM{K:fv}{c:Bool}{a p:Addr}{xs:List V}{Q:VK}{g:TG}{t:TT}{s:TE}{o:St}{v:Hp}(k:Nat->List V->St->Hp->Prop)(A:k 0 [] o v)(G:∀i d f H,i<=xs.length->k i d f H->ύ K c H a xs)(F:∀(i:Nat) (x:V) (d:List V) (f:St) (H:Hp) (N:List V->St->Hp->Prop),(∀n h l,k (i+1) n h l->N n h l)->xs[i]?=some x->k i d f H->g x f H λj I=>t j I λb w=>
 if b=true then s j w λy u=>u p=some (.lst d)/\d.length<sizeLine/\N (d++[y]) j (upd u p (.lst (d++[y])))else N d j w)(D:∀d f H,k xs.length d f H->Q (.ref p) H):sU (Itx K c a) p Q g t s o v:=by
 refine⟨λi m d f H=>m=xs.length-i/\i<=xs.length/\k i d f H,⟨xs.length,by simp,bT _,A⟩,?_⟩;rintro i m d f H ⟨rfl,E,pv⟩;have q:=G i d f H E pv;by_cases r:i<xs.length
 .refine .inr ⟨?_,λx l y=>?_⟩
  .cases c
   .exact⟨xs,xs[i],q,by simp[r]⟩
   .exact⟨xs,xs[i],q,by simp[r]⟩
  .have e:l=H/\xs[i]?=some x:=by
    cases c
    .exact⟨y.1,y.2 xs q⟩
    .exact⟨y.1,y.2 xs q⟩
   obtain⟨rfl,B⟩:=e;exact F i x d f _ (λn h l=>∃z,z<xs.length-i/\(z=xs.length-(i+1)/\i+1<=xs.length/\k (i+1) n h l)) (λn h l C=>⟨xs.length-(i+1),by lia,rfl,r,C⟩) B pv
 .have e:i=xs.length:=by lia
  subst e;refine .inl ⟨?_,D d f H pv⟩;cases c
  .exact⟨xs,q,aN _⟩
  .exact⟨xs,q,aN _⟩
theorem sy{lo:Int}{n:Nat}{p:Addr}{Q:VK}{g:TG}{r:TT}{q:TE}{l:St}{t:Hp}(h:Nat->List V->St->Hp->Prop)(w:h 0 [] l t)(B:∀(i:Nat) (a:List V) (d:St) (H:Hp) (N:List V->St->Hp->Prop),(∀k c j,h (i+1) k c j->N k c j)->i<n->h i a d H->g (.int (lo+i)) d H λf C=>r f C λb u=>
 if b=true then q f u λy s=>s p=some (.lst a)/\a.length<sizeLine/\N (a++[y]) f (upd s p (.lst (a++[y])))else N a f u)(A:∀a d H,h n a d H->Q (.ref p) H):sU (UX lo n) p Q g r q l t:=by
 refine⟨λi m a d H=>m=n-i/\i<=n/\h i a d H,⟨n,by simp,bT _,w⟩,?_⟩;rintro i m a d H ⟨rfl,D,pv⟩;by_cases o:i<n
 .refine .inr ⟨o,λx j y=>?_⟩;obtain⟨rfl,rfl⟩:=y;exact B i a d _ (λk c j=>∃v,v<n-i/\(v=n-(i+1)/\i+1<=n/\h (i+1) k c j)) (λk c j z=>⟨n-(i+1),by lia,rfl,o,z⟩) o pv
 .have e:i=n:=by lia
  subst e;exact .inl ⟨aN _,A a d H pv⟩
theorem Fj:bootBuiltins "tuple"=some (.type "tuple"):=by decide +kernel
section
variable{X:Cx}{a b o e:Expr}{j:List Expr}{i n q:TE}{t:TA}{g d m:Pos}{f c:Str}{T k:String}{r:V->List V->Hp->VK->Prop}
theorem vh(K:fv)(h:X.K=K):kI X (.type "tuple") (λu H Q=>∃p s,u=[.ref p]/\((ξ K H p s/\∀l,H l=none->Q (.ref l) (upd H l (.tup s)))\/(Β K H p s/\Q (.ref p) H))):=by subst h;exact ii
theorem LZ(K:fv)(h:X.K=K):Vl X (Av K):=by subst h;exact bG
theorem Iu(K:fv)(h:X.K=K):Vl X (Jw K):=by subst h;exact fB
end
theorem BH{x:Str}{k:NameKind}:∀{l:List (Str×NameKind)},l.lookup x=some k->∃y,(y,k)∈l
 | [],h=>by simp at h
 | (n,j)::r,h=>by
   rw[cz]at h;cases q:x==n with
   | true=>
     rw[q]at h;cases h;exact⟨n,aP⟩
   | false=>
     rw[q]at h;obtain⟨y,a⟩:=BH h;exact⟨y,aL _ a⟩
theorem mH{X:Cx}{Nc:hO}{a:Scope}(own:Nat)(f:∀y∈a.names,y.2≠.free)(l:∀y∈a.names,y.2≠.cell)(hk:a.kind=.function)(hn:∀y∈a.names,y.2=.local->a.names.lookup y.1=some .local)(r:Nc.length=own):Ϛ X Nc own [] a [] where
 Up:=closureFor_none f
 kind:=hk
 Rr:=l
 names:=hn
 cells:=λx c h=>by cases h
 has:=λx h=>by
  have b:∀k,(relabel a X.env).names.lookup x=some k->k≠.cell/\k≠.free:=λk e=>by
   obtain⟨y,o⟩:=BH e;obtain⟨⟨n,p⟩,j,g⟩:=aW.mp o;have d:=f _ j;have m:=l _ j;have q:(p==NameKind.free)=false:=(by simpa using d);simp only[q,gw,cR,if_false]at g;cases g;exact⟨m,d⟩
  rcases h with h|h
  .exact absurd rfl (b _ h).1
  .exact absurd rfl (b _ h).2
 len:=by simpa using r
 outer:=λi x h=>by
  rw[ce (by lia)]at h;cases h
theorem yh{K:fv}{a:Addr}{xs:List V}{g:TG}{f:TS}{D:Ends}{b:St}{H:Hp}(c:Nat->St->Hp->Prop)(j:c 0 b H)(n:∀i b H,i<=xs.length->c i b H->ξ K H a xs)(m:∀(i:Nat) (x:V) (b:St) (H:Hp) (N:St->Hp->Prop),(∀d h,c (i+1) d h->N d h)->xs[i]?=some x->c i b H->g x b H λe o=>f { D with nx:=N,ct:=N,bk:=D.nx } e o)(l:∀b H,c xs.length b H->D.nx b H):t9 (VP K a) D g f b H:=LX c j n (λi x b H k p=>m i x b H (c (i+1)) (λ_ _ z=>z) k p) l
theorem Aq{K:fv}{a:Addr}{xs:List V}{g:TG}{f:TS}{D:Ends}{b:St}{H:Hp}(c:Nat->St->Hp->Prop)(j:c 0 b H)(n:∀i b H,i<=xs.length->c i b H->Β K H a xs)(m:∀(i:Nat) (x:V) (b:St) (H:Hp) (N:St->Hp->Prop),(∀d h,c (i+1) d h->N d h)->xs[i]?=some x->c i b H->g x b H λe o=>f { D with nx:=N,ct:=N,bk:=D.nx } e o)(l:∀b H,c xs.length b H->D.nx b H):t9 (Wr K a) D g f b H:=Hm c j n (λi x b H k p=>m i x b H (c (i+1)) (λ_ _ z=>z) k p) l
theorem AL{lo:Int}{n:Nat}{g:TG}{e:TS}{D:Ends}{a:St}{H:Hp}(b:Nat->St->Hp->Prop)(h:b 0 a H)(l:∀(i:Nat) (a:St) (H:Hp) (N:St->Hp->Prop),(∀c f,b (i+1) c f->N c f)->i<n->b i a H->g (.int (lo+i)) a H λd m=>e { D with nx:=N,ct:=N,bk:=D.nx } d m)(j:∀a H,b n a H->D.nx a H):t9 (UX lo n) D g e a H:=Ll b h (λi a H k p=>l i a H (b (i+1)) (λ_ _ z=>z) k p) j
theorem HQ{c:TT}{j:TS}{D:Ends}{e:St}{H:Hp}(W:Nat->St->Hp->Prop)(h:Nat)(k:W h e H)(o:∀(n:Nat) (e:St) (H:Hp) (N:St->Hp->Prop),(∀g a d,g<n->W g a d->N a d)->(∀a d,N a d->∃f,f<n/\W f a d)->W n e H->c e H λb i=>if b=true then ∃N:St->Hp->Prop,(∀a d,N a d->∃f,f<n/\W f a d)/\j { D with nx:=N,ct:=N,bk:=D.nx } e i else D.nx e i):F9 c j D e H:=⟨W,⟨h,k⟩,λn e H w=>o n e H (λa d=>∃f,f<n/\W f a d) (λg _ _ m l=>⟨g,m,l⟩) (λ_ _ z=>z) w⟩
theorem p60:(0:Int)<10^(60:Int).toNat:=dW (by decide)
open Pb
def nQ(r:Road):List V:=[.int r.a,.int r.b,.int r.t,.int r.u]
abbrev μ(H:Hp):List Addr->List Road->Prop:=Paired λp r=>H p=some (.tup (nQ r))
theorem μ.same{H a:Hp}(e:γ H a){b:gy}{c:hU}(h:μ H b c):μ a b c:=Paired.imp' (λp r q=>e p _ q) h
theorem μ.get{H:Hp}:∀{c:gy}{d:hU}{i:Nat}{x:V},μ H c d->(c.map V.ref)[i]?=some x->∃p r,x=.ref p/\c[i]?=some p/\d[i]?=some r/\H p=some (.tup (nQ r))
 | _,_,i,x,.nil,e=>by simp at e
 | _,_,0,x,.cons (a:=p) (b:=r) h hs,e=>⟨p,r,by simpa using e.symm,by simp,by simp,h⟩
 | a::l1,_,i+1,x,.cons h hs,e=>by
   have g:(List.map V.ref l1)[i]?=some x:=by simpa using e
   obtain⟨p,r,l,f,j,k⟩:=μ.get hs g;exact⟨p,r,l,by simpa using f,by simpa using j,k⟩
theorem γ.tup{K:fv}{H b:Hp}{a:Addr}{xs:List V}(e:γ H b)(h:Β K H a xs):Β K b a xs:=by
 rcases h with(h|⟨o,h⟩)|h
 .exact .inl (.inl (e _ _ h))
 .exact .inl (.inr ⟨o,e _ _ h⟩)
 .exact .inr h
theorem γ.ϳ{K:fv}{H d:Hp}{c:Bool}{a:Addr}{b:List V}(e:γ H d)(h:ύ K c H a b):ύ K c d a b:=by
 cases c
 .exact γ.tup e h
 .exact γ.seq e h
theorem γ.new{H:Hp}{p:Addr}(o:HO)(h:H p=none):γ H (upd H p o):=λb u e=>by rw[aY (cP e h)];exact e
end L2
namespace L2
open PySem PySem.Spec PyProof.Rows
abbrev Sx:List Value:=[.type "ValueError",.type "Exception",.type "BaseException",.type "object"]
structure Sy(K:fv)(C:Addr):Prop where
 ty:PySem.W.typeIn K (.ref C)=some (.type "type")
 ga:PySem.W.findIn K (.ref C) "__getattribute__"=some (some (.builtin "BaseException.__getattribute__"))
 gt:PySem.W.findIn K (.ref C) "__getattr__"=some none
 cl:PySem.W.findIn K (.ref C) "__class__"=some (some (.builtin "object.__class__"))
 gs:PySem.W.specialIn K (.builtin "object.__class__") "__get__"=some (some (.builtin "getset_descriptor.__get__"))
 tk:PySem.W.takesIn K (.builtin "object.__class__")=some true
 mo:PySem.W.mroIn K C (.type "object")=some true
 mb:PySem.W.mroIn K C (.type "BaseException")=some true
 hd:PySem.W.hasDictIn K C=true
 sf:PySem.W.mroIn K C (.ref C)=some true
def pK(h:Heap)(e:Addr)(cls:Value)(d:Option Addr)(a:Value):Prop:=∃b c,h.get? e=some b/\b.cls=cls/\b.dict=d/\b.data=.fields c/\c[1]?=some a/\c[2]?=some .none
def TbO(h:Heap)(T:Addr)(c:Value):Prop:=∃b a,h.get? T=some b/\b.data=.fields a/\a[3]?=some c
structure RO(h:Heap)(ea T:Addr)(cls:Value)(od:Option Addr)(fl:Value):Prop where
 e:pK h ea cls od (.ref T)
 t:TbO h T fl
 ne:T≠ea
structure Kept(fs xs:gy)(h h':Heap):Prop where
 keep:∀b o,h.get? b=some o->b∉fs->b∉xs->h'.get? b=some o
 slot:∀b o,h.get? b=some o->b∈fs->b∉xs->∃sl,h'.get? b=some { o with slots:=sl }
 there:∀b o,h.get? b=some o->∃o',h'.get? b=some o'
theorem Kept.mono{a c d:gy}{h g:Heap}(k:Kept a c h g)(s:∀b∈c,b∈d):Kept a d h g:=⟨λb o e f x=>k.keep b o e f λz=>x (s b z),λb o e f x=>k.slot b o e f λz=>x (s b z),k.there⟩
theorem Kept.trans{d g:gy}{h k j:Heap}(a:Kept d g h k)(b:Kept d g k j):Kept d g h j where
 keep:=λc o e f x=>b.keep c o (a.keep c o e f x) f x
 slot:=λc o e f x=>by
  obtain⟨s1,i⟩:=a.slot c o e f x;obtain⟨m,l⟩:=b.slot c _ i f x;exact⟨m,l⟩
 there:=λc o e=>by
  obtain⟨n,i⟩:=a.there c o e;exact b.there c n i
theorem Kept.Uw{c d:gy}{h a:Heap}(k:∀b o,h.get? b=some o->a.get? b=some o):Kept c d h a:=⟨λb o e _ _=>k b o e,λb o e _ _=>⟨o.slots,k b o e⟩,λb o e=>⟨o,k b o e⟩⟩
theorem tG{j d:gy}{h:Heap}{a:Addr}{f:Obj}{l:Array Value}{i:Nat}{v:Value}(g:h.get? a=some f)(m:f.data=.fields l)(k:a∈d):Kept j d h (h.update a (Obj.mapFields (·.setIfInBounds i v))):=by
 have c:∀b o,h.get? b=some o->b∉d->(h.update a (Obj.mapFields (·.setIfInBounds i v))).get? b=some o:=λb o e x=>by
  rw[cu _ _ (λ(z:a=b)=>x (z▸k))];exact e
 refine⟨λb o e _ x=>c b o e x,λb o e _ x=>⟨o.slots,c b o e x⟩,λb o e=>?_⟩;by_cases z:b=a
 .subst z;exact⟨_,dC _ g (eP (dA m _))⟩
 .rw[cu _ _ (Ne.symm z)];exact⟨o,e⟩
theorem Lw{h:Heap}{b:Addr}{a n v:Value}{g:Option Addr}(e:pK h b a g n):pK (h.update b (Obj.mapFields (·.setIfInBounds 1 v))) b a g v:=by
 obtain⟨l,i,k,j,o,f,m,q⟩:=e;have p:1<i.size:=(dY.mp m).1;refine⟨_,_,dC _ k (eP (dA f _)),?_,?_,dA f _,by simp[p],by rw[Array.getElem?_setIfInBounds_ne (by decide)];exact q⟩
 .rw[<-j];exact Obj.cls_mapFields _ _
 .rw[<-o];obtain⟨c,d,r,s⟩:=l;cases r<;>rfl
theorem sx{h:Heap}{c a:Addr}{b g:Value}{d:Option Addr}{f:Obj->Obj}(e:pK h c b d g)(ne:a≠c):pK (h.update a f) c b d g:=by
 obtain⟨i,j,l,k⟩:=e;exact⟨i,j,by rw[cu _ _ ne];exact l,k⟩
theorem DS{h c:Heap}{b:Addr}{a f:Value}{d:Option Addr}(e:pK h b a d f)(k:∀o,h.get? b=some o->c.get? b=some o):pK c b a d f:=by
 obtain⟨g,i,l,j⟩:=e;exact⟨g,i,k _ l,j⟩
theorem Lb{h a:Heap}{d:Addr}{b j:Value}{i:Option Addr}{l:List Env}(e:pK h d b i j)(f:h.FunFrames a l):d∉ϝ l:=λz=>by
 obtain⟨p,g,n,_,_,k,_⟩:=e;obtain⟨_,o,c,m⟩:=f.mem z;rw[n]at c;cases c;exact m g k
theorem FQ{h a:Heap}{T:Addr}{d:Value}{l:List Env}(e:TbO h T d)(f:h.FunFrames a l):T∉ϝ l:=λz=>by
 obtain⟨k,c,j,g,_⟩:=e;obtain⟨_,o,b,i⟩:=f.mem z;rw[j]at b;cases b;exact i c g
section
variable{M:Model}{A:Around}{E:fc}{s:Shared}{Q:Unit->Shared->Prop}{fs:gy}{i T L:Addr}{g l k:Value}{j:Option Addr}{base:Heap}{d:Env}{c:List Env}
theorem sQ(r:RO s.heap i T g j l)(h:∀e,RO e i T g j .none->Kept fs [T] s.heap e->Q () { s with heap:=e }):wpAny M A (setFlight (.ref i) none) Q E s:=by
 obtain⟨⟨q,u,o,v,w,n,m,x⟩,⟨y,p,b,a,t⟩,ne⟩:=r;have f:3<p.size:=(dY.mp t).1;unfold setFlight;refine aj (b9 o n m ?_);rw[ao (by simp:(Value.ref T != Value.none)=true)];refine fM b a f (h _ ⟨sx ⟨q,u,o,v,w,n,m,x⟩ ne,⟨_,_,dC _ b (eP (dA a _)),dA a _,by simp[f]⟩,ne⟩ (tG b a (by simp)))
theorem Ad{m:Value}{H:Bool}(J:A.frames=some (d::c))(B:s.heap.FunFrames base (d::c))(I:d.frame=some L)(r:pK s.heap i g j k)(h:∀u w,RO u i w g j (rawInt L)->Kept (ϝ (d::c)) [i] s.heap u->s.heap.get? w=none->Q () { s with heap:=u }):wpAny M A (do let a <-frameOf d;let p <-entryPlaceOf L H;let b <-EntryCells.newEntry m a .none (rawInt L) .none p;setField (.ref i) 1 b) Q E s:=by
 have F:=Lb r B;refine aj (wpAny_frameOf_fun J B I λn q=>aj (wpAny_entryPlaceOf λp K=>?_));unfold EntryCells.newEntry newFields;refine aj (db ?_ (K.sizeOk5 _ _ _ _ _));have D:pK n i g j k:=DS r λo e=>(q.2.1 i F).trans e;generalize x:({ cls:=.type "traceback",dict:=none,data:=.fields ([m,.ref L,.none,rawInt L,.none]++(if p.isEmpty then List.replicate 6 Value.none else p)).toArray }:Obj)=t;have y:pK (n.push t) i g j k:=DS D λo e=>au _ e;obtain⟨P,O,C,V,U,v,N,R⟩:=id y;have lt:i<n.objs.size:=by
  obtain⟨_,_,e,_⟩:=D;exact aI e
 have G:(n.push t).get? n.objs.size=some t:=bg n (by rw[<-x];rfl);refine fM C v (dY.mp N).1 (h _ n.objs.size ⟨Lw y,⟨t,([m,.ref L,.none,rawInt L,.none]++(if p.isEmpty then List.replicate 6 Value.none else p)).toArray,?_,by rw[<-x],by simp⟩,eX lt⟩ ?_ ?_)
 .rw[cu _ _ (aU lt)];exact G
 .have k1:Kept (ϝ (d::c)) [i] s.heap n:=⟨λb o e f _=>(q.2.1 b f).trans e,λb o e _ _=>q.2.2 b o e,λb o e=>by
   obtain⟨S,z⟩:=q.2.2 b o e;exact⟨_,z⟩⟩
  exact k1.trans ((Kept.Uw λb o e=>au _ e).trans (tG C v (by simp)))
 .exact gf (by rw[q.1];exact aN _)
theorem MM(n:A.frames=some (d::c))(m:s.heap.FunFrames base (d::c))(b:d.frame=some L)(r:pK s.heap i g j .none)(h:∀a e,RO a i e g j (rawInt L)->Kept (ϝ (d::c)) [i] s.heap a->s.heap.get? e=none->Q () { s with heap:=a }):wpAny M A (noteFrame (.ref i) d) Q E s:=by
 obtain⟨u,w,o,t,q,p,f,v⟩:=id r;unfold noteFrame;simp only[b];refine aj (b9 o p f ?_);rw[ah (by decide)];exact Ad n m b r h
theorem CO(F:A.frames=some (d::c))(w:s.heap.FunFrames base (d::c))(v:d.frame=some L)(r:RO s.heap i T g j .none)(h:∀f a,RO f i a g j (rawInt L)->Kept (ϝ (d::c)) [i,T] s.heap f->s.heap.get? a=none->Q () { s with heap:=f }):wpAny M A (noteFrame (.ref i) d) Q E s:=by
 have N:=FQ r.t w;obtain⟨⟨O,K,H,S,R,C,I,P⟩,⟨U,B,p,m,x⟩,ne⟩:=id r;unfold noteFrame;simp only[v];refine aj (b9 H C I ?_);rw[ao (by simp:(Value.ref T != Value.none)=true)];refine aj (b9 p m x ?_);rw[ah (by simp[rawInt])];have u:Kept (ϝ (d::c)) [i,T] s.heap (s.heap.update T (Obj.mapFields (·.setIfInBounds 3 Value.none))):=tG p m (by simp);refine aj (fM p m (dY.mp x).1 ?_);refine Ad F (w.of_keeps λb o e y=>⟨o,?_,rfl⟩) v (sx r.e ne) λf a D G n=>h f a D (u.trans (G.mono (by simp))) ?_
 .by_cases z:b=T
  .subst z;rw[p]at e;cases e;exact absurd m (y B)
  .rw[cu _ _ (Ne.symm z)];exact e
 .cases q:s.heap.get? a with
  | none=>rfl
  | some o=>
    obtain⟨J,z⟩:=u.there a o q;rw[z]at n;cases n
theorem DG(C:A.frames=some (d::c))(B:s.heap.FunFrames base (d::c))(w:d.frame=some L)(r:pK s.heap i g j .none)(h:∀m q,RO m i q g j .none->Kept (ϝ (d::c)) [i] s.heap m->s.heap.get? q=none->Q () { s with heap:=m }):wpAny M A (leaving d (.ref i)) Q E s:=by
 unfold leaving;refine aj (MM C B w r λu D F a p=>sQ (fs:=ϝ (d::c)) (s:={ s with heap:=u }) F λt z n=>h t D z ⟨λb o e f x=>n.keep b o (a.keep b o e f x) f ?_,λb o e f x=>?_,λb o e=>?_⟩ p)
 .simp only[ax];rintro rfl;rw[p]at e;cases e
 .obtain⟨s1,e1⟩:=a.slot b o e f x;obtain⟨v,y⟩:=n.slot b _ e1 f (by
   simp only[ax];rintro rfl;rw[p]at e;cases e)
  exact⟨v,y⟩
 .obtain⟨o1,e1⟩:=a.there b o e;exact n.there b o1 e1
theorem MX(C:A.frames=some (d::c))(B:s.heap.FunFrames base (d::c))(w:d.frame=some L)(r:RO s.heap i T g j .none)(h:∀m q,RO m i q g j .none->Kept (ϝ (d::c)) [i,T] s.heap m->s.heap.get? q=none->Q () { s with heap:=m }):wpAny M A (leaving d (.ref i)) Q E s:=by
 unfold leaving;refine aj (CO C B w r λu D F a p=>sQ (fs:=ϝ (d::c)) (s:={ s with heap:=u }) F λt z n=>h t D z ⟨λb o e f x=>n.keep b o (a.keep b o e f x) f ?_,λb o e f x=>?_,λb o e=>?_⟩ p)
 .simp only[ax];rintro rfl;rw[p]at e;cases e
 .obtain⟨s1,e1⟩:=a.slot b o e f x;obtain⟨v,y⟩:=n.slot b _ e1 f (by
   simp only[ax];rintro rfl;rw[p]at e;cases e)
  exact⟨v,y⟩
 .obtain⟨o1,e1⟩:=a.there b o e;exact n.there b o1 e1
end
def ψ(P:Program)(w:World):Bv:=λa H s E e b=>∃(f T:Addr)(d:Value)(g:Option Addr)(c:Hp),e=.ref f/\b.os=s.os/\AllBare b.gens/\Un (ϝ a) [] H c s.heap b.heap/\Ϸ P w c b.heap/\c f=none/\c T=none/\s.heap.get? f=none/\s.heap.get? T=none/\RO b.heap f T d g .none/\E d g c
theorem bF{P:Program}{w:World}:bO (ψ P w):=λa H s e b h=>by
 obtain⟨_,_,_,_,_,_,_,_,_,_,_,_,_,_,_,z⟩:=h;exact z
theorem tW{P:Program}{w:World}{H:Hp}{h g:Heap}{c d:gy}(x:Ϸ P w H h)(k:Kept c d h g)(f:∀b∈c,H b=none)(u:∀b∈d,H b=none):Ϸ P w H g:=λa o e=>by
 refine(x a o e).iO (λb i hb q=>k.keep b i q ?_ ?_) (λ_ q=>q) λ_ _ q=>q
 .intro z;rcases hb with rfl|hb
  .rw[f _ z]at e;cases e
  .rw[f _ z]at hb;cases hb
 .intro z;rcases hb with rfl|hb
  .rw[u _ z]at e;cases e
  .rw[u _ z]at hb;cases hb
theorem uI{P:Program}{w:World}{H:Hp}{h:Heap}{b:Addr}(x:Ϸ P w H h)(n:h.get? b=none):H b=none:=by
 cases q:H b with
 | none=>rfl
 | some o=>
   have lt:=x.lt q;cases z:h.get? b with
   | some o'=>rw[z]at n;cases n
   | none=>
     exfalso
     have:=(x b o q);cases o with
     | lst xs=>obtain⟨_,_,_,_,e⟩:=this;rw[n]at e;cases e
     | tup xs=>obtain⟨_,_,_,a,e,_⟩:=this;rw[n]at e;cases e
     | dK θ=>obtain⟨_,_,_,_,a,_,_,e,_⟩:=this;rw[n]at e;cases e
     | dT θ=>obtain⟨_,_,_,_,a,_,_,e,_⟩:=this;rw[n]at e;cases e
     | set S m=>obtain⟨a,_,_,_,e,_⟩:=this;rw[n]at e;cases e
     | ins C dx fs=>obtain⟨_,_,_,e,_⟩:=this;rw[n]at e;cases e
     | own y=>obtain⟨_,e⟩:=this;rw[n]at e;cases e
     | xd fs=>obtain⟨_,⟨_,_,_,e,_⟩,_⟩:=this;rw[n]at e;cases e
     | ϭ lo hi=>obtain⟨_,_,_,e⟩:=this;rw[n]at e;cases e
     | SW a u=>obtain⟨e,_⟩:=this;rw[n]at e;cases e
     | VJ ps=>have e:h.get? b=some _:=this;rw[n]at e;cases e
     | met f y=>have e:h.get? b=some _:=this;rw[n]at e;cases e
     | ext φ=>obtain⟨_,⟨_,e⟩,_⟩:=this;rw[n]at e;cases e
section
variable{P:Program}{w:World}{K:fv}{i:hL}{base:Heap}{N:hO}{d:Str}{c:Scope}{f:Addr}{g:Value}{A:Around}{a:List Env}{s:Shared}{H:Hp}{E:XK}
theorem wM{B:Bv}{l:fz}{x:St}{t:Hp}{r:Shared}{u:Heap}{q:gy}(J:Inv (qj B P w K i base N d c f g A a s H E) l x t r)(k:Kept (ϝ (envOfC d c s.heap.objs.size f g::a)) q r.heap u)(y:∀b∈q,s.heap.get? b=none):Un (ϝ a) [] H t s.heap u:=by
 have h:Un (ϝ a) [] H t s.heap r.heap:=J.base;have nl:∀b o,s.heap.get? b=some o->b∉q:=λb o e z=>by rw[y b z]at e;cases e
 have v:∀b o,s.heap.get? b=some o->b∉ϝ a->b∉ϝ (envOfC d c s.heap.objs.size f g::a):=λb o e z m=>by
  unfold ϝ at m z;rw[iE]at m;have:(envOfC d c s.heap.objs.size f g).frame=some s.heap.objs.size:=rfl;rw[this]at m;rcases aG.mp m with m|m
  .exact absurd (aI e) (by rw[m];exact dh _)
  .exact z m
 refine⟨λb o e n p j=>k.keep b o (h.keep b o e n p j) (v b o e p) (nl b o e),λb o e n p j=>?_,h.free,λb o e j=>?_,h.iS,h.ϸ,h.lE⟩
 .obtain⟨sl,e1⟩:=h.slot b o e n p j;by_cases m:b∈ϝ (envOfC d c s.heap.objs.size f g::a)
  .obtain⟨s2,e2⟩:=k.slot b _ e1 m (nl b o e);exact⟨s2,e2⟩
  .exact⟨sl,k.keep b _ e1 m (nl b o e)⟩
 .obtain⟨o1,e1⟩:=h.there b o e j;exact k.there b o1 e1
theorem oH{l:Bv}{h:fz}{p:St}{k:Hp}{j:Shared}(J:Inv (qj l P w K i base N d c f g A a s H E) h p k j){b:Addr}(n:j.heap.get? b=none):s.heap.get? b=none:=by
 cases q:s.heap.get? b with
 | none=>rfl
 | some o=>
   have m:Un (ϝ a) [] H k s.heap j.heap:=J.base;obtain⟨r,e⟩:=m.there b o q (by simp);rw[n]at e;cases e
theorem bK:pf (ψ P w) (qj (ψ P w) P w K i base N d c f g A a s H E) E:=by
 intro n G L F e O I h;obtain⟨D,T,j,C,o,rfl,os,bare,B,l,p,t,r,y,v,q⟩:=h;have J:=I.Th (ch:=[]) os B l bare (by simp);refine MX (base:=base) J.ok.frames J.stack rfl v λM x u k m=>?_;have z:∀b∈ϝ (envOfC d c s.heap.objs.size f g::a),o b=none:=J.Ϯ;refine⟨D,x,j,C,o,rfl,J.os,J.bare,wM J k ?_,tW l k z ?_,p,uI l m,oH I r,oH J m,u,q⟩
 .intro b hb;simp only[aG,bX,or_false]at hb;rcases hb with rfl|rfl
  .exact oH I r
  .exact oH I y
 .intro b hb;simp only[aG,bX,or_false]at hb;rcases hb with rfl|rfl
  .exact p
  .exact t
end
def JZ(X:Cx)(E:XK):Prop:=∀(a:fz)(h:St)(H:Hp)(s:Shared)(e:Addr)(c:Value)(f:Option Addr)(d:Heap)(g:Nat),Inv X a h H s->(∀b o,s.heap.get? b=some o->d.get? b=some o)->s.heap.get? e=none->pK d e c f .none->E c f H->X.xe (.ref e) { s with heap:=d,toks:=g }
section
variable{P:Program}{w:World}{K:fv}{h:hL}{d:Heap}{N:hO}{e:Str}{c:Scope}{f:Addr}{g:Value}{A:Around}{a:List Env}{s:Shared}{H:Hp}{E:XK}
theorem kR:JZ (qj (ψ P w) P w K h d N e c f g A a s H E) E:=by
 intro n C m z y j x D o I v i p q;have J:=I.kept (t':=o) v;refine DG (base:=d) J.ok.frames J.stack rfl p λB t r k l=>?_;have u:∀b∈ϝ (envOfC e c s.heap.objs.size f g::a),m b=none:=J.Ϯ;refine⟨y,t,j,x,m,rfl,J.os,J.bare,wM J k ?_,tW J.χ k u ?_,uI I.χ i,uI J.χ l,oH I i,oH J l,r,q⟩
 .intro b hb;rw[ax.mp hb];exact oH I i
 .intro b hb;rw[ax.mp hb];exact uI I.χ i
end
def wp(K:fv)(C:Addr):Prop:=∃(o m:Str)(N:Addr)(f d:g8)(a:Bool)(g:hO)(b:g8)(h:Bool)(c:Option Bool)(e:Option Addr)(n i l j k:Option Value),K.lookup C=some (excClassObj o m C N f d a g b h c e n i l j k "ValueError.__new__")/\PySem.W.nsOkIn K N=true/\PySem.W.nsIn K N "__init__"=some none/\PySem.W.tailIn K Sx d=true
theorem OA{K:fv}{C:Addr}{o:Obj}(p u:Str)(N:Addr)(t h:g8)(d:Bool)(q:hO)(g:g8)(j:Bool)(f:Option Bool)(i:Option Addr)(n k s m r:Option Value)(l:K.lookup C=some o)(e:o=excClassObj p u C N t h d q g j f i n k s m r "ValueError.__new__")(a:PySem.W.nsOkIn K N=true)(b:PySem.W.nsIn K N "__init__"=some none)(c:PySem.W.tailIn K Sx h=true):wp K C:=by
 subst e;exact⟨_,_,_,_,_,_,_,_,_,_,_,_,_,_,_,_,l,a,b,c⟩
def KO(C:Addr)(E:XK)(t:TA):TS:=λ_ c H=>t c H λb a=>b.length<=sizeLine/\E (.ref C) none a
section
variable{X:Cx}{x:Str}{e b d:Pos}{c:Expr}{a:List Expr}{t:TA}{C:Addr}{E:XK}
theorem jM(q:wp X.K C)(O:X.calm=true)(y:JZ X E)(P:Gl X x)(J:X.mg x=some (.ref C))(G:PA X (c::a) t)(hdb:(x==("__debug__":Str))=false:=by decide)(k:starEach (c::a) X.env=(false,eval c X.env)::starEach a X.env:=by rfl)(L:(backTo b (starEach a X.env)).any (·.1)=false:=by rfl):PS X (.Raise (some (.Call (.Name x e) (c::a) [] b)) none d) (KO C E t):=by
 intro f s l H D I h;obtain⟨nm,R,N,bs,bm,hdct,sn,sub,ab,col,dd,k0,k1,k2,k3,k5,v,o,r,Q⟩:=q;have B:=I.mod.Vc;have n:=j7 B Q;have z:X.base.Ns N (X.base.nsMap N):=.of_isNs (PySem.W.isNs_of_in B o);have F:(backTo b (starEach (c::a) X.env)).any (·.1)=false:=by
  rw[k];show(false||(backTo b (starEach a X.env)).any (·.1))=false;rw[L]
  rfl
 refine wpAny_Raise_call_subT (C:=C) (nm:=nm) (q:=R) (N:=N) (bs:=bs) (bm:=bm) (hdct:=hdct) (sn:=sn) (sub:=sub) (ab:=ab) (col:=col) (dd:=dd) (k0:=k0) (k1:=k1) (k2:=k2) (k3:=k3) (k5:=k5) ig
  (n.hasType (by decide +kernel)) (I.ok.hd O) F (PySem.W.nsMap_none_of_in B o r) (nA I P J ⟨rfl,?_⟩ hdb)
 have g:=G b f s l H _ I h;rw[k]at g ⊢;refine gg (Χ g λT j ⟨V,w,i,M,p⟩=>⟨rfl,by show T.length<=_;rw[<-M.length];exact p.1,i.bk _ _ (B _ _ v),z.keeps i.bk,n.keeps i.bk,λA S m=>?_⟩);obtain⟨U,u,_,_⟩:=m.there;exact y f l w j S (.ref C) none A j.toks i m.keeps m.new ⟨_,_,u,rfl,rfl,rfl,rfl,rfl⟩ p.2
end
def XP(CX:Bv)(X:Cx)(a:fz)(c:St)(E:XK)(e:Value)(b:Shared):Prop:=∃H s,Inv X a c H s/\CX X.stack H s E e b
def U2(c:Bv)(X:Cx)(e:Expr)(t:XK->TE):Prop:=∀(E:XK)(a:fz)(s:Shared)(b:St)(H:Hp)(Q:VK),Inv X a b H s->t E b H Q->wpAny (model X.prog X.w) X.A (eval e X.env) (EP X a b Q) (XP c X a b E) s
abbrev XS(c:Bv)(X:Cx)(a:fz)(d:St->XK)(e:Value)(f:Shared):Prop:=∃b,XP c X a b (d b) e f
def ZJ(d:Bv)(X:Cx)(st:Stmt)(t:(St->XK)->TS):Prop:=∀(b:St->XK)(a:fz)(s:Shared)(c:St)(H:Hp)(D:Ends),Inv X a c H s->t b D c H->wpAny (model X.prog X.w) X.A (exec st X.env) (SP X a D) (XS d X a b) s
def PX(d:Bv)(X:Cx)(st:List Stmt)(t:(St->XK)->TS):Prop:=∀(b:St->XK)(a:fz)(s:Shared)(c:St)(H:Hp)(D:Ends),Inv X a c H s->t b D c H->wpAny (model X.prog X.w) X.A (execs st X.env) (SP X a D) (XS d X a b) s
section
variable{b:Bv}{X:Cx}{k:Nat}{f C:Addr}{j:FuncData}{i:hO}{m:Sp}{g:List V}{d:g8}{x:Str}{p a:Pos}{e:Expr}{c:List Expr}{G:TE}{t:TA}{o:Stmt}{L:List Stmt}{y:TS}{l B:(St->XK)->TS}{n:XK->TE}
theorem Ai(F:ϋ X.prog X.w X.K X.mg X.base b k f j i m)(hr:Ρ k X.A)(hg:Gl X x)(hm:X.mg x=some (.ref f))(hk:PySem.W.keepIn X.K (.ref f)=true)(hb:Binds X.K j i d)(V:Vals g d)(Y:PA X.Ua (e::c) t)(hdb:(x==("__debug__":Str))=false:=by decide)(T:starEach (e::c) X.env=(false,eval e X.env)::starEach c X.env:=by rfl)(ϲ:(backTo a (starEach c X.env)).any (·.1)=false:=by rfl):U2 b X (.Call (.Name x p) (e::c) [] a) (λE=>rC m g E t):=by
 intro E D s U H Q I h;refine fF (nA I hg hm ?_ hdb);refine iG (h₀:=X.base) I.ok.mod.Vc hk (bu (Y a D s U H _ (I.wish _) h) (λM N ⟨P,R,O,r,q⟩=>⟨O.ϒ.ϵ,?_⟩) λ_ _ z=>False.elim z) T ϲ;have J:=O.ϒ;have S:Vals (P++g) (M++d):=r.append V;have Z:(M++d).length=i.length:=by rw[<-S.length];exact F.len _ _ _ _ q
 refine gX (hW (F.run X.A X.stack N R ⟨M,[]⟩ (M++d) (P++g) Q E hr J.Vj (hb N M J.ϵ Z) S q) λr s' v=>?_);cases r with
 | error e=>exact⟨R,N,J,v⟩
 | ok fl=>
   cases fl with
   | ret u=>exact J.after v
   | next=>exact False.elim v
   | brk=>exact False.elim v
   | cont=>exact False.elim v
theorem OC(A:U2 b X e n):ZJ b X (.Return (some e) a) (λu D q H=>n (u q) q H D.rt):=by
 intro u r s q H D I h;exact wpAny_Return_some (bu (A (u q) r s q H _ I h) (λv K ⟨x,E,w,F,J⟩=>⟨x,q,E,w,F,J⟩) λe M z=>⟨q,z⟩)
theorem Gu(z:ZJ b X o l):PX b X [o] l:=by
 intro u r s w H D I h;refine kL (Χ (z u r s w H D I h) λf A q=>?_);cases f with
 | next=>exact gn q
 | ret v=>exact q
 | brk=>exact q
 | cont=>exact q
end
abbrev Cx.held(X:Cx)(e:Value):Cx:={ X with A:=X.A.mark (some e),calm:=false }
theorem Cx.Ok.held{X:Cx}(a:X.Ok)(e:Value):(X.held e).Ok:=⟨a.mod,a.kind,a.glob,a.blt,a.above,a.inj,a.has,a.VL,(λz=>nomatch z),a.frames,a.Wm,a.X3,a.bs,a.Ui,a.Si,a.Rq,a.oK,a.UU⟩
theorem Cx.Ok.R9{X:Cx}{e:Value}(a:(X.held e).Ok)(b:X.calm=true->X.A.handled=none):X.Ok:=⟨a.mod,a.kind,a.glob,a.blt,a.above,a.inj,a.has,a.VL,b,a.frames,a.Wm,a.X3,a.bs,a.Ui,a.Si,a.Rq,a.oK,a.UU⟩
section
variable{X:Cx}{a:fz}{g:St}{H:Hp}{s:Shared}
theorem Inv.held(I:Inv X a g H s)(e:Value):Inv (X.held e) a g H s:=⟨I.ok.held e,I.os,I.bare,I.base,I.loc,I.cell,I.free,I.ϐ,I.pin,I.χ,I.len⟩
theorem Inv.R9{e:Value}(I:Inv (X.held e) a g H s)(b:X.calm=true->X.A.handled=none):Inv X a g H s:=⟨I.ok.R9 b,I.os,I.bare,I.base,I.loc,I.cell,I.free,I.ϐ,I.pin,I.χ,I.len⟩
theorem Inv.moved{B:gy}{C:Heap}{tk:Nat}(I:Inv X a g H s)(k:Kept (ϝ X.stack) B s.heap C)(A:∀b∈B,H b=none/\X.s₀.heap.get? b=none/\b≠X.env.locals/\(∀x c,X.env.cells.lookup x=some c->c≠b)/\∀p∈X.pn++a,p.1≠b):Inv X a g H { s with heap:=C,toks:=tk }:=by
 have w:∀b o,X.s₀.heap.get? b=some o->b∉B:=λb o e z=>by rw[(A b z).2.1]at e;cases e
 have F:∀b o,X.s₀.heap.get? b=some o->b≠X.env.locals:=λb o e z=>absurd (bc (aI e) I.ok.above) (by rw[z];exact dh _);have t:∀b,b≠X.env.locals->b∉X.fs->b∉ϝ X.stack:=λb K G z=>(aG.mp (I.RX b z)).elim K G;have h:∀b o,s.heap.get? b=some o->b∉B->∃D,C.get? b=some { o with slots:=D }:=λb o e z=>by
  by_cases f:b∈ϝ X.stack
  .exact k.slot b o e f z
  .exact⟨o.slots,k.keep b o e f z⟩
 have cells:∀x c v,X.env.cells.lookup x=some c->s.heap.IsCell c v->C.IsCell c v:=λx c v e ⟨o,J,O⟩=>by
  obtain⟨D,q⟩:=h c o J λz=>(A c z).2.2.2.1 x c e rfl;exact⟨_,q,O⟩
 refine⟨I.ok,I.os,I.bare,⟨λb o e n E j=>?_,λb o e n E j=>?_,I.base.free,λb o e j=>?_,I.base.iS,I.base.ϸ,I.base.lE⟩,?_,λx c e=>?_,I.free,I.ϐ,λp M=>?_,tW I.χ k I.Ϯ λb P=>(A b P).1,I.len⟩
 .exact k.keep b o (I.base.keep b o e n E j) (t b (F b o e) E) (w b o e)
 .obtain⟨D,y⟩:=I.base.slot b o e n E j;obtain⟨R,S⟩:=h b _ y (w b o e);exact⟨R,S⟩
 .obtain⟨o1,y⟩:=I.base.there b o e j;exact k.there b o1 y
 .obtain⟨m,⟨o,es,ep,J,r⟩,l⟩:=I.loc;obtain⟨D,y⟩:=h _ o J λz=>(A _ z).2.2.1 rfl;refine⟨m,⟨_,es,ep,y,r⟩,λi x v K G Q=>?_⟩;obtain⟨u,T,L⟩:=l i x v K G Q;refine⟨u,T,?_⟩;rcases L with L|⟨N,c,e,z⟩
  .exact .inl L
  .exact .inr ⟨N,c,e,cells x c _ e z⟩
 .obtain⟨v,z⟩:=I.cell x c e;exact⟨v,cells x c v e z⟩
 .obtain⟨e,n,ne,nf,d⟩:=I.pin p M;exact⟨k.keep p.1 p.2 e (t p.1 ne nf) λz=>(A p.1 z).2.2.2.2 p M rfl,n,ne,nf,d⟩
theorem Inv.young(I:Inv X a g H s){b:Addr}(n:s.heap.get? b=none):X.s₀.heap.get? b=none\/b∈X.ex:=by
 by_cases z:b∈X.ex
 .exact .inr z
 .refine .inl ?_;cases q:X.s₀.heap.get? b with
  | none=>rfl
  | some o=>
    obtain⟨c,e⟩:=I.base.there b o q z;rw[n]at e;cases e
theorem Inv.apart(I:Inv X a g H s){b:Addr}(n:s.heap.get? b=none):b≠X.env.locals/\(∀x c,X.env.cells.lookup x=some c->c≠b)/\∀p∈X.pn++a,p.1≠b:=by
 refine⟨?_,λx c e z=>?_,λp f z=>?_⟩
 .rintro rfl;obtain⟨m,⟨o,i,h,d,r⟩,_⟩:=I.loc;rw[n]at d;cases d
 .obtain⟨v,o,d,hd⟩:=I.cell x c e;rw[z,n]at d;cases d
 .obtain⟨e,_⟩:=I.pin p f;rw[z,n]at e;cases e
end
section
variable{K:fv}{C a:Addr}{x:Addr}{d:Obj}{c:Option Obj}{M:Model}{A:Around}{E:fc}{s:Shared}{b:Bool}{Q:Bool->Shared->Prop}
theorem GN(X:K.In s.heap)(j:∃o,s.heap.get? x=some o/\o.cls=.ref C)(i:Sy K a)(m:PySem.W.mroIn K C (.ref a)=some b)(h:Q b s):wpAny M A (excMatches (.ref x) (.ref a)) Q E s:=by
 obtain⟨o,l,n⟩:=j;obtain⟨f,g,u,t,os⟩:=s;have y:PySem.W.Looks M f (typeOf (.ref x)) (.ref C):=n▸(PySem.W.Looks.ld l).andThen .now;have F:=jO (M:=M) X m;have G:=jO (M:=M) X i.mb;have z:=PySem.W.looks_typeIn (M:=M) X i.ty;have w:PySem.W.Looks M f (isSubtype (.type "type") (.type "tuple")) false:=.of_pure tc_notTuple;obtain⟨cd,e,_⟩:=ja i.hd;have p:PySem.W.Looks M f (isType (.ref a)) true:=by
  unfold PySem.W.clsIn at e;split at e
  .rename_i RG
   intro B v r D k q;unfold isType loadHead;exact aj (wpAny_loadPart (k _ _ (X _ _ RG)) (aM q))
  .cases e
 unfold excMatches isInstance isExcClass;cases b
 all_goals
  repeat lk
  exact h
end
structure Loose(X:Cx)(pins:fz)(H:Hp)(b:Addr):Prop where
 un:H b=none
 new:X.s₀.heap.get? b=none
 loc:b≠X.env.locals
 ZK:∀x c,X.env.cells.lookup x=some c->c≠b
 pin:∀p∈X.pn++pins,p.1≠b
theorem Loose.all{X:Cx}{a:fz}{H:Hp}{b:Addr}(l:Loose X a H b):H b=none/\X.s₀.heap.get? b=none/\b≠X.env.locals/\(∀x c,X.env.cells.lookup x=some c->c≠b)/\∀p∈X.pn++a,p.1≠b:=⟨l.un,l.new,l.loc,l.ZK,l.pin⟩
abbrev TH:=Ends->St->Value->Option Addr->Hp->Prop
def XB(X:Cx)(f:List ExceptHandler)(g:TH):Prop:=∀(a:fz)(s:Shared)(e:St)(H:Hp)(D:Ends)(c T:Addr)(b:Value)(d:Option Addr),Inv X a e H s->RO s.heap c T b d .none->Loose X a H c->Loose X a H T->g D e b d H->wpAny (model X.prog X.w) X.A (handleBy (.ref c) X.env f) (SP X a D) X.xe s
def Vv:TH:=λ_ _ _ _ _=>False
section
variable{X:Cx}{x n:Str}{l a:Pos}{i:Nat}{k:Addr}{d:Stmt}{m:List Stmt}{c:List ExceptHandler}{g:TS}{j:TH}
theorem KJ:XB X [] Vv:=λ_ _ _ _ _ _ _ _ _ _ _ _ _ h=>h.elim
def Jk(o:(St->XK)->TS)(f:TH):TS:=λD p H=>o (λb e h q=>f D b e h q) D p H
theorem J6{r:List Stmt}{M:ExceptHandler}{P:List ExceptHandler}{W:(St->XK)->TS}{R:TH}(N:X.ex=[])(K:X.stack=X.env::X.outer)(hf:X.env.frame=some X.env.locals)(t:PX (ψ X.prog X.w) X r W)(hh:XB X (M::P) R):PS X (.Try r (M::P) [] [] a) (Jk W R):=by
 intro o s Z H D I h;refine wpAny_Try_except (bu (t _ o s Z H D I h) (λf L q=>?_) λe A z=>?_)
 .cases f with
  | next=>exact gn q
  | ret v=>exact q
  | brk=>exact q
  | cont=>exact q
 .obtain⟨σ1,H1,L,I1,ea,T,cls,od,H',rfl,os,bare,un,χ,n1,n2,f1,f2,er,q⟩:=z;have J:=I1.Th (ch:=[]) os un χ bare (by simp);have p:∀b,L.heap.get? b=none->H' b=none->Loose X o H' b:=λb z u=>by
   obtain⟨E,B,C⟩:=I1.apart z;refine⟨u,?_,E,B,C⟩;rcases I1.young z with y|y
   .exact y
   .rw[N]at y;cases y
  have le:=p ea f1 n1;have lt:=p T f2 n2;have Q:=J.ok.frames;have st:=J.stack;rw[K]at Q st;refine CO Q st hf er λO V F S G=>?_;rw[<-K]at S;have J2:Inv X o σ1 H' { A with heap:=O }:=J.moved (tk:=A.toks) S λb t=>by
   simp only[aG,bX,or_false]at t;rcases t with rfl|rfl
   .exact le.all
   .exact lt.all
  have U:Loose X o H' V:=by
   obtain⟨E,B,C⟩:=J.apart G;refine⟨uI χ G,?_,E,B,C⟩;rcases J.young G with y|y
   .exact y
   .rw[N]at y;cases y
  refine sQ (fs:=ϝ X.stack) (s:={ A with heap:=O }) F λh3 ZL Y=>?_;have J3:Inv X o σ1 H' { A with heap:=h3 }:=J2.moved (tk:=A.toks) Y λb t=>by rw[ax.mp t];exact U.all
  exact hh o _ σ1 H' D ea V cls od J3 ZL le U q
end
def tR(a:List (Str×Addr)):List (Str×NameKind)->List (Str×Addr)->List (Str×Addr)
 | [],acc=>acc
 | (n,k)::r,acc=>if k==.free then tR a r ((n,(a.lookup n).getD 0)::acc)else tR a r acc
theorem Je{b:Scope}{d:Env}(h:∀y∈b.names,y.2=.free->(d.cells.lookup y.1).isSome=true):closureFor b d=pure (tR d.cells b.names []):=by
 have f:∀(l:List (Str×NameKind))(e:List (Str×Addr)),(∀y∈l,y.2=.free->(d.cells.lookup y.1).isSome=true)->(forIn l e λ(y:Str×NameKind)(c:List (Str×Addr))=>(if y.2==NameKind.free then do let a <-cellOf d y.1;pure (ForInStep.yield ((y.1,a)::c))else pure (ForInStep.yield c):Sem (ForInStep (List (Str×Addr)))))=(pure (tR d.cells l e):Sem (List (Str×Addr))):=by
  intro l
  induction l with
  | nil=>intro e _;rfl
  | cons y l ih=>
    obtain⟨n,k⟩:=y;intro e g;have o:=g (n,k) aP;have j:∀y∈l,y.2=.free->(d.cells.lookup y.1).isSome=true:=λy m=>g y (aL _ m);rw[mq];unfold tR;cases q:k==NameKind.free with
    | false=>
      simp only[cR,if_false,pure_bind];exact ih e j
    | true=>
      obtain⟨c,i⟩:=gm.mp (o (by simpa using q));dsimp only at i;simp only[if_true,cellOf,i,pure_bind,Option.getD_some];exact ih _ j
 have:=f b.names [] h;unfold closureFor;simp only[bind_pure];exact this
theorem zW{b:List (Str×Addr)}{x:Str}{c:Addr}:∀{l:List (Str×NameKind)}{e:List (Str×Addr)},(∀y∈l,y.2=.free->(b.lookup y.1).isSome=true)->(∀x c,e.lookup x=some c->b.lookup x=some c)->(tR b l e).lookup x=some c->b.lookup x=some c
 | [],e,_,h2,h3=>h2 x c h3
 | (n,k)::r,e,h1,h2,h3=>by
   have h:∀y∈r,y.2=.free->(b.lookup y.1).isSome=true:=λy f=>h1 y (aL _ f);unfold tR at h3;cases q:k==NameKind.free with
   | false=>
     rw[q]at h3;exact zW h h2 (by simpa using h3)
   | true=>
     rw[q]at h3;simp only[if_true]at h3;obtain⟨a,g⟩:=gm.mp (h1 (n,k) aP (by simpa using q));dsimp only at g;rw[g]at h3;refine zW h (λy d f=>?_) h3;rw[cz]at f;cases z:y==n with
     | true=>
       rw[z]at f;cases f;rw[eq_of_beq z];exact g
     | false=>
       rw[z]at f;exact h2 y d f
theorem Az{a:List (Str×Addr)}{x:Str}:∀{l:List (Str×NameKind)}{b:List (Str×Addr)},((∃c,b.lookup x=some c)\/(x,NameKind.free)∈l)->∃c,(tR a l b).lookup x=some c
 | [],b,h=>by
   rcases h with h|h
   .exact h
   .cases h
 | (n,k)::r,b,h=>by
   unfold tR;cases q:k==NameKind.free with
   | false=>
     simp only[cR,if_false];refine Az ?_;rcases h with h|h
     .exact .inl h
     .rcases aG.mp h with z|z
      .cases z;simp at q
      .exact .inr z
   | true=>
     simp only[if_true];refine Az ?_;by_cases z:x=n
     .subst z;exact .inl ⟨(a.lookup x).getD 0,by rw[cz];simp⟩
     .rcases h with⟨c,h⟩|h
      .refine .inl ⟨c,?_⟩;rw[cz];have:(x==n)=false:=(by simpa using z);rw[this];exact h
      .rcases aG.mp h with y|y
       .cases y;exact absurd rfl z
       .exact .inr y
theorem qY{env:Env}{x:Str}{k:NameKind}:∀{l:List (Str×NameKind)},l.lookup x=some k->(l.map λ(n,k)=>if(k==NameKind.free&&env.scope.kind==.function&&env.kindOf n==some .cell)then(n,NameKind.cell)else(n,k)).lookup x=some (if(k==NameKind.free&&env.scope.kind==.function&&env.kindOf x==some .cell)then NameKind.cell else k)
 | [],h=>by simp at h
 | (n,j)::r,h=>by
   have a:=@qY env x k r;rw[bh];rw[cz]at h;cases z:x==n with
   | true=>
     rw[z]at h;cases h;have e:=eq_of_beq z;subst e;by_cases q:(k==NameKind.free&&env.scope.kind==.function&&env.kindOf x==some .cell)=true
     .simp only[q,if_true,cz,z]
     .simp only[q,if_false,cz,z,cR]
   | false=>
     rw[z]at h;dsimp only;by_cases q:(j==NameKind.free&&env.scope.kind==.function&&env.kindOf n==some .cell)=true
     .rw[ao q,cz,z];exact a h
     .rw[ah q,cz,z];exact a h
theorem OD{X:Cx}{d:hO}{scope:Scope}(a:Nat)(b:List Nat)(s:∀y∈scope.names,y.2≠.cell)(G:scope.kind=.function)(v:∀y∈scope.names,y.2=.local->scope.names.lookup y.1=some .local)(E:d.length=a+b.length)(m:∀y∈scope.names,y.2=.free->X.env.scope.names.lookup y.1=some .cell)(A:X.env.scope.kind=.function)(F:∀x,X.env.scope.names.lookup x=some .cell->∃c,X.env.cells.lookup x=some c)(D:∀i,i<b.length->∃x j,d[a+i]?=some x/\b[i]?=some j/\X.N[j]?=some x/\scope.names.lookup x=some .free):Ϛ X d a b scope (tR X.env.cells scope.names []):=by
 have o:∀y∈scope.names,y.2=.free->(X.env.cells.lookup y.1).isSome=true:=λy u e=>by
  obtain⟨c,q⟩:=F _ (m y u e);rw[q]
  rfl
 have t:∀x,scope.names.lookup x=some .free->X.env.scope.names.lookup x=some .cell:=λx h=>m (x,.free) (dF h) rfl;refine⟨Je o,G,s,v,λx c h=>zW o (λx c z=>by simp at z) h,λx h=>?_,E,λi x h=>?_⟩
 .cases q:scope.names.lookup x with
  | none=>
    exfalso
    have:(relabel scope X.env).names.lookup x=none:=by
     unfold relabel;dsimp only
     revert q
     generalize scope.names=l
     induction l with
     | nil=>intro _;rfl
     | cons y l ih=>
       obtain⟨n,k⟩:=y;intro q;rw[cz]at q;cases z:x==n with
       | true=>rw[z]at q;cases q
       | false=>
         rw[z]at q;rw[bh];dsimp only;by_cases w:(k==NameKind.free&&X.env.scope.kind==.function&&X.env.kindOf n==some .cell)=true
         .rw[ao w,cz,z];exact ih q
         .rw[ah w,cz,z];exact ih q
    rw[this]at h;rcases h with h|h<;>cases h
  | some k=>
    have r:(relabel scope X.env).names.lookup x=some _:=qY (env:=X.env) q;cases k with
    | free=>exact Az (.inr (dF q))
    | cell=>exact absurd rfl (s _ (dF q))
    | _=>
      rw[r]at h;simp at h
 .have hi:i<b.length:=by
   have:=(ay.mp h).1
   lia
  obtain⟨y,j,p,C,B,f⟩:=D i hi;rw[h]at p;cases p;have g:=t x f;refine⟨j,C,B,g,?_⟩;have r:(relabel scope X.env).names.lookup x=some _:=qY (env:=X.env) f;rw[r];have:X.env.kindOf x=some .cell:=g;rw[this,A]
  rfl
theorem HA:∀{a:dm}{b:g8},Vals (a.map V.int) b->IntsAre b a
 | [],_,h=>by cases h;exact .nil
 | n::a,_,h=>by
   cases h with
   | cons r t=>
     obtain⟨k,rfl⟩:=(show ∃t,_=Value.int n t from r);exact .cons n k (HA t)
theorem HD:∀{b:dm}{a:g8},IntsAre a b->Vals (b.map V.int) a
 | _,_,.nil=>.nil
 | _,_,.cons n t r=>.cons ⟨t,rfl⟩ (HD r)
section
variable{X:Cx}
theorem G9:kI X (.builtin "sorted") (λj H Q=>∃(p:Addr)(d:dm),j=[.ref p]/\ξ X.K H p (d.map V.int)/\d.length<64/\∀(l:Addr)(c:dm),H l=none->c.Perm d->c.Pairwise (·<=·)->Q (.ref l) (upd H l (.lst (c.map V.int)))):=by
 intro m s D H j G Q I r h;obtain⟨p,d,rfl,x,y,q⟩:=h;obtain⟨u,rfl,v⟩:=mP r;cases v;obtain⟨g,C,z,E⟩:=I.list x;have k:=HA C;have F:=IntsAre.length k;refine sorted_ints z.isList k (by lia) λf c A i n=>?_;obtain⟨e,t⟩:=sortedAll_at s.heap g f;have w:H (s.heap.objs.size+1)=none:=I.χ.fresh (ft _);have B:c.length=d.length:=i.length_eq;refine⟨.ref (s.heap.objs.size+1),_,I.laid (a:=s.heap.objs.size+1) (o:=.lst (c.map V.int)) (t':=s.toks) (λb o e=>sortedAll_old e) (ft _) ⟨?_,f.toList,e,HD A,?_⟩,rfl,q _ c w i n⟩
 .rw[ag,B];exact bL (by lia)
 .exact t
end
theorem OI{K:fv}{C T:Addr}{e:Value}{f:Option Addr}{cd:ClassData}{g:Array (Option Value)}(h:K.lookup C=some ⟨e,f,.cls cd,g⟩)(m:cd.mro=.ref C::.ref T::Sx)(c:Addr):PySem.W.mroIn K C (.ref c)=some (decide (c=C)||decide (c=T)):=by
 unfold PySem.W.mroIn PySem.W.clsIn;rw[h];simp only[kM,m,List.isEmpty_cons,cR,if_false]
 congr 1
 by_cases d:c=C
 .subst d;simp
 .by_cases h2:c=T
  .subst h2;simp
  .have a:(Value.ref c==Value.ref C)=false:=(by simpa using d);have b:(Value.ref c==Value.ref T)=false:=(by simpa using h2);simp[d9,a,b,d,h2]
structure Q3(K:fv)(T C:Addr):Prop where
 x:Sy K C
 mr:∀C',PySem.W.mroIn K C (.ref C')=some (decide (C'=C)||decide (C'=T))
 mv:PySem.W.mroIn K C (.type "ValueError")=some true
theorem BS{K:fv}{C:Addr}{a:Value}{b:Option Addr}{cd:ClassData}{d:Array (Option Value)}{r:g8}(h:K.lookup C=some ⟨a,b,.cls cd,d⟩)(m:cd.mro=.ref C::r){v:Value}(c:(Value.ref C::r).contains v=true):PySem.W.mroIn K C v=some true:=by
 unfold PySem.W.mroIn PySem.W.clsIn;rw[h];simp only[kM,m,List.isEmpty_cons,cR,if_false,c]
section
variable{K:fv}{T C:Addr}{e:Value}{f:Option Addr}{d:ClassData}{g:Array (Option Value)}
theorem HP{r:g8}(o:PySem.W.typeIn K (.ref C)=some (.type "type"))(i:PySem.W.findIn K (.ref C) "__getattribute__"=some (some (.builtin "BaseException.__getattribute__")))(k:PySem.W.findIn K (.ref C) "__getattr__"=some none)(l:PySem.W.findIn K (.ref C) "__class__"=some (some (.builtin "object.__class__")))(j:PySem.W.specialIn K (.builtin "object.__class__") "__get__"=some (some (.builtin "getset_descriptor.__get__")))(n:PySem.W.takesIn K (.builtin "object.__class__")=some true)(c:PySem.W.hasDictIn K C=true)(h:K.lookup C=some ⟨e,f,.cls d,g⟩)(m:d.mro=.ref C::r)(a:r.contains (.type "object")=true)(b:r.contains (.type "BaseException")=true):Sy K C:=⟨o,i,k,l,j,n,BS h m (by rw[d9,a,jG]),BS h m (by rw[d9,b,jG]),c,BS h m (by simp)⟩
structure Yt(K:fv)(T:Addr):Prop where
 x:Sy K T
theorem OU(l:PySem.W.typeIn K (.ref C)=some (.type "type"))(b:PySem.W.findIn K (.ref C) "__getattribute__"=some (some (.builtin "BaseException.__getattribute__")))(i:PySem.W.findIn K (.ref C) "__getattr__"=some none)(j:PySem.W.findIn K (.ref C) "__class__"=some (some (.builtin "object.__class__")))(c:PySem.W.specialIn K (.builtin "object.__class__") "__get__"=some (some (.builtin "getset_descriptor.__get__")))(k:PySem.W.takesIn K (.builtin "object.__class__")=some true)(a:PySem.W.hasDictIn K C=true)(h:K.lookup C=some ⟨e,f,.cls d,g⟩)(m:d.mro=.ref C::Sx):Yt K C:=⟨HP l b i j c k a h m (by decide +kernel) (by decide +kernel)⟩
theorem OX(p:PySem.W.typeIn K (.ref C)=some (.type "type"))(j:PySem.W.findIn K (.ref C) "__getattribute__"=some (some (.builtin "BaseException.__getattribute__")))(l:PySem.W.findIn K (.ref C) "__getattr__"=some none)(n:PySem.W.findIn K (.ref C) "__class__"=some (some (.builtin "object.__class__")))(k:PySem.W.specialIn K (.builtin "object.__class__") "__get__"=some (some (.builtin "getset_descriptor.__get__")))(o:PySem.W.takesIn K (.builtin "object.__class__")=some true)(i:PySem.W.hasDictIn K C=true)(h:K.lookup C=some ⟨e,f,.cls d,g⟩)(m:d.mro=.ref C::.ref T::Sx):Q3 K T C:=by
 have a:(Value.ref T::Sx).contains (.type "object")=true:=by rw[d9];simp[Sx]
 have b:(Value.ref T::Sx).contains (.type "BaseException")=true:=by rw[d9];simp[Sx]
 have c:(Value.ref T::Sx).contains (.type "ValueError")=true:=by rw[d9];simp[Sx]
 exact⟨HP p j l n k o i h m a b,OI h m,BS h m (by rw[d9,c,jG])⟩
end
section
variable{P:Program}{w:World}{K:fv}{b:hL}{a:Heap}
theorem U0.ϯ{x d:Str}{st:Stmt}{f:Addr}{l:FuncData}{N h:hO}{k:Nat}{j:Sp}(F:U0 K x d st f l)(S:ε N h (aF st))(i:∀e H Q E,j e H Q E->e.length=h.length)(o:∀(g:Value) (A:Around) (c:List Env) (s:Shared) (H:Hp) (e:List V) (Q:VK) (E:XK),Ρ k (A.deeper (envOfC d (aF st) s.heap.objs.size f g))->j e H Q E->∃t,Sl (qj (ψ P w) P w K b a N d (aF st) f g A c s H E) (jh st) t/\t { nx:=λ_ r=>Q .τ r,rt:=Q } (start N e) H):ϋ P w K b a (ψ P w) (k+1) f l h j:=by
 obtain⟨C,D,kV,q,v,y,g,B,z,rfl,u,n⟩:=F.ex;exact NF u n S i λA c s H e Q E p m=>o g A c s H e Q E p m
end
theorem DF{C:Addr}{E:XK}{t:TA}{D:Ends}{a:St}{H:Hp}:KO C E t D a H=t a H λc b=>c.length<=sizeLine/\E (.ref C) none b:=rfl
theorem HG{d:(St->XK)->TS}{c:TH}{D:Ends}{e:St}{H:Hp}:Jk d c D e H=d (λa b f g=>c D a b f g) D e H:=rfl
theorem ML{H:Hp}{l b:Addr}{a c:List V}{Q:VK}(d:H l=some (.lst a))(e:H b=some (.lst c))(f:a.length+c.length<=sizeLine)(q:∀p,H p=none->Q (.ref p) (upd H p (.lst (a++c)))):Rj (.ref l) (.ref b) H Q:=⟨l,b,a,c,rfl,rfl,d,e,f,q⟩
theorem γ.put{H a:Hp}{l:Addr}(e:γ H a)(n:H l=none)(o:HO):γ H (upd a l o):=λb u h=>by rw[aY (cP h n)];exact e b u h
theorem Gz(i:Int):∀a:List Int,Wx (.int i) (a.map V.int)=decide (i∈a)
 | []=>by simp[Wx]
 | n::a=>by
   have b:=Gz i a;unfold Wx at b ⊢;rw[bh,hG,b];have e:Ub (.int n) (.int i)=decide (n=i):=by first|rfl|simp[Ub]
   rw[e];by_cases h:i=n
   .subst h;simp
   .simp[h,Ne.symm h]
theorem Dq:∀a:List Int,(a.map V.int).all rA=true
 | []=>rfl
 | n::a=>by rw[bh,nM,Dq a];rfl
theorem inL{K:fv}{a:Bool}{H:Hp}{p:Addr}{i:Int}{b:dm}{Q:VK}(h:H p=some (.lst (b.map V.int)))(q:Q (.bl (if a then !decide (i∈b)else decide (i∈b))) H):rIn K a (.int i) (.ref p) H Q:=by
 refine⟨p,_,rfl,.inl (ξ.of h),rfl,Dq b,?_⟩;rw[Gz];exact q
theorem EY{M:Model}{A:Around}{E:fc}{s:Shared}{a:Env}{x:Str}{b:Pos}{v:Value}{Q:Unit->Shared->Prop}(h:wpAny M A (storeName a x v) Q E s):wpAny M A (assign (.Name x b) a v) Q E s:=by
 show wpAny M A (do standAt b;bindName a x v) Q E s;exact aj (cH (my h))
section
variable{X:Cx}{f:hO}{j:Nat}{k:List Nat}{scope:Scope}{a:List (Str×Addr)}
theorem wH{i:Nat}{x:Str}{px az:Pos}{Y l K:Expr}{U:List Expr}{Θ:Pos}{wi:TI}{g:TG}{tc:TT}{te:TE}(hN:X.N.Nodup)(b0:X.N[i]?=some x)(Yu:X.env.scope.names.lookup x=some .local)(hc:X.calm=true)(T:Ϛ X f j k scope a)(hi:PI X l K wi)(hg:∀C B E z,PG (X.comp f scope a C B E z) l g)(ht:∀C B E z,WH (X.comp f scope a C B E z) U tc)(he:∀C B E z,PE (X.comp f scope a C B E z) Y te)(hs:∀x,foldedSetIterable K X.env x=pure x:=by intro _;rfl)(bk:swapsWith (.ListComp Y [⟨l,K,U,0⟩] scope Θ) (some (.Name x px)) az.line X.env=pure true:=by rfl):PS X (.Assign [.Name x px] (.ListComp Y [⟨l,K,U,0⟩] scope Θ) az) (Ar (AW j k wi g tc te) (uc i)):=by
 intro Q s σ H D I h;rw[exec_Assign_Name_used _ _ _ _ bk];refine aj (cH (aj ?_));rw[arm_evalThenUse_ListComp];refine aj ?_;refine gi (use:=some (assign (.Name x px) X.env)) rfl hs T.Up T.kind T.names (Χ (hi Q s σ H _ I h) λv s1 h1=>Χ h1 λXw m h2=>?_);obtain⟨it,z,tn,J,H1,rfl,Z,Tn,st,f1,R⟩:=h2;have RZ:∀b∈z,b<m.heap.objs.size:=λb G=>let ⟨o,e,_⟩:=Tn.obj _ _ st b G;aI e;refine db (gZ T.Rr (by intro y hy;simp at hy) (λL Ψ Κ=>?_) T.kind);dsimp only at Ψ Κ ⊢;generalize S9:m.heap.push { cls:=.type "list",dict:=none,data:=.seq ([]:g8).toArray }=F at Ψ Κ ⊢;have hC:F.objs.size=m.heap.objs.size+1:=by rw[<-S9,de]
 have TJ:m.heap.objs.size≠F.objs.size:=by rw[hC];exact aU (eF _)
 have ϖ:m.heap.objs.size<=F.objs.size:=by rw[hC];exact ft _
 have cM:∀b,b<m.heap.objs.size->b≠F.objs.size:=λb G=>by rw[hC];exact aU (eV G)
 have av:∀b o,m.heap.get? b=some o->L.get? b=some o:=λb o e=>Κ.extBut b o (cM b (aI e)) (au _ (S9▸au _ e));have ϻ:∃n,L.get? m.heap.objs.size=some { cls:=.type "list",data:=.seq ([]:g8).toArray n }:=⟨_,Κ.extBut _ _ TJ (au _ (S9▸bg _ rfl))⟩;have aC:tn 0 L:=Tn.keep _ _ _ st λb _ o e=>av b o e;obtain⟨W,⟨m0,w0⟩,a0⟩:=R m.heap.objs.size Z.fresh;have Ic:=wu (t:=m.toks+([]:List (Str×Value)).length) T Z ϖ (aN _) TJ f1 RZ av Ψ ϻ;generalize R3:X.comp f scope a F.objs.size m H1 z=Xc at Ic;have O:∀{V:Hp},(∀b∈z,V b=none)->∀b∈z,nN Xc [] V b:=λ{V} hn b G=>by
  subst R3;exact⟨hn b G,cM b (RZ b G),(vy T Z ϖ f1 RZ).Rq b G,.inl G,λx c e=>(f1 b G).2.2.2.2.1 x c (T.cells x c e),λp hp=>by cases hp⟩
 have WL:∀b∈z,upd H1 m.heap.objs.size (.lst []) b=none:=λb G=>by
  rw[aY (aU (RZ b G))];exact(f1 b G).1
 have Ur:Xc.calm=true:=by subst R3;exact hc
 have ab:∀P:Shared,P={ m with heap:=L,toks:=m.toks+([]:List (Str×Value)).length }->codeAny (model X.prog X.w) X.A (.compLoop (.ListComp Y [⟨l,K,U,0⟩] scope Θ) 0 (.ref it) (.ref m.heap.objs.size) (compEnvC scope a F.objs.size X.env))
  (compPost (model X.prog X.w) X.A X.xe (some (assign (.Name x px) X.env)) (λ_ s'=>wpAny (model X.prog X.w) X.A (pure ()) (λ_ Vk=>wpAny (model X.prog X.w) X.A (pure Flow.next) (SP X Q D) X.xe Vk) X.xe s') (.ref m.heap.objs.size) F.objs.size) P:=by
  rintro P rfl;refine zy (λn s'=>∃i ys a1 V,Inv Xc [] a1 V s'/\tn i s'.heap/\(∀b∈z,V b=none)/\W i n ys a1 V) ?_ m0 ⟨0,[],_,_,Ic,aC,WL,w0⟩;rintro n s3 ⟨i,ys,S,H3,I3,Rh,Tj,w3⟩;rcases a0 i n ys S H3 w3 with⟨stop,q⟩|⟨go,step⟩
  .subst R3;refine Χ (Tn.done (X.comp f scope a F.objs.size m H1 z) rfl rfl rfl hc i [] s3 S H3 _ I3 (O Tj) Rh stop) λr s4 ⟨hr,I4⟩=>?_;subst hr;obtain⟨m4,WM,_⟩:=id I4.loc;have J:=rT Z ϖ f1 I4 (h':=s4.heap) (Heap.SameBut.refl _ _);have Yv:F.objs.size≠X.env.locals:=eX (bc Z.lt ϖ);have cy:X.s₀.heap.objs.size<=F.objs.size:=aR Z.sz ϖ;have cc:∀y c,X.env.cells.lookup y=some c->c≠F.objs.size:=λy c e=>by
    obtain⟨v',o',RG,_⟩:=Z.cell y c e;exact aU (bc (aI RG) ϖ)
   have cp:∀p∈X.pn++Q,p.1≠F.objs.size:=λp hp=>by
    obtain⟨RG,_⟩:=Z.pin p hp;exact aU (bc (aI RG) ϖ)
   refine EY (yA (v:=.ref m.heap.objs.size) J hN b0 (.inl Yu) rfl (λs5 I5 ⟨ad,sb,WV⟩=>?_) (.inr Yu));have bx:F.objs.size≠ad:=by
    rcases WV with rfl|WV
    .exact Yv
    .exact(cc _ _ WV).symm
   obtain⟨oo,es,ep,e1,e2⟩:=WM;refine⟨m4,⟨oo,es,ep,(sb.2 _ bx).trans e1,e2⟩,λh' Us=>aM (aM ⟨_,H3,?_,q⟩)⟩;exact I5.turned (it:=F.objs.size) (t':=s5.toks) (λb o n e=>Us.extBut b o n e) I4.free Yv (.inr cy) cc cp
  .subst R3;refine Χ (Tn.item (X.comp f scope a F.objs.size m H1 z) rfl rfl rfl hc i [] s3 S H3 _ I3 (O Tj) Rh go) λr s4 ⟨u,hr,h4⟩=>?_;subst hr;refine Χ h4 λ_ s5 ⟨x,H5,I5,r5,y5,Rn,Vf⟩=>?_;have Vg:=I5.pinned (O Vf) (Tn.obj _ _ Rn);have ac:∀{ai:St}{H7:Hp}{s7:Shared},Inv (X.comp f scope a F.objs.size m H1 z) ([]++mh z s5.heap) ai H7 s7->Inv (X.comp f scope a F.objs.size m H1 z) [] ai H7 s7/\tn (i+1) s7.heap/\∀b∈z,H7 b=none:=λ{ai H7 s7} I7=>by
    refine⟨I7.ϔ,Tn.keep _ _ _ Rn λb G o e=>(I7.pin (b,o) (aX _ (aX _ (iM G e)))).1,λb G=>?_⟩;obtain⟨o,e,d⟩:=Tn.obj _ _ Rn b G;exact(I7.pin (b,o) (aX _ (aX _ (iM G e)))).2.1
   refine Χ (hg _ _ _ _ _ s5 S H5 x u _ Vg r5 (step x H5 y5)) λ_ s6 ⟨M,H6,I6,q6⟩=>?_;refine we (ht _ _ _ _ _ s6 M H6 _ I6 q6) λok s7 H7 I7 q7=>?_;cases ok with
   | false=>
     rw[ah bi]at q7 ⊢;obtain⟨m',hm,w7⟩:=q7;obtain⟨J1,J2,J3⟩:=ac I7;exact⟨m',hm,i+1,ys,M,H7,J1,J2,J3,w7⟩
   | true=>
     rw[ao rfl]at q7 ⊢;refine dP (he _ _ _ _ _ s7 M H7 _ I7 q7) λy s8 yv H8 I8 r8 ⟨WN,WO,m',hm,w8⟩=>?_;refine Χ (eG _ s8 M H8 (.ref m.heap.objs.size) [yv] _ [y] (λv' V=>W (i+1) m' (ys++[yv]) M V) I8 rfl (.cons r8 .nil) ⟨_,ys,yv,rfl,rfl,WN,WO,w8⟩) λv9 s9 ⟨_,H9,I9,_,w9⟩=>?_;obtain⟨J1,J2,J3⟩:=ac I9;exact⟨m',hm,i+1,ys++[yv],M,H9,J1,J2,J3,w9⟩
 exact gC (ab _ rfl) (Tn.self _ 0 _ _ _ aC (ab _ rfl))
end
end L2
namespace Pb
open L2 PySem
def front(r:Int)(a:dt)(p:Int):V:=if p=r then .τ else .int (a p)
def fh(m:Int)(s:hU)(a:V)(p:Int):List Int:=(jN m s p).filter λv=>decide (V.int v≠a)
variable{m:Int}{s:hU}{r:Int}{par:dt}{d:ew}
theorem ζ.ne(R:ζ m s r par d){v:Int}(a:0<=v)(c:v<m)(b:v≠r):par v≠v:=λz=>by
 have:=(R.up v a c b).2.2;rw[z]at this
 lia
theorem gW(g:Good m s)(R:ζ m s r par d){p v:Int}(t:0<=p)(l:p<m):v∈fh m s (front r par p) p↔(0<=v/\v<m)/\v≠r/\par v=p:=by
 unfold fh;rw[ci,zN g,b8]
 constructor
 .rintro⟨ad,hf⟩;obtain⟨_,k,_⟩:=g.Vs ad;refine⟨k,?_⟩;obtain⟨x,i,j⟩:=ad;have f:∀u w:Int,(u≠r/\par u=w)\/(w≠r/\par w=u)->u=p->w=v->v≠r/\par v=p:=λu w h o n=>by
   subst o n;rcases h with h|h
   .exfalso
    apply hf;unfold front;rw[ah h.1,h.2]
   .exact h
  rcases j with⟨a,b⟩|⟨a,b⟩
  .exact f x.a x.b (R.road x i) a b
  .exact f x.b x.a (R.road x i).symm a b
 .rintro⟨k,hr,hp⟩;have u:=R.up v k.1 k.2 hr;rw[hp]at u;refine⟨?_,λz=>?_⟩
  .obtain⟨x,i,j⟩:=u.2.1;exact⟨x,i,j.elim (λq=>.inr ⟨q.2,q.1⟩) (λq=>.inl ⟨q.2,q.1⟩)⟩
  .unfold front at z;by_cases c:p=r
   .rw[ao c]at z;cases z
   .rw[ah c]at z;have e:v=par p:=(by injection z);have w:=(R.up p t l c).2.2;have y:=u.2.2;rw[<-e]at w
    lia
theorem vX{a:V}{p:Int}:(fh m s a p).Nodup:=(BG m s p).filter _
def nl(m:Int)(par:dt)(a:dm):List V:=(cM m.toNat).map λv=>if v∈a then .int (par v)else .τ
def pZ(m r:Int)(par:dt):List V:=(cM m.toNat).map (front r par)
theorem t6{a:dm}:(nl m par a).length=m.toNat:=by unfold nl;rw[ag,dq]
theorem lD{n i:Nat}(h:i<n):(cM n)[i]?=some (i:Int):=by unfold cM;rw[aQ,nO h];rfl
theorem J9{ks:dm}{v:Int}(a:0<=v)(b:v<m):(nl m par ks)[v.toNat]?=some (if v∈ks then .int (par v)else .τ):=by
 unfold nl;rw[aQ,lD (by lia)];show some (if((v.toNat:Nat):Int)∈ks then V.int (par ((v.toNat:Nat):Int))else V.τ)=_;rw[bJ a]
theorem Pa{ks:dm}{v:Int}(b:0<=v)(f:v<m):(nl m par ks).set v.toNat (.int (par v))=nl m par (ks++[v]):=by
 refine gU λi=>?_;rw[List.getElem?_set];by_cases c:i<m.toNat
 .have e:∀l:List Int,(nl m par l)[i]?=some (if(i:Int)∈l then .int (par (i:Int))else .τ):=λl=>by
   have:=J9 (par:=par) (ks:=l) (v:=(i:Int)) (m:=m) (by lia) (by lia)
   rwa [eE]at this
  rw[e,t6];by_cases z:v.toNat=i
  .have a:v=(i:Int):=(by lia);rw[ao z,ao (by lia),e,ao (by rw[a];simp),<-a]
  .rw[ah z,e];have a:¬((i:Int)=v):=(by lia);simp[a]
 .have e:∀l:List Int,(nl m par l)[i]?=none:=λl=>ce (by rw[t6];lia);rw[e,e,t6];by_cases z:v.toNat=i
  .lia
  .rw[ah z]
structure ϩ(m:Int)(s:hU)(r:Int)(par:dt)(ks ws:dm):Prop where
 nd:ks.Nodup
 ϭ:∀k∈ks,0<=k/\k<m
 nr:r∉ks
 sub:∀w∈ws,w=r\/w∈ks
 XE:ws.Nodup
 ok:∀v∈ks,par v∉ws/\(par v=r\/par v∈ks)
 dn:∀v,0<=v->v<m->v≠r->(par v=r\/par v∈ks)->par v∉ws->v∈ks
theorem ϩ.start:ϩ m s r par [] [r] where
 nd:=List.nodup_nil
 ϭ:=λ_ h=>by cases h
 nr:=λh=>by cases h
 sub:=λw h=>.inl (ax.mp h)
 XE:=by simp
 ok:=λ_ h=>by cases h
 dn:=λv _ _ _ h n=>by
  rcases h with h|h
  .exact absurd (by rw[h];simp) n
  .cases h
theorem ϩ.at_(J:ϩ m s r par ks ws)(c:0<=r)(b:r<m){p:Int}(a:p∈ws):0<=p/\p<m:=by
 rcases J.sub p a with h|h
 .rw[h];exact⟨c,b⟩
 .exact J.ϭ p h
theorem ϩ.front(J:ϩ m s r par ks ws){p:Int}(a:p∈ws):(if p∈ks then V.int (par p)else V.τ)=front r par p:=by
 unfold Pb.front;by_cases c:p=r
 .rw[ao c,ah (by rw[c];exact J.nr)]
 .rw[ah c,ao ((J.sub p a).resolve_left c)]
theorem ϩ.step(g:Good m s)(R:ζ m s r par d)(G:0<=r)(I:r<m){l j ws':dm}{p:Int}(J:ϩ m s r par l j)(e:j.Perm (p::ws')):ϩ m s r par (l++fh m s (Pb.front r par p) p) (ws'++fh m s (Pb.front r par p) p):=by
 have B:p∈j:=e.mem_iff.mpr aP;have D:=J.at_ G I B;have f:∀v,v∈fh m s (Pb.front r par p) p↔(0<=v/\v<m)/\v≠r/\par v=p:=λv=>gW g R D.1 D.2;have y:(fh m s (Pb.front r par p) p).Nodup:=vX;generalize fh m s (Pb.front r par p) p=E at f y ⊢;have i:∀v∈E,v∉l:=λv x z=>(J.ok v z).1 (by rw[((f v).mp x).2.2];exact B);obtain⟨K,F⟩:=bI.mp (e.nodup_iff.mp J.XE);have u:∀w∈ws',w∈j:=λw A=>e.mem_iff.mpr (aL _ A);refine⟨?_,?_,?_,?_,?_,?_,?_⟩
 .rw[fP];exact⟨J.nd,y,λa C b q z=>i b q (z▸C)⟩
 .intro k hk;rcases aK.mp hk with h|h
  .exact J.ϭ k h
  .exact((f k).mp h).1
 .intro z;rcases aK.mp z with h|h
  .exact J.nr h
  .exact((f r).mp h).2.1 rfl
 .intro w A;rcases aK.mp A with h|h
  .exact(J.sub w (u w h)).imp id (bH _)
  .exact .inr (aX _ h)
 .rw[fP];refine⟨F,y,λa C b q z=>?_⟩;subst z;rcases J.sub a (u a C)with h|h
  .exact((f a).mp q).2.1 h
  .exact i a q h
 .intro v x;rcases aK.mp x with h|h
  .obtain⟨o1,o2⟩:=J.ok v h;refine⟨λz=>?_,o2.imp id (bH _)⟩;rcases aK.mp z with z|z
   .exact o1 (u _ z)
   .rcases o2 with o|o
    .exact((f _).mp z).2.1 o
    .exact i _ z o
  .obtain⟨q1,q2,q3⟩:=(f v).mp h;rw[q3];refine⟨λz=>?_,(J.sub p B).imp id (bH _)⟩;rcases aK.mp z with z|z
   .exact K z
   .obtain⟨w1,w2,w3⟩:=(f p).mp z;exact R.ne w1.1 w1.2 w2 w3
 .intro v v0 v1 vr h n;have t:par v∉E:=λz=>n (aX _ z);have H:par v=r\/par v∈l:=h.imp id λz=>(aK.mp z).resolve_right t;by_cases c:par v=p
  .exact aX _ ((f v).mpr ⟨⟨v0,v1⟩,vr,c⟩)
  .refine bH _ (J.dn v v0 v1 vr H λz=>?_);rcases aG.mp (e.mem_iff.mp z)with z|z
   .exact c z
   .exact n (bH _ z)
theorem ϩ.perm{c b a:dm}(J:ϩ m s r par c b)(e:b.Perm a):ϩ m s r par c a where
 nd:=J.nd
 ϭ:=J.ϭ
 nr:=J.nr
 sub:=λw h=>J.sub w (e.mem_iff.mpr h)
 XE:=e.nodup_iff.mp J.XE
 ok:=λv h=>⟨λz=>(J.ok v h).1 (e.mem_iff.mpr z),(J.ok v h).2⟩
 dn:=λv f i g h n=>J.dn v f i g h λz=>n (e.mem_iff.mp z)
theorem ϩ.all(R:ζ m s r par d){h:dm}(J:ϩ m s r par h []):∀v,0<=v->v<m->v≠r->v∈h:=by
 have g:∀n v,d v=n->0<=v->v<m->v≠r->v∈h:=by
  intro n
  induction n with
  | zero=>
    intro v e a f b;have:=(R.up v a f b).2.2
    lia
  | succ n ih=>
    intro v e a f b;have u:=R.up v a f b;refine J.dn v a f b ?_ (by simp);by_cases c:par v=r
    .exact .inl c
    .exact .inr (ih (par v) (by lia) u.1.1 u.1.2 c)
 exact λv=>g _ v rfl
theorem ϩ.done(R:ζ m s r par d){e:dm}(J:ϩ m s r par e []):nl m par e=pZ m r par:=by
 unfold nl pZ;refine dG λv a=>?_;have b:0<=v/\v<m:=by
  unfold cM at a;obtain⟨k,f,rfl⟩:=aW.mp a;have:=eD.mp f
  lia
 unfold Pb.front;by_cases c:v=r
 .rw[ao c,ah (by rw[c];exact J.nr)]
 .rw[ah c,ao (J.all R v b.1 b.2 c)]
theorem wa(n:Nat)(v:V):(List.replicate n [v]).flatten=List.replicate n v:=by
 induction n with
 | zero=>rfl
 | succ n ih=>rw[dg,fW,ih,dg];rfl
theorem PY:nl m par []=List.replicate m.toNat V.τ:=by
 unfold nl;refine gU λi=>?_;by_cases c:i<m.toNat
 .rw[aQ,lD c,i6,ao c];simp
 .rw[ce (by rw[ag,dq];lia),ce (by rw[dy];lia)]
def nz(par:dt):Nat->Int->List Int
 | 0,v=>[v]
 | n+1,v=>v::nz par n (par v)
theorem ζ.pos(R:ζ m s r par d){v:Int}(a:0<=v)(c:v<m)(b:v≠r):d v=d (par v)+1:=(R.up v a c b).2.2.symm
theorem AV(R:ζ m s r par d):∀(n:Nat)(v:Int),d v=n->0<=v->v<m->(nz par n v).Nodup/\(∀x∈nz par n v,(0<=x/\x<m)/\d x<=n)/\(nz par n v).length=n+1
 | 0,v,e,h0,h1=>⟨by unfold nz;simp,λx hx=>by
  unfold nz at hx;rw[ax.mp hx];exact⟨⟨h0,h1⟩,by lia⟩,rfl⟩
 | n+1,v,e,h0,h1=>by
   have c:v≠r:=λz=>by rw[z,R.root]at e;lia
   have u:=R.up v h0 h1 c;obtain⟨f,a,b⟩:=AV R n (par v) (by lia) u.1.1 u.1.2;unfold nz;refine⟨bI.mpr ⟨λz=>?_,f⟩,λx hx=>?_,by rw[aJ,b]⟩
   .have:=(a v z).2
    lia
   .rcases aG.mp hx with rfl|hx
    .exact⟨⟨h0,h1⟩,by lia⟩
    .exact⟨(a x hx).1,by have:=(a x hx).2;lia⟩
theorem tQ(R:ζ m s r par d){v:Int}(b:0<=v)(f:v<m):d v+1<=m.toNat:=by
 obtain⟨e,a,g⟩:=AV R _ v rfl b f;have:=gY (m:=m) (by lia) e λx c=>(a x c).1
 lia
theorem zM{v:Int}(a:0<=v)(b:v<m):(pZ m r par)[v.toNat]?=some (front r par v):=by
 unfold pZ;rw[aQ,lD (by lia)];show some (front r par ((v.toNat:Nat):Int))=_;rw[bJ a]
theorem pV(g:Good m s)(R:ζ m s r par d){v:Int}(f:0<=v)(o:v<m)(l:v≠r):∃k,fg s v (par v)=some k/\2<=k/\k<=1000000:=by
 obtain⟨x,e,j⟩:=(R.up v f o l).2.1;obtain⟨i,h⟩:=cq e;have ok:=g.ok x e;rw[xq g h j];unfold mI;by_cases c:x.a=v/\x.b=par v
 .rw[ao c];exact⟨_,rfl,ok.t0,ok.t1⟩
 .rw[ah c];have n:x.a=par v/\x.b=v:=by
   rcases j with j|j
   .exact absurd j c
   .exact⟨j.2,j.1⟩
  rw[ao n];exact⟨_,rfl,ok.u0,ok.u1⟩
def su(m:Int)(s:hU)(r:Int)(par:dt):Nat->Int->List Int
 | 0,v=>[v]
 | n+1,v=>v::(fh m s (front r par v) v).flatMap (su m s r par n)
def iL(m:Int)(s:hU)(r:Int)(par:dt)(d:ew)(v:Int):List Int:=su m s r par (m.toNat-1-d v) v
theorem vC{f h:Int->List Int}:∀{l:dm},(∀x∈l,f x=h x)->l.flatMap f=l.flatMap h
 | [],_=>rfl
 | a::l,e=>by rw[dJ,dJ,e a aP,vC λx b=>e x (aL _ b)]
theorem rS(g:Good m s)(R:ζ m s r par d){v:Int}(f:0<=v)(k:v<m):iL m s r par d v=v::(fh m s (front r par v) v).flatMap (iL m s r par d):=by
 have i:∀u,u∈fh m s (front r par v) v->(0<=u/\u<m)/\u≠r/\par u=v:=λu=>(gW g R f k).mp;have c:∀u∈fh m s (front r par v) v,d u=d v+1/\d u+1<=m.toNat:=λu a=>by
  obtain⟨b,h,j⟩:=i u a;have:=R.pos b.1 b.2 h;rw[j]at this;exact⟨this,tQ R b.1 b.2⟩
 unfold iL;cases e:m.toNat-1-d v with
 | zero=>
   have:fh m s (front r par v) v=[]:=ju.mpr λu a=>by
    have:=c u a
    lia
   rw[this]
   rfl
 | succ n=>
   show v::(fh m s (front r par v) v).flatMap (su m s r par n)=_;rw[vC λu a=>show su m s r par n u=su m s r par (m.toNat-1-d u) u by rw[show m.toNat-1-d u=n by have:=c u a;lia]]
def up(par:dt):Nat->Int->Int
 | 0,x=>x
 | k+1,x=>par (up par k x)
theorem BL{f:Int->List Int}:∀{l:dm},l.Nodup->(∀u∈l,(f u).Nodup)->(∀u∈l,∀w∈l,∀x,x∈f u->x∈f w->u=w)->(l.flatMap f).Nodup
 | [],_,_,_=>by simp
 | a::l,n,h1,h2=>by
   obtain⟨i,h⟩:=bI.mp n;rw[dJ,fP];refine⟨h1 a aP,BL h (λu e=>h1 u (aL _ e)) (λu e w b=>h2 u (aL _ e) w (aL _ b)),λx g y j z=>?_⟩;subst z;obtain⟨w,b,c⟩:=gQ.mp j;have:=h2 a aP w (aL _ b) x g c;exact i (this▸b)
theorem yH(g:Good m s)(R:ζ m s r par d):∀(n:Nat)(v:Int),0<=v->v<m->(su m s r par n v).Nodup/\∀x∈su m s r par n v,(0<=x/\x<m)/\∃k,d x=d v+k/\up par k x=v
 | 0,v,h0,h1=>⟨by unfold su;simp,λx hx=>by
  unfold su at hx;rw[ax.mp hx];exact⟨⟨h0,h1⟩,0,rfl,rfl⟩⟩
 | n+1,v,h0,h1=>by
   have c:∀u,u∈fh m s (front r par v) v->(0<=u/\u<m)/\u≠r/\par u=v:=λu=>(gW g R h0 h1).mp;have p:(fh m s (front r par v) v).Nodup:=vX;have b:=λu a=>yH g R n u (c u a).1.1 (c u a).1.2;have h:∀u∈fh m s (front r par v) v,d u=d v+1:=λu a=>by
    obtain⟨j,o,y⟩:=c u a;have:=R.pos j.1 j.2 o;rw[y]at this;exact this
   unfold su;refine⟨bI.mpr ⟨λz=>?_,BL p (λu a=>(b u a).1) λu a w i x hx l=>?_⟩,λx hx=>?_⟩
   .obtain⟨u,a,hv⟩:=gQ.mp z;obtain⟨_,k,e,_⟩:=(b u a).2 v hv;have:=h u a
    lia
   .obtain⟨_,k1,e1,f1⟩:=(b u a).2 x hx;obtain⟨_,t,D,q⟩:=(b w i).2 x l;have B:=h u a;have C:=h w i;have:k1=t:=(by lia);rw[<-f1,<-q,this]
   .rcases aG.mp hx with rfl|hx
    .exact⟨⟨h0,h1⟩,0,rfl,rfl⟩
    .obtain⟨u,a,hv⟩:=gQ.mp hx;obtain⟨A,k,e,f⟩:=(b u a).2 x hv;exact⟨A,k+1,by rw[e,h u a];lia,by show par (up par k x)=v;rw[f];exact(c u a).2.2⟩
theorem pN(g:Good m s)(R:ζ m s r par d){v:Int}(a:0<=v)(f:v<m):(iL m s r par d v).length<=24:=by
 obtain⟨e,c⟩:=yH g R (m.toNat-1-d v) v a f;have:=gY (m:=m) (by lia) e λx b=>(c x b).1;have:=g.ω;unfold iL
 lia
end Pb
namespace L2
open PySem PySem.Spec PyProof.Rows
def ZM(K:fv)(a:Addr)(n:Nat):It:=⟨λi H=>i<n/\∃b x,ξ K H a b/\b[n-1-i]?=some x,λi H x c=>c=H/\∀b,ξ K H a b->b[n-1-i]?=some x,λi H=>n<=i⟩
theorem Nq{P:Program}{w:World}{K:fv}{R:Expr}(a g:Addr)(n:Nat):Turn P w K R (ZM K a n) [g] g (λi h=>i<=n/\h.IsRevIter g a ((n:Int)-1-(i:Int))) where
 mem:=by simp
 obj:=λi h st b j=>by
  have e:b=g:=by simpa using j
  subst e;obtain⟨_,o,e,c,d⟩:=st;exact⟨o,e,λv z=>by rw[d]at z;cases z⟩
 keep:=λi h m st k=>⟨st.1,st.2.at λo e=>k g (by simp) o e⟩
 item:=by
  intro X y D B O i f s M H E I q st G;subst y D B;obtain⟨hi,xs,x,N,L⟩:=G;obtain⟨af,rv,p,hz⟩:=I.list N;obtain⟨u,V,U⟩:=rv.get L;obtain⟨t,J,Z,C,F,A⟩:=q g (by simp);have Y:(n:Int)-1-(i:Int)=((n-1-i:Nat):Int):=by lia
  have l:=st.2;rw[Y]at l;refine wpAny_pyNext_rev_item l p.isList (x:=u) (by simpa using V) λm r sb=>?_;have Q:Inv X f M H { s with heap:=m }:=I.turned (t':=s.toks) (λb o j e=>(sb.2 b j).trans e) t J C F A;obtain⟨o,e,c,d⟩:=id r;have e1:((n-1-i:Nat):Int)-1=(n:Int)-1-((i+1:Nat):Int):=by lia
  rw[e1]at r;exact⟨u,rfl,Bi (s:={ s with heap:=m }) e c d (by decide) ⟨x,H,Q,U,⟨rfl,λys S=>by rw[I.Ac S N];exact L⟩,⟨hi,r⟩,λb j=>(q b j).1⟩⟩
 done:=by
  intro X y D B O i f s M H E I q st G;subst y D B;have T:n<=i:=G;obtain⟨t,J,Z,C,F,A⟩:=q g (by simp);have l:=st.2;have Xs:=st.1;rw[show(n:Int)-1-(i:Int)=-1 by lia]at l;exact wpAny_pyNext_rev_end (I.ok.hd O) l λm eb=>⟨rfl,I.turned (t':=s.toks) (λb o j e=>eb b o j e) t J C F A⟩
 self:=λ_ _ _ _ _ st h=>g9 st.2 h
def MW(K:fv)(d:TE):TI:=λe H R=>d e H λx b=>∃a c,x=.ref a/\ξ K b a c/\R (ZM K a c.length) b
section
variable{X:Cx}{g e:Expr}{d:TE}{f c:Pos}
theorem Fx(E:Gl X "reversed")(B:X.mg "reversed"=none)(t:PE X e d)(r:starEach [e] X.env=[(false,eval e X.env)]:=by rfl):PI X g (.Call (.Name "reversed" f) [e] [] c) (MW X.K d):=by
 intro j s v H R I h;refine Call_ (pB I E B boot_reversed (cF ?_ r rfl));rw[r];show wpAny _ _ (spliced ((false,eval e X.env)::backTo c [])) _ _ s;refine dZ (dP (t j s v H _ I h) λu k x w m C F=>fm ?_);obtain⟨a,p,D,z,q⟩:=F;subst D;cases C;obtain⟨n,G,A,L⟩:=m.list z;refine call_reversed_list A.isList ?_;have y:n.toArray.size=p.length:=by rw[be,G.length]
 rw[y];refine g9 (i:=(p.length:Int)-1) (l:=a) ⟨_,bg _ rfl,rfl,rfl⟩ ?_;refine⟨k.heap.objs.size,[k.heap.objs.size],_,_,w,rfl,m.kept (t':=k.toks) λb o e=>au _ e,Nq a _ p.length,⟨bT _,?_⟩,λb J=>?_,q⟩
 .exact⟨_,bg _ rfl,rfl,by simp[revObj]⟩
 .have e:b=k.heap.objs.size:=by simpa using J
  subst e;exact m.SY (aN _) (m.χ.fresh (aN _))
end
theorem Go{K:fv}{a:Addr}{xs:List V}{g:TG}{k:TS}{D:Ends}{b:St}{H:Hp}(d:Nat->St->Hp->Prop)(n:d 0 b H)(u:∀i b H,i<=xs.length->d i b H->ξ K H a xs)(t:∀(i:Nat) (x:V) (b:St) (H:Hp) (N:St->Hp->Prop),(∀c f,d (i+1) c f->N c f)->xs.reverse[i]?=some x->d i b H->g x b H λj v=>k { D with nx:=N,ct:=N,bk:=D.nx } j v)(r:∀b H,d xs.length b H->D.nx b H):t9 (ZM K a xs.length) D g k b H:=by
 refine⟨λi m b H=>m=xs.length-i/\i<=xs.length/\d i b H,⟨xs.length,by simp,bT _,n⟩,?_⟩;rintro i m b H ⟨rfl,s,p⟩;have q:=u i b H s p;by_cases h:i<xs.length
 .have hx:xs[xs.length-1-i]?=some xs[xs.length-1-i]:=aB (by lia);refine .inr ⟨⟨h,xs,_,q,hx⟩,λc f=>∃l,l<xs.length-i/\(l=xs.length-(i+1)/\i+1<=xs.length/\d (i+1) c f),λc f z=>z,λx f y=>?_⟩;obtain⟨e,y⟩:=y;subst e;exact t i x b _ _ (λc f o=>⟨xs.length-(i+1),by lia,rfl,h,o⟩) (by rw[ee h];exact y xs q) p
 .have e:i=xs.length:=by lia
  subst e;exact .inl ⟨aN _,r b H p⟩
theorem zC(a:dm):∀n,n<=a.length->preSum (λi=>a.getD i 0) n=(a.take n).sum
 | 0,_=>by simp[preSum]
 | n+1,h=>by
   have c:=zC a n (by lia);have b:n<a.length:=by lia
   rw[bq,aB b,List.sum_append,<-c];simp[preSum,List.getD,b]
section
variable{X:Cx}
theorem M9(P:X.calm=true):kI X (.builtin "sum") (λL H Q=>∃(p:Addr)(d:dm),L=[.ref p]/\(ξ X.K H p (d.map V.int)\/Β X.K H p (d.map V.int))/\Q (.int d.sum) H):=by
 intro O s R H L S Q I r h;obtain⟨p,d,rfl,hp,q⟩:=h;obtain⟨u,rfl,z⟩:=mP r;cases z;have J:X.A.in1.handled=none:=I.ok.hd P;have f:∀{a:g8},Vals (d.map V.int) a->a.length=d.length/\∀(i:Nat)(v:Value),a.toArray[i]?=some v->∃t,v=Value.int (d.getD i 0) t:=by
  intro a k;have c:a.length=d.length:=by rw[<-k.length,ag]
  refine⟨c,λi v w=>?_⟩;have N:a[i]?=some v:=by simpa using w
  have G:i<d.length:=by rw[<-c];exact(ay.mp N).1
  obtain⟨u,M,z⟩:=k.get (i:=i) (x:=V.int d[i]) (by rw[aQ,aB G];rfl);rw[N]at M;cases M;obtain⟨t,e⟩:=(show ∃t,v=Value.int d[i] t from z);exact⟨t,by rw[e];simp[List.getD,G]⟩
 have l:∀{n:Nat},n=d.length->preSum (λi=>d.getD i 0) n=d.sum:=λ{n} e=>by rw[zC d n (by lia),cj (by lia)]
 rcases hp with hp|hp
 .obtain⟨a,k,pl,hz⟩:=I.list hp;obtain⟨c,B⟩:=f k;have j:=pl.isList;have m:=pl.lt;refine call_sum_walkG (iP j ?_);refine⟨s.heap.objs.size,[s.heap.objs.size,p],[s.heap.objs.size],a.toArray.size,_,_,λi=>d.getD i 0,rfl,Walks.list (A:=X.A.in1) J _ p (aU m) a.toArray,⟨⟨_,bg _ rfl,rfl,rfl⟩,j.push _⟩,λb F=>?_,λi v w=>B i v w,λC y t' E=>?_⟩
  .simp only[Heap.push,Array.size_push];rcases aG.mp F with e|e
   .rw[e];exact eF _
   .rw[ax.mp e];exact eV m
  .have kk:∀b o,s.heap.get? b=some o->C.get? b=some o:=λb o g=>E b o (λD=>by rw[ax.mp D]at g;exact dh _ (aI g)) (au _ g);rw[l (by rw[be,c])];exact⟨.int _,H,I.kept (t':=y) kk,⟨t',rfl⟩,q⟩
 .obtain⟨a,k,pl,hz⟩:=I.tuple hp;obtain⟨c,B⟩:=f k;have j:s.heap.IsTuple p a.toArray:=pl;have m:p<s.heap.objs.size:=by
   obtain⟨o,e,_⟩:=id j;exact aI e
  refine call_sum_walkG (j4 j ?_);refine⟨s.heap.objs.size,[s.heap.objs.size,p],[s.heap.objs.size],a.toArray.size,_,_,λi=>d.getD i 0,rfl,Walks.tuple (A:=X.A.in1) J _ p (aU m) a.toArray,⟨⟨_,bg _ rfl,rfl,rfl⟩,j.push _⟩,λb F=>?_,λi v w=>B i v w,λC y t' E=>?_⟩
  .simp only[Heap.push,Array.size_push];rcases aG.mp F with e|e
   .rw[e];exact eF _
   .rw[ax.mp e];exact eV m
  .have kk:∀b o,s.heap.get? b=some o->C.get? b=some o:=λb o g=>E b o (λD=>by rw[ax.mp D]at g;exact dh _ (aI g)) (au _ g);rw[l (by rw[be,c])];exact⟨.int _,H,I.kept (t':=y) kk,⟨t',rfl⟩,q⟩
end
def Qs(_ j:Int):Prop:=0<j/\j<18446744073709551616
theorem Gv{X:Cx}:oR X (binaryOp .FloorDiv) (rI Qs λi j=>.int (i/j)):=X8 λi j _ _ _ _ _ a q=>by
 have e:(0:Int)<j:=a.1;have c:j<18446744073709551616:=a.2;refine floordiv_int (by lia) (by rw[kh i (by lia)];exact q) (.inl ?_);have d:j.natAbs.log2<64:=(oB (by lia)).mpr (by lia);unfold Builtin.divisionGoesByPylong;have b:(j==0)=false:=by simp;lia
 simp only[b,cR,if_false];have:¬(j.natAbs.log2/30+1>300):=by lia
 simp[this]
theorem CY{X:Cx}(K:fv)(e:X.K=K){a:List Expr}{k:Nat}{b:Pos}{t:VN}{n:Nat}(d:X.calm=true)(h:Xv X a t)(f:(assignEach a X.env).length=n:=by rfl)(c:(assignEach a X.env).findIdx? (·.1)=none:=by rfl):PG X (.Tuple a k b) (JN K n t):=by
 subst e;exact kU d h f c
theorem EX{K:fv}{c d:Bool}{a b p:Addr}{xs zs:List V}{Q:VK}{g:TG}{v:TT}{u:TE}{r:St}{A:Hp}(l:Nat->List V->St->Hp->Prop)(E:l 0 [] r A)(O:∀i f h H,l i f h H->ύ K c H a xs/\ύ K d H b zs)(L:∀(i:Nat) (x z:V) (f:List V) (h:St) (H:Hp) (q:Addr) (N:List V->St->Hp->Prop),(∀o j n,l (i+1) o j n->N o j n)->xs[i]?=some x->zs[i]?=some z->l i f h H->H q=none->g (.ref q) h (upd H q (.tup [x,z])) λk R=>v k R λb B=>
 if b=true then u k B λy w=>w p=some (.lst f)/\f.length<sizeLine/\N (f++[y]) k (upd w p (.lst (f++[y])))else N f k B)(I:∀f h H,l (min xs.length zs.length) f h H->Q (.ref p) H):sU (Itz K c d a b) p Q g v u r A:=by
 refine⟨λi m f h H=>m=min xs.length zs.length-i/\i<=min xs.length zs.length/\l i f h H,⟨_,rfl,bT _,E⟩,?_⟩;rintro i m f h H ⟨rfl,U,pv⟩;obtain⟨s,t⟩:=O i f h H pv;by_cases D:i<min xs.length zs.length
 .refine .inr ⟨⟨xs,zs,xs[i]'(by lia),zs[i]'(by lia),s,t,aB (by lia),aB (by lia)⟩,λx n y=>?_⟩;obtain⟨F,S,T,J,rfl,rfl,P,M⟩:=y;exact L i S T f h H F (λo j n=>∃C,C<min xs.length zs.length-i/\(C=min xs.length zs.length-(i+1)/\i+1<=min xs.length zs.length/\l (i+1) o j n)) (λo j n G=>⟨min xs.length zs.length-(i+1),by lia,rfl,D,G⟩) (P xs s) (M zs t) pv J
 .have e:i=min xs.length zs.length:=by lia
  subst e;exact .inl ⟨⟨xs,zs,s,t,by lia⟩,I f h H pv⟩
theorem tS{H:Hp}{l:Addr}{a:List V}{i:Int}{v:V}{Q:Hp->Prop}(h:H l=some (.lst a))(b:0<=i)(c:i<a.length)(q:Q (upd H l (.lst (a.set i.toNat v)))):Ul (.ref l) (.int i) v H Q:=⟨l,a,i,i.toNat,rfl,rfl,h,by unfold TF;rw[ao b,ao (by lia)],q⟩
theorem Rb{xs:dm}{i:Int}(a:0<=i)(b:i<xs.length):Ϲ (xs.map V.int) i=some (.int (xs.getD i.toNat 0)):=fo a (by
 have h:i.toNat<xs.length:=by lia
 rw[aQ,aB h];simp[List.getD,h])
theorem Qr(n:Nat)(v:V):(List.replicate n [v]).flatten=List.replicate n v:=by
 induction n with
 | zero=>rfl
 | succ n ih=>rw[dg,fW,ih,dg];rfl
theorem Pr{a:dm}{n:Nat}{v:Int}(h:∀x∈a,0<=x)(c:0<=v):∀x∈a.set n v,0<=x:=λx b=>by
 rcases eT b with h1|h1
 .exact h x h1
 .rw[h1];exact c
theorem Ii{a:dm}(h:∀x∈a,0<=x)(n:Nat):0<=a.getD n 0:=by
 by_cases z:n<a.length
 .rw[List.getD,aB z];exact h _ (fk z)
 .rw[List.getD,ce (by lia)];exact dU _
theorem pL{X:Cx}:PM X (Av X.K):=by
 intro b s n H x y v u Q I E B h;obtain⟨p,F,i,z,rfl,rfl,o,m,q⟩:=h;cases E;obtain⟨t,rfl⟩:=B;obtain⟨d,r,g,L⟩:=I.list o;obtain⟨j,c,l,G,C,A⟩:=yC m;obtain⟨w,f,k⟩:=r.get l;have D:=r.length;have J:=qv;have a:EP X b n Q w s:=⟨z,H,I,k,q⟩;by_cases e:0<=i
 .have hj:i.toNat=j:=by
   rw[seqIndex_of e A]at c;exact bC c
  exact wpAny_getItem_list g.isList e (by lia) (by rw[hj];simpa using f) a
 .have hj:(i+(d.toArray.size:Int)).toNat=j:=by
   rw[seqIndex_neg (by lia) C]at c;rw[be,<-D];exact bC c
  exact wpAny_getItem_list_neg g.isList (by lia) (by rw[be]<;>lia) (by lia) (by rw[hj];simpa using f) a
theorem Ly{K:fv}{a p:Addr}{xs:List V}{Q:VK}{g:TG}{s:TT}{r:TE}{n:St}{u:Hp}(j:Nat->List V->St->Hp->Prop)(z:j 0 [] n u)(E:∀i c d H,i<=xs.length->j i c d H->ξ K H a xs)(D:∀(i:Nat) (x:V) (c:List V) (d:St) (H:Hp) (N:List V->St->Hp->Prop),(∀l f k,j (i+1) l f k->N l f k)->xs.reverse[i]?=some x->j i c d H->g x d H λh F=>s h F λb v=>
 if b=true then r h v λy t=>t p=some (.lst c)/\c.length<sizeLine/\N (c++[y]) h (upd t p (.lst (c++[y])))else N c h v)(B:∀c d H,j xs.length c d H->Q (.ref p) H):sU (ZM K a xs.length) p Q g s r n u:=by
 refine⟨λi m c d H=>m=xs.length-i/\i<=xs.length/\j i c d H,⟨xs.length,by simp,bT _,z⟩,?_⟩;rintro i m c d H ⟨rfl,C,pv⟩;have q:=E i c d H C pv;by_cases o:i<xs.length
 .have hx:xs[xs.length-1-i]?=some xs[xs.length-1-i]:=aB (by lia);refine .inr ⟨⟨o,xs,_,q,hx⟩,λx k y=>?_⟩;obtain⟨e,y⟩:=y;subst e;exact D i x c d _ (λl f k=>∃w,w<xs.length-i/\(w=xs.length-(i+1)/\i+1<=xs.length/\j (i+1) l f k)) (λl f k A=>⟨xs.length-(i+1),by lia,rfl,o,A⟩) (by rw[ee o];exact y xs q) pv
 .have e:i=xs.length:=by lia
  subst e;exact .inl ⟨aN _,B c d H pv⟩
end L2
namespace Pb
open L2
def After(a:dt):List Int->List Int->Prop
 | _,[]=>True
 | S,c::t=>a c∈S/\After a (c::S) t
section
variable{m:Int}{q:hU}{r:Int}{d:dt}{o:ew}
theorem After.mono:∀{l S b:dm},(∀x∈S,x∈b)->After d S l->After d b l
 | [],_,_,_,_=>trivial
 | c::t,S,b,h,a=>⟨h _ a.1,After.mono (λx f=>by
  rcases aG.mp f with e|e
  .exact aG.mpr (.inl e)
  .exact aL _ (h x e)) a.2⟩
theorem After.append:∀{f e S:dm},After d S f->After d S e->After d S (f++e)
 | [],_,_,_,b=>b
 | c::t,e,S,a,b=>⟨a.1,After.append a.2 (b.mono λx g=>aL _ g)⟩
theorem After.up:∀{A B S:dm},After d S (A++B)->∀k∈A,d k∈S\/d k∈A
 | [],_,_,_,k,hk=>by cases hk
 | c::t,B,S,a,k,hk=>by
   rcases aG.mp hk with e|e
   .rw[e];exact .inl a.1
   .rcases After.up (A:=t) (B:=B) a.2 k e with h|h
    .rcases aG.mp h with h|h
     .exact .inr (by rw[h];exact aP)
     .exact .inl h
    .exact .inr (aL _ h)
structure Order(m r:Int)(d:dt)(t:dm):Prop where
 nd:(r::t).Nodup
 ϭ:∀v∈t,0<=v/\v<m
 all:∀v,0<=v->v<m->v=r\/v∈t
 af:After d [r] t
theorem Order.ne{t:dm}(O:Order m r d t){v:Int}(h:v∈t):v≠r:=λz=>(bI.mp O.nd).1 (z▸h)
theorem Bz(g:Good m q)(R:ζ m q r d o):∀(n:Nat)(v:Int)(S:dm),0<=v->v<m->d v∈S->After d S (su m q r d n v)
 | 0,v,S,_,_,h=>⟨h,trivial⟩
 | n+1,v,S,h0,h1,h=>by
   refine⟨h,?_⟩;have:∀(a:dm)(S:dm),v∈S->(∀u∈a,u∈fh m q (front r d v) v)->After d S (a.flatMap (su m q r d n)):=by
    intro a
    induction a with
    | nil=>intro S _ _;exact trivial
    | cons u a ih=>
      intro S b e;rw[dJ];obtain⟨c,k,f⟩:=(gW g R h0 h1).mp (e u aP);exact(Bz g R n u S c.1 c.2 (by rw[f];exact b)).append (ih S b λx i=>e x (aL _ i))
   exact this _ _ aP λu j=>j
theorem B6(g:Good m q)(R:ζ m q r d o)(f:0<=r)(i:r<m)(c:(iL m q r d o r).Nodup)(b:∀v,v∈iL m q r d o r↔0<=v/\v<m):∃t,iL m q r d o r=r::t/\Order m r d t:=by
 have e:=rS g R f i;refine⟨_,e,?_⟩;rw[e]at c b;refine⟨c,λv p=>(b v).mp (aL _ p),λv k n=>aG.mp ((b v).mpr ⟨k,n⟩),?_⟩;have:∀a:List Int,(∀u∈a,u∈fh m q (front r d r) r)->After d [r] (a.flatMap (iL m q r d o)):=by
  intro a
  induction a with
  | nil=>intro _;exact trivial
  | cons u a ih=>
    intro h;rw[dJ];obtain⟨j,y,w⟩:=(gW g R f i).mp (h u aP);exact(Bz g R _ u [r] j.1 j.2 (by rw[w];exact aP)).append (ih λx l=>h x (aL _ l))
 exact this _ λu s=>s
def Gn(m:Int)(q:hU)(r:Int)(d:dt)(f:dt)(p:hT):Nat->Int->Int
 | 0,v=>f v
 | n+1,v=>f v+((fh m q (front r d v) v).map λc=>p c (Gn m q r d f p n c)).sum
def aS(m:Int)(q:hU)(r:Int)(d:dt)(o:ew)(f:dt)(p:hT)(v:Int):Int:=Gn m q r d f p (m.toNat-1-o v) v
variable{f:dt}{p:hT}
theorem Fu(g:Good m q)(R:ζ m q r d o){v:Int}(i:0<=v)(s:v<m):aS m q r d o f p v=f v+((fh m q (front r d v) v).map λc=>p c (aS m q r d o f p c)).sum:=by
 have k:∀u,u∈fh m q (front r d v) v->(0<=u/\u<m)/\u≠r/\d u=v:=λu=>(gW g R i s).mp;have h:∀u∈fh m q (front r d v) v,o u=o v+1/\o u+1<=m.toNat:=λu a=>by
  obtain⟨b,j,l⟩:=k u a;have:=R.pos b.1 b.2 j;rw[l]at this;exact⟨this,tQ R b.1 b.2⟩
 unfold aS;cases e:m.toNat-1-o v with
 | zero=>
   have:fh m q (front r d v) v=[]:=ju.mpr λu a=>by
    have:=h u a
    lia
   rw[this];simp[Gn]
 | succ n=>
   show f v+_=_;rw[dG λu a=>show p u (Gn m q r d f p n u)=p u (Gn m q r d f p (m.toNat-1-o u) u) by rw[show m.toNat-1-o u=n by have:=h u a;lia]]
theorem Mx{l a:dm}(h:l.Perm a):l.sum=a.sum:=by
 induction h with
 | nil=>rfl
 | cons x _ ih=>rw[dE,dE,ih]
 | swap x y l=>simp only[dE];lia
 | trans _ _ h1 h2=>exact h1.trans h2
def rp(d:dt)(p:hT)(a:dm)(v:Int):List Int:=a.set (d v).toNat (a.getD (d v).toNat 0+p v (a.getD v.toNat 0))
structure ϙ(m:Int)(q:hU)(r:Int)(d:dt)(o:ew)(f:dt)(p:hT)(t cs:dm):Prop where
 len:(cs.length:Int)=m
 val:∀v,0<=v->v<m->cs.getD v.toNat 0=f v+((t.filter λc=>decide (d c=v)).map λc=>p c (aS m q r d o f p c)).sum
theorem ϙ.nil{a:dm}(h:(a.length:Int)=m):ϙ m q r d o (λv=>a.getD v.toNat 0) p [] a:=⟨h,λv _ _=>by simp⟩
theorem GX(g:Good m q)(R:ζ m q r d o){t:dm}(i:t.Nodup)(a:∀x∈t,(0<=x/\x<m)/\x≠r){v:Int}(b:0<=v)(j:v<m)(e:∀k,0<=k->k<m->k≠r->d k=v->k∈t):(t.filter λc=>decide (d c=v)).Perm (fh m q (front r d v) v):=by
 refine sj (i.filter _) vX λx=>?_;rw[ci,gW g R b j,b8];exact⟨λh=>⟨(a x h.1).1,(a x h.1).2,h.2⟩,λh=>⟨e x h.1.1 h.1.2 h.2.1 h.2.2,h.2.2⟩⟩
theorem ϙ.full(g:Good m q)(R:ζ m q r d o){t c:dm}(s:ϙ m q r d o f p t c)(i:t.Nodup)(e:∀x∈t,(0<=x/\x<m)/\x≠r){v:Int}(a:0<=v)(b:v<m)(h:∀k,0<=k->k<m->k≠r->d k=v->k∈t):c.getD v.toNat 0=aS m q r d o f p v:=by
 rw[s.val v a b,Fu g R a b,Mx ((GX g R i e a b h).map _)]
theorem ϙ.step(g:Good m q)(R:ζ m q r d o){t a:dm}(s:ϙ m q r d o f p t a){v:Int}(h:0<=v)(j:v<m)(i:v≠r)(e:a.getD v.toNat 0=aS m q r d o f p v):ϙ m q r d o f p (v::t) (rp d p a v) where
 len:=by unfold rp;rw[b7];exact s.len
 val:=λu u0 u1=>by
  have k:=(R.up v h j i).1;have l:=s.len;have b:=s.val u u0 u1;unfold rp;rw[e];by_cases c:d v=u
  .have hl:u.toNat<a.length:=(by lia);rw[eJ (by simpa using c),bh,dE,c];rw[show(a.set u.toNat (a.getD u.toNat 0+p v (aS m q r d o f p v))).getD u.toNat 0=a.getD u.toNat 0+p v (aS m q r d o f p v) by simp[List.getD,hl],b]
   lia
  .rw[fH (by simpa using c),<-b];have:(d v).toNat≠u.toNat:=(by lia);simp[List.getD,cV this]
theorem Order.places{t:dm}(O:Order m r d t):∀x∈t,(0<=x/\x<m)/\x≠r:=λx a=>⟨O.ϭ x a,O.ne a⟩
theorem Order.turn(g:Good m q)(R:ζ m q r d o){t c:dm}(O:Order m r d t){i:Nat}{v:Int}(s:ϙ m q r d o f p (t.drop (t.length-i)) c)(b:t.reverse[i]?=some v):((0<=v/\v<m)/\v≠r)/\c.getD v.toNat 0=aS m q r d o f p v/\ϙ m q r d o f p (t.drop (t.length-(i+1))) (rp d p c v):=by
 have G:i<t.length:=by
  have:=(ay.mp b).1
  rwa [bA]at this
 rw[ee G]at b;generalize K:t.length-1-i=j at b;have H:t.length-i=j+1:=by lia
 have n:t.length-(i+1)=j:=by lia
 rw[H]at s;rw[n];have D:j<t.length:=by lia
 have J:v∈t:=aO b;have a:=O.places v J;have y:t.drop j=v::t.drop (j+1):=by
  rw[gj D];rw[aB D]at b;cases b
  rfl
 have h:t=t.take j++v::t.drop (j+1):=by rw[<-y,fL]
 have B:=(bI.mp O.nd).2;have E:=B;rw[h]at E;have I:v∉t.take j:=λz=>(fP.mp E).2.2 v z v aP rfl;have e:=s.full g R (B.sublist (List.drop_sublist _ _)) (λx F=>O.places x (cJ F)) a.1.1 a.1.2 λk A u C l=>by
  rcases O.all k A u with z|z
  .exact absurd z C
  .rw[h]at z;rcases aK.mp z with z|z
   .have af:=O.af;rw[h]at af;rcases af.up k z with w|w
    .rw[l]at w;exact absurd (ax.mp w) a.2
    .rw[l]at w;exact absurd w I
   .rcases aG.mp z with z|z
    .subst z;exact absurd l (R.ne A u C)
    .exact z
 exact⟨a,e,by rw[y];exact s.step g R a.1.1 a.1.2 a.2 e⟩
def oE(m:Int)(q:hU)(r:Int)(d:dt)(o:ew)(f:dt)(p:hT):List Int:=(cM m.toNat).map (aS m q r d o f p)
theorem tL{v:Int}(a:0<=v)(b:v<m):(oE m q r d o f p).getD v.toNat 0=aS m q r d o f p v:=by
 unfold oE;rw[List.getD,aQ,lD (by lia),bJ a]
 rfl
theorem Order.done(g:Good m q)(R:ζ m q r d o){t a:dm}(O:Order m r d t)(s:ϙ m q r d o f p t a):a=oE m q r d o f p:=by
 have n:=s.len;refine gU λi=>?_;by_cases h:i<m.toNat
 .have hc:i<a.length:=by lia
  have e:=s.full g R (bI.mp O.nd).2 O.places (v:=(i:Int)) (by lia) (by lia) λk j c b l=>(O.all k j c).resolve_left b;unfold oE;rw[aQ,lD h];rw[eE,List.getD,aB hc]at e;rw[aB hc];exact congrArg some e
 .unfold oE;rw[ce (by lia),ce (by rw[ag,dq];lia)]
def SQ(q:hU)(d:dt)(v x:Int):Int:=x/(fg q v (d v)).getD 1
end
section
variable{m:Int}{e:hU}{r:Int}{b:dt}{d:ew}{a:dt}
def ZN(e:hU)(b:dt)(v:Int):Int:=(fg e v (b v)).getD 1
def TN(m:Int)(e:hU)(r:Int)(b:dt)(d:ew)(a:dt)(v:Int):Int:=SQ e b v (aS m e r b d a (SQ e b) v)
def lF(m:Int)(e:hU)(r:Int)(b:dt)(d:ew)(a:dt)(l:dm):List Int:=l.filter λv=>decide (0<TN m e r b d a v)
theorem Ji{l:dm}{v:Int}(c:0<TN m e r b d a v):lF m e r b d a (l++[v])=lF m e r b d a l++[v]:=by
 unfold lF;rw[cC]
 congr 1
 exact eJ (l:=[]) (bB c)
theorem IE{l:dm}{v:Int}(c:¬0<TN m e r b d a v):lF m e r b d a (l++[v])=lF m e r b d a l:=by
 unfold lF;rw[cC];have:[v].filter (λv=>decide (0<TN m e r b d a v))=[]:=fH (l:=[]) (λz=>c (bn z));rw[this,bR]
end
section
open PySem
def JQ(m:Int)(d:hU)(r:Int)(b:dt)(c:ew)(a:dt)(v:Int):List V:=[.int v,.int (b v),.int (TN m d r b c a v)]
abbrev Ϥ(H:Hp)(m:Int)(d:hU)(r:Int)(c:dt)(b:ew)(a:dt):List Addr->List Int->Prop:=Paired λq v=>H q=some (.tup (JQ m d r c b a v))
theorem Ϥ.snoc{H:Hp}{m:Int}{d:hU}{r:Int}{c:dt}{b:ew}{a:dt}{q:Addr}{v:Int}(e:H q=some (.tup (JQ m d r c b a v))):∀{g:gy}{f:dm},Ϥ H m d r c b a g f->Ϥ H m d r c b a (g++[q]) (f++[v])
 | _,_,.nil=>.cons e .nil
 | _,_,.cons x xs=>.cons x (Ϥ.snoc e xs)
end
end Pb
namespace L2
open PySem PySem.Spec PyProof.Rows
def MF(K:fv)(c:Bool):R2:=λx y H Q=>∃p a i v,x=.ref p/\y=.int i/\ύ K c H p a/\Ϲ a i=some v/\Q v H
theorem Pw{X:Cx}(c:Bool):Vl X (MF X.K c):=by
 cases c
 .exact fB
 .exact bG
theorem NT{X:Cx}(c:Bool)(K:fv)(h:X.K=K):Vl X (MF K c):=by subst h;exact Pw c
theorem ixX{K:fv}{c:Bool}{H:Hp}{p:Addr}{a:List V}{i:Int}{v:V}{Q:VK}(h:ύ K c H p a)(e:Ϲ a i=some v)(q:Q v H):MF K c (.ref p) (.int i) H Q:=⟨p,a,i,v,rfl,rfl,h,e,q⟩
theorem CI{K:fv}{H:Hp}{p:Addr}{a:List V}{i:Int}{v:V}{Q:VK}(h:Β K H p a)(e:Ϲ a i=some v)(q:Q v H):Jw K (.ref p) (.int i) H Q:=⟨p,a,i,v,rfl,rfl,h,e,q⟩
end L2
namespace Pb
open L2 PySem
theorem Gr{e f:Type}{R:e->f->Prop}{d:List e}{c:List f}(h:Paired R d c):∀{b:List e}{a:List f},Paired R b a->Paired R (b++d) (a++c)
 | _,_,.nil=>h
 | _,_,.cons x xs=>.cons x (Gr h xs)
section
variable{m:Int}{e:hU}{r:Int}{d:dt}{f:ew}
def RA(e:hU)(d:dt)(v x:Int):Int:=if 0<=x then x/(fg e v (d v)).getD 1 else x*(fg e (d v) v).getD 1
theorem sJ(g:Good m e)(R:ζ m e r d f){v:Int}(n:0<=v)(s:v<m)(p:v≠r):∃k,fg e (d v) v=some k/\2<=k/\k<=1000000:=by
 obtain⟨x,h,j⟩:=(R.up v n s p).2.1;obtain⟨i,o⟩:=cq h;have ok:=g.ok x h;have l:wt x (d v) v:=by
  rcases j with⟨a,b⟩|⟨a,b⟩
  .exact .inr ⟨b,a⟩
  .exact .inl ⟨b,a⟩
 rw[xq g o l];unfold mI;by_cases c:x.a=d v/\x.b=v
 .rw[ao c];exact⟨_,rfl,ok.t0,ok.t1⟩
 .rw[ah c];have q:x.a=v/\x.b=d v:=by
   rcases l with w|w
   .exact absurd w c
   .exact⟨w.2,w.1⟩
  rw[ao q];exact⟨_,rfl,ok.u0,ok.u1⟩
theorem wr(i:Nat):cM (i+1)=cM i++[(i:Int)]:=by
 unfold cM;rw[List.range_succ,aE]
 rfl
end
def kX(m:Int)(a b:dm):List Int:=(List.range m.toNat).map λi=>a.getD i 0-b.getD i 0
theorem K1{m:Int}(h:0<=m)(b a:dm):((kX m b a).length:Int)=m:=by unfold kX;rw[ag,ku];lia
end Pb
namespace L2
open PySem PySem.Spec PyProof.Rows
theorem EF{P:Program}{w:World}{A:Around}{l:Addr}(c:Bool){it:Addr}(m:A.handled=none)(ne:l≠it)(a:Array Value):Draws P w A it [it,l] a.size (λi v=>a[i]?=some v) (λi h=>Yq l c it i h/\IL l c h a) where
 live:=λi h st=>let ⟨o,e,_⟩:=(jV l c P w).obj _ _ _ st.1;⟨o,e⟩
 frame:=λi h b st k=>⟨(jV l c P w).atK _ _ _ _ st.1 λo e=>k it (by simp) o e,(jV l c P w).R6 _ _ _ st.2 λo e=>k l (by simp) o e⟩
 item:=λi s Q E hi st d=>(jV l c P w).item A s it i a a[i] Q E st.1 st.2 (by simp[hi]) λb f g=>d a[i] b s.toks (by simp[hi]) ⟨f,(jV l c P w).R6 _ _ _ st.2 λo e=>g.extBut _ _ ne e⟩ g
 done:=λs Q E st d=>(jV l c P w).fin A s it a.size a Q E m st.1 st.2 (by simp) λb e n j=>d b e n j
section
variable{P:Program}{w:World}{A:Around}{E:fc}{s:Shared}{l:Addr}{f:Obj}{a:Heap->Array Value->Prop}{i:Addr->Nat->Heap->Prop}
abbrev Eu(n:Nat):Obj:={ cls:=.type "enumerate",data:=.fields #[.none,.bool false,.ref n,rawInt 0,.none,.none] }
theorem Cs(S:∀P w,Q2 P w l f a i)(k:Array Value):Meets (Builtin.«enumerate.__new__» ⟨[.type "enumerate",.ref l],[]⟩) (λ_ R s=>a s.heap k/\R (.ok (.ret (.ref (s.heap.push f).objs.size))) { s with heap:=(s.heap.push f).push (Eu s.heap.objs.size) }):=.of_wp λe w A R s j=>by
 obtain⟨o,g,d,m,os⟩:=s;obtain⟨p,r⟩:=j;have n:=sub_enumerate;have h:a (Shared.heap ⟨o,g,d,m,os⟩) k:=p
 wp_walk using ((S e w).start _ _ _ _ _ h)
 refine wpAny_stack_any λst=>?_;dsimp only;refine aM ?_;have q:∀b:Bool,b=true\/b=false:=λb=>by cases b<;>simp
 split
 .rename_i c _ _ _ _ _
  rcases q (c==Value.type "enumerate")with z|z
  .rw[z]
   wp_walk using ((S e w).start _ _ _ _ _ h)
   exact⟨_,rfl,r⟩
  .rw[z]
   wp_walk using ((S e w).start _ _ _ _ _ h)
   exact⟨_,rfl,r⟩
 .wp_walk using ((S e w).start _ _ _ _ _ h)
  exact⟨_,rfl,r⟩
theorem La(S:∀P w,Q2 P w l f a i){j:Array Value}{Q:fc}(m:a s.heap j)(p:f.isFreed=false)(h:∀b,IsEnum b (s.heap.objs.size+1) s.heap.objs.size 0 .none->i s.heap.objs.size 0 b->(∀c o,s.heap.get? c=some o->b.get? c=some o)->Q (.ref (s.heap.objs.size+1)) { s with heap:=b }):wpAny (model P w) A (call (.type "enumerate") [.ref l]) Q E s:=by
 refine callType_new F.called_enumerate (by decide) (F.typeCall_enumerate_1 _) (F.newCall_enumerate_1 _) (λd=>F.args_object_init_2 d _) F.entry_enumerate_new (Cs S j) ⟨m,?_⟩;have k:(s.heap.push f).objs.size=s.heap.objs.size+1:=de ..;have g:((s.heap.push f).push (Eu s.heap.objs.size)).get? (s.heap.push f).objs.size=some (Eu s.heap.objs.size):=bg _ rfl;have n:((s.heap.push f).push (Eu s.heap.objs.size)).get? s.heap.objs.size=some f:=au _ (bg _ p);show _/\_;rw[k]at g;rw[k];exact⟨⟨_,g,rfl⟩,h _ g ((S P w).first _ _ n) λc o e=>au _ (au _ e)⟩
end
def ZO(K:fv)(c:Bool)(a:Addr):It:=⟨λi H=>∃b x,ύ K c H a b/\b[i]?=some x,λi H v d=>∃p x,H p=none/\v=.ref p/\d=upd H p (.tup [.int i,x])/\∀b,ύ K c H a b->b[i]?=some x,λi H=>∃b,ύ K c H a b/\b.length=i⟩
theorem Kc{P:Program}{w:World}{K:fv}{G:List Expr}{x1}{Ri:Pos}(c:Bool)(a e it:Addr)(ne:e≠it)(ae:a≠e)(ai:a≠it):Turn P w K (.Tuple G x1 Ri) (ZO K c a) [e,it] e (λi h=>(∃y,IsEnum h e it (i:Nat) y)/\Yq a c it i h) where
 mem:=by simp
 obj:=λi h t b hb=>by
  obtain⟨⟨y,t1⟩,F⟩:=t;simp only[aG,dL,or_false]at hb;rcases hb with rfl|rfl
  .exact⟨_,t1,λv z=>by cases z⟩
  .exact(jV a c P w).obj _ _ _ F
 keep:=λi h M t k=>by
  obtain⟨⟨y,t1⟩,F⟩:=t;exact⟨⟨y,k e (by simp) _ t1⟩,(jV a c P w).atK _ _ _ _ F λo e=>k it (by simp) o e⟩
 item:=λX e1 e2 e3 hc i C s Z H E I f t g=>by
  subst e1 e2 e3;obtain⟨⟨y,t1⟩,F⟩:=t;obtain⟨U,x,s1,S⟩:=g;obtain⟨J,r1,q1⟩:=I.ϳ s1;obtain⟨xu,ZD,rx⟩:=r1.get S;have hh:X.A.in1.handled=none:=I.ok.hd hc;have D:∀q∈[e,it],nN X C H q:=f;have W:=WalksT.enumerateD (A:=X.A) (EF (P:=X.prog) (w:=X.w) (A:=X.A.in1) (l:=a) c (it:=it) hh ai J.toArray) e ne (by simp;exact⟨ne,ae.symm⟩) (by simp);have RJ:i<J.toArray.size:=by
   have:=(ay.mp ZD).1
   simpa using this
  refine W.item i s _ _ RJ ⟨⟨y,t1⟩,F,q1⟩ λT a6 M tk pt le tup N keep=>?_;refine⟨_,rfl,W.go G x1 Ri i T { s with heap:=M,toks:=tk } _ _ N λY SN VX=>?_⟩;obtain⟨tt,xv,px,ev⟩:=pt;have a1:xv=xu:=by
   have h1:J[i]?=some xv:=(by simpa using px);rw[ZD]at h1;cases h1
   rfl
  subst a1;have Tw:T∉[e,it]:=W.apart i T M N;have kp:∀q o,q∉[e,it]->s.heap.get? q=some o->Y.get? q=some o:=λq o d eo=>VX q o d (keep q o d eo);obtain⟨ot,ht,aC,nt,Yo⟩:=tup;have new:Y.get? T=some ot:=VX T ot Tw ht;have O:∀q u,H q=some u->q∉[e,it]:=λq u e d=>by rw[(D q d).1]at e;cases e
  have L:H T=none:=I.χ.fresh le;have V:∀q o,s.heap.get? q=some o->q≠T:=λq o eo=>aU (bc (aI eo) le);have B:Inv X C Z H { s with heap:=Y,toks:=tk }:=by
   refine I.step (g':=s.gens) (d':=s.drawn) (t':=tk) (ch:=[e,it]) (λq d=>⟨(D q d).2.2.2.1,(D q d).2.1,(D q d).2.2.2.2.1,(D q d).2.2.2.2.2⟩) (λq o _ _ d e _=>kp q o d e) (λq o _ _ d e _=>⟨o.slots,kp q o d e⟩) (λ_ _ _ _ n=>n)
    (λq o d e=>⟨o,kp q o d e⟩) (λ_ _ e=>e) (λ_ _ _ e=>e) (λq ps e=>⟨#[],by rw[e];simp⟩) (λm hm=>?_) (λq u e=>?_) I.bare
   .obtain⟨o,es,ep,ho,r⟩:=hm;exact⟨o,es,ep,kp _ o (λd=>(D _ d).2.1 rfl) ho,r⟩
   .refine(I.χ q u e).iO (λR v By j=>kp R v ?_ j) (λ_ j=>j) λ_ _ j=>j;rcases By with rfl|By
    .exact O _ u e
    .exact O _ _ By
  have I3:Inv X C Z (upd H T (.tup [.int i,x])) { s with heap:=Y,toks:=tk }:=by
   refine⟨B.ok,B.os,B.bare,?_,B.loc,B.cell,?_,λn c e=>?_,λp hp=>?_,λq u e=>?_,B.len⟩
   .refine⟨B.base.keep,B.base.slot,λq o e n S=>?_,B.base.there,λq U e=>?_,λq o u e=>?_,λq ps e=>?_⟩
    .have lt:q<X.s₀.heap.objs.size:=aI e;rw[aY (aU (bc lt (aR I.sz le)))];exact B.base.free q o e n S
    .have j:=B.base.iS q U e;rw[aY (λz=>by rw[z,L]at j;cases j)];exact j
    .have j:=B.base.ϸ q o u e;rw[aY (λz=>by rw[z,L]at j;cases j)];exact j
    .obtain⟨more,j⟩:=B.base.lE q ps e;exact⟨more,by rw[aY (λz=>by rw[z,L]at j;cases j)];exact j⟩
   .rw[aY (aU (bc I.lt le))];exact B.free
   .obtain⟨vv,o,ho,_⟩:=I.cell n c e;rw[aY (V _ _ ho)];exact B.ϐ n c e
   .obtain⟨k1,k2,k3⟩:=I.pin p hp;rw[aY (V _ _ k1)];exact B.pin p hp
   .by_cases d:q=T
    .subst d;rw[aw]at e;cases e;refine⟨by show 2<=sizeLine;decide,[.int (i:Nat) tt,xv],.cons ⟨tt,rfl⟩ (.cons rx .nil),ot,new,aC,nt,?_⟩;rw[Yo,ev]
    .rw[aY d]at e;refine(B.χ q u e).iO (λ_ _ _ j=>j) (λR j=>?_) λR U j=>?_
     .rw[aY (λz=>by rw[z,L]at j;cases j)];exact j
     .rw[aY (λz=>by rw[z,L]at j;cases j)];exact j
  refine⟨.ref T,_,I3,rfl,⟨T,x,L,rfl,rfl,λbd q=>?_⟩,⟨SN.1,SN.2.1⟩,λq d=>?_⟩
  .rw[<-I.R7 s1 q];exact S
  .have ϕ:q≠T:=by
    simp only[aG,dL,or_false]at d;rcases d with rfl|rfl
    .exact V _ _ t1
    .exact let ⟨o,e,_⟩:=(jV a c X.prog X.w).obj _ _ _ F;V _ _ e
   rw[aY ϕ];exact(D q d).1
 done:=λX e1 e2 e3 hc i C s Z H E I f t g=>by
  subst e1 e2 e3;obtain⟨⟨y,t1⟩,F⟩:=t;obtain⟨U,s1,Vr⟩:=g;obtain⟨J,r1,q1⟩:=I.ϳ s1;have hh:X.A.in1.handled=none:=I.ok.hd hc;have D:∀q∈[e,it],nN X C H q:=f;have W:=WalksT.enumerateD (A:=X.A) (EF (P:=X.prog) (w:=X.w) (A:=X.A.in1) (l:=a) c (it:=it) hh ai J.toArray) e ne (by simp;exact⟨ne,ae.symm⟩) (by simp);have ei:i=J.toArray.size:=by
   have:=r1.length;simp
   lia
  subst ei;refine W.done s _ _ ⟨⟨y,t1⟩,F,q1⟩ λM tk keep=>⟨rfl,?_⟩;have kp:∀q o,q∉[e,it]->s.heap.get? q=some o->M.get? q=some o:=λq o d e=>keep q o d e;have O:∀q u,H q=some u->q∉[e,it]:=λq u e d=>by rw[(D q d).1]at e;cases e
  refine I.step (g':=s.gens) (d':=s.drawn) (t':=tk) (ch:=[e,it]) (λq d=>⟨(D q d).2.2.2.1,(D q d).2.1,(D q d).2.2.2.2.1,(D q d).2.2.2.2.2⟩) (λq o _ _ d e _=>kp q o d e) (λq o _ _ d e _=>⟨o.slots,kp q o d e⟩) (λ_ _ _ _ n=>n)
   (λq o d e=>⟨o,kp q o d e⟩) (λ_ _ e=>e) (λ_ _ _ e=>e) (λq ps e=>⟨#[],by rw[e];simp⟩) (λm hm=>?_) (λq u e=>?_) I.bare
  .obtain⟨o,es,ep,ho,r⟩:=hm;exact⟨o,es,ep,kp _ o (λd=>(D _ d).2.1 rfl) ho,r⟩
  .refine(I.χ q u e).iO (λR v By j=>kp R v ?_ j) (λ_ j=>j) λ_ _ j=>j;rcases By with rfl|By
   .exact O _ u e
   .exact O _ _ By
 self:=λA i s Q E t q=>by
  obtain⟨⟨y,t1⟩,F⟩:=t;exact wpAny_pyIter_enum t1 q
def IJ(K:fv)(c:Bool)(d:TE):TI:=λf H R=>d f H λx b=>∃a,x=.ref a/\(∃e,ύ K c b a e)/\R (ZO K c a) b
section
variable{X:Cx}{e:Expr}{f:TE}{g d:Pos}
theorem Hs{j:List Expr}{x1}{Ri:Pos}(c:Bool)(hg:Gl X "enumerate")(hm:X.mg "enumerate"=none)(he:PE X e f)(h2:starEach [e] X.env=[(false,eval e X.env)]:=by rfl):PI X (.Tuple j x1 Ri) (.Call (.Name "enumerate" g) [e] [] d) (IJ X.K c f):=by
 intro k s w H R I h;refine Call_ (pB I hg hm boot_enumerate (cF ?_ h2 rfl));rw[h2];show wpAny _ _ (spliced ((false,eval e X.env)::backTo d [])) _ _ s;refine dZ (dP (he k s w H _ I h) λu l x y m r n=>fm ?_);obtain⟨a,C,⟨D,A⟩,q⟩:=n;subst C;cases r;obtain⟨G,r,n⟩:=m.ϳ A;obtain⟨F,o⟩:=sD a c _ _ n;have p:=aI o;refine La (jV a c) n (yb a c) λE t z B=>?_;refine wpAny_pyIter_enum t ?_;refine⟨_,[l.heap.objs.size+1,l.heap.objs.size],_,_,y,rfl,m.kept (t':=l.toks) B,Kc c a _ _ (Nat.succ_ne_self _) (aU (eV p)) (aU p),⟨⟨_,t⟩,z⟩,λb v=>?_,q⟩;have i:l.heap.objs.size<=b:=by
  simp only[aG,dL,or_false]at v;rcases v with rfl|rfl
  .exact ft _
  .exact aN _
 exact m.SY i (m.χ.fresh i)
end
theorem LP{K:fv}{c:Bool}{a:Addr}{xs:List V}{g:TG}{o:TS}{D:Ends}{b:St}{H:Hp}(f:Nat->St->Hp->Prop)(r:f 0 b H)(v:∀i b H,f i b H->ύ K c H a xs)(u:∀(i:Nat) (x:V) (b:St) (H:Hp) (p:Addr) (N:St->Hp->Prop),(∀d h,f (i+1) d h->N d h)->xs[i]?=some x->f i b H->H p=none->g (.ref p) b (upd H p (.tup [.int i,x])) λl A=>o { D with nx:=N,ct:=N,bk:=D.nx } l A)(s:∀b H,f xs.length b H->D.nx b H):t9 (ZO K c a) D g o b H:=by
 refine⟨λi m b H=>m=xs.length-i/\i<=xs.length/\f i b H,⟨_,rfl,bT _,r⟩,?_⟩;rintro i m b H ⟨rfl,C,p⟩;have k:=v i b H p;by_cases n:i<xs.length
 .refine .inr ⟨⟨xs,xs[i],k,aB n⟩,λd h=>∃q,q<xs.length-i/\(q=xs.length-(i+1)/\i+1<=xs.length/\f (i+1) d h),λd h z=>z,λx h y=>?_⟩;obtain⟨j,B,t,rfl,rfl,w⟩:=y;exact u i B b H j _ (λd h j=>⟨xs.length-(i+1),by lia,rfl,n,j⟩) (w xs k) p t
 .have e:i=xs.length:=by lia
  subst e;exact .inl ⟨⟨xs,k,rfl⟩,s b H p⟩
end L2
namespace Pb
open L2 PySem
abbrev Ϧ:=Int×Int×Int
def Vw(s:Ϧ):List V:=[.int s.1,.int s.2.1,.int s.2.2]
abbrev Γ(H:Hp):List Addr->List Ϧ->Prop:=Paired λq s=>H q=some (.tup (Vw s))
theorem Γ.same{H b:Hp}{c:gy}{a:List Ϧ}(e:γ H b)(h:Γ H c a):Γ b c a:=Paired.imp' (λq v x=>e q _ x) h
theorem Γ.get{H:Hp}:∀{c:gy}{d:List Ϧ}{i:Nat}{x:V},Γ H c d->(c.map V.ref)[i]?=some x->∃p v,x=.ref p/\c[i]?=some p/\d[i]?=some v/\H p=some (.tup (Vw v))
 | _,_,i,x,.nil,e=>by simp at e
 | _,_,0,x,.cons (a:=p) (b:=r) h hs,e=>⟨p,r,by simpa using e.symm,by simp,by simp,h⟩
 | a::l1,_,i+1,x,.cons h hs,e=>by
   have g:(List.map V.ref l1)[i]?=some x:=by simpa using e
   obtain⟨p,r,l,f,j,k⟩:=Γ.get hs g;exact⟨p,r,l,by simpa using f,by simpa using j,k⟩
theorem yF{e f:Type}{R:e->f->Prop}{a:e}{b:f}(h:R a b):∀{d:List e}{c:List f},Paired R d c->Paired R (d++[a]) (c++[b])
 | _,_,.nil=>.cons h .nil
 | _,_,.cons x xs=>.cons x (yF h xs)
theorem FH{c d:Type}{R:c->d->Prop}:∀{g:List c}{f:List d}{i:Nat}{x:c},Paired R g f->g[i]?=some x->∃v,f[i]?=some v/\R x v
 | _,_,i,x,.nil,e=>by simp at e
 | _,_,0,x,.cons (a:=p) (b:=r) h hs,e=>by
   have:p=x:=by simpa using e
   subst this;exact⟨r,by simp,h⟩
 | a::l1,_,i+1,x,.cons h hs,e=>by
   have k:l1[i]?=some x:=by simpa using e
   obtain⟨v,l,j⟩:=FH hs k;exact⟨v,by simpa using l,j⟩
abbrev JV(H:Hp):List Addr->List (List Int)->Prop:=Paired λq a=>H q=some (.tup (a.map V.int))
def mO(c:hU)(a b:Int):Int:=(fg c a b).getD 1
def rE(b:hU)(a:dm)(s:Ϧ):List Int:=(a.set s.1.toNat (a.getD s.1.toNat 0-s.2.2*mO b s.1 s.2.1)).set s.2.1.toNat ((a.set s.1.toNat (a.getD s.1.toNat 0-s.2.2*mO b s.1 s.2.1)).getD s.2.1.toNat 0+s.2.2)
theorem DB(b:hU)(a:dm)(s:Ϧ):(rE b a s).length=a.length:=by unfold rE;rw[b7,b7]
def qb(m:Int)(a:hU)(s:Ϧ):Bool:=decide (0<=s.1)&&decide (s.1<m)&&decide (s.2.1∈jN m a s.1)&&decide (1<=s.2.2)
def kE(m:Int)(a:hU)(b:dm)(s:Ϧ):Bool:=qb m a s&&decide (s.2.2*mO a s.1 s.2.1<=b.getD s.1.toNat 0)
def ow(b:hU)(a:dm)(c:List Ϧ)(i:Nat):List Int:=(c.take i).foldl (rE b) a
def uw(c:hU)(b:dm)(a:List Ϧ):List (List Int):=(List.range (a.length+1)).map (ow c b a)
def KC(m:Int)(b:hU)(c:dm)(a:List Ϧ):Prop:=∀i s,a[i]?=some s->kE m b (ow b c a i) s=true
theorem Nj(c:hU)(b:dm)(d:List Ϧ)(i:Nat):(ow c b d i).length=b.length:=by
 unfold ow;have:∀(l:List Ϧ)(a:dm),(l.foldl (rE c) a).length=a.length:=by
  intro l
  induction l with
  | nil=>intro a;rfl
  | cons s l ih=>intro a;rw[jH,ih,DB]
 exact this _ _
theorem Kh{b:hU}{c:dm}{a:List Ϧ}{i:Nat}{s:Ϧ}(h:a[i]?=some s):ow b c a (i+1)=rE b (ow b c a i) s:=by
 unfold ow;rw[bq,h,jb]
 rfl
theorem xI(c:hU)(b:dm)(a:List Ϧ):(uw c b a).length=a.length+1:=by unfold uw;rw[ag,ku]
theorem t7{rs:hU}{xs:dm}{ss:List Ϧ}{i:Nat}(h:i<=ss.length):(uw rs xs ss)[i]?=some (ow rs xs ss i):=by
 unfold uw;rw[aQ,nO (by lia)]
 rfl
theorem Ld(b:hU)(a:dm)(c:List Ϧ):ow b a c 0=a:=by unfold ow;rw[eB];rfl
theorem wN{m:Int}{a:hU}{s:Ϧ}(h:qb m a s=true):(0<=s.1/\s.1<m)/\s.2.1∈jN m a s.1/\1<=s.2.2:=by
 unfold qb at h;rw[bw,bw,bw]at h;exact⟨⟨bn h.1.1.1,bn h.1.1.2⟩,bn h.1.2,bn h.2⟩
theorem Ew{m:Int}{d:hU}(g:Good m d){a b:Int}(h:Ta d a b):∃k,fg d a b=some k/\2<=k/\k<=1000000:=by
 obtain⟨x,e,j⟩:=h;obtain⟨i,l⟩:=cq e;have ok:=g.ok x e;have f:wt x a b:=j;rw[xq g l f];unfold mI;by_cases c:x.a=a/\x.b=b
 .rw[ao c];exact⟨_,rfl,ok.t0,ok.t1⟩
 .rw[ah c];have n:x.a=b/\x.b=a:=by
   rcases f with w|w
   .exact absurd w c
   .exact⟨w.2,w.1⟩
  rw[ao n];exact⟨_,rfl,ok.u0,ok.u1⟩
theorem DE{m:Int}{a:hU}(g:Good m a){s:Ϧ}(h:qb m a s=true):∃k,fg a s.1 s.2.1=some k/\mO a s.1 s.2.1=k/\(2<=k/\k<=1000000)/\(0<=s.2.1/\s.2.1<m):=by
 obtain⟨f,c,d⟩:=wN h;have b:=(zN g).mp c;obtain⟨k,e,r⟩:=Ew g b;exact⟨k,e,by unfold mO;rw[e];rfl,r,(g.Vs b).2.1⟩
end Pb
namespace L2
open PySem PySem.Spec PyProof.Rows
theorem PF(a:List V){k:Int}(d:0<=k):xU a none (some k)=a.take k.toNat:=by
 unfold xU;have c:HT.RY a.length 0 none=0:=rfl;have b:HT.RY a.length a.length (some k)=min k.toNat a.length:=by
  show(if k<0 then(k+(a.length:Int)).toNat else min k.toNat a.length)=_;rw[ah (by lia)]
 rw[c,b,iR,gA,List.take_eq_take_iff]
 lia
theorem Bw(a:List V){k:Int}(e:0<=k):xU a (some k) none=a.drop k.toNat:=by
 unfold xU;have d:HT.RY a.length a.length none=a.length:=rfl;have b:HT.RY a.length 0 (some k)=min k.toNat a.length:=by
  show(if k<0 then(k+(a.length:Int)).toNat else min k.toNat a.length)=_;rw[ah (by lia)]
 rw[d,b,cj (by rw[bZ];lia)];by_cases c:k.toNat<=a.length
 .rw[Nat.min_eq_left c]
 .rw[Nat.min_eq_right (by lia),me (aN _),me (by lia)]
end L2
namespace Pb
open L2 PySem
theorem L8{m:Int}{a:hU}{b:dm}{s:Ϧ}(h:kE m a b s=true):qb m a s=true/\s.2.2*mO a s.1 s.2.1<=b.getD s.1.toNat 0:=by
 unfold kE at h;rw[bw]at h;exact⟨h.1,bn h.2⟩
def Ux(c:Bool)(H:Hp)(a:Addr)(b:List V):Prop:=H a=some (if c then .lst b else .tup b)
theorem Ux.sq{K:fv}{c:Bool}{H:Hp}{a:Addr}{b:List V}(h:Ux c H a b):ύ K c H a b:=by
 cases c
 .exact Β.of h
 .exact ξ.of h
section
variable{m:Int}{d:hU}{r b:Int}{a:dt}{c:ew}
def Cy(a:dt)(b:Int):Nat->Int->Bool
 | 0,v=>decide (v=b)
 | n+1,v=>decide (v=b)||Cy a b n (a v)
def XF(a:dt)(c:ew)(b v:Int):Bool:=Cy a b (c v) v
theorem MU(R:ζ m d r a c){v:Int}(e:0<=v)(f:v<m)(g:v≠r):XF a c b v=(decide (v=b)||XF a c b (a v)):=by
 unfold XF;rw[R.pos e f g]
 rfl
end
end Pb
namespace L2
theorem cW{A B:TS}{D:Ends}{c:St}{H:Hp}(h:∀N:St->Hp->Prop,(∀a b,B D a b->N a b)->A { D with nx:=N } c H):IB A B D c H:=h (B D) λ_ _ z=>z
end L2
namespace L2
open PySem
theorem jC{K:fv}{a:Addr}{xs:List V}{g:TG}{h:TS}{D:Ends}{b:St}{H:Hp}(d:Nat->St->Hp->Prop)(k:d 0 b H)(q:∀i b H,i<=xs.length->d i b H->ξ K H a xs)(o:∀(i:Nat) (x:V) (b:St) (H:Hp) (N B:St->Hp->Prop),(∀b H,(g x b H λc f=>h { D with nx:=N,ct:=N,bk:=D.nx } c f)->B b H)->(∀e j,d (i+1) e j->N e j)->xs[i]?=some x->d i b H->B b H)(n:∀(B:St->Hp->Prop) b H,(∀b H,D.nx b H->B b H)->d xs.length b H->B b H):t9 (VP K a) D g h b H:=yh d k q (λi x b H N m l p=>o i x b H N (λb H=>g x b H λc f=>h { D with nx:=N,ct:=N,bk:=D.nx } c f) (λ_ _ z=>z) m l p) λb H p=>n (λb H=>D.nx b H) b H (λ_ _ z=>z) p
theorem B9{lo:Int}{n:Nat}{g:TG}{f:TS}{D:Ends}{a:St}{H:Hp}(d:Nat->St->Hp->Prop)(j:d 0 a H)(o:∀(i:Nat) (a:St) (H:Hp) (N B:St->Hp->Prop),(∀a H,(g (.int (lo+i)) a H λb e=>f { D with nx:=N,ct:=N,bk:=D.nx } b e)->B a H)->(∀c h,d (i+1) c h->N c h)->i<n->d i a H->B a H)(l:∀(B:St->Hp->Prop) a H,(∀a H,D.nx a H->B a H)->d n a H->B a H):t9 (UX lo n) D g f a H:=AL d j (λi a H N k m p=>o i a H N (λa H=>g (.int (lo+i)) a H λb e=>f { D with nx:=N,ct:=N,bk:=D.nx } b e) (λ_ _ z=>z) k m p) λa H p=>l (λa H=>D.nx a H) a H (λ_ _ z=>z) p
theorem Ct{c:TT}{h:TS}{D:Ends}{d:St}{H:Hp}(W:Nat->St->Hp->Prop)(i:Nat)(k:W i d H)(o:∀(n:Nat) (d:St) (H:Hp) (N:St->Hp->Prop) (B:Nat->St->Hp->Prop),(∀n d H,(c d H λb g=>if b=true then ∃N:St->Hp->Prop,(∀a e,N a e->∃f,f<n/\W f a e)/\h { D with nx:=N,ct:=N,bk:=D.nx } d g else D.nx d g)->B n d H)->(∀j a e,j<n->W j a e->N a e)->(∀a e,N a e->∃f,f<n/\W f a e)->W n d H->B n d H):F9 c h D d H:=HQ W i k λn d H N l m w=>o n d H N (λn d H=>c d H λb g=>if b=true then ∃N:St->Hp->Prop,(∀a e,N a e->∃f,f<n/\W f a e)/\h { D with nx:=N,ct:=N,bk:=D.nx } d g else D.nx d g) (λ_ _ _ z=>z) l m w
theorem Vx{d c a b:Prop}(e:d)(h:c)(f:a)(g:b):d/\c/\a/\b:=⟨e,h,f,g⟩
theorem an5{d c a b e:Prop}(g:d)(f:c)(h:a)(i:b)(j:e):d/\c/\a/\b/\e:=⟨g,f,h,i,j⟩
theorem an6{e c a b f d:Prop}(h:e)(g:c)(i:a)(k:b)(l:f)(j:d):e/\c/\a/\b/\f/\d:=⟨h,g,i,k,l,j⟩
theorem an7{f d a c g e b:Prop}(i:f)(h:d)(j:a)(l:c)(m:g)(k:e)(n:b):f/\d/\a/\c/\g/\e/\b:=⟨i,h,j,l,m,k,n⟩
end L2
namespace Pb
open L2 PySem
section
variable{m:Int}{e:hU}{r b:Int}{a:dt}{d:ew}
theorem Hw:∀(n:Nat)(v:Int),Cy a b n v=decide (b∈nz a n v)
 | 0,v=>by
   show decide (v=b)=decide (b∈[v]);exact decide_eq_decide.mpr ⟨λz=>by rw[z];exact aP,λz=>(ax.mp z).symm⟩
 | n+1,v=>by
   show(decide (v=b)||Cy a b n (a v))=decide (b∈v::nz a n (a v));rw[Hw n (a v)];by_cases c:v=b
   .rw[bB c,Bool.true_or,bB (by rw[c];exact aP)]
   .rw[bP c,nL];exact decide_eq_decide.mpr ⟨λz=>aL _ z,λz=>by
     rcases aG.mp z with z|z
     .exact absurd z.symm c
     .exact z⟩
end
section
variable{m:Int}{j:hU}{r b:Int}{a:dt}{d:ew}
theorem NJ:∀(k:Nat)(x:Int),up a (k+1) x=up a k (a x)
 | 0,_=>rfl
 | k+1,x=>by show a (up a (k+1) x)=a (up a k (a x));rw[NJ k x]
theorem zm:∀(n k:Nat)(x:Int),k<=n->up a k x∈nz a n x
 | 0,0,x,_=>aP
 | n+1,0,x,_=>aP
 | n+1,k+1,x,h=>by
   rw[NJ];exact aL _ (zm n k (a x) (by lia))
theorem HF{f:Int->List Int}:∀{l:dm}{k:Nat}{p:Int},(l.flatMap f)[k]?=some p->∃u∈l,∃e rest,(f u)[e]?=some p/\(l.flatMap f).drop k=(f u).drop e++rest
 | [],k,p,h=>by simp at h
 | u::l,k,p,h=>by
   rw[dJ]at h ⊢;by_cases c:k<(f u).length
   .rw[cD c]at h;exact⟨u,aP,k,l.flatMap f,h,List.drop_append_of_le_length (ic c)⟩
   .rw[cA (by lia)]at h;obtain⟨w,i,e,rest,n,g⟩:=HF h;refine⟨w,aL _ i,e,rest,n,?_⟩;rw[<-g,List.drop_append,List.drop_eq_nil_of_le (by lia),jk]
theorem Ml(g:Good m j)(R:ζ m j r a d):∀(n:Nat)(v:Int),m.toNat-1-d v=n->0<=v->v<m->∀(k:Nat)(p:Int),(iL m j r a d v)[k]?=some p->∃rest,(iL m j r a d v).drop k=iL m j r a d p++rest:=by
 intro n
 induction n with
 | zero=>
   intro v l f i k p h;have e:iL m j r a d v=[v]:=by unfold iL;rw[l];rfl
   cases k with
   | zero=>
     have:p=v:=(by rw[e]at h;exact(bC h).symm);rw[this];exact⟨[],by rw[bR];rfl⟩
   | succ k=>rw[e]at h;simp at h
 | succ n ih=>
   intro v l f i k p h;have e:=rS g R f i;cases k with
   | zero=>
     have:p=v:=(by rw[e]at h;exact(bC h).symm);rw[this];exact⟨[],by rw[bR];rfl⟩
   | succ k=>
     rw[e,gD]at h;obtain⟨u,w,s,rest,t,q⟩:=HF h;obtain⟨c,y,up⟩:=(gW g R f i).mp w;have z:=R.pos c.1 c.2 y;rw[up]at z;have A:=tQ R c.1 c.2;obtain⟨o,x⟩:=ih u (by lia) c.1 c.2 s p t;exact⟨o++rest,by rw[e,nP,q,x,b4]⟩
theorem An(g:Good m j)(R:ζ m j r a d){v:Int}(c:0<=v)(e:v<m):v∈iL m j r a d v:=by
 rw[rS g R c e];exact aP
theorem Os(g:Good m j)(R:ζ m j r a d){p:Int}(l:0<=p)(f:p<m)(x:Int):x∈iL m j r a d p↔(0<=x/\x<m)/\XF a d p x=true:=by
 constructor
 .intro h;obtain⟨c,k,v,s⟩:=(yH g R _ p l f).2 x h;refine⟨c,?_⟩;unfold XF;rw[Hw];refine bB ?_;rw[<-s];exact zm _ _ _ (by lia)
 .rintro⟨c,h⟩;generalize o:d x=n
  induction n generalizing x with
  | zero=>
    by_cases z:x=r
    .subst z;have:p=x:=by
      unfold XF at h;rw[R.root]at h;exact(bn h).symm
     rw[this];exact An g R c.1 c.2
    .have:=R.pos c.1 c.2 z
     lia
  | succ n ih=>
    have z:x≠r:=λz=>by rw[z,R.root]at o;lia
    have u:=R.up x c.1 c.2 z;rw[MU R c.1 c.2 z]at h;by_cases y:x=p
    .rw[y];exact An g R l f
    .rw[bP y,nL]at h;have q:=ih (a x) u.1 h (by lia);obtain⟨k,t⟩:=cq q;obtain⟨rest,e⟩:=Ml g R _ p rfl l f k _ t;refine cJ (i:=k) ?_;rw[e,rS g R u.1.1 u.1.2];refine bH _ (aL _ (gQ.mpr ⟨x,(gW g R u.1.1 u.1.2).mpr ⟨c,z,rfl⟩,An g R c.1 c.2⟩))
end
end Pb
namespace Pb
open PySem L2
def VY(b:hU)(a:dt)(v x:Int):Int:=x*(fg b (a v) v).getD 1
end Pb
set_option exponentiation.threshold 5000
namespace Pb
open L2 PySem
section
variable{m:Int}{e:hU}{r:Int}{a:dt}{b:ew}
variable{f:hT}{c:dt}{d:hT}
theorem Order.cut(R:ζ m e r a b){t:dm}(O:Order m r a t){i:Nat}{v:Int}(g:t.reverse[i]?=some v):((0<=v/\v<m)/\v≠r)/\t.drop (t.length-(i+1))=v::t.drop (t.length-i)/\(t.drop (t.length-i)).Nodup/\(∀x∈t.drop (t.length-i),(0<=x/\x<m)/\x≠r)/\∀k,0<=k->k<m->k≠r->a k=v->k∈t.drop (t.length-i):=by
 have D:i<t.length:=by
  have:=(ay.mp g).1
  rwa [bA]at this
 rw[ee D]at g;generalize H:t.length-1-i=j at g;have E:t.length-i=j+1:=by lia
 have n:t.length-(i+1)=j:=by lia
 rw[E,n];have A:j<t.length:=by lia
 have G:v∈t:=aO g;have u:=O.places v G;have p:t.drop j=v::t.drop (j+1):=by
  rw[gj A];rw[aB A]at g;cases g
  rfl
 have h:t=t.take j++v::t.drop (j+1):=by rw[<-p,fL]
 have s:=(bI.mp O.nd).2;have B:=s;rw[h]at B;have F:v∉t.take j:=λz=>(fP.mp B).2.2 v z v aP rfl;refine⟨u,p,s.sublist (List.drop_sublist _ _),λx C=>O.places x (cJ C),λk q o y l=>?_⟩;rcases O.all k q o with z|z
 .exact absurd z y
 .rw[h]at z;rcases aK.mp z with z|z
  .have af:=O.af;rw[h]at af;rcases af.up k z with w|w
   .rw[l]at w;exact absurd (ax.mp w) u.2
   .rw[l]at w;exact absurd w F
  .rcases aG.mp z with z|z
   .subst z;exact absurd l (R.ne q o y)
   .exact z
end
end Pb
namespace L2
open PySem PySem.Spec PyProof.Rows
theorem PL{l:gy}(h:l.Nodup)(i j:Nat){a b:Addr}(g:l[i]?=some a)(m:l[j]?=some b)(k:i≠j):a≠b:=λz=>by
 subst z;obtain⟨c,f⟩:=ay.mp g;obtain⟨e,d⟩:=ay.mp m;rcases Nat.lt_or_gt_of_ne k with q|q
 .exact eU.mp h i j c e q (f.trans d.symm)
 .exact eU.mp h j i e c q (d.trans f.symm)
section
variable{X:Cx}
theorem Gs:bootBuiltins "str"=some (.type "str"):=by decide +kernel
theorem OF{j:Bv}{i:Nat}{x:Str}{e:Expr}{k:XK->TE}{c a:Pos}(o:X.N.Nodup)(p:X.N[i]?=some x)(m:Loc X.env.scope x)(n:U2 j X e k)(r:swapsWith e (some (.Name x a)) c.line X.env=pure false:=by rfl)(q:X.fn x=true\/X.env.scope.names.lookup x=some .local:=by first|exact .inl rfl|exact .inr rfl|assumption):ZJ j X (.Assign [.Name x a] e c) (λg D b H=>k (g b) b H λy f=>D.nx (b.set i (some y)) f):=by
 intro g d s b H D I h;refine wpAny_Assign_Name (bu (n (g b) d s b H _ I h) (λv A ⟨y,f,l,u,w⟩=>?_) λe C z=>⟨b,z⟩) r;exact tY l o p m u (λB t=>⟨_,f,t,w⟩) q
end
end L2
namespace Pb
open L2 PySem
section
variable{m:Int}{b:hU}{r:Int}{a:dt}{c:ew}
def tup(b:hU)(a:dt)(v:Int):Int:=(fg b v (a v)).getD 1
variable{d:Int->Option Int}{w:Int}{e:dt}
end
end Pb
namespace L2
open PySem PySem.Spec PyProof.Rows PySem.W
section
variable{n:Nat}
variable(a:0<n)
include a
end
end L2
namespace Pb
open L2 PySem
def vN(m:Int)(b:hU)(a:hT)(c:Int->Int->Nat)(d e:dm)(i:Nat):List Int:=(cM i).map λr=>aS m b r (a r) (c r) (λv=>(kX m d e).getD v.toNat 0) (RA b (a r)) r
theorem FF{m:Int}{e:hU}{c:hT}{a:Int->Int->Nat}{b d:dm}{i:Nat}:(vN m e c a b d i).length=i:=by unfold vN;rw[ag,dq]
end Pb
namespace L2
open PySem
def WW(K:fv)(a:Addr)(c:List V):Prop:=∃(o:Obj)(b:Array Value)(n:Nat),K.lookup a=some o/\o.cls=.type "tuple"/\o.data=.seq b n/\b.size<=sizeLine/\Vals c b.toList
theorem WW.sq{K:fv}{H:Hp}{a:Addr}{b:List V}(h:WW K a b):Β K H a b:=.inr h
end L2
namespace Pb
open L2 PySem
section
variable{m:Int}{c:hU}{r:Int}{a:dt}{b:ew}
abbrev rW(m:Int)(c:hU)(r:Int)(a:dt)(b:ew)(d z:dm)(v:Int):Int:=aS m c r a b (λv=>(kX m z d).getD v.toNat 0) (RA c a) v
end
end Pb
namespace L2
open PySem PySem.Spec PyProof.Rows PySem.W
section
variable{X:Cx}
theorem M8:Wz X "str.zfill" (λx a H Q=>∃z i,x=.str z/\a=[.int i]/\PadOk i=true/\Q (.str (Txt.zfill z i)) H):=by
 intro b s g H x a v l Q I d e h;obtain⟨z,i,rfl,rfl,c,q⟩:=h;obtain⟨t,rfl⟩:=d;obtain⟨u,rfl,f,rfl⟩:=mP e;exact SC.zfill c λj k=>⟨.str _,H,I.tok _,⟨_,rfl⟩,q⟩
theorem zL:∀{b:hO}{a:g8},Vals (b.map V.str) a->StrsAre a b
 | [],_,.nil=>.nil
 | y::b,_,.cons h r=>by
   obtain⟨t,rfl⟩:=h;exact .cons y t (zL r)
def Et(K:fv):V->List V->Hp->VK->Prop:=λx b H Q=>∃z l a,x=.str z/\b=[.ref l]/\ξ K H l (a.map V.str)/\(a.map (·.length)).sum+a.length*z.length<=16777216/\Q (.str (Str.join z a)) H
theorem jK:Wz X "str.join" (Et X.K):=by
 intro a s m H x j v w Q I e g h;obtain⟨z,l,p,rfl,rfl,d,f,q⟩:=h;obtain⟨t,rfl⟩:=e;obtain⟨u,rfl,c⟩:=mP g;cases c;obtain⟨i,r,b,n⟩:=I.list d;refine join_list b.isList (by simpa using zL r) f λo k=>⟨.str _,H,I.tok _,⟨_,rfl⟩,?_⟩;unfold Txt.join;rw[StrLaws.glued_eq_join];exact q
theorem DW:∀l:List (Str×Tok),Vals ((l.map (·.1)).map V.str) (strValues l)
 | []=>.nil
 | (y,t)::l=>.cons ⟨t,rfl⟩ (DW l)
theorem qU:Wz X "str.split" (λx i H Q=>∃z y,x=.str z/\i=[.str y]/\(y.length==0)=false/\z.length<=60000/\∀l,H l=none->Q (.ref l) (upd H l (.lst ((Txt.split z y).map V.str)))):=by
 intro d s p H x i v C Q I w A h;obtain⟨z,y,rfl,rfl,j,n,q⟩:=h;obtain⟨t,rfl⟩:=w;obtain⟨B,rfl,u,rfl⟩:=mP A;have g:z.length<=sizeLine:=aR n (by decide);have c:∀(l:List (Str×Tok))(k:Nat),l.map (·.1)=Txt.split z y->l.length<=sizeLine->EP X d p Q (.ref s.heap.objs.size) { s with toks:=k,heap:=s.heap.push { cls:=.type "list",data:=.seq (strValues l).toArray } }:=λl k e r=>by
  refine⟨.ref s.heap.objs.size,_,I.laid (a:=s.heap.objs.size) (o:=.lst ((Txt.split z y).map V.str)) (t':=k) (λb u e=>au _ e) (aN _) ⟨?_,strValues l,_,?_,bg _ rfl⟩,rfl,q _ (I.χ.fresh (aN _))⟩
  .rw[ag,<-e,ag];exact r
  .rw[<-e];exact DW l
 have m:(Txt.split z y).length<=sizeLine:=aR (split_le z y) (aR (Nat.add_le_add_right n 2) (by decide));have f:∀{l:List (Str×Tok)},l.map (·.1)=Txt.split z y->l.length<=sizeLine:=λ{l} e=>by
  have:=congrArg List.length e;rw[ag]at this;rw[this];exact m
 cases h1:(decide (z.length<y.length)||decide (Builtin.Str.strKind z<Builtin.Str.strKind y))
 .cases hf:(Builtin.Str.occurrences z y 0 z.length (z.length+1)).isEmpty
  .have es:Txt.split z y=Builtin.Str.partsBetween z (Builtin.Str.occurrences z y 0 z.length (z.length+1)) y.length:=by
    unfold Txt.split;rw[ah (ne_true_of_eq_false h1),ah (ne_true_of_eq_false hf)]
   refine call_meets lK (typeIs_str _ _ _) kK (km _ _) (meets_str_split_sep z y t u h1 j hf g (by rw[<-es];exact m)) ?_;show wants _ _ _ { s with toks:=_,heap:=s.heap.push { cls:=.type "list",data:=.seq (strsFrom s.toks (Builtin.Str.partsBetween z (Builtin.Str.occurrences z y 0 z.length (z.length+1)) y.length)).toArray } };rw[strsFrom_eq];have e:(numbered s.toks (Builtin.Str.partsBetween z (Builtin.Str.occurrences z y 0 z.length (z.length+1)) y.length)).map (·.1)=Txt.split z y:=(numbered_texts _ _).trans es.symm;exact c _ _ e (f e)
  .have e:[(z,t)].map (·.1)=Txt.split z y:=by
    unfold Txt.split;rw[ah (ne_true_of_eq_false h1),ao hf]
    rfl
   exact call_meets lK (typeIs_str _ _ _) kK (km _ _) (meets_str_split_not_found z y t u h1 j hf) (c [(z,t)] s.toks e (f e))
 .have e:[(z,t)].map (·.1)=Txt.split z y:=by
   unfold Txt.split;rw[ao h1]
   rfl
  exact call_meets lK (typeIs_str _ _ _) kK (km _ _) (meets_str_split_cannot_occur z y t u h1) (c [(z,t)] s.toks e (f e))
theorem Lr:kI X (.type "int") (λa H Q=>∃z i,a=[.str z]/\PySem.intText? z=some i/\z.length<=640/\Q (.int i) H):=by
 intro b s e H a f Q I r h;obtain⟨z,i,rfl,d,c,q⟩:=h;obtain⟨u,rfl,t,rfl⟩:=mP r;exact KIN.call_text d c ⟨.int i,H,I.tok _,⟨_,rfl⟩,q⟩
end
def Its(z:Str):It:=⟨λi _=>i<z.cps.size,λi H x a=>a=H/\∃c,z.cps[i]?=some c/\x=.str ⟨#[c]⟩,λi _=>z.cps.size<=i⟩
theorem NA{P:Program}{w:World}{K:fv}{J:Expr}(g:Addr)(z:Str)(t:Tok):Turn P w K J (Its z) [g] g (λi h=>h.IsStrIter g "str_ascii_iterator" z t i) where
 mem:=by simp
 obj:=λi h st b j=>by
  have e:b=g:=by simpa using j
  subst e;obtain⟨o,e,c,d⟩:=st;exact⟨o,e,λv z=>by rw[d]at z;cases z⟩
 keep:=λi h l st k=>let ⟨o,ho,r⟩:=st;⟨o,k g (by simp) o ho,r⟩
 item:=by
  intro X p y u F i f s C H E I m st a;subst p y u;have a:i<z.cps.size:=a;obtain⟨n,B,L,x,A,q⟩:=m g (by simp);refine wpAny_pyNext_ascii_item st (c:=z.cps[i]) (by simp[a]) λl D N=>?_;have G:Inv X f C H { s with heap:=l,toks:=s.toks+1 }:=I.turned (t':=s.toks+1) (λb o j e=>(N.2 b j).trans e) n B x A q;obtain⟨o,e,c,d⟩:=id D;exact⟨_,rfl,Bi (s:={ s with heap:=l,toks:=s.toks+1 }) e c d (by decide) ⟨.str ⟨#[z.cps[i]]⟩,H,G,⟨_,rfl⟩,⟨rfl,_,by simp[a],rfl⟩,D,λb j=>(m b j).1⟩⟩
 done:=by
  intro X p y u F i f s C H E I m st a;subst p y u;have a:z.cps.size<=i:=a;obtain⟨n,B,L,x,A,q⟩:=m g (by simp);exact wpAny_pyNext_ascii_end (I.ok.hd F) st (by simp[a]) λl M=>⟨rfl,I.turned (t':=s.toks) (λb o j e=>M b o j e) n B x A q⟩
 self:=λ_ _ _ _ _ st h=>wpAny_pyIter_striter_ascii st h
section
variable{X:Cx}{a:Expr}
def MC(b:TE):TI:=λd H R=>b d H λx c=>∃z,x=.str z/\z.cps.all (·<128)=true/\R (Its z) c
theorem Ps{l:Expr}{g:TE}(m:PE X l g):PI X a l (MC g):=by
 intro c s i H R I h;refine dP (m c s i H _ I h) λv d x j f n p=>?_;obtain⟨z,e,k,q⟩:=p;subst e;obtain⟨t,rfl⟩:=n;refine wpAny_pyIter_ascii k ?_;refine⟨d.heap.objs.size,[d.heap.objs.size],_,_,j,rfl,f.kept (t':=d.toks) λb o e=>au _ e,NA _ z t,⟨_,bg _ rfl,rfl,rfl⟩,λb r=>?_,q⟩;have e:b=d.heap.objs.size:=by simpa using r
 subst e;exact f.SY (aN _) (f.χ.fresh (aN _))
end
section
variable{P:Program}{w:World}{A:Around}{E:fc}{s:Shared}
theorem Lp{z:Str}:∀{l:List (Str×Tok)},Builtin.Str.tooLong ((l.map (·.1)).toArray.foldl (·+·.length+z.length) 0)=false->Gives (joinTail z (strValues l)) (joinMade z l)
 | [],h=>gives_joinTail z [] h
 | [p],h=>gives_joinTail z [p] h
 | p::q::r,h=>gives_joinTail z (p::q::r) h
theorem El(C:A.handled=none){I l:Addr}{a:Array Value}{f:hO}{z:Str}{t:Tok}{Q:fc}(st:Ev I l a 0 s.heap)(ne:l≠I)(O:a.size<=sizeLine)(J:StrsAre a.toList f)(N:(f.map (·.length)).sum+f.length*z.length<=16777216)(L:∀(c:Shared) (p k:Nat),c.os=s.os->c.gens=s.gens->c.drawn=s.drawn->(∀b o,b≠I->s.heap.get? b=some o->c.heap.get? b=some o)->s.heap.objs.size<=c.heap.objs.size->Q (.str (Str.join z f.reverse) p) { c with toks:=k }):wpAny (model P w) A (call (.builtin "str.join") [.str z t,.ref I]) Q E s:=by
 refine gX (jA lY.plain F.entry_str_join (lY.check _ _ _ _ _ _ _ _ (typeIs_str _ _ _) (F.args_str_join_2 _ _) ?_));rw[join_tree_other];refine aj (wpAny_typeOf st.2.1.typeIs ?_);show wpAny _ A.in1 ((pyIter (.ref I)).tryCatch _>>=λu=>collect u>>=λd=>joinTail z d) _ _ s;refine aj (wpAny_tryCatch (g9 st.2.1 ?_));have n:A.in1.handled=none:=C;refine aj (G8 n st ne O λc i y v G H D B=>?_);obtain⟨q,rfl⟩:∃q:List Value,i=q.toArray:=⟨i.toList,by simp⟩;obtain⟨h,rfl⟩:∃h:List Value,a=h.toArray:=⟨a.toList,by simp⟩;have x:=Kq B;subst x;obtain⟨e,m,K⟩:=strsAre_values J;have m:strValues e=h:=by simpa using m.symm
 have M:strValues e.reverse=h.reverse:=by
  rw[<-m];unfold strValues;rw[gR]
 have r:e.reverse.map (·.1)=f.reverse:=by rw[gR,K]
 show wpAny _ _ (joinTail z h.reverse.toArray.toList) _ _ c;rw[show h.reverse.toArray.toList=strValues e.reverse by rw[M]];have j:JoinOk z (e.reverse.map (·.1))=true:=by
  refine joinOk_of ?_;rw[r,gR,List.sum_reverse,bA];exact N
 unfold JoinOk at j;rw[gV]at j;have g:=Lp j;refine g P w A (wants Q E) c (post_join e.reverse ⟨joinFit_length j,λp k=>?_⟩);have:Txt.join z (e.reverse.map (·.1))=Str.join z f.reverse:=by
  unfold Txt.join;rw[StrLaws.glued_eq_join,r]
 rw[this];exact L c p k y v G H D
end
section
variable{X:Cx}{e:Expr}{j:TE}{d c g f:Pos}{z:Str}{l:Pos}{i:Nat}
def F0(K:fv)(z:Str)(j:TE):TE:=λk H Q=>j k H λx h=>∃(a:Addr)(b:hO),x=.ref a/\ξ K h a (b.map V.str)/\(b.map (·.length)).sum+b.length*z.length<=16777216/\Q (.str (Str.join z b.reverse)) h
theorem Mb(hc:X.calm=true)(hg:Gl X "reversed")(Y:X.mg "reversed"=none)(N:PE X e j)(J:attributeBase (.Constant (.str z) i l) "join" X.env (eval (.Constant (.str z) i l) X.env)=eval (.Constant (.str z) i l) X.env:=by rfl)(R:((backTo g (starEach [.Call (.Name "reversed" d) [e] [] f] X.env)).all (λx=>!x.1)&&(backToKw g (keywordEach [] X.env)).all (λx=>x.1.isSome)
 && decide ([Expr.Call (.Name "reversed" d) [e] [] f].length+([]:List Keyword).length+(if([]:List Keyword).isEmpty then 0 else 1)<30))=true:=by rfl)(m:(c.endLine==g.line)=true:=by rfl)(A:starEach [.Call (.Name "reversed" d) [e] [] f] X.env=[(false,eval (.Call (.Name "reversed" d) [e] [] f) X.env)]:=by rfl)(M:starEach [e] X.env=[(false,eval e X.env)]:=by rfl):PE X (.Call (.Attribute (.Constant (.str z) i l) "join" c) [.Call (.Name "reversed" d) [e] [] f] [] g) (F0 X.K z j):=by
 intro o s O H Q I h;refine wpAny_Call_method_late J R m rfl (dP (bo o s O H (λx H'=>x=.str z/\H'=H) I ⟨rfl,rfl⟩) λv s1 x P L r1 ⟨n,T⟩=>?_);subst n T;obtain⟨t,rfl⟩:=r1;refine⟨"str","str.join",F.plainAttrs_str,lY,F.type_str_join,typeIs_str _ _ _,(λ_ e=>nomatch e),?_⟩;refine jf (by rw[A];rfl) (gg ?_);refine OP (pos:=g) hg Y N L h A M (λS H2 x a ys ar w q2 n r rv st ne V=>?_) λx P ⟨a,ys,n,r,_⟩=>⟨a,_,n,r⟩;obtain⟨a',ϴ,p,y,χ,q⟩:=q2;rw[n]at p;cases p;have W:=w.Ac r y;subst W;refine El (w.ok.hd hc) st ne V (by simpa using zL rv) χ λs' t' k G D C B Z=>?_;obtain⟨U,gs,ds,ts,ak⟩:=s';simp only at G D C B Z;subst G D C;have kk:∀b u,S.heap.get? b=some u->U.get? b=some u:=λb u E=>B b u (aU (aI E)) (au _ E);exact⟨.str _,H2,w.kept (t':=k) kk,⟨_,rfl⟩,q⟩
end
theorem LJ{X:Cx}{x y:Str}{a:Pos}(b:Gl X x)(c:∃t,X.mg x=some (.str y t))(d:(x==("__debug__":Str))=false:=by decide):PE X (.Name x a) (tC (.str y)):=by
 obtain⟨t,e⟩:=c;exact CK b e ⟨t,rfl⟩ d
theorem Mi{z:Str}{p:Addr}{Q:VK}{g:TG}{q:TT}{o:TE}{n:St}{s:Hp}(j:Nat->List V->St->Hp->Prop)(w:j 0 [] n s)(C:∀(i c:Nat) (a:List V) (f:St) (H:Hp) (N:List V->St->Hp->Prop),(∀l d k,j (i+1) l d k->N l d k)->z.cps.toList[i]?=some c->j i a f H->g (.str ⟨#[c]⟩) f H λh D=>q h D λb t=>
 if b=true then o h t λy r=>r p=some (.lst a)/\a.length<sizeLine/\N (a++[y]) h (upd r p (.lst (a++[y])))else N a h t)(B:∀a f H,j z.cps.toList.length a f H->Q (.ref p) H):sU (Its z) p Q g q o n s:=by
 have F:z.cps.size=z.cps.toList.length:=by simp
 refine⟨λi m a f H=>m=z.cps.toList.length-i/\i<=z.cps.toList.length/\j i a f H,⟨z.cps.toList.length,by simp,bT _,w⟩,?_⟩;rintro i m a f H ⟨rfl,G,pv⟩;by_cases v:i<z.cps.toList.length
 .refine .inr ⟨by show i<z.cps.size;lia,λx k y=>?_⟩;obtain⟨rfl,c,E,rfl⟩:=y;exact C i c a f _ (λl d k=>∃u,u<z.cps.toList.length-i/\(u=z.cps.toList.length-(i+1)/\i+1<=z.cps.toList.length/\j (i+1) l d k)) (λl d k A=>⟨z.cps.toList.length-(i+1),by lia,rfl,v,A⟩) (by rw[iq];exact E) pv
 .have e:i=z.cps.toList.length:=by lia
  subst e;exact .inl ⟨by show z.cps.size<=_;lia,B a f H pv⟩
end L2
namespace Pb
open L2 PySem PySem.W NumText
def fA(n:Nat):List Nat:=(Nat.toDigits 10 n).map Char.toNat
def FS(n:Nat):Str:=⟨(fA n).toArray⟩
theorem nC(n:Nat):(FS n).cps.toList=fA n:=rfl
theorem kg{a b:Str}(h:a.cps.toList=b.cps.toList):a=b:=by
 cases a;cases b
 congr 1
 exact Array.toList_inj.mp h
theorem qm(n:Nat):Str.ofString (toString ((n:Nat):Int))=FS n:=kg (KIN.signs_num n)
theorem Qm:∀d:Nat,d<10->(Nat.digitChar d).toNat=48+d:=by decide
theorem oS{n:Nat}(h:n<10):fA n=[48+n]:=by
 unfold fA;rw[Nat.toDigits_of_lt_base h];show[(Nat.digitChar n).toNat]=_;rw[Qm n h]
theorem pS{n:Nat}(h:10<=n):fA n=fA (n/10)++[48+n%10]:=by
 have a:n%10<10:=lU n (by decide);have t:Nat.toDigits 10 (n/10)++Nat.toDigits 10 (n%10)=Nat.toDigits 10 (10*(n/10)+n%10):=Nat.toDigits_append_toDigits (by decide) (by lia) a;rw[Nat.div_add_mod]at t;unfold fA;rw[<-t,aE]
 congr 1
 exact oS a
theorem qV(n:Nat):AllDigits (fA n):=by
 induction n using Nat.strongRecOn with
 | _ n ih=>
   by_cases h:n<10
   .rw[oS h];intro c hc;rw[ax.mp hc]
    lia
   .rw[pS (by lia)];intro c hc;rcases aK.mp hc with hc|hc
    .exact ih (n/10) (by lia) c hc
    .rw[ax.mp hc];have:=lU n (show 10>0 by decide)
     lia
theorem CN(n:Nat):fA n≠[]:=by
 by_cases h:n<10
 .rw[oS h];simp
 .rw[pS (by lia)];simp
theorem JS(n:Nat)(h:0<n):∃c r,fA n=c::r/\c≠48:=by
 induction n using Nat.strongRecOn with
 | _ n ih=>
   by_cases a:n<10
   .exact⟨48+n,[],oS a,by lia⟩
   .obtain⟨c,r,e,hc⟩:=ih (n/10) (by lia) (by lia);exact⟨c,r++[48+n%10],by rw[pS (by lia),e];rfl,hc⟩
theorem oh:∀(k n:Nat),n<10^(k+1)->(fA n).length<=k+1
 | 0,n,h=>by rw[oS (by simpa using h)];simp
 | k+1,n,h=>by
   by_cases a:n<10
   .rw[oS a];simp
   .rw[pS (by lia),ap,bM];have:=oh k (n/10) (by rw[fJ]at h;lia)
    lia
theorem wx(n:Nat):digitsVal (fA n)=n:=KIN.val_back n
def uV:Nat->Nat->List Nat
 | 0,_=>[]
 | k+1,m=>uV k (m/10)++[48+m%10]
theorem DX:∀k,uV k 0=List.replicate k 48
 | 0=>rfl
 | k+1=>by
   show uV k 0++[48+0%10]=_;rw[DX k,List.replicate_succ']
theorem EV:∀(k m:Nat),m<10^(k+1)->List.replicate (k+1-(fA m).length) 48++fA m=uV (k+1) m
 | 0,m,h=>by
   have h:m<10:=by simpa using h
   rw[oS h];show _=[]++[48+m%10];rw[Nat.mod_eq_of_lt h]
   rfl
 | k+1,m,h=>by
   show _=uV (k+1) (m/10)++[48+m%10];by_cases a:m<10
   .rw[oS a,show m/10=0 by lia,DX,Nat.mod_eq_of_lt a]
    rfl
   .have ih:=EV k (m/10) (by rw[fJ]at h;lia);rw[pS (by lia),ap,bM,<-ih,show k+1+1-((fA (m/10)).length+1)=k+1-(fA (m/10)).length by lia,b4]
theorem GD:∀(k q m:Nat),0<q->m<10^k->fA (q*10^k+m)=fA q++uV k m
 | 0,q,m,hq,h=>by
   have:m=0:=by simpa using h
   subst this;simp[uV]
 | k+1,q,m,hq,h=>by
   have e:(q*10^(k+1)+m)/10=q*10^k+m/10:=by
    rw[fJ,<-j0]
    lia
   have b:(q*10^(k+1)+m)%10=m%10:=by
    rw[fJ,<-j0]
    lia
   have p:0<10^k:=Nat.pow_pos (by decide);have a:10<=q*10^(k+1)+m:=by
    rw[fJ,<-j0];have:1<=q*10^k:=Nat.mul_pos hq p
    lia
   rw[pS a,e,b,GD k q (m/10) hq (by rw[fJ]at h;lia),b4]
   rfl
theorem app_list(a b:Str):(a++b).cps.toList=a.cps.toList++b.cps.toList:=PySem.W.KT.app_list a b
theorem eL(a:Str):a.length=a.cps.toList.length:=by
 show a.cps.size=_;simp
def fK(s:List Nat):List (List Nat)->List Nat
 | []=>[]
 | [x]=>x
 | x::y::r=>x++s++fK s (y::r)
theorem iw(z:Str):∀a:List Str,(Str.join z a).cps.toList=fK z.cps.toList (a.map (·.cps.toList))
 | []=>rfl
 | [x]=>rfl
 | x::y::r=>by
   show(x++z++Str.join z (y::r)).cps.toList=_;rw[app_list,app_list,iw z (y::r)]
   rfl
theorem BQ{c:Nat}:∀{a b X Y:List Nat},c∉a->c∉b->a++c::X=b++c::Y->a=b/\X=Y
 | [],[],X,Y,_,_,e=>⟨rfl,by simpa using e⟩
 | [],b::bs,X,Y,_,hb,e=>by
   have:=(ck e).1;exact absurd (by rw[this];exact .head _) hb
 | a::as,[],X,Y,ha,_,e=>by
   have:=(ck e).1;exact absurd (by rw[<-this];exact .head _) ha
 | a::as,b::bs,X,Y,ha,hb,e=>by
   obtain⟨i,f⟩:=ck e;obtain⟨d,g⟩:=BQ (λh=>ha (.tail _ h)) (λh=>hb (.tail _ h)) f;exact⟨by rw[i,d],g⟩
theorem DC{c:Nat}:∀{A B:List (List Nat)},A≠[]->B≠[]->(∀a∈A,c∉a)->(∀b∈B,c∉b)->fK [c] A=fK [c] B->A=B
 | [],_,h,_,_,_,_=>absurd rfl h
 | _,[],_,h,_,_,_=>absurd rfl h
 | [a],[b],_,_,_,_,e=>by rw[show a=b from e]
 | [a],b::b'::r,_,_,ha,_,e=>by
   have:c∈a:=by rw[show a=b++[c]++fK [c] (b'::r)from e];simp
   exact absurd this (ha a (.head _))
 | a::a'::r,[b],_,_,_,hb,e=>by
   have:c∈b:=by rw[<-show a++[c]++fK [c] (a'::r)=b from e];simp
   exact absurd this (hb b (.head _))
 | a::a'::r,b::b'::r',_,_,ha,hb,e=>by
   have e:a++[c]++fK [c] (a'::r)=b++[c]++fK [c] (b'::r'):=e;rw[b4,b4]at e;obtain⟨f,g⟩:=BQ (ha a (.head _)) (hb b (.head _)) e;rw[f,DC (by simp) (by simp) (λx d=>ha x (.tail _ d)) (λx d=>hb x (.tail _ d)) g]
theorem sB{c:Nat}{ys:hO}(h:ys≠[])(q:∀y∈ys,c∉y.cps.toList):Txt.split (Str.join ⟨#[c]⟩ ys) ⟨#[c]⟩=ys:=by
 have e:=StrLaws.join_split (Str.join ⟨#[c]⟩ ys) ⟨#[c]⟩;have f:=StrLaws.split_free (Str.join ⟨#[c]⟩ ys) c;have n:=lQ (Str.join ⟨#[c]⟩ ys) ⟨#[c]⟩;generalize Txt.split (Str.join ⟨#[c]⟩ ys) ⟨#[c]⟩=k at e f n ⊢;have j:=congrArg (λs:Str=>s.cps.toList) e;simp only[iw]at j;have p:k.map (·.cps.toList)=ys.map (·.cps.toList):=DC (c:=c) (by intro z;rw[mY.mp z]at n;simp at n) (by intro z;exact h (mY.mp z)) (λa i=>by obtain⟨y,g,rfl⟩:=aW.mp i;exact f y g) (λa i=>by obtain⟨y,g,rfl⟩:=aW.mp i;exact q y g) j;have d:∀{l b:hO},l.map (·.cps.toList)=b.map (·.cps.toList)->l=b:=by
  intro l
  induction l with
  | nil=>intro b e;cases b with
    | nil=>rfl
    | cons _ _=>cases e
  | cons x l ih=>
    intro b e;cases b with
    | nil=>cases e
    | cons y b=>
      obtain⟨o,m⟩:=ck e;rw[kg o,ih m]
 exact d p
theorem Dx:∀l:List (List Nat),fK [] l=l.flatten
 | []=>rfl
 | [x]=>by simp[fK]
 | x::y::r=>by
   show x++[]++fK [] (y::r)=_;rw[Dx (y::r)];simp
theorem zf{m:Nat}(h:m<10^18):(Txt.zfill (FS m) 18).cps.toList=uV 18 m:=by
 have i:=oh 17 m h;have e:=EV 17 m h;have b:(FS m).length=(fA m).length:=by rw[eL];rfl
 unfold Txt.zfill;rw[b];by_cases c:(18:Int)<=((fA m).length:Nat)
 .rw[ao c,nC,<-e,show 17+1-(fA m).length=0 by lia]
  rfl
 .rw[ah c];obtain⟨d,r,a⟩:∃d r,fA m=d::r:=by
   cases hh:fA m with
   | nil=>exact absurd hh (CN m)
   | cons d r=>exact⟨d,r,rfl⟩
  have g:=qV m d (by rw[a];exact .head _);have f:(FS m).cps[0]?=some d:=by
   rw[<-iq,nC,a];rfl
  unfold PySem.zfilled;rw[f];split
  .rename_i z;cases z;lia
  .rename_i z;cases z;lia
  .rw[<-e];unfold Builtin.Str.padded;simp[FS]
theorem P3{m:Nat}(h:m<10^18):(Txt.zfill (FS m) 18).length=18:=by
 rw[eL,zf h];have:∀k m,(uV k m).length=k:=by
  intro k
  induction k with
  | zero=>intro m;rfl
  | succ k ih=>intro m;show(uV k (m/10)++[48+m%10]).length=_;rw[ap,ih];rfl
 exact this 18 m
theorem OT{m:Nat}(h:10^18<=m):fA m=fA (m/10^18)++(Txt.zfill (FS (m%10^18)) 18).cps.toList:=by
 have a:m%10^18<10^18:=lU m (by decide);rw[zf a,<-GD 18 (m/10^18) (m%10^18) (Nat.div_pos h (by decide)) a,Nat.div_add_mod']
theorem NZ{n:Nat}{a:hO}{m:Nat}(h:fA n=fA m++(a.reverse.map (·.cps.toList)).flatten):Str.join "" ((a++[FS m]).reverse)=FS n:=by
 refine kg ?_;rw[iw,nC,h,show("":Str).cps.toList=[]from rfl,Dx];simp[nC]
theorem HX{m n:Nat}(h:m<10^n)(a:n<=500)(b:0<n):((m:Nat):Int).natAbs.log2<1920:=by
 show m.log2<1920;by_cases z:m=0
 .subst z;decide
 .refine(oB z).mpr (bc h ?_);refine aR (jF (by decide) a) ?_
  decide
def TQ(a:List Nat):List V:=a.map λn:Nat=>V.int (n:Int)
theorem Qo:2^4000<=10^(1204+1):=by decide
theorem _root_.List.ν{a b:Type}{f:a->b}{l:List a}{i:Nat}{y:b}(h:(l.map f)[i]?=some y):∃x,l[i]?=some x/\y=f x:=by
 rw[aQ]at h;cases e:l[i]? with
 | none=>rw[e]at h;cases h
 | some x=>rw[e]at h;exact⟨x,rfl,(bC h).symm⟩
theorem Lv(n:Nat)(h:n<10^60):PySem.intText? (FS n)=some (n:Int):=by
 have:=intText_digits (x:=FS n) (qV n) (CN n) (aR (kF (eL _)) (aR (oh 59 n h) (by decide)));rw[nC,wx]at this;exact this
theorem ZI{z:Str}{i:Nat}{c:Nat}{H:Hp}{Q:VK}(a:z.cps.toList.length<=60)(h:z.cps.toList[i]?=some c)(q:Q (.str ⟨#[c]⟩) H):Yd (.str z) (.int i) H Q:=⟨z,i,c,rfl,rfl,aR (kF (eL z)) (aR a (by decide)),HC h,q⟩
theorem QH:∀d:Nat,d<10->(Str.ofString "0123456789").cps.toList[d]?=some (48+d):=by decide +kernel
theorem Qf{c:Nat}(h:48<=c/\c<=57):(!(Builtin.Str.occurrences (Str.ofString "0123456789") ⟨#[c]⟩ 0 (Str.ofString "0123456789").length 1).isEmpty)=true:=by
 rw[StrLaws.found_one,b8];have:=QH (c-48) (by lia);rw[show 48+(c-48)=c by lia]at this;exact aO this
theorem DV{c:Nat}{s:List Nat}:∀{l:List (List Nat)},c∈fK s l->c∈s\/∃x∈l,c∈x
 | [],h=>by cases h
 | [x],h=>.inr ⟨x,.head _,h⟩
 | x::y::r,h=>by
   rcases aK.mp (show c∈(x++s)++fK s (y::r)from h)with h|h
   .rcases aK.mp h with h|h
    .exact .inr ⟨x,.head _,h⟩
    .exact .inl h
   .rcases DV h with h|⟨z,hz,h⟩
    .exact .inl h
    .exact .inr ⟨z,.tail _ hz,h⟩
theorem uC{s:List Nat}{m:Nat}:∀{l:List (List Nat)},(∀x∈l,x.length<=m)->(fK s l).length<=(m+s.length)*l.length
 | [],h=>by simp[fK]
 | [x],h=>by
   have:=h x (.head _);show x.length<=(m+s.length)*1
   lia
 | x::y::r,h=>by
   have d:=h x (.head _);have c:=uC (s:=s) (l:=y::r) λz b=>h z (.tail _ b);show((x++s)++fK s (y::r)).length<=_;rw[ap,ap,aJ (a:=x),Nat.mul_succ]
   lia
def Yz(a:List Nat):Str:=Str.join " " (a.map FS)
theorem GC(a:List Nat):(Yz a).cps.toList=fK [32] (a.map fA):=by
 unfold Yz;rw[iw,dN]
 rfl
theorem Oj{a:List Nat}{k:Nat}(h:∀n∈a,n<10^(k+1)):(Yz a).length<=(k+2)*a.length:=by
 rw[eL,GC];have:=uC (s:=[32]) (m:=k+1) (l:=a.map fA) λx b=>by
  obtain⟨n,c,rfl⟩:=aW.mp b;exact oh k n (h n c)
 rw[ag]at this;exact this
theorem HR{b:Type}{R:Addr->b->Prop}:∀{as:gy}{a:List b}{i:Nat}{x:V},Paired R as a->(as.map V.ref)[i]?=some x->∃q r,x=V.ref q/\as[i]?=some q/\a[i]?=some r/\R q r
 | _,_,i,x,.nil,h=>by cases h
 | q::as,r::a,0,x,.cons e _,h=>⟨q,r,(bC h).symm,rfl,rfl,e⟩
 | q::as,r::a,i+1,x,.cons _ t,h=>HR (i:=i) t h
theorem Py{ns:List Nat}(nb:∀n∈ns,n<2^4000)(c:ns.length<=100):((ns.map FS).map (·.length)).sum+(ns.map FS).length*(Str.ofString " ").length<=16777216:=by
 rw[ag,dN];have:∀l:List Nat,(∀n∈l,n<2^4000)->(l.map ((λx:Str=>x.length) ∘ FS)).sum<=1205*l.length:=by
  intro l
  induction l with
  | nil=>intro _;simp
  | cons n l ih=>
    intro h;have f:(FS n).length<=1205:=by
     rw[eL];exact oh 1204 n (bc (h n (.head _)) Qo)
    have d:=ih λx a=>h x (.tail _ a);rw[bh,dE,aJ];show(FS n).length+_<=_
    lia
 have e:=this ns nb;have b:(Str.ofString " ").length=1:=rfl;rw[b]
 lia
theorem qQ(a b:Str):(a++b).length=a.length+b.length:=by
 rw[eL,app_list,ap,<-eL,<-eL]
def ό(h:Str)(a:List Nat):Str:=Str.join " " (h::a.map FS)
structure TR(h:Str):Prop where
 len:h.length<=10
 sp:32∉h.cps.toList
 nl:10∉h.cps.toList
def Τ:Str:=Str.ofString "web"
def Ε:Str:=Str.ofString "road"
theorem yS:TR Τ:=⟨by decide,by decide,by decide⟩
theorem rj:TR Ε:=⟨by decide,by decide,by decide⟩
theorem qH(h:Str)(a:List Nat):(ό h a).cps.toList=fK [32] (h.cps.toList::a.map fA):=by
 unfold ό;rw[iw,bh,dN]
 rfl
theorem kW{h:Str}(d:TR h)(a:List Nat):Txt.split (ό h a) (Str.ofString " ")=h::a.map FS:=sB (c:=32) (ys:=h::a.map FS) (by simp) λy hy b=>by
 rcases aG.mp hy with rfl|hy
 .exact d.sp b
 .obtain⟨n,_,rfl⟩:=aW.mp hy;have:=qV n 32 b
  lia
theorem sK{h:Str}(a:TR h){ns:List Nat}(b:∀n∈ns,n<10^60):(ό h ns).length<=61*(ns.length+1):=by
 rw[eL,qH];have:=uC (s:=[32]) (m:=60) (l:=h.cps.toList::ns.map fA) λx hx=>by
  rcases aG.mp hx with rfl|hx
  .have:=a.len;rw[eL]at this
   lia
  .obtain⟨n,h1,rfl⟩:=aW.mp hx;exact oh 59 n (b n h1)
 rw[aJ (as:=ns.map fA),ag]at this;exact this
theorem Cp(m:Nat):Str.ofString "web " ++ FS m=ό Τ [m]:=kg (by
 rw[app_list,qH]
 rfl)
theorem LV{n:Nat}{a:List Nat}:Str.ofString "road " ++ Yz (n::a)=ό Ε (n::a):=kg (by
 rw[app_list,qH,GC]
 rfl)
def iJ(r:Road):List Nat:=[r.a.toNat,r.b.toNat,r.t.toNat,r.u.toNat]
theorem Cf{m:Int}{r:Road}(h:Ϡ m r)(f:m<=24):nQ r=TQ (iJ r)/\∀n∈iJ r,n<10^60:=by
 have d:=h.a0;have a:=h.b0;have b:=h.t0;have c:=h.u0;have i:=h.a1;have j:=h.b1;have e:=h.t1;have g:=h.u1
 constructor
 .unfold nQ iJ TQ;simp only[bh,cZ];rw[bJ d,bJ a,bJ (iz (by decide) b),bJ (iz (by decide) c)]
 .intro n hn;unfold iJ at hn;simp only[aG,bX,or_false]at hn;rcases hn with rfl|rfl|rfl|rfl<;>lia
def oG(r:Road):Str:=ό Ε (iJ r)
def bW(m:Int)(a:hU):List Str:=ό Τ [m.toNat]::a.map oG
theorem ut{m:Int}{a:hU}(g:Good m a):∀y∈bW m a,y.length<=305:=by
 intro y hy;have:=g.ω;rcases aG.mp hy with rfl|hy
 .have:=sK yS (ns:=[m.toNat]) λn c=>by rw[ax.mp c];lia
  have b:[m.toNat].length=1:=rfl
  lia
 .obtain⟨r,hr,rfl⟩:=aW.mp hy;have:=sK rj (ns:=iJ r) (Cf (g.ok r hr) g.ω).2;have b:(iJ r).length=4:=rfl;unfold oG
  lia
theorem iY{m:Int}{a:hU}(g:Good m a):((bW m a).length:Int)=m:=by
 have:=g.len;unfold bW;rw[aJ,ag]
 lia
end Pb
namespace Pb
open L2 PySem
section
variable{m:Int}{c:hU}{r:Int}{a:dt}{b:ew}{d:dt}
theorem HB(R:ζ m c r a b):∀(n:Nat)(v:Int),b v=n->0<=v->v<m->Cy a r n v=true
 | 0,v,e,h0,h1=>by
   refine bB (Classical.byContradiction λh=>?_);have:=R.pos h0 h1 h
   lia
 | n+1,v,e,h0,h1=>by
   show(decide (v=r)||Cy a r n (a v))=true;by_cases h:v=r
   .rw[bB h];rfl
   .have u:=R.up v h0 h1 h;rw[HB R n (a v) (by lia) u.1.1 u.1.2,jG]
theorem De(g:Good m c)(R:ζ m c r a b)(f:0<=r)(e:r<m):∃t,iL m c r a b r=r::t/\Order m r a t:=B6 g R f e (yH g R _ r f e).1 λv=>by
 rw[Os g R f e];exact⟨λh=>h.1,λh=>⟨h,HB R _ v rfl h.1 h.2⟩⟩
end
end Pb
namespace L2
open PySem PySem.Spec PyProof.Rows
section
variable{a:Program}{w:World}{A:Around}{E:fc}{R:Result->Shared->Prop}{s:Shared}
theorem yp{u b o:Expr}{z:List Expr}{i:Scope}{B:Pos}{H y:Value}{f:Env}(I:Nat->Shared->Prop)(D:∀n s,I n s->wpAny (model a w) A (pyNext H) (λr j=>match r with
 | none=>R (.ok .next) j
 | some v=>wpAny (model a w) A (letOwnedTupleGo b H v) (λ_ J=>wpAny (model a w) A (assign b f v) (λ_ q=>
  wpAny (model a w) A (forIn z true λc r=>if r=true then do let ok <-isTrue c f (eval c f);pure (ForInStep.yield ok)else pure (ForInStep.yield r)) (λok k=>
   if ok=true then wpAny (model a w) A (eval u f) (λx l=>
    wpAny (model a w) A (call (.builtin "list.append") [y,x]) (λ_ t=>∃m,m<n/\I m t) (λ_ _=>False) l) (notedBy (model a w) A f λe M=>R (.error e) M) k
   else ∃m,m<n/\I m k) (λ_ _=>False) q) (λ_ _=>False) J) (λ_ _=>False) j) (λ_ _=>False) s)(n:Nat)(h:I n s):codeAny (model a w) A (.compLoop (.ListComp u [⟨b,o,z,0⟩] i B) 0 H y f) R s:=by
 refine codeAny_loop rfl I (λn s L=>?_) n h;show wpAny _ A ((compTurn (.ListComp u [⟨b,o,z,0⟩] i B) 0 H y f).onRaise (λx=>do noteFrame x f;theTreesLotGoes x)) _ _ s;refine wpAny_noted ?_;rw[compTurn_list];refine aj (cH (aj (bu (D n s L) (λr j p=>?_) λ_ _ g=>g.elim)));cases r with
 | none=>exact aM p
 | some v=>
   refine aj (bu p (λ_ J K=>?_) λ_ _ g=>g.elim);refine aj (bu K (λ_ q C=>aj (bu C (λok k d=>?_) λ_ _ g=>g.elim)) λ_ _ g=>g.elim);cases ok with
   | true=>
     rw[ao rfl]at d;simp only[if_true];exact aj (aj (bu d (λx l F=>aj (bu F (λ_ t G=>aM (aM ⟨rfl,G⟩)) λ_ _ g=>g.elim)) λ_ _ g=>g))
   | false=>
     rw[ah bi]at d;simp only[cR,if_false]
     first
      | exact aM ⟨rfl,d⟩
      | exact aj (aM (aM ⟨rfl,d⟩))
end
section
variable{M:Model}{A:Around}{E:fc}{s:Shared}{Q:Unit->Shared->Prop}{fs:gy}{g T L:Addr}{c j k:Value}{i:Option Addr}{base:Heap}{env:Env}{a:List Env}
theorem Nb{e:Value}{env env':Env}(h:env'.frame=env.frame):noteFrame e env'=noteFrame e env:=by
 unfold noteFrame PySem.frameOf;rw[h]
theorem NX{q:Option Addr}(r:RO s.heap g T c i j)(h:∀d e,RO d g T c i e->Kept fs [T] s.heap d->Q () { s with heap:=d }):wpAny M A (setFlight (.ref g) q) Q E s:=by
 obtain⟨⟨w,u,m,v,x,o,n,y⟩,⟨B,t,l,b,z⟩,ne⟩:=r;have p:3<t.size:=(dY.mp z).1;unfold setFlight;refine aj (b9 m o n ?_);rw[ao (by simp:(Value.ref T != Value.none)=true)];refine fM l b p (h _ (q.elim .none λf=>rawInt f) ⟨sx ⟨w,u,m,v,x,o,n,y⟩ ne,⟨_,_,dC _ l (eP (dA b _)),dA b _,by simp[p]⟩,ne⟩ (tG l b (by simp)))
theorem LB(G:A.frames=some (env::a))(w:s.heap.FunFrames base (env::a))(v:env.frame=some L)(r:RO s.heap g T c i j)(h:∀f d p,RO f g d c i p->Kept (ϝ (env::a)) [g,T] s.heap f->(d=T\/s.heap.get? d=none)->Q () { s with heap:=f }):wpAny M A (noteFrame (.ref g) env) Q E s:=by
 have O:=FQ r.t w;obtain⟨⟨P,N,I,U,S,D,J,R⟩,⟨V,C,m,l,y⟩,ne⟩:=id r;unfold noteFrame;simp only[v];refine aj (b9 I D J ?_);rw[ao (by simp:(Value.ref T != Value.none)=true)];refine aj (b9 m l y ?_);by_cases x:(j==rawInt L)=true
 .rw[ao x];exact aM (h s.heap T j r (Kept.Uw λb o e=>e) (.inl rfl))
 rw[ah x];have u:Kept (ϝ (env::a)) [g,T] s.heap (s.heap.update T (Obj.mapFields (·.setIfInBounds 3 Value.none))):=tG m l (by simp);refine aj (fM m l (dY.mp y).1 ?_);refine Ad G (w.of_keeps λb o e B=>⟨o,?_,rfl⟩) v (sx r.e ne) λf d F H n=>h f d _ F (u.trans (H.mono (by simp))) (.inr ?_)
 .by_cases z:b=T
  .subst z;rw[m]at e;cases e;exact absurd l (B C)
  .rw[cu _ _ (Ne.symm z)];exact e
 .cases q:s.heap.get? d with
  | none=>rfl
  | some o=>
    obtain⟨K,z⟩:=u.there d o q;rw[z]at n;cases n
theorem J8(G:A.frames=some (env::a))(F:s.heap.FunFrames base (env::a))(B:env.frame=some L)(r:RO s.heap g T c i j)(h:∀p n,RO p g n c i .none->Kept (ϝ (env::a)) [g,T] s.heap p->(n=T\/s.heap.get? n=none)->Q () { s with heap:=p }):wpAny M A (leaving env (.ref g)) Q E s:=by
 unfold leaving;have nl:∀{l b:Addr}{o:Obj},(l=T\/s.heap.get? l=none)->s.heap.get? b=some o->b∉[g,T]->b∉[l]:=λ{l b o} d e x z=>by
  rw[ax.mp z]at e x;rcases d with rfl|d
  .exact x (by simp)
  .rw[d]at e;cases e
 refine aj (LB G F B r λv l w H m t=>sQ (fs:=ϝ (env::a)) (s:={ s with heap:=v }) H λu D q=>h u l D ⟨λb o e f x=>q.keep b o (m.keep b o e f x) f (nl t e x),λb o e f x=>?_,λb o e=>?_⟩ t)
 .obtain⟨s1,e1⟩:=m.slot b o e f x;obtain⟨y,C⟩:=q.slot b _ e1 f (nl t e x);exact⟨y,C⟩
 .obtain⟨o1,e1⟩:=m.there b o e;exact q.there b o1 e1
end
def yY(X:Cx)(E:XK):Prop:=∀(a:fz)(f:St)(H:Hp)(s:Shared)(c T:Addr)(b:Value)(d:Option Addr)(e:Value),Inv X a f H s->RO s.heap c T b d e->Loose X a H c->Loose X a H T->E b d H->X.xe (.ref c) s
section
variable{P:Program}{w:World}{K:fv}{h:hL}{d:Heap}{N:hO}{e:Str}{c:Scope}{f:Addr}{g:Value}{A:Around}{a:List Env}{s:Shared}{H:Hp}{E:XK}
theorem NG:yY (qj (ψ P w) P w K h d N e c f g A a s H E) E:=by
 intro n x j v u T i t z J o le lt q;refine J8 (base:=d) J.ok.frames J.stack rfl o λy l p k nT=>?_;have r:∀b∈ϝ (envOfC e c s.heap.objs.size f g::a),j b=none:=J.Ϯ;have m:j l=none/\s.heap.get? l=none:=by
  rcases nT with rfl|nT
  .exact⟨lt.un,lt.new⟩
  .exact⟨uI J.χ nT,oH J nT⟩
 refine⟨u,l,i,t,j,rfl,J.os,J.bare,wM J k ?_,tW J.χ k r ?_,le.un,m.1,le.new,m.2,p,q⟩
 .intro b hb;simp only[aG,bX,or_false]at hb;rcases hb with rfl|rfl
  .exact le.new
  .exact lt.new
 .intro b hb;simp only[aG,bX,or_false]at hb;rcases hb with rfl|rfl
  .exact le.un
  .exact lt.un
end
section
variable{X:Cx}{d:hO}{f:Nat}{g:List Nat}{a:Scope}{c:List (Str×Addr)}
theorem DL{j:fz}{U F:St}{i:Hp}{h s':Shared}{C:Addr}{p:gy}{G:Heap}{E:XK}{e Z:Value}{S:Option (Value->Sem Unit)}{Q:fc}{D:Addr->Obj->Prop}(hx:X.ex=[])(SX:X.stack=X.env::X.outer)(hf:X.env.frame=some X.env.locals)(hp:yY X E)(I:Inv X j U i h)(hC:h.heap.objs.size<=C)(f1:∀b∈p,nN X j i b)(ob:∀b∈p,∃o,G.get? b=some o/\D b o)(z:XP (ψ X.prog X.w) (X.comp d a c C h i p) ([]++mh p G) F E e s'):notedBy (model X.prog X.w) X.A (compEnvC a c C X.env) (λx Vk=>compPost (model X.prog X.w) X.A X.xe S Q Z C (.error x) Vk) e s':=by
 obtain⟨H7,s7,I7,N,T,P,od,t,rfl,os,M,un,χ,n1,n2,g1,g2,er,q⟩:=z;have J:=I7.Th (ch:=[]) os un χ M (by simp);have k:∀{Y:Shared}{H8:Hp},Inv (X.comp d a c C h i p) ([]++mh p G) F H8 Y->∀b,Y.heap.get? b=none->t b=none->Loose (X.comp d a c C h i p) ([]++mh p G) t b:=λ{Y H8} I8 b z u=>by
  obtain⟨B,H,O⟩:=I8.apart z;refine⟨u,?_,B,H,O⟩;rcases I8.young z with y|y
  .exact y
  .obtain⟨o,eo,_⟩:=ob b y;exact absurd rfl (O (b,o) (aX _ (aX _ (iM y eo))))
 have le:=k I7 N g1 n1;have lt:=k I7 T g2 n2;have W:=J.ok.frames;have st:=J.stack;replace W:X.A.frames=some X.stack:=W;replace st:s'.heap.FunFrames X.base X.stack:=st;rw[SX]at W st;show wpAny _ _ (noteFrame (.ref N) (compEnvC a c C X.env)) _ _ s';rw[Nb (env:=X.env) (env':=compEnvC a c C X.env) rfl];refine CO W st hf er λL T2 ak k2 XC=>?_;rw[<-SX]at k2;have J2:Inv (X.comp d a c C h i p) ([]++mh p G) F t { s' with heap:=L }:=J.moved (tk:=s'.toks) k2 λb V=>by
  simp only[aG,bX,or_false]at V;rcases V with rfl|rfl
  .exact le.all
  .exact lt.all
 have XD:=k J T2 XC (uI χ XC);obtain⟨m,hn,_⟩:=id J2.loc;have v:∃m,L.Ns C m/\∀h',Heap.SameBut C L h'->∀WX:Env,WX.locals=C->wpAny (model X.prog X.w) X.A (passOn "comprehension.variables-let-go" (.ref N) WX:Sem Value) (λ_ _=>False) X.xe { s' with heap:=h' }:=by
  refine⟨m,hn,λK R WX _=>?_⟩;have J3:Inv X j U t { s' with heap:=K }:=rT (s':={ s' with heap:=L }) I hC f1 J2.ϔ R;have r:∀b,Loose (X.comp d a c C h i p) ([]++mh p G) t b->Loose X j t b:=λb l=>by
   obtain⟨B,H,O⟩:=I.apart l.new;refine⟨l.un,?_,B,H,O⟩;rcases I.young l.new with y|y
   .exact y
   .rw[hx]at y;cases y
  have k3:∀b o,b≠C->L.get? b=some o->K.get? b=some o:=λb o n e=>R.extBut b o n e;have ZL:RO K N T2 P od (rawInt X.env.locals):=by
   obtain⟨⟨oe,vs,B,H⟩,⟨oT,ts,b1,b2⟩,ne⟩:=ak;exact⟨⟨oe,vs,k3 _ _ le.loc B,H⟩,⟨oT,ts,k3 _ _ XD.loc b1,b2⟩,ne⟩
  obtain⟨⟨oe,vs,B,H,O,a4,a5,a6⟩,_,_⟩:=id ZL;unfold PySem.passOn;refine aj (b9 (s:={ s' with heap:=K }) B a4 a5 ?_);rw[ah (by simp)];refine aj (NX (fs:=ϝ X.stack) (s:={ s' with heap:=K }) ZL λh4 ab ae k4=>?_);have J4:Inv X j U t { s' with heap:=h4 }:=J3.moved (tk:=s'.toks) k4 λb V=>by rw[ax.mp V];exact(r _ XD).all
  exact wpAny_throw (hp j U t { s' with heap:=h4 } N T2 P od ab J4 ae (r _ le) (r _ XD) q)
 cases S with
 | none=>exact v
 | some u=>exact v
end
section
variable{X:Cx}{f:hO}{j:Nat}{k:List Nat}{scope:Scope}{a:List (Str×Addr)}
theorem MN{af l L:Expr}{ac:List Expr}{az:Pos}{wi:TI}{g:TG}{tc:TT}{ex:XK->TE}{E:XK}(hx:X.ex=[])(SX:X.stack=X.env::X.outer)(hf:X.env.frame=some X.env.locals)(hp:yY X E)(hc:X.calm=true)(T:Ϛ X f j k scope a)(hi:PI X l L wi)(hg:∀C D F B,PG (X.comp f scope a C D F B) l g)(ht:∀C D F B,WH (X.comp f scope a C D F B) ac tc)(he:∀C D F B,U2 (ψ X.prog X.w) (X.comp f scope a C D F B) af ex)(hs:∀x,foldedSetIterable L X.env x=pure x:=by intro _;rfl):PE X (.ListComp af [⟨l,L,ac,0⟩] scope az) (AW j k wi g tc (ex E)):=by
 intro ab s σ H Q I h;rw[eval_ListComp];refine gi (use:=none) rfl hs T.Up T.kind T.names (Χ (hi ab s σ H _ I h) λv s1 h1=>Χ h1 λXw m h2=>?_);obtain⟨it,B,tn,J,H1,rfl,I1,U,st,f1,R⟩:=h2;have RZ:∀b∈B,b<m.heap.objs.size:=λb G=>let ⟨o,e,_⟩:=U.obj _ _ st b G;aI e;refine db (gZ T.Rr (by intro y hy;simp at hy) (λK Ψ Κ=>?_) T.kind);dsimp only at Ψ Κ ⊢;generalize S9:m.heap.push { cls:=.type "list",dict:=none,data:=.seq ([]:g8).toArray }=P at Ψ Κ ⊢;have hC:P.objs.size=m.heap.objs.size+1:=by rw[<-S9,de]
 have TJ:m.heap.objs.size≠P.objs.size:=by rw[hC];exact aU (eF _)
 have ϖ:m.heap.objs.size<=P.objs.size:=by rw[hC];exact ft _
 have cM:∀b,b<m.heap.objs.size->b≠P.objs.size:=λb G=>by rw[hC];exact aU (eV G)
 have av:∀b o,m.heap.get? b=some o->K.get? b=some o:=λb o e=>Κ.extBut b o (cM b (aI e)) (au _ (S9▸au _ e));have ϻ:∃n,K.get? m.heap.objs.size=some { cls:=.type "list",data:=.seq ([]:g8).toArray n }:=⟨_,Κ.extBut _ _ TJ (au _ (S9▸bg _ rfl))⟩;have aC:tn 0 K:=U.keep _ _ _ st λb _ o e=>av b o e;obtain⟨W,⟨m0,w0⟩,a0⟩:=R m.heap.objs.size I1.fresh;have Ic:=wu (t:=m.toks+([]:List (Str×Value)).length) T I1 ϖ (aN _) TJ f1 RZ av Ψ ϻ;generalize R3:X.comp f scope a P.objs.size m H1 B=Xc at Ic;have N:∀{V:Hp},(∀b∈B,V b=none)->∀b∈B,nN Xc [] V b:=λ{V} hn b G=>by
  subst R3;exact⟨hn b G,cM b (RZ b G),(vy T I1 ϖ f1 RZ).Rq b G,.inl G,λx c e=>(f1 b G).2.2.2.2.1 x c (T.cells x c e),λp hp=>by cases hp⟩
 have WL:∀b∈B,upd H1 m.heap.objs.size (.lst []) b=none:=λb G=>by
  rw[aY (aU (RZ b G))];exact(f1 b G).1
 have Ur:Xc.calm=true:=by subst R3;exact hc
 have Y:∀O:Shared,O={ m with heap:=K,toks:=m.toks+([]:List (Str×Value)).length }->codeAny (model X.prog X.w) X.A (.compLoop (.ListComp af [⟨l,L,ac,0⟩] scope az) 0 (.ref it) (.ref m.heap.objs.size) (compEnvC scope a P.objs.size X.env))
  (compPost (model X.prog X.w) X.A X.xe none (EP X ab σ Q) (.ref m.heap.objs.size) P.objs.size) O:=by
  rintro O rfl;refine yp (λn s'=>∃i ys a1 V,Inv Xc [] a1 V s'/\tn i s'.heap/\(∀b∈B,V b=none)/\W i n ys a1 V) ?_ m0 ⟨0,[],_,_,Ic,aC,WL,w0⟩;rintro n s3 ⟨i,ys,S,H3,I3,Rh,Tj,w3⟩;rcases a0 i n ys S H3 w3 with⟨stop,q⟩|⟨go,step⟩
  .subst R3;refine Χ (U.done (X.comp f scope a P.objs.size m H1 B) rfl rfl rfl hc i [] s3 S H3 _ I3 (N Tj) Rh stop) λr s4 ⟨hr,I4⟩=>?_;subst hr;obtain⟨m4,WM,_⟩:=id I4.loc;exact⟨m4,WM,λh' Us=>⟨.ref m.heap.objs.size,H3,rT I1 ϖ f1 I4 Us,rfl,q⟩⟩
  .subst R3;refine Χ (U.item (X.comp f scope a P.objs.size m H1 B) rfl rfl rfl hc i [] s3 S H3 _ I3 (N Tj) Rh go) λr s4 ⟨u,hr,h4⟩=>?_;subst hr;refine Χ h4 λ_ s5 ⟨x,H5,I5,r5,y5,Rn,Vf⟩=>?_;have Vg:=I5.pinned (N Vf) (U.obj _ _ Rn);have Z:∀{ad:St}{H7:Hp}{s7:Shared},Inv (X.comp f scope a P.objs.size m H1 B) ([]++mh B s5.heap) ad H7 s7->Inv (X.comp f scope a P.objs.size m H1 B) [] ad H7 s7/\tn (i+1) s7.heap/\∀b∈B,H7 b=none:=λ{ad H7 s7} I7=>by
    refine⟨I7.ϔ,U.keep _ _ _ Rn λb G o e=>(I7.pin (b,o) (aX _ (aX _ (iM G e)))).1,λb G=>?_⟩;obtain⟨o,e,d⟩:=U.obj _ _ Rn b G;exact(I7.pin (b,o) (aX _ (aX _ (iM G e)))).2.1
   refine Χ (hg _ _ _ _ _ s5 S H5 x u _ Vg r5 (step x H5 y5)) λ_ s6 ⟨M,H6,I6,q6⟩=>?_;refine we (ht _ _ _ _ _ s6 M H6 _ I6 q6) λok s7 H7 I7 q7=>?_;cases ok with
   | false=>
     rw[ah bi]at q7 ⊢;obtain⟨m',hm,w7⟩:=q7;obtain⟨J1,J2,J3⟩:=Z I7;exact⟨m',hm,i+1,ys,M,H7,J1,J2,J3,w7⟩
   | true=>
     rw[ao rfl]at q7 ⊢;refine bu (he _ _ _ _ E _ s7 M H7 _ I7 q7) (λy s8 ⟨yv,H8,I8,r8,WN,WO,m',hm,w8⟩=>?_) λe s8 z=>DL hx SX hf hp I1 ϖ f1 (U.obj _ _ Rn) z;refine Χ (eG _ s8 M H8 (.ref m.heap.objs.size) [yv] _ [y] (λv' V=>W (i+1) m' (ys++[yv]) M V) I8 rfl (.cons r8 .nil) ⟨_,ys,yv,rfl,rfl,WN,WO,w8⟩) λv9 s9 ⟨_,H9,I9,_,w9⟩=>?_;obtain⟨J1,J2,J3⟩:=Z I9;exact⟨m',hm,i+1,ys++[yv],M,H9,J1,J2,J3,w9⟩
 exact gC (Y _ rfl) (U.self _ 0 _ _ _ aC (Y _ rfl))
theorem He{i:Nat}{x:Str}{px a3:Pos}{ae l M:Expr}{Z:List Expr}{Θ:Pos}{wi:TI}{g:TG}{tc:TT}{ex:XK->TE}{E:XK}(hx:X.ex=[])(SX:X.stack=X.env::X.outer)(hf:X.env.frame=some X.env.locals)(hp:yY X E)(hN:X.N.Nodup)(b2:X.N[i]?=some x)(Yu:X.env.scope.names.lookup x=some .local)(hc:X.calm=true)(T:Ϛ X f j k scope a)(hi:PI X l M wi)(hg:∀C F G B,PG (X.comp f scope a C F G B) l g)(ht:∀C F G B,WH (X.comp f scope a C F G B) Z tc)(he:∀C F G B,U2 (ψ X.prog X.w) (X.comp f scope a C F G B) ae ex)(hs:∀x,foldedSetIterable M X.env x=pure x:=by intro _;rfl)(br:swapsWith (.ListComp ae [⟨l,M,Z,0⟩] scope Θ) (some (.Name x px)) a3.line X.env=pure true:=by rfl):PS X (.Assign [.Name x px] (.ListComp ae [⟨l,M,Z,0⟩] scope Θ) a3) (Ar (AW j k wi g tc (ex E)) (uc i)):=by
 intro U s σ H D I h;rw[exec_Assign_Name_used _ _ _ _ br];refine aj (cH (aj ?_));rw[arm_evalThenUse_ListComp];refine aj ?_;refine gi (use:=some (assign (.Name x px) X.env)) rfl hs T.Up T.kind T.names (Χ (hi U s σ H _ I h) λv s1 h1=>Χ h1 λXw m h2=>?_);obtain⟨it,B,tn,J,H1,rfl,Y,Tn,st,f1,R⟩:=h2;have RZ:∀b∈B,b<m.heap.objs.size:=λb L=>let ⟨o,e,_⟩:=Tn.obj _ _ st b L;aI e;refine db (gZ T.Rr (by intro y hy;simp at hy) (λO Ψ Κ=>?_) T.kind);dsimp only at Ψ Κ ⊢;generalize S9:m.heap.push { cls:=.type "list",dict:=none,data:=.seq ([]:g8).toArray }=K at Ψ Κ ⊢;have hC:K.objs.size=m.heap.objs.size+1:=by rw[<-S9,de]
 have TJ:m.heap.objs.size≠K.objs.size:=by rw[hC];exact aU (eF _)
 have ϖ:m.heap.objs.size<=K.objs.size:=by rw[hC];exact ft _
 have cM:∀b,b<m.heap.objs.size->b≠K.objs.size:=λb L=>by rw[hC];exact aU (eV L)
 have a1:∀b o,m.heap.get? b=some o->O.get? b=some o:=λb o e=>Κ.extBut b o (cM b (aI e)) (au _ (S9▸au _ e));have ϻ:∃n,O.get? m.heap.objs.size=some { cls:=.type "list",data:=.seq ([]:g8).toArray n }:=⟨_,Κ.extBut _ _ TJ (au _ (S9▸bg _ rfl))⟩;have aC:tn 0 O:=Tn.keep _ _ _ st λb _ o e=>a1 b o e;obtain⟨W,⟨m0,w0⟩,a4⟩:=R m.heap.objs.size Y.fresh;have Ic:=wu (t:=m.toks+([]:List (Str×Value)).length) T Y ϖ (aN _) TJ f1 RZ a1 Ψ ϻ;generalize R3:X.comp f scope a K.objs.size m H1 B=Xc at Ic;have Q:∀{H':Hp},(∀b∈B,H' b=none)->∀b∈B,nN Xc [] H' b:=λ{H'} hn b L=>by
  subst R3;exact⟨hn b L,cM b (RZ b L),(vy T Y ϖ f1 RZ).Rq b L,.inl L,λx c e=>(f1 b L).2.2.2.2.1 x c (T.cells x c e),λp hp=>by cases hp⟩
 have WL:∀b∈B,upd H1 m.heap.objs.size (.lst []) b=none:=λb L=>by
  rw[aY (aU (RZ b L))];exact(f1 b L).1
 have Ur:Xc.calm=true:=by subst R3;exact hc
 have ai:∀S:Shared,S={ m with heap:=O,toks:=m.toks+([]:List (Str×Value)).length }->codeAny (model X.prog X.w) X.A (.compLoop (.ListComp ae [⟨l,M,Z,0⟩] scope Θ) 0 (.ref it) (.ref m.heap.objs.size) (compEnvC scope a K.objs.size X.env))
  (compPost (model X.prog X.w) X.A X.xe (some (assign (.Name x px) X.env)) (λ_ s'=>wpAny (model X.prog X.w) X.A (pure ()) (λ_ Vk=>wpAny (model X.prog X.w) X.A (pure Flow.next) (SP X U D) X.xe Vk) X.xe s') (.ref m.heap.objs.size) K.objs.size) S:=by
  rintro S rfl;refine yp (λn s'=>∃i ys a5 H',Inv Xc [] a5 H' s'/\tn i s'.heap/\(∀b∈B,H' b=none)/\W i n ys a5 H') ?_ m0 ⟨0,[],_,_,Ic,aC,WL,w0⟩;rintro n s3 ⟨i,ys,V,H3,I3,Rh,Tj,w3⟩;rcases a4 i n ys V H3 w3 with⟨stop,q⟩|⟨go,step⟩
  .subst R3;refine Χ (Tn.done (X.comp f scope a K.objs.size m H1 B) rfl rfl rfl hc i [] s3 V H3 _ I3 (Q Tj) Rh stop) λr s4 ⟨hr,I4⟩=>?_;subst hr;obtain⟨m4,WM,_⟩:=id I4.loc;have J:=rT Y ϖ f1 I4 (h':=s4.heap) (Heap.SameBut.refl _ _);have Yv:K.objs.size≠X.env.locals:=eX (bc Y.lt ϖ);have cy:X.s₀.heap.objs.size<=K.objs.size:=aR Y.sz ϖ;have cc:∀y c,X.env.cells.lookup y=some c->c≠K.objs.size:=λy c e=>by
    obtain⟨v',o',RG,_⟩:=Y.cell y c e;exact aU (bc (aI RG) ϖ)
   have cp:∀p∈X.pn++U,p.1≠K.objs.size:=λp hp=>by
    obtain⟨RG,_⟩:=Y.pin p hp;exact aU (bc (aI RG) ϖ)
   refine EY (yA (v:=.ref m.heap.objs.size) J hN b2 (.inl Yu) rfl (λs5 I5 ⟨ad,sb,WV⟩=>?_) (.inr Yu));have bY:K.objs.size≠ad:=by
    rcases WV with rfl|WV
    .exact Yv
    .exact(cc _ _ WV).symm
   obtain⟨oo,es,ep,e1,e2⟩:=WM;refine⟨m4,⟨oo,es,ep,(sb.2 _ bY).trans e1,e2⟩,λh' Us=>aM (aM ⟨_,H3,?_,q⟩)⟩;exact I5.turned (it:=K.objs.size) (t':=s5.toks) (λb o n e=>Us.extBut b o n e) I4.free Yv (.inr cy) cc cp
  .subst R3;refine Χ (Tn.item (X.comp f scope a K.objs.size m H1 B) rfl rfl rfl hc i [] s3 V H3 _ I3 (Q Tj) Rh go) λr s4 ⟨u,hr,h4⟩=>?_;subst hr;refine Χ h4 λ_ s5 ⟨x,H5,I5,r5,y5,Rn,Vf⟩=>?_;have Vg:=I5.pinned (Q Vf) (Tn.obj _ _ Rn);have ak:∀{al:St}{H7:Hp}{s7:Shared},Inv (X.comp f scope a K.objs.size m H1 B) ([]++mh B s5.heap) al H7 s7->Inv (X.comp f scope a K.objs.size m H1 B) [] al H7 s7/\tn (i+1) s7.heap/\∀b∈B,H7 b=none:=λ{al H7 s7} I7=>by
    refine⟨I7.ϔ,Tn.keep _ _ _ Rn λb L o e=>(I7.pin (b,o) (aX _ (aX _ (iM L e)))).1,λb L=>?_⟩;obtain⟨o,e,d⟩:=Tn.obj _ _ Rn b L;exact(I7.pin (b,o) (aX _ (aX _ (iM L e)))).2.1
   refine Χ (hg _ _ _ _ _ s5 V H5 x u _ Vg r5 (step x H5 y5)) λ_ s6 ⟨P,H6,I6,q6⟩=>?_;refine we (ht _ _ _ _ _ s6 P H6 _ I6 q6) λok s7 H7 I7 q7=>?_;cases ok with
   | false=>
     rw[ah bi]at q7 ⊢;obtain⟨m',hm,w7⟩:=q7;obtain⟨J1,J2,J3⟩:=ak I7;exact⟨m',hm,i+1,ys,P,H7,J1,J2,J3,w7⟩
   | true=>
     rw[ao rfl]at q7 ⊢;refine bu (he _ _ _ _ E _ s7 P H7 _ I7 q7) (λy s8 ⟨yv,H8,I8,r8,WN,WO,m',hm,w8⟩=>?_) λe s8 z=>DL hx SX hf hp Y ϖ f1 (Tn.obj _ _ Rn) z;refine Χ (eG _ s8 P H8 (.ref m.heap.objs.size) [yv] _ [y] (λv' H'=>W (i+1) m' (ys++[yv]) P H') I8 rfl (.cons r8 .nil) ⟨_,ys,yv,rfl,rfl,WN,WO,w8⟩) λv9 s9 ⟨_,H9,I9,_,w9⟩=>?_;obtain⟨J1,J2,J3⟩:=ak I9;exact⟨m',hm,i+1,ys++[yv],P,H9,J1,J2,J3,w9⟩
 exact gC (ai _ rfl) (Tn.self _ 0 _ _ _ aC (ai _ rfl))
end
section
variable{c:Program}{w:World}{A:Around}{E:fc}{h:Heap}{g:Array GenState}{d:Drawn}{t:Nat}{l:OsState}
variable{z q:Str}{C N:Addr}{I k m:g8}{f:Bool}{D:hO}{j:g8}{s:Bool}{i:Option Bool}{p:Option Addr}{y u H v G:Option Value}{B a n:String}
theorem Bm(F:ExcBaseFacts B a n m)(T:OwnTail h m k){V:hL}{rest:g8}{L:Addr}{U:Obj}{Q:Fin->Shared->Prop}(K:h.get? C=some (excClassObj z q C N I k f D j s i p y u H v G a))(hn:h.Ns N V)(hi:V "__init__"=some (.ref L))(M:h.get? L=some U)(YB:U.cls=.type "function")(Z:∀S e,Heap.MadeExcOf h S e (.ref C) rest->wpAny (model c w) A (call (.ref L) (.ref e::rest)) (λr X=>r=.none/\Q (.done (.ret (.ref e))) X) E ⟨S,g,d,t,l⟩)(Y:rest.length<=sizeLine):wpAny (model c w) A (Builtin.«type.__call__» ⟨.ref C::rest,[]⟩) Q E ⟨h,g,d,t,l⟩:=by
 repeat (first|with_reducible refine fN K ?_|with_reducible refine wpAny_madeBy_exc K ?_|wp_step)
 refine codeAny_call_builtin_code (Code.quiet_builtin _ F.quiet) (wpAny_check_new_subT F T K ?_);refine codeAny_exc_new_subT F T K ?_ Y;show wpAny _ _ _ _ _ _;have up:∀b o,h.get? b=some o->((h.push { cls:=.type "tuple",data:=.seq rest.toArray }).push { cls:=.ref C,data:=.fields #[.ref h.objs.size,.none,.none,.none,.bool false,.none] }).get? b=some o:=λb o e=>au _ (au _ e);have J:=up _ _ K;have R:=up _ _ M;have O:=hn.keeps up;have T1:=T.keeps up;have W:((h.push { cls:=.type "tuple",data:=.seq rest.toArray }).push { cls:=.ref C,data:=.fields #[.ref h.objs.size,.none,.none,.none,.bool false,.none] }).get? (h.objs.size+1)=some { cls:=.ref C,data:=.fields #[.ref h.objs.size,.none,.none,.none,.bool false,.none] }:=by heap_get
 have P:(Value.ref C::k).contains (.ref C)=true:=by simp
 unfold isInstance
 repeat (first|with_reducible refine fN W ?_|(with_reducible refine wpAny_isSubtype_exc J ?_;rw[P])|wp_step)
 show wpAny _ _ (typeLookup (.ref C) _) _ _ _;refine wpAny_typeLookup_tail J O T1 F.mroIs F.init.lookup ?_;rw[hi];refine fY (aj ?_);unfold bindSpecial;refine aj (wpAny_typeOf (T:="function") ⟨_,R,YB⟩ ?_);rw[ao (by decide)];refine aM (aj (bu (Z _ (h.objs.size+1) ⟨up,gf (ft _),h.objs.size,W,gf (aN _),?_⟩) (λr X hr=>?_) λ_ _ x=>x))
 .exact au _ (Heap.get?_push_at rfl rfl)
 .obtain⟨rfl,hQ⟩:=hr
  wp_walk
  exact hQ
theorem Iy(F:ExcBaseFacts B a n m)(T:OwnTail h m k){L:hL}{rest:g8}{x:Addr}{K:Obj}{Q:fc}(o:h.get? C=some (excClassObj z q C N I k f D j s i p y u H v G a))(P:h.Ns N L)(R:L "__init__"=some (.ref x))(J:h.get? x=some K)(U:K.cls=.type "function")(O:∀b e,Heap.MadeExcOf h b e (.ref C) rest->wpAny (model c w) (A.under (.builtin "type.__call__" ⟨.ref C::rest,[]⟩)) (call (.ref x) (.ref e::rest)) (λr V=>r=.none/\Q (.ref e) V) E ⟨b,g,d,t,l⟩)(M:rest.length<=sizeLine):wpAny (model c w) A (call (.ref C) rest) Q E ⟨h,g,d,t,l⟩:=by
 have Y:=tc_lookup;have X:=tc_bind (.ref C);have W:(⟨h,g,d,t,l⟩:Shared).TypeIs (.ref C) "type":=⟨_,o,rfl⟩;refine gX (codeAny_of_tree ?_);show wpAny _ _ (callAny (.ref C) _) _ _ _
 repeat (any_goals (first|assumption|with_reducible refine fN o ?_|wp_step))
 refine⟨rfl,?_⟩;refine codeAny_call_builtin_at (Code.quiet_builtin _ (by decide +kernel)) entry_typeCall (wpAny_check_type_call_sub o (Bm F T o P R J U (λb e S=>?_) M));exact O b e S
end
section
variable{M:Model}{A:Around}{E:fc}{a:Env}
variable{nm q:Str}{C N:Addr}{bs bm:g8}{hdct:Bool}{sn:hO}{sub:g8}{ab:Bool}{col:Option Bool}{dd:Option Addr}{k0 k1 k2 k3 k5:Option Value}{newId:String}
theorem wg{s:Shared}{x:Sem Value}{Q:Flow->Shared->Prop}(m:bm.contains (.type "BaseException")=true)(o:A.handled=none)(h:wpAny M A x (λv b=>∃e k l i,v=.ref e/\b.heap.get? C=some (excClassObj nm q C N bs bm hdct sn sub ab col dd k0 k1 k2 k3 k5 newId)/\b.heap.get? e=some { cls:=.ref C,dict:=l,data:=.fields #[k,.none,.none,.none,.bool false,.none],slots:=i }/\E (.ref e) b) E s):wpAny M A (raiseStmt a (some x) none) Q E s:=by
 have f:(Value.ref C::bm).contains (.type "BaseException")=true:=by rw[d9,m,jG]
 unfold raiseStmt;refine aj (bu h (λv b c=>?_) λ_ _ x=>x);obtain⟨e,k,l,i,rfl,j,n,p⟩:=c;obtain⟨t,g,d,r,os⟩:=b
 repeat (first|with_reducible refine fN n ?_|with_reducible refine fN j ?_|(with_reducible refine wpAny_isSubtype_exc j ?_;rw[f])|wp_step)
 exact wpAny_raiseNew_none o p
end
section
variable{c:Program}{w:World}{A:Around}{E:fc}{s:Shared}{i:Env}
variable{nm q:Str}{C N:Addr}{bs bm j:g8}{hdct:Bool}{sn:hO}{sub:g8}{ab:Bool}{col:Option Bool}{dd:Option Addr}{k0 k1 k2 k3 k5:Option Value}{B b k:String}
theorem AD(F:ExcBaseFacts B b k j){x:Str}{W J pos:Pos}{p:List Expr}{Q:Flow->Shared->Prop}(I:bm.contains (.type "BaseException")=true)(K:A.handled=none)(S7:(backTo J (starEach p i)).any (·.1)=false)(h:wpAny (model c w) A (eval (.Name x W) i) (λf o=>f=.ref C/\wpAny (model c w) A (evalArgs (.ref C) true (backTo J (starEach p i)) [])
 (λa l=>a.kw=[]/\a.pos.length<=sizeLine/\∃S D R,l.heap.get? C=some (excClassObj nm q C N bs bm hdct sn sub ab col dd k0 k1 k2 k3 k5 b)/\l.heap.Ns N S/\OwnTail l.heap j bm/\S "__init__"=some (.ref D)/\l.heap.get? D=some R/\R.cls=.type "function"/\∀G e,Heap.MadeExcOf l.heap G e (.ref C) a.pos->wpAny (model c w) (A.under (.builtin "type.__call__" ⟨.ref C::a.pos,[]⟩)) (call (.ref D) (.ref e::a.pos)) (λr H=>r=.none/\H.heap.get? C=some (excClassObj nm q C N bs bm hdct sn sub ab col dd k0 k1 k2 k3 k5 b)/\(∃P U L,H.heap.get? e=some { cls:=.ref C,dict:=U,data:=.fields #[P,.none,.none,.none,.bool false,.none],slots:=L })/\E (.ref e) H) E { l with heap:=G }) E o) E s):wpAny (model c w) A (exec (.Raise (some (.Call (.Name x W) p [] J)) none pos) i) Q E s:=by
 rw[arm_exec_Raise]
 first
  | refine aj (cH (wg (C:=C) (nm:=nm) (q:=q) (N:=N) (bs:=bs) (bm:=bm) (hdct:=hdct) (sn:=sn) (sub:=sub) (ab:=ab) (col:=col) (dd:=dd) (k0:=k0) (k1:=k1) (k2:=k2) (k3:=k3) (k5:=k5) (newId:=b) I K (aj (bu (kq (bu h (λf o n=>?_) λ_ _ x=>x)) (λv u m=>aj (cH (aM m))) λ_ _ x=>x))))
  | (simp only[evalOpt,Option.map];refine aj (cH (wg (C:=C) (nm:=nm) (q:=q) (N:=N) (bs:=bs) (bm:=bm) (hdct:=hdct) (sn:=sn) (sub:=sub) (ab:=ab) (col:=col) (dd:=dd) (k0:=k0) (k1:=k1) (k2:=k2) (k3:=k3) (k5:=k5) (newId:=b) I K (aj (bu (kq (bu h (λf o n=>?_) λ_ _ x=>x)) (λv u m=>aj (cH (aM m))) λ_ _ x=>x)))))
  | (refine aj (cH (wg (C:=C) (nm:=nm) (q:=q) (N:=N) (bs:=bs) (bm:=bm) (hdct:=hdct) (sn:=sn) (sub:=sub) (ab:=ab) (col:=col) (dd:=dd) (k0:=k0) (k1:=k1) (k2:=k2) (k3:=k3) (k5:=k5) (newId:=b) I K ?_));refine aj (bu (kq (bu h (λf o n=>?_) λ_ _ x=>x)) (λv u m=>aj (cH (aM m))) λ_ _ x=>x))
 obtain⟨rfl,n⟩:=n;unfold callWith;refine aj (fY (bu n (λa l t=>aj (cH ?_)) λ_ _ x=>x));obtain⟨V,O⟩:=a;obtain⟨M,z,S,D,R,X,hn,T,hi,hf,YB,t⟩:=t;obtain rfl:O=[]:=M;obtain⟨hp,g,d,tk,os⟩:=l;simp only[S7];refine aj (wpAny_keeperOf_exc X ?_);refine aj (Iy F T X hn hi hf YB (λG e hm=>bu (t G e hm) (λr H Y=>⟨Y.1,aj (fY (wpAny_point (aM ?_)))⟩) λ_ _ y=>y) z);obtain⟨_,Z,⟨P,U,L,c2⟩,c3⟩:=Y;exact⟨e,P,U,L,rfl,Z,c2,c3⟩
end
def RE(d:Addr)(a:Value)(b:Option Addr):HO:=.ext λh=>∃c e,h.get? d=some { cls:=a,dict:=b,data:=.fields #[c,.none,.none,.none,.bool false,.none],slots:=e }
def del(H:Hp)(a:Addr):Hp:=λb=>if b=a then none else H b
theorem pw{H:Hp}{a b:Addr}(h:b≠a):del H a b=H b:=ah h
theorem zR{H:Hp}{a:Addr}:del H a a=none:=ao rfl
section
variable{X:Cx}{d:fz}{f:St}{H:Hp}{s:Shared}
theorem Inv.WZ{g:Addr}{h:Value}{j:Option Addr}(I:Inv X d f H s)(l:Loose X d H g)(e:∃m k,s.heap.get? g=some { cls:=h,dict:=j,data:=.fields #[m,.none,.none,.none,.bool false,.none],slots:=k }):Inv X d f (upd H g (RE g h j)) s:=by
 have ne:∀b,b≠g->upd H g (RE g h j) b=H b:=λb z=>aY z;have i:∀b u,H b=some u->upd H g (RE g h j) b=some u:=λb u z=>by rw[ne b (cP z l.un)];exact z
 refine⟨I.ok,I.os,I.bare,⟨I.base.keep,I.base.slot,λb o q n x=>?_,I.base.there,λb v q=>i _ _ (I.base.iS b v q),λb o u q=>i _ _ (I.base.ϸ b o u q),λb y q=>?_⟩,I.loc,I.cell,?_,λx c q=>?_,λp w=>?_,?_,I.len⟩
 .rw[ne b (by rintro rfl;rw[l.new]at q;cases q)];exact I.base.free b o q n x
 .obtain⟨more,z⟩:=I.base.lE b y q;exact⟨more,i _ _ z⟩
 .rw[ne _ (Ne.symm l.loc)];exact I.free
 .rw[ne _ (l.ZK x c q)];exact I.ϐ x c q
 .obtain⟨z1,z2,z3,z4,z5⟩:=I.pin p w;exact⟨z1,by rw[ne _ (l.pin p w)];exact z2,z3,z4,z5⟩
 .intro b u q;by_cases z:b=g
  .subst z;rw[aw]at q;cases q;obtain⟨m,k,t⟩:=e;refine⟨⟨m,k,t⟩,⟨_,t⟩,?_⟩;rintro D C ⟨a,l,A⟩ B;exact⟨a,l,B _ A⟩
  .rw[ne b z]at q;exact(I.χ b u q).iO (λ_ _ _ r=>r) (λc r=>i _ _ r) λc v r=>i _ _ r
theorem Inv.Vy{a:Addr}{l:Heap->Prop}(I:Inv X d f H s)(e:H a=some (.ext l)):Inv X d f (del H a) s:=by
 have g:∀b u,H b=some u->b≠a->del H a b=some u:=λb u z n=>by rw[pw n];exact z
 have h:∀b,H b=none->del H a b=none:=λb z=>by
  by_cases q:b=a
  .rw[q,zR]
  .rw[pw q];exact z
 refine⟨I.ok,I.os,I.bare,⟨I.base.keep,I.base.slot,λb o q n x=>h _ (I.base.free b o q n x),I.base.there,λb i q=>?_,λb o u q=>?_,λb j q=>?_⟩,I.loc,I.cell,h _ I.free,λx c q=>h _ (I.ϐ x c q),λp k=>?_,?_,I.len⟩
 .have z:=I.base.iS b i q;exact g _ _ z (by rintro rfl;rw[e]at z;cases z)
 .have z:=I.base.ϸ b o u q;exact g _ _ z (by rintro rfl;rw[e]at z;cases z)
 .obtain⟨more,z⟩:=I.base.lE b j q;exact⟨more,g _ _ z (by rintro rfl;rw[e]at z;cases z)⟩
 .obtain⟨z1,z2,z3,z4,z5⟩:=I.pin p k;exact⟨z1,h _ z2,z3,z4,z5⟩
 .intro b u q;have nb:b≠a:=by rintro rfl;rw[zR]at q;cases q
  rw[pw nb]at q;exact(I.χ b u q).iO (λ_ _ _ r=>r) (λc r=>g _ _ r (by rintro rfl;rw[e]at r;cases r)) λc i r=>g _ _ r (by rintro rfl;rw[e]at r;cases r)
end
def Im(X:Cx)(E:XK):Prop:=∀(a:fz)(e:St)(H:Hp)(s:Shared)(c:Addr)(b:Value)(d:Option Addr),Inv X a e H s->pK s.heap c b d .none->Loose X a H c->E b d H->X.xe (.ref c) s
section
variable{P:Program}{w:World}{K:fv}{h:hL}{d:Heap}{N:hO}{e:Str}{c:Scope}{f:Addr}{g:Value}{A:Around}{a:List Env}{s:Shared}{H:Hp}{E:XK}
theorem qT:Im (qj (ψ P w) P w K h d N e c f g A a s H E) E:=by
 intro m y l v u i p J n le q;refine DG (base:=d) J.ok.frames J.stack rfl n λx r t k j=>?_;have o:∀b∈ϝ (envOfC e c s.heap.objs.size f g::a),l b=none:=J.Ϯ;refine⟨u,r,i,p,l,rfl,J.os,J.bare,wM J k ?_,tW J.χ k o ?_,le.un,uI J.χ j,le.new,oH J j,t,q⟩
 .intro b hb;rw[ax.mp hb];exact le.new
 .intro b hb;rw[ax.mp hb];exact le.un
end
theorem JJ{K:fv}{h:Heap}{N:Addr}{a:hL}{n:Str}{v:Value}(X:K.In h)(G:h.Ns N a)(e:PySem.W.nsIn K N n=some (some v)):a n=some v:=by
 obtain⟨o,j,i,f,g,_,b⟩:=G;unfold PySem.W.nsIn at e;split at e
 .rename_i c d Zr n' sl q
  have:=X _ _ q;rw[f]at this;cases this;cases g;split at e
  .rename_i en he
   cases e;rw[<-b];unfold nsFind findBy;rw[<-Array.find?_toList,he]
   rfl
  .rename_i he
   split at e<;>cases e
 .cases e
def sI(K:fv)(C d:Addr):Prop:=∃(k p:Str)(N:Addr)(o e:g8)(a:Bool)(l:hO)(c:g8)(g:Bool)(b:Option Bool)(f:Option Addr)(j h n i m:Option Value),K.lookup C=some (excClassObj k p C N o e a l c g b f j h n i m "ValueError.__new__")/\PySem.W.nsOkIn K N=true/\PySem.W.nsIn K N "__init__"=some (some (.ref d))/\PySem.W.tailIn K Sx e=true/\PySem.W.isFn K (.ref d)=true
def sP(C:Addr)(f:Sp)(E:XK)(t:TA):TS:=λ_ g H=>t g H λc b=>c.length<=sizeLine/\∀a,b a=none->f (.ref a::c) (upd b a (RE a (.ref C) none)) (λv e=>v=.τ/\∃d,e a=some (RE a (.ref C) d)/\E (.ref C) d (del e a)) λ_ _ _=>False
section
variable{X:Cx}{x:Str}{o b i:Pos}{c:Expr}{a:List Expr}{t:TA}{C d:Addr}{E:XK}{j:Bv}{k:Nat}{l:FuncData}{f:hO}{n:Sp}
theorem om(q:sI X.K C d)(F:ϋ X.prog X.w X.K X.mg X.base j k d l f n)(hq:bO j)(hr:Ρ (k+1) X.A)(hb:Binds X.K l f [])(hx:X.ex=[])(hc:X.calm=true)(hR:Im X E)(hg:Gl X x)(hm:X.mg x=some (.ref C))(ha:PA X (c::a) t)(hdb:(x==("__debug__":Str))=false:=by decide)(Y:starEach (c::a) X.env=(false,eval c X.env)::starEach a X.env:=by rfl)(ϲ:(backTo b (starEach a X.env)).any (·.1)=false:=by rfl):PS X (.Raise (some (.Call (.Name x o) (c::a) [] b)) none i) (sP C n E t):=by
 intro G s Q H D I h;obtain⟨nm,qn,N,bs,bm,hdct,sn,sub,ab,col,dd,k0,k1,k2,k3,k5,ho,z5,z6,z4,z7⟩:=q;have B:=I.mod.Vc;have T0:=j7 B z4;have N0:X.base.Ns N (X.base.nsMap N):=.of_isNs (PySem.W.isNs_of_in B z5);have n0:=JJ B N0 z6;obtain⟨P,lI,cI⟩:∃P,X.K.lookup d=some P/\P.cls=.type "function":=by
  have z:=iV.mp z7;unfold PySem.W.typeIn at z;exact bS.mp z
 have hp:(backTo b (starEach (c::a) X.env)).any (·.1)=false:=by
  rw[Y];show(false||(backTo b (starEach a X.env)).any (·.1))=false;rw[ϲ]
  rfl
 refine AD (C:=C) (nm:=nm) (q:=qn) (N:=N) (bs:=bs) (bm:=bm) (hdct:=hdct) (sn:=sn) (sub:=sub) (ab:=ab) (col:=col) (dd:=dd) (k0:=k0) (k1:=k1) (k2:=k2) (k3:=k3) (k5:=k5) ig
  (T0.hasType (by decide +kernel)) (I.ok.hd hc) hp (nA I hg hm ⟨rfl,?_⟩ hdb)
 have g:=ha b G s Q H _ I h;rw[Y]at g ⊢;refine gg (Χ g λL T ⟨vs,Z,J,r1,q1⟩=>⟨rfl,by show L.length<=_;rw[<-r1.length];exact q1.1,X.base.nsMap N,d,P,J.bk _ _ (B _ _ ho),N0.keeps J.bk,T0.keeps J.bk,n0,J.bk _ _ (B _ _ lI),cI,λh' p m=>?_⟩);obtain⟨tt,m1,_,_⟩:=m.there;have le:Loose X G Z p:=by
  obtain⟨a1,a2,a3⟩:=J.apart m.new;refine⟨uI J.χ m.new,?_,a1,a2,a3⟩;rcases J.young m.new with y|y
  .exact y
  .rw[hx]at y;cases y
 have S:Inv X G Q (upd Z p (RE p (.ref C) none)) { T with heap:=h' }:=Inv.WZ (J.kept (t':=T.toks) m.keeps) le ⟨_,_,m1⟩;have M:=q1.2 p le.un;have r2:Vals (V.ref p::vs) (Value.ref p::L):=.cons rfl r1;have hl:(Value.ref p::L).length=f.length:=by rw[<-r2.length];exact F.len _ _ _ _ M
 refine gX (hW (F.run _ X.stack _ _ ⟨Value.ref p::L,[]⟩ (Value.ref p::L) _ _ _ (hr.make C L []) (S.Vj.make C L []) (by have:=hb { T with heap:=h' } (Value.ref p::L) S.ϵ (by rw[bR];exact hl);rw[bR]at this;exact this) r2 M) λr s' O=>?_);cases r with
 | error e=>exact(hq _ _ _ _ _ O).elim
 | ok fl=>
   cases fl with
   | ret u=>
     obtain⟨v,H',R,rv,ev,U,e3,q3⟩:=S.after O;subst ev;obtain rfl:u=Value.none:=rv;obtain⟨⟨a0,sl,e4⟩,_,_⟩:=(show Δ X.prog X.w H' s'.heap p (RE p (.ref C) U)from R.χ p _ e3);refine⟨rfl,R.bk _ _ (B _ _ ho),⟨a0,U,sl,e4⟩,?_⟩;refine hR G Q (del H' p) s' p (.ref C) U (R.Vy e3) ⟨_,_,e4,rfl,rfl,rfl,rfl,rfl⟩ ⟨zR,le.new,le.loc,le.ZK,le.pin⟩ q3
   | next=>exact False.elim O
   | brk=>exact False.elim O
   | cont=>exact False.elim O
end
structure Uz(K:fv)(Tl:Addr):Prop where
 ga:PySem.W.specialIn K (.ref Tl) "__getattribute__"=some (some (.builtin "type.__getattribute__"))
 rd:PySem.W.readsIn K Tl (.type "type")=true
 fd:PySem.W.findCls K (.ref Tl) (.type "type") "__init__"=some (.val (.builtin "ValueError.__init__"))
def Ky(K:fv)(t:TA):TE:=λf H Q=>t f H λd b=>∃a C c e rest,d=.ref a::rest/\rest.length<=sizeLine/\sI K C c/\b a=some (RE a (.ref C) e)/\Q .τ b
section
variable{X:Cx}{x:Str}{r j i:Pos}{m:Expr}{k:List Expr}{t:TA}{v:Addr}{p:Sem Bool}
theorem zh(b:Uz X.K v)(hg:Gl X x)(hm:X.mg x=some (.ref v))(ha:PA X (m::k) t)(hdb:(x==("__debug__":Str))=false:=by decide)(he:starEach (m::k) X.env=(false,eval m X.env)::starEach k X.env:=by rfl)(ϲ:(backTo i (starEach k X.env)).any (·.1)=false:=by rfl)(ht:eval (.Call (.Attribute (.Name x r) "__init__" j) (m::k) [] i) X.env=(do
 let ov <-eval (.Name x r) X.env
 standAt j.atName
 let (f,first) <-holding [ov] (getMethod ov "__init__" p)
 callWith i f first (backTo i (starEach (m::k) X.env)) (backToKw i (keywordEach [] X.env))):=by rfl):PE X (.Call (.Attribute (.Name x r) "__init__" j) (m::k) [] i) (Ky X.K t):=by
 intro A s V H Q I h;refine jg (pl:=p) (nA I hg hm ?_ hdb) ht;refine PySem.W.method_cls I.ϵ b.ga (PySem.W.cls_value I.ϵ b.rd b.fd (by decide +kernel) ?_);have I0:=I.tok (s.toks+1);have Y:=ha i A _ V H _ I0 h;rw[he]at Y ⊢;refine PySem.W.callWith_of (P:=λ_=>True) (by show((false||(backTo i (starEach k X.env)).any (·.1))||false)=false;rw[ϲ];rfl) (λh _=>⟨.machine,.inr (.inl rfl),.now⟩) (gg (Χ Y λus s1 ⟨vs,L,J,r1,y,C,fI,O,rest,ev,hl,q,S,q1⟩=>⟨trivial,?_⟩));subst ev;obtain⟨u,E,rfl,ru,rr⟩:∃u E,us=u::E/\RelV (.ref y) u/\Vals rest E:=by cases r1 with|cons a c=>exact⟨_,_,rfl,a,c⟩
 obtain rfl:u=Value.ref y:=ru;obtain⟨nm,qn,N,bs,bm,U,sn,am,ab,ak,dd,k0,k1,k2,k3,k5,ho,z5,z6,z4,z7⟩:=q;have B:=I.mod.Vc;have T0:=(j7 B z4).keeps J.bk;have hC:=J.bk _ _ (B _ _ ho);obtain⟨⟨M,sl,T⟩,_,_⟩:=(show Δ X.prog X.w L s1.heap y (RE y (.ref C) O)from J.χ y _ S);have F:=ig;obtain⟨D,g,d,tk,os⟩:=s1;refine gX (jA F.init.plain F.initEntry (wpAny_check_init_subT F T0 hC T rfl ?_))
 wp_walk
 have ul:E.length=rest.length:=rr.length.symm;rw[ah (by rw[be];lia)]
 wp_walk
 have lt:y<D.objs.size:=aI T;have e5:(D.push { cls:=Value.type "tuple",data:=Data.seq E.toArray }).get? y=some { cls:=.ref C,dict:=O,data:=.fields #[M,.none,.none,.none,.bool false,.none],slots:=sl }:=au _ T;have G:EP X A V Q .none ⟨(D.push { cls:=Value.type "tuple",data:=Data.seq E.toArray }).update y (Obj.mapFields λx=>x.setIfInBounds 0 (Value.ref D.objs.size)),g,d,tk,os⟩:=by
  have R:=dC (Obj.mapFields λx=>x.setIfInBounds 0 (Value.ref D.objs.size)) e5 rfl;have Z:=J.write (x:=y) (e:=y) (o:=RE y (.ref C) O) (t':=tk) (h':=(D.push { cls:=Value.type "tuple",data:=Data.seq E.toArray }).update y (Obj.mapFields λx=>x.setIfInBounds 0 (Value.ref D.objs.size))) (by rw[S];trivial) (.inl rfl) (λb u n z=>by rw[cu _ _ (Ne.symm n)];exact au _ z) ⟨_,R⟩
   ⟨⟨_,_,R⟩,⟨_,R⟩,by
    rintro g1 g2 ⟨a,l,a1⟩ kk;exact⟨a,l,kk _ a1⟩⟩
  have k:upd L y (RE y (.ref C) O)=L:=by
   funext b
   by_cases z:b=y
   .rw[z,aw,S]
   .rw[aY z]
  rw[k]at Z;exact⟨.τ,L,Z,rfl,q1⟩
 show wpAny _ _ (match M with|Value.ref a=>letGo [M]|x=>pure ()) _ _ _;cases M with
 | ref a=>exact lG (aM G)
 | _=>exact aM (aM G)
end
end L2
namespace L2
open PySem PySem.Spec PyProof.Rows PySem.W PySem.Builtin PySem.Builtin.ObjectAttr
theorem IZ(a:Value):refuseLoop a "__setattr__" Sx=pure ():=by kernel_rfl
section
variable{K:fv}{k:Program}{w:World}{A:Around}{s:Shared}{x C Tl:Addr}{R:Result->Shared->Prop}
theorem OG{p:Obj}{B:Option Obj}{c:Str}{i:Tok}{v:Value}{cd:ClassData}(X:K.In s.heap)(I:PySem.W.InstAt s.heap x p C B)(o:PySem.W.clsIn K C=some cd)(n:cd.mro=.ref C::.ref Tl::Sx)(q:PySem.W.takerIn K C c=some none)(h:∀b,wpAny (model k w) A.in1 (storeInOwnDict (.ref x) (.ref C) (.str c i) c v b)
 (λl j=>match l with|.done f=>R (.ok f) j|.again c'=>c'.quiet=true/\codeAny (model k w) A c' R j) (λe j=>R (.error e) j) s):codeAny (model k w) A (.call (.builtin "object.__setattr__") ⟨[.ref x,.str c i,v],[]⟩) R s:=by
 have g:=PySem.F.store_object;have ne:cd.mro.isEmpty=false:=by rw[n];rfl
 have m:PySem.W.Looks (model k w) s.heap (isInstance (.ref x) (.type "object")) true:=I.type.andThen (jO X (by unfold PySem.W.mroIn;rw[o,kM,ah (by rw[ne];decide),n];simp));refine jA g.slot.plain g.entry (@check_slot (model k w) _ _ s "object.__setattr__" "object" "__setattr__" (.ref x) [.str c i,v] [] _ g.kind g.split m (g.args (.ref x) (.str c i) v) ?_);obtain⟨d,r,y⟩:=Option.bind_eq_some_iff.mp q;have u:PySem.W.Looks (model k w) s.heap (mroOf (.ref C)) cd.mro:=(jQ X o).andThen .now;have t:PySem.W.Looks (model k w) s.heap (storeTaker? d) none:=by
  cases d with
  | none=>exact .now
  | some a=>
    obtain⟨b,D,z⟩:=bS.mp y;refine(PySem.W.looks_takesIn X D).andThen ?_;cases b
    .exact .now
    .cases z
 rw[PySem.W.osa_eq,refuse_eq];refine aj (aj (I.type.here (aj (u.here ?_))));rw[n,refuseLoop_ref,refuseLoop_ref,IZ];refine aM (aj (I.type.here (aj ((mD X r).here (aj (t.here ?_))))));exact h _
theorem KA{a:Str}{B:Tok}{v:Value}{b:Bool}{l:Obj}{I:Array Value}{cd:ClassData}{Q:Fin->Shared->Prop}{E:fc}(X:K.In s.heap)(n:s.heap.get? x=some l)(N:l.cls=.ref C)(J:l.dict=none)(F:l.data=.fields I)(T:PySem.W.clsIn K C=some cd)(P:cd.hasDict=true)(h:∀m u,s.heap.get? u=none->m.get? x=some { l with dict:=some u }->m.Ns1 u (λy=>if y=a then some v else none)->(∀c o,c≠x->s.heap.get? c=some o->m.get? c=some o)->Q (.done (.ret .none)) { s with heap:=m,toks:=s.toks+1 }):wpAny (model k w) A (storeInOwnDict (.ref x) (.ref C) (.str a B) a v b) Q E s:=by
 obtain⟨f,g,d,t,os⟩:=s;have L:=jQ (M:=model k w) X T;unfold storeInOwnDict ownDictForStores instanceDict;refine aj (aM ?_);simp only[show(Value.ref C==Value.type "module")=false from rfl,cR,if_false];refine aj (aj (fN n ?_));rw[N];refine aj (L.at ?_);rw[P,J,F];show wpAny _ _ (do let d <-alloc { cls:=Value.type "dict",data:=Data.dict #[] };update x λo=>{ cls:=o.cls,dict:=some d,data:=o.data,slots:=o.slots };dictMade (Value.ref C) x d) _ _ _;have H:=au { cls:=Value.type "dict",data:=Data.dict #[] } n;have lt:x<f.objs.size:=aI n;refine aj (wpAny_alloc' (aj (wpAny_update' (o:=l) H ?_)));show wpAny _ _ (pure (some f.objs.size)) _ _ _;refine aM ?_;show wpAny _ _ (storeInDict f.objs.size (Value.str a B) a v) _ _ _;unfold storeInDict;refine aj (aM (aj ?_));have S:((f.push { cls:=Value.type "dict",data:=Data.dict #[] }).update x λo=>{ cls:=o.cls,dict:=some f.objs.size,data:=o.data,slots:=o.slots }).get? f.objs.size=some { cls:=Value.type "dict",data:=Data.dict #[] }:=by
  rw[cu _ _ (aU lt)];exact bg _ rfl
 have ns:((f.push { cls:=Value.type "dict",data:=Data.dict #[] }).update x λo=>{ cls:=o.cls,dict:=some f.objs.size,data:=o.data,slots:=o.slots }).Ns1 f.objs.size (λ_=>none):=by
  refine⟨_,#[],_,S,rfl,?_,?_,λ_=>rfl⟩
  .intro e n;simp at n
  .first|exact UA|(unfold UniqKeys;simp)|(intro i j;simp)|decide
 refine wpAny_nsSet1 (s:=⟨_,g,d,t,os⟩) ns λm G D=>?_;obtain⟨Y,O,V,q,r,p⟩:=G.count (PySem.Within.cons a v (ns:=[]) (λ_ z=>(z rfl).elim));refine aj (wpAny_lookBehind q (by rw[r];exact pastItsLine_dict (aR p (by show 1<=sizeLine+1;lia))) ?_);refine aM (h m f.objs.size (gf (aN _)) ?_ G λc o U e=>?_)
 .rw[D.2 _ (aU lt),dC _ H (eP F)]
 .have lc:=aI e;rw[D.2 _ (aU lc),cu _ _ (Ne.symm U)];exact au _ e
end
section
variable{X:Cx}{d:fz}{e:St}{H:Hp}{s:Shared}
theorem Inv.W5{a:Addr}{o:HO}(I:Inv X d e H s)(l:Loose X d H a)(ok:Δ X.prog X.w (upd H a o) s.heap a o):Inv X d e (upd H a o) s:=by
 have ne:∀b,b≠a->upd H a o b=H b:=λb z=>aY z;have f:∀b u,H b=some u->upd H a o b=some u:=λb u z=>by rw[ne b (cP z l.un)];exact z
 refine⟨I.ok,I.os,I.bare,⟨I.base.keep,I.base.slot,λb o q n x=>?_,I.base.there,λb g q=>f _ _ (I.base.iS b g q),λb o u q=>f _ _ (I.base.ϸ b o u q),λb i q=>?_⟩,I.loc,I.cell,?_,λx c q=>?_,λp h=>?_,?_,I.len⟩
 .rw[ne b (by rintro rfl;rw[l.new]at q;cases q)];exact I.base.free b o q n x
 .obtain⟨more,z⟩:=I.base.lE b i q;exact⟨more,f _ _ z⟩
 .rw[ne _ (Ne.symm l.loc)];exact I.free
 .rw[ne _ (l.ZK x c q)];exact I.ϐ x c q
 .obtain⟨z1,z2,z3,z4,z5⟩:=I.pin p h;exact⟨z1,by rw[ne _ (l.pin p h)];exact z2,z3,z4,z5⟩
 .intro b u q;by_cases z:b=a
  .subst z;rw[aw]at q;cases q;exact ok
  .rw[ne b z]at q;exact(I.χ b u q).iO (λ_ _ _ r=>r) (λc r=>f _ _ r) λc g r=>f _ _ r
end
structure UB(K:fv)(C Tl:Addr)(f:Str):Prop where
 sa:PySem.W.findIn K (.ref C) "__setattr__"=some (some (.builtin "object.__setattr__"))
 cd:∃cd,PySem.W.clsIn K C=some cd/\cd.mro=.ref C::.ref Tl::Sx/\cd.hasDict=true
 tk:PySem.W.takerIn K C f=some none
section
variable{X:Cx}{i:fz}{k:St}{H:Hp}{s:Shared}{A:Around}{E:fc}{d C j:Addr}{f:Str}
theorem Ow{y:V}{u:Value}{Q:Unit->Shared->Prop}(L:X.ex=[])(I:Inv X i k H s)(e:H d=some (RE d (.ref C) none))(c:UB X.K C j f)(O:RelV y u)(h:∀F m,H m=none->m≠d->Inv X i k (upd (upd H d (RE d (.ref C) (some m))) m (.xd [(f,y)])) F->Q () F):wpAny (model X.prog X.w) A (setAttr (.ref d) f u) Q E s:=by
 obtain⟨⟨a0,Z,r⟩,_,_⟩:=(show Δ X.prog X.w H s.heap d (RE d (.ref C) none)from I.χ d _ e);obtain⟨cd,D,T,N⟩:=c.cd;have J:PySem.W.InstAt s.heap d _ C none:=⟨r,rfl,rfl,trivial⟩;refine PySem.W.set_plain I.ϵ J c.sa (OG (s:={ s with toks:=s.toks+1 }) (Tl:=j) I.ϵ J D T c.tk λb=>KA (s:={ s with toks:=s.toks+1 }) I.ϵ r rfl rfl rfl D N λh' m p t P U=>?_);have ne:m≠d:=λz=>by rw[z]at p;rw[show s.heap.get? d=none from p]at r;cases r
 have B:=uI I.χ p;have R:=I.write (x:=d) (e:=d) (o:=RE d (.ref C) (some m)) (t':=s.toks+1+1) (h':=h') (by rw[e];trivial) (.inl rfl) (λb u n z=>U b u n z) ⟨_,t⟩
  ⟨⟨_,_,t⟩,⟨_,t⟩,by
   rintro g1 g2 ⟨a,l,v⟩ Y;exact⟨a,l,Y _ v⟩⟩
 have S:Loose X i (upd H d (RE d (.ref C) (some m))) m:=by
  obtain⟨v,G,M⟩:=I.apart p;refine⟨by rw[aY ne];exact B,?_,v,G,M⟩;rcases I.young p with z|z
  .exact z
  .rw[L]at z;cases z
 refine h _ m B ne (R.W5 S ⟨_,P,λg=>?_⟩);show iN (List.lookup g [(f,y)]) (if g=f then some u else none);by_cases q:g=f
 .rw[ao q,q,List.lookup_cons_self];exact O
 .rw[ah q,cz,show(g==f)=false from by simpa using q];trivial
end
def Qp(K:fv)(e g:TE)(f:Str):TS:=λD c H=>g c H λy h=>e c h λx d=>∃a C i,x=.ref a/\d a=some (RE a (.ref C) none)/\UB K C i f/\∀b,d b=none->b≠a->D.nx c (upd (upd d a (RE a (.ref C) (some b))) b (.xd [(f,y)]))
section
variable{X:Cx}{o a:Expr}{e g:TE}{f:Str}{d b:Pos}
theorem HU(m:X.ex=[])(z:PE X o e)(t:PE X a g)(w:swapsWith a (some (.Attribute o f b)) d.line X.env=pure false):PS X (.Assign [.Attribute o f b] a d) (Qp X.K e g f):=by
 intro i s j H D I h;refine plainObj_wpAny_Assign_Attribute (dP (t i s j H _ I h) λu k y p l v q=>dP (z i k j p _ l q) λL N x Q B E ⟨J,C,P,ex,A,c,M⟩=>?_) w;subst ex;obtain rfl:L=Value.ref J:=E;exact Ow m B A c v λO F G n r=>⟨j,_,r,M F G n⟩
end
theorem OB{K:fv}{C c:Addr}{f:Str}{d:Value}{g:Option Addr}{cd:ClassData}{k:Array (Option Value)}(l:K.lookup C=some ⟨d,g,.cls cd,k⟩)(m:cd.mro=.ref C::.ref c::Sx)(h:PySem.W.hasDictIn K C=true)(s:PySem.W.findIn K (.ref C) "__setattr__"=some (some (.builtin "object.__setattr__")))(a:PySem.W.findIn K (.ref C) f=some none):UB K C c f:=by
 obtain⟨i,e,j⟩:=ja h;have b:PySem.W.clsIn K C=some cd:=by unfold PySem.W.clsIn;rw[l]
 rw[b]at e;cases e;exact⟨s,⟨cd,b,m,j⟩,by unfold PySem.W.takerIn;rw[a];rfl⟩
theorem UC{K:fv}{C g:Addr}{o:Obj}(r w:Str)(N:Addr)(v j:g8)(f:Bool)(s:hO)(i:g8)(m:Bool)(h:Option Bool)(k:Option Addr)(q n u p t:Option Value)(l:K.lookup C=some o)(e:o=excClassObj r w C N v j f s i m h k q n u p t "ValueError.__new__")(a:PySem.W.nsOkIn K N=true)(b:PySem.W.nsIn K N "__init__"=some (some (.ref g)))(c:PySem.W.tailIn K Sx j=true)(d:PySem.W.isFn K (.ref g)=true):sI K C g:=by
 subst e;exact⟨_,_,_,_,_,_,_,_,_,_,_,_,_,_,_,_,l,a,b,c,d⟩
end L2
namespace L2
open PySem
def BW(K:fv)(f:Addr)(d:TS)(e:TH):TH:=λD c a g H=>∃C b,a=.ref C/\PySem.W.mroIn K C (.ref f)=some b/\if b=true then d D c H else e D c a g H
section
variable{X:Cx}{x:Str}{n d:Pos}{c:Addr}{j:Stmt}{l:List Stmt}{a:List ExceptHandler}{g:TS}{i:TH}
theorem wC(P:Sy X.K c)(U:Gl X x)(R:X.mg x=some (.ref c))(A:∀e,Sl (X.held e).Ua (j::l) g)(S:XB X a i)(hdb:(x==("__debug__":Str))=false:=by decide):XB X (.ExceptHandler (some (.Name x n)) none (j::l) d::a) (BW X.K c g i):=by
 intro o s B H D w T L V I y le lt h;obtain⟨C,b,rfl,m,q⟩:=h;refine wpAny_handleBy_cons (codeAny_handlers_test (nA (X:=X.held (.ref w)) (I.held _) U R ?_ hdb)) (by intro z;cases z);obtain⟨N,Y,M,G,h3,h4,h5,h6⟩:=id y.e;refine GN I.ϵ ⟨N,M,G⟩ P m ?_;cases b with
 | false=>exact S o s B H D w T _ V I y le lt (by simpa using q)
 | true=>
   rw[ao rfl]at q;refine codeAny_handlers_suite (sQ (fs:=ϝ X.stack) y λO Z k=>?_);have F:Inv X o B H { s with heap:=O }:=I.moved (tk:=s.toks) k λb A=>by rw[ax.mp A];exact lt.all
   have Q:=F.held (.ref w);refine bu (A (.ref w) o _ _ _ _ (Q.wish _) q) (λf E z=>?_) λ_ _ z=>False.elim z;have p:∀{r:St}{t:Hp},Inv (X.held (.ref w)).Ua o r t E->Inv X o r t E:=λJ=>J.ϒ.R9 I.ok.hd;dsimp only;cases f with
   | next=>
     obtain⟨r,t,J,z⟩:=z;exact⟨_,t,p J,z⟩
   | brk=>
     obtain⟨r,t,J,z⟩:=z;exact⟨_,t,p J,z⟩
   | cont=>
     obtain⟨r,t,J,z⟩:=z;exact⟨_,t,p J,z⟩
   | ret u=>
     obtain⟨v,r,t,J,W,z⟩:=z;exact⟨v,_,t,p J,W,z⟩
end
end L2
namespace Pb
open L2 PySem
theorem qR{H:Hp}{d f:Addr}{a b c:HO}(ne:H d=none)(h:upd H d a f=none)(i:f≠d):γ H (del (upd (upd (upd H d a) d b) f c) d):=λq o e=>by
 have g:q≠d:=cP e ne;have j:q≠f:=λz=>by rw[z]at e;rw[aY i,e]at h;cases h
 rw[pw g,aY j,aY g,aY g];exact e
structure RB(m:Int)(rs:hU)(xs:dm)(ss:List Ϧ)(i:Nat):Prop where
 bef:∀j s,j<i->ss[j]?=some s->kE m rs (ow rs xs ss j) s=true
 bad:∃s,ss[i]?=some s/\kE m rs (ow rs xs ss i) s=false
section
variable{m:Int}{rs:hU}{r:Int}{par:dt}{b:ew}{a:dt}{f d:dm}
def YD(rs:hU)(par:dt)(v:Int):Int:=(fg rs (par v) v).getD 1
def wz(rs:hU)(par:dt)(a:dt)(v:Int):Int:=if 0<=a v then a v/ZN rs par v else 0
def Mo(a:dt)(v:Int):Int:=if 0<=a v then 0 else-a v
def Fo(rs:hU)(par:dt)(a:dt)(v:Int):Bool:=decide (0<wz rs par a v)
def FM(a:dt)(v:Int):Bool:=decide (a v<0)
def Mf(rs:hU)(par:dt)(a:dt)(v:Int):Ϧ:=(v,par v,wz rs par a v)
def M7(par:dt)(a:dt)(v:Int):Ϧ:=(par v,v,- a v)
def qo(rs:hU)(par:dt)(a:dt)(l:dm):List Ϧ:=(l.filter (Fo rs par a)).map (Mf rs par a)
def qA(par:dt)(a:dt)(l:dm):List Ϧ:=(l.filter (FM a)).map (M7 par a)
theorem MR{l:dm}{v:Int}(c:Fo rs par a v=true):qo rs par a (l++[v])=qo rs par a l++[Mf rs par a v]:=by
 unfold qo;rw[cC,eJ c,aE]
 rfl
theorem MI{l:dm}{v:Int}(c:¬Fo rs par a v=true):qo rs par a (l++[v])=qo rs par a l:=by
 unfold qo;rw[cC,fH c,iB,bR]
theorem MZ{l:dm}{v:Int}(c:FM a v=true):qA par a (l++[v])=qA par a l++[M7 par a v]:=by
 unfold qA;rw[cC,eJ c,aE]
 rfl
theorem MJ{l:dm}{v:Int}(c:¬FM a v=true):qA par a (l++[v])=qA par a l:=by
 unfold qA;rw[cC,fH c,iB,bR]
theorem NP(g:Good m rs)(R:ζ m rs r par b){v:Int}(h:0<=v)(j:v<m)(i:v≠r):2<=ZN rs par v/\2<=YD rs par v:=by
 obtain⟨k,l,n,_⟩:=pV g R h j i;obtain⟨o,e,c,_⟩:=sJ g R h j i;unfold ZN YD;rw[l,e];exact⟨n,c⟩
theorem Kl(a:dt)(v:Int):RA rs par v (a v)=wz rs par a v-Mo a v*YD rs par v:=by
 unfold RA wz Mo ZN YD;by_cases c:0<=a v
 .rw[ao c,ao c,ao c];lia
 .rw[ah c,ah c,ah c,Int.neg_mul];lia
theorem OH(g:Good m rs)(R:ζ m rs r par b)(a:dt){v:Int}(i:0<=v)(k:v<m)(j:v≠r):(0<RA rs par v (a v)->RA rs par v (a v)=wz rs par a v)/\(¬0<RA rs par v (a v)->¬0<wz rs par a v):=by
 have l:=(NP g R i k j).2;have e:=Kl (rs:=rs) (par:=par) a v;unfold wz Mo at e;unfold wz;by_cases c:0<=a v
 .rw[ao c,ao c,Int.zero_mul,Int.sub_zero]at e;rw[e,ao c];exact⟨λ_=>rfl,λh=>h⟩
 .rw[ah c,ah c]at e;rw[ah c];have:0<=(- a v)*YD rs par v:=mK (by lia) (by lia);exact⟨λh=>by lia,λ_=>by decide⟩
end
def Reach(d:hU)(c:dm):Prop:=∀S:Int->Prop,S 0->(∀r∈d,(S r.a↔S r.b))->∀k∈c,S k
theorem Reach.start{b:hU}:Reach b [0]:=λS a _ k c=>by rw[ax.mp c];exact a
theorem Reach.add{d:hU}{c:dm}(h:Reach d c){p e:Int}(i:p∈c)(j:e∈fX d p):Reach d (c++[e]):=λS g a k l=>by
 rcases aK.mp l with z|z
 .exact h S g a k z
 .rw[ax.mp z];have b:=h S g a p i;obtain⟨r,f,y⟩:=qI.mp j;rcases y with⟨y1,y2⟩|⟨y1,y2⟩
  .rw[<-y2];rw[<-y1]at b;exact(a r f).mp b
  .rw[<-y2];rw[<-y1]at b;exact(a r f).mpr b
theorem Reach.joined{m:Int}{c:hU}{a:dm}(h:Reach c a)(g:0<=m)(i:a.Nodup)(n:∀k∈a,0<=k/\k<m)(l:(a.length:Int)=m):vz m c:=λS o f v d j=>by
 have b:v∈a:=by
  refine Classical.byContradiction λz=>?_;have:=gY g (Cc i z) λx e=>by
   rcases aK.mp e with y|y
   .exact n x y
   .rw[ax.mp y];exact⟨d,j⟩
  rw[ap,bM]at this
  lia
 exact h S o f v b
theorem Ag{m:Int}{r:Road}:Ϡ m r↔((0<=r.a/\r.a<m)/\(0<=r.b/\r.b<m)/\r.a≠r.b)/\((2<=r.t/\r.t<=1000000)/\(2<=r.u/\r.u<=1000000)):=⟨λh=>⟨⟨⟨h.a0,h.a1⟩,⟨h.b0,h.b1⟩,h.ne⟩,⟨h.t0,h.t1⟩,⟨h.u0,h.u1⟩⟩,λ⟨⟨a,b,c⟩,d,e⟩=>⟨a.1,a.2,b.1,b.2,c,d.1,d.2,e.1,e.2⟩⟩
end Pb
namespace L2
open PySem
theorem JY{K:fv}{c:Bool}{a p:Addr}{xs:List V}{Q:VK}{g:TG}{u:TT}{t:TE}{o:St}{w:Hp}(k:Nat->List V->St->Hp->Prop)(B:k 0 [] o w)(I:∀i d f H,k i d f H->ύ K c H a xs)(G:∀(i:Nat) (x:V) (d:List V) (f:St) (H:Hp) (q:Addr) (N:List V->St->Hp->Prop),(∀n h l,k (i+1) n h l->N n h l)->xs[i]?=some x->k i d f H->H q=none->g (.ref q) f (upd H q (.tup [.int i,x])) λj L=>u j L λb z=>
 if b=true then t j z λy v=>v p=some (.lst d)/\d.length<sizeLine/\N (d++[y]) j (upd v p (.lst (d++[y])))else N d j z)(E:∀d f H,k xs.length d f H->Q (.ref p) H):sU (ZO K c a) p Q g u t o w:=by
 refine⟨λi m d f H=>m=xs.length-i/\i<=xs.length/\k i d f H,⟨_,rfl,bT _,B⟩,?_⟩;rintro i m d f H ⟨rfl,O,pv⟩;have r:=I i d f H pv;by_cases s:i<xs.length
 .refine .inr ⟨⟨xs,xs[i],r,aB s⟩,λx l y=>?_⟩;obtain⟨C,M,F,rfl,rfl,J⟩:=y;exact G i M d f H C (λn h l=>∃A,A<xs.length-i/\(A=xs.length-(i+1)/\i+1<=xs.length/\k (i+1) n h l)) (λn h l D=>⟨xs.length-(i+1),by lia,rfl,s,D⟩) (J xs r) pv F
 .have e:i=xs.length:=by lia
  subst e;exact .inl ⟨⟨xs,r,rfl⟩,E d f H pv⟩
def ϰ(o:Addr)(H a:Hp):Prop:=∀b x,H b=some x->b≠o->a b=some x
theorem ϰ.refl{o:Addr}{H:Hp}:ϰ o H H:=λ_ _ h _=>h
theorem ϰ.then{o:Addr}{H d e:Hp}(a:ϰ o H d)(b:γ d e):ϰ o H e:=λc x h n=>b c x (a c x h n)
theorem ϰ.put{o:Addr}{H b:Hp}(a:ϰ o H b)(x:HO):ϰ o H (upd b o x):=λc y h n=>by rw[aY n];exact a c y h n
theorem ϰ.ϳ{K:fv}{H f:Hp}{o C g:Addr}{b:List (Str×V)}{c:Bool}{a:Addr}{d:List V}(e:ϰ o H f)(k:H o=some (.ins C g b))(h:ύ K c H a d):ύ K c f a d:=by
 have n:∀{y:HO},H a=some y->y≠.ins C g b->a≠o:=λi j z=>by rw[z,k]at i;cases i;exact j rfl
 cases c
 .rcases h with(h|⟨o',h⟩)|h
  .exact .inl (.inl (e _ _ h (n h (by intro z;cases z))))
  .exact .inl (.inr ⟨o',e _ _ h (n h (by intro z;cases z))⟩)
  .exact .inr h
 .rcases h with(h|⟨o',h⟩)|h
  .exact .inl (.inl (e _ _ h (n h (by intro z;cases z))))
  .exact .inl (.inr ⟨o',e _ _ h (n h (by intro z;cases z))⟩)
  .exact .inr h
end L2
namespace Pb
open PySem L2
def mF(a b:dm):List Int:=List.zipWith (·+·) a b
def gE(m:Int):List Int:=List.replicate m.toNat 0
def wA(m:Int)(a:List (List Int)):List Int:=a.foldl mF (gE m)
def qZ(b l:dm):List Int:=if b.sum<l.sum then l else b
theorem Kv{b l:dm}(h:b.sum<l.sum):qZ b l=l:=ao h
theorem Kn{b l:dm}(h:¬b.sum<l.sum):qZ b l=b:=ah h
def Ts(b:hU)(a:dt)(v:Int):Int:=(fg b v (a v)).getD 1
def UD(b:hU)(a:dt)(v:Int):Int:=(fg b (a v) v).getD 1
abbrev kd(m:Int)(b:hU)(r:Int)(a:dt)(v:Int):List Int:=fh m b (front r a v) v
def Ge(m:Int)(c:hU)(r:Int)(a:dt)(b:Int->List Int)(v:Int)(x:V):List Int:=wA m (((kd m c r a v).filter λk=>decide (V.int k≠x)).map b)
def vd(b:dm)(v d:Int):List Int:=b.set v.toNat (b.getD v.toNat 0+d)
def Vz(m:Int)(c:hU)(r:Int)(a:dt)(f:dt)(d:Int->List Int)(e:Int->Int->List Int)(v b k:Int):List Int:=mF (e k (Ts c a k*(b-f k*UD c a k+1)-1)) (Ge m c r a d v (.int k))
def oW(m:Int)(c:hU)(r:Int)(a:dt)(b:dt)(d:Int->List Int)(e:Int->Int->List Int)(v y:Int):List Int:=((kd m c r a v).map (Vz m c r a b d e v (b v+y))).foldl qZ (vd (Ge m c r a d v .τ) v (b v+y))
def ld(m:Int)(b:hU)(r:Int)(a:dt)(c:dt):Nat->Bool->Int->Int->List Int
 | 0,_,_,_=>[]
 | n+1,true,v,y=>oW m b r a c (λk=>ld m b r a c n false k 0) (λk z=>ld m b r a c n true k z) v y
 | n+1,false,v,_=>if 0<c v then Ge m b r a (λk=>ld m b r a c n false k 0) v .τ else oW m b r a c (λk=>ld m b r a c n false k 0) (λk z=>ld m b r a c n true k z) v (Ts b a v-1)
def Ro(m:Int)(d:hU)(r:Int)(b:dt)(a:ew)(c:dt)(v y:Int):List Int:=ld m d r b c (m.toNat-a v) true v y
def Io(m:Int)(d:hU)(r:Int)(b:dt)(a:ew)(c:dt)(v:Int):List Int:=ld m d r b c (m.toNat-a v) false v 0
def fw(m:Int)(a:dm):Int:=((cM m.toNat).filter λv=>decide (0<a.getD v.toNat 0)).headD 0
theorem Ix{m:Int}{b:dm}(u:(b.length:Int)=m)(g:∀x∈b,0<=x)(h:b.sum≠0):∃d,((cM m.toNat).filter λv=>decide (0<b.getD v.toNat 0))=fw m b::d/\(0<=fw m b/\fw m b<m)/\0<b.getD (fw m b).toNat 0:=by
 have k:∃x∈b,0<x:=by
  refine Classical.byContradiction λn=>h ?_;have:∀l:List Int,(∀x∈l,x=0)->l.sum=0:=by
   intro l
   induction l with
   | nil=>intro _;rfl
   | cons a l ih=>intro q;rw[dE,q a aP,ih λx c=>q x (aL _ c)];rfl
  refine this b λx c=>?_;have t:=g x c;have s:¬0<x:=λz=>n ⟨x,c,z⟩
  lia
 obtain⟨x,c,p⟩:=k;obtain⟨i,j,rfl⟩:=List.mem_iff_getElem.mp c;have f:(i:Int)∈(cM m.toNat).filter λv=>decide (0<b.getD v.toNat 0):=by
  refine ci.mpr ⟨aO (lD (show i<m.toNat by lia)),bB ?_⟩;rw[show((i:Int)).toNat=i from rfl,bD,aB j];exact p
 unfold fw;cases e:(cM m.toNat).filter λv=>decide (0<b.getD v.toNat 0)with
 | nil=>rw[e]at f;cases f
 | cons a d=>
   have o:a∈(cM m.toNat).filter λv=>decide (0<b.getD v.toNat 0):=by rw[e];exact aP
   have w:=ci.mp o;have r:=iZ.mp w.1;exact⟨d,rfl,⟨r.1,by have:=r.2;show a<m;lia⟩,bn w.2⟩
theorem Kp{d c:Type}{R:d->c->Prop}:∀{l:List d}{f:List c},Paired R l f->∀{i:Nat}{b:c},f[i]?=some b->∃a,l[i]?=some a/\R a b
 | _,_,.nil,i,b,e=>by simp at e
 | _,_,.cons (a:=a) (b:=b') h _,0,b,e=>by
   rw[List.getElem?_cons_zero]at e;cases e;exact⟨a,rfl,h⟩
 | _,_,.cons h hs,i+1,b,e=>by
   rw[gD]at e;obtain⟨a,g,j⟩:=Kp hs e;exact⟨a,by rw[gD];exact g,j⟩
theorem CU{c d:Type}{R S:c->d->Prop}:∀{l:List c}{e:List d},(∀a b,a∈l->R a b->S a b)->Paired R l e->Paired S l e
 | _,_,_,.nil=>.nil
 | _,_,f,.cons h hs=>.cons (f _ _ aP h) (CU (λa b g=>f a b (aL _ g)) hs)
theorem Ip{c d:Type}{R:c->d->Prop}:∀{l:List c}{e:List d},Paired R l e->∀{a:c},a∈l->∃b,R a b
 | _,_,.nil,a,h=>by cases h
 | _,_,.cons (b:=b) h hs,a,ha=>by
   rcases aG.mp ha with rfl|ha
   .exact⟨b,h⟩
   .exact Ip hs ha
theorem Am{c d:Type}{R:c->d->Prop}{a:c}{b:d}(e:R a b):∀{l:List c}{f:List d},Paired R l f->Paired R (l++[a]) (f++[b])
 | _,_,.nil=>.cons e .nil
 | _,_,.cons x xs=>.cons x (Am e xs)
theorem Bg{b:Type}{a:List b}{i:Int}(h:0<=i):Ϲ a i=a[i.toNat]?:=by
 cases e:a[i.toNat]? with
 | some v=>exact fo h e
 | none=>
   have:=List.getElem?_eq_none_iff.mp e;unfold Ϲ TF;rw[ao h,ah (by lia)]
   rfl
theorem Dh{m v:Int}(a:0<=v)(b:v<m):(cM m.toNat)[v.toNat]?=some v:=by
 rw[lD (by lia)];exact congrArg some (bJ a)
theorem C3{m v:Int}(b:dt)(a:0<=v)(c:v<m):Ϲ (((cM m.toNat).map b).map V.int) v=some (.int (b v)):=fo a (by
 rw[aQ,aQ,Dh a c]
 rfl)
theorem Iq(m:Int):(gE m).map V.int=List.replicate m.toNat (V.int 0):=by unfold gE;rw[List.map_replicate]
theorem IQ{m:Int}{a:List (List Int)}{l:dm}:wA m (a++[l])=mF (wA m a) l:=by unfold wA;rw[jb];rfl
section
variable{m:Int}{j:hU}{r:Int}{f:dt}{i:ew}{o:dt}
theorem x9{a b:Int->List Int}{v:Int}{x:V}(h:∀k∈kd m j r f v,a k=b k):Ge m j r f a v x=Ge m j r f b v x:=by
 unfold Ge;rw[dG λk c=>h k (ci.mp c).1]
theorem zc{b d:Int->List Int}{c a:Int->Int->List Int}{v y:Int}(h:∀k∈kd m j r f v,b k=d k)(e:∀k∈kd m j r f v,∀z,c k z=a k z):oW m j r f o b c v y=oW m j r f o d a v y:=by
 unfold oW Vz;rw[x9 (x:=.τ) h,dG λk g=>by rw[e k g,x9 (x:=.int k) h]]
theorem tD(g:Good m j)(R:ζ m j r f i){v:Int}(a:0<=v)(c:v<m){k:Int}(b:k∈kd m j r f v):((0<=k/\k<m)/\k≠r/\f k=v)/\m.toNat-i v=m.toNat-i k+1/\1<=m.toNat-i k:=by
 have w:=(gW g R a c).mp b;have:=R.pos w.1.1 w.1.2 w.2.1;have d:=tQ R w.1.1 w.1.2;rw[w.2.2]at this;exact⟨w,by lia,by lia⟩
theorem Gi(R:ζ m j r f i){v:Int}(a:0<=v)(b:v<m):∃n,m.toNat-i v=n+1:=⟨m.toNat-i v-1,by have:=tQ R a b;lia⟩
theorem Ao(g:Good m j)(R:ζ m j r f i){v y:Int}(b:0<=v)(d:v<m):Ro m j r f i o v y=oW m j r f o (Io m j r f i o) (Ro m j r f i o) v y:=by
 obtain⟨n,e⟩:=Gi R b d;have c:∀k∈kd m j r f v,m.toNat-i k=n:=λk a=>by have:=(tD g R b d a).2.1;lia
 unfold Ro;rw[e];show oW m j r f o _ _ v y=_;exact zc (λk a=>by show _=ld m j r f o (m.toNat-i k) false k 0;rw[c k a]) (λk a z=>by show _=ld m j r f o (m.toNat-i k) true k z;rw[c k a])
theorem Fe(g:Good m j)(R:ζ m j r f i){v:Int}(b:0<=v)(h:v<m):Io m j r f i o v=if 0<o v then Ge m j r f (Io m j r f i o) v .τ else Ro m j r f i o v (Ts j f v-1):=by
 obtain⟨n,e⟩:=Gi R b h;have d:∀k∈kd m j r f v,m.toNat-i k=n:=λk a=>by have:=(tD g R b h a).2.1;lia
 rw[Ao g R b h];unfold Io;rw[e];show(if 0<o v then Ge m j r f _ v .τ else oW m j r f o _ _ v _)=_;by_cases c:0<o v
 .rw[ao c,ao c];exact x9 λk a=>by rw[d k a]
 .rw[ah c,ah c];exact zc (λk a=>by show _=ld m j r f o (m.toNat-i k) false k 0;rw[d k a]) (λk a z=>by show _=ld m j r f o (m.toNat-i k) true k z;rw[d k a])
theorem Af{a b:dm}{n:Nat}(d:a.length=n)(c:b.length=n):(mF a b).length=n:=by unfold mF;rw[List.length_zipWith];lia
theorem yq{m:Int}:∀(b:List (List Int))(a:dm),a.length=m.toNat->(∀l∈b,l.length=m.toNat)->(b.foldl mF a).length=m.toNat
 | [],a,h,_=>h
 | l::b,a,h,hl=>yq b (mF a l) (Af h (hl l aP)) λx c=>hl x (aL _ c)
theorem yW(m:Int):(gE m).length=m.toNat:=dy
theorem yU{a:Int->List Int}{v:Int}{x:V}(h:∀k∈kd m j r f v,(a k).length=m.toNat):(Ge m j r f a v x).length=m.toNat:=by
 unfold Ge wA;refine yq _ _ (yW m) λl b=>?_;obtain⟨k,c,rfl⟩:=aW.mp b;exact h k (ci.mp c).1
theorem Dc{P:List Int->Prop}:∀(a:List (List Int))(b:dm),P b->(∀l∈a,P l)->P (a.foldl qZ b)
 | [],b,h,_=>h
 | l::a,b,h,hl=>Dc a (qZ b l) (by
   unfold qZ;split
   .exact hl l aP
   .exact h) λx c=>hl x (aL _ c)
theorem Nr{b:dm}{v d:Int}:(vd b v d).length=b.length:=by unfold vd;rw[b7]
theorem KH{a:Int->List Int}{b:Int->Int->List Int}{v y:Int}(h:∀k∈kd m j r f v,(a k).length=m.toNat)(d:∀k∈kd m j r f v,∀z,(b k z).length=m.toNat):(oW m j r f o a b v y).length=m.toNat:=by
 unfold oW;refine Dc (P:=λl=>l.length=m.toNat) _ _ (by rw[Nr];exact yU h) λl c=>?_;obtain⟨k,e,rfl⟩:=aW.mp c;exact Af (d k e _) (yU h)
theorem Fw(g:Good m j)(R:ζ m j r f i):∀(n:Nat)(v:Int),0<=v->v<m->m.toNat-i v=n->(Io m j r f i o v).length=m.toNat/\∀y,(Ro m j r f i o v y).length=m.toNat
 | 0,v,h0,h1,e=>by have:=tQ R h0 h1;lia
 | n+1,v,h0,h1,e=>by
   have c:∀k∈kd m j r f v,_:=λk b=>by
    have w:=tD g R h0 h1 b;exact Fw g R n k w.1.1.1 w.1.1.2 (by lia)
   have a:∀y,(Ro m j r f i o v y).length=m.toNat:=λy=>by
    rw[Ao g R h0 h1];exact KH (λk b=>(c k b).1) λk b=>(c k b).2
   refine⟨?_,a⟩;rw[Fe g R h0 h1];split
   .exact yU λk b=>(c k b).1
   .exact a _
theorem HN(g:Good m j)(R:ζ m j r f i){v:Int}(a:0<=v)(b:v<m):(Io m j r f i o v).length=m.toNat:=(Fw g R _ v a b rfl).1
theorem HW(g:Good m j)(R:ζ m j r f i){v y:Int}(a:0<=v)(b:v<m):(Ro m j r f i o v y).length=m.toNat:=(Fw g R _ v a b rfl).2 y
end
theorem F8:∀(c:List (List Int))(b:dm),c.foldl qZ b=b\/c.foldl qZ b∈c
 | [],b=>.inl rfl
 | a::c,b=>by
   rw[jH];rcases F8 c (qZ b a)with h|h
   .rw[h];by_cases z:b.sum<a.sum
    .rw[Kv z];exact .inr aP
    .rw[Kn z];exact .inl rfl
   .exact .inr (aL _ h)
section
variable{m:Int}{b:hU}{r:Int}{a:dt}{c:ew}{f:dt}
variable{w:dt}
variable{x d e:dt}
theorem O8(v z:Int):RA b a v z=if 0<=z then z/Ts b a v else z*UD b a v:=rfl
abbrev pF(m:Int)(b:hU)(r:Int)(a:dt)(c:ew)(g:dm):Int->Int:=aS m b r a c (λv=>g.getD v.toNat 0) (VY b a)
end
theorem DH:∀{xs ys:dm},xs.length=ys.length->∀(i:Nat),(mF xs ys).getD i 0=xs.getD i 0+ys.getD i 0
 | [],[],_,i=>by simp[mF]
 | a::xs,b::ys,h,0=>by simp[mF]
 | a::xs,b::ys,h,i+1=>by
   have c:=DH (xs:=xs) (ys:=ys) (by simpa using h) i;unfold mF at c ⊢;rw[List.zipWith_cons_cons,jY,jY,jY,c]
theorem Ey(m:Int)(i:Nat):(gE m).getD i 0=0:=by
 rw[bD];cases e:(gE m)[i]? with
 | none=>rfl
 | some y=>exact(iC.mp (aO e)).2
section
variable{m:Int}{h:hU}{r:Int}{e:dt}{b:ew}{g w:dt}
theorem Cn{f:dt}:∀{l:dm},(l.map λc=>-f c).sum=-(l.map f).sum
 | []=>rfl
 | a::l=>by rw[bh,bh,dE,dE,Cn];lia
theorem Kz{m v d:Int}(c:0<=v)(f:v<m):((gE m).set v.toNat d).getD v.toNat 0=d/\∀u,0<=u->u<m->u≠v->((gE m).set v.toNat d).getD u.toNat 0=0:=by
 refine⟨?_,λu a j i=>?_⟩
 .rw[bD,cN (by rw[yW];lia)];rfl
 .rw[bD,cV (by lia),<-bD,Ey]
end
section
variable{m:Int}{a:hU}{r:Int}{par:dt}{b:ew}{c w:dt}
theorem Fz(g:Good m a){v:Int}:(kd m a r par v).length<=24:=by
 have e:=bN (λu=>decide (V.int u≠front r par v)) (jN m a v);have d:=bN (λq=>decide (q∈fX a v)) (cM m.toNat);rw[dq]at d;have:=g.ω;show((jN m a v).filter λu=>decide (V.int u≠front r par v)).length<=24;unfold jN at e ⊢
 lia
end
theorem yR{f:dt}{M:Int}:∀{l:dm},(∀c∈l,f c<=M)->(l.map f).sum<=l.length*M
 | [],_=>by simp
 | a::l,h=>by
   have e:=h a aP;have d:=yR (l:=l) λc b=>h c (aL _ b);rw[bh,dE,aJ];have:((l.length+1:Nat):Int)*M=l.length*M+M:=by
    rw[Int.natCast_add,iU];simp
   lia
theorem C9{a b:Nat}(h:a<=b):(2:Int)^a<=2^b:=by
 obtain⟨c,rfl⟩:=Nat.exists_eq_add_of_le h;rw[lV];have:=cB (show(1:Int)<=2^c from dW (by decide)) (iA (show(0:Int)<2^a from dW (by decide)))
 lia
section
variable{m:Int}{d:hU}{r:Int}{par:dt}{e:ew}{i w:dt}
theorem Gx(g:Good m d){f:dt}{v M:Int}(a:0<=M)(h:∀c∈kd m d r par v,f c<=M):((kd m d r par v).map f).sum<=24*M:=by
 have j:=yR h;have b:=Fz (r:=r) (par:=par) g (v:=v);have:=cQ (show(((kd m d r par v).length:Nat):Int)<=24 by lia) a
 lia
theorem xZ(g:Good m d)(R:ζ m d r par e){v:Int}(c:0<=v)(h:v<m)(f:v≠r):(2<=Ts d par v/\Ts d par v<=1000000)/\2<=UD d par v/\UD d par v<=1000000:=by
 obtain⟨o,n,a,l⟩:=pV g R c h f;obtain⟨p,k,b,j⟩:=sJ g R c h f;unfold Ts UD;rw[n,k];exact⟨⟨a,l⟩,b,j⟩
end
end Pb
namespace L2
open PySem PySem.Spec PyProof.Rows
def Jo(i j:Nat)(b:TA):TS:=λD a H=>b a H λd c=>∃v w,d=[v,w]/\D.nx ((a.set i (some v)).set j (some w)) c
theorem Ou{X:Cx}{k:Pos}{i j:Nat}{x y:Str}{a b:Expr}{B:TA}{n u t:Pos}{kt k2 pt2}(hc:X.calm=true)(hN:X.N.Nodup)(hi:X.N[i]?=some x)(hj:X.N[j]?=some y)(hij:i≠j)(hx:X.env.scope.names.lookup x=some .local)(hy:X.env.scope.names.lookup y=some .local)(ha:PA X [a,b] B)(hw:swappedStores [.Tuple [.Name x n,.Name y u] kt t] (.Tuple [a,b] k2 pt2) X.env=pure (some [x,y]))(hs:swapsWithSole [.Tuple [.Name x n,.Name y u] kt t] (.Tuple [a,b] k2 pt2) k.line X.env=pure false:=by rfl):PS X (.Assign [.Tuple [.Name x n,.Name y u] kt t] (.Tuple [a,b] k2 pt2) k) (Jo i j B):=by
 intro c s l H D I h;rw[exec_Assign_arm];refine aj (cH ?_);rw[hs];refine aj (aM ?_);rw[ah (by decide)];refine aj (Tuple_ (sd (ha _ c s l H _ I h) λP d Q C E L r=>?_));obtain⟨v,w,K,r⟩:=r;subst K;obtain⟨f,g,rfl,M,F⟩:∃f g,P=[f,g]/\RelV v f/\RelV w g:=by
  cases L with
  | cons p q=>
    cases q with
    | cons p' q'=>
      cases q';exact⟨_,_,rfl,p,p'⟩
 refine db ?_ (by show 2<=sizeLine;decide);have J:Inv X c l C { d with heap:=d.heap.push { cls:=.type "tuple",data:=.seq [f,g].toArray } }:=E.kept (t':=d.toks) λb o e=>au _ e;rw[hw];refine aj (aM ?_);show wpAny (model X.prog X.w) X.A (do rule "assign.swapped-stores";let items <-unpackItems (.ref d.heap.objs.size) 2 none;assignInOrder [λv=>bindName X.env y v,λv=>bindName X.env x v] items.reverse;pure Flow.next) _ _ _;refine aj (lS (aj (unpackItems_tuple (items:=#[f,g]) (I.ok.hd hc) (IsTup.new d.heap _) λh' m=>?_)));have G:=J.kept (h':=h') (t':=d.toks) λb o e=>m b o (aU (aI e)) e;show wpAny _ _ (assignInOrder [λv=>bindName X.env y v,λv=>bindName X.env x v] [g,f]>>=λ_=>pure Flow.next) _ _ _;refine aj (assignInOrder_cons (my (tY G hN hj (.inl hy) F (λR O=>?_) (.inr hy))));refine assignInOrder_cons (my (tY O hN hi (.inl hx) M (λS z=>assignInOrder_nil (aM ?_)) (.inr hx)));have e:(l.set j (some w)).set i (some v)=(l.set i (some v)).set j (some w):=List.set_comm _ _ hij.symm;rw[e]at z;exact⟨_,C,z,r⟩
end L2
namespace Pb
open PySem L2
theorem AF{g e:Type}{R:g->e->Prop}:∀{l:List g}{f:List e}{b:e},Paired R l (f++[b])->∃d a,l=d++[a]/\Paired R d f/\R a b
 | _,[],b,.cons (a:=a) h .nil=>⟨[],a,rfl,.nil,h⟩
 | _,c::f,b,.cons (a:=a) h hs=>by
   obtain⟨d,x,rfl,i,j⟩:=AF hs;exact⟨a::d,x,rfl,.cons h i,j⟩
theorem Ox{a:Type}(l:List a)(x:a):Ϲ (l++[x]) (-1)=some x:=by
 unfold Ϲ TF;rw[ah (by decide),ap,aJ,dD,ao (by lia)];show(l++[x])[(-1+((l.length+(0+1):Nat):Int)).toNat]?=some x;rw[show(-1+((l.length+(0+1):Nat):Int)).toNat=l.length by lia,cA (aN _),eW]
 rfl
theorem PB{a b:dm}(l:a.length=b.length)(h:∀i:Nat,a.getD i 0=b.getD i 0):a=b:=by
 refine List.ext_getElem l λi d c=>?_;have:=h i;rw[bD,bD,aB d,aB c]at this;exact this
theorem Nf{m v n:Int}{a:dm}(j:(a.length:Int)=m)(f:0<=v)(g:v<m):mF a ((List.replicate m.toNat (0:Int)).set v.toNat n)=a.set v.toNat (a.getD v.toNat 0+n):=by
 have c:a.length=((List.replicate m.toNat (0:Int)).set v.toNat n).length:=by rw[b7,dy];lia
 refine PB (by rw[Af rfl c.symm,b7]) λi=>?_;rw[DH c];have h:=Kz (m:=m) (d:=n) f g;by_cases e:i=v.toNat
 .subst e;have b:((List.replicate m.toNat (0:Int)).set v.toNat n).getD v.toNat 0=n:=h.1;rw[b,bD (l:=a.set v.toNat (a.getD v.toNat 0+n)),cN (by lia)]
  rfl
 .have b:((List.replicate m.toNat (0:Int)).set v.toNat n).getD i 0=0:=by
   rw[bD,cV (Ne.symm e),<-bD];exact Ey m i
  rw[b,bD (l:=a.set v.toNat (a.getD v.toNat 0+n)),cV (Ne.symm e),<-bD]
  lia
theorem sne{a b:Str}(h:¬a=b):¬V.str a=V.str b:=λz=>h (by injection z)
inductive Dd where
 | put (v n:Int)|want (v n:Int)|back (v n:Int)|step (a b n:Int)
def Dd.wd:Dd->Str
 | .put _ _=>"put" | .want _ _=>"want" | .back _ _=>"back" | .step _ _ _=>"step"
def Dd.ns:Dd->List Int
 | .put v n=>[v,n]|.want v n=>[v,n]|.back v n=>[v,n]|.step a b n=>[a,b,n]
def Dd.Ok(m:Int)(c:hU):Dd->Prop
 | .put v n=>(0<=v/\v<m)/\0<=n|.want v n=>(0<=v/\v<m)/\0<=n|.back _ _=>True|.step a b n=>Ta c a b/\1<=n/\n<=3
theorem OO{D:Dd}(h:∀v n,D≠.back v n):¬V.str D.wd=V.str "back":=by
 cases D with
 | put v n=>exact(sne (by decide +kernel):¬V.str "put"=V.str "back")
 | want v n=>exact(sne (by decide +kernel):¬V.str "want"=V.str "back")
 | back v n=>exact absurd rfl (h v n)
 | step a b n=>exact(sne (by decide +kernel):¬V.str "step"=V.str "back")
theorem Om{m:Int}{c:hU}{b:dm}{s:Ϧ}{i:Nat}(h:RB m c b [s] i):i=0/\kE m c b s=false:=by
 obtain⟨st,a,cb⟩:=h.bad
 match i,a with
 | 0,a=>cases a;exact⟨rfl,cb⟩
 | i+1,a=>cases a
end Pb
namespace Pb
open L2 PySem PySem.W NumText
section
variable{b:Bv}{X:Cx}{x:Str}{p a:Pos}{e:Expr}{c:XK->TE}{T:String}{r:List V->Hp->VK->Prop}
theorem Hk(w:kI X.Ua (.type T) r)(A:Gl X x)(t:X.mg x=none)(m:bootBuiltins x=some (.type T))(o:U2 b X e c)(n:x≠"__name__":=by decide)(hdb:(x==("__debug__":Str))=false:=by decide)(i:starEach [e] X.env=(false,eval e X.env)::starEach [] X.env:=by rfl):U2 b X (.Call (.Name x p) [e] [] a) (λE f H Q=>c E f H λv g=>r [v] g Q):=by
 intro E d s f H Q I h;refine fF (pB I A t m ?_ n hdb);refine cF ?_ i rfl;rw[i];refine dZ (bu (o E d s f H _ I h) (λu j ⟨v,g,k,y,B⟩=>fm ?_) λ_ _ z=>z);exact bu (w d j f g [v] [u] Q (k.wish _) (.cons y .nil) B) (λ_ _ ⟨v,C,l,r,q⟩=>⟨v,C,l.ϒ,r,q⟩) λ_ _ z=>False.elim z
end
def nv(l:List Nat):Nat:=l.foldl (λa c=>a*10+(c-48)) 0
theorem OW(l:List Nat)(d:Nat):nv (l++[d])=nv l*10+(d-48):=by
 unfold nv;rw[jb]
 rfl
structure W6(l:List Nat):Prop where
 YG:1<=l.length
 SA:l.length<=60
 all:∀c∈l,48<=c/\c<=57
 lead:l=[48]\/l.head?≠some 48
theorem Hr:∀(k:Nat)(l:List Nat),l.length=k->l≠[]->(∀c∈l,48<=c/\c<=57)->(l=[48]\/l.head?≠some 48)->fA (nv l)=l/\(l.head?≠some 48->0<nv l)/\nv l<10^l.length
 | 0,l,hk,ne,_,_=>absurd (lA.mp hk) ne
 | k+1,l,hk,ne,al,ld=>by
   obtain⟨i,d,e⟩:=(fV l).resolve_left ne;rw[fS]at e;subst e;have n:=al d (by simp);rw[OW,ap,bM,fJ];by_cases b:i=[]
   .subst b;have z:nv []=0:=rfl;rw[z,Nat.zero_mul,Nat.zero_add];refine⟨?_,λh=>?_,?_⟩
    .rw[oS (by lia),show 48+(d-48)=d by lia]
     rfl
    .have:d≠48:=λz=>h (by rw[z];rfl)
     lia
    .show d-48<1*10
     lia
   .have hh:(i++[d]).head?=i.head?:=by
     cases i with
     | nil=>exact absurd rfl b
     | cons _ _=>rfl
    have a:i.head?≠some 48:=by
     rcases ld with h|h
     .have:=congrArg List.length h;rw[ap]at this;have p:=ik.mpr b;rw[bM,bM]at this
      lia
     .rw[hh]at h;exact h
    obtain⟨j,g,m⟩:=Hr k i (by rw[ap]at hk;simpa using hk) b (λc f=>al c (aK.mpr (.inl f))) (.inr a);have p:=g a;refine⟨?_,λ_=>by lia,by lia⟩;rw[pS (by lia),show(nv i*10+(d-48))/10=nv i by lia,j,show 48+(nv i*10+(d-48))%10=d by lia]
theorem W6.fs{w:Str}(h:W6 w.cps.toList):w=FS (nv w.cps.toList)/\nv w.cps.toList<10^60:=by
 have ne:w.cps.toList≠[]:=λz=>by have:=h.YG;rw[z]at this;simp at this
 obtain⟨b,_,a⟩:=Hr _ _ rfl ne h.all h.lead;exact⟨kg (by rw[nC,b]),bc a (jF (by decide) h.SA)⟩
theorem Br{n:Nat}(h:n<10^60):W6 (FS n).cps.toList:=by
 rw[nC];refine⟨ik.mpr (CN n),oh 59 n h,qV n,?_⟩;by_cases z:n=0
 .subst z;exact .inl rfl
 .obtain⟨c,r,e,hc⟩:=JS n (by lia);refine .inr ?_;rw[e];exact λq=>hc (by injection q)
theorem Qg(n:Nat)(h:n<10^60):nv (FS n).cps.toList=n:=by
 have:=(Br h).fs.1;have e:=congrArg (λs:Str=>digitsVal s.cps.toList) this;simp only[nC,wx]at e;exact e.symm
open Classical in
noncomputable def ϱ(w:Str):Option Nat:=if W6 w.cps.toList then some (nv w.cps.toList)else none
theorem ye{w:Str}{n:Nat}:ϱ w=some n↔n<10^60/\w=FS n:=by
 unfold ϱ
 constructor
 .intro h;split at h
  .next f=>
   injection h with h
   rw[<-h];exact⟨f.fs.2,f.fs.1⟩
  .cases h
 .rintro⟨h,rfl⟩;rw[ao (Br h),Qg n h]
theorem Kk{w:Str}:ϱ w=none↔¬W6 w.cps.toList:=by
 unfold ϱ;split
 .next f=>exact⟨λh=>(by cases h),λh=>absurd f h⟩
 .next f=>exact⟨λ_=>f,λ_=>rfl⟩
theorem Km{c:Nat}:(!(Builtin.Str.occurrences (Str.ofString "0123456789") ⟨#[c]⟩ 0 (Str.ofString "0123456789").length 1).isEmpty)=decide (48<=c/\c<=57):=by
 by_cases h:48<=c/\c<=57
 .rw[Qf h,bB h]
 .rw[StrLaws.found_one,bP h,eg];intro m;have l:(Str.ofString "0123456789").cps.toList=[48,49,50,51,52,53,54,55,56,57]:=by decide +kernel
  rw[l]at m;simp at m
  (omega)
def XG(w:Str):Prop:=(w.cps.all λx=>decide (x<128))=true/\w.length<=60000
def Le(z:Str):List Str:=Txt.split z (Str.ofString " ")
end Pb
namespace L2
open PySem PySem.Spec PyProof.Rows
def adh:V->Option Int->Option Int->Hp->VK->Prop:=λx lo a H Q=>∃z,x=.str z/\z.length<=sizeLine/\Q (.str (Txt.slice z lo a)) H
theorem P8{X:Cx}:SlR X adh:=by
 intro b s n H x v C B lo p A Q I y r w g h;obtain⟨z,rfl,f,q⟩:=h;obtain⟨t,rfl⟩:=y;refine⟨"str",_,PySem.F.slot_str_getitem.lookup,typeIs_str _ _ _,?_⟩;have a:∀m k,EP X b n Q (.str (Txt.slice z lo p) m) { s with toks:=k }:=λm k=>⟨.str _,H,I.tok _,⟨_,rfl⟩,q⟩;obtain⟨o,d,c,e⟩:=r;cases w with
 | none=>
   cases g with
   | none=>exact gB (l:=none) (u:=none) (st:=none) ⟨o,d,c,e⟩ rfl (post_val_or_str ⟨aR (Txt.slice_le z _ _) f,a⟩)
   | int j uj=>exact gB (l:=none) (u:=some (j,uj)) (st:=none) ⟨o,d,c,e⟩ rfl (post_val_or_str ⟨aR (Txt.slice_le z _ _) f,a⟩)
 | int i ui=>
   cases g with
   | none=>exact gB (l:=some (i,ui)) (u:=none) (st:=none) ⟨o,d,c,e⟩ rfl (post_val_or_str ⟨aR (Txt.slice_le z _ _) f,a⟩)
   | int j uj=>exact gB (l:=some (i,ui)) (u:=some (j,uj)) (st:=none) ⟨o,d,c,e⟩ rfl (post_val_or_str ⟨aR (Txt.slice_le z _ _) f,a⟩)
end L2
namespace Pb
open L2 PySem PySem.W NumText
theorem Kx{z:Str}{l u:Option Int}:∀c∈(Txt.slice z l u).cps.toList,c∈z.cps.toList:=λc a=>by
 unfold Txt.slice at a;split at a
 .exact a
 .simp only[j5]at a;obtain⟨i,_,b⟩:=a;exact aO (by rw[iq];exact b)
theorem Du{s:List Nat}:∀{l:List (List Nat)}{x:List Nat},x∈l->(∀c∈x,c∈fK s l)/\x.length<=(fK s l).length
 | [],x,h=>by cases h
 | [y],x,h=>by rw[ax.mp h];exact⟨λ_ z=>z,aN _⟩
 | y::y'::r,x,h=>by
   have e:fK s (y::y'::r)=y++s++fK s (y'::r):=rfl;rw[e];rcases aG.mp h with rfl|h
   .exact⟨λc a=>aK.mpr (.inl (aK.mpr (.inl a))),by rw[ap,ap];lia⟩
   .obtain⟨h1,h2⟩:=Du (s:=s) h;exact⟨λc a=>aK.mpr (.inr (h1 c a)),by rw[ap];lia⟩
theorem Dg{s:List Nat}(a:1<=s.length):∀l:List (List Nat),l.length<=(fK s l).length+1
 | []=>bT _
 | [y]=>by rw[bM];lia
 | y::y'::r=>by
   have e:fK s (y::y'::r)=y++s++fK s (y'::r):=rfl;have:=Dg a (y'::r);rw[e,ap,ap,aJ]
   lia
theorem wD(z y:Str):fK y.cps.toList ((Txt.split z y).map (·.cps.toList))=z.cps.toList:=by
 have e:=congrArg (λs:Str=>s.cps.toList) (StrLaws.join_split z y);simp only[iw]at e;exact e
theorem K5{z y p:Str}(h:p∈Txt.split z y):(∀c∈p.cps.toList,c∈z.cps.toList)/\p.length<=z.length:=by
 obtain⟨b,a⟩:=Du (s:=y.cps.toList) (aW.mpr ⟨p,h,rfl⟩:p.cps.toList∈(Txt.split z y).map (·.cps.toList));rw[wD]at b a;exact⟨b,by rw[eL,eL];exact a⟩
theorem Li{z y:Str}(a:1<=y.length):(Txt.split z y).length<=z.length+1:=by
 have:=Dg (s:=y.cps.toList) (by rw[<-eL];exact a) ((Txt.split z y).map (·.cps.toList));rw[wD,ag,<-eL]at this;exact this
theorem ME(z y:Str):Txt.split z y≠[]:=λe=>by
 have n:=lQ z y;rw[e]at n;simp at n
def Pl(z:Str):Prop:=∀c∈z.cps.toList,c<128/\c≠10
theorem Pl.wok{z:Str}(h:Pl z)(l:z.length<=60000):XG z:=by
 refine⟨?_,l⟩;rw[ji];intro x a;rw[b8];exact(h x (by simpa using a)).1
theorem Pl.sub{z w:Str}(h:Pl z)(b:∀c∈w.cps.toList,c∈z.cps.toList):Pl w:=λc a=>h c (b c a)
theorem Pl.app{a b:Str}(h:Pl a)(g:Pl b):Pl (a++b):=λc d=>by
 rw[app_list]at d;exact(aK.mp d).elim (h c) (g c)
theorem Pl.join{s:Str}{l:hO}(b:Pl s)(e:∀w∈l,Pl w):Pl (Str.join s l):=λc a=>by
 rw[iw]at a;rcases DV a with a|⟨x,d,a⟩
 .exact b c a
 .obtain⟨w,hw,rfl⟩:=aW.mp d;exact e w hw c a
theorem Pl.fs(n:Nat):Pl (FS n):=λc a=>by
 have:=qV n c a
 lia
theorem Pl.row{z:Str}(h:Pl z):10∉z.cps.toList:=λe=>(h 10 e).2 rfl
structure Rw(z:Str):Prop where
 pl:Pl z
 len:z.length<=1900
theorem Rw.Le{z:Str}(h:Rw z):z.length<=60000/\(Le z).length<=2000/\∀w∈Le z,XG w:=by
 have:=h.len;have c:(Pb.Le z).length<=z.length+1:=Li (y:=Str.ofString " ") (by decide);refine⟨by lia,by lia,λw a=>?_⟩;have s:=K5 a;exact(h.pl.sub s.1).wok (by lia)
theorem DQ{s:List Nat}{B:List (List Nat)}(c:B≠[]):∀{A:List (List Nat)},A≠[]->fK s (A++B)=fK s A++s++fK s B
 | [],h=>absurd rfl h
 | [a],_=>by
   cases B with
   | nil=>exact absurd rfl c
   | cons b B=>rfl
 | a::a'::r,_=>by
   have:=DQ (s:=s) c (A:=a'::r) (by simp);show a++s++fK s ((a'::r)++B)=a++s++fK s (a'::r)++s++fK s B;rw[this];simp only[b4]
theorem CW:∀{b:hO}{a:List Nat},b.map ϱ=a.map some->b=a.map FS/\∀n∈a,n<10^60
 | [],[],_=>⟨rfl,λ_ h=>by cases h⟩
 | [],_::_,e=>by cases e
 | _::_,[],e=>by cases e
 | w::b,n::a,e=>by
   obtain⟨i,c⟩:=ck e;obtain⟨j,f⟩:=CW c;obtain⟨g,d⟩:=ye.mp i;exact⟨by rw[bh,d,j],λx hx=>by
    rcases aG.mp hx with rfl|hx
    .exact g
    .exact f x hx⟩
theorem HY{a:List Nat}(h:∀n∈a,n<10^60):(a.map FS).map ϱ=a.map some:=by
 rw[dN];exact dG λn b=>ye.mpr ⟨h n b,rfl⟩
def VZ(m n:Nat)(a:hO):Prop:=a.length<=n/\∀w∈a,Pl w/\w.length<=m
theorem rR{m:Nat}:∀{ws:hO},(∀w∈ws,w.length<=m)->(ws.map (·.length)).sum<=m*ws.length
 | [],_=>by simp
 | w::ws,h=>by
   have c:=h w (.head _);have b:=rR (ws:=ws) λx a=>h x (.tail _ a);rw[bh,dE,aJ,Nat.mul_succ]
   lia
theorem sS{m:Nat}{z:Str}{ws:hO}(h:∀w∈ws,w.length<=m):(Str.join z ws).length<=(m+z.length)*ws.length:=by
 rw[eL,iw];have:=uC (s:=z.cps.toList) (m:=m) (l:=ws.map (·.cps.toList)) λx a=>by
  obtain⟨w,b,rfl⟩:=aW.mp a;rw[<-eL];exact h w b
 rw[ag,<-eL]at this;exact this
theorem zS:∀{a b:List Nat},a.map some=b.map some->a=b
 | [],[],_=>rfl
 | [],_::_,e=>by cases e
 | _::_,[],e=>by cases e
 | x::a,y::b,e=>by
   obtain⟨d,c⟩:=ck e;rw[bC d,zS c]
def aT(c:Str)(n:Nat)(y:Str)(b:List Nat):Prop:=∃a,Le y=c::a/\a.map ϱ=b.map some/\b.length=n
theorem aT.uniq{d:Str}{n:Nat}{y:Str}{b a:List Nat}(h:aT d n y b)(i:aT d n y a):b=a:=by
 obtain⟨j,e,m,_⟩:=h;obtain⟨f,c,g,_⟩:=i;rw[e]at c;obtain⟨_,rfl⟩:=ck c;exact zS (m.symm.trans g)
def QZ(m:Nat):Nat:=if 1<=m/\m<=24 then m else 1
theorem C4(m:Nat):1<=QZ m/\QZ m<=24:=by
 unfold QZ;split<;>lia
structure Ue(Y:hO)(m:Nat)(nss:List (List Nat)):Prop where
 one:∃y,Y[0]?=some y/\aT Τ 1 y [m]
 len:nss.length+1<=QZ m
 row:∀(i:Nat)(ns:List Nat),nss[i]?=some ns->∃y,Y[i+1]?=some y/\aT Ε 4 y ns
def Cq(Y:hO)(m:Nat)(a:List (List Nat)):Prop:=Ue Y m a/\a.length+1=QZ m/\Y.length=QZ m
def ϗ(a:List Nat):Road:=⟨(a.getD 0 0:Nat),(a.getD 1 0:Nat),(a.getD 2 0:Nat),(a.getD 3 0:Nat)⟩
theorem Pi{e:List Nat}(h:e.length=4):nQ (ϗ e)=TQ e:=by
 match e,h with
 | [a,b,c,d],_=>rfl
inductive Dv
 | bad (n:Nat)
 | web
 | ok (m:Nat) (rs:hU)
def Due(Y:hO):Dv->Prop
 | .bad n=>(n=1/\∀y,Y[0]?=some y->¬∃b,aT Τ 1 y b)\/(∃m a,Ue Y m a/\a.length+1<QZ m/\(∀y,Y[a.length+1]?=some y->¬∃b,aT Ε 4 y b)/\n=a.length+2)\/(∃m a,Ue Y m a/\a.length+1=QZ m/\QZ m<Y.length/\n=QZ m+1)
 | .web=>∃m a,Cq Y m a/\¬Good m (a.map ϗ)
 | .ok m rs=>∃a,Cq Y m a/\rs=a.map ϗ/\Good m rs
theorem Ue.YH{Y:hO}{m:Nat}{a:List (List Nat)}(h:Ue Y m a):a.length+1<=Y.length:=by
 cases e:a.length with
 | zero=>
   obtain⟨y,c,_⟩:=h.one;have:=(ay.mp c).1
   lia
 | succ n=>
   obtain⟨b,d⟩:∃b,a[n]?=some b:=⟨_,aB (by lia)⟩;obtain⟨y,c,_⟩:=h.row n b d;have:=(ay.mp c).1
   lia
theorem Ue.snoc{Y:hO}{m:Nat}{a:List (List Nat)}{y:Str}{d:List Nat}(h:Ue Y m a)(l:a.length+1<QZ m)(f:Y[a.length+1]?=some y)(r:aT Ε 4 y d):Ue Y m (a++[d]):=by
 refine⟨h.one,by rw[ap];exact l,λi e b=>?_⟩;by_cases c:i<a.length
 .rw[cD c]at b;exact h.row i e b
 .rw[cA (by lia)]at b;have g:i-a.length<1:=(ay.mp b).1;rw[show i-a.length=0 by lia]at b;cases b;rw[show i=a.length by lia];exact⟨y,f,r⟩
theorem Ue.ns4{Y:hO}{m:Nat}{a:List (List Nat)}(h:Ue Y m a):∀b∈a,b.length=4/\∀n∈b,n<10^60:=λb c=>by
 obtain⟨i,d⟩:=cq c;obtain⟨y,_,f,_,e,l⟩:=h.row i b d;exact⟨l,(CW e).2⟩
theorem Kd{Y:hO}(q:Y≠[]):∃j,Due Y j:=by
 obtain⟨n,o⟩:∃y,Y[0]?=some y:=⟨_,aB (ik.mpr q)⟩;by_cases h:∃b,aT Τ 1 n b
 .obtain⟨b,hn⟩:=h;obtain⟨m,rfl⟩:∃m,b=[m]:=by
   obtain⟨_,_,_,l⟩:=hn
   match b,l with
   | [m],_=>exact⟨m,rfl⟩
  have f:∀k,k+1<=QZ m->(∃j,Due Y j)\/∃a,Ue Y m a/\a.length=k:=by
   intro k
   induction k with
   | zero=>exact λ_=>.inr ⟨[],⟨⟨n,o,hn⟩,(C4 m).1,λi b p=>by simp at p⟩,rfl⟩
   | succ k ih=>
     intro t;rcases ih (by lia)with d|⟨a,l,ln⟩
     .exact .inl d
     .by_cases g:∃y b,Y[a.length+1]?=some y/\aT Ε 4 y b
      .obtain⟨y,b,e,r⟩:=g;exact .inr ⟨a++[b],l.snoc (by lia) e r,by rw[ap,ln];rfl⟩
      .exact .inl ⟨.bad (a.length+2),.inr (.inl ⟨m,a,l,by lia,λy e ⟨b,r⟩=>g ⟨y,b,e,r⟩,rfl⟩)⟩
  have s:=(C4 m).1;rcases f (QZ m-1) (by lia)with d|⟨a,l,ln⟩
  .exact d
  .have ly:=l.YH;by_cases c:Y.length=QZ m
   .have fu:Cq Y m a:=⟨l,by lia,c⟩;by_cases g:Good m (a.map ϗ)
    .exact⟨.ok m _,a,fu,rfl,g⟩
    .exact⟨.web,m,a,fu,g⟩
   .exact⟨.bad (QZ m+1),.inr (.inr ⟨m,a,l,by lia,by lia,rfl⟩)⟩
 .exact⟨.bad 1,.inl ⟨rfl,λy e=>by rw[o]at e;cases e;exact h⟩⟩
theorem Gj{h:Str}(a:TR h){ns:List Nat}(b:∀n∈ns,n<10^60):aT h ns.length (ό h ns) ns:=⟨ns.map FS,kW a ns,HY b,rfl⟩
theorem xJ{m:Int}{r:Road}(h:Ϡ m r):ϗ (iJ r)=r:=by
 obtain⟨a,b,t,u⟩:=r;have c:=h.a0;have d:=h.b0;have e:=h.t0;have f:=h.u0;show(⟨(a.toNat:Int),(b.toNat:Int),(t.toNat:Int),(u.toNat:Int)⟩:Road)=⟨a,b,t,u⟩;rw[bJ c,bJ d,bJ (iz (by decide) e),bJ (iz (by decide) f)]
theorem KW{m:Int}{a:hU}(g:Good m a):Due (bW m a) (.ok m.toNat a):=by
 have m1:=g.m1;have ω:=g.ω;have j:=g.len;have c:QZ m.toNat=m.toNat:=by
  unfold QZ;rw[ao (by lia)]
 have d:((m.toNat:Nat):Int)=m:=bJ (by lia);have e:a=(a.map iJ).map ϗ:=by
  rw[dN];have:a.map (ϗ ∘ iJ)=a.map id:=dG λr b=>xJ (g.ok r b);rw[this,List.map_id]
 refine⟨a.map iJ,⟨⟨⟨_,rfl,?_⟩,by rw[ag,c];lia,λi ns h=>?_⟩,by rw[ag,c];lia,?_⟩,e,by rw[d];exact g⟩
 .exact Gj yS (ns:=[m.toNat]) λn f=>by
   rw[ax.mp f];exact iH (show m.toNat<=24 by lia) (by decide)
 .obtain⟨r,b,rfl⟩:=List.ν h;refine⟨oG r,?_,Gj rj (ns:=iJ r) (Cf (g.ok r (aO b)) ω).2⟩;show(a.map oG)[i]?=_;rw[aQ,b]
  rfl
 .have:=iY g
  lia
theorem vI{h:Str}(b:Pl h)(a:List Nat):Pl (ό h a):=Pl.join (by unfold Pl;decide +kernel) λw hw=>by
 rcases aG.mp hw with rfl|hw
 .exact b
 .obtain⟨n,_,rfl⟩:=aW.mp hw;exact Pl.fs n
theorem wj{m:Int}{a:hU}:∀y∈bW m a,Pl y:=λy hy=>by
 rcases aG.mp hy with rfl|hy
 .exact vI (by unfold Pl;decide +kernel) _
 .obtain⟨r,_,rfl⟩:=aW.mp hy;exact vI (by unfold Pl;decide +kernel) _
theorem C6{m:Int}{b:hU}(g:Good m b):VZ 305 24 (bW m b):=⟨by have:=iY g;have:=g.ω;lia,λy a=>⟨wj y a,ut g y a⟩⟩
theorem VZ.rw{m n:Nat}{a:hO}(h:VZ m n a)(c:m<=1900):∀y∈a,Rw y:=λy b=>⟨(h.2 y b).1,aR (h.2 y b).2 c⟩
theorem VZ.text{m n:Nat}{a:hO}(h:VZ m n a)(d:m<=1900)(j:n<=30)(ne:a≠[]):Txt.split (Str.join (Str.ofString "\n") a) (Str.ofString "\n")=a/\(Str.join (Str.ofString "\n") a).length<=60000/\(a.map (·.length)).sum+a.length*(Str.ofString "\n").length<=16777216:=by
 have b:∀w∈a,w.length<=1900:=λw g=>aR (h.2 w g).2 d;have e:=sS (z:=Str.ofString "\n") b;have i:=rR b;have nl:=h.1;rw[show(Str.ofString "\n").length=1 from rfl]at e ⊢;exact⟨sB (c:=10) ne λy f=>(h.2 y f).1.row,by lia,by lia⟩
def ch:Nat->Nat->Nat
 | _,0=>1
 | 0,_+1=>0
 | n+1,k+1=>ch n k+ch n (k+1)
theorem lT{l:gy}(h:l.Nodup)(i j:Nat){a b:Addr}(c:l[i]?=some a:=by rfl)(e:l[j]?=some b:=by rfl)(d:i≠j:=by decide):a≠b:=PL h i j c e d
section
variable{X:Cx}{x:Str}{p a l:Pos}{e:Expr}{d:List Expr}{u:TE}{t:TA}{z:XK->TE}
theorem δ(i:Nat)(n:Sw X.env.scope x:=by exact .of (by kernel_rfl))(b:X.N[i]?=some x:=by rfl):PE X (.Name x a) (xp i):=pvl i n b
theorem Sh(i:Nat)(n:Uu X.env.scope x:=by exact .of (by kernel_rfl))(b:X.N[i]?=some x:=by rfl):PE X (.Name x a) (xp i):=pvc i n b
theorem ϧ(i:Nat)(c:X.N.Nodup:=by exact bn (by kernel_rfl))(f:X.N[i]?=some x:=by rfl)(b:X.env.scope.names.lookup x=some .local:=by kernel_rfl):PG X (.Name x a) (uc i):=fq c f (.inl b) (.inr b)
theorem Ζ(i:Nat)(g:PE X e u)(f:X.N.Nodup:=by exact bn (by kernel_rfl))(h:X.N[i]?=some x:=by rfl)(b:X.env.scope.names.lookup x=some .local:=by kernel_rfl)(c:swapsWith e (some (.Name x l)) a.line X.env=pure false:=by rfl):PS X (.Assign [.Name x l] e a) (Ar u (uc i)):=vD f h (.inl b) g c (.inr b)
theorem pxs{s:Bv}(i:Nat)(k:U2 s X e z)(h:X.N.Nodup:=by exact bn (by kernel_rfl))(m:X.N[i]?=some x:=by rfl)(c:X.env.scope.names.lookup x=some .local:=by kernel_rfl)(f:swapsWith e (some (.Name x l)) a.line X.env=pure false:=by rfl):ZJ s X (.Assign [.Name x l] e a) (λj D b H=>z (j b) b H λy g=>D.nx (b.set i (some y)) g):=OF h m (.inl c) k f (.inr c)
theorem pgl{C:Addr}(f:X.mg x=some (.ref C))(b:X.env.scope.names.lookup x=some .globalImplicit:=by kernel_rfl)(c:(x==("__debug__":Str))=false:=by kernel_rfl):PE X (.Name x a) (tC (.ref C)):=CK b f rfl c
variable{s:Bv}{k j:Nat}{f:Addr}{fd:FuncData}{h:hO}{g:Sp}{o:Stmt}
theorem pcq(D:Df X.K X.mg x o h f fd)(F:ϋ X.prog X.w X.K X.mg X.base s k f fd h g)(r:Ρ j X.A)(q:bO s)(c:PA X (e::d) t)(v:k<=j:=by decide)(i:X.env.scope.names.lookup x=some .globalImplicit:=by kernel_rfl)(hdb:(x==("__debug__":Str))=false:=by kernel_rfl)(n:starEach (e::d) X.env=(false,eval e X.env)::starEach d X.env:=by rfl)(y:(backTo a (starEach d X.env)).any (·.1)=false:=by rfl):PE X (.Call (.Name x p) (e::d) [] a) (rC g [] E0 t):=iW F (r.mono v) i D.m D.F.kp D.b .nil (gF q) c hdb n y
theorem pcx{E:XK}(D:Df X.K X.mg x o h f fd)(F:ϋ X.prog X.w X.K X.mg X.base s k f fd h g)(v:Ρ j X.A)(n:pf s X E)(i:PA X (e::d) t)(y:k<=j:=by decide)(q:X.env.scope.names.lookup x=some .globalImplicit:=by kernel_rfl)(c:(x==("__debug__":Str))=false:=by kernel_rfl)(r:starEach (e::d) X.env=(false,eval e X.env)::starEach d X.env:=by rfl)(B:(backTo a (starEach d X.env)).any (·.1)=false:=by rfl):PE X (.Call (.Name x p) (e::d) [] a) (rC g [] E t):=iW F (v.mono y) q D.m D.F.kp D.b .nil n i c r B
theorem pxc(D:Df X.K X.mg x o h f fd)(F:ϋ X.prog X.w X.K X.mg X.base s k f fd h g)(r:Ρ j X.A)(i:PA X.Ua (e::d) t)(v:k<=j:=by decide)(n:X.env.scope.names.lookup x=some .globalImplicit:=by kernel_rfl)(c:(x==("__debug__":Str))=false:=by kernel_rfl)(q:starEach (e::d) X.env=(false,eval e X.env)::starEach d X.env:=by rfl)(y:(backTo a (starEach d X.env)).any (·.1)=false:=by rfl):U2 s X (.Call (.Name x p) (e::d) [] a) (λE=>rC g [] E t):=Ai F (r.mono v) n D.m D.F.kp D.b .nil i c q y
structure Cb(P:Program)(w:World)(K:fv)(mg:hL)(base:Heap)(x:Str)(o:Stmt)(h:hO)(k:Nat)(g:Sp) where
 f:Addr
 fd:FuncData
 D:Df K mg x o h f fd
 G:ϋ P w K mg base (ψ P w) k f fd h g
def cb{P:Program}{w:World}{K:fv}{c:hL}{b:Heap}(D:Df K c x o h f fd)(G:ϋ P w K c b (ψ P w) k f fd h g):Cb P w K c b x o h k g:=⟨f,fd,D,G⟩
theorem ϛ(c:Cb X.prog X.w X.K X.mg X.base x o h k g)(n:Ρ j X.A)(q:bO (ψ X.prog X.w))(b:PA X (e::d) t)(r:k<=j:=by decide)(i:X.env.scope.names.lookup x=some .globalImplicit:=by kernel_rfl)(hdb:(x==("__debug__":Str))=false:=by kernel_rfl)(m:starEach (e::d) X.env=(false,eval e X.env)::starEach d X.env:=by rfl)(v:(backTo a (starEach d X.env)).any (·.1)=false:=by rfl):PE X (.Call (.Name x p) (e::d) [] a) (rC g [] E0 t):=pcq c.D c.G n q b r i hdb m v
theorem Λ{E:XK}(c:Cb X.prog X.w X.K X.mg X.base x o h k g)(q:Ρ j X.A)(i:pf (ψ X.prog X.w) X E)(b:PA X (e::d) t)(r:k<=j:=by decide)(m:X.env.scope.names.lookup x=some .globalImplicit:=by kernel_rfl)(hdb:(x==("__debug__":Str))=false:=by kernel_rfl)(n:starEach (e::d) X.env=(false,eval e X.env)::starEach d X.env:=by rfl)(v:(backTo a (starEach d X.env)).any (·.1)=false:=by rfl):PE X (.Call (.Name x p) (e::d) [] a) (rC g [] E t):=pcx c.D c.G q i b r m hdb n v
theorem pyb(c:Cb X.prog X.w X.K X.mg X.base x o h k g)(n:Ρ j X.A)(b:PA X.Ua (e::d) t)(q:k<=j:=by decide)(i:X.env.scope.names.lookup x=some .globalImplicit:=by kernel_rfl)(hdb:(x==("__debug__":Str))=false:=by kernel_rfl)(m:starEach (e::d) X.env=(false,eval e X.env)::starEach d X.env:=by rfl)(r:(backTo a (starEach d X.env)).any (·.1)=false:=by rfl):U2 (ψ X.prog X.w) X (.Call (.Name x p) (e::d) [] a) (λE=>rC g [] E t):=pxc c.D c.G n b q i hdb m r
variable{v T:String}{r:List V->Hp->VK->Prop}
theorem Q4(c:kI X (.builtin v) r)(n:X.mg x=none)(b:PA X (e::d) t)(m:bootBuiltins x=some (.builtin v):=by kernel_rfl)(i:X.env.scope.names.lookup x=some .globalImplicit:=by kernel_rfl)(hn:decide (x="__name__")=false:=by kernel_rfl)(hdb:(x==("__debug__":Str))=false:=by kernel_rfl)(q:starEach (e::d) X.env=(false,eval e X.env)::starEach d X.env:=by rfl)(w:(backTo a (starEach d X.env)).any (·.1)=false:=by rfl):PE X (.Call (.Name x p) (e::d) [] a) (Xy r t):=LY c i n m b (of_decide_eq_false hn) hdb q w
theorem RF(c:kI X (.type T) r)(n:X.mg x=none)(b:PA X (e::d) t)(m:bootBuiltins x=some (.type T):=by kernel_rfl)(i:X.env.scope.names.lookup x=some .globalImplicit:=by kernel_rfl)(hn:decide (x="__name__")=false:=by kernel_rfl)(hdb:(x==("__debug__":Str))=false:=by kernel_rfl)(q:starEach (e::d) X.env=(false,eval e X.env)::starEach d X.env:=by rfl)(w:(backTo a (starEach d X.env)).any (·.1)=false:=by rfl):PE X (.Call (.Name x p) (e::d) [] a) (Xy r t):=uh c i n m b (of_decide_eq_false hn) hdb q w
end
inductive E3{A0 A1 A2:Type}(p:A0->A1->A2->Prop):Prop
 | mk (a0:A0) (a1:A1) (a2:A2) (h:p a0 a1 a2):E3 p
inductive E4{A0 A1 A2 A3:Type}(p:A0->A1->A2->A3->Prop):Prop
 | mk (a0:A0) (a1:A1) (a2:A2) (a3:A3) (h:p a0 a1 a2 a3):E4 p
inductive E5{A0 A1 A2 A3 A4:Type}(p:A0->A1->A2->A3->A4->Prop):Prop
 | mk (a0:A0) (a1:A1) (a2:A2) (a3:A3) (a4:A4) (h:p a0 a1 a2 a3 a4):E5 p
inductive E6{A0 A1 A2 A3 A4 A5:Type}(p:A0->A1->A2->A3->A4->A5->Prop):Prop
 | mk (a0:A0) (a1:A1) (a2:A2) (a3:A3) (a4:A4) (a5:A5) (h:p a0 a1 a2 a3 a4 a5):E6 p
inductive E7{A0 A1 A2 A3 A4 A5 A6:Type}(p:A0->A1->A2->A3->A4->A5->A6->Prop):Prop
 | mk (a0:A0) (a1:A1) (a2:A2) (a3:A3) (a4:A4) (a5:A5) (a6:A6) (h:p a0 a1 a2 a3 a4 a5 a6):E7 p
inductive E8{A0 A1 A2 A3 A4 A5 A6 A7:Type}(p:A0->A1->A2->A3->A4->A5->A6->A7->Prop):Prop
 | mk (a0:A0) (a1:A1) (a2:A2) (a3:A3) (a4:A4) (a5:A5) (a6:A6) (a7:A7) (h:p a0 a1 a2 a3 a4 a5 a6 a7):E8 p
inductive E9{A0 A1 A2 A3 A4 A5 A6 A7 A8:Type}(p:A0->A1->A2->A3->A4->A5->A6->A7->A8->Prop):Prop
 | mk (a0:A0) (a1:A1) (a2:A2) (a3:A3) (a4:A4) (a5:A5) (a6:A6) (a7:A7) (a8:A8) (h:p a0 a1 a2 a3 a4 a5 a6 a7 a8):E9 p
inductive ZP{A0 A1 A2 A3 A4 A5 A6 A7 A8 A9:Type}(p:A0->A1->A2->A3->A4->A5->A6->A7->A8->A9->Prop):Prop
 | mk (a0:A0) (a1:A1) (a2:A2) (a3:A3) (a4:A4) (a5:A5) (a6:A6) (a7:A7) (a8:A8) (a9:A9) (h:p a0 a1 a2 a3 a4 a5 a6 a7 a8 a9):ZP p
inductive W7{A0 A1 A2 A3 A4 A5 A6 A7 A8 A9 RQ:Type}(p:A0->A1->A2->A3->A4->A5->A6->A7->A8->A9->RQ->Prop):Prop
 | mk (a0:A0) (a1:A1) (a2:A2) (a3:A3) (a4:A4) (a5:A5) (a6:A6) (a7:A7) (a8:A8) (a9:A9) (TV:RQ) (h:p a0 a1 a2 a3 a4 a5 a6 a7 a8 a9 TV):W7 p
inductive V0{A0 A1 A2 A3 A4 A5 A6 A7 A8 A9 RQ SD:Type}(p:A0->A1->A2->A3->A4->A5->A6->A7->A8->A9->RQ->SD->Prop):Prop
 | mk (a0:A0) (a1:A1) (a2:A2) (a3:A3) (a4:A4) (a5:A5) (a6:A6) (a7:A7) (a8:A8) (a9:A9) (TV:RQ) (UE:SD) (h:p a0 a1 a2 a3 a4 a5 a6 a7 a8 a9 TV UE):V0 p
inductive E13{A0 A1 A2 A3 A4 A5 A6 A7 A8 A9 RQ SD Tt:Type}(p:A0->A1->A2->A3->A4->A5->A6->A7->A8->A9->RQ->SD->Tt->Prop):Prop
 | mk (a0:A0) (a1:A1) (a2:A2) (a3:A3) (a4:A4) (a5:A5) (a6:A6) (a7:A7) (a8:A8) (a9:A9) (TV:RQ) (UE:SD) (VA:Tt) (h:p a0 a1 a2 a3 a4 a5 a6 a7 a8 a9 TV UE VA):E13 p
inductive ZQ{A0 A1 A2 A3 A4 A5 A6 A7 A8 A9 RQ SD Tt UG:Type}(p:A0->A1->A2->A3->A4->A5->A6->A7->A8->A9->RQ->SD->Tt->UG->Prop):Prop
 | mk (a0:A0) (a1:A1) (a2:A2) (a3:A3) (a4:A4) (a5:A5) (a6:A6) (a7:A7) (a8:A8) (a9:A9) (TV:RQ) (UE:SD) (VA:Tt) (W8:UG) (h:p a0 a1 a2 a3 a4 a5 a6 a7 a8 a9 TV UE VA W8):ZQ p
inductive E17{A0 A1 A2 A3 A4 A5 A6 A7 A8 A9 RQ SD Tt UG V1 V2 V3:Type}(p:A0->A1->A2->A3->A4->A5->A6->A7->A8->A9->RQ->SD->Tt->UG->V1->V2->V3->Prop):Prop
 | mk (a0:A0) (a1:A1) (a2:A2) (a3:A3) (a4:A4) (a5:A5) (a6:A6) (a7:A7) (a8:A8) (a9:A9) (TV:RQ) (UE:SD) (VA:Tt) (W8:UG) (YJ:V1) (YK:V2) (YL:V3) (h:p a0 a1 a2 a3 a4 a5 a6 a7 a8 a9 TV UE VA W8 YJ YK YL):E17 p
inductive E18{A0 A1 A2 A3 A4 A5 A6 A7 A8 A9 RQ SD Tt UG V1 V2 V3 YM:Type}(p:A0->A1->A2->A3->A4->A5->A6->A7->A8->A9->RQ->SD->Tt->UG->V1->V2->V3->YM->Prop):Prop
 | mk (a0:A0) (a1:A1) (a2:A2) (a3:A3) (a4:A4) (a5:A5) (a6:A6) (a7:A7) (a8:A8) (a9:A9) (TV:RQ) (UE:SD) (VA:Tt) (W8:UG) (YJ:V1) (YK:V2) (YL:V3) (a17:YM) (h:p a0 a1 a2 a3 a4 a5 a6 a7 a8 a9 TV UE VA W8 YJ YK YL a17):E18 p
inductive E19{A0 A1 A2 A3 A4 A5 A6 A7 A8 A9 RQ SD Tt UG V1 V2 V3 YM A18:Type}(p:A0->A1->A2->A3->A4->A5->A6->A7->A8->A9->RQ->SD->Tt->UG->V1->V2->V3->YM->A18->Prop):Prop
 | mk (a0:A0) (a1:A1) (a2:A2) (a3:A3) (a4:A4) (a5:A5) (a6:A6) (a7:A7) (a8:A8) (a9:A9) (TV:RQ) (UE:SD) (VA:Tt) (W8:UG) (YJ:V1) (YK:V2) (YL:V3) (a17:YM) (a18:A18) (h:p a0 a1 a2 a3 a4 a5 a6 a7 a8 a9 TV UE VA W8 YJ YK YL a17 a18):E19 p
def clK(e:hO)(b:Nat)(c:List Nat)(N:hO)(a d:Scope):Bool:=(a.names.all λy=>decide (y.2≠.cell))&&decide (a.kind=.function)&&(a.names.all λy=>decide (y.2=.local->a.names.lookup y.1=some .local))&&decide (e.length=b+c.length)&&(a.names.all λy=>decide (y.2=.free->d.names.lookup y.1=some .cell))&&decide (d.kind=.function)&&(List.range c.length).all λi=>match e[b+i]?,c[i]? with
 | some x,some j=>decide (N[j]?=some x)&&decide (a.names.lookup x=some .free)
 | _,_=>false
theorem U4{X:Cx}{scope:Scope}(d:hO)(a:Nat)(b:List Nat)(h:clK d a b X.N scope X.env.scope=true:=by kernel_rfl)(o:∀x,X.env.scope.names.lookup x=some .cell->∃c,X.env.cells.lookup x=some c:=by exact λ_ h=>zK h):Ϛ X d a b scope (tR X.env.cells scope.names []):=by
 unfold clK at h;simp only[bw,b8,cw,eD]at h;obtain⟨⟨⟨⟨⟨⟨f,e⟩,k⟩,l⟩,g⟩,m⟩,p⟩:=h;refine OD a b f e k l g m o λi n=>?_;have q:=p i n;split at q
 .rename_i x j e1 e2
  simp only[bw,b8]at q;exact⟨x,j,e1,e2,q.1,q.2⟩
 .cases q
abbrev Ok(P:Program)(w:World)(K:fv)(c:hL)(a:Heap)(x:Str)(st:Stmt)(d:hO)(k:Nat)(e:Sp):Prop:=∀(f:Addr)(b:FuncData),Df K c x st d f b->ϋ P w K c a (ψ P w) k f b d e
section
variable{X:Cx}{a b:Expr}{d e:TE}{c:Pos}
theorem Η{r:R2}(h:Vl X r)(g:PE X a d)(i:PE X b e)(f:Hv b:=by exact λ_ _=>rfl):PE X (.Subscript a b c) (Vh r d e):=oJ h g i f
theorem Μ{f:CmpOp}{r:R2}(j:oR X (compareOp f) r)(g:PE X a d)(k:PE X b e)(h:f≠.In:=by decide)(i:f≠.NotIn:=by decide):PT X (.Compare a [f] [b] c) (BE (Vh r d e)):=oQ j g k (jR _ h i)
end
end Pb
namespace L2
open PySem PySem.Spec PyProof.Rows PySem.W
section
variable{n:Nat}{d:Nat->Nat->Bool}
structure Lin(n:Nat)(d:Nat->Nat->Bool):Prop where
 tot:∀a b,a<n->b<n->a≠b->d a b=false->d b a=true
 tr:∀a b c,a<n->b<n->c<n->d a b=true->d b c=true->d a c=true
variable(L:Lin n d)(e:0<n)
include L e
end
end L2
namespace L2
open PySem
def DK(w:World)(K:fv)(a:Addr)(c:List (Key×V)):Prop:=(a==sysModules)=false/\∃(o:Obj)(b:List (Key×Value)),K.lookup a=some o/\KV c b/\∀P:Program,o.IsDictOf (hJ P w) b
theorem Ql{w:World}{K:fv}{a:Addr}{f:Nat}{d:List DictEntry}(l:List (Str×Tok×Int×Tok))(g:(a==sysModules)=false)(c:(l.map (·.1)).Nodup)(h:K.lookup a=some ⟨.type "dict",none,.dict ⟨d⟩ f,#[]⟩)(e:d=l.map λp=>DictEntry.mk (Mw w (.inr p.1)) (.str p.1 p.2.1) (.int p.2.2.1 p.2.2.2)):DK w K a (l.map λp=>((.inr p.1:Key),V.int p.2.2.1)):=by
 refine⟨g,_,l.map λp=>((.inr p.1:Key),Value.int p.2.2.1 p.2.2.2),h,?_,λP=>⟨_,_,⟨rfl,rfl,rfl⟩,rfl,?_,?_,?_⟩⟩
 .clear c e
  induction l with
  | nil=>exact .nil
  | cons p l ih=>exact .cons ⟨rfl,⟨_,rfl⟩⟩ ih
 .intro x hx;rw[e]at hx;obtain⟨p,i,rfl⟩:=aW.mp (show x∈l.map _ from nY.mpr hx);exact⟨.inr p.1,uX P w _ _,rfl⟩
 .rw[e];clear c e
  induction l with
  | nil=>exact .nil
  | cons p l ih=>exact .cons (uX P w _ _) rfl ih
 .rw[dN];rw[show((λx:Key×Value=>x.1) ∘ λp:Str×Tok×Int×Tok=>((.inr p.1:Key),Value.int p.2.2.1 p.2.2.2))=(λx:Str=>(.inr x:Key)) ∘ (λp:Str×Tok×Int×Tok=>p.1)from rfl,<-dN];exact c.map _ λa b ne e=>ne (by injection e)
section
variable{X:Cx}{a:Addr}{b:List (Key×V)}
theorem DK.of{c:fz}{h:St}{H:Hp}{s:Shared}(d:DK X.w X.K a b)(I:Inv X c h H s):(a==sysModules)=false/\∃e,KV b e/\s.heap.DictOf (hJ X.prog X.w) a e:=by
 obtain⟨f,o,e,j,g,i⟩:=d;exact⟨f,e,g,Heap.dictOf_iff.mpr ⟨o,I.ϵ _ _ j,i X.prog⟩⟩
def Qk(a:Addr)(b:List (Key×V)):R2:=λx y H Q=>∃z,x=.str z/\y=.ref a/\Q (.bl (!(nJ b (.inr z)).isSome)) H
theorem OV(w:World)(K:fv)(l:X.w=w)(i:X.K=K)(d:DK w K a b):oR X (compareOp .NotIn) (Qk a b):=by
 subst l i;intro e s o H x y v u Q I m j h;obtain⟨z,rfl,rfl,q⟩:=h;cases j;obtain⟨f,n,c,g⟩:=d.of I;refine wpAny_notIn_of (yL (k:=.inr z) m) f g.mapOf ?_;rw[<-(c.val (.inr z)).bY];exact⟨.bl _,H,I.tok _,rfl,q⟩
def QG(a:Addr)(b:List (Key×V)):R2:=λx y H Q=>∃z v,x=.ref a/\y=.str z/\nJ b (.inr z)=some v/\Q v H
theorem Lu{o i:Expr}{f:Pos}{j p:TE}(w:World)(K:fv)(e:X.w=w)(G:X.K=K)(d:DK w K a b)(D:PE X o j)(L:PE X i p)(M:Pp i):PE X (.Subscript o i f) (Vh (QG a b) j p):=by
 subst e G;intro c s n H Q I h;refine OL PySem.F.slot_dict_getitem.lookup M (dP (D c s n H _ I h) λu t x E A O S=>dP (L c t n E _ A S) λZ Y y P q J ⟨z,r,R,N,l,T⟩=>?_);subst R N;obtain rfl:u=Value.ref a:=O;obtain⟨U,C,g,m⟩:=d.of q;obtain⟨V,e,B⟩:=iN.some_of (v:=r) (o:=valueAt C (.inr z)) (by rw[<-l];exact g.val (.inr z));exact⟨m.typeIs,wpAny_getItem_of (yL (k:=.inr z) J) m.mapOf e ⟨r,P,q.tok _,B,T⟩⟩
end
end L2
namespace Pb
open L2 PySem
def ZR:List (Str×Nat):=[("put",2),("want",2),("step",3),("back",0),("laying",0),("wish",0),("most",1),("bring",1),("stands",1),("meet",0),("enough",2),("hardest",1),("worst",2),("many",2),("always",0),("fails",0)]
def nb(w:Str):Option Nat:=(ZR.find? λp=>decide (p.1=w)).map (·.2)
def nbK:List (Key×V):=ZR.map λp=>((.inr p.1:Key),V.int (p.2:Int))
theorem FR(w:Str):∀l:List (Str×Nat),nJ (l.map λp=>((.inr p.1:Key),V.int (p.2:Int))) (.inr w)=((l.find? λp=>decide (p.1=w)).map λp:Str×Nat=>p.2).map λn:Nat=>V.int (n:Int)
 | []=>rfl
 | p::l=>by
   have a:=FR w l;unfold nJ at a ⊢;rw[bh,eZ,eZ];by_cases h:p.1=w
   .rw[bB h,bB (show(Sum.inr p.1:Key)=.inr w by rw[h])]
    rfl
   .rw[bP h,bP (show ¬(Sum.inr p.1:Key)=.inr w from λz=>h (by injection z))];exact a
theorem Ku(w:Str):nJ nbK (.inr w)=(nb w).map λn:Nat=>V.int (n:Int):=FR w ZR
theorem Rk{a b:Str}(h:a≠b):¬V.str a=V.str b:=λz=>h (by injection z)
theorem q9(z a:Str):Str.join z [a]=a:=kg (by rw[iw];rfl)
theorem Aj{z:Str}{A B:hO}(a:A≠[])(b:B≠[]):Str.join z (A++B)=Str.join z A++z++Str.join z B:=kg (by
 rw[app_list,app_list,iw,iw,iw,aE,DQ (by simpa using b) (by simpa using a)])
theorem uo(a b c:Str):a++b++c=a++(b++c):=kg (by rw[app_list,app_list,app_list,app_list,b4])
theorem Fs{a:hO}(ne:a≠[])(h:∀y∈a,32∉y.cps.toList):Le (Str.join (Str.ofString " ") a)=a:=by
 unfold Le;rw[show Str.ofString " "=⟨#[32]⟩ by decide +kernel];exact sB ne h
def wdB(w:Str):Bool:=w.cps.toList.all (λc=>decide (c≠32/\c<128))&&decide (w.cps.toList.length<=100)
abbrev Wd(w:Str):Prop:=wdB w=true
theorem yI{w:Str}:Wd w↔(∀c∈w.cps.toList,c≠32/\c<128)/\w.cps.toList.length<=100:=by
 unfold Wd wdB;rw[bw,cw,iI];exact⟨λh=>⟨λc a=>bn (h.1 c a),h.2⟩,λh=>⟨λc a=>bB (h.1 c a),h.2⟩⟩
theorem Wd.ok{w:Str}(h:Wd w):XG w:=⟨by
 rw[ji];exact λx a=>bB ((yI.mp h).1 x (by simpa using a)).2,by
 have:=(yI.mp h).2;simp only[gG]at this;show w.cps.size<=_
 lia⟩
theorem Wd.fs{n:Nat}(h:n<10^60):Wd (FS n):=by
 have f:=Br h;exact yI.mpr ⟨λc a=>by have:=f.all c a;lia,by have:=f.SA;lia⟩
theorem K7:∀{a:hO},(∀x∈a,Wd x)->(a.map (·.length)).sum<=100*a.length
 | [],_=>bT _
 | w::a,h=>by
   have c:=K7 λx b=>h x (.tail _ b);have:=(yI.mp (h w (.head _))).2;simp only[gG]at this;rw[bh,dE,aJ];have:w.length<=100:=this
   lia
theorem Ij{ws:hO}(ne:ws≠[])(h:∀x∈ws,Wd x)(l:ws.length<=20):(Str.join (Str.ofString " ") ws).length<=60000/\Le (Str.join (Str.ofString " ") ws)=ws/\(ws.map (·.length)).sum+ws.length*(Str.ofString " ").length<=16777216:=by
 have a:(Str.ofString " ").length=1:=by decide +kernel
 have e:=sS (z:=Str.ofString " ") (m:=100) (ws:=ws) λw c=>by
  have:=(yI.mp (h w c)).2;simp only[gG]at this;exact this
 have w:=K7 h;rw[a]at e ⊢;have:=Nat.mul_le_mul_left 101 l;exact⟨by lia,Fs ne λy b z=>absurd rfl ((yI.mp (h y b)).1 32 z).1,by lia⟩
def AO(z:Str):Prop:=z.length<=60000/\∃w a,Le z=w::a/\(∀x∈a,XG x)/\a.length<=1000/\∀n,nb w=some n->a.length≠n\/∃x∈a,ϱ x=none
theorem FJ{w:Str}{ws:hO}(d:Wd w)(h:∀x∈ws,Wd x)(l:ws.length<=19)(b:∀n,nb w=some n->ws.length≠n\/∃x∈ws,ϱ x=none):AO (Str.join (Str.ofString " ") (w::ws)):=by
 obtain⟨c,a,_⟩:=Ij (ws:=w::ws) (by simp) (λx hx=>by
  rcases aG.mp hx with rfl|hx
  .exact d
  .exact h x hx) (by rw[aJ];lia)
 exact⟨c,w,ws,a,λx hx=>(h x hx).ok,by lia,b⟩
theorem Nx:∀p∈ZR,nb p.1=some p.2/\p.2<=3/\Wd p.1/\p.1.length<=10/\Wd (Txt.upper p.1)/\nb (Txt.upper p.1)=none/\Wd (p.1++Str.ofString ":")/\nb (p.1++Str.ofString ":")=none:=by decide +kernel
abbrev LS(H:Hp)(a:Addr)(b:hO):Prop:=H a=some (.lst (b.map V.str))
theorem uu{H:Hp}{a b:Addr}{A B:hO}{Q:VK}(d:LS H a A)(e:LS H b B)(l:A.length+B.length<=100)(q:∀p c,γ H c->LS c p (A++B)->Q (.ref p) c):Rj (.ref a) (.ref b) H Q:=ML d e (bL (by rw[ag,ag];lia)) λp f=>q p _ (γ.new _ f) (by show upd _ _ _ _=_;rw[aw,aE])
theorem q0{K:fv}{H:Hp}{a:Addr}{A:hO}{k:Int}{Q:VK}(c:LS H a A)(e:0<=k)(q:∀p b,γ H b->LS b p (A.take k.toNat)->Q (.ref p) b):Co K (.ref a) none (some k) H Q:=⟨a,_,rfl,ξ.of c,λp d=>q p _ (γ.new _ d) (by show upd _ _ _ _=_;rw[aw,PF _ e,List.map_take])⟩
theorem vA{K:fv}{H:Hp}{a:Addr}{A:hO}{k:Int}{Q:VK}(c:LS H a A)(e:0<=k)(q:∀p b,γ H b->LS b p (A.drop k.toNat)->Q (.ref p) b):Co K (.ref a) (some k) none H Q:=⟨a,_,rfl,ξ.of c,λp d=>q p _ (γ.new _ d) (by show upd _ _ _ _=_;rw[aw,Bw _ e,mQ])⟩
theorem P4{K:fv}{H:Hp}{a:Addr}{w:Str}{b:hO}{Q:VK}(c:LS H a (w::b))(d:Wd w)(h:∀x∈b,Wd x)(l:b.length<=19)(q:Q (.str (Str.join (Str.ofString " ") (w::b))) H):Et K (.str (Str.ofString " ")) [.ref a] H Q:=⟨_,a,w::b,rfl,rfl,ξ.of c,(Ij (by simp) (λx hx=>by
 rcases aG.mp hx with rfl|hx
 .exact d
 .exact h x hx) (by rw[aJ];lia)).2.2,q⟩
theorem MD(w:Str)(a:hO):Str.join (Str.ofString " ") (w::a)++Str.ofString " "=Str.join (Str.ofString " ") (w::(a++[Str.ofString ""])):=by
 rw[show w::(a++[Str.ofString ""])=(w::a)++[Str.ofString ""]from rfl,Aj (by simp) (by simp),q9];exact kg (by rw[app_list,app_list,app_list];show _=_++[];rw[bR])
theorem K2:∀z∈([Str.ofString "",Str.ofString "road 0 1 2 2",Str.ofString "web 1",Str.ofString "puts 0 1",Str.ofString "done"]:hO),AO z:=by
 have b:∀z∈([Str.ofString "",Str.ofString "road 0 1 2 2",Str.ofString "web 1",Str.ofString "puts 0 1",Str.ofString "done"]:hO),∃l:List Str,(decide (l≠[])&&decide (l.length<=10)&&decide (z=Str.join (Str.ofString " ") l)&&l.all (λx=>decide (Wd x))&&decide ((l.head?.bind nb)=none))=true:=by
  intro z a;simp only[aG,bX,or_false]at a;rcases a with rfl|rfl|rfl|rfl|rfl
  .exact⟨[Str.ofString ""],by decide +kernel⟩
  .exact⟨[Str.ofString "road",Str.ofString "0",Str.ofString "1",Str.ofString "2",Str.ofString "2"],by decide +kernel⟩
  .exact⟨[Str.ofString "web",Str.ofString "1"],by decide +kernel⟩
  .exact⟨[Str.ofString "puts",Str.ofString "0",Str.ofString "1"],by decide +kernel⟩
  .exact⟨[Str.ofString "done"],by decide +kernel⟩
 intro z a;obtain⟨l,h⟩:=b z a;simp only[bw,iI,cw]at h;obtain⟨⟨⟨⟨e,g⟩,rfl⟩,c⟩,i⟩:=h;cases l with
 | nil=>exact absurd rfl e
 | cons w ws=>
   rw[aJ]at g;exact FJ (c w (.head _)) (λx f=>c x (.tail _ f)) (by lia) λn d=>by
    have:nb w=none:=i;rw[this]at d;cases d
def wdA:Nat->Str
 | 0=>"place"
 | 1=>"wish"
 | _=>"step"
theorem Dr(z a b:Str)(l:hO):Str.join z (a::b::l)=a++(z++Str.join z (b::l)):=by
 rw[show a::b::l=[a]++(b::l)from rfl,Aj (by simp) (by simp),q9,uo]
theorem Qw:Str.ofString "0"=FS 0:=qm 0
theorem Px:Str.ofString "1"=FS 1:=qm 1
theorem Qv:Str.ofString "2"=FS 2:=qm 2
abbrev TS(H:Hp):List Addr->List (Str×Nat)->Prop:=Paired λq p=>H q=some (.tup [.str p.1,.str (wdA p.2)])
theorem Da(s:String)(h:decide ((Str.ofString s).length<=20)=true:=by decide +kernel):(Str.ofString s).length<=20:=bn h
theorem XH{a b:Str}{i j:Nat}(c:a.length<=i)(d:b.length<=j)(h:i+j<=1000:=by decide):a.length+b.length<=sizeLine:=bL (by lia)
theorem fsL{n:Nat}(h:n<10^60):(FS n).length<=60:=by
 have:=(Br h).SA;rw[eL];exact this
end Pb
namespace Pb
open L2 PySem PySem.W
def tI(z:Int):Str:=Str.ofString (toString z)
theorem tU(n:Nat):tI n=FS n:=qm n
theorem K4{z:Int}(h:z<0):Str.ofString "-" ++ tI (-z)=tI z:=by
 obtain⟨k,rfl⟩:∃k:Nat,z=-((k+1:Nat):Int):=⟨(-z).toNat-1,by lia⟩;rw[show -(-((k+1:Nat):Int))=((k+1:Nat):Int) by lia];refine kg ?_;rw[app_list];unfold tI;have e:toString (-((k+1:Nat):Int))="-" ++ toString (((k+1:Nat):Nat):Int):=rfl;rw[e,i5,i5,i5,String.toList_append];simp
abbrev Bt(z:Int):Prop:=z.natAbs<2^1900
theorem Bt.log{z:Int}(h:Bt z):z.natAbs.log2<1920:=by
 by_cases e:z.natAbs=0
 .rw[e];decide
 .exact(oB e).mpr (bc h (jF (by decide) (by decide)))
theorem Qj:2^1900<=10^(572+1):=by decide +kernel
theorem ve{z:Int}(h:Bt z):(tI z).length<=600:=by
 have a:∀n:Nat,n<2^1900->(FS n).length<=573:=λn b=>by
  rw[eL];exact oh 572 n (bc b Qj)
 by_cases c:z<0
 .rw[<-K4 c,qQ,show -z=((z.natAbs:Nat):Int) by lia,tU];have:=a _ h;rw[show(Str.ofString "-").length=1 from rfl]
  lia
 .rw[show z=((z.natAbs:Nat):Int) by lia,tU];have:=a _ h
  lia
structure Np(z q:Int)(ps:hO):Prop where
 big:Bt q
 len:∀p∈ps,p.length=18
 cnt:ps.length<1900
 val:(ps=[]/\q=z)\/(0<q/\0<=z/\z.toNat<2^1900/\q.toNat*2^ps.length<=z.toNat/\fA z.toNat=fA q.toNat++(ps.reverse.map (·.cps.toList)).flatten)
theorem Np.start{z:Int}(h:Bt z):Np z z []:=⟨h,λ_ h=>(by cases h),by decide,.inl ⟨rfl,rfl⟩⟩
theorem Np.step{z q:Int}{b:hO}(h:Np z q b)(c:1000000000000000000<=q):(q%1000000000000000000).natAbs.log2<1920/\Np z (q/1000000000000000000) (b++[Txt.zfill (tI (q%1000000000000000000)) 18]):=by
 have n:q.toNat*2^b.length<=z.toNat/\0<=z/\z.toNat<2^1900/\fA z.toNat=fA q.toNat++(b.reverse.map (·.cps.toList)).flatten:=by
  rcases h.val with⟨rfl,rfl⟩|⟨_,e,d,f,h5⟩
  .exact⟨by simp,by lia,by have:=h.big;lia,by simp⟩
  .exact⟨f,e,d,h5⟩
 obtain⟨o,e,d,f⟩:=n;have l:q%1000000000000000000=((q.toNat%10^18:Nat):Int):=by lia
 have j:(q/1000000000000000000).toNat=q.toNat/10^18:=by lia
 have m:10^18<=q.toNat:=by lia
 have i:q.toNat%10^18<10^18:=lU _ (by decide);have k:0<q/1000000000000000000:=by lia
 rw[l,tU];have g:(q/1000000000000000000).toNat*2^(b++[Txt.zfill (FS (q.toNat%10^18)) 18]).length<=z.toNat:=by
  rw[j,ap,bM,show 2^(b.length+1)=2^b.length*2 from fJ ..];have:q.toNat/10^18*(2^b.length*2)=(q.toNat/10^18*2)*2^b.length:=by
   rw[Nat.mul_comm (2^b.length) 2,j0]
  rw[this];exact aR (Nat.mul_le_mul_right _ (by lia)) o
 refine⟨HX i (by decide) (by decide),?_,λp hp=>?_,?_,.inr ⟨k,e,d,g,?_⟩⟩
 .have:=h.big;show(q/1000000000000000000).natAbs<_
  lia
 .rcases aK.mp hp with hp|hp
  .exact h.len p hp
  .rw[ax.mp hp];exact P3 i
 .refine(Nat.pow_lt_pow_iff_right (a:=2) (by decide)).mp (iH (aR ?_ g) d);exact Nat.le_mul_of_pos_left _ (by lia)
 .rw[f,OT m,j];simp
theorem Np.done{z q:Int}{a:hO}(h:Np z q a):Str.join "" ((a++[tI q]).reverse)=tI z:=by
 rcases h.val with⟨rfl,rfl⟩|⟨h1,h2,_,_,h5⟩
 .exact q9 _ _
 .rw[show q=((q.toNat:Nat):Int) by lia,show z=((z.toNat:Nat):Int) by lia,tU,tU];exact NZ h5
theorem Np.sum{z q:Int}{a:hO}(h:Np z q a):((a++[tI q]).map (·.length)).sum+(a++[tI q]).length*(Str.ofString "").length<=16777216:=by
 have b:=rR (ws:=a++[tI q]) (m:=600) λw hw=>by
  rcases aK.mp hw with hw|hw
  .rw[h.len w hw];decide
  .rw[ax.mp hw];exact ve h.big
 have:=h.cnt;rw[ap,bM]at b ⊢;rw[show(Str.ofString "").length=0 from rfl]
 lia
def Ug(a:dm):Str:=Str.join (Str.ofString " ") (a.map tI)
theorem Kj{a:dm}(h:∀z∈a,Bt z)(l:a.length<=100):((a.map tI).map (·.length)).sum+(a.map tI).length*(Str.ofString " ").length<=16777216:=by
 have c:=rR (ws:=a.map tI) (m:=600) λw d=>by
  obtain⟨z,b,rfl⟩:=aW.mp d;exact ve (h z b)
 rw[ag]at c ⊢;rw[show(Str.ofString " ").length=1 from rfl]
 lia
theorem yJ{a:dm}(h:∀z∈a,Bt z):(Ug a).length<=601*a.length:=by
 have:=sS (z:=Str.ofString " ") (ws:=a.map tI) (m:=600) λw c=>by
  obtain⟨z,b,rfl⟩:=aW.mp c;exact ve (h z b)
 rw[ag]at this;exact this
abbrev W9(s:Ϧ):Prop:=∀z∈[s.1,s.2.1,s.2.2],Bt z
def Xa(s:Ϧ):Str:=Ug [s.1,s.2.1,s.2.2]
def Xb(a:List Ϧ):Str:=if a=[]then Str.ofString "." else Str.join (Str.ofString " / ") (a.map Xa)
theorem Hu{s:Ϧ}(h:W9 s):(Xa s).length<=1803:=yJ h
theorem Pc{a:List Ϧ}(h:∀s∈a,W9 s)(l:a.length<=200):((a.map Xa).map (·.length)).sum+(a.map Xa).length*(Str.ofString " / ").length<=16777216:=by
 have c:=rR (ws:=a.map Xa) (m:=1803) λw d=>by
  obtain⟨z,b,rfl⟩:=aW.mp d;exact Hu (h z b)
 rw[ag]at c ⊢;rw[show(Str.ofString " / ").length=3 from rfl]
 lia
theorem CQ{a:List Ϧ}(h:∀s∈a,W9 s)(l:a.length<=48):(Xb a).length<=90000:=by
 unfold Xb;split
 .decide
 .have:=sS (z:=Str.ofString " / ") (ws:=a.map Xa) (m:=1803) λw c=>by
   obtain⟨z,b,rfl⟩:=aW.mp c;exact Hu (h z b)
  rw[ag,show(Str.ofString " / ").length=3 from rfl]at this
  lia
end Pb
namespace Pb
open PySem L2
abbrev Ab(M z:Int):Prop:=-M<=z/\z<=M
section
variable{m:Int}{rs:hU}{r:Int}{par:dt}{o:ew}{i s:dt}{j:hT}
theorem HV(g:Good m rs)(R:ζ m rs r par o){B:Int}(b:0<=B)(d:∀v,0<=v->v<m->Ab B (i v))(a:∀v z M,0<=v->v<m->v≠r->0<=M->Ab M z->Ab (M*1000000) (j v z)):∀(n:Nat)(v:Int),0<=v->v<m->m.toNat-o v=n->Ab (B*2^(25*n)) (aS m rs r par o i j v)
 | 0,v,h0,h1,e=>by have:=tQ R h0 h1;lia
 | n+1,v,h0,h1,e=>by
   have l:(0:Int)<=B*2^(25*n):=mK b (iA (dW (by decide)));have y:B<=B*2^(25*n):=by
    have:=cB (show(1:Int)<=2^(25*n)from dW (by decide)) b
    lia
   have h:∀c∈kd m rs r par v,Ab (B*2^(25*n)*1000000) (j c (aS m rs r par o i j c)):=λc u=>by
    obtain⟨q,A,_⟩:=tD g R h0 h1 u;exact a c _ _ q.1.1 q.1.2 q.2.1 l (HV g R b d a n c q.1.1 q.1.2 (by lia))
   have w:=Gx (r:=r) (par:=par) g (v:=v) (f:=λc=>j c (aS m rs r par o i j c)) (M:=B*2^(25*n)*1000000) (by lia) λc a=>(h c a).2;have k:=Gx (r:=r) (par:=par) g (v:=v) (f:=λc=>-j c (aS m rs r par o i j c)) (M:=B*2^(25*n)*1000000) (by lia) λc a=>by have:=(h c a).1;lia
   rw[Cn]at k;have x:=d v h0 h1;have p:B*2^(25*(n+1))=B*2^(25*n)*33554432:=by
    rw[show 25*(n+1)=25*n+25 by lia,lV,<-kz]
    rfl
   have t:aS m rs r par o i j v=i v+((kd m rs r par v).map λc=>j c (aS m rs r par o i j c)).sum:=Fu g R h0 h1;rw[p,t]
   constructor<;>lia
theorem oV{z:Int}{n:Nat}(h:Ab (2^n) z)(a:n<1900):Bt z:=by
 have:=C9 a;have e:(2:Int)^1900=((2^1900:Nat):Int):=by norm_cast
 rw[Int.pow_succ]at this;have p:(0:Int)<2^n:=dW (by decide);obtain⟨c,b⟩:=h;show z.natAbs<2^1900;rw[e]at this
 lia
theorem Fq(g:Good m rs)(R:ζ m rs r par o)(e:∀v,0<=v->v<m->Ab (2^220) (i v))(c:∀v z M,0<=v->v<m->v≠r->0<=M->Ab M z->Ab (M*1000000) (j v z)){v:Int}(d:0<=v)(f:v<m):Ab (2^820) (aS m rs r par o i j v):=by
 have h:=HV g R (iA (dW (by decide))) e c _ v d f rfl;have ω:=g.ω;have p:=C9 (a:=220+25*(m.toNat-o v)) (b:=820) (by lia);rw[lV]at p;exact⟨by have:=h.1;lia,iz h.2 p⟩
theorem Gh{z k M:Int}(h:Ab M z)(b:0<=M):Ab (M*1000000) (z/k):=by
 have:=Int.natAbs_ediv_le_natAbs z k;obtain⟨c,a⟩:=h
 constructor<;>lia
theorem AE{z k M:Int}(h:Ab M z)(a:0<=k)(b:k<=1000000):Ab (M*1000000) (z*k):=by
 obtain⟨f,d⟩:=h;have e:0<=M:=by lia
 have c:=cQ f a;have g:=cQ d a;have l:=cB b e;rw[Int.neg_mul]at c
 constructor<;>lia
theorem Lg{v z M:Int}(a:0<=M)(h:Ab M z):Ab (M*1000000) (SQ rs par v z):=Gh h a
theorem PV(g:Good m rs)(R:ζ m rs r par o){v z M:Int}(a:0<=v)(d:v<m)(c:v≠r)(b:0<=M)(h:Ab M z):Ab (M*1000000) (RA rs par v z):=by
 have t:=(xZ g R a d c).2;rw[O8];split
 .exact Gh h b
 .exact AE h (by lia) t.2
abbrev Al(M:Int)(l:dm):Prop:=∀x∈l,Ab M x
theorem Al.mono{M N:Int}{l:dm}(h:Al M l)(hn:M<=N):Al N l:=λx a=>by have:=h x a;constructor<;>lia
theorem Al.add{M N:Int}:∀{a b:dm},Al M a->Al N b->Al (M+N) (mF a b)
 | [],_,_,_=>λx hx=>by cases hx
 | _::_,[],_,_=>λx hx=>by cases hx
 | y::a,z::b,ha,hb=>λx hx=>by
   rcases aG.mp (show x∈(y+z)::mF a b from hx)with rfl|hx
   .have h1:=ha y (.head _);have c:=hb z (.head _)
    constructor<;>lia
   .exact Al.add (λx hx=>ha x (.tail _ hx)) (λx hx=>hb x (.tail _ hx)) x hx
theorem Al.fold{M:Int}:∀{ls:List (List Int)}{A:Int}{a:dm},Al A a->(∀l∈ls,Al M l)->Al (A+ls.length*M) (ls.foldl mF a)
 | [],A,a,ha,_=>λx b=>by have:=ha x b;simp;lia
 | l::ls,A,a,ha,h=>by
   have:=Al.fold (Al.add ha (h l (.head _))) λl c=>h l (.tail _ c);rw[jH];refine this.mono ?_;rw[aJ];have:((ls.length+1:Nat):Int)*M=ls.length*M+M:=by
    rw[Int.natCast_add,iU];simp
   lia
theorem Al.Ge(g:Good m rs){b:Int->List Int}{v M:Int}{x:V}(d:0<=M)(h:∀k∈kd m rs r par v,Al M (b k)):Al (24*M) (Ge m rs r par b v x):=by
 have:=Al.fold (ls:=((kd m rs r par v).filter λk=>decide (V.int k≠x)).map b) (A:=0) (a:=gE m) (M:=M) (λy e=>by rw[(iC.mp e).2];decide) λl c=>by
  obtain⟨k,f,rfl⟩:=aW.mp c;exact h k (ci.mp f).1
 refine Al.mono this ?_;rw[ag];have n:=bN (λk=>decide (V.int k≠x)) (kd m rs r par v);have p:=Fz (r:=r) (par:=par) g (v:=v);have:=cQ (show((((kd m rs r par v).filter λk=>decide (V.int k≠x)).length:Nat):Int)<=24 by lia) d
 lia
theorem Al.put{M D d v:Int}{b:dm}(h:Al M b)(g:0<=M)(e:Ab D d):Al (M+D) (vd b v d):=λx a=>by
 obtain⟨f,k⟩:=e;rcases eT a with a|rfl
 .have:=h x a
  constructor<;>lia
 .by_cases c:v.toNat<b.length
  .have:=h _ (fk c);rw[bD,aB c];show -(M+D)<=b[v.toNat]+d/\b[v.toNat]+d<=M+D
   constructor<;>lia
  .rw[bD,ce (by lia)];show -(M+D)<=0+d/\0+d<=M+D
   constructor<;>lia
theorem Ln(g:Good m rs)(R:ζ m rs r par o){B:Int}(A:1<=B)(q:∀v,0<=v->v<m->Ab B (s v)):∀(n:Nat)(v:Int),0<=v->v<m->(v≠r->Al (2*(B*4398046511104*2^(22*n))) (ld m rs r par s n false v 0))/\∀y Y,Ab Y y->Al ((Y+B*4398046511104)*2^(22*n)) (ld m rs r par s n true v y)
 | 0,v,h0,h1=>⟨λ_ x l=>(by cases l),λ_ _ _ x l=>by cases l⟩
 | n+1,v,h0,h1=>by
   have u:(1:Int)<=2^(22*n):=dW (by decide);have PS:(2:Int)^(22*(n+1))=2^(22*n)*4194304:=by
    rw[show 22*(n+1)=22*n+22 by lia,lV]
    rfl
   have d:∀k∈kd m rs r par v,(0<=k/\k<m)/\k≠r/\par k=v:=λk a=>(gW g R h0 h1).mp a;have f:=λk (a:k∈kd m rs r par v)=>Ln g R A q n k (d k a).1.1 (d k a).1.2;rw[PS];generalize (2:Int)^(22*n)=P at u f;generalize L:B*4398046511104=C at f;have N:C<=C*P:=by
    have:=cB u (show 0<=C by lia)
    lia
   have p:∀x,Al (24*(2*(C*P))) (Ge m rs r par (λk=>ld m rs r par s n false k 0) v x):=λx=>Al.Ge g (by lia) λk a=>(f k a).1 (d k a).2.1;have b:∀y Y,Ab Y y->Al ((Y+C)*(P*4194304)) (oW m rs r par s (λk=>ld m rs r par s n false k 0) (λk z=>ld m rs r par s n true k z) v y):=λy Y ⟨U,J⟩=>by
    have F:Y<=Y*P:=by
     have:=cB u (show 0<=Y by lia)
     lia
    have e:(Y+C)*(P*4194304)=(Y*P+C*P)*4194304:=(by rw[<-kz,iU]);obtain⟨I,T⟩:=q v h0 h1;rw[e];unfold oW;rcases F8 ((kd m rs r par v).map (Vz m rs r par s (λk=>ld m rs r par s n false k 0) (λk z=>ld m rs r par s n true k z) v (s v+y))) (vd (Ge m rs r par (λk=>ld m rs r par s n false k 0) v .τ) v (s v+y))with h|h
    .rw[h];exact(Al.put (D:=B+Y) (p .τ) (by lia) (by constructor<;>lia)).mono (by lia)
    .obtain⟨k,a,ek⟩:=aW.mp h;obtain⟨c,E,_⟩:=d k a;have t:=xZ g R c.1 c.2 E;obtain⟨S,G⟩:=AE (q k c.1 c.2) (k:=UD rs par k) (by lia) t.2.2;obtain⟨O,H⟩:=AE (M:=Y+B*2097152) (z:=s v+y-s k*UD rs par k+1) (k:=Ts rs par k) (by constructor<;>lia) (by lia) t.1.2;have Q:=Int.mul_comm (Ts rs par k) (s v+y-s k*UD rs par k+1);rw[<-ek];refine Al.mono (Al.add ((f k a).2 _ (1048576*Y+C) (by constructor<;>lia)) (p _)) ?_;have:(1048576*Y+C+C)*P=1048576*(Y*P)+C*P+C*P:=(by rw[iU,iU,kz])
     lia
   refine⟨λw=>?_,b⟩;show Al _ (if 0<s v then Ge m rs r par (λk=>ld m rs r par s n false k 0) v .τ else oW m rs r par s (λk=>ld m rs r par s n false k 0) (λk z=>ld m rs r par s n true k z) v (Ts rs par v-1));have t:=(xZ g R h0 h1 w).1;have K:C*(P*4194304)=C*P*4194304:=(kz ..).symm;split
   .exact(p .τ).mono (by lia)
   .refine(b _ 1000000 (by constructor<;>lia)).mono ?_;rw[iU];have:=cQ (show 1000000<=C by lia) (show 0<=P*4194304 by lia)
    lia
end
inductive Q0(m:Int)(rs:hU)(x y:dm):Str->List Nat->Sum Str Nat->Prop
 | laying (l:x.length<=24) (b:∀z∈x,Bt z):Q0 m rs x y "laying" [] (.inl (Ug x))
 | wish (l:y.length<=24) (b:∀z∈y,Bt z):Q0 m rs x y "wish" [] (.inl (Ug y))
 | most {v:Nat} {par:dt} {dep:ew} (h:(v:Int)<m) (R:ζ m rs v par dep) (b:Bt (aS m rs v par dep (λu=>x.getD u.toNat 0) (SQ rs par) v)):Q0 m rs x y "most" [v] (.inl (tI (aS m rs v par dep (λu=>x.getD u.toNat 0) (SQ rs par) v)))
 | V4 {v:Nat} (h:m<=v):Q0 m rs x y "most" [v] (.inr 0)
 | bring {v:Nat} {par:dt} {dep:ew} {tl:dm} {ss:List Ϧ} (h:(v:Int)<m) (R:ζ m rs v par dep) (et:iL m rs v par dep v=(v:Int)::tl) (es:ss=(lF m rs v par dep (λu=>x.getD u.toNat 0) tl.reverse).map λu=>(u,par u,TN m rs v par dep (λu=>x.getD u.toNat 0) u)) (l:ss.length<=48) (b:∀s∈ss,W9 s):Q0 m rs x y "bring" [v] (.inl (Xb ss))
 | UH {v:Nat} (h:m<=v):Q0 m rs x y "bring" [v] (.inr 0)
 | stands {v:Nat} {par:dt} {dep:ew} (h:(v:Int)<m) (R:ζ m rs v par dep) (b:Bt (rW m rs v par dep y x v)):Q0 m rs x y "stands" [v] (.inl (tI (rW m rs v par dep y x v)))
 | Tu {v:Nat} (h:m<=v):Q0 m rs x y "stands" [v] (.inr 0)
 | UI {ώ:hT} {ϣ:Int->Int->Nat} {tl:dm} {ss:List Ϧ} (RR:∀r,0<=r->r<m->ζ m rs r (ώ r) (ϣ r)) (et:iL m rs 0 (ώ 0) (ϣ 0) 0=0::tl) (h:0<=rW m rs 0 (ώ 0) (ϣ 0) y x 0) (es:ss=qo rs (ώ 0) (rW m rs 0 (ώ 0) (ϣ 0) y x) tl.reverse++qA (ώ 0) (rW m rs 0 (ώ 0) (ϣ 0) y x) tl) (l:ss.length<=48) (b:∀s∈ss,W9 s):Q0 m rs x y "meet" [] (.inl (Str.ofString "steps " ++ Xb ss))
 | UJ {ώ:hT} {ϣ:Int->Int->Nat} {zs:dm} (RR:∀r,0<=r->r<m->ζ m rs r (ώ r) (ϣ r)) (h:¬0<=rW m rs 0 (ώ 0) (ϣ 0) y x 0) (es:zs=(vN m rs ώ ϣ x y m.toNat).map λz=>-z) (l:zs.length<=24) (b:∀z∈zs,Bt z):Q0 m rs x y "meet" [] (.inl (Str.ofString "lack " ++ Ug zs))
 | Sb (h:y.sum=0):Q0 m rs x y "always" [] (.inl (tI 0))
 | always {par:dt} {dep:ew} (h:y.sum≠0) (R:ζ m rs (fw m y) par dep) (b:Bt ((Ro m rs (fw m y) par dep (pF m rs (fw m y) par dep y) (fw m y) (-1)).sum+1)):Q0 m rs x y "always" [] (.inl (tI ((Ro m rs (fw m y) par dep (pF m rs (fw m y) par dep y) (fw m y) (-1)).sum+1)))
 | UK (h:y.sum=0):Q0 m rs x y "fails" [] (.inr 4)
 | fails {par:dt} {dep:ew} {zs:dm} (h:y.sum≠0) (R:ζ m rs (fw m y) par dep) (es:zs=Ro m rs (fw m y) par dep (pF m rs (fw m y) par dep y) (fw m y) (-1)) (l:zs.length<=24) (b:∀z∈zs,Bt z):Q0 m rs x y "fails" [] (.inl (Ug zs))
section
variable{m:Int}{d:hU}{x y:dm}{w:Str}{j:List Nat}{a:Str}{n:Nat}
theorem Q0.len(h:Q0 m d x y w j (.inl a)):a.length<=100000:=by
 have c:∀{e:dm},e.length<=24->(∀z∈e,Bt z)->(Ug e).length<=20000:=λl b=>by have:=yJ b;lia
 have f:∀{z:Int},Bt z->(tI z).length<=100000:=λb=>by have:=ve b;lia
 have g:∀{u v:Str}{k:Nat},u.length<=10->v.length<=90000->(u++v).length<=100000:=λi o=>by rw[qQ];lia
 cases h with
 | laying l b=>exact aR (c l b) (by decide)
 | wish l b=>exact aR (c l b) (by decide)
 | most _ _ b=>exact f b
 | bring _ _ _ _ l b=>exact aR (CQ b l) (by decide)
 | stands _ _ b=>exact f b
 | UI _ _ _ _ l b=>exact g (k:=0) (by decide) (CQ b l)
 | UJ _ _ _ l b=>exact g (k:=0) (by decide) (aR (c l b) (by decide))
 | Sb _=>decide
 | always _ _ b=>exact f b
 | fails _ _ _ l b=>exact aR (c l b) (by decide)
structure Sz(m:Int)(n:Nat)(s:List Int×List Int):Prop where
 l1:(s.1.length:Int)=m
 l2:(s.2.length:Int)=m
 b1:∀x∈s.1,0<=x/\x<=n*10^60
 b2:∀y∈s.2,0<=y/\y<=10^60
theorem qS{P:Int->Prop}{l:dm}(h:∀x∈l,P x)(b:P 0)(i:Nat):P (l.getD i 0):=by
 by_cases c:i<l.length
 .rw[bD,aB c];exact h _ (fk c)
 .rw[bD,ce (by lia)];exact b
theorem Sz.YN(S:Sz m n (x,y))(c:n<=1000):(∀z∈x,0<=z/\z<2^219)/\∀z∈y,0<=z/\z<2^219:=by
 refine⟨λz b=>?_,λz b=>?_⟩
 .have:=S.b1 z b
  lia
 .have:=S.b2 z b
  lia
theorem Sz.over(S:Sz m n (x,y))(e:n<=1000):(∀v,Ab (2^220) (x.getD v 0))/\(∀v,Ab (2^220) (y.getD v 0))/\∀v,Ab (2^220) ((kX m x y).getD v 0):=by
 obtain⟨a,b⟩:=S.YN e;have a:=qS a (by decide);have b:=qS b (by decide);refine⟨λv=>?_,λv=>?_,λv=>?_⟩
 .have:=a v;lia
 .have:=b v;lia
 .refine qS (l:=kX m x y) (λz c=>?_) (by decide) v;obtain⟨i,_,rfl⟩:=aW.mp c;have:=a i;have:=b i
  lia
theorem IP{z:Int}(h:Ab (2^820) z):Bt z:=oV h (by decide)
theorem wq{z:Int}(c:0<=z)(b:z<24):Bt z:=oV (n:=5) (by lia) (by decide)
theorem tV(g:Good m d)(S:Sz m n (x,y))(Z:n<=1000):(∃o,Q0 m d x y "laying" [] o)/\(∃o,Q0 m d x y "wish" [] o)/\(∀v,∃o,Q0 m d x y "most" [v] o)/\(∀v,∃o,Q0 m d x y "bring" [v] o)/\(∀v,∃o,Q0 m d x y "stands" [v] o)/\(∃o,Q0 m d x y "meet" [] o)/\(∃o,Q0 m d x y "always" [] o)/\∃o,Q0 m d x y "fails" [] o:=by
 have m1:=g.m1;have ω:=g.ω;obtain⟨ox,oy,oo⟩:=S.over Z;have l1:=S.l1;have l2:=S.l2;have B:∀v:Nat,(v:Int)<m->∃par i,ζ m d v par i:=λv V=>vE g (by lia) V;have X:∀{l:dm},(∀z∈l,0<=z/\z<2^219)->∀z∈l,Bt z:=λh z hz=>oV (n:=219) (by have:=h z hz;lia) (by decide);obtain⟨xx,yy⟩:=S.YN Z;have gx:∀{r:Int}{par:dt}{i:ew}(R:ζ m d r par i){v:Int},0<=v->v<m->Ab (2^820) (aS m d r par i (λu=>x.getD u.toNat 0) (SQ d par) v):=λ{r par i} R {v} C D=>Fq g R (λv _ _=>ox _) (λv z M _ _ _ Q h=>Lg Q h) C D;have U:∀{r:Int}{par:dt}{i:ew}(R:ζ m d r par i){v:Int},0<=v->v<m->Ab (2^820) (rW m d r par i y x v):=λ{r par i} R {v} C D=>Fq g R (λv _ _=>oo _) (λv z M C D G Q h=>PV g R C D G Q h) C D;have P:y.sum≠0->∃par i,∃_:ζ m d (fw m y) par i,(Ro m d (fw m y) par i (pF m d (fw m y) par i y) (fw m y) (-1)).length<=24/\∀z∈Ro m d (fw m y) par i (pF m d (fw m y) par i y) (fw m y) (-1),Ab (2^1800) z:=λh=>by
  obtain⟨_,_,J,_⟩:=Ix l2 (λz hz=>(S.b2 z hz).1) h;obtain⟨par,i,R⟩:=vE g J.1 J.2;refine⟨par,i,R,by rw[HW g R J.1 J.2];lia,λz hz=>?_⟩;have nb:∀v,0<=v->v<m->Ab (2^820) (pF m d (fw m y) par i y v):=λv C D=>Fq g R (λv _ _=>oy _) (λv z M C D G Q h=>AE (k:=UD d par v) h (by have:=(xZ g R C D G).2;lia) (xZ g R C D G).2.2) C D;have:=(Ln g R (dW (by decide)) nb (m.toNat-i (fw m y)) _ J.1 J.2).2 (-1) 1 (by decide) z hz;have p:=C9 (a:=22*(m.toNat-i (fw m y))) (b:=528) (by lia);have q:=cB p (show(0:Int)<=1+2^820*4398046511104 by decide);have e:((1:Int)+2^820*4398046511104)*2^528<=2^1800:=by decide +kernel
  constructor<;>lia
 refine⟨⟨_,.laying (by show x.length<=24;have:((x.length:Nat):Int)=m:=l1;lia) (X xx)⟩,⟨_,.wish (by have:((y.length:Nat):Int)=m:=l2;lia) (X yy)⟩,λv=>?_,λv=>?_,λv=>?_,?_,?_,?_⟩
 .by_cases c:(v:Int)<m
  .obtain⟨par,i,R⟩:=B v c;exact⟨_,.most c R (IP (gx R (by lia) c))⟩
  .exact⟨_,.V4 (by lia)⟩
 .by_cases c:(v:Int)<m
  .obtain⟨par,i,R⟩:=B v c;obtain⟨K,L,O⟩:=De g R (by lia) c;have W:=pN g R (by lia) c;rw[L,aJ]at W;refine⟨_,.bring c R L rfl ?_ λs hs=>?_⟩
   .rw[ag];have:=bN (λu=>decide (0<TN m d v par i (λu=>x.getD u.toNat 0) u)) K.reverse;rw[bA]at this;exact aR this (by lia)
   .obtain⟨u,hu,rfl⟩:=aW.mp hs;obtain⟨A,N⟩:=O.places u (gS.mp (ci.mp hu).1);have up:=(R.up u A.1 A.2 N).1;intro z hz;rcases aG.mp hz with rfl|hz
    .exact wq A.1 (by lia)
    .rcases aG.mp hz with rfl|hz
     .exact(wq up.1 (by lia):Bt (par u))
     .rw[ax.mp hz];refine oV (n:=840) ?_ (by decide);have:=Lg (rs:=d) (par:=par) (v:=u) (iA (dW (by decide))) (gx R A.1 A.2);have e:(2:Int)^820*1000000<=2^840:=(by decide +kernel);have t:TN m d v par i (λu=>x.getD u.toNat 0) u=SQ d par u (aS m d v par i (λu=>x.getD u.toNat 0) (SQ d par) u):=rfl;show Ab _ (TN m d v par i (λu=>x.getD u.toNat 0) u);rw[t]
      constructor<;>lia
  .exact⟨_,.UH (by lia)⟩
 .by_cases c:(v:Int)<m
  .obtain⟨par,i,R⟩:=B v c;exact⟨_,.stands c R (IP (U R (by lia) c))⟩
  .exact⟨_,.Tu (by lia)⟩
 .have ex:∃H:Int->(Int->Int)×(Int->Nat),∀r,0<=r->r<m->ζ m d r (H r).1 (H r).2:=by
   refine Classical.axiomOfChoice (r:=λr (p:(Int->Int)×(Int->Nat))=>0<=r->r<m->ζ m d r p.1 p.2) λr=>?_;by_cases c:0<=r/\r<m
   .obtain⟨par,i,R⟩:=vE g c.1 c.2;exact⟨(par,i),λ_ _=>R⟩
   .exact⟨(λ_=>0,λ_=>0),λa b=>absurd ⟨a,b⟩ c⟩
  obtain⟨H,E⟩:=ex;have E:∀r,0<=r->r<m->ζ m d r ((λr=>(H r).1) r) ((λr=>(H r).2) r):=E;generalize (λr=>(H r).1)=F at E;generalize (λr=>(H r).2)=T at E;have R:=E 0 (by lia) (by lia);by_cases c:0<=rW m d 0 (F 0) (T 0) y x 0
  .obtain⟨K,L,O⟩:=De g R (by lia) (by lia);have W:=pN g R (dU _) (by lia);rw[L,aJ]at W;refine⟨_,.UI E L c rfl ?_ λs hs=>?_⟩
   .have l1:=bN (Fo d (F 0) (rW m d 0 (F 0) (T 0) y x)) K.reverse;have l2:=bN (FM (rW m d 0 (F 0) (T 0) y x)) K;unfold qo qA;rw[ap,ag,ag];rw[bA]at l1
    lia
   .have key:∃u k,u∈K/\Ab (2^820*1000000) k/\(s=(u,F 0 u,k)\/s=(F 0 u,u,k)):=by
     rcases aK.mp hs with hs|hs
     .obtain⟨u,hu,rfl⟩:=aW.mp hs;have I:=gS.mp (ci.mp hu).1;obtain⟨A,N⟩:=O.places u I;refine⟨u,_,I,?_,.inl rfl⟩;unfold wz;split
      .exact Gh (U R A.1 A.2) (iA (dW (by decide)))
      .decide +kernel
     .obtain⟨u,hu,rfl⟩:=aW.mp hs;have I:=(ci.mp hu).1;obtain⟨A,N⟩:=O.places u I;refine⟨u,_,I,?_,.inr rfl⟩;have:=U R A.1 A.2
      constructor<;>lia
    obtain⟨u,k,I,hk,e⟩:=key;obtain⟨A,N⟩:=O.places u I;have up:=(R.up u A.1 A.2 N).1;have b1:Bt k:=oV (n:=840) (by have e:(2:Int)^820*1000000<=2^840:=(by decide +kernel);constructor<;>lia) (by decide)
    have b2:=wq A.1 (by lia);have b3:=wq up.1 (by lia);intro z hz;rcases e with rfl|rfl<;>simp only[aG,bX,or_false]at hz<;>rcases hz with rfl|rfl|rfl<;>assumption
  .refine⟨_,.UJ E c rfl (by rw[ag,FF];lia) λz hz=>?_⟩;obtain⟨q,hq,rfl⟩:=aW.mp hz;obtain⟨v,V,rfl⟩:=aW.mp hq;have G:=iZ.mp V;have:Ab (2^820) (aS m d v (F v) (T v) (λv=>(kX m x y).getD v.toNat 0) (RA d (F v)) v):=U (E v G.1 (by lia)) G.1 (by lia);exact IP (by constructor<;>lia)
 .by_cases c:y.sum=0
  .exact⟨_,.Sb c⟩
  .obtain⟨par,i,R,l,b⟩:=P c;refine⟨_,.always c R (oV (n:=1810) ?_ (by decide))⟩;have:=yR (f:=λz=>z) (l:=Ro m d (fw m y) par i (pF m d (fw m y) par i y) (fw m y) (-1)) λz hz=>(b z hz).2;have Y:=yR (f:=λz=>-z) (l:=Ro m d (fw m y) par i (pF m d (fw m y) par i y) (fw m y) (-1)) (M:=2^1800) λz hz=>by have:=(b z hz).1;lia
   rw[Cn (f:=λz=>z)]at Y;rw[List.map_id']at this Y;have q:=cQ (show(((Ro m d (fw m y) par i (pF m d (fw m y) par i y) (fw m y) (-1)).length:Nat):Int)<=24 by lia) (show(0:Int)<=2^1800 from iA (dW (by decide)));have e:(24:Int)*2^1800+1<=2^1810:=(by decide +kernel)
   constructor<;>lia
 .by_cases c:y.sum=0
  .exact⟨_,.UK c⟩
  .obtain⟨par,i,R,l,b⟩:=P c;exact⟨_,.fails c R rfl l λz hz=>oV (b z hz) (by decide)⟩
end
inductive U5(m:Int)(rs:hU)(ο:List (List Int×List Int))(s:List Int×List Int):Str->List Nat->Sum Str Nat->List (List Int×List Int)->Prop
 | put {v n:Nat} (h:(v:Int)<m):U5 m rs ο s "put" [v,n] (.inl "done") (ο++[s]++[(s.1.set v (s.1.getD v 0+n),s.2)])
 | want {v n:Nat} (h:(v:Int)<m):U5 m rs ο s "want" [v,n] (.inl "done") (ο++[s]++[(s.1,s.2.set v n)])
 | step {a b n:Nat} (h:kE m rs s.1 (a,b,n)=true):U5 m rs ο s "step" [a,b,n] (.inl "done") (ο++[s]++[(rE rs s.1 (a,b,n),s.2)])
 | V5 {a b n:Nat} (h:kE m rs s.1 (a,b,n)=false):U5 m rs ο s "step" [a,b,n] (.inr 2) (ο++[s])
 | back (h:ο≠[]):U5 m rs ο s "back" [] (.inl "done") ο
 | V6 (h:ο=[]):U5 m rs ο s "back" [] (.inr 3) (ο++[s])
def Tc(m:Int)(c:hU)(b:List (List Int×List Int))(s:List Int×List Int)(z:Str)(o:Sum Str Nat)(S:List (List Int×List Int)):Prop:=z.length<=60000/\((S=b++[s]/\o=.inr 5/\AO z)\/∃(w:Str)(a:List Nat),Le z=w::a.map FS/\(∀n∈a,n<10^60)/\nb w=some a.length/\(U5 m c b s w a o S\/(S=b++[s]/\Q0 m c s.1 s.2 w a o)))
def Jy:Nat->Str
 | 0=>"refused place"
 | 1=>"refused wish"
 | 2=>"refused step"
 | 3=>"refused deed"
 | 4=>"refused none"
 | _=>"refused row"
def Aw:Sum Str Nat->Str
 | .inl a=>a
 | .inr c=>Jy c
theorem MK{H:Hp}{m:Int}{g:hU}{r:Int}{b:dt}{c:ew}{a:dt}{f:gy}{d:dm}(h:Ϥ H m g r b c a f d):Γ H f (d.map λu=>(u,b u,TN m g r b c a u)):=by
 induction h with
 | nil=>exact .nil
 | cons e _ ih=>exact .cons e ih
theorem IR{w:Str}{n:Nat}(h:nb w=some n):n<=3:=by
 unfold nb at h;obtain⟨p,a,rfl⟩:=bS.mp h;exact(Nx p (List.mem_of_find?_eq_some a)).2.1
theorem Tc.same{m:Int}{b:hU}{a:List (List Int×List Int)}{s:List Int×List Int}{z:Str}{r:Sum Str Nat}{S:List (List Int×List Int)}(h:Tc m b a s z r S){c:Nat}(e:r=.inr c):S=a++[s]:=by
 subst e;rcases h with⟨_,⟨h,_⟩|⟨w,ns,_,_,_,h|⟨h,_⟩⟩⟩
 .exact h
 .cases h<;>rfl
 .exact h
end Pb
namespace L2
open PySem PySem.Spec PyProof.Rows
def Ir(K:fv)(h g:Addr)(d:TS)(e:TH):TH:=λD b a f H=>∃C c b2,a=.ref C/\PySem.W.mroIn K C (.ref h)=some c/\PySem.W.mroIn K C (.ref g)=some b2/\if(c||b2)=true then d D b H else e D b a f H
theorem Hq{K:fv}{C a:Addr}{b:Bool}(c:Sy K a)(m:PySem.W.mroIn K C (.ref a)=some b):PySem.W.exmOne K (.ref C) (.ref a)=some b:=by
 unfold PySem.W.exmOne;rw[ao (by
  show(PySem.W.subIn K (.ref a) (.type "BaseException")==some true)=true;rw[show PySem.W.subIn K (.ref a) (.type "BaseException")=PySem.W.mroIn K a (.type "BaseException")from rfl,c.mb]
  rfl)]
 unfold PySem.W.kitCls;have q:((PySem.W.clsIn K a).isSome&&PySem.W.typeIn K (.ref a)==some (.type "type"))=true:=by
  obtain⟨cd,e,_⟩:=ja c.hd;rw[e,c.ty];simp
 simp only[q,if_true];exact m
section
variable{X:Cx}{x y:Str}{p n r g:Pos}{c d:Addr}{l:Stmt}{m:List Stmt}{a:List ExceptHandler}{i:TS}{j:TH}{t:Nat}
theorem Pf(c1:Sy X.K c)(c2:Sy X.K d)(hg:Gl X x)(hm:X.mg x=some (.ref c))(O:Gl X y)(N:X.mg y=some (.ref d))(Q:∀e,Sl (X.held e).Ua (l::m) i)(hr:XB X a j)(hdb:(x==("__debug__":Str))=false:=by decide)(R:(y==("__debug__":Str))=false:=by decide):XB X (.ExceptHandler (some (.Tuple [.Name x p,.Name y n] t r)) none (l::m) g::a) (Ir X.K c d i j):=by
 intro A s σ H D F T cls Y I er le lt h;obtain⟨C,P,b2,rfl,m1,m2,q⟩:=h;refine wpAny_handleBy_cons (codeAny_handlers_test (Tuple_ ?_)) (by intro z;cases z);refine dZ (nA (X:=X.held (.ref F)) (I.held _) hg hm (dZ (nA (X:=X.held (.ref F)) (I.held _) O N (fm ?_) R)) hdb);refine db ?_ (by show 2<=sizeLine;decide);have M:∀b o,s.heap.get? b=some o->(s.heap.push { cls:=.type "tuple",data:=.seq [Value.ref c,Value.ref d].toArray }).get? b=some o:=λb o e=>au _ e;have hp:=bg s.heap (o:={ cls:=.type "tuple",data:=.seq [Value.ref c,Value.ref d].toArray }) rfl;have L:=I.kept (t':=s.toks) M;obtain⟨⟨oe,vs,U,S,h3,h4,h5,h6⟩,⟨oT,Z,t1,t2,t3⟩,en⟩:=er;have G:RO (s.heap.push { cls:=.type "tuple",data:=.seq [Value.ref c,Value.ref d].toArray }) F T (.ref C) Y .none:=⟨⟨oe,vs,M _ _ U,S,h3,h4,h5,h6⟩,⟨oT,Z,M _ _ t1,t2,t3⟩,en⟩;refine(PySem.W.exm_tup2 (e:=F) (cls:=.ref C) (b:=P||b2) L.ϵ ?_ hp ?_).here ?_
 .exact S▸(PySem.W.Looks.ld (M _ _ U)).andThen .now
 .unfold PySem.W.exmAny;rw[Hq c1 m1];unfold PySem.W.exmAny;rw[Hq c2 m2];unfold PySem.W.exmAny;cases P<;>cases b2<;>rfl
 generalize s.heap.push { cls:=.type "tuple",data:=.seq [Value.ref c,Value.ref d].toArray }=h' at L G;cases eb:(P||b2)with
 | false=>exact hr A _ σ H D F T _ Y L G le lt (by rw[eb]at q;simpa using q)
 | true=>
   rw[eb,ao rfl]at q;refine codeAny_handlers_suite (sQ (fs:=ϝ X.stack) G λh' Vu k=>?_);have L:=L.moved (tk:=s.toks) k λb Q=>by rw[ax.mp Q];exact lt.all
   have I2:=L.held (.ref F);refine bu (Q (.ref F) A _ _ _ _ (I2.wish _) q) (λf V z=>?_) λ_ _ z=>False.elim z;have w:∀{B:St}{E:Hp},Inv (X.held (.ref F)).Ua A B E V->Inv X A B E V:=λJ=>J.ϒ.R9 I.ok.hd;dsimp only;cases f with
   | next=>
     obtain⟨B,E,J,z⟩:=z;exact⟨_,E,w J,z⟩
   | brk=>
     obtain⟨B,E,J,z⟩:=z;exact⟨_,E,w J,z⟩
   | cont=>
     obtain⟨B,E,J,z⟩:=z;exact⟨_,E,w J,z⟩
   | ret u=>
     obtain⟨v,B,E,J,rv,z⟩:=z;exact⟨v,_,E,w J,rv,z⟩
end
def VB:V->List V->Hp->VK->Prop:=λx b H Q=>∃(l:Addr)(a:hO)(y:Str)(j:Nat),x=.ref l/\b=[.str y]/\H l=some (.lst (a.map V.str))/\a[j]?=some y/\(∀i,i<j->a[i]?≠some y)/\j<100000/\Q (.int j) H
def eqS(y:Str):Value->Bool
 | .str i _=>i==y
 | _=>false
theorem J5{X:Cx}:Wz X "list.index" VB:=by
 intro E s R H x P v U Q I M O h;obtain⟨l,d,y,j,rfl,rfl,J,C,K,T,q⟩:=h;cases M;obtain⟨u,rfl,m⟩:=O.one;obtain⟨G,rfl⟩:=(show ∃t,u=Value.str y t from m);obtain⟨z,a,n,r,S,e⟩:=I.S8 J;have c:a.length=d.length:=by rw[<-r.length,ag]
 have p:∀(i:Nat)(v:Value),a[i]?=some v->∃x t,d[i]?=some x/\v=Value.str x t:=λi v f=>by
  have A:i<d.length:=by rw[<-c];exact(ay.mp f).1
  obtain⟨u,B,m⟩:=r.get (i:=i) (x:=V.str d[i]) (by rw[aQ,aB A];rfl);rw[f]at B;cases B;obtain⟨t,e⟩:=(show ∃t,v=Value.str d[i] t from m);exact⟨d[i],t,aB A,e⟩
 have D:j<a.length:=by rw[c];exact(ay.mp C).1
 refine call_meets F.slot_list_index ⟨_,e,rfl⟩ F.entry_list_index (F.args_list_index_2 _ _) (PySem.MeetsSeq.list_index l a.toArray n (.str y G) (eqS y) (λv N=>?_) j (by simpa using D) (by lia) ?_ λi f w=>?_) ⟨e,?_⟩
 .obtain⟨i,f,rfl⟩:=mZ (by simpa using N);obtain⟨x,t,_,g⟩:=p i a[i] (aB f);rw[g];exact λ_ _ _ _ _ _ h=>wpAny_eqBool_str h
 .obtain⟨x,t,k,g⟩:=p j a[j] (aB D);rw[C]at k;cases k;simp[g,eqS]
 .have RJ:i<a.length:=by simpa using f
  obtain⟨x,t,k,g⟩:=p i a[i] (aB RJ);have:x≠y:=λz=>K i w (by rw[k,z]);simp[g,eqS,this]
 .exact⟨.int j,H,I.kept (t':=s.toks+1) λb o L=>L,⟨s.toks,rfl⟩,q⟩
end L2
namespace Pb
open L2 PySem PySem.W
theorem Sz.fil{m:Int}{n:Nat}{s:List Int×List Int}(h:Sz m n s):(∀x∈s.1,0<=x)/\∀x∈s.2,0<=x:=⟨λx a=>(h.b1 x a).1,λx a=>(h.b2 x a).1⟩
inductive RK(m:Int)(rs:hU):List (List Int×List Int)->List Str->List Str->Prop
 | nil {S:List (List Int×List Int)}:RK m rs S [] []
 | cons {ο S:List (List Int×List Int)} {s:List Int×List Int} {z:Str} {o:Sum Str Nat} {zs as:hO} (sl:ο.length<=500) (sz:Sz m 1000 s) (h:Tc m rs ο s z o S) (al:(Aw o).length<=100000) (t:RK m rs S zs as):RK m rs (ο++[s]) (z::zs) (Aw o::as)
theorem RK.len{m:Int}{c:hU}{S:List (List Int×List Int)}{b as:hO}(h:RK m c S b as):b.length=as.length/\∀a∈as,a.length<=100000:=by
 induction h with
 | nil=>exact⟨rfl,λ_ h=>by cases h⟩
 | cons _ _ _ al _ ih=>exact⟨by rw[aJ,aJ,ih.1],λa ha=>by
  rcases aG.mp ha with rfl|ha
  .exact al
  .exact ih.2 a ha⟩
def Cv(Y:hO)(a:Str):Prop:=(Str.ofString "" ∉ Y/\a="refused web")\/∃(A B:hO)(d:Dv),Y=A++Str.ofString "" :: B/\Str.ofString "" ∉ A/\VZ 1900 30 A/\Due (if A=[]then[Str.ofString ""]else A) d/\((∀m c,d≠.ok m c)/\a="refused web"\/∃(m:Nat)(c:hU)(b:hO),d=.ok m c/\B.length<=100/\RK m c [(gE m,gE m)] B b/\a=Str.join (Str.ofString "\n") b)
end Pb
namespace Pb
open L2 PySem
theorem Lo(Y:hO):(Y.map V.str).all rA=true:=by
 rw[cw];intro x a;obtain⟨y,_,rfl⟩:=aW.mp a
 rfl
theorem OQ(y:Str)(Y:hO):Wx (.str y) (Y.map V.str)=decide (y∈Y):=by
 unfold Wx;rw[gO,List.any_eq_true,iI]
 constructor
 .rintro⟨x,hx,e⟩;obtain⟨z,a,rfl⟩:=aW.mp hx;have:z=y:=by simpa[Ub]using e
  rw[<-this];exact a
 .intro h;exact⟨_,aW.mpr ⟨y,h,rfl⟩,by simp[Ub]⟩
end Pb
namespace Pb
open L2 PySem PySem.W
structure ϥ(m:Int)(rs:hU)(z:Str):Prop where
 pl:Pl z
 len:z.length<=300
 ans:∀(n:Nat)(ο:List (List Int×List Int))(s:List Int×List Int),n<=900->(∀q∈ο++[s],Sz m n q)->∃o S,Tc m rs ο s z o S/\(Aw o).length<=100000/\S≠[]/\S.length<=ο.length+2/\∀q∈S,Sz m (n+1) q
theorem Sz.mono{m:Int}{n a:Nat}{s:List Int×List Int}(h:Sz m n s)(hn:n<=a):Sz m a s:=⟨h.l1,h.l2,λx b=>⟨(h.b1 x b).1,iz (h.b1 x b).2 (cQ (by lia) (by decide))⟩,h.b2⟩
theorem FD(c:Nat):(Jy c).length<=100000:=by
 unfold Jy;split<;>decide
section
variable{m:Int}{d:hU}{w:Str}{f:List Nat}
theorem EW{z:Str}(p:Pl z)(l:z.length<=300)(h:∀n a s,Sz m n s->n<=900->∃o,Tc m d a s z o (a++[s])/\(Aw o).length<=100000):ϥ m d z:=⟨p,l,λn a s e S=>by
 obtain⟨o,g,c⟩:=h n a s (S s (by simp)) e;exact⟨o,_,g,c,by simp,by simp,λq b=>(S q b).mono (by lia)⟩⟩
theorem Ho{z:Str}(p:Pl z)(l:z.length<=300)(h:AO z):ϥ m d z:=EW p l λn a s _ _=>⟨.inr 5,⟨h.1,.inl ⟨rfl,rfl,h⟩⟩,FD 5⟩
def Xd(w:Str):Bool:=decide (w.length<=10)&&w.cps.toList.all λc=>decide (c≠32/\c≠10/\c<128)
theorem Bo(h:Xd w=true):TR w/\Pl w:=by
 unfold Xd at h;rw[bw,iI,cw]at h;have k:=λc a=>bn (h.2 c a);exact⟨⟨h.1,λz=>(k _ z).1 rfl,λz=>(k _ z).2.1 rfl⟩,λc a=>⟨(k c a).2.2,(k c a).2.1⟩⟩
theorem pQ{k:Nat}(i:f.length=k)(g:∀k∈f,k<10^60)(h:∀n x y,Sz m n (x,y)->n<=1000->∃o,Q0 m d x y w f o)(b:Xd w=true:=by decide +kernel)(e:nb w=some k:=by decide +kernel):ϥ m d (ό w f):=by
 obtain⟨b,p⟩:=Bo b;subst i;have l:=sK b g;have:=IR e;refine EW (vI p f) (by lia) λn j s S q=>?_;obtain⟨o,t⟩:=h n s.1 s.2 S (by lia);refine⟨o,⟨by lia,.inr ⟨w,f,kW b f,g,e,.inr ⟨rfl,t⟩⟩⟩,?_⟩;cases o with
 | inl a=>exact t.len
 | inr c=>exact FD c
theorem vP{k:Nat}(g:f.length=k)(e:∀k∈f,k<10^60)(h:∀n a s,(∀q∈a++[s],Sz m n q)->∃o S,U5 m d a s w f o S/\S≠[]/\S.length<=a.length+2/\∀q∈S,Sz m (n+1) q)(b:Xd w=true:=by decide +kernel)(c:nb w=some k:=by decide +kernel):ϥ m d (ό w f):=by
 obtain⟨b,p⟩:=Bo b;subst g;have l:=sK b e;have:=IR c;refine⟨vI p f,by lia,λn a s j S=>?_⟩;obtain⟨o,i,t,r⟩:=h n a s S;refine⟨o,i,⟨by lia,.inr ⟨w,f,kW b f,e,c,.inl t⟩⟩,?_,r⟩;cases t<;>decide
theorem zY{n:Nat}{a:List (List Int×List Int)}{s t:List Int×List Int}(h:∀q∈a++[s],Sz m n q)(b:Sz m (n+1) t):∀q∈a++[s]++[t],Sz m (n+1) q:=λq hq=>by
 rcases aK.mp hq with hq|hq
 .exact(h q hq).mono (by lia)
 .rw[ax.mp hq];exact b
theorem yG{P:Int->Prop}{b:dm}{v:Nat}{y:Int}(h:∀x∈b,P x)(c:P y):∀x∈b.set v y,P x:=λx a=>by
 rcases eT a with a|rfl
 .exact h x a
 .exact c
theorem OM{v n:Nat}(e:m<=24)(h:(v:Int)<m)(g:n<10^60):ϥ m d (ό (Str.ofString "put") [v,n]):=by
 refine vP (k:=2) rfl (λk a=>?_) λk c s S=>⟨_,_,.put h,by simp,by simp,zY S ?_⟩
 .simp only[aG,bX,or_false]at a;rcases a with rfl|rfl<;>lia
 .have z:=S s (by simp);refine⟨by rw[b7];exact z.l1,z.l2,yG (λx b=>?_) ?_,z.b2⟩
  .have:=z.b1 x b
   lia
  .have:=qS (P:=λx=>0<=x/\x<=k*10^60) z.b1 (by lia) v
   lia
theorem MH{v n:Nat}(e:m<=24)(h:(v:Int)<m)(g:n<10^60):ϥ m d (ό (Str.ofString "want") [v,n]):=by
 refine vP (k:=2) rfl (λk a=>?_) λk c s S=>⟨_,_,.want h,by simp,by simp,zY S ?_⟩
 .simp only[aG,bX,or_false]at a;rcases a with rfl|rfl<;>lia
 .have z:=S s (by simp);exact⟨z.l1,by rw[b7];exact z.l2,λx b=>by have:=z.b1 x b;lia,yG z.b2 (by lia)⟩
theorem Nh{a b n:Nat}(g:Good m d)(j:Ta d a b)(D:1<=n)(C:n<=3):ϥ m d (ό (Str.ofString "step") [a,b,n]):=by
 have ω:=g.ω;obtain⟨B,A,_⟩:=g.Vs j;obtain⟨t,r,u,_⟩:=Ew g j;refine vP (k:=3) rfl (λk l=>?_) λk y s S=>?_
 .simp only[aG,bX,or_false]at l;rcases l with rfl|rfl|rfl<;>lia
 .have z:=S s (by simp);cases e:kE m d s.1 (a,b,n)with
  | false=>exact⟨_,_,.V5 e,by simp,by simp,λq p=>(S q p).mono (by lia)⟩
  | true=>
    refine⟨_,_,.step e,by simp,by simp,zY S ?_⟩;have c:=(L8 e).2;have q:=qS (P:=λx=>0<=x/\x<=k*10^60) z.b1 (by lia);have h:mO d a b=t:=(by unfold mO;rw[r];rfl);have v:(0:Int)<=n*t:=mK (by lia) (by lia);have c:(n:Int)*t<=s.1.getD a 0:=(by rw[<-h];exact c);have i:∀x∈s.1.set a (s.1.getD a 0-n*t),0<=x/\x<=k*10^60:=yG z.b1 (by have:=q a;lia);refine⟨by rw[DB];exact z.l1,z.l2,?_,z.b2⟩;unfold rE;show ∀x∈(s.1.set a (s.1.getD a 0-n*mO d a b)).set b ((s.1.set a (s.1.getD a 0-n*mO d a b)).getD b 0+n),_;rw[h];refine yG (λx o=>?_) ?_
    .have:=i x o
     lia
    .have:=qS (P:=λx=>0<=x/\x<=k*10^60) i (by lia) b
     lia
theorem MQ:ϥ m d (ό (Str.ofString "back") []):=by
 refine vP rfl (λk c=>by cases c) λk b s S=>?_;by_cases e:b=[]
 .exact⟨_,_,.V6 e,by simp,by simp,λq a=>(S q a).mono (by lia)⟩
 .exact⟨_,_,.back e,e,by lia,λq a=>(S q (bH _ a)).mono (by lia)⟩
theorem Kw:∀(a:hO)(n:Nat)(S:List (List Int×List Int)),(∀z∈a,ϥ m d z)->S≠[]->S.length+a.length<=400->n+a.length<=900->(∀q∈S,Sz m n q)->∃b,RK m d S a b
 | [],n,S,_,_,_,_,_=>⟨[],.nil⟩
 | z::a,n,S,h,ne,l,ln,hS=>by
   obtain⟨c,s,rfl⟩:=(fV S).resolve_left ne;rw[fS]at *;rw[ap,aJ,aJ,dD]at l;rw[aJ]at ln;obtain⟨o,i,p,e,j,r,g⟩:=(h z (.head _)).ans n c s (by lia) hS;obtain⟨b,t⟩:=Kw a (n+1) i (λz k=>h z (.tail _ k)) j (by lia) (by lia) g;exact⟨_,.cons (by lia) ((hS s (by simp)).mono (by lia)) p e t⟩
theorem O7(c:0<=m):∀q∈[(gE m,gE m)],Sz m 0 q:=λq b=>by
 rw[ax.mp b];have l:((gE m).length:Int)=m:=by rw[yW];lia
 refine⟨l,l,λx a=>?_,λx a=>?_⟩<;>rw[(iC.mp a).2]<;>decide
end
end Pb
namespace Pb
open L2 PySem PySem.W NumText
theorem Gm{a b:Nat}(h:FS a=FS b):a=b:=by
 have:fA a=fA b:=by rw[<-nC,<-nC,h]
 rw[<-wx a,<-wx b,this]
theorem HH:∀{a b:List Nat},a.map FS=b.map FS->a=b
 | [],[],_=>rfl
 | [],_::_,h=>by cases h
 | _::_,[],h=>by cases h
 | x::a,y::b,h=>by
   obtain⟨d,c⟩:=ck h;rw[Gm d,HH c]
theorem aT.is{b y:Str}{n:Nat}{a:List Nat}(h:aT b n y a):Le y=b::a.map FS/\a.length=n:=by
 obtain⟨f,e,c,d⟩:=h;rw[e,(CW c).1];exact⟨rfl,d⟩
def sF(A:hO):Prop:=∃a,Due (if A=[]then[Str.ofString ""]else A) a/\∀m b,a≠.ok m b
theorem Es{A:hO}(h:∀m a,¬Due (if A=[]then[Str.ofString ""]else A) (.ok m a)):sF A:=by
 obtain⟨b,d⟩:=Kd (Y:=if A=[]then[Str.ofString ""]else A) (by split<;>simp[*]);exact⟨b,d,λm a e=>h m a (e▸d)⟩
theorem B5{A:hO}{m:Nat}{d:hU}(h:Due A (.ok m d)):A.length=m/\Good m d/\(∃y,A[0]?=some y/\Le y=[Τ,FS m])/\∀i y,A[i+1]?=some y->∃c,c.length=4/\Le y=Ε::c.map FS/\d[i]?=some (ϗ c):=by
 obtain⟨a,⟨l,o,n⟩,rfl,g⟩:=h;have e:QZ m=m:=by
  have:=g.m1;have:=g.ω;unfold QZ;rw[ao (by lia)]
 refine⟨by lia,g,?_,λi y b=>?_⟩
 .obtain⟨y,b,r⟩:=l.one;exact⟨y,b,r.is.1⟩
 .have il:=(ay.mp b).1;have f:a[i]?=some a[i]:=aB (by lia);obtain⟨k,j,r⟩:=l.row i _ f;rw[b]at j;cases j;exact⟨_,r.is.2,r.is.1,by rw[aQ,f];rfl⟩
theorem vH{A:hO}(h:∀y,A[0]?=some y->∀k,Le y≠[Τ,FS k]):sF A:=Es λm b d=>by
 obtain⟨_,_,⟨y,a,e⟩,_⟩:=B5 d;split at a
 .cases a;have:Le (Str.ofString "")=[Str.ofString ""]:=by decide +kernel
  rw[this]at e;cases e
 .exact h y a _ e
theorem AK{A:hO}{k:Nat}(a:A[0]?=some (ό Τ [k]))(c:A.length≠k):sF A:=Es λm f d=>by
 rw[ah (by rintro rfl;cases a)]at d;obtain⟨l,_,⟨y,b,e⟩,_⟩:=B5 d;rw[a]at b;cases b;rw[show Le (ό Τ [k])=[Τ,FS k]from kW yS [k]]at e;have:FS k=FS m:=(ck (ck e).2).1;exact c (by rw[l,Gm this])
theorem Pq{A:hO}{i:Nat}{y:Str}(a:A[i+1]?=some y)(n:(Le y).length≠5):sF A:=Es λm b d=>by
 rw[ah (by rintro rfl;cases a)]at d;obtain⟨c,l,e,_⟩:=(B5 d).2.2.2 i y a;rw[e,aJ,ag,l]at n;exact n rfl
theorem Fd{k:Nat}{nss:List (List Nat)}(a:¬Good k (nss.map ϗ)):sF (ό Τ [k]::nss.map (ό Ε)):=Es λm f d=>by
 rw[ah (by simp)]at d;obtain⟨l,g,⟨y,b,e⟩,r⟩:=B5 d;cases b;rw[show Le (ό Τ [k])=[Τ,FS k]from kW yS [k]]at e;have:k=m:=Gm (ck (ck e).2).1;subst this;refine a ?_;have:f=nss.map ϗ:=by
  have h:=g.len;rw[aJ,ag]at l;refine gU λi=>?_;by_cases c:i<nss.length
  .obtain⟨ns,_,e,q⟩:=r i (ό Ε nss[i]) (by rw[gD,aQ,aB c];rfl);rw[show Le (ό Ε nss[i])=Ε::nss[i].map FS from kW rj _]at e;rw[q,aQ,aB c,HH (ck e).2]
   rfl
  .rw[ce (by lia),ce (by rw[ag];lia)]
 rw[<-this];exact g
theorem Good.twice{m:Int}{a:hU}(g:Good m a){i j:Nat}{x:Road}(b:a[i]?=some x)(d:a[j]?=some x):i=j:=by
 have m1:=g.m1;obtain⟨e,c,R⟩:=vE g (dU 0) (by lia);refine(List.getElem?_inj (by rw[ag];exact(ay.mp b).1) R.one).mp ?_;rw[aQ,aQ,b,d]
theorem sM(w:Str):ό w []=w:=q9 _ _
theorem FX{u w:Str}(h:u=w++Str.ofString " ")(v:Nat):u++FS v=ό w [v]:=by
 unfold ό;rw[h,bh,cZ,Dr,q9,uo]
theorem JU{w:Str}{a:dm}(ne:a≠[])(h:∀z∈a,0<=z):w++Str.ofString " " ++ Ug a=ό w (a.map Int.toNat):=by
 have e:a.map tI=(a.map Int.toNat).map FS:=by
  rw[dN];refine dG λz b=>?_;have:=tU z.toNat;rw[bJ (h z b)]at this;exact this
 unfold Ug ό;rw[e];cases a with
 | nil=>exact absurd rfl ne
 | cons z a=>rw[bh,bh,Dr,uo]
theorem CL{m:Int}{g:hU}{w:Str}{a:List Nat}(f:Wd w)(d:∀n∈a,n<10^60)(l:a.length<=3)(b:∀n,nb w=some n->a.length≠n)(c:Xd w=true:=by decide +kernel):ϥ m g (ό w a):=by
 obtain⟨c,p⟩:=Bo c;have i:=sK c d;refine Ho (vI p a) (by lia) (FJ f (λx e=>?_) (by rw[ag];lia) λn h=>.inl (by rw[ag];exact b n h));obtain⟨n,h,rfl⟩:=aW.mp e;exact Wd.fs (d n h)
theorem Og{m:Int}{f:hU}(g:Good m f){v:Nat}(i:v<10^60):∀z∈[Str.ofString "laying",Str.ofString "wish",Str.ofString "most " ++ FS v,Str.ofString "bring " ++ FS v,Str.ofString "stands " ++ FS v,Str.ofString "meet",Str.ofString "lay",Str.ofString "",Str.ofString "back 1",Str.ofString "always",Str.ofString "put " ++ FS v],ϥ m f z:=by
 have b:∀k∈[v],k<10^60:=λk d=>by rw[ax.mp d];exact i
 have c:∀k∈([]:List Nat),k<10^60:=λk d=>by cases d
 intro z e;simp only[aG,bX,or_false]at e;rcases e with rfl|rfl|rfl|rfl|rfl|rfl|rfl|rfl|rfl|rfl|rfl
 .rw[<-sM (Str.ofString "laying")];exact pQ rfl c λn x y S a=>(tV g S a).1
 .rw[<-sM (Str.ofString "wish")];exact pQ rfl c λn x y S a=>(tV g S a).2.1
 .rw[FX (w:=Str.ofString "most") (by decide +kernel)];exact pQ (k:=1) rfl b λn x y S a=>(tV g S a).2.2.1 v
 .rw[FX (w:=Str.ofString "bring") (by decide +kernel)];exact pQ (k:=1) rfl b λn x y S a=>(tV g S a).2.2.2.1 v
 .rw[FX (w:=Str.ofString "stands") (by decide +kernel)];exact pQ (k:=1) rfl b λn x y S a=>(tV g S a).2.2.2.2.1 v
 .rw[<-sM (Str.ofString "meet")];exact pQ rfl c λn x y S a=>(tV g S a).2.2.2.2.2.1
 .rw[<-sM (Str.ofString "lay")];exact CL (by decide +kernel) c (by decide) λn h=>by
   rw[show nb (Str.ofString "lay")=none by decide +kernel]at h;cases h
 .exact Ho (by unfold Pl;decide +kernel) (by decide) (K2 _ (.head _))
 .rw[show Str.ofString "back 1"=ό (Str.ofString "back") [1] by rw[<-FX (u:=Str.ofString "back ") (by decide +kernel),<-Px];decide +kernel];exact CL (by decide +kernel) (λk d=>by rw[ax.mp d];decide) (by decide) λn h=>by
   rw[show nb (Str.ofString "back")=some 0 by decide +kernel]at h;cases h
   decide
 .rw[<-sM (Str.ofString "always")];exact pQ rfl c λn x y S a=>(tV g S a).2.2.2.2.2.2.1
 .rw[FX (w:=Str.ofString "put") (by decide +kernel)];exact CL (by decide +kernel) b (by show 1<=3;decide) λn h=>by
   rw[show nb (Str.ofString "put")=some 2 by decide +kernel]at h;cases h;show 1≠2
   decide
theorem Oi{m:Int}{j:hU}(g:Good m j){D:Dd}(d:D.Ok m j)(b:∀y∈D.ns,0<=y/\y<10^60)(nb:∀v n,D≠.back v n):ϥ m j (ό D.wd (D.ns.map Int.toNat)):=by
 have ω:=g.ω;have i:∀{y:Int},0<=y->y=((y.toNat:Nat):Int):=λh=>by lia
 cases D with
 | put v n=>
   have e:=b v (by simp[Dd.ns]);have f:=b n (by simp[Dd.ns]);exact OM ω (by have:=d.1;lia) (by lia)
 | want v n=>
   have e:=b v (by simp[Dd.ns]);have f:=b n (by simp[Dd.ns]);exact MH ω (by have:=d.1;lia) (by lia)
 | back v n=>exact absurd rfl (nb v n)
 | step a c n=>
   have e:=b a (by simp[Dd.ns]);have f:=b c (by simp[Dd.ns]);obtain⟨k,o,l⟩:=d;exact Nh g (by rw[<-i e.1,<-i f.1];exact k) (by lia) (by lia)
def Rl(X:hO):Prop:=VZ 400 26 X/\∃A B,X++[Str.ofString ""]=A++Str.ofString "" :: B/\Str.ofString "" ∉ A/\sF A
theorem JX{X:hO}(o:VZ 400 26 X)(n:Str.ofString "" ∉ X)(h:sF X):Rl X:=⟨o,X,[],rfl,n,h⟩
theorem FI{y:Str}(h:y.length≠0):Str.ofString ""≠y:=λz=>h (by rw[<-z];rfl)
theorem C5{w:Str}(b:w.length≠0)(a:List Nat):(ό w a).length≠0:=by
 rw[eL,qH];rw[eL]at b;cases a with
 | nil=>exact b
 | cons n a=>
   show(w.cps.toList++[32]++fK [32] (fA n::a.map fA)).length≠0;rw[ap,ap,bM]
   lia
section
variable{m:Int}{a:hU}
theorem zP(g:Good m a){i:Nat}{y:Str}(h:(bW m a)[i]?=some y):∃w b,y=ό w b/\b≠[]/\Xd w=true/\w.length≠0/\b.length<=4/\(∀n∈b,n<10^60)/\((i=0/\w=Τ/\b=[m.toNat])\/(i≠0/\w=Ε/\b.length=4)):=by
 have ω:=g.ω;cases i with
 | zero=>
   cases h;exact⟨_,_,rfl,by simp,by decide +kernel,by decide,by simp,λn d=>by rw[ax.mp d];lia,.inl ⟨rfl,rfl,rfl⟩⟩
 | succ i=>
   obtain⟨r,c,rfl⟩:=List.ν (show(a.map oG)[i]?=some y from h);exact⟨Ε,iJ r,rfl,by simp[iJ],by decide +kernel,by decide,aN _,(Cf (g.ok r (aO c)) ω).2,.inr ⟨by lia,rfl,rfl⟩⟩
theorem wG(g:Good m a):∀y∈bW m a,Str.ofString ""≠y:=λy c=>by
 obtain⟨i,d⟩:=cq c;obtain⟨w,b,rfl,_,_,h,_⟩:=zP g d;exact FI (C5 h b)
theorem vf(g:Good m a){X:hO}{z:Str}(l:X.length<=26)(b:Pl z/\z.length<=400/\z.length≠0)(h:∀y∈X,y∈bW m a\/y=z)(c:sF X):Rl X:=by
 refine JX ⟨l,λy d=>?_⟩ (λe=>?_) c
 .rcases h y d with h|rfl
  .exact⟨wj y h,aR (ut g y h) (by decide)⟩
  .exact⟨b.1,b.2.1⟩
 .rcases h _ e with h|h
  .exact wG g _ h rfl
  .exact FI b.2.2 h
theorem Lj:Pl (Str.ofString "x")/\(Str.ofString "x").length<=400/\(Str.ofString "x").length≠0:=by
 refine⟨by unfold Pl;decide +kernel,by decide,by decide⟩
theorem HS(g:Good m a){i:Nat}{y z:Str}(o:(bW m a)[i]?=some y)(r:Pl z/\z.length<=400/\z.length≠0)(n:∀w b,y=ό w b->Xd w=true->b≠[]->(∀n∈b,n<10^60)->(Le z).length=b.length+2):Rl ((bW m a).take i++[z]++(bW m a).drop (i+1)):=by
 have s:=(ay.mp o).1;have u:=iY g;have ω:=g.ω;have f:((bW m a).take i).length=i:=by rw[aZ];lia
 have c:((bW m a).take i++[z]++(bW m a).drop (i+1))[i]?=some z:=by
  rw[b4,cA (by lia),f,eW]
  rfl
 refine vf g (by rw[ap,ap,f,bZ,bM];lia) r (λq hq=>?_) ?_
 .rcases aK.mp hq with hq|hq
  .rcases aK.mp hq with hq|hq
   .exact .inl (dB hq)
   .exact .inr (ax.mp hq)
  .exact .inl (cJ hq)
 .obtain⟨w,b,e,ne,hw,_,_,hn,h⟩:=zP g o;have l:=n w b e hw ne hn;rcases h with⟨rfl,_,rfl⟩|⟨i0,_,h4⟩
  .refine vH λt d k p=>?_;rw[c]at d;cases d;rw[p]at l;cases l
  .obtain⟨j,rfl⟩:∃j,i=j+1:=⟨i-1,by lia⟩;exact Pq c (by lia)
theorem QR(g:Good m a){i:Nat}(l:i<(bW m a).length):Rl ((bW m a).take i++(bW m a).drop (i+1)):=by
 have j:=iY g;have ω:=g.ω;have m1:=g.m1;refine vf g (by rw[ap,aZ,bZ];lia) Lj (λq hq=>.inl ?_) ?_
 .rcases aK.mp hq with hq|hq
  .exact dB hq
  .exact cJ hq
 .by_cases c:i=0
  .subst c;refine vH λy d k e=>?_;rw[eB,jk,List.getElem?_drop]at d;obtain⟨w,b,rfl,_,f,_,_,_,⟨h,_⟩|⟨_,rfl,_⟩⟩:=zP g d
   .lia
   .rw[show Le (ό Ε b)=Ε::b.map FS from kW rj b]at e;exact absurd (ck e).1 (by decide)
  .refine AK (k:=m.toNat) ?_ ?_
   .rw[cD (by rw[aZ];lia),jZ,ao (by lia)]
    rfl
   .rw[ap,aZ,bZ]
    lia
theorem EC(g:Good m a){X:hO}{z:Str}(b:X[0]?=some (ό Τ [m.toNat]))(l:X.length=(bW m a).length+1)(c:Pl z/\z.length<=400/\z.length≠0)(h:∀y∈X,y∈bW m a\/y=z):Rl X:=by
 have d:=iY g;have ω:=g.ω;exact vf g (by lia) c h (AK b (by lia))
theorem QT(g:Good m a){i:Nat}(b:i<(bW m a).length):Rl ((bW m a).take (i+1)++(bW m a).drop i):=by
 refine EC g ?_ (by rw[ap,aZ,bZ];lia) Lj λq hq=>.inl ?_
 .rw[cD (by rw[aZ];lia),jZ,ao (by lia)]
  rfl
 .rcases aK.mp hq with hq|hq
  .exact dB hq
  .exact cJ hq
theorem NV(w:Str)(b:List Nat):ό w b++Str.ofString " "=Str.join (Str.ofString " ") (w::(b.map FS++[Str.ofString ""])):=MD w (b.map FS)
theorem Me{w:Str}{b:List Nat}(n:Nat):ό w b++(Str.ofString " " ++ FS n)=ό w (b++[n]):=by
 unfold ό;rw[aE,<-List.cons_append,Aj (by simp) (by simp),<-uo,bh,cZ,q9]
theorem Fl{y z:Str}(c:Pl y/\y.length<=305)(b:Pl z)(l:z.length<=20)(d:z.length≠0):Pl (y++z)/\(y++z).length<=400/\(y++z).length≠0:=⟨c.1.app b,by rw[qQ];lia,by rw[qQ];lia⟩
theorem yV(g:Good m a){i:Nat}{y:Str}(b:(bW m a)[i]?=some y):Pl y/\y.length<=305:=⟨wj y (aO b),ut g y (aO b)⟩
theorem QJ(g:Good m a){i:Nat}{y:Str}(b:(bW m a)[i]?=some y):Rl ((bW m a).take i++[y++Str.ofString " "]++(bW m a).drop (i+1)):=HS g b (Fl (yV g b) (by unfold Pl;decide +kernel) (by decide) (by decide)) λw f e c _ d=>by
 subst e;rw[NV,Fs (by simp) λq hq z=>?_]
 .simp
 .rcases aG.mp hq with rfl|hq
  .exact(Bo c).1.sp z
  .rcases aK.mp hq with hq|hq
   .obtain⟨n,h1,rfl⟩:=aW.mp hq;have:=qV n 32 z
    lia
   .rw[ax.mp hq]at z;cases z
theorem Qu(g:Good m a){i:Nat}{y:Str}(b:(bW m a)[i]?=some y):Rl ((bW m a).take i++[y++Str.ofString " 1"]++(bW m a).drop (i+1)):=HS g b (Fl (yV g b) (by unfold Pl;decide +kernel) (by decide) (by decide)) λw c e d _ f=>by
 subst e;rw[show Str.ofString " 1"=Str.ofString " " ++ FS 1 by rw[<-Px];decide +kernel,Me,show Le (ό w (c++[1]))=_ from kW (Bo d).1 _];simp
theorem QS(g:Good m a){i:Nat}{y:Str}(b:(bW m a)[i]?=some y):Rl ((bW m a).take i++[Str.ofString "",y]++(bW m a).drop (i+1)):=by
 have e:=(ay.mp b).1;have f:=iY g;have ω:=g.ω;refine⟨⟨by rw[ap,ap,aZ,bZ];show _+2+_<=_;lia,λq hq=>?_⟩,(bW m a).take i,y::(bW m a).drop (i+1)++[Str.ofString ""],by simp,λz=>wG g _ (dB z) rfl,?_⟩
 .have:q∈bW m a\/q=Str.ofString "":=by
   rcases aK.mp hq with hq|hq
   .rcases aK.mp hq with hq|hq
    .exact .inl (dB hq)
    .simp only[aG,bX,or_false]at hq;rcases hq with rfl|rfl
     .exact .inr rfl
     .exact .inl (aO b)
   .exact .inl (cJ hq)
  rcases this with h|rfl
  .exact⟨wj q h,aR (ut g q h) (by decide)⟩
  .exact⟨by unfold Pl;decide +kernel,by decide⟩
 .by_cases c:i=0
  .subst c;exact vH λy d=>by simp at d
  .refine AK (k:=m.toNat) ?_ (by rw[aZ];lia);rw[jZ,ao (by lia)]
   rfl
theorem DD(g:Good m a){z:Str}(c:Pl z/\z.length<=400/\z.length≠0)(b:sF ([z]++(bW m a).drop 1)):Rl ([z]++(bW m a).drop 1):=by
 have d:=iY g;have ω:=g.ω;refine vf g (by rw[ap,bZ];show 1+_<=_;lia) c (λq hq=>?_) b;rcases aK.mp hq with hq|hq
 .exact .inr (ax.mp hq)
 .exact .inl (cJ hq)
theorem QU(g:Good m a){u:Str}(b:Pl u/\u.length<=305):Rl ([Str.ofString "Web" ++ u]++(bW m a).drop 1):=by
 refine DD g ⟨Pl.app (by unfold Pl;decide +kernel) b.1,by rw[qQ,show(Str.ofString "Web").length=3 from rfl];lia,by rw[qQ,show(Str.ofString "Web").length=3 from rfl];lia⟩ (vH λy c k e=>?_);cases c;have:=wD (Str.ofString "Web" ++ u) (Str.ofString " ");rw[show Txt.split (Str.ofString "Web" ++ u) (Str.ofString " ")=[Τ,FS k]from e,app_list]at this;have:=congrArg List.head? this;exact absurd (show some 119=some 87 from this) (by decide)
theorem Qx(g:Good m a):Rl ([ό Τ [m.toNat]++Str.ofString "0"]++(bW m a).drop 1):=by
 have b:=iY g;have m1:=g.m1;have e:ό Τ [m.toNat]++Str.ofString "0"=ό Τ [10*m.toNat]:=kg (by
  rw[app_list,qH,qH];show Τ.cps.toList++[32]++fA m.toNat++[48]=Τ.cps.toList++[32]++fA (10*m.toNat);rw[pS (n:=10*m.toNat) (by lia),b4 _ (fA m.toNat),show 10*m.toNat/10=m.toNat by lia,show 10*m.toNat%10=0 by lia])
 refine DD g (Fl (yV g (i:=0) rfl) (by unfold Pl;decide +kernel) (by decide) (by decide)) ?_;rw[e];refine AK rfl ?_;rw[ap,bZ];show 1+_≠_
 lia
theorem QX(g:Good m a):Rl (bW m a++[Str.ofString "road 0 0 2 2"]):=by
 refine EC g rfl (by rw[ap];rfl) ⟨(by unfold Pl;decide +kernel:Pl (Str.ofString "road 0 0 2 2")),by decide,by decide⟩ λq hq=>?_;rcases aK.mp hq with hq|hq
 .exact .inl hq
 .exact .inr (ax.mp hq)
theorem nws(g:Good m a){j:Nat}(f:j<a.length){b:List Nat}(l:b.length=4)(h:∀n∈b,n<10^60)(c:¬Good m (a.set j (ϗ b))):Rl ((bW m a).take (j+1)++[ό Ε b]++(bW m a).drop (j+2)):=by
 have o:=iY g;have m1:=g.m1;have ω:=g.ω;have i:=g.len;have k:=sK rj h;refine vf g (z:=ό Ε b) (by rw[ap,ap,aZ,bZ,bM];lia) ⟨vI (by unfold Pl;decide +kernel) _,by lia,C5 (by decide) _⟩ (λq hq=>?_) ?_
 .rcases aK.mp hq with hq|hq
  .rcases aK.mp hq with hq|hq
   .exact .inl (dB hq)
   .exact .inr (ax.mp hq)
  .exact .inl (cJ hq)
 .have e:(bW m a).take (j+1)++[ό Ε b]++(bW m a).drop (j+2)=ό Τ [m.toNat]::((a.map iJ).set j b).map (ό Ε):=by
   unfold bW;rw[List.take_succ_cons,show j+2=(j+1)+1 from rfl,nP,cY,dN,List.set_eq_take_append_cons_drop,ao (by rw[ag];exact f)];show _::(a.map oG).take j++[ό Ε b]++(a.map oG).drop (j+1)=_::((a.map oG).take j++ό Ε b::(a.map oG).drop (j+1));simp
  rw[e];refine Fd λz=>c ?_;rw[bJ (by lia),cY,dN]at z;rw[show a.map (ϗ ∘ iJ)=a from(dG λr d=>xJ (g.ok r d)).trans (List.map_id _)]at z;exact z
theorem tN{j:Nat}(b:j<a.length){x:Road}(h:¬Ϡ m x):¬Good m (a.set j x):=λz=>h (z.ok x (aO (cN b)))
theorem Lq{j i:Nat}(c:j<a.length){x:Road}(d:a[i]?=some x)(b:i≠j):¬Good m (a.set j x):=λz=>b (z.twice (by rw[cV (Ne.symm b)];exact d) (cN c))
theorem KI:Rl [Str.ofString "web 0"]/\Rl [Str.ofString "web 25"]:=by
 have k:∀{k:Nat}{z:Str},z=ό Τ [k]->¬Good k []->Pl z/\z.length<=400->Rl [z]:=λ{k z} e ng hz=>by
  refine JX ⟨eO rfl,λy b=>by rw[ax.mp b];exact hz⟩ (λy=>?_) (by rw[e];exact Fd (nss:=[]) ng);rw[ax,e]at y;exact FI (C5 (by decide) _) y
 refine⟨k (k:=0) ?_ (λg=>absurd g.m1 (by decide)) ⟨by unfold Pl;decide +kernel,by decide⟩,k (k:=25) ?_ (λg=>absurd g.ω (by decide)) ⟨by unfold Pl;decide +kernel,by decide⟩⟩
 .rw[<-Cp,<-qm];decide +kernel
 .rw[<-Cp,<-qm];decide +kernel
theorem Ga(g:Good m a){Z b:hO}(l:Z.length<=100)(w:RK m a [(gE m,gE m)] Z b):Cv (bW m a++[Str.ofString ""]++Z) (Str.join (Str.ofString "\n") b):=by
 have m1:=g.m1;obtain⟨f,c⟩:=C6 g;have e:((m.toNat:Nat):Int)=m:=bJ (by lia);refine .inr ⟨bW m a,Z,.ok m.toNat a,by simp,λz=>wG g _ z rfl,⟨by lia,λy d=>⟨(c y d).1,aR (c y d).2 (by decide)⟩⟩,?_,.inr ⟨_,_,b,rfl,l,by rw[e];exact w,rfl⟩⟩;rw[ah (by unfold bW;simp)];exact KW g
theorem PK(g:Good m a):Cv (bW m a) (Str.ofString "refused web"):=.inl ⟨λz=>wG g _ z rfl,rfl⟩
theorem Oh{X Z:hO}(h:Rl X):Cv (X++[Str.ofString ""]++Z) (Str.ofString "refused web"):=by
 obtain⟨⟨j,c⟩,A,B,e,n,g,d,i⟩:=h;have f:=congrArg List.length e;rw[ap,ap,bM,aJ]at f;refine .inr ⟨A,B++Z,g,by rw[e];simp,n,⟨by lia,λy b=>?_⟩,d,.inl ⟨i,rfl⟩⟩;have:y∈X++[Str.ofString ""]:=by rw[e];exact bH _ b
 rcases aK.mp this with h|h
 .exact⟨(c y h).1,aR (c y h).2 (by decide)⟩
 .rw[ax.mp h]at b;exact absurd b n
theorem Iw{Z:hO}:Cv (Str.ofString "" :: Z) (Str.ofString "refused web"):=by
 obtain⟨c,d,e⟩:=vH (A:=[]) λy b=>by cases b
 exact .inr ⟨[],Z,c,rfl,by simp,⟨by decide,λy b=>by cases b⟩,d,.inl ⟨e,rfl⟩⟩
theorem Dw{Y:hO}(ne:Y≠[])(h:∀y∈Y,Pl y/\y.length<=400)(l:Y.length<=100):Txt.split (Str.join (Str.ofString "\n") Y) (Str.ofString "\n")=Y/\(Str.join (Str.ofString "\n") Y).length<=60000/\(Y.map (·.length)).sum+Y.length*(Str.ofString "\n").length<=16777216:=by
 have b:∀w∈Y,w.length<=400:=λw e=>(h w e).2;have d:=sS (z:=Str.ofString "\n") b;have g:=rR b;rw[show(Str.ofString "\n").length=1 from rfl]at d ⊢;exact⟨sB (c:=10) ne λy f=>(h y f).1.row,by lia,by lia⟩
end
end Pb
namespace Pb
open PySem L2
abbrev Td(P:Program)(w:World)(K:fv)(c:hL)(a:Heap)(x q:Str)(st:Stmt)(e:hO)(k:Nat)(d:Sp):Prop:=∀(f:Addr)(b:FuncData),U0 K x q st f b->ϋ P w K c a (ψ P w) k f b e d
structure Cm(P:Program)(w:World)(K:fv)(mg:hL)(base:Heap)(R:Addr->Prop)(x q:Str)(st:Stmt)(ps:hO)(k:Nat)(sp:Sp) where
 f:Addr
 fd:FuncData
 F:U0 K x q st f fd
 b:Binds K fd ps []
 M:R f
 G:ϋ P w K mg base (ψ P w) k f fd ps sp
theorem df{K:fv}{h:Heap}{n:hL}(X:K.In h)(G:h.Ns mainGlobals n){x:Str}{st:Stmt}{ps:hO}{f:Addr}{p:Value}{q j:Option Addr}{o:Array (Option Value)}{kV d i g k:Value}(a:PySem.W.nsIn K mainGlobals x=some (some (.ref f)):=by k_is)(l:K.lookup f=some ⟨p,q,.func (PySem.W.fnOf x x (kf st) (jh st) (aF st) .none kV d i j g k),o⟩:=by k_is)(c:PySem.W.codeIn K g x=true:=by k_is)(e:PySem.W.keepIn K (.ref f)=true:=by k_is)(b:∀(kV d i:Value) (j:Option Addr) (g k:Value) (m:g8),m.length=ps.length->bindArgs (PySem.W.fnOf x x (kf st) (jh st) (aF st) .none kV d i j g k) ⟨m,[]⟩=pure (ps.zip m):=by intro _ _ _ _ _ _ _ z;first|(obtain⟨_,rfl⟩:=L2.Ys z;rfl)|(obtain⟨_,_,rfl⟩:=L2.ZG z;rfl)|(obtain⟨_,_,_,rfl⟩:=L2.ZH z;rfl)|(obtain⟨_,_,_,_,rfl⟩:=L2.us4 z;rfl)):Df K n x st ps f (PySem.W.fnOf x x (kf st) (jh st) (aF st) .none kV d i j g k):=⟨yj (st:=st) l c e,jW X G a,(yj (st:=st) l c e).binds b⟩
def cd{P:Program}{w:World}{K:fv}{h:Heap}{m:hL}{d:Heap}(X:K.In h)(G:h.Ns mainGlobals m){x:Str}{st:Stmt}{i:hO}{k:Nat}{s:Sp}{f:Addr}{u:Value}{v p:Option Addr}{t:Array (Option Value)}{kV g n j q:Value}(o:Ok P w K m d x st i k s)(a:PySem.W.nsIn K mainGlobals x=some (some (.ref f)):=by k_is)(l:K.lookup f=some ⟨u,v,.func (PySem.W.fnOf x x (kf st) (jh st) (aF st) .none kV g n p j q),t⟩:=by k_is)(c:PySem.W.codeIn K j x=true:=by k_is)(e:PySem.W.keepIn K (.ref f)=true:=by k_is)(b:∀(kV g n:Value) (p:Option Addr) (j q:Value) (r:g8),r.length=i.length->bindArgs (PySem.W.fnOf x x (kf st) (jh st) (aF st) .none kV g n p j q) ⟨r,[]⟩=pure (i.zip r):=by intro _ _ _ _ _ _ _ z;first|(obtain⟨_,rfl⟩:=L2.Ys z;rfl)|(obtain⟨_,_,rfl⟩:=L2.ZG z;rfl)|(obtain⟨_,_,_,rfl⟩:=L2.ZH z;rfl)|(obtain⟨_,_,_,_,rfl⟩:=L2.us4 z;rfl)):Cb P w K m d x st i k s:=cb (df X G a l c e b) (o _ _ (df X G a l c e b))
theorem adt{K:fv}{C:Addr}{a:Str}(e:PySem.W.findIn K (.ref C) a=some none):Ν K C a:=e
def cm{P:Program}{w:World}{K:fv}{p:hL}{a:Heap}{x q:Str}{st:Stmt}{g:hO}{k:Nat}{s:Sp}{C f:Addr}{u:Value}{v j:Option Addr}{t:Array (Option Value)}{kV d i h m:Value}(y:Str){R:PySem.W.Frag->Addr->Addr->Prop}(o:Td P w K p a x q st g k s)(_n:PySem.W.nsIn K mainGlobals y=some (some (.ref C)):=by k_is)(_a:PySem.W.findIn K (.ref C) x=some (some (.ref f)):=by k_is)(r:R K C f:=by first|exact⟨by k_is,by k_is,by k_is⟩|exact⟨by k_is,by k_is,by k_is,by k_is⟩|exact L2.UC _ _ _ _ _ _ _ _ _ _ _ _ _ _ _ _ (by k_is) (by rfl) (by kernel_rfl) (by k_is) (by kernel_rfl) (by k_is))(l:K.lookup f=some ⟨u,v,.func (PySem.W.fnOf x q (kf st) (jh st) (aF st) .none kV d i j h m),t⟩:=by k_is)(c:PySem.W.codeIn K h q=true:=by k_is)(e:PySem.W.keepIn K (.ref f)=true:=by k_is)(b:∀(kV d i:Value) (j:Option Addr) (h m:Value) (n:g8),n.length=g.length->bindArgs (PySem.W.fnOf x q (kf st) (jh st) (aF st) .none kV d i j h m) ⟨n,[]⟩=pure (g.zip n):=by intro _ _ _ _ _ _ _ z;first|(obtain⟨_,rfl⟩:=L2.Ys z;rfl)|(obtain⟨_,_,rfl⟩:=L2.ZG z;rfl)|(obtain⟨_,_,_,rfl⟩:=L2.ZH z;rfl)|(obtain⟨_,_,_,_,rfl⟩:=L2.us4 z;rfl)):Cm P w K p a (R K C) x q st g k s:=⟨f,_,yj (st:=st) l c e,(yj (st:=st) l c e).binds b,r,o _ _ (yj (st:=st) l c e)⟩
theorem lw{P:Program}{w:World}{K:fv}{h:Heap}{i:hL}(X:K.In h)(G:h.Ns mainGlobals i){x:Str}{st:Stmt}{k:Nat}{y:Sp}{f:Addr}{B:Value}{C p:Option Addr}{A:Array (Option Value)}{kV g m j q:Value}{t:Addr}{n:Str}(r:i x=some (.ref t))(o:∀d:Heap,Ok P w K i d x st [n] k y)(a:PySem.W.nsIn K mainGlobals x=some (some (.ref f)):=by k_is)(l:K.lookup f=some ⟨B,C,.func (PySem.W.fnOf x x (kf st) (jh st) (aF st) .none kV g m p j q),A⟩:=by k_is)(c:PySem.W.codeIn K j x=true:=by k_is)(e:PySem.W.keepIn K (.ref f)=true:=by k_is)(b:∀(kV g m:Value) (p:Option Addr) (j q v:Value),bindArgs (PySem.W.fnOf x x (kf st) (jh st) (aF st) .none kV g m p j q) ⟨[v],[]⟩=pure [(n,v)]:=by intros;rfl):∃u:FuncData,(∀(s:Shared)(v:Value),BindsTo s u ⟨[v],[]⟩ [(n,v)])/\∀d:Heap,K.In d->d.Ns mainGlobals i->ϋ P w K i d (ψ P w) k t u [n] y:=by
 cases r.symm.trans (jW X G a);exact⟨_,λs v=>.of_eq (b ..),λd _ _=>o d _ _ (df X G a l c e λ_ _ _ _ _ _ D z=>by obtain⟨v,rfl⟩:=Ys z;exact b ..)⟩
theorem dkN{w:World}{K:fv}(x:Str)(l:List (Str×Tok×Int×Tok)){a:Addr}{c:Nat}{b:List DictEntry}(f:(l.map (·.1)).Nodup)(_n:PySem.W.nsIn K mainGlobals x=some (some (.ref a)):=by k_is)(h:K.lookup a=some ⟨.type "dict",none,.dict ⟨b⟩ c,#[]⟩:=by k_is)(d:(a==sysModules)=false:=by rfl)(e:b=l.map λp=>DictEntry.mk (Mw w (.inr p.1)) (.str p.1 p.2.1) (.int p.2.2.1 p.2.2.2):=by rfl):DK w K a (l.map λp=>((.inr p.1:Key),V.int p.2.2.1)):=Ql l d f h e
end Pb
set_option maxHeartbeats 4000000
namespace Pk
open PySem L2 Pb
seal L2.Sl L2.PS L2.PE L2.PT L2.PW L2.PA L2.PG L2.Xv L2.PI L2.WH L2.PC L2.Yj L2.PO
abbrev top(i:Nat):Stmt:=Hd.top i
local macro_rules|`(tactic| walk_at "") => `(tactic| ((try dsimp only [WK, DF, HG, BW, Ht, MC, F0, Dt, Nn, Jr, Ma, JH, IY, IJ, MW, Nw, Ki, DT, MA, IB, Uj, Ar, uc, JN, JD, Wq, LA, Jo, JL, Zw, Nt, JG, BE, tB, Bl, tC, xp, Vh, tUn, UY, rI, rU, rEq, rNe, rC, Er, Jz, Ja, Vi, MO, LD, Xy, tBM, No, L6, LW, Cw, IU, JB, yn, Mr, tOr, Nm, JO, My, tIf, List.nil_append, List.append_nil, List.set_cons_zero, List.set_cons_succ, List.getElem?_cons_zero, List.getElem?_cons_succ]);(try simp only [WK, DF, HG, BW, Ht, MC, F0, Dt, Nn, Jr, Ma, JH, IY, IJ, MW, Nw, Ki, DT, MA, IB, Uj, Ar, uc, JN, JD, Wq, LA, Jo, JL, Zw, Nt, JG, BE, tB, Bl, tC, xp, Vh, tUn, UY, rI, rU, rEq, rNe, NM, Oa, O5, O6, OZ, Oc, rC, Er, Jz, Ja, Vi, MO, LD, Xy, tBM, No, L6, LW, Cw, IU, JB, yn, Mr, tOr, Nm, JO, My, tIf, List.nil_append, List.append_nil, List.set_cons_zero, List.set_cons_succ, List.getElem?_cons_zero, List.getElem?_cons_succ, Option.some.injEq, V.int.injEq, V.bl.injEq, V.ref.injEq, List.cons.injEq, exists_eq_left, exists_eq_left', exists_and_left, exists_const, and_true, true_and, decide_eq_true_eq, Bool.not_eq_true', decide_eq_false_iff_not, Bool.true_eq_false, Bool.false_eq_true, if_true, if_false])))
local macro_rules|`(tactic| walk_at "v") => `(tactic| (intro _ _ _ _ h;first|(cases h;(have q := ‹_ = _ /\ _›);rw [q.1];rfl)|((repeat (obtain ⟨_, h⟩ := h));subst_vars;rfl)))
local macro_rules|`(tactic| walk_at "s") => `(tactic| simp only [L2.start, List.map_cons, List.map_nil, List.length_cons, List.length_nil, Nat.reduceAdd, Nat.reduceSub, List.replicate_succ, List.replicate_zero, List.cons_append, List.nil_append])
set_option genSizeOf false in
set_option genInjectivity false in
structure Txt(K:fv)(mg:hL) where
 TollError:Addr
 Rc:mg "TollError"=some (.ref TollError)
 BadWeb:Addr
 ϡ:mg "BadWeb"=some (.ref BadWeb)
 NoPlace:Addr
 RT:mg "NoPlace"=some (.ref NoPlace)
 NoRoad:Addr
 UL:mg "NoRoad"=some (.ref NoRoad)
 BadLaying:Addr
 Rf:mg "BadLaying"=some (.ref BadLaying)
 BadWish:Addr
 RU:mg "BadWish"=some (.ref BadWish)
 NoWorst:Addr
 RV:mg "NoWorst"=some (.ref NoWorst)
 NoDeed:Addr
 SE:mg "NoDeed"=some (.ref NoDeed)
 BadStep:Addr
 RW:mg "BadStep"=some (.ref BadStep)
 BadText:Addr
 Ω:mg "BadText"=some (.ref BadText)
 Web:Addr
 UM:mg "Web"=some (.ref Web)
 Outlook:Addr
 TX:mg "Outlook"=some (.ref Outlook)
 Tally:Addr
 ZS:mg "Tally"=some (.ref Tally)
 Desk:Addr
 UN:mg "Desk"=some (.ref Desk)
 V8:Yt K TollError
 SG:Q3 K TollError BadWeb
 Ϫ:wp K BadWeb
 Q5:Q3 K TollError NoPlace
 TY:wp K NoPlace
 YQ:Q3 K TollError NoRoad
 UO:wp K NoRoad
 SH:Q3 K TollError BadLaying
 SJ:wp K BadLaying
 TZ:Q3 K TollError BadWish
 T3:wp K BadWish
 ϊ:Q3 K TollError NoWorst
 T4:wp K NoWorst
 Ϣ:Q3 K TollError NoDeed
 UP:wp K NoDeed
 Ϟ:Q3 K TollError BadStep
 gT:Q3 K TollError BadText
 Rg:Uz K TollError
 T5:UB K BadStep TollError "at"
 XI:PySem.W.findIn K (.ref BadStep) "at"=some none
 T6:UB K BadText TollError "at"
 XJ:PySem.W.findIn K (.ref BadText) "at"=some none
 iD:[TollError,BadWeb,NoPlace,NoRoad,BadLaying,BadWish,NoWorst,NoDeed,BadStep,BadText].Nodup
 range:mg "range"=none
 zip:mg "zip"=none
 len:mg "len"=none
 isinstance:mg "isinstance"=none
 all:mg "all"=none
 int:mg "int"=none
 tuple:mg "tuple"=none
 list:mg "list"=none
 reversed:mg "reversed"=none
 sorted:mg "sorted"=none
 min:mg "min"=none
 enumerate:mg "enumerate"=none
 sum:mg "sum"=none
 str:mg "str"=none
 set:mg "set"=none
 nE:∃t,mg "MOST_PLACES"=some (.int 24 t)
 Sd:∃t,mg "LEAST_TOLL"=some (.int 2 t)
 SK:∃t,mg "MOST_TOLL"=some (.int 1000000 t)
 T7:∃t,mg "FIGURES"=some (.str "0123456789" t)
 RC:∃t,mg "MOST_FIGURES"=some (.int 60 t)
 Se:∃t,mg "PIECE"=some (.int 1000000000000000000 t)
 Rm:∃t,mg "PIECE_FIGURES"=some (.int 18 t)
 DEEDS:Addr
 VC:mg "DEEDS"=some (.ref DEEDS)
 VD:WW K DEEDS [.str "put",.str "want",.str "step",.str "back"]
 NUMBERS_BEHIND:Addr
 ϫ:mg "NUMBERS_BEHIND"=some (.ref NUMBERS_BEHIND)
 Ξ:S4 K Web
 ϓ:Ν K Web "many"
 Rp:Ν K Web "roads"
 υ:S4 K Outlook
 Φ:Ν K Outlook "web"
 yT:Ν K Outlook "needs"
 Fc:Ν K Outlook "kids"
 Te:Ν K Outlook "idle"
 η:S4 K Desk
 ρ:Ν K Desk "web"
 Q6:Ν K Desk "past"
section
variable{P:Program}{w:World}{K:fv}{I:hL}{base:Heap}{CX:Bv}
def uF(T:Txt K I):Sp:=λb H Q E=>E3 λ(m:Int)(t:Addr)(a:List V)=>b=[.int m,.ref t]/\Β K H t a/\(1<=m/\m<=24/\(a.length:Int)=m-1->Q .τ H)/\(¬(1<=m/\m<=24/\(a.length:Int)=m-1)->E (.ref T.BadWeb) none H)
abbrev l9:Stmt:=top 20
theorem AN:ε ["many","roads"] ["many","roads"] (aF l9):=.of
theorem mz:Υ (aF l9) "MOST_PLACES":=.of (by kernel_rfl)
theorem jq:Υ (aF l9) "BadWeb":=.of (by kernel_rfl)
theorem AR(T:Txt K I)(n:bO (ψ P w)):Ok P w K I base "check_counts" l9 ["many","roads"] 1 (uF T):=λ_ _ D=>by
 refine D.F.ϯ AN (by walk_at "v") λo A b s H l Q E p h=>?_;obtain⟨m,t,f,rfl,j,k,e⟩:=h;refine⟨_,(aA (b5 (nj (vO sA sA aD (δ 0) (mJ mz.g T.nE (hd:=mz.d)))) (aH (jM T.Ϫ rfl kR jq.g T.ϡ (aa bo aq) (hdb:=jq.d))) bE) (aH (b5 (Μ mL (Q4 dk T.len (aa (δ 1) aq)) (aV mj (δ 0) aD)) (aH (jM T.Ϫ rfl kR jq.g T.ϡ (aa bo aq) (hdb:=jq.d))) bE))),?_⟩;walk_at "s";walk_at "";by_cases a:1<=m
 .rw[ao a];by_cases c:m<=24
  .rw[ah (by lia)];refine⟨f,.inr j,?_⟩;by_cases i:(f.length:Int)=m-1
   .rw[ah (by lia)];exact k ⟨a,c,i⟩
   .rw[ao (by lia)];exact⟨by decide,e λz=>i z.2.2⟩
  .rw[ao (by lia)];exact⟨by decide,e λz=>c z.2.1⟩
 .rw[ah a];exact⟨by decide,e λz=>a z.1⟩
def zu(T:Txt K I):Sp:=λa H Q _=>∃m n:Int,a=[.int m,.int n]/\Q (.bl (decide (0<=n)&&decide (n<m))) H
abbrev vU:Stmt:=top 19
theorem Hl:ε ["many","number"] ["many","number"] (aF vU):=.of
theorem G2(T:Txt K I)(d:bO (ψ P w)):Ok P w K I base "is_place" vU ["many","number"] 1 (zu T):=λ_ _ D=>by
 refine D.F.Ϙ Hl (by walk_at "v") λb A a s H e Q E f h=>?_;obtain⟨m,n,rfl,k⟩:=h;refine⟨_,(aH (bp (Md sA Be aD (δ 1) (δ 0)))),?_⟩;walk_at "s";walk_at "";by_cases c:0<=n
 .simpa[c]using k
 .simpa[c]using k
abbrev vW(P:Program)(w:World)(base:Heap)(T:Txt K I):=Cb P w K I base "is_place" vU ["many","number"] 1 (zu T)
def wP(T:Txt K I):Sp:=λc H Q E=>E3 λ(m:Int)(p:Addr)(r:Road)=>c=[.int m,.ref p]/\H p=some (.tup (nQ r))/\((0<=r.a/\r.a<m)/\(0<=r.b/\r.b<m)/\r.a≠r.b->Q .τ H)/\(¬((0<=r.a/\r.a<m)/\(0<=r.b/\r.b<m)/\r.a≠r.b)->E (.ref T.BadWeb) none H)
abbrev p9:Stmt:=top 21
theorem Ep:ε ["many","road"] ["many","road"] (aF p9):=.of
theorem jU:Υ (aF p9) "BadWeb":=.of (by kernel_rfl)
theorem D9(T:Txt K I)(t:bO (ψ P w))(n:vW P w base T):Ok P w K I base "check_ends" p9 ["many","road"] 2 (wP T):=λ_ _ D=>by
 refine D.F.ϯ Ep (by walk_at "v") λu A l s H q Q E o h=>?_;obtain⟨m,p,r,rfl,j,k,e⟩:=h;refine⟨_,(aA (b5 (PW.pt (yN (nj (mR (Λ n o bK (aa (δ 0) (aa (Η fB (δ 1) aD) aq))))) (B8 (nj (mR (Λ n o bK (aa (δ 0) (aa (Η fB (δ 1) aD) aq)))))))) (aH (jM T.Ϫ rfl kR jU.g T.ϡ (aa bo aq) (hdb:=jU.d))) bE) (aH (b5 (Μ di (Η fB (δ 1) aD) (Η fB (δ 1) aD)) (aH (jM T.Ϫ rfl kR jU.g T.ϡ (aa bo aq) (hdb:=jU.d))) bE))),?_⟩;walk_at "s";walk_at "";refine Ry j rfl ⟨m,r.a,rfl,_,rfl,?_⟩;by_cases f:0<=r.a/\r.a<m
 .rw[ah (by simp[f.1,f.2])];refine Ry j rfl ⟨m,r.b,rfl,_,rfl,?_⟩;by_cases c:0<=r.b/\r.b<m
  .rw[ah (by simp[c.1,c.2])];refine Ry j rfl (Ry j rfl ⟨rfl,?_⟩);by_cases i:r.a=r.b
   .rw[ao (by rw[i])];exact⟨by decide,e λz=>z.2.2 i⟩
   .rw[ah (by simpa using i)];exact k ⟨f,c,i⟩
  .rw[ao (by
    rw[mS,eg,eg];by_cases w:0<=r.b
    .exact .inr λz=>c ⟨w,z⟩
    .exact .inl w)]
   exact⟨by decide,e λz=>c z.2.1⟩
 .rw[ao (by
   rw[mS,eg,eg];by_cases w:0<=r.a
   .exact .inr λz=>f ⟨w,z⟩
   .exact .inl w)]
  exact⟨by decide,e λz=>f z.1⟩
def wV(T:Txt K I):Sp:=λd H Q _=>E4 λ(t:Addr)(c:gy)(b:hU)(n:Int)=>d=[.ref t,.int n]/\Β K H t (c.map V.ref)/\μ H c b/\b.length<=1000/\∀l a,H l=none->γ H a->a l=some (.lst ((fX b n).map V.int))->Q (.ref l) a
abbrev tj:Stmt:=top 24
theorem Ef:ε ["roads","place","ends","road"] ["roads","place"] (aF tj):=.of
theorem Ea(T:Txt K I)(W:bO (ψ P w)):Ok P w K I base "other_ends" tj ["roads","place"] 1 (wV T):=λ_ _ D=>by
 refine D.F.Ϙ Ef (by walk_at "v") λX A C s H S Q E hr h=>?_;obtain⟨t,L,c,n,rfl,O,N,Z,k⟩:=h;refine⟨_,(aA (Ζ 2 (cS aq)) (aA (gH PassesOwn.never rfl (vk (δ 0)) (ϧ 3) (aA (b5 (Μ di (Η fB (δ 3) aD) (δ 1)) (aH (cL (eu PySem.F.plainAttrs_list PySem.F.slot_list_append PySem.F.type_list_append eG (δ 2) (aa (Η fB (δ 3) aD) aq)))) bE) (aH (b5 (Μ di (Η fB (δ 3) aD) (δ 1)) (aH (cL (eu PySem.F.plainAttrs_list PySem.F.slot_list_append PySem.F.type_list_append eG (δ 2) (aa (Η fB (δ 3) aD) aq)))) bE)))) (aH (bp (δ 2))))),?_⟩;walk_at "s";walk_at "";refine⟨by decide,λl m=>?_⟩;have j:L.length=c.length:=Paired.length N;refine⟨⟨_,γ.tup (γ.new _ m) O⟩,Hm (xs:=L.map V.ref) (λi q B=>B=upd H l (.lst ((fX (c.take i) n).map V.int))/\∃v,q=[some (.ref t),some (.int n),some (.ref l),v]) ⟨rfl,_,rfl⟩ (λi q B _ z=>by rw[z.1];exact γ.tup (γ.new _ m) O) ?_ ?_⟩
 .rintro i x q B hi ⟨rfl,v,rfl⟩;obtain⟨p,r,rfl,U,J,M⟩:=N.get hi;have R:p≠l:=cP M m;have Y:i<c.length:=(ay.mp J).1;have u:c.take (i+1)=c.take i++[r]:=by rw[bq,J];rfl
  have hb:(fX (c.take i) n).length<=2000:=aR (EA _ _) (by rw[aZ];lia);have f:∀o,upd H l o p=some (.tup (nQ r)):=λo=>by rw[aY R];exact M
  walk_at "";refine Ry (f _) rfl ?_;walk_at "";have d:∀(G:dm),(fX (c.take i) n++G)=fX (c.take (i+1)) n->upd H l (.lst ((fX (c.take i) n).map V.int++G.map V.int))=upd H l (.lst ((fX (c.take (i+1)) n).map V.int)):=λG e=>by
   rw[<-aE,e]
  have y:ua n r=(if r.a=n then[r.b]else[])++(if r.b=n then[r.a]else[]):=rfl;by_cases g:r.a=n
  .rw[ao g];refine⟨Rz aw,Ry (f _) rfl (nK aw (eK (by rw[ag];lia)) ?_)⟩;rw[mi];refine Ry (f _) rfl ?_;walk_at "";by_cases cb:r.b=n
   .rw[ao cb];refine⟨Rz aw,Ry (f _) rfl (nK aw (eK (by rw[ap,ag];simp;lia)) ?_)⟩;rw[mi,b4];exact⟨d [r.b,r.a] (by rw[u,uA,y,ao g,ao cb];rfl),_,rfl⟩
   .rw[ah cb];exact⟨d [r.b] (by rw[u,uA,y,ao g,ah cb];rfl),_,rfl⟩
  .rw[ah g];refine Ry (f _) rfl ?_;walk_at "";by_cases cb:r.b=n
   .rw[ao cb];refine⟨Rz aw,Ry (f _) rfl (nK aw (eK (by rw[ag];lia)) ?_)⟩;rw[mi];exact⟨d [r.a] (by rw[u,uA,y,ah g,ao cb];rfl),_,rfl⟩
   .rw[ah cb];have:=d [] (by rw[u,uA,y,ah g,ah cb];rfl);rw[cZ,bR]at this;exact⟨this,_,rfl⟩
 .rintro q B ⟨rfl,v,rfl⟩;rw[ag,j,bQ];exact⟨_,rfl,k l _ m (γ.new _ m) aw⟩
abbrev xy(P:Program)(w:World)(base:Heap)(T:Txt K I):=Cb P w K I base "other_ends" tj ["roads","place"] 1 (wV T)
def oP(a:dm):List (Key×V):=a.map λk=>((Sum.inl k:Key),V.bl true)
theorem Dj(a:dm):(oP a).length=a.length:=by unfold oP;rw[ag]
theorem FZ(a:dm)(e:Int):nJ (oP a) (Sum.inl e:Key)=if e∈a then some (V.bl true)else none:=by
 unfold oP
 induction a with
 | nil=>rfl
 | cons k a ih=>
   rw[bh];by_cases c:k=e
   .rw[wJ (by rw[c]),ao (by rw[c];exact aP)]
   .rw[vY (λz=>c (Sum.inl.inj z)),ih];by_cases d:e∈a
    .rw[ao d,ao (aL _ d)]
    .rw[ah d,ah (λz=>by rcases aG.mp z with z|z;exact c z.symm;exact d z)]
theorem LH{a:dm}{e:Int}(h:e∉a):nI (oP a) (Sum.inl e:Key) (V.bl true)=oP (a++[e]):=by
 rw[Nz _ (by rw[FZ,ah h])];unfold oP;rw[aE]
 rfl
def uf(T:Txt K I):Sp:=λd H Q E=>E4 λ(m:Int)(t:Addr)(c:gy)(b:hU)=>d=[.int m,.ref t]/\Β K H t (c.map V.ref)/\μ H c b/\1<=m/\m<=24/\(b.length:Int)=m-1/\(∀r∈b,Ϡ m r)/\(vz m b->∀a,γ H a->Q .τ a)/\(¬vz m b->∀a,γ H a->E (.ref T.BadWeb) none a)
abbrev oU:Stmt:=top 23
theorem Bu:ε ["many","roads","reached","waiting","place","end"] ["many","roads"] (aF oU):=.of
theorem pA:Υ (aF oU) "BadWeb":=.of (by kernel_rfl)
theorem Bh(T:Txt K I)(hq:bO (ψ P w))(mw:xy P w base T):Ok P w K I base "check_joined" oU ["many","roads"] 2 (uf T):=λ_ _ D=>by
 refine D.F.ϯ Bu (by walk_at "v") λς A ae s H vs Q E hr h=>?_;obtain⟨m,t,ps,a,rfl,ht,hp,m1,ω,a9,ai,k,ke⟩:=h;have hu:=Qn hr;refine⟨_,(aA (Ζ 2 (NQ (Nv aD wB NN) rfl rfl (List.cons_ne_nil _ _) (by decide))) (aA (Ζ 3 (cS (aa aD aq))) (aA (wy PassesOwn.leaving (Ah (δ 3) (λ_=>rfl)) (aA (Ζ 4 (BU PySem.F.plainAttrs_list PySem.F.slot_list_pop PySem.F.type_list_pop Bn (δ 3))) (aH (gH PassesOwn.leaving rfl (ie (Λ mw hr bK (aa (δ 1) (aa (δ 4) aq)))) (ϧ 5) (aH (b5 (PP (Kb hu (δ 5) (δ 2))) (aA (Oy hu (δ 2) (δ 5) wB rfl) (aH (cL (eu PySem.F.plainAttrs_list PySem.F.slot_list_append PySem.F.type_list_append eG (δ 3) (aa (δ 5) aq))))) bE)))))) (aH (b5 (Μ mL (Q4 KP T.len (aa (δ 2) aq)) (δ 0)) (aH (jM T.Ϫ rfl kR pA.g T.ϡ (aa bo aq) (hdb:=pA.d))) bE))))),?_⟩;walk_at "s";walk_at "";intro d hd;refine⟨aw,[(Sum.inl 0,.bl true)],rfl,by decide,?_⟩;rw[mi];refine⟨by decide,λr L=>?_⟩;have ed:vK [] [((Sum.inl 0:Key),V.bl true)]=oP [0]:=rfl;rw[ed];have W:r≠d:=λz=>by rw[z,aw]at L;cases L
 have S:H r=none:=by rw[aY W]at L;exact L
 refine HQ (λn B O=>E4 λ(u G:dm)(v4 C:Option V)=>n=2*(m.toNat-u.length)+G.length/\B=[some (.int m),some (.ref t),some (.ref d),some (.ref r),v4,C]/\γ H O/\O d=some (.dK (oP u))/\O r=some (.lst (G.map V.int))/\Sv m a u G/\Reach a u) _ ⟨[0],[0],none,none,rfl,rfl,?_,?_,aw,Sv.start m1,Reach.start⟩ ?_
 .exact γ.trans (γ.new _ hd) (γ.new _ L)
 .rw[aY W.symm,aw]
 rintro n B O NW hN Ud ⟨u,G,v4,C,rfl,rfl,sm,h1,R,J,Re⟩;have kl:=gY (by lia) J.nd J.ϭ;refine⟨_,rfl,!(G.map V.int).isEmpty,.inl ⟨_,ξ.of R,rfl⟩,?_⟩;rcases fV G with rfl|⟨f,p,rfl⟩
 .-- nothing afr: all places have bd reached
  refine Qz ?_;walk_at "";refine⟨oP u,h1,?_⟩;rw[Dj];by_cases X:vz m a
  .have full:=J.all m1 X;rw[ah (by lia)];exact k X _ sm
  .rw[ao (λz=>X (Re.joined (by lia) J.nd J.ϭ z))];exact⟨by decide,ke X _ sm⟩
 .rw[fS]at J R hN Ud ⊢;have e1:(!(List.map V.int (f++[p])).isEmpty)=true:=by simp
  rw[e1];refine QP ⟨NW,Ud,?_⟩;walk_at "";rw[aE,bh,cZ]at R;refine⟨Rz R,Ls R ?_⟩;have Xe:d≠r:=W.symm;have U:γ H (upd O r (.lst (f.map V.int))):=λb o e=>by rw[aY (cP e S)];exact sm b o e
  refine⟨t,ps,a,p,rfl,γ.tup U ht,μ.same U hp,by lia,λl H3 Z s3 hl=>?_⟩;have ad:r≠l:=cP (o:=.lst (f.map V.int)) aw Z;have am:d≠l:=cP (o:=.dK (oP u)) (by rw[aY Xe];exact h1) Z;have bf:H l=none:=U.free Z;refine⟨l,rfl,⟨_,ξ.of hl⟩,yh (K:=K) (xs:=(fX a p).map V.int) (λi B v=>∃(C:Option V),B=[some (.int m),some (.ref t),some (.ref d),some (.ref r),some (.int p),C]/\γ H v/\v l=some (.lst ((fX a p).map V.int))/\∃j y:List Int,v d=some (.dK (oP j))/\v r=some (.lst (y.map V.int))/\R8 m a p ((fX a p).take i) j y u f.length/\Reach a j) ?_ (λi B v _ z=>by obtain⟨_,_,_,z,_⟩:=z;exact ξ.of z) ?_ ?_⟩
  .refine⟨_,rfl,U.trans s3,hl,u,f,?_,?_,?_⟩
   .exact s3 _ _ (by rw[aY Xe];exact h1)
   .exact s3 _ _ aw
   .rw[eB];exact⟨R8.start J,Re⟩
  .rintro i x B v NI hI hi ⟨C,rfl,s4,hl4,j,y,YR,ZV,M,R4⟩;rw[aQ]at hi;obtain⟨e,Y,rfl⟩:∃e,(fX a p)[i]?=some e/\V.int e=x:=by
    cases q:(fX a p)[i]? with
    | none=>rw[q]at hi;cases hi
    | some e=>rw[q]at hi;exact⟨e,rfl,bC hi⟩
   have er:=Ni ai (aO Y);have et:(fX a p).take (i+1)=(fX a p).take i++[e]:=(by rw[bq,Y];rfl);have st:=M.step er.1 er.2;have k4:=gY (by lia) M.nd M.ϭ;have ab:=M.mu;walk_at "";refine⟨_,Um.k (k:=Sum.inl e) YR,?_⟩;rw[FZ];by_cases c:e∈j
   .rw[ao c];rw[ah (by simp)];refine hI _ _ ⟨_,rfl,s4,hl4,j,y,YR,ZV,?_,R4⟩;rw[et];unfold Bq at st;rw[ao c]at st;exact st
   .rw[ah c];rw[ao (by simp)];refine⟨_,Uo.k (k:=Sum.inl e) YR (eK (by rw[Dj];lia)),?_⟩;rw[LH c];have N:upd v d (.dK (oP (j++[e]))) r=some (.lst (y.map V.int)):=(by rw[aY W];exact ZV);refine⟨Rz N,nK N (eK (by rw[ag];have:=M.wl;lia)) ?_⟩;have bs:=M.mu;refine hI _ _ ⟨_,rfl,λb o z=>?_,?_,j++[e],y++[e],?_,?_,?_,R4.add M.pin (aO Y)⟩
    .rw[aY (cP z S),aY (cP z hd)];exact s4 b o z
    .rw[aY ad.symm,aY am.symm];exact hl4
    .rw[aY Xe,aw]
    .rw[aw,aE];rfl
    .rw[et];unfold Bq at st;rw[ah c]at st;exact st
  .rintro B v ⟨C,rfl,s4,hl4,j,y,YR,ZV,M,R4⟩;rw[ag,bQ]at M;have k4:=gY (by lia) M.nd M.ϭ;have ab:=M.mu;have bv:=M.up;refine hN _ _ _ ?_ ⟨j,y,some (.int p),C,rfl,rfl,s4,YR,ZV,M.done,R4⟩;rw[ap];simp only[aJ,dD]
   lia
def vL(T:Txt K I):Sp:=λb H Q E=>∃(p:Addr)(r:Road),b=[.ref p]/\H p=some (.tup (nQ r))/\((2<=r.t/\r.t<=1000000)/\(2<=r.u/\r.u<=1000000)->∀a,γ H a->Q .τ a)/\(¬((2<=r.t/\r.t<=1000000)/\(2<=r.u/\r.u<=1000000))->∀a,γ H a->E (.ref T.BadWeb) none a)
abbrev kO:Stmt:=top 22
theorem Cz:ε ["road","number"] ["road"] (aF kO):=.of
theorem nW:Υ (aF kO) "LEAST_TOLL":=.of (by kernel_rfl)
theorem ou:Υ (aF kO) "MOST_TOLL":=.of (by kernel_rfl)
theorem pW:Υ (aF kO) "BadWeb":=.of (by kernel_rfl)
theorem Cr(T:Txt K I)(C:bO (ψ P w)):Ok P w K I base "check_tolls" kO ["road"] 1 (vL T):=λ_ _ D=>by
 refine D.F.ϯ Cz (by walk_at "v") λG A m s H B Q E J h=>?_;obtain⟨p,r,rfl,n,k,e⟩:=h;refine⟨_,(aH (gH PassesOwn.leaving rfl (vk (jT (aa (Η fB (δ 0) aD) (aa (Η fB (δ 0) aD) aq)))) (ϧ 1) (aH (b5 (nj (vO sA sA (mJ nW.g T.Sd (hd:=nW.d)) (δ 1) (mJ ou.g T.SK (hd:=ou.d)))) (aH (jM T.Ϫ rfl kR pW.g T.ϡ (aa bo aq) (hdb:=pW.d))) bE)))),?_⟩;walk_at "s";walk_at "";refine Ry n rfl (Ry n rfl ⟨bL (by simp),λq y=>?_⟩);have b:=γ.new (.tup [V.int r.t,V.int r.u]) y;have l:upd H q (.tup [V.int r.t,V.int r.u]) q=some (.tup [V.int r.t,V.int r.u]):=aw;generalize upd H q (.tup [V.int r.t,V.int r.u])=o at b l ⊢;refine⟨⟨_,Β.of l⟩,Aq (K:=K) (xs:=[V.int r.t,V.int r.u]) (λi f j=>j=o/\(1<=i->2<=r.t/\r.t<=1000000)/\(2<=i->2<=r.u/\r.u<=1000000)/\∃v,f=[some (V.ref p),v]) ⟨rfl,λz=>absurd z (by decide),λz=>absurd z (by decide),_,rfl⟩ (λi f j _ z=>by rw[z.1];exact Β.of l) ?_ ?_⟩
 .rintro i x f j N hN hi ⟨rfl,h1,h2,v,rfl⟩
  match i,hi with
  | 0,hi=>
    cases hi;walk_at "";by_cases a:2<=r.t
    .rw[ao a];by_cases c:r.t<=1000000
     .rw[ah (by lia)];exact hN _ _ ⟨rfl,λ_=>⟨a,c⟩,λz=>absurd z (by decide),_,rfl⟩
     .rw[ao (by lia)];exact⟨by decide,e (λz=>c z.1.2) _ b⟩
    .rw[ah a];exact⟨by decide,e (λz=>a z.1.1) _ b⟩
  | 1,hi=>
    cases hi;walk_at "";by_cases a:2<=r.u
    .rw[ao a];by_cases c:r.u<=1000000
     .rw[ah (by lia)];exact hN _ _ ⟨rfl,λ_=>h1 (by decide),λ_=>⟨a,c⟩,_,rfl⟩
     .rw[ao (by lia)];exact⟨by decide,e (λz=>c z.2.2) _ b⟩
    .rw[ah a];exact⟨by decide,e (λz=>a z.2.1) _ b⟩
  | i+2,hi=>cases hi
 .rintro f j ⟨rfl,h1,h2,v,rfl⟩;exact k ⟨h1 (by show 1<=2;decide),h2 (by show 2<=2;decide)⟩ _ b
def Bx(m:Int)(t:Addr):List (Str×V):=cT "roads" (.ref t) (cT "many" (.int m) [])
theorem Qq:¬(("many":Str)="roads"):=by decide +kernel
theorem iu(m:Int)(t:Addr):(Bx m t).lookup ("many":Str)=some (.int m):=by
 unfold Bx;rw[dI,ah Qq,dI,ao rfl]
theorem uY(m:Int)(t:Addr):(Bx m t).lookup ("roads":Str)=some (.ref t):=by
 unfold Bx;rw[dI,ao rfl]
structure ι(C:Addr)(H:Hp)(p:Addr)(m:Int)(t:Addr)(ps:gy)(rs:hU):Prop where
 ob:∃dx,H p=some (.ins C dx (Bx m t))
 tu:H t=some (.tup (ps.map V.ref))
 ro:μ H ps rs
 go:Good m rs
theorem ι.same{C:Addr}{H a:Hp}{p:Addr}{m:Int}{t:Addr}{b:gy}{c:hU}(e:γ H a)(h:ι C H p m t b c):ι C a p m t b c:=⟨let ⟨dx,q⟩:=h.ob;⟨dx,e _ _ q⟩,e _ _ h.tu,μ.same e h.ro,h.go⟩
def qw(T:Txt K I):Sp:=λg H Q E=>E7 λ(p h:Addr)(m:Int)(c:Bool)(a:Addr)(f:gy)(e:hU)=>g=[.ref p,.int m,.ref a]/\H p=some (.ins T.Web h [])/\ύ K c H a (f.map V.ref)/\μ H f e/\e.length<=1000/\(Good m e->∀t d,H t=none->ι T.Web d p m t f e->(∀b o,H b=some o->b≠p->d b=some o)->Q .τ d)/\(¬Good m e->∀d,γ H d->E (.ref T.BadWeb) none d)
abbrev qL:Stmt:=jL (top 15) 0
theorem AJ:ε ["self","many","roads","kept","road"] ["self","many","roads"] (aF qL):=.of
theorem B4(T:Txt K I)(hq:bO (ψ P w))(rn:Cb P w K I base "check_counts" l9 ["many","roads"] 1 (uF T))(sZ:Cb P w K I base "check_ends" p9 ["many","road"] 2 (wP T))(rh:Cb P w K I base "check_joined" oU ["many","roads"] 2 (uf T))(se:Cb P w K I base "check_tolls" kO ["road"] 1 (vL T)):Td P w K I base "__init__" "Web.__init__" qL ["self","many","roads"] 3 (qw T):=λ_ _ F=>by
 refine F.ϯ AJ (by walk_at "v") λς A an s H vs Q E L h=>?_;obtain⟨p,dx,m,c,a,d,O,rfl,hp,ha,R,rl,k,X⟩:=h;refine⟨_,(aA (Ζ 3 (RF ii T.tuple (aa (jI rfl (mH (Nc:=["road"]) 1 (by decide +kernel) (by decide +kernel) rfl (by decide +kernel) rfl) (yw c (δ 2)) (λ_ _ _ _=>(fq (i:=0) (show(["road"]:hO).Nodup from by decide +kernel) rfl (Or.inl rfl))) (λ_ _ _ _=>iX) (λ_ _ _ _=>(uh (vh K rfl) (by rfl) T.tuple Fj (aa (pv 0) aq)))) aq))) (aA (cL (Λ rn L bK (aa (δ 1) (aa (δ 3) aq)))) (aA (gH PassesOwn.leaving rfl (vk (δ 3)) (ϧ 4) (aA (cL (Λ sZ L bK (aa (δ 1) (aa (δ 4) aq)))) (aH (cL (Λ se L bK (aa (δ 4) aq)))))) (aA (cL (Λ rh L bK (aa (δ 1) (aa (δ 3) aq)))) (aA (rQ (δ 0) (δ 1) rfl) (aH (rQ (δ 0) (δ 3) rfl))))))),?_⟩;walk_at "s";walk_at "";refine⟨⟨_,ha⟩,λl Z=>?_⟩;have u:d.length=O.length:=Paired.length R;have a6:γ H (upd H l (.lst [])):=γ.new _ Z;refine lM (K:=K) (xs:=d.map V.ref) (λi W y U=>U=upd H l (.lst ((d.take i).map V.ref))/\W=(d.take i).map V.ref/\∃v,y=[v]) ⟨rfl,rfl,_,rfl⟩ (λi W y U _ ⟨z,_⟩=>by rw[z];exact γ.ϳ (γ.new _ Z) ha) ?_ ?_
 .rintro i x W y U N hN hi ⟨rfl,rfl,v,rfl⟩;obtain⟨q,r,rfl,h1,h2,M⟩:=R.get hi;have nq:q≠l:=cP M Z;have RJ:i<d.length:=(ay.mp h1).1;have et:d.take (i+1)=d.take i++[q]:=by rw[bq,h1];rfl
  walk_at "";refine⟨nQ r,.inr ⟨Β.of (by rw[aY nq];exact M),aw,eK (by rw[ag,aZ];lia),hN _ _ _ ⟨?_,?_,_,rfl⟩⟩⟩
  .rw[mi,et,aE];rfl
  .rw[et,aE];rfl
 .rintro W y U ⟨rfl,rfl,v,rfl⟩;rw[ag,bQ];refine⟨l,rfl,d.map V.ref,.inl ⟨ξ.of aw,λt ht=>?_⟩⟩;have Y:γ H (upd H l (.lst (d.map V.ref))):=γ.new _ Z;have s2:γ (upd H l (.lst (d.map V.ref))) (upd (upd H l (.lst (d.map V.ref))) t (.tup (d.map V.ref))):=γ.new _ ht;have D:H t=none:=Y.free ht;have G:∀{H':Hp},γ (upd (upd H l (.lst (d.map V.ref))) t (.tup (d.map V.ref))) H'->H' t=some (.tup (d.map V.ref)):=λe=>e _ _ aw;refine⟨m,t,d.map V.ref,rfl,Β.of aw,λf=>⟨⟨_,Β.of aw⟩,?_⟩,λf=>X (λg=>f ⟨g.m1,g.ω,by rw[ag,u];exact g.len⟩) _ (Y.trans s2)⟩;rw[ag,u]at f;refine Aq (K:=K) (xs:=d.map V.ref) (λi y S=>γ (upd (upd H l (.lst (d.map V.ref))) t (.tup (d.map V.ref))) S/\(∀j r,j<i->O[j]?=some r->Ϡ m r)/\∃v,y=[some (.ref p),some (.int m),some (.ref a),some (.ref t),v]) ⟨γ.refl _,λj r h=>absurd h (Nat.not_lt_zero _),_,rfl⟩ (λi y S _ ⟨z,_⟩=>Β.of (G z)) ?_ ?_
  .rintro i x y S N hN hi ⟨s3,ZW,v,rfl⟩;have C:=Y.trans (s2.trans s3);obtain⟨q,r,rfl,h1,h2,M⟩:=R.get hi;have rm:=aO h2;walk_at "";refine⟨m,q,r,rfl,C _ _ M,λab=>?_,λn=>X (λg=>n (Ag.mp (g.ok r rm)).1) _ C⟩;refine⟨q,r,rfl,C _ _ M,λai H4 B=>hN _ _ ⟨s3.trans B,λj x hj hx=>?_,_,rfl⟩,λn H4 B=>X (λg=>n (Ag.mp (g.ok r rm)).2) _ (C.trans B)⟩;by_cases z:j=i
   .subst z;rw[h2]at hx;cases hx;exact Ag.mpr ⟨ab,ai⟩
   .exact ZW j x (by lia) hx
  .rintro y S ⟨s3,ZW,v,rfl⟩;have C:=Y.trans (s2.trans s3);rw[ag,u]at ZW;have ok:∀r∈O,Ϡ m r:=λr L=>by
    obtain⟨j,hj⟩:=cq L;exact ZW j r (ay.mp hj).1 hj
   walk_at "";refine⟨m,t,d,O,rfl,Β.of (G s3),μ.same C R,f.1,f.2.1,f.2.2,ok,λjd H4 B=>?_,λn H4 B=>X (λg=>n g.jn) _ (C.trans B)⟩;have g:Good m O:=⟨f.1,f.2.1,f.2.2,ok,jd⟩;have J:=C.trans B;have ae:t≠p:=λz=>by rw[z,hp]at D;cases D
   refine⟨T.Web,dx,[],J _ _ hp,T.Ξ,T.ϓ,by decide,?_⟩;refine⟨T.Web,dx,_,aw,T.Ξ,T.Rp,by show 1<1000;decide,?_⟩;rw[mi];refine k g t _ D ⟨⟨dx,aw⟩,?_,?_,g⟩ λb o hb nb=>?_
   .rw[aY ae];exact G (s3.trans B)
   .refine Paired.imp' (λq r hq=>?_) R;rw[aY (dX hq hp (by intro z;cases z))];exact J _ _ hq
   .rw[aY nb];exact J _ _ hb
theorem Ks(T:Txt K I){H:Hp}{m:Int}{c:Bool}{a:Addr}{i:gy}{j:hU}{Q:Addr->Hp->Prop}{E:XK}(r:ύ K c H a (i.map V.ref))(z:μ H i j)(g:Good m j)(k:∀x t f,H x=none->H t=none->γ H f->ι T.Web f x m t i j->Q x f):∀x d,H x=none->H d=none->d≠x->qw T [.ref x,.int m,.ref a] (upd (upd H d (.own x)) x (.ins T.Web d [])) (λv y=>v=.τ/\Q x y) E:=by
 intro x d l q ne;have p:upd H d (.own x) x=none:=by rw[aY ne.symm];exact l
 have h:γ H (upd (upd H d (.own x)) x (.ins T.Web d [])):=(γ.new _ q).trans (γ.new _ p);have A:=g.len;have ω:=g.ω;exact⟨x,d,m,c,a,i,j,rfl,aw,γ.ϳ h r,μ.same h z,by lia,λ_ t f s W u=>⟨rfl,k x t f l (h.free s) (λb o e=>u b o (h b o e) (cP e l)) W⟩,λn=>absurd g n⟩
abbrev qX(P:Program)(w:World)(base:Heap)(T:Txt K I):=Cm P w K I base (Mk K T.Web) "__init__" "Web.__init__" qL ["self","many","roads"] 3 (qw T)
def xL(T:Txt K I):Sp:=λa H Q _=>∃(c:Int),a=[.int c]/\∀(p:Addr)(t u:Int),H p=none->2<=t->t<=1000000->2<=u->u<=1000000->Q (.ref p) (upd H p (.tup [.int t,.int u]))
abbrev uW:Stmt:=top 122
theorem GH:ε ["t","there","back"] ["t"] (aF uW):=.of
theorem E1(T:Txt K I)(L:bO (ψ P w)):Ok P w K I base "_law_tolls" uW ["t"] 1 (xL T):=λ_ _ D=>by
 refine D.F.Ϙ GH (by walk_at "v") λN A g s H J Q E R h=>?_;obtain⟨c,rfl,k⟩:=h;refine⟨_,(aA (Ζ 1 (aV dR aD (aV cG (aV dz (δ 0) aD) aD))) (aA (Ζ 2 (aV dR aD (aV cG (aV dz (δ 0) aD) aD))) (aA (b5 (Μ di (aV cG (δ 0) aD) aD) (aH (Ζ 2 (δ 1))) bE) (aA (b5 (PW.pt (yk (Μ di (aV cG (δ 0) aD) aD) (vM (Μ di (aV cG (aV dz (δ 0) aD) aD) aD)))) (aA (Ζ 1 (aV dR aD (aV cG (aV dz (δ 0) aD) aD))) (aH (Ζ 2 (aV dR aD (aV cG (aV dz (aV dz (δ 0) aD) aD) aD))))) bE) (aH (bp (jT (aa (δ 1) (aa (δ 2) aq))))))))),?_⟩;walk_at "s";have d:∀(x n:Int),0<n->0<=x%n/\x%n<n:=λx n h=>⟨b6 x (lh h),cg x h⟩;have O:=d (c/4) 3 (by decide);have C:=d (c/12) 3 (by decide);have G:=d (c/144) 999999 (by decide);have M:=d (c/144/999999) 999999 (by decide);have cd:∀x n:Int,0<n->n<1073741824->z9 x n:=λx n u t=>⟨u,t⟩;have b:∀x y:V,[x,y].length<=sizeLine:=λx y=>bL (by simp);walk_at "";refine⟨cd _ _ (by decide) (by decide),by decide,cd _ _ (by decide) (by decide),by decide,by decide,?_⟩;have f:z9 c 36/\(0:Int)<4/\z9 c 144/\(0:Int)<999999/\z9 (c/144) 999999:=⟨cd _ _ (by decide) (by decide),by decide,cd _ _ (by decide) (by decide),by decide,cd _ _ (by decide) (by decide)⟩;obtain⟨B,e,j,o,v⟩:=f;have r:∀p,H p=none->Q (.ref p) (upd H p (.tup [.int (2+c/144%999999),.int (2+c/144/999999%999999)])):=λp a=>k p _ _ a (by lia) (by lia) (by lia) (by lia);have z:∀p,H p=none->Q (.ref p) (upd H p (.tup [.int (2+c/4%3),.int (2+c/4%3)])):=λp a=>k p _ _ a (by lia) (by lia) (by lia) (by lia);have i:∀p,H p=none->Q (.ref p) (upd H p (.tup [.int (2+c/4%3),.int (2+c/12%3)])):=λp a=>k p _ _ a (by lia) (by lia) (by lia) (by lia);by_cases q:c%4=1
 .rw[ao q];refine⟨e,?_⟩;rw[ah (by lia)];exact⟨b _ _,z⟩
 .rw[ah q];refine⟨e,?_⟩;by_cases l:c%4=2
  .rw[ao l];refine⟨B,e,?_⟩;by_cases m:c/36%4=1
   .rw[ao m];exact⟨j,o,j,v,o,b _ _,r⟩
   .rw[ah m];exact⟨b _ _,i⟩
  .rw[ah l];exact⟨b _ _,i⟩
def sH(a b:Addr):List (Str×V):=cT "past" (.ref b) (cT "web" (.ref a) [])
theorem yz(a b:Addr):(sH a b).lookup ("web":Str)=some (.ref a):=by
 unfold sH;rw[dI,ah (by decide +kernel),dI,ao rfl]
theorem pY(b a:Addr):(sH b a).lookup ("past":Str)=some (.ref a):=by
 unfold sH;rw[dI,ao rfl]
theorem FG{c a:Addr}{m:Str}(d:¬m="past")(b:¬m="web"):(sH c a).lookup m=none:=by
 unfold sH;rw[dI,ah d,dI,ah b]
 rfl
def SM(H:Hp)(q:Addr)(s:List Int×List Int):Prop:=∃a b,H q=some (.tup [.ref a,.ref b])/\H a=some (.tup (s.1.map V.int))/\H b=some (.tup (s.2.map V.int))
structure π(C O:Addr)(H:Hp)(o wb pl:Addr)(m:Int)(t:Addr)(ps:gy)(rs:hU)(ο:List (List Int×List Int)):Prop where
 ob:∃dx,H o=some (.ins O dx (sH wb pl))
 web:ι C H wb m t ps rs
 pa:∃qs:List Addr,H pl=some (.lst (qs.map V.ref))/\Paired (SM H) qs ο
theorem π.same{C O:Addr}{H j:Hp}{o d g:Addr}{m:Int}{t:Addr}{c:gy}{i:hU}{f:List (List Int×List Int)}(e:γ H j)(h:π C O H o d g m t c i f):π C O j o d g m t c i f:=⟨let ⟨dx,q⟩:=h.ob;⟨dx,e _ _ q⟩,h.web.same e,let ⟨qs,h1,h2⟩:=h.pa;⟨qs,e _ _ h1,Paired.imp' (λq s ⟨a,b,x,y,z⟩=>⟨a,b,e _ _ x,e _ _ y,e _ _ z⟩) h2⟩⟩
theorem SM.Uh{H d:Hp}{l q:Addr}{s:List Int×List Int}{f:List V}(e:ϰ l H d)(c:H l=some (.lst f))(h:SM H q s):SM d q s:=by
 obtain⟨a,b,x,y,z⟩:=h;exact⟨a,b,e _ _ x (dX x c (by intro z;cases z)),e _ _ y (dX y c (by intro z;cases z)),e _ _ z (dX z c (by intro z;cases z))⟩
theorem ι.Xf{C:Addr}{H b:Hp}{l p:Addr}{m:Int}{t:Addr}{c:gy}{d:hU}{f:List V}(e:ϰ l H b)(a:H l=some (.lst f))(h:ι C H p m t c d):ι C b p m t c d:=⟨let ⟨dx,q⟩:=h.ob;⟨dx,e _ _ q (dX q a (by intro z;cases z))⟩,e _ _ h.tu (dX h.tu a (by intro z;cases z)),Paired.imp' (λq x z=>e _ _ z (dX z a (by intro z;cases z))) h.ro,h.go⟩
theorem ι.Xg{C O:Addr}{H f:Hp}{o p:Addr}{m:Int}{t a:Addr}{c:gy}{d:hU}{g:List (Str×V)}(e:ϰ o H f)(b:H o=some (.ins O a g))(h:ι C H p m t c d)(n:p≠o:=by assumption):ι C f p m t c d:=⟨let ⟨a,q⟩:=h.ob;⟨a,e _ _ q n⟩,e _ _ h.tu (dX h.tu b (by intro z;cases z)),Paired.imp' (λq x z=>e _ _ z (dX z b (by intro z;cases z))) h.ro,h.go⟩
theorem π.Uh{C O:Addr}{H i:Hp}{o d a l:Addr}{m:Int}{t:Addr}{c:gy}{g:hU}{f:List (List Int×List Int)}{j:List V}(e:ϰ l H i)(b:H l=some (.lst j))(n:a≠l)(h:π C O H o d a m t c g f):π C O i o d a m t c g f:=⟨let ⟨dx,q⟩:=h.ob;⟨dx,e _ _ q (dX q b (by intro z;cases z))⟩,h.web.Xf e b,let ⟨qs,h1,h2⟩:=h.pa;⟨qs,e _ _ h1 n,Paired.imp' (λq s x=>x.Uh e b) h2⟩⟩
theorem π.last{C O:Addr}{H:Hp}{o j f:Addr}{m:Int}{t:Addr}{i:gy}{u:hU}{e:List (List Int×List Int)}{s:List Int×List Int}(h:π C O H o j f m t i u (e++[s])):E4 λ(c:gy)(q a b:Addr)=>H f=some (.lst ((c++[q]).map V.ref))/\Paired (SM H) c e/\Ϲ ((c++[q]).map V.ref) (-1)=some (.ref q)/\H q=some (.tup [.ref a,.ref b])/\H a=some (.tup (s.1.map V.int))/\H b=some (.tup (s.2.map V.int)):=by
 obtain⟨c,k,g⟩:=h.pa;obtain⟨d,q,rfl,n,a,b,p,l,r⟩:=AF g;refine⟨d,q,a,b,k,n,?_,p,l,r⟩;rw[aE];exact Ox _ _
theorem π.Ο{C O:Addr}{H:Hp}{o d g:Addr}{m:Int}{t:Addr}{c:gy}{i:hU}{f:List (List Int×List Int)}(h:π C O H o d g m t c i f){mt:Str}{R:Prop}(q:R)(e:¬mt="past":=by decide +kernel)(b:¬mt="web":=by decide +kernel):∃x a,H o=some (.ins O x a)/\a.lookup mt=none/\R:=let ⟨dx,ob⟩:=h.ob;⟨dx,_,ob,FG e b,q⟩
theorem π.Tv{C O:Addr}{H:Hp}{o c f:Addr}{m:Int}{t:Addr}{d:gy}{g:hU}{e:List (List Int×List Int)}(T:S4 K O)(j:Ν K O "web")(h:π C O H o c f m t d g e){R:V->Prop}(q:R (.ref c)):∃x i b,H o=some (.ins x i b)/\S4 K x/\Ν K x "web"/\∃a,b.lookup ("web":Str)=some a/\R a:=let ⟨dx,ob⟩:=h.ob;⟨O,dx,_,ob,T,j,_,yz _ _,q⟩
def pM(T:Txt K I):Sp:=λf H Q _=>E7 λ(o i w t:Addr)(m:Int)(d:gy)(e:hU)=>f=[.ref o,.ref w]/\H o=some (.ins T.Desk i [])/\ι T.Web H w m t d e/\∀h c g a,H c=none->π T.Web T.Desk a o h c m g d e [(gE m,gE m)]->(∀b x,H b=some x->b≠o->a b=some x)->Q .τ a
abbrev nV:Stmt:=jL (top 110) 0
theorem Ae:ε ["self","web","noughts"] ["self","web"] (aF nV):=.of
theorem p7:Υ (aF nV) "Web":=.of (by kernel_rfl)
theorem zT(T:Txt K I)(hq:bO (ψ P w))(dQ:qX P w base T):Td P w K I base "__init__" "Desk.__init__" nV ["self","web"] 5 (pM T):=λ_ _ F=>by
 refine F.Ϙ Ae (by walk_at "v") λς A ab s H vs Q E hr h=>?_;obtain⟨o,f,w,t,m,ps,rs,rfl,X,W,k⟩:=h;have g:=W.go;have ω:=g.ω;have m1:=g.m1;obtain⟨dw,Z⟩:=W.ob;refine⟨_,(aA (rQ (δ 0) (sN dQ.M dQ.G (hr.mono (by decide)) p7.g T.UM dQ.b .nil (gF hq) (aa (dj (δ 1) rfl) (aa (dj (δ 1) rfl) aq)) (hdb:=p7.d)) rfl) (aA (Ζ 2 (RF ii T.tuple (aa (aV yB (cS (aa aD aq)) (dj (δ 1) rfl)) aq))) (aH (rQ (δ 0) (cS (aa (jT (aa (δ 2) (aa (δ 2) aq))) aq)) rfl)))),?_⟩;walk_at "s";walk_at "";refine⟨T.Web,dw,_,Z,T.Ξ,T.ϓ,_,iu _ _,T.Web,dw,_,Z,T.Ξ,T.Rp,_,uY _ _,?_⟩;refine Ks T (c:=false) (Β.of W.tu) W.ro g λx tw i hx bv L W1=>?_;have n:=L _ _ X;have bx:x≠o:=λz=>by rw[z,X]at hx;cases hx
 have bl:w≠o:=dX Z X (by
  intro z;injection z with _ _ z
  have:=iu m t;rw[z]at this;cases this)
 refine⟨T.Desk,f,[],n,T.η,T.ρ,by decide,by decide,λl1 n1=>?_⟩;have k1:ϰ o H (upd i o (.ins T.Desk f (cT "web" (.ref x) []))):=(ϰ.refl.then L).put _;have R:upd i o (.ins T.Desk f (cT "web" (.ref x) [])) o=some (.ins T.Desk f (cT "web" (.ref x) [])):=aw;have J:ϰ o i (upd i o (.ins T.Desk f (cT "web" (.ref x) []))):=ϰ.refl.put _;have kn:∀{p:Addr},upd i o (.ins T.Desk f (cT "web" (.ref x) [])) p=none->i p=none:=λ{p} h=>by
  cases e:i p with
  | none=>rfl
  | some y=>
    by_cases z:p=o
    .rw[z,R]at h;cases h
    .rw[J p y e z]at h;cases h
 have W2:ι T.Web (upd i o (.ins T.Desk f (cT "web" (.ref x) []))) x m tw ps rs:=W1.Xg J n;have B:ι T.Web (upd i o (.ins T.Desk f (cT "web" (.ref x) []))) w m t ps rs:=(W.same L).Xg J n;generalize upd i o (.ins T.Desk f (cT "web" (.ref x) []))=H2 at k1 R J kn W2 B n1 ⊢;obtain⟨ae,ac⟩:=B.ob;have v1:=γ.new (.lst [V.int 0]) n1;refine⟨T.Web,ae,_,v1 _ _ ac,T.Ξ,T.ϓ,_,iu _ _,?_⟩;refine⟨l1,m,[V.int 0],rfl,rfl,aw,by lia,by lia,bL (by simp;lia),λD n2=>?_⟩;rw[wa,<-Iq];have v2:=v1.trans (γ.new (.lst ((gE m).map V.int)) n2);have e2:upd (upd H2 l1 (.lst [V.int 0])) D (.lst ((gE m).map V.int)) D=some (.lst ((gE m).map V.int)):=aw;generalize upd (upd H2 l1 (.lst [V.int 0])) D (.lst ((gE m).map V.int))=H3 at v2 e2 ⊢;refine⟨D,rfl,_,.inl ⟨ξ.of e2,λa n3=>?_⟩⟩;have v3:=v2.trans (γ.new (.tup ((gE m).map V.int)) n3);have e3:upd H3 a (.tup ((gE m).map V.int)) a=some (.tup ((gE m).map V.int)):=aw;generalize upd H3 a (.tup ((gE m).map V.int))=H4 at v3 e3 ⊢;refine⟨bL (by simp),λj n4=>⟨bL (by simp),λq n5=>?_⟩⟩;have O:=v3.trans (γ.new (.tup [V.ref a,V.ref a]) n4);have e4:upd H4 j (.tup [V.ref a,V.ref a]) j=some (.tup [V.ref a,V.ref a]):=aw;have YV:=γ.new (.tup [V.ref a,V.ref a]) n4 _ _ e3;generalize upd H4 j (.tup [V.ref a,V.ref a])=H5 at O e4 YV n5 ⊢;have r:=γ.new (.lst [V.ref j]) n5;have N:=O.trans r;have U:upd H5 q (.lst [V.ref j]) q=some (.lst [V.ref j]):=aw;have l:=r _ _ e4;have C:=r _ _ YV;have S:=O.free n5;generalize upd H5 q (.lst [V.ref j])=Y at N U l C ⊢;have u:=N _ _ R;refine⟨T.Desk,f,_,u,T.η,T.Q6,by show 1<1000;decide,?_⟩;have v:ϰ o Y (upd Y o (.ins T.Desk f (sH x q))):=ϰ.refl.put _;have ak:H q=none:=L.free (kn S);show Q .τ (upd Y o (.ins T.Desk f (sH x q)));refine k x q tw _ ak ⟨⟨f,aw⟩,(W2.same N).Xg v u,[j],v _ _ U (dX U u (by intro z;cases z)),.cons ⟨a,a,v _ _ l (dX l u (by intro z;cases z)),v _ _ C (dX C u (by intro z;cases z)),v _ _ C (dX C u (by intro z;cases z))⟩ .nil⟩ ?_;exact λb x hb nb=>v _ _ (N _ _ (k1 b x hb nb)) nb
theorem HJ(T:Txt K I){H:Hp}{x n:Addr}{m:Int}{g:gy}{l:hU}{Q:Addr->Hp->Prop}{E:XK}(W:ι T.Web H x m n g l)(k:∀o h d t c,H o=none->H d=none->γ H c->π T.Web T.Desk c o h d m t g l [(gE m,gE m)]->Q o c):∀y a,H y=none->H a=none->a≠y->pM T [.ref y,.ref x] (upd (upd H a (.own y)) y (.ins T.Desk a [])) (λv s=>v=.τ/\Q y s) E:=by
 intro y a i p ne;have j:upd H a (.own y) y=none:=by rw[aY ne.symm];exact i
 have f:γ H (upd (upd H a (.own y)) y (.ins T.Desk a [])):=(γ.new _ p).trans (γ.new _ j);exact⟨y,a,x,n,m,g,l,rfl,aw,W.same f,λh d t c r D q=>⟨rfl,k y h d t c i (f.free r) (λb o e=>q b o (f b o e) (cP e i)) D⟩⟩
abbrev ug(P:Program)(w:World)(base:Heap)(T:Txt K I):=Cm P w K I base (Mk K T.Desk) "__init__" "Desk.__init__" nV ["self","web"] 5 (pM T)
def qE(T:Txt K I):Sp:=λd H Q _=>E3 λ(a c:Addr)(n:Int)=>d=[.ref a,.int n]/\H a=some (RE a (.ref T.BadText) none)/\sI K T.BadText c/\∀b,H b=none->b≠a->Q .τ (upd (upd H a (RE a (.ref T.BadText) (some b))) b (.xd [("at",.int n)]))
abbrev lB:Stmt:=jL (top 10) 0
theorem xk:ε ["self","at"] ["self","at"] (aF lB):=.of
theorem lR:Υ (aF lB) "TollError":=.of (by kernel_rfl)
theorem xa(T:Txt K I)(j:bO (ψ P w)):Td P w K I base "__init__" "BadText.__init__" lB ["self","at"] 1 (qE T):=λ_ _ F=>by
 refine F.Ϙ xk (by walk_at "v") λl A b s H i Q E m h=>?_;obtain⟨a,e,n,rfl,c,f,k⟩:=h;refine⟨_,(aA (cL (zh T.Rg lR.g T.Rc (aa (δ 0) (aa (δ 1) aq)) (hdb:=lR.d))) (aH (HU rfl (δ 0) (δ 1) rfl))),?_⟩;walk_at "s";show ∃v,_;refine⟨V.ref a,rfl,V.int n,rfl,?_⟩;refine⟨a,T.BadText,e,none,[V.int n],rfl,bL (by simp),f,c,?_⟩;show ∃v,_;refine⟨V.int n,rfl,V.ref a,rfl,?_⟩;exact⟨a,T.BadText,T.TollError,rfl,c,T.T6,k⟩
abbrev jD(P:Program)(w:World)(base:Heap)(T:Txt K I):=Cm P w K I base (sI K T.BadText) "__init__" "BadText.__init__" lB ["self","at"] 1 (qE T)
def wX(T:Txt K I):Sp:=λc H Q _=>E8 λ(o e b t:Addr)(m:Int)(d:gy)(f:hU)(a:List (List Int×List Int))=>c=[.ref o]/\π T.Web T.Desk H o e b m t d f a/\Q (.int ((a.length:Int)-1)) H
abbrev sW:Stmt:=jL (top 110) 8
theorem D0:ε ["self"] ["self"] (aF sW):=.of
theorem Eo(T:Txt K I)(l:bO (ψ P w)):Td P w K I base "deeds" "Desk.deeds" sW ["self"] 1 (wX T):=λ_ _ F=>by
 refine F.Ϙ D0 (by walk_at "v") λn A a s H f Q E p h=>?_;obtain⟨o,i,d,t,m,g,q,j,rfl,O,k⟩:=h;obtain⟨e,ob⟩:=O.ob;obtain⟨r,c,b⟩:=O.pa;refine⟨_,(aH (bp (aV mj (Q4 dk T.len (aa (dj (δ 0) rfl) aq)) aD))),?_⟩;walk_at "s";walk_at "";refine⟨T.Desk,e,_,ob,T.η,T.Q6,_,pY _ _,d,rfl,_,.inl (ξ.of c),?_⟩;rw[ag,Paired.length b];exact k
def xN(T:Txt K I):Sp:=λg H Q E=>E9 λ(o e b t:Addr)(m:Int)(d:gy)(f:hU)(a:List (List Int×List Int))(s:List Int×List Int)=>g=[.ref o]/\π T.Web T.Desk H o e b m t d f (a++[s])/\(a≠[]->∀c,π T.Web T.Desk c o e b m t d f a->ϰ b H c->Q .τ c)/\(a=[]->E (.ref T.NoDeed) none H)
abbrev rM:Stmt:=jL (top 110) 5
theorem FK:ε ["self"] ["self"] (aF rM):=.of
theorem qF:Υ (aF rM) "NoDeed":=.of (by kernel_rfl)
theorem ER(T:Txt K I)(L:bO (ψ P w))(p:Cm P w K I base (Meth K T.Desk "deeds") "deeds" "Desk.deeds" sW ["self"] 1 (wX T)):Td P w K I base "back" "Desk.back" rM ["self"] 3 (xN T):=λ_ _ F=>by
 refine F.ϯ FK (by walk_at "v") λX A n s H J Q E C h=>?_;obtain⟨o,y,e,t,m,v,D,r,s,rfl,O,k,B⟩:=h;obtain⟨l,ob⟩:=O.ob;obtain⟨f,q,a,b,c,u,R,S,N,U⟩:=O.last;refine⟨_,(aA (b5 (Μ di (gu (δ 0) T.η p.M p.G (C.mono (by decide)) p.b .nil bK) aD) (aH (jM T.UP rfl kR qF.g T.SE (aa bo aq) (hdb:=qF.d))) bE) (aH (cL (BU PySem.F.plainAttrs_list PySem.F.slot_list_pop PySem.F.type_list_pop Bn (dj (δ 0) rfl))))),?_⟩;walk_at "s";walk_at "";refine⟨l,_,ob,FG (by decide +kernel) (by decide +kernel),o,y,e,t,m,v,D,_,rfl,O,rfl,?_⟩;by_cases ne:r=[]
 .rw[ao (by rw[ne];rfl)];exact⟨by decide,B ne⟩
 have W:0<r.length:=ik.mpr ne;rw[ah (λz=>by
  injection z with z
  rw[ap,aJ,dD]at z
  lia)]
 refine⟨T.Desk,l,_,ob,T.η,T.Q6,_,pY _ _,.inl ⟨rfl,_,ξ.of c⟩,?_⟩;have i:ϰ e H (upd H e (.lst (f.map V.ref))):=ϰ.refl.put _;have j:Q .τ (upd H e (.lst (f.map V.ref))):=by
  refine k ne _ ⟨⟨l,i _ _ ob (dX ob c (by intro z;cases z))⟩,O.web.Xf i c,f,aw,Paired.imp' (λq s x=>SM.Uh i c x) u⟩ i
 refine⟨e,_,V.ref q,rfl,rfl,c,?_,?_⟩
 .rw[aE,ap,bh,cZ,aJ,dD,show(f.map V.ref).length+(0+1)-1=(f.map V.ref).length by lia,cA (aN _),eW]
  rfl
 .rw[aE,bh,cZ,nu];exact j
def yo(T:Txt K I):Sp:=λi H Q _=>W7 λ(o g d t a b:Addr)(m:Int)(f:gy)(h:hU)(c:List (List Int×List Int))(s:List Int×List Int)=>i=[.ref o,.ref a,.ref b]/\π T.Web T.Desk H o g d m t f h c/\H a=some (.tup (s.1.map V.int))/\H b=some (.tup (s.2.map V.int))/\c.length<=1000/\∀e,π T.Web T.Desk e o g d m t f h (c++[s])->ϰ d H e->Q .τ e
abbrev u3:Stmt:=jL (top 110) 4
theorem FE:ε ["self","laying","wish"] ["self","laying","wish"] (aF u3):=.of
theorem FW(T:Txt K I)(M:bO (ψ P w)):Td P w K I base "keep" "Desk.keep" u3 ["self","laying","wish"] 1 (yo T):=λ_ _ F=>by
 refine F.Ϙ FE (by walk_at "v") λR A j s H D Q E U h=>?_;obtain⟨o,J,f,t,a,b,m,G,W,L,s,rfl,O,B,v,N,k⟩:=h;obtain⟨C,ob⟩:=O.ob;obtain⟨l,e,p⟩:=O.pa;refine⟨_,(aH (cL (eu PySem.F.plainAttrs_list PySem.F.slot_list_append PySem.F.type_list_append eG (dj (δ 0) rfl) (aa (jT (aa (δ 1) (aa (δ 2) aq))) aq)))),?_⟩;walk_at "s";walk_at "";refine⟨T.Desk,C,_,ob,T.η,T.Q6,_,pY _ _,.inl ⟨rfl,_,ξ.of e⟩,bL (by simp),λq u=>?_⟩;have d:=γ.new (.tup [V.ref a,V.ref b]) u;have S:=Paired.length p;refine⟨f,_,_,rfl,rfl,d _ _ e,eK (by rw[ag];lia),?_⟩;have i:ϰ f (upd H q (.tup [V.ref a,V.ref b])) (upd (upd H q (.tup [V.ref a,V.ref b])) f (.lst (l.map V.ref++[V.ref q]))):=ϰ.refl.put _;have g:ϰ f H (upd (upd H q (.tup [V.ref a,V.ref b])) f (.lst (l.map V.ref++[V.ref q]))):=λc y h n=>i c y (d _ _ h) n;have r:=O.same d;refine k _ ⟨?_,r.web.Xf i (d _ _ e),l++[q],by rw[aw,aE];rfl,?_⟩ g
 .obtain⟨YX,ZX⟩:=r.ob;exact⟨YX,i _ _ ZX (dX ZX (d _ _ e) (by intro z;cases z))⟩
 .refine Am ?_ (Paired.imp' (λq s x=>SM.Uh g e x) p);exact SM.Uh i (d _ _ e) ⟨a,b,aw,d _ _ B,d _ _ v⟩
abbrev u9(P:Program)(w:World)(base:Heap)(T:Txt K I):=Cm P w K I base (Meth K T.Desk "keep") "keep" "Desk.keep" u3 ["self","laying","wish"] 1 (yo T)
def qM(T:Txt K I):Sp:=λd H Q _=>E9 λ(o f c t:Addr)(m:Int)(e:gy)(g:hU)(b:List (List Int×List Int))(s:List Int×List Int)=>d=[.ref o]/\π T.Web T.Desk H o f c m t e g (b++[s])/\∀a,H a=some (.tup (s.1.map V.int))->Q (.ref a) H
abbrev sg:Stmt:=jL (top 110) 6
theorem Db:ε ["self"] ["self"] (aF sg):=.of
theorem Cj(T:Txt K I)(r:bO (ψ P w)):Td P w K I base "laying" "Desk.laying" sg ["self"] 1 (qM T):=λ_ _ F=>by
 refine F.Ϙ Db (by walk_at "v") λv A c s H j Q E y h=>?_;obtain⟨o,n,x,t,m,l,z,p,s,rfl,O,k⟩:=h;obtain⟨i,ob⟩:=O.ob;obtain⟨B,q,a,b,d,_,f,g,e,u⟩:=O.last;refine⟨_,(aH (bp (Η fB (oJ bG (dj (δ 0) rfl) (sG qg aD) (λ_ _=>rfl)) aD))),?_⟩;walk_at "s";walk_at "";refine⟨T.Desk,i,_,ob,T.η,T.Q6,_,pY _ _,Ι d f ?_⟩;exact⟨q,_,0,_,rfl,rfl,Β.of g,rfl,k a e⟩
abbrev pI(P:Program)(w:World)(base:Heap)(T:Txt K I):=Cm P w K I base (Meth K T.Desk "laying") "laying" "Desk.laying" sg ["self"] 1 (qM T)
def sV(T:Txt K I):Sp:=λd H Q _=>E9 λ(o f c t:Addr)(m:Int)(e:gy)(g:hU)(b:List (List Int×List Int))(s:List Int×List Int)=>d=[.ref o]/\π T.Web T.Desk H o f c m t e g (b++[s])/\∀a,H a=some (.tup (s.2.map V.int))->Q (.ref a) H
abbrev uT:Stmt:=jL (top 110) 7
theorem F4:ε ["self"] ["self"] (aF uT):=.of
theorem Fk(T:Txt K I)(r:bO (ψ P w)):Td P w K I base "wish" "Desk.wish" uT ["self"] 1 (sV T):=λ_ _ F=>by
 refine F.Ϙ F4 (by walk_at "v") λv A c s H j Q E y h=>?_;obtain⟨o,n,x,t,m,l,z,p,s,rfl,O,k⟩:=h;obtain⟨i,ob⟩:=O.ob;obtain⟨B,q,a,b,d,_,e,f,u,g⟩:=O.last;refine⟨_,(aH (bp (Η fB (oJ bG (dj (δ 0) rfl) (sG qg aD) (λ_ _=>rfl)) aD))),?_⟩;walk_at "s";walk_at "";refine⟨T.Desk,i,_,ob,T.η,T.Q6,_,pY _ _,Ι d e ?_⟩;exact⟨q,_,1,_,rfl,rfl,Β.of f,rfl,k b g⟩
abbrev rB(P:Program)(w:World)(base:Heap)(T:Txt K I):=Cm P w K I base (Meth K T.Desk "wish") "wish" "Desk.wish" uT ["self"] 1 (sV T)
def vo(T:Txt K I):Sp:=λa H Q E=>E6 λ(p t:Addr)(m:Int)(b:gy)(c:hU)(n:Int)=>a=[.ref p,.int n]/\ι T.Web H p m t b c/\(0<=n->n<m->Q .τ H)/\(¬(0<=n/\n<m)->E (.ref T.NoPlace) none H)
abbrev pH:Stmt:=top 18
theorem Ck:ε ["web","number"] ["web","number"] (aF pH):=.of
theorem oZ:Υ (aF pH) "NoPlace":=.of (by kernel_rfl)
theorem C0(T:Txt K I)(o:bO (ψ P w))(b:vW P w base T):Ok P w K I base "check_place" pH ["web","number"] 2 (vo T):=λ_ _ D=>by
 refine D.F.ϯ Ck (by walk_at "v") λq A a s H j Q E f h=>?_;obtain⟨p,t,m,l,r,n,rfl,W,k,e⟩:=h;obtain⟨i,ob⟩:=W.ob;refine⟨_,(aH (b5 (nj (mR (Λ b f bK (aa (dj (δ 0) rfl) (aa (δ 1) aq))))) (aH (jM T.TY rfl kR oZ.g T.RT (aa bo aq) (hdb:=oZ.d))) bE)),?_⟩;walk_at "s";walk_at "";refine⟨T.Web,i,_,ob,T.Ξ,T.ϓ,_,iu m t,m,n,rfl,_,rfl,?_⟩;by_cases c:0<=n/\n<m
 .rw[ah (by simp[c.1,c.2])];exact k c.1 c.2
 .rw[ao (by simpa[bw]using c)];exact⟨by decide,e c⟩
abbrev ni(P:Program)(w:World)(base:Heap)(T:Txt K I):=Cb P w K I base "check_place" pH ["web","number"] 2 (vo T)
def bz(m:Int)(a:dm):Bool:=decide ((a.length:Int)=m)&&a.all λx=>decide (0<=x)
theorem n9{m:Int}{a:dm}(h:(a.length:Int)=m)(b:∀x∈a,0<=x):bz m a=true:=by
 unfold bz;rw[bB h,je,cw];exact λx c=>bB (b x c)
theorem ip{m:Int}{a:dm}(h:bz m a=true):(a.length:Int)=m:=by
 unfold bz at h;rw[bw]at h;exact bn h.1
theorem Dp{m:Int}{a:dm}(h:bz m a=true):∀x∈a,0<=x:=by
 unfold bz at h;rw[bw,cw]at h;exact λx b=>bn (h.2 x b)
def yi(T:Txt K I):Sp:=λe H Q _=>E8 λ(p a t:Addr)(c:Bool)(m:Int)(f:gy)(g:hU)(b:dm)=>e=[.ref p,.ref a]/\ι T.Web H p m t f g/\ύ K c H a (b.map V.int)/\b.length<=1000/\∀d,γ H d->Q (.bl (bz m b)) d
abbrev u7:Stmt:=top 27
theorem F6:ε ["web","numbers"] ["web","numbers"] (aF u7):=.of
theorem E2(T:Txt K I)(C:bO (ψ P w)):Ok P w K I base "is_filled" u7 ["web","numbers"] 1 (yi T):=λ_ _ D=>by
 refine D.F.Ϙ F6 (by walk_at "v") λG A n s H u Q E L h=>?_;obtain⟨p,a,t,c,m,B,M,xs,rfl,W,g,J,k⟩:=h;refine⟨_,(aH (bp (BR (kP di (Q4 dk T.len (aa (δ 1) aq)) (dj (δ 0) rfl) (jR _)) (BZ (Q4 (Fi rfl) T.all (aa (jI rfl (mH (Nc:=["number"]) 1 (by decide +kernel) (by decide +kernel) rfl (by decide +kernel) rfl) (yw c (δ 1)) (λ_ _ _ _=>(fq (i:=0) (show(["number"]:hO).Nodup from by decide +kernel) rfl (Or.inl rfl))) (λ_ _ _ _=>iX) (λ_ _ _ _=>(kP yZ (pv 0) aD (jR _)))) aq)))))),?_⟩;walk_at "s";walk_at "";obtain⟨r,ob⟩:=W.ob;have q:ξ K H a (xs.map V.int)\/Β K H a (xs.map V.int):=by
  cases c
  .exact .inr g
  .exact .inl g
 refine⟨_,q,T.Web,r,_,ob,T.Ξ,T.ϓ,_,iu m t,rfl,?_⟩;rw[ag];by_cases j:(xs.length:Int)=m
 .rw[ao (by rw[j])];refine⟨⟨_,g⟩,λl nl=>?_⟩;refine lM (K:=K) (c:=c) (xs:=xs.map V.int) (λi d f b=>γ H b/\b l=some (.lst d)/\d=((xs.take i).map λx=>decide (0<=x)).map V.bl/\∃v,f=[v]) ⟨γ.new _ nl,aw,rfl,_,rfl⟩ (λi d f b _ z=>γ.ϳ z.1 g) ?_ ?_
  .rintro i x d f b N hN hx ⟨s2,e2,rfl,v,rfl⟩;rw[aQ]at hx;obtain⟨y,o,rfl⟩:=bS.mp hx;walk_at "";refine⟨e2,eK (by rw[ag,ag,aZ];lia),hN _ _ _ ⟨s2.put nl _,aw,?_,_,rfl⟩⟩;rw[bq,o,aE,aE]
   rfl
  .rintro d f b ⟨s2,e2,rfl,v,rfl⟩;refine⟨l,rfl,_,ξ.of e2,?_⟩;have e:(((xs.take (xs.map V.int).length).map λx=>decide (0<=x)).all id)=bz m xs:=by
    rw[ag,bQ,List.all_map];unfold bz;rw[bB j,je]
    rfl
   rw[e];exact k _ s2
 .rw[ah (λz=>j (by injection z))];have e:bz m xs=false:=by
   unfold bz;rw[bP j,gw]
  rw[e]at k;exact k H (γ.refl _)
abbrev zv(P:Program)(w:World)(base:Heap)(T:Txt K I):=Cb P w K I base "is_filled" u7 ["web","numbers"] 1 (yi T)
def xW(T:Txt K I):Sp:=λe H Q E=>E8 λ(p a t:Addr)(c:Bool)(m:Int)(f:gy)(g:hU)(d:dm)=>e=[.ref p,.ref a]/\ι T.Web H p m t f g/\ύ K c H a (d.map V.int)/\d.length<=1000/\(bz m d=true->∀l b,γ H b->(b l=some (.tup (d.map V.int))\/(c=false/\l=a))->Β K b l (d.map V.int)->Q (.ref l) b)/\(bz m d=false->∀b,γ H b->E (.ref T.BadLaying) none b)
abbrev rK:Stmt:=top 26
theorem Gq:ε ["web","numbers"] ["web","numbers"] (aF rK):=.of
theorem pE:Υ (aF rK) "BadLaying":=.of (by kernel_rfl)
theorem FO(T:Txt K I)(B:bO (ψ P w))(u:zv P w base T):Ok P w K I base "laying_of" rK ["web","numbers"] 2 (xW T):=λ_ _ D=>by
 refine D.F.ϯ Gq (by walk_at "v") λC A j s H y Q E r h=>?_;obtain⟨p,a,t,c,m,q,v,i,rfl,W,f,x,k,e⟩:=h;refine⟨_,(aA (b5 (nj (mR (Λ u r bK (aa (δ 0) (aa (δ 1) aq))))) (aH (jM T.SJ rfl kR pE.g T.Rf (aa bo aq) (hdb:=pE.d))) bE) (aH (bp (RF ii T.tuple (aa (δ 1) aq))))),?_⟩;walk_at "s";walk_at "";refine⟨p,a,t,c,m,q,v,i,rfl,W,f,x,λo b=>⟨_,rfl,?_⟩⟩;by_cases z:bz m i=false
 .rw[ao z];exact⟨by decide,e z o b⟩
 .rw[ah z];have n:bz m i=true:=by simpa using z
  cases c
  .exact⟨_,.inr ⟨γ.ϳ (c:=false) b f,k n a o b (.inr ⟨rfl,rfl⟩) (γ.ϳ (c:=false) b f)⟩⟩
  .exact⟨_,.inl ⟨γ.ϳ (c:=true) b f,λl nl=>k n l _ (b.trans (γ.new _ nl)) (.inl aw) (Β.of aw)⟩⟩
abbrev rD(P:Program)(w:World)(base:Heap)(T:Txt K I):=Cb P w K I base "laying_of" rK ["web","numbers"] 2 (xW T)
def KQ(T:Txt K I):Sp:=λe H Q E=>ZP λ(p a t:Addr)(c:Bool)(m:Int)(f:gy)(g:hU)(d:dm)(v n:Int)=>e=[.ref p,.ref a,.int v,.int n]/\ι T.Web H p m t f g/\ύ K c H a (d.map V.int)/\d.length<=1000/\(bz m d=true->0<=v->v<m->0<=d.getD v.toNat 0+n->∀l b,γ H b->b l=some (.tup ((d.set v.toNat (d.getD v.toNat 0+n)).map V.int))->Q (.ref l) b)/\(bz m d=false->∀b,γ H b->E (.ref T.BadLaying) none b)/\(bz m d=true->¬(0<=v/\v<m)->∀b,γ H b->E (.ref T.NoPlace) none b)/\(bz m d=true->0<=v->v<m->d.getD v.toNat 0+n<0->∀b,γ H b->E (.ref T.BadLaying) none b)
abbrev Ju:Stmt:=top 30
theorem P6:ε ["web","laying","place","many","counts"] ["web","laying","place","many"] (aF Ju):=.of
theorem Pt(T:Txt K I)(hq:bO (ψ P w))(dS:ni P w base T)(U:rD P w base T):Ok P w K I base "put" Ju ["web","laying","place","many"] 3 (KQ T):=λ_ _ D=>by
 refine D.F.ϯ P6 (by walk_at "v") λς A J s H vs Q E C h=>?_;obtain⟨p,a,t,c,m,u,G,b,v,n,rfl,W,ha,hz,k,e1,e2,e3⟩:=h;have g:=W.go;have ω:=g.ω;refine⟨_,(aA (Ζ 4 (RF oz T.list (aa (Λ U C bK (aa (δ 0) (aa (δ 1) aq))) aq))) (aA (cL (Λ dS C bK (aa (δ 0) (aa (δ 2) aq)))) (aA (rg (δ 4) (δ 2) pL (δ 3) vx iy) (aH (bp (Λ U C bK (aa (δ 0) (aa (δ 4) aq)))))))),?_⟩;walk_at "s";walk_at "";refine⟨p,a,t,c,m,u,G,b,rfl,W,ha,hz,λd l0 N S _ Y=>?_,e1⟩;have xl:(b.length:Int)=m:=by
  unfold bz at d;rw[bw]at d;exact bn d.1
 refine⟨l0,rfl,_,.inr Y,λl R=>?_⟩;have o:=S.trans (γ.new (.lst (b.map V.int)) R);have nl:=S.free R;have L:upd N l (.lst (b.map V.int)) l=some (.lst (b.map V.int)):=aw;generalize upd N l (.lst (b.map V.int))=y at o L ⊢;refine⟨p,t,m,u,G,v,rfl,W.same o,λj O=>?_,λz=>e2 d z y o⟩;refine Ι L (Rb j (by lia)) ⟨_,rfl,tS L j (by rw[ag];lia) ?_⟩;rw[<-cY];have q:=o.put nl (.lst ((b.set v.toNat (b.getD v.toNat 0+n)).map V.int));have f:upd y l (.lst ((b.set v.toNat (b.getD v.toNat 0+n)).map V.int)) l=some (.lst ((b.set v.toNat (b.getD v.toNat 0+n)).map V.int)):=aw;generalize upd y l (.lst ((b.set v.toNat (b.getD v.toNat 0+n)).map V.int))=H2 at q f ⊢;have Z:((b.set v.toNat (b.getD v.toNat 0+n)).length:Int)=m:=by rw[b7];exact xl
 refine⟨p,l,t,true,m,u,G,_,rfl,W.same q,ξ.of f,by lia,λe M r B hl _=>?_,λe r B=>?_⟩
 .have YY:r M=some (.tup ((b.set v.toNat (b.getD v.toNat 0+n)).map V.int)):=by
   rcases hl with z|z
   .exact z
   .cases z.1
  refine k d j O ?_ M r (q.trans B) YY;unfold bz at e;rw[bw,cw]at e;exact bn (e.2 _ (aO (i:=v.toNat) (by rw[cN (by lia)])))
 .refine e3 d j O ?_ r (q.trans B);apply Classical.byContradiction;intro z;have:bz m (b.set v.toNat (b.getD v.toNat 0+n))=true:=by
   unfold bz at d;rw[bw,cw]at d;exact n9 Z (Pr (λx X=>bn (d.2 x X)) (by lia))
  rw[this]at e;cases e
def Hx(T:Txt K I):Sp:=λb H Q E=>E7 λ(p t:Addr)(m:Int)(c:gy)(d:hU)(v n:Int)=>b=[.ref p,.int v,.int n]/\ι T.Web H p m t c d/\(0<=v->v<m->0<=n->∀l a,γ H a->a l=some (.tup (((List.replicate m.toNat (0:Int)).set v.toNat n).map V.int))->Q (.ref l) a)/\(¬(0<=v/\v<m)->∀a,γ H a->E (.ref T.NoPlace) none a)/\(0<=v->v<m->n<0->∀a,γ H a->E (.ref T.BadLaying) none a)
abbrev FP:Stmt:=top 29
theorem Oo:ε ["web","place","many"] ["web","place","many"] (aF FP):=.of
theorem NY(T:Txt K I)(hq:bO (ψ P w))(L:Cb P w K I base "put" Ju ["web","laying","place","many"] 3 (KQ T)):Ok P w K I base "pile" FP ["web","place","many"] 4 (Hx T):=λ_ _ D=>by
 refine D.F.ϯ Oo (by walk_at "v") λς A j s H Z Q E R h=>?_;obtain⟨p,t,m,C,U,v,n,rfl,W,k,O,N⟩:=h;have g:=W.go;have m1:=g.m1;have ω:=g.ω;obtain⟨S,ob⟩:=W.ob;refine⟨_,(aH (bp (Λ L R bK (aa (δ 0) (aa (aV yB (cS (aa aD aq)) (dj (δ 0) rfl)) (aa (δ 1) (aa (δ 2) aq))))))),?_⟩;walk_at "s";walk_at "";refine⟨bL (by simp),λo J=>?_⟩;have u:=γ.new (.lst [V.int 0]) J;refine⟨T.Web,S,_,u _ _ ob,T.Ξ,T.ϓ,_,iu m t,?_⟩;refine⟨o,m,_,rfl,rfl,aw,by lia,by lia,bL (by simp;lia),λl Y=>?_⟩;rw[Qr];have c:=u.trans (γ.new (.lst (List.replicate m.toNat (V.int 0))) Y);have r:upd (upd H o (.lst [V.int 0])) l (.lst (List.replicate m.toNat (V.int 0))) l=some (.lst ((List.replicate m.toNat (0:Int)).map V.int)):=by rw[aw,List.map_replicate]
 generalize upd (upd H o (.lst [V.int 0])) l (.lst (List.replicate m.toNat (V.int 0)))=H1 at c r ⊢;have G:((List.replicate m.toNat (0:Int)).length:Int)=m:=by rw[dy];lia
 have X:∀x∈List.replicate m.toNat (0:Int),0<=x:=λx y=>by rw[(iC.mp y).2];decide
 have M:=n9 G X;have q:0<=v->v<m->(List.replicate m.toNat (0:Int)).getD v.toNat 0=0:=λa b=>by
  rw[List.getD,List.getElem?_replicate_of_lt (by lia)];rfl
 refine⟨p,l,t,true,m,C,U,_,v,n,rfl,W.same c,ξ.of r,by lia,λ_ a b d B i f e=>?_,λz=>(by rw[M]at z;cases z),λ_ z i f=>O z i (c.trans f),λ_ a b d i f=>?_⟩
 .rw[q a b,jB]at d e;exact k a b d B i (c.trans f) e
 .rw[q a b,jB]at d;exact N a b d i (c.trans f)
def ze(T:Txt K I):Sp:=λg H Q _=>W7 λ(o e b t:Addr)(m:Int)(d:gy)(f:hU)(a:List (List Int×List Int))(s:List Int×List Int)(v n:Int)=>g=[.ref o,.int v,.int n]/\π T.Web T.Desk H o e b m t d f (a++[s])/\a.length<=500/\(s.1.length:Int)=m/\(0<=v/\v<m)/\0<=n/\∀c,π T.Web T.Desk c o e b m t d f (a++[s]++[(s.1.set v.toNat (s.1.getD v.toNat 0+n),s.2)])->ϰ b H c->Q .τ c
abbrev sE:Stmt:=jL (top 110) 1
theorem Ha:ε ["self","place","many","heap"] ["self","place","many"] (aF sE):=.of
theorem BK:Υ (aF sE) "zip":=.of (by kernel_rfl)
theorem GK(T:Txt K I)(f:bO (ψ P w))(S:u9 P w base T)(X:pI P w base T)(W:rB P w base T)(EO:Cb P w K I base "pile" FP ["web","place","many"] 4 (Hx T)):Td P w K I base "put" "Desk.put" sE ["self","place","many"] 5 (ze T):=λ_ _ F=>by
 refine F.Ϙ Ha (by walk_at "v") λς A Z s H vs Q E D h=>?_;obtain⟨o,C,Y,t,m,B,J,ο,s,v,n,rfl,O,sl,xl,R,n0,k⟩:=h;obtain⟨dx,ob⟩:=O.ob;have ω:=O.web.go.ω;refine⟨_,(aA (Ζ 3 (ϛ EO D f (aa (dj (δ 0) rfl) (aa (δ 1) (aa (δ 2) aq))))) (aH (cL (pR (δ 0) T.η S.M S.G (D.mono (by decide)) S.b .nil (gF f) (aa (RF ii T.tuple (aa (jI rfl (mH (Nc:=["has","more"]) 2 (by decide +kernel) (by decide +kernel) rfl (by decide +kernel) rfl) (Lf false false BK.g T.zip (aa (gu (δ 0) T.η X.M X.G (D.mono (by decide)) X.b .nil (gF f)) (aa (δ 3) aq))) (λ_ _ _ _=>(CY K rfl (n:=2) rfl (cK (fq (i:=0) (show(["has","more"]:hO).Nodup from by decide +kernel) rfl (Or.inl rfl)) (cK (fq (i:=1) (show(["has","more"]:hO).Nodup from by decide +kernel) rfl (Or.inl rfl)) iT)))) (λ_ _ _ _=>iX) (λ_ _ _ _=>(aV dR (pv 0) (pv 1)))) aq)) (aa (gu (δ 0) T.η W.M W.G (D.mono (by decide)) W.b .nil (gF f)) aq)))))),?_⟩;walk_at "s";walk_at "";refine⟨T.Desk,dx,_,ob,T.η,T.ρ,_,yz _ _,?_⟩;refine⟨C,t,m,B,J,v,n,rfl,O.web,λ_ _ _ l1 H1 s1 e1=>?_,λz=>absurd R z,λ_ _ z=>by lia⟩;have r:=O.same s1;obtain⟨am,eQ⟩:=r.ob;refine r.Ο ?_;refine r.Ο ⟨o,C,Y,t,m,B,J,ο,s,rfl,r,λla XM=>?_⟩;have aC:((List.replicate m.toNat (0:Int)).set v.toNat n).length=m.toNat:=by rw[b7,dy]
 refine⟨la,l1,⟨rfl,rfl⟩,⟨_,Β.of XM⟩,⟨_,Β.of e1⟩,λp hp=>?_⟩;refine EX (K:=K) (c:=false) (d:=false) (xs:=s.1.map V.int) (zs:=((List.replicate m.toNat (0:Int)).set v.toNat n).map V.int) (λi l u a=>γ H1 a/\a p=some (.lst l)/\l=(((s.1.zip ((List.replicate m.toNat (0:Int)).set v.toNat n)).take i).map λq=>q.1+q.2).map V.int/\∃v w,u=[v,w]) ⟨γ.new _ hp,aw,rfl,_,_,rfl⟩ (λi l u a z=>⟨Β.of (z.1 _ _ XM),Β.of (z.1 _ _ e1)⟩) ?_ ?_
 .rintro i x z l u a q N hN hx YZ ⟨s2,e2,rfl,v',w,rfl⟩ f;rw[aQ]at hx YZ;obtain⟨x,gx,rfl⟩:=bS.mp hx;obtain⟨z,gz,rfl⟩:=bS.mp YZ;have j:=γ.new (.tup [V.int x,V.int z]) f;have an:=(ay.mp gx).1;walk_at "";refine⟨_,Β.of aw,rfl,_,_,rfl,_,_,rfl,rfl,?_⟩;walk_at "";refine⟨j _ _ e2,eK (by simp;lia),hN _ _ _ ⟨(s2.trans j).put hp _,aw,?_,_,_,rfl⟩⟩;have Yn:(s.1.zip ((List.replicate m.toNat (0:Int)).set v.toNat n))[i]?=some (x,z):=by rw[ki];exact⟨gx,gz⟩
  rw[bq,Yn,aE,aE]
  rfl
 .rintro l u a ⟨s2,e2,rfl,v',w,rfl⟩;have e:(((s.1.zip ((List.replicate m.toNat (0:Int)).set v.toNat n)).take (min (s.1.map V.int).length (((List.replicate m.toNat (0:Int)).set v.toNat n).map V.int).length)).map λq=>q.1+q.2)=s.1.set v.toNat (s.1.getD v.toNat 0+n):=by
   rw[cj (by rw[List.length_zip,ag,ag];exact aN _),<-Nf xl R.1 R.2];unfold mF;rw[List.zip,List.map_zipWith]
  rw[e]at e2;refine⟨p,rfl,_,.inl ⟨ξ.of e2,λL n3=>?_⟩⟩;have j:=s2.trans (γ.new (.tup ((s.1.set v.toNat (s.1.getD v.toNat 0+n)).map V.int)) n3);have e3:upd a L (.tup ((s.1.set v.toNat (s.1.getD v.toNat 0+n)).map V.int)) L=some (.tup ((s.1.set v.toNat (s.1.getD v.toNat 0+n)).map V.int)):=aw;generalize upd a L (.tup ((s.1.set v.toNat (s.1.getD v.toNat 0+n)).map V.int))=H3 at j e3 ⊢;have U:=r.same j;refine U.Ο ⟨o,C,Y,t,m,B,J,ο,s,rfl,U,λlb Y0=>?_⟩;refine⟨o,C,Y,t,L,lb,m,B,J,_,(_,_),rfl,U,e3,Y0,by rw[ap];simp;lia,λH4 O4 k4=>k H4 O4 ?_⟩;exact λc y h n=>k4 c y (j _ _ (s1 _ _ h)) n
def qD(T:Txt K I):Sp:=λd H Q _=>E3 λ(a c:Addr)(n:Int)=>d=[.ref a,.int n]/\H a=some (RE a (.ref T.BadStep) none)/\sI K T.BadStep c/\∀b,H b=none->b≠a->Q .τ (upd (upd H a (RE a (.ref T.BadStep) (some b))) b (.xd [("at",.int n)]))
abbrev kZ:Stmt:=jL (top 9) 0
theorem xg:ε ["self","at"] ["self","at"] (aF kZ):=.of
theorem lP:Υ (aF kZ) "TollError":=.of (by kernel_rfl)
theorem xh(T:Txt K I)(j:bO (ψ P w)):Td P w K I base "__init__" "BadStep.__init__" kZ ["self","at"] 1 (qD T):=λ_ _ F=>by
 refine F.Ϙ xg (by walk_at "v") λl A b s H i Q E m h=>?_;obtain⟨a,e,n,rfl,c,f,k⟩:=h;refine⟨_,(aA (cL (zh T.Rg lP.g T.Rc (aa (δ 0) (aa (δ 1) aq)) (hdb:=lP.d))) (aH (HU rfl (δ 0) (δ 1) rfl))),?_⟩;walk_at "s";show ∃v,_;refine⟨V.ref a,rfl,V.int n,rfl,?_⟩;refine⟨a,T.BadStep,e,none,[V.int n],rfl,bL (by simp),f,c,?_⟩;show ∃v,_;refine⟨V.int n,rfl,V.ref a,rfl,?_⟩;exact⟨a,T.BadStep,T.TollError,rfl,c,T.T5,k⟩
def Ig(T:Txt K I):Sp:=λd H Q E=>E7 λ(p t:Addr)(m:Int)(e:gy)(c:hU)(a b:Int)=>d=[.ref p,.int a,.int b]/\ι T.Web H p m t e c/\(∀k,0<=a->a<m->0<=b->b<m->fg c a b=some k->Q (.int k) H)/\(¬((0<=a/\a<m)/\(0<=b/\b<m))->E (.ref T.NoPlace) none H)/\(0<=a->a<m->0<=b->b<m->fg c a b=none->E (.ref T.NoRoad) none H)
abbrev B7:Stmt:=top 16
theorem Ol:ε ["web","a","b","one","other","there","back"] ["web","a","b"] (aF B7):=.of
theorem vg:Υ (aF B7) "NoRoad":=.of (by kernel_rfl)
theorem Ob(T:Txt K I)(hq:bO (ψ P w))(Y:ni P w base T):Ok P w K I base "toll" B7 ["web","a","b"] 3 (Ig T):=λ_ _ D=>by
 refine D.F.ϯ Ol (by walk_at "v") λς A X s H vs Q E Z h=>?_;obtain⟨p,t,m,C,f,a,b,rfl,W,k,e1,e2⟩:=h;obtain⟨dx,ob⟩:=W.ob;refine⟨_,(aA (cL (Λ Y Z bK (aa (δ 0) (aa (δ 1) aq)))) (aA (cL (Λ Y Z bK (aa (δ 0) (aa (δ 2) aq)))) (aA (gH PassesOwn.leaving rfl (vk (dj (δ 0) rfl)) (kU (n:=4) rfl (cK (ϧ 3) (cK (ϧ 4) (cK (ϧ 5) (cK (ϧ 6) iT))))) (aA (b5 (PW.pt (yk (Μ di (δ 3) (δ 1)) (vM (Μ di (δ 4) (δ 2))))) (aH (bp (δ 5))) bE) (aH (b5 (PW.pt (yk (Μ di (δ 3) (δ 2)) (vM (Μ di (δ 4) (δ 1))))) (aH (bp (δ 6))) bE)))) (aH (jM T.UO rfl kR vg.g T.UL (aa bo aq) (hdb:=vg.d)))))),?_⟩;walk_at "s";walk_at "";refine⟨p,t,m,C,f,a,rfl,W,λM L=>?_,λz=>e1 λw=>z w.1⟩;refine⟨p,t,m,C,f,b,rfl,W,λJ G=>?_,λz=>e1 λw=>z w.2⟩;refine⟨T.Web,dx,_,ob,T.Ξ,T.Rp,_,uY m t,t,rfl,⟨_,Β.of W.tu⟩,?_⟩;have l:C.length=f.length:=Paired.length W.ro;refine Aq (K:=K) (xs:=C.map V.ref) (λi B o=>o=H/\fg (f.take i) a b=none/\∃U R S O,B=[some (V.ref p),some (V.int a),some (V.int b),U,R,S,O]) ⟨rfl,rfl,_,_,_,_,rfl⟩ (λi B o _ z=>by rw[z.1];exact Β.of W.tu) ?_ ?_
 .rintro i x B o N hN hx ⟨rfl,V7,U,R,S,O,rfl⟩;obtain⟨q,r,rfl,h1,y,h3⟩:=W.ro.get hx;have et:f.take (i+1)=f.take i++[r]:=by rw[bq,y];rfl
  have split:fg f a b=(fg (f.take i) a b).or ((mI a b r).or (fg (f.drop (i+1)) a b)):=by
   have:f=f.take i++r::f.drop (i+1):=by
    have RJ:i<f.length:=(ay.mp y).1;have e:f[i]=r:=(by rw[aB RJ]at y;exact bC y);rw[<-e,lN,fL]
   conv=>lhs;rw[this]
   unfold fg;rw[jv,j6];cases mI a b r<;>rfl
  rw[V7,Option.none_or]at split;walk_at "";refine⟨_,Β.of h3,rfl,_,_,rfl,_,_,rfl,_,_,rfl,_,_,rfl,rfl,?_⟩;walk_at "";have c:mI a b r=none->N [some (V.ref p),some (V.int a),some (V.int b),some (V.int r.a),some (V.int r.b),some (V.int r.t),some (V.int r.u)] o:=λz=>hN _ _ ⟨rfl,by
   rw[et];unfold fg at V7 ⊢;rw[jv,V7,j6,z]
   rfl,_,_,_,_,rfl⟩
  have j:∀v,mI a b r=some v->fg f a b=some v:=λv z=>by rw[split,z];rfl
  unfold mI at c j;split
  .rename_i c1
   split
   .rename_i c2
    exact k _ M L J G (j _ (by rw[ao ⟨c1,c2⟩]))
   .rename_i c2
    split
    .rename_i c3
     split
     .rename_i c4
      exact k _ M L J G (j _ (by rw[ah (λz=>c2 z.2),ao ⟨c3,c4⟩]))
     .rename_i c4
      exact c (by rw[ah (λz=>c2 z.2),ah (λz=>c4 z.2)])
    .rename_i c3
     exact c (by rw[ah (λz=>c2 z.2),ah (λz=>c3 z.1)])
  .rename_i c1
   split
   .rename_i c3
    split
    .rename_i c4
     exact k _ M L J G (j _ (by rw[ah (λz=>c1 z.1),ao ⟨c3,c4⟩]))
    .rename_i c4
     exact c (by rw[ah (λz=>c1 z.1),ah (λz=>c4 z.2)])
   .rename_i c3
    exact c (by rw[ah (λz=>c1 z.1),ah (λz=>c3 z.1)])
 .rintro B o ⟨rfl,V7,U,R,S,O,rfl⟩;rw[ag,l,bQ]at V7;walk_at "";exact⟨by decide,e2 M L J G V7⟩
abbrev qB(P:Program)(w:World)(base:Heap)(T:Txt K I):=Cb P w K I base "toll" B7 ["web","a","b"] 3 (Ig T)
def FB(T:Txt K I):Sp:=λb H Q _=>E7 λ(p q t:Addr)(m:Int)(c:gy)(a:hU)(s:Ϧ)=>b=[.ref p,.ref q]/\ι T.Web H p m t c a/\H q=some (.tup (Vw s))/\qb m a s=true/\Q (.int (s.2.2*mO a s.1 s.2.1)) H
abbrev Ce:Stmt:=top 41
theorem MY:ε ["web","step"] ["web","step"] (aF Ce):=.of
theorem LM(T:Txt K I)(e:bO (ψ P w))(o:qB P w base T):Ok P w K I base "taken" Ce ["web","step"] 4 (FB T):=λ_ _ D=>by
 refine D.F.Ϙ MY (by walk_at "v") λv A b s H r Q E l h=>?_;obtain⟨p,q,t,m,d,n,s,rfl,W,a,is,k⟩:=h;have g:=W.go;obtain⟨x,c,j,y,f⟩:=DE g is;have i:=(wN is).1;refine⟨_,(aH (bp (aV oq (Η fB (δ 1) aD) (ϛ o l e (aa (δ 0) (aa (Η fB (δ 1) aD) (aa (Η fB (δ 1) aD) aq))))))),?_⟩;walk_at "s";walk_at "";refine Ry a rfl (Ry a rfl (Ry a rfl ?_));refine⟨p,t,m,d,n,s.1,s.2.1,?_⟩;refine an5 rfl W (λu _ _ _ _ h=>?_) (λz=>absurd ⟨i,f⟩ z) (λ_ _ _ _ z=>by rw[c]at z;cases z);rw[c]at h;cases h;rw[j]at k;exact⟨_,rfl,_,rfl,.inr ⟨by lia,by lia⟩,k⟩
abbrev HE(P:Program)(w:World)(base:Heap)(T:Txt K I):=Cb P w K I base "taken" Ce ["web","step"] 4 (FB T)
def DY(T:Txt K I):Sp:=λe H Q _=>E9 λ(p a q t:Addr)(m:Int)(f:gy)(d:hU)(b:dm)(s:Ϧ)=>e=[.ref p,.ref a,.ref q]/\ι T.Web H p m t f d/\Β K H a (b.map V.int)/\(b.length:Int)=m/\H q=some (.tup (Vw s))/\qb m d s=true/\∀l c,H l=none->γ H c->c l=some (.tup ((rE d b s).map V.int))->Q (.ref l) c
abbrev Au:Stmt:=top 42
theorem KZ:ε ["web","laying","step","counts"] ["web","laying","step"] (aF Au):=.of
theorem Lc(T:Txt K I)(G:bO (ψ P w))(J:HE P w base T):Ok P w K I base "behind" Au ["web","laying","step"] 5 (DY T):=λ_ _ D=>by
 refine D.F.Ϙ KZ (by walk_at "v") λY A o s H U Q E O h=>?_;obtain⟨p,a,q,t,m,B,c,b,s,rfl,W,N,X,M,is,k⟩:=h;have g:=W.go;have ω:=g.ω;obtain⟨kk,e1,Z,kr,u⟩:=DE g is;have x:=(wN is).1;refine⟨_,(aA (Ζ 3 (RF oz T.list (aa (δ 1) aq))) (aA (rg (δ 3) (Η fB (δ 2) aD) pL (ϛ J O G (aa (δ 0) (aa (δ 2) aq))) PQ iy) (aA (rg (δ 3) (Η fB (δ 2) aD) pL (Η fB (δ 2) aD) vx iy) (aH (bp (RF ii T.tuple (aa (δ 3) aq))))))),?_⟩;walk_at "s";walk_at "";refine⟨_,.inr N,λl nl=>?_⟩;have d:=γ.new (.lst (b.map V.int)) nl;have f:=d _ _ M;have i:upd H l (.lst (b.map V.int)) l=some (.lst (b.map V.int)):=aw;generalize upd H l (.lst (b.map V.int))=C at d f i ⊢;refine Ry f rfl (Ι i (Rb x.1 (by lia)) ?_);refine⟨p,q,t,m,B,c,s,?_⟩;refine an5 rfl (W.same d) f is ?_;refine⟨_,rfl,_,rfl,tS i x.1 (by rw[ag];lia) ?_⟩;rw[<-cY];have j:q≠l:=dX f i (by intro z;cases z);have L:(b.set s.1.toNat (b.getD s.1.toNat 0-s.2.2*mO c s.1 s.2.1)).length=b.length:=by rw[b7]
 have y:rE c b s=(b.set s.1.toNat (b.getD s.1.toNat 0-s.2.2*mO c s.1 s.2.1)).set s.2.1.toNat ((b.set s.1.toNat (b.getD s.1.toNat 0-s.2.2*mO c s.1 s.2.1)).getD s.2.1.toNat 0+s.2.2):=rfl;generalize b.set s.1.toNat (b.getD s.1.toNat 0-s.2.2*mO c s.1 s.2.1)=S at L y ⊢;have v:upd C l (.lst (S.map V.int)) q=some (.tup (Vw s)):=by rw[aY j];exact f
 refine Ry v rfl (Ι aw (Rb u.1 (by lia)) (Ry v rfl ⟨_,rfl,_,rfl,tS aw u.1 (by rw[ag];lia) ?_⟩));rw[mi,<-cY,<-y];refine⟨_,.inl ⟨ξ.of aw,λn e=>?_⟩⟩;have R:H n=none:=by
  have r:n≠l:=λz=>by rw[z,aw]at e;cases e
  rw[aY r]at e;exact d.free e
 exact k n _ R ((d.put nl _).trans (γ.new _ e)) aw
def wW(T:Txt K I):Sp:=λd H Q E=>E6 λ(p t:Addr)(m:Int)(e:gy)(c:hU)(a:Int)=>d=[.ref p,.int a]/\ι T.Web H p m t e c/\(∀l b,0<=a->a<m->H l=none->γ H b->b l=some (.lst ((jN m c a).map V.int))->Q (.ref l) b)/\(¬(0<=a/\a<m)->E (.ref T.NoPlace) none H)
abbrev tT:Stmt:=top 17
theorem En:ε ["web","a"] ["web","a"] (aF tT):=.of
theorem Ek(T:Txt K I)(J:bO (ψ P w))(x:ni P w base T)(q:xy P w base T):Ok P w K I base "neighbours" tT ["web","a"] 3 (wW T):=λ_ _ D=>by
 refine D.F.ϯ En (by walk_at "v") λL A c s H C Q E l h=>?_;obtain⟨p,t,m,g,b,a,rfl,W,k,e⟩:=h;obtain⟨z,ob⟩:=W.ob;refine⟨_,(aA (cL (Λ x l bK (aa (δ 0) (aa (δ 1) aq)))) (aH (bp (Q4 G9 T.sorted (aa (Λ q l bK (aa (dj (δ 0) rfl) (aa (δ 1) aq))) aq))))),?_⟩;walk_at "s";walk_at "";refine⟨p,t,m,g,b,a,rfl,W,λn j=>?_,e⟩;have i:(b.length:Int)=m-1:=W.go.len;have ω:=W.go.ω;refine⟨T.Web,z,_,ob,T.Ξ,T.Rp,_,uY m t,t,g,b,a,rfl,Β.of W.tu,W.ro,by lia,λv G M d y=>?_⟩;refine⟨v,rfl,fX b a,ξ.of y,by have:=EA b a;lia,λu B f o r=>?_⟩;rw[OE W.go n j o r];exact k u _ n j (d.free f) (d.trans (γ.new _ f)) aw
abbrev xX(P:Program)(w:World)(base:Heap)(T:Txt K I):=Cb P w K I base "neighbours" tT ["web","a"] 3 (wW T)
def Bk(T:Txt K I):Sp:=λc H Q _=>E7 λ(p q t:Addr)(m:Int)(d:gy)(b:hU)(s:Ϧ)=>c=[.ref p,.ref q]/\ι T.Web H p m t d b/\H q=some (.tup (Vw s))/\∀a,γ H a->Q (.bl (qb m b s)) a
abbrev xR:Stmt:=top 40
theorem Jb:ε ["web","step"] ["web","step"] (aF xR):=.of
theorem Jm(T:Txt K I)(j:bO (ψ P w))(v:vW P w base T)(r:xX P w base T):Ok P w K I base "is_step" xR ["web","step"] 4 (Bk T):=λ_ _ D=>by
 refine D.F.Ϙ Jb (by walk_at "v") λG A g s H C Q E n h=>?_;obtain⟨p,q,t,m,u,f,s,rfl,W,b,k⟩:=h;obtain⟨y,ob⟩:=W.ob;refine⟨_,(aH (bp (BR (ϛ v n j (aa (dj (δ 0) rfl) (aa (Η fB (δ 1) aD) aq))) (BR (kP Ds (Η fB (δ 1) aD) (ϛ r n j (aa (δ 0) (aa (Η fB (δ 1) aD) aq))) (by with_unfolding_all rfl)) (BZ (kP yZ (Η fB (δ 1) aD) aD (jR _))))))),?_⟩;walk_at "s";walk_at "";refine⟨T.Web,y,_,ob,T.Ξ,T.ϓ,_,iu m t,Ry b rfl ⟨m,s.1,rfl,?_⟩⟩;refine⟨_,rfl,?_⟩;have a:∀o,γ H o->Q (.bl (decide (0<=s.1)&&decide (s.1<m)&&decide (s.2.1∈jN m f s.1)&&decide (1<=s.2.2))) o:=k;by_cases c:(decide (0<=s.1)&&decide (s.1<m))=true
 .rw[ao c];rw[c,je]at a;have x:0<=s.1/\s.1<m:=by
   rw[bw]at c;exact⟨bn c.1,bn c.2⟩
  refine Ry b rfl (Ry b rfl ?_);refine⟨p,t,m,u,f,s.1,?_⟩;refine Vx rfl W (λl i _ _ nl e B=>?_) (λz=>absurd x z);refine inL B ⟨_,rfl,?_⟩;by_cases d:s.2.1∈jN m f s.1
  .rw[bB d,je]at a;rw[ao (by rw[bB d];rfl)];exact Ry (e _ _ b) rfl ⟨_,rfl,a i e⟩
  .rw[bP d,gw]at a;rw[ah (by rw[bP d];decide)];exact a i e
 .rw[ah c];rw[show(decide (0<=s.1)&&decide (s.1<m))=false by simpa using c,gw,gw]at a;exact a H (γ.refl _)
def vF(T:Txt K I):Sp:=λe H Q _=>E9 λ(p a q t:Addr)(m:Int)(f:gy)(d:hU)(b:dm)(s:Ϧ)=>e=[.ref p,.ref a,.ref q]/\ι T.Web H p m t f d/\Β K H a (b.map V.int)/\(b.length:Int)=m/\H q=some (.tup (Vw s))/\∀c,γ H c->Q (.bl (kE m d b s)) c
abbrev si:Stmt:=top 39
theorem Cg:ε ["web","laying","step"] ["web","laying","step"] (aF si):=.of
theorem Cu(T:Txt K I)(j:bO (ψ P w))(n:Cb P w K I base "is_step" xR ["web","step"] 4 (Bk T))(o:HE P w base T):Ok P w K I base "can_be_done" si ["web","laying","step"] 5 (vF T):=λ_ _ D=>by
 refine D.F.Ϙ Cg (by walk_at "v") λz A f s H v Q E l h=>?_;obtain⟨p,a,q,t,m,g,d,x,s,rfl,W,u,y,e,k⟩:=h;refine⟨_,(aH (bp (BR (ϛ n l j (aa (δ 0) (aa (δ 2) aq))) (BZ (kP yZ (Η fB (δ 1) (oJ fB (δ 2) aD (λ_ _=>rfl))) (ϛ o l j (aa (δ 0) (aa (δ 2) aq))) (jR _)))))),?_⟩;walk_at "s";walk_at "";refine⟨p,q,t,m,g,d,s,?_⟩;refine Vx rfl W e (λi b=>⟨_,rfl,?_⟩);by_cases c:qb m d s=true
 .rw[ao c];have r:=(wN c).1;refine Ry (b _ _ e) rfl (CI (γ.tup b u) (Rb r.1 (by lia)) ?_);refine⟨p,q,t,m,g,d,s,?_⟩;refine an5 rfl (W.same b) (b _ _ e) c ?_;have:=k i b;unfold kE at this;rw[c,je]at this;exact⟨_,rfl,_,rfl,this⟩
 .rw[ah c];have:=k i b;unfold kE at this;rw[show qb m d s=false by simpa using c,gw]at this;exact this
def Bj(T:Txt K I):Sp:=λo H Q E=>V0 λ(p a b t:Addr)(c d:Bool)(m:Int)(q n:gy)(h:hU)(f:dm)(g:List Ϧ)=>o=[.ref p,.ref a,.ref b]/\ι T.Web H p m t q h/\Ux c H a (f.map V.int)/\f.length<=1000/\Ux d H b (n.map V.ref)/\Γ H n g/\g.length<=1000/\(bz m f=true->KC m h f g->∀l j e,H l=none->γ H e->e l=some (.lst (j.map V.ref))->JV e j (uw h f g)->Q (.ref l) e)/\(bz m f=true->∀i k e,RB m h f g i->γ H e->e k=some (.xd [("at",.int (i:Int))])->E (.ref T.BadStep) (some k) e)/\(bz m f=false->∀e,γ H e->E (.ref T.BadLaying) none e)
abbrev rV:Stmt:=top 38
theorem II:ε ["web","laying","steps","passed","at","step"] ["web","laying","steps"] (aF rV):=.of
theorem wI:Υ (aF rV) "enumerate":=.of (by kernel_rfl)
theorem rY:Υ (aF rV) "BadStep":=.of (by kernel_rfl)
theorem JI(T:Txt K I)(hq:bO (ψ P w))(L:Cm P w K I base (sI K T.BadStep) "__init__" "BadStep.__init__" kZ ["self","at"] 1 (qD T))(zF:Cb P w K I base "behind" Au ["web","laying","step"] 5 (DY T))(r9:Cb P w K I base "can_be_done" si ["web","laying","step"] 5 (vF T))(gr:rD P w base T):Ok P w K I base "layings" rV ["web","laying","steps"] 6 (Bj T):=λ_ _ D=>by
 refine D.F.ϯ II (by walk_at "v") λς A af s H vs Q E Z h=>?_;obtain⟨p,a,b,t,c,d,m,ps,U,rs,xs,ss,rfl,W,ha,x1,hb,B,sl,k,kb,kl⟩:=h;have g:=W.go;have ω:=g.ω;refine⟨_,(aA (Ζ 3 (cS (aa (Λ gr Z bK (aa (δ 0) (aa (δ 1) aq))) aq))) (aA (gH PassesOwn.leaving rfl (Hs d wI.g T.enumerate (δ 2)) (kU (n:=2) rfl (cK (ϧ 4) (cK (ϧ 5) iT))) (aA (b5 (nj (mR (Λ r9 Z bK (aa (δ 0) (aa (Η bG (δ 3) (sG qg aD)) (aa (δ 5) aq)))))) (aH (om L.M L.G hq (Z.mono (by decide)) L.b rfl rfl qT rY.g T.RW (aa (δ 4) aq) (hdb:=rY.d))) bE) (aH (cL (eu PySem.F.plainAttrs_list PySem.F.slot_list_append PySem.F.type_list_append eG (δ 3) (aa (Λ zF Z bK (aa (δ 0) (aa (Η bG (δ 3) (sG qg aD)) (aa (δ 5) aq)))) aq)))))) (aH (bp (δ 3))))),?_⟩;walk_at "s";walk_at "";refine⟨p,a,t,c,m,ps,rs,xs,?_⟩;refine an6 rfl W ha.sq x1 (λO y H1 s1 e1 _=>?_) kl;have xl:(xs.length:Int)=m:=by
  unfold bz at O;rw[bw]at O;exact bn O.1
 have ad:H1 y=some (.tup (xs.map V.int)):=by
  rcases e1 with e|⟨hc,rfl⟩
  .exact e
  .subst hc;exact s1 _ _ ha
 refine⟨bL (by simp),λl nl=>?_⟩;have s2:=γ.new (.lst [V.ref y]) nl;have ZY:=s1.free nl;have Ϝ:=s1.trans s2;have e2:=s2 _ _ ad;have el:upd H1 l (.lst [V.ref y]) l=some (.lst [V.ref y]):=aw;generalize upd H1 l (.lst [V.ref y])=H2 at s2 Ϝ e2 el ⊢;have ql:U.length=ss.length:=Paired.length B;have J:∀{o:Hp},γ H o->ύ K d o b (U.map V.ref):=λ{o} s3=>Ux.sq (K:=K) (show Ux d o b (U.map V.ref)from s3 _ _ hb);refine⟨⟨_,J Ϝ⟩,?_⟩;refine LP (K:=K) (c:=d) (xs:=U.map V.ref) (λi S o=>γ H o/\i<=ss.length/\(∀j s,j<i->ss[j]?=some s->kE m rs (ow rs xs ss j) s=true)/\E3 λ(r:gy)(v4 v5:Option V)=>o l=some (.lst (r.map V.ref))/\JV o r ((uw rs xs ss).take (i+1))/\S=[some (V.ref p),some (V.ref a),some (V.ref b),some (V.ref l),v4,v5]) ⟨Ϝ,bT _,λj s h=>absurd h (Nat.not_lt_zero _),[y],_,_,el,?_,rfl⟩ (λi S o z=>J z.1) ?_ ?_
 .have h0:=t7 (rs:=rs) (xs:=xs) (ss:=ss) (i:=0) (bT _);rw[Ld]at h0;rw[bq,h0,eB];exact .cons e2 .nil
 .rintro i x S o q N hN hx ⟨s3,il,bf,r,v4,v5,e3,ta,rfl⟩ nq;obtain⟨qx,s,rfl,h1,X,h3⟩:=(Γ.same s3 B).get hx;have Xi:i<ss.length:=(ay.mp X).1;have C:=γ.new (.tup [V.int (i:Int),V.ref qx]) nq;have tl:r.length=((uw rs xs ss).take (i+1)).length:=Paired.length ta;rw[aZ,xI]at tl;have b2:=Nj rs xs ss i;obtain⟨v,Y2⟩:∃v,r[i]?=some v:=⟨_,aB (by lia)⟩;obtain⟨bx,Y3,Wb⟩:=FH ta Y2;rw[iK (by lia),t7 il]at Y3;cases Y3;have UQ:∃t',r=t'++[v]:=by
   refine⟨r.take i,?_⟩;have:=bq (l:=r) (i:=i);rw[Y2,cj (by lia)]at this;exact this
  obtain⟨t',Sf⟩:=UQ;have Y:o l=some (.lst (t'.map V.ref++[V.ref v])):=by rw[e3,Sf,aE];rfl
  walk_at "";refine⟨_,Β.of aw,rfl,_,_,rfl,_,_,rfl,rfl,?_⟩;refine Ι (C _ _ Y) (zJ _ _) ?_;refine⟨p,v,qx,t,m,ps,rs,ow rs xs ss i,s,rfl,W.same (s3.trans C),Β.of (C _ _ Wb),by lia,C _ _ h3,λH5 s5=>⟨_,rfl,?_⟩⟩;have u:=C.trans s5;cases cd:kE m rs (ow rs xs ss i) s
  .rw[ao rfl];refine⟨V.int (i:Int),rfl,bL (by simp),λea ne=>⟨ea,L.f,_,rfl,aw,L.M,λdx nd BV=>⟨rfl,some dx,?_,?_⟩⟩⟩
   .rw[aY (Ne.symm BV),aw]
   .exact kb O i dx _ ⟨bf,s,X,cd⟩ ((s3.trans u).trans (qR ne nd BV)) (by rw[pw BV,aw])
  rw[ah (by decide)];have is:qb m rs s=true:=by
   unfold kE at cd;rw[bw]at cd;exact cd.1
  refine⟨Rz (u _ _ Y),Ι (u _ _ Y) (zJ _ _) ?_⟩;refine⟨p,v,qx,t,m,ps,rs,ow rs xs ss i,s,rfl,W.same (s3.trans u),Β.of (u _ _ Wb),by lia,u _ _ h3,is,λtn H6 nn s6 en=>?_⟩;have R:=u.trans s6;have an:tn≠l:=λz=>by rw[z,u _ _ Y]at nn;cases nn
  refine nK (R _ _ e3) (eK (by rw[ag];lia)) (hN _ _ ⟨(s3.trans R).put ZY _,Xi,λj s' hj Us=>?_,r++[tn],_,_,by rw[aw,aE];rfl,?_,rfl⟩)
  .by_cases z:j=i
   .subst z;rw[X]at Us;cases Us;exact cd
   .exact bf j s' (by lia) Us
  rw[bq,t7 (by lia),Kh X];exact yF (by rw[aY an];exact en) (Paired.imp' (λa b h=>by rw[aY (dX (R _ _ h) (R _ _ e3) (by intro z;cases z))];exact R _ _ h) ta)
 .rintro S o ⟨s3,il,bf,r,v4,v5,e3,ta,rfl⟩;rw[ag,ql,cj (by rw[xI];exact aN _)]at ta;walk_at "";refine k O (λj s B=>bf j s ?_ B) l r o ZY s3 e3 ta;rw[ag,ql];exact(ay.mp B).1
def DP(T:Txt K I):Sp:=λn H Q E=>V0 λ(p a b t:Addr)(c d:Bool)(m:Int)(o k:gy)(h:hU)(f:dm)(g:List Ϧ)=>n=[.ref p,.ref a,.ref b]/\ι T.Web H p m t o h/\Ux c H a (f.map V.int)/\f.length<=1000/\Ux d H b (k.map V.ref)/\Γ H k g/\g.length<=1000/\(bz m f=true->KC m h f g->∀l e,γ H e->e l=some (.tup ((ow h f g g.length).map V.int))->Q (.ref l) e)/\(bz m f=true->∀i j e,RB m h f g i->γ H e->e j=some (.xd [("at",.int (i:Int))])->E (.ref T.BadStep) (some j) e)/\(bz m f=false->∀e,γ H e->E (.ref T.BadLaying) none e)
abbrev Ak:Stmt:=top 37
theorem K8:ε ["web","laying","steps"] ["web","laying","steps"] (aF Ak):=.of
theorem J7(T:Txt K I)(hq:bO (ψ P w))(S:Cb P w K I base "layings" rV ["web","laying","steps"] 6 (Bj T)):Ok P w K I base "walked" Ak ["web","laying","steps"] 7 (DP T):=λ_ _ D=>by
 refine D.F.ϯ K8 (by walk_at "v") λς A j s H vs Q E U h=>?_;obtain⟨p,a,b,t,c,d,m,z,Z,u,o,f,rfl,W,R,L,hb,O,N,k,V,Y⟩:=h;refine⟨_,(aH (bp (oJ bG (Λ S U bK (aa (δ 0) (aa (δ 1) (aa (δ 2) aq)))) (sG qg aD) (λ_ _=>rfl)))),?_⟩;walk_at "s";walk_at "";refine⟨p,a,b,t,c,d,m,z,Z,u,o,f,?_⟩;refine⟨rfl,W,R,L,hb,O,N,λM B l e J nl x v n=>?_,V,Y⟩;have C:e.length=(uw u o f).length:=Paired.length n;rw[xI]at C;obtain⟨g,r⟩:∃g,e[f.length]?=some g:=⟨_,aB (by lia)⟩;obtain⟨G,q,y⟩:=FH n r;rw[t7 (aN _)]at q;cases q;have X:e=e.take f.length++[g]:=by
  have:=bq (l:=e) (i:=f.length);rw[r,cj (by lia)]at this;exact this
 rw[X,aE]at v;exact Ι v (zJ _ _) (k M B g J x y)
def yx(T:Txt K I):Sp:=λj H Q E=>V0 λ(o h f t:Addr)(m:Int)(g:gy)(d:hU)(e:List (List Int×List Int))(s:List Int×List Int)(a b n:Int)=>j=[.ref o,.int a,.int b,.int n]/\π T.Web T.Desk H o h f m t g d (e++[s])/\e.length<=500/\bz m s.1=true/\(kE m d s.1 (a,b,n)=true->∀c,π T.Web T.Desk c o h f m t g d (e++[s]++[(rE d s.1 (a,b,n),s.2)])->ϰ f H c->Q .τ c)/\(kE m d s.1 (a,b,n)=false->∀i c,γ H c->c i=some (.xd [("at",.int 0)])->E (.ref T.BadStep) (some i) c)
abbrev u8:Stmt:=jL (top 110) 3
theorem EL:ε ["self","a","b","times"] ["self","a","b","times"] (aF u8):=.of
theorem Fg(T:Txt K I)(hq:bO (ψ P w))(r:u9 P w base T)(x:pI P w base T)(v:rB P w base T)(zX:Cb P w K I base "walked" Ak ["web","laying","steps"] 7 (DP T)):Td P w K I base "step" "Desk.step" u8 ["self","a","b","times"] 8 (yx T):=λ_ _ F=>by
 refine F.ϯ EL (by walk_at "v") λς A J s H vs Q E p h=>?_;obtain⟨o,j,C,t,m,g,f,L,s,a,b,n,rfl,O,sl,R,k,e'⟩:=h;obtain⟨dx,ob⟩:=O.ob;have ω:=O.web.go.ω;refine⟨_,(aH (cL (pR (δ 0) T.η r.M r.G (p.mono (by decide)) r.b .nil bK (aa (Λ zX p bK (aa (dj (δ 0) rfl) (aa (gu (δ 0) T.η x.M x.G (p.mono (by decide)) x.b .nil bK) (aa (cS (aa (jT (aa (δ 1) (aa (δ 2) (aa (δ 3) aq)))) aq)) aq)))) (aa (gu (δ 0) T.η v.M v.G (p.mono (by decide)) v.b .nil bK) aq))))),?_⟩;walk_at "s";walk_at "";refine O.Ο ?_;refine O.Tv T.η T.ρ ?_;refine O.Ο ⟨o,j,C,t,m,g,f,L,s,rfl,O,λla XM=>⟨bL (by simp),λd n1=>⟨bL (by simp),λq n2=>?_⟩⟩⟩;have Y:=γ.new (.tup [V.int a,V.int b,V.int n]) n1;have N:=γ.new (.lst [V.ref d]) n2;have W:=N _ _ (aw (H:=H) (a:=d) (o:=.tup [V.int a,V.int b,V.int n]));have U:upd (upd H d (.tup [V.int a,V.int b,V.int n])) q (.lst [V.ref d]) q=some (.lst [V.ref d]):=aw;have e:=Y.trans N;generalize upd (upd H d (.tup [V.int a,V.int b,V.int n])) q (.lst [V.ref d])=H2 at W U e ⊢;have S:=O.same e;refine⟨j,la,q,t,false,true,m,g,[d],f,s.1,[(a,b,n)],rfl,S.web,e _ _ XM,by have:=ip R;lia,U,.cons W .nil,by simp,λ_ ca l3 X l B=>?_,λ_ i YX X fb l B=>?_,λz=>by rw[R]at z;cases z⟩
 rotate_left
 .obtain⟨rfl,cb⟩:=Om fb;exact e' cb YX X (e.trans l) B
 have D:kE m f s.1 (a,b,n)=true:=ca 0 _ rfl;have u:=S.same l;refine u.Ο ⟨o,j,C,t,m,g,f,L,s,rfl,u,λlb Y0=>?_⟩;refine⟨o,j,C,t,l3,lb,m,g,f,_,(_,_),rfl,u,B,Y0,by rw[ap];simp;lia,λH4 Z k4=>k D H4 Z ?_⟩;exact λc y h n=>k4 c y (l _ _ (e _ _ h)) n
def BJ(T:Txt K I):Sp:=λe H Q E=>E8 λ(p a t:Addr)(c:Bool)(m:Int)(f:gy)(g:hU)(d:dm)=>e=[.ref p,.ref a]/\ι T.Web H p m t f g/\ύ K c H a (d.map V.int)/\d.length<=1000/\(bz m d=true->∀l b,γ H b->(b l=some (.tup (d.map V.int))\/(c=false/\l=a))->Β K b l (d.map V.int)->Q (.ref l) b)/\(bz m d=false->∀b,γ H b->E (.ref T.BadWish) none b)
abbrev uD:Stmt:=top 44
theorem Jc:ε ["web","numbers"] ["web","numbers"] (aF uD):=.of
theorem r6:Υ (aF uD) "BadWish":=.of (by kernel_rfl)
theorem JP(T:Txt K I)(B:bO (ψ P w))(u:zv P w base T):Ok P w K I base "wish_of" uD ["web","numbers"] 2 (BJ T):=λ_ _ D=>by
 refine D.F.ϯ Jc (by walk_at "v") λC A j s H y Q E r h=>?_;obtain⟨p,a,t,c,m,q,v,i,rfl,W,f,x,k,e⟩:=h;refine⟨_,(aA (b5 (nj (mR (Λ u r bK (aa (δ 0) (aa (δ 1) aq))))) (aH (jM T.T3 rfl kR r6.g T.RU (aa bo aq) (hdb:=r6.d))) bE) (aH (bp (RF ii T.tuple (aa (δ 1) aq))))),?_⟩;walk_at "s";walk_at "";refine⟨p,a,t,c,m,q,v,i,rfl,W,f,x,λo b=>⟨_,rfl,?_⟩⟩;by_cases z:bz m i=false
 .rw[ao z];exact⟨by decide,e z o b⟩
 .rw[ah z];have n:bz m i=true:=by simpa using z
  cases c
  .exact⟨_,.inr ⟨γ.ϳ (c:=false) b f,k n a o b (.inr ⟨rfl,rfl⟩) (γ.ϳ (c:=false) b f)⟩⟩
  .exact⟨_,.inl ⟨γ.ϳ (c:=true) b f,λl nl=>k n l _ (b.trans (γ.new _ nl)) (.inl aw) (Β.of aw)⟩⟩
abbrev uy(P:Program)(w:World)(base:Heap)(T:Txt K I):=Cb P w K I base "wish_of" uD ["web","numbers"] 2 (BJ T)
def xY(T:Txt K I):Sp:=λg H Q _=>W7 λ(o e b t:Addr)(m:Int)(d:gy)(f:hU)(a:List (List Int×List Int))(s:List Int×List Int)(v n:Int)=>g=[.ref o,.int v,.int n]/\π T.Web T.Desk H o e b m t d f (a++[s])/\a.length<=500/\(s.2.length:Int)=m/\(∀y∈s.2,0<=y)/\(0<=v/\v<m)/\0<=n/\∀c,π T.Web T.Desk c o e b m t d f (a++[s]++[(s.1,s.2.set v.toNat n)])->ϰ b H c->Q .τ c
abbrev uN:Stmt:=jL (top 110) 2
theorem F7:ε ["self","place","many","wanted"] ["self","place","many"] (aF uN):=.of
theorem EZ(T:Txt K I)(f:bO (ψ P w))(p:u9 P w base T)(x:pI P w base T)(r:rB P w base T)(dS:ni P w base T)(Y:uy P w base T):Td P w K I base "want" "Desk.want" uN ["self","place","many"] 3 (xY T):=λ_ _ F=>by
 refine F.Ϙ F7 (by walk_at "v") λς A D s H vs Q E g h=>?_;obtain⟨o,e,C,t,m,d,i,L,s,v,n,rfl,O,sl,Z,x0,J,n0,k⟩:=h;obtain⟨dx,ob⟩:=O.ob;have ω:=O.web.go.ω;refine⟨_,(aA (cL (ϛ dS g f (aa (dj (δ 0) rfl) (aa (δ 1) aq)))) (aA (Ζ 3 (RF oz T.list (aa (gu (δ 0) T.η r.M r.G (g.mono (by decide)) r.b .nil (gF f)) aq))) (aA (mW (δ 2) (rX (δ 3) (δ 1) iy)) (aH (cL (pR (δ 0) T.η p.M p.G (g.mono (by decide)) p.b .nil (gF f) (aa (gu (δ 0) T.η x.M x.G (g.mono (by decide)) x.b .nil (gF f)) (aa (ϛ Y g f (aa (dj (δ 0) rfl) (aa (δ 3) aq))) aq)))))))),?_⟩;walk_at "s";walk_at "";refine⟨T.Desk,dx,_,ob,T.η,T.ρ,_,yz _ _,?_⟩;refine⟨e,t,m,d,i,v,rfl,O.web,λ_ _=>?_,λz=>absurd J z⟩;refine O.Ο ⟨o,e,C,t,m,d,i,L,s,rfl,O,λlb Y0=>⟨lb,rfl,_,.inr (Β.of Y0),λl nl=>?_⟩⟩;refine tS aw J.1 (by rw[ag];lia) ?_;rw[<-cY,mi];have j:=γ.new (.lst ((s.2.set v.toNat n).map V.int)) nl;have N:upd H l (.lst ((s.2.set v.toNat n).map V.int)) l=some (.lst ((s.2.set v.toNat n).map V.int)):=aw;generalize upd H l (.lst ((s.2.set v.toNat n).map V.int))=H1 at j N ⊢;have a:=O.same j;have X:bz m (s.2.set v.toNat n)=true:=n9 (by rw[b7];exact Z) λy R=>by
  rcases eT R with q|q
  .exact x0 y q
  .lia
 refine a.Ο ?_;refine a.Ο ⟨o,e,C,t,m,d,i,L,s,rfl,a,λla W=>?_⟩;refine a.Tv T.η T.ρ ?_;refine⟨e,l,t,true,m,d,i,_,rfl,a.web,ξ.of N,by rw[b7];lia,λ_ l2 H2 u B _=>?_,λz=>by rw[X]at z;cases z⟩;have B:=B.resolve_right λz=>by cases z.1
 have O2:=a.same u;refine⟨o,e,C,t,la,l2,m,d,i,_,(s.1,s.2.set v.toNat n),rfl,O2,u _ _ W,B,by rw[ap];simp;lia,λU O4 S=>k U O4 ?_⟩;exact λc y h n=>S c y (u _ _ (j _ _ h)) n
def BP(T:Txt K I):Sp:=λj H Q E=>ZQ λ(o h d t i:Addr)(m:Int)(g:gy)(e:hU)(c:List (List Int×List Int))(s:List Int×List Int)(w:Str)(f:List Nat)(r:Sum Str Nat)(S:List (List Int×List Int))=>j=[.ref o,.str w,.ref i]/\π T.Web T.Desk H o h d m t g e (c++[s])/\c.length<=500/\bz m s.1=true/\bz m s.2=true/\H i=some (.lst (TQ f))/\U5 m e c s w f r S/\(∀a,r=.inl a->∀b,π T.Web T.Desk b o h d m t g e S->ϰ d H b->Q .τ b)/\(r=.inr 2->∀x b,γ H b->E (.ref T.BadStep) x b)/\(r=.inr 3->∀x b,γ H b->E (.ref T.NoDeed) x b)
abbrev xK:Stmt:=top 112
theorem Jv:ε ["desk","word","numbers"] ["desk","word","numbers"] (aF xK):=.of
theorem Jn(T:Txt K I)(W:bO (ψ P w))(B:Cm P w K I base (Meth K T.Desk "back") "back" "Desk.back" rM ["self"] 3 (xN T))(u:Cm P w K I base (Meth K T.Desk "put") "put" "Desk.put" sE ["self","place","many"] 5 (ze T))(p:Cm P w K I base (Meth K T.Desk "step") "step" "Desk.step" u8 ["self","a","b","times"] 8 (yx T))(x:Cm P w K I base (Meth K T.Desk "want") "want" "Desk.want" uN ["self","place","many"] 3 (xY T)):Ok P w K I base "do_deed" xK ["desk","word","numbers"] 10 (BP T):=λ_ _ D=>by
 refine D.F.ϯ Jv (by walk_at "v") λX A y s H U Q E l h=>?_;obtain⟨o,e,g,t,Y,m,d,i,f,s,w,V,r,S,rfl,O,j,q,C,c,r,k,R,N⟩:=h;refine⟨_,(aH (b5 (Μ di (δ 1) bo) (aH (cL (pR (δ 0) T.η u.M u.G (l.mono (by decide)) u.b .nil bK (aa (Η bG (δ 2) aD) (aa (Η bG (δ 2) aD) aq))))) (aH (b5 (Μ di (δ 1) bo) (aH (cL (pR (δ 0) T.η x.M x.G (l.mono (by decide)) x.b .nil bK (aa (Η bG (δ 2) aD) (aa (Η bG (δ 2) aD) aq))))) (aH (b5 (Μ di (δ 1) bo) (aH (cL (pR (δ 0) T.η p.M p.G (l.mono (by decide)) p.b .nil bK (aa (Η bG (δ 2) aD) (aa (Η bG (δ 2) aD) (aa (Η bG (δ 2) aD) aq)))))) (aH (cL (gu (δ 0) T.η B.M B.G (l.mono (by decide)) B.b .nil bK))))))))),?_⟩;walk_at "s";walk_at "";cases r with
 | @put v n h=>
   rw[ao rfl];exact O.Ο (Ι c rfl (Ι c rfl ⟨o,e,g,t,m,d,i,f,s,v,n,rfl,O,j,ip q,⟨by lia,h⟩,by lia,k _ rfl⟩))
 | @want v n h=>
   rw[ah (Rk (by decide)),ao rfl];exact O.Ο (Ι c rfl (Ι c rfl ⟨o,e,g,t,m,d,i,f,s,v,n,rfl,O,j,ip C,Dp C,⟨by lia,h⟩,by lia,k _ rfl⟩))
 | @step a b n h=>
   rw[ah (Rk (by decide)),ah (Rk (by decide)),ao rfl];exact O.Ο (Ι c rfl (Ι c rfl (Ι c rfl ⟨o,e,g,t,m,d,i,f,s,a,b,n,rfl,O,j,q,λ_=>k _ rfl,λz=>by rw[h]at z;cases z⟩)))
 | @V5 a b n h=>
   rw[ah (Rk (by decide)),ah (Rk (by decide)),ao rfl];exact O.Ο (Ι c rfl (Ι c rfl (Ι c rfl ⟨o,e,g,t,m,d,i,f,s,a,b,n,rfl,O,j,q,(λz=>by rw[h]at z;cases z),λ_ Z L J _=>R rfl _ L J⟩)))
 | back h=>
   rw[ah (Rk (by decide)),ah (Rk (by decide)),ah (Rk (by decide))];exact O.Ο ⟨o,e,g,t,m,d,i,f,s,rfl,O,λ_=>k _ rfl,λz=>absurd z h⟩
 | V6 h=>
   rw[ah (Rk (by decide)),ah (Rk (by decide)),ah (Rk (by decide))];exact O.Ο ⟨o,e,g,t,m,d,i,f,s,rfl,O,λz=>absurd h z,λ_=>N rfl none H (γ.refl _)⟩
def xt(T:Txt K I):Sp:=λb H Q _=>∃w:Str,b=[.str w]/\(w.cps.all λx=>decide (x<128))=true/\w.length<=60000/\(W6 w.cps.toList->∀a,γ H a->Q (.bl true) a)/\(¬W6 w.cps.toList->∀a,γ H a->Q (.bl false) a)
abbrev rz:Stmt:=top 91
theorem Gb:ε ["word"] ["word"] (aF rz):=.of
theorem nX:Υ (aF rz) "MOST_FIGURES":=.of (by kernel_rfl)
theorem EB(T:Txt K I)(W:bO (ψ P w)):Ok P w K I base "is_number" rz ["word"] 1 (xt T):=λ_ _ D=>by
 refine D.F.Ϙ Gb (by walk_at "v") λX A B s H U Q E Z h=>?_;obtain⟨w,rfl,as,M,k,l⟩:=h;refine⟨_,(aA (b5 (PW.pt (yN (nj (vO sA sA aD (Q4 Gy T.len (aa (δ 0) aq)) (mJ nX.g T.RC (hd:=nX.d)))) (B8 (nj (mR (Q4 (Fi rfl) T.all (aa (jI rfl (mH (Nc:=["sign"]) 1 (by decide +kernel) (by decide +kernel) rfl (by decide +kernel) rfl) (Ps (δ 0)) (λ_ _ _ _=>(fq (i:=0) (show(["sign"]:hO).Nodup from by decide +kernel) rfl (Or.inl rfl))) (λ_ _ _ _=>iX) (λ_ _ _ _=>(kP Ke (pv 0) (LJ (by rfl) T.T7) (by with_unfolding_all rfl)))) aq))))))) (aH (bp wB)) bE) (aH (bp (Qd (kP di (δ 0) bo (jR _)) (BZ (kP mL (Η Pd (δ 0) aD) bo (jR _))))))),?_⟩;walk_at "s";refine cW λS L=>?_;walk_at "";have O:w.length=w.cps.toList.length:=eL w;refine⟨w,rfl,aR M (by decide),?_⟩;rw[O];by_cases n:(1:Int)<=(w.cps.toList.length:Int)
 .rw[ao n];by_cases j:(w.cps.toList.length:Int)<=60
  .rw[ah (λz=>z j)];refine⟨w,rfl,as,λp G=>?_⟩;refine Mi (λi u y q=>γ H q/\q p=some (.lst u)/\u=((w.cps.toList.take i).map λc=>V.bl (decide (48<=c/\c<=57)))/\∃v,y=[v]) ⟨γ.new _ G,aw,rfl,_,rfl⟩ ?_ ?_
   .rintro i c u y q N hN hi ⟨s2,h2,rfl,v,rfl⟩;have Y:i<w.cps.toList.length:=(ay.mp hi).1;walk_at "";refine⟨_,rfl,_,rfl,h2,eK (by rw[ag,aZ];lia),?_⟩;rw[Km];refine hN _ _ _ ⟨?_,aw,?_,_,rfl⟩
    .exact λb o e=>by rw[aY (cP e G)];exact s2 _ _ e
    .rw[bq,hi,aE]
     rfl
   .rintro u y q ⟨s2,h2,rfl,v,rfl⟩;have J:w.cps.toList.take w.cps.toList.length=w.cps.toList:=bQ;refine⟨p,rfl,w.cps.toList.map λc=>decide (48<=c/\c<=57),by rw[dN];rw[J]at h2;exact ξ.of h2,?_⟩;by_cases a:∀c∈w.cps.toList,48<=c/\c<=57
    .rw[ah (by rw[Bool.not_eq_false,cw];intro b R;obtain⟨c,C,rfl⟩:=aW.mp R;exact bB (a c C))];refine L _ _ ?_;walk_at "";by_cases t:V.str w=V.str (Str.ofString "0")
     .rw[ao t];have e:w=Str.ofString "0":=(by injection t);exact k ⟨by lia,by lia,a,.inl (by rw[e];rfl)⟩ _ s2
     .rw[ah t];obtain⟨c,r,x⟩:∃c r,w.cps.toList=c::r:=by
       cases hh:w.cps.toList with
       | nil=>rw[hh]at n;exact absurd n (by decide)
       | cons c r=>exact⟨c,r,rfl⟩
      refine ZI (i:=0) (by lia) (by rw[x];rfl) ⟨rfl,?_⟩;by_cases m:c=48
      .rw[show decide (V.str ⟨#[c]⟩=V.str (Str.ofString "0"))=true from bB (by rw[m];rfl)];refine l (λf=>?_) _ s2;rcases f.lead with z|z
       .exact t (congrArg V.str (kg z))
       .exact z (by rw[x,m];rfl)
      .rw[show decide (V.str ⟨#[c]⟩=V.str (Str.ofString "0"))=false from bP λz=>m (by injection z with z;exact(ck (show[c]=[48]from congrArg (λs:Str=>s.cps.toList) z)).1)];exact k ⟨by lia,by lia,a,.inr (by rw[x];exact λz=>m (by injection z))⟩ _ s2
    .rw[ao (by
      rw[<-Bool.not_eq_true,cw];exact λz=>a λc C=>bn (z _ (aW.mpr ⟨c,C,rfl⟩)))]
     exact l (λf=>a f.all) _ s2
  .rw[ao j];exact l (λf=>absurd f.SA (by lia)) H (γ.refl _)
 .rw[ah n];exact l (λf=>absurd f.YG (by lia)) H (γ.refl _)
def vq(T:Txt K I):Sp:=λc H Q E=>∃(w:Str)(i:Int),c=[.str w,.int i]/\(w.cps.all λx=>decide (x<128))=true/\w.length<=60000/\(∀n,ϱ w=some n->∀a,γ H a->Q (.int (n:Int)) a)/\(ϱ w=none->∀b a,γ H a->a b=some (.xd [("at",.int i)])->E (.ref T.BadText) (some b) a)
abbrev pG:Stmt:=top 90
theorem CH:ε ["word","at"] ["word","at"] (aF pG):=.of
theorem o0:Υ (aF pG) "BadText":=.of (by kernel_rfl)
theorem CA(T:Txt K I)(q:bO (ψ P w))(a:jD P w base T)(u:Cb P w K I base "is_number" rz ["word"] 1 (xt T)):Ok P w K I base "read_number" pG ["word","at"] 3 (vq T):=λ_ _ D=>by
 refine D.F.ϯ CH (by walk_at "v") λB A l s H z Q E m h=>?_;obtain⟨w,i,rfl,as,x,k,t⟩:=h;refine⟨_,(aA (b5 (nj (mR (Λ u m bK (aa (δ 0) aq)))) (aH (om a.M a.G q (m.mono (by decide)) a.b rfl rfl qT o0.g T.Ω (aa (δ 1) aq) (hdb:=o0.d))) bE) (aH (bp (RF Lr T.int (aa (δ 0) aq))))),?_⟩;walk_at "s";walk_at "";refine⟨w,rfl,as,x,λf y c=>⟨true,rfl,?_⟩,λf y c=>⟨false,rfl,?_⟩⟩
 .rw[ah (by simp)];have r:=f.SA;obtain⟨e,b⟩:=f.fs;refine⟨w,rfl,nv w.cps.toList,?_,?_,k _ (by unfold ϱ;rw[ao f]) _ c⟩
  .have:=Lv _ b;rw[<-e]at this;exact this
  .rw[eL]
   lia
 .rw[ao rfl];show ∃v,_;refine⟨V.int i,rfl,bL (by simp),λo ne=>⟨o,a.f,_,rfl,aw,a.M,λn p j=>⟨rfl,some n,?_,?_⟩⟩⟩
  .rw[aY (Ne.symm j),aw]
  .exact t (Kk.mpr f) n _ (c.trans (qR ne p j)) (by rw[pw j,aw])
def wQ(T:Txt K I):Sp:=λe H Q E=>E4 λ(l:Addr)(a:hO)(n i:Int)=>e=[.ref l,.int n,.int i]/\H l=some (.lst (a.map V.str))/\a.length<=2000/\(∀w∈a,XG w)/\((a.length:Int)=n->∀c:List Nat,a.map ϱ=c.map some->∀p b,H p=none->γ H b->b p=some (.lst (TQ c))->Q (.ref p) b)/\(((a.length:Int)≠n\/∃w∈a,ϱ w=none)->∀d b,γ H b->b d=some (.xd [("at",.int i)])->E (.ref T.BadText) (some d) b)
abbrev qy:Stmt:=top 89
theorem Eg:ε ["words","many","at"] ["words","many","at"] (aF qy):=.of
theorem pU:Υ (aF qy) "BadText":=.of (by kernel_rfl)
theorem D4(T:Txt K I)(hq:bO (ψ P w))(y:jD P w base T)(J:Cb P w K I base "read_number" pG ["word","at"] 3 (vq T)):Ok P w K I base "read_words" qy ["words","many","at"] 4 (wQ T):=λ_ _ D=>by
 refine D.F.ϯ Eg (by walk_at "v") λς A Y s H vs Q E hr h=>?_;obtain⟨l,q,n,t,rfl,X,wl,wo,k,Z⟩:=h;refine⟨_,(aA (b5 (Μ mL (Q4 dk T.len (aa (δ 0) aq)) (δ 1)) (aH (om y.M y.G hq (hr.mono (by decide)) y.b rfl rfl qT pU.g T.Ω (aa (Sh 2) aq) (hdb:=pU.d))) bE) (aH (bp (MN rfl rfl rfl NG rfl (U4 ["word","at"] 1 [2]) (ie (δ 0)) (λ_ _ _ _=>(fq (i:=0) (show(["word","at"]:hO).Nodup from by decide +kernel) rfl (Or.inl rfl))) (λ_ _ _ _=>iX) (λ_ _ _ _=>(Ai J.G (hr.mono (by decide)) (by rfl) J.D.m J.D.F.kp J.D.b .nil (aa (pv 0) (aa (pv 1) aq)))))))),?_⟩;walk_at "s";walk_at "";refine⟨_,.inl (ξ.of X),?_⟩;rw[ag];by_cases e:(q.length:Int)=n
 .rw[ah (λz=>z e)];refine⟨⟨_,ξ.of X⟩,λp U=>?_⟩;refine lM (K:=K) (c:=true) (a:=l) (xs:=q.map V.str) (λi u B r=>γ H r/\r p=some (.lst u)/\(∃j:List Nat,u=TQ j/\(q.take i).map ϱ=j.map some)/\∃v,B=[v,some (V.int t)]) ⟨γ.new _ U,aw,⟨[],rfl,rfl⟩,_,rfl⟩ (λi u B r _ ⟨z,_⟩=>ξ.of (z _ _ X)) ?_ ?_
  .rintro i x u B r N hN hi ⟨s5,h2,⟨j,rfl,en⟩,v,rfl⟩;obtain⟨w,S,rfl⟩:=List.ν hi;have et:q.take (i+1)=q.take i++[w]:=(by rw[bq,S];rfl);have RJ:i<q.length:=(ay.mp S).1;have O:=aO S;have af:j.length=i:=by
    have:=congrArg List.length en;rw[ag,ag,aZ]at this
    lia
   walk_at "";refine⟨w,t,rfl,(wo w O).1,(wo w O).2,λn R H3 C=>⟨C _ _ h2,eK (by unfold TQ;rw[ag];lia),hN _ _ _ ⟨?_,aw,⟨j++[n],?_,?_⟩,_,rfl⟩⟩,λR L H3 C hd=>?_⟩
   .exact λb o e=>by rw[aY (cP e U)];exact C _ _ (s5 _ _ e)
   .unfold TQ;rw[aE];rfl
   .rw[et,aE,aE,en];show _++[ϱ w]=_;rw[R]
    rfl
   .exact Z (.inr ⟨w,O,R⟩) L H3 (s5.trans C) hd
  .rintro u B r ⟨s5,h2,⟨j,rfl,en⟩,v,rfl⟩;rw[ag,bQ]at en;exact k e j en p r U s5 h2
 .rw[ao e];unfold sP;walk_at "";refine⟨bL (by simp),λea ne=>⟨ea,y.f,_,rfl,aw,y.M,λL nd W=>⟨rfl,some L,?_,?_⟩⟩⟩
  .rw[aY (Ne.symm W),aw]
  .exact Z (.inl e) L _ (qR ne nd W) (by rw[pw W,aw])
abbrev yf(P:Program)(w:World)(base:Heap)(T:Txt K I):=Cb P w K I base "read_words" qy ["words","many","at"] 4 (wQ T)
def Hy(T:Txt K I):Sp:=λe H Q _=>E7 λ(p t:Addr)(m:Int)(f:gy)(d:hU)(a:Int)(b:V)=>e=[.ref p,.int a,b]/\ι T.Web H p m t f d/\0<=a/\a<m/\(b=.τ\/∃i,b=.int i)/\∀l c,H l=none->γ H c->c l=some (.lst ((fh m d b a).map V.int))->Q (.ref l) c
abbrev Gw:Stmt:=top 34
theorem O0:ε ["web","place","front"] ["web","place","front"] (aF Gw):=.of
theorem Oe(T:Txt K I)(O:bO (ψ P w))(C:xX P w base T):Ok P w K I base "kids" Gw ["web","place","front"] 4 (Hy T):=λ_ _ D=>by
 refine D.F.Ϙ O0 (by walk_at "v") λς A r s H vs Q E U h=>?_;obtain⟨p,t,m,G,d,a,e,rfl,W,X,S,R,k⟩:=h;have ω:=W.go.ω;refine⟨_,(aH (bp (jI rfl (U4 ["near","front"] 1 [2]) (ie (ϛ C U O (aa (δ 0) (aa (δ 1) aq)))) (λ_ _ _ _=>(fq (i:=0) (show(["near","front"]:hO).Nodup from by decide +kernel) rfl (Or.inl rfl))) (λ_ _ _ _=>(CF (Μ mL (pv 0) (pv 1)))) (λ_ _ _ _=>(pv 0))))),?_⟩;walk_at "s";walk_at "";have nl:(jN m d a).length<=24:=by
  have:=bN (λq=>decide (q∈fX d a)) (cM m.toNat);rw[dq]at this;unfold jN
  lia
 refine⟨p,t,m,G,d,a,rfl,W,λy M _ _ n1 u B=>⟨y,rfl,⟨_,ξ.of B⟩,λo n=>?_⟩,λz=>absurd ⟨X,S⟩ z⟩;have Y:H o=none:=u.free n;refine lM (c:=true) (K:=K) (a:=y) (xs:=(jN m d a).map V.int) (λj g l f=>γ M f/\f o=some (.lst g)/\g=(((jN m d a).take j).filter λv=>decide (V.int v≠e)).map V.int/\∃v,l=[v,some e]) ⟨γ.new _ n,aw,rfl,_,rfl⟩ (λj g l f _ z=>ξ.of (z.1 _ _ B)) ?_ ?_
 .rintro j xj g l f N hN hj ⟨s2,h2,rfl,v,rfl⟩;rw[aQ]at hj;obtain⟨b,Z,rfl⟩:=bS.mp hj;have x:(jN m d a).take (j+1)=(jN m d a).take j++[b]:=by rw[bq,Z];rfl
  have ll:(((jN m d a).take j).filter λv=>decide (V.int v≠e)).length<=24:=by
   have L:=bN (λv=>decide (V.int v≠e)) ((jN m d a).take j);rw[aZ]at L
   lia
  walk_at "";have J:uP (V.int b) e=true:=by
   rcases R with rfl|⟨i,rfl⟩<;>rfl
  refine⟨J,?_⟩;by_cases c:V.int b=e
  .rw[ah (λz=>z c)];refine hN _ _ _ ⟨s2,h2,?_,_,rfl⟩;rw[x,cC];simp[c]
  .rw[ao c];refine⟨h2,eK (by rw[ag];lia),hN _ _ _ ⟨s2.put n _,aw,?_,_,rfl⟩⟩;rw[x,cC];simp[c]
 .rintro g l f ⟨s2,h2,rfl,v,rfl⟩;rw[ag,bQ]at h2;exact k o f Y (u.trans s2) h2
abbrev Fp(P:Program)(w:World)(base:Heap)(T:Txt K I):=Cb P w K I base "kids" Gw ["web","place","front"] 4 (Hy T)
def Gg(T:Txt K I):Sp:=λe H Q E=>E6 λ(p t:Addr)(m:Int)(f:gy)(d:hU)(r:Int)=>e=[.ref p,.int r]/\ι T.Web H p m t f d/\(0<=r->r<m->∃a b,ζ m d r a b/\∀l c,H l=none->γ H c->c l=some (.lst (pZ m r a))->Q (.ref l) c)/\(¬(0<=r/\r<m)->E (.ref T.NoPlace) none H)
abbrev CV:Stmt:=top 32
theorem LC:ε ["web","r","nearer","waiting","place","front","kid"] ["web","r"] (aF CV):=.of
theorem Mp(T:Txt K I)(hq:bO (ψ P w))(dS:ni P w base T)(mX:Fp P w base T):Ok P w K I base "ahead" CV ["web","r"] 5 (Gg T):=λ_ _ D=>by
 refine D.F.ϯ LC (by walk_at "v") λς A av s H vs Q E hr h=>?_;obtain⟨p,t,m,ps,S,r,rfl,W,k,e⟩:=h;obtain⟨dx,ob⟩:=W.ob;have g:=W.go;have ω:=g.ω;refine⟨_,(aA (cL (Λ dS hr bK (aa (δ 0) (aa (δ 1) aq)))) (aA (Ζ 2 (aV yB (cS (aa AU aq)) (dj (δ 0) rfl))) (aA (Ζ 3 (cS (aa (δ 1) aq))) (aA (wy PassesOwn.leaving (Ah (δ 3) (λ_=>rfl)) (aA (Ζ 4 (BU PySem.F.plainAttrs_list PySem.F.slot_list_pop PySem.F.type_list_pop Bn (δ 3))) (aA (Ζ 5 (Η bG (δ 2) (δ 4))) (aH (gH PassesOwn.leaving rfl (ie (Λ mX hr bK (aa (δ 0) (aa (δ 4) (aa (δ 5) aq))))) (ϧ 6) (aA (mW (δ 4) (rX (δ 2) (δ 6) iy)) (aH (cL (eu PySem.F.plainAttrs_list PySem.F.slot_list_append PySem.F.type_list_append eG (δ 3) (aa (δ 6) aq)))))))))) (aH (bp (δ 2))))))),?_⟩;walk_at "s";walk_at "";refine⟨p,t,m,ps,S,r,rfl,W,λr0 r1=>?_,e⟩;obtain⟨par,cn,R,k⟩:=k r0 r1;refine⟨by decide,λl1 n1=>?_⟩;have s1:=γ.new (.lst [V.τ]) n1;refine⟨T.Web,dx,_,s1 _ _ ob,T.Ξ,T.ϓ,_,rfl,?_⟩;refine⟨l1,m,[V.τ],rfl,rfl,aw,by lia,by lia,bL (by simp;lia),λb n2=>?_⟩;have Wa:H b=none:=s1.free n2;rw[wa,<-PY (par:=par)];have s2:=s1.trans (γ.new (.lst (nl m par [])) n2);refine⟨bL (by simp),λa n3=>?_⟩;have Xj:H a=none:=s2.free n3;have Z0:a≠b:=λz=>by rw[z,aw]at n3;cases n3
 have s3:=s2.trans (γ.new (.lst [V.int r]) n3);have M:upd (upd (upd H l1 (.lst [V.τ])) b (.lst (nl m par []))) a (.lst [V.int r]) b=some (.lst (nl m par [])):=by rw[aY Z0.symm,aw]
 have U:upd (upd (upd H l1 (.lst [V.τ])) b (.lst (nl m par []))) a (.lst [V.int r]) a=some (.lst [V.int r]):=aw;generalize upd (upd (upd H l1 (.lst [V.τ])) b (.lst (nl m par []))) a (.lst [V.int r])=H3 at s3 M U ⊢;refine Ct (λn l f=>E5 λ(o G:dm)(v4 v5 B:Option V)=>n=2*(m.toNat-o.length)+G.length/\l=[some (.ref p),some (.int r),some (.ref b),some (.ref a),v4,v5,B]/\γ H f/\f b=some (.lst (nl m par o))/\f a=some (.lst (G.map V.int))/\ϩ m S r par o G) (2*m.toNat+1) ⟨[],[r],_,_,_,rfl,rfl,s3,M,U,ϩ.start⟩ ?_;rintro n l f NW BB X hN Ud ⟨o,G,v4,v5,B,rfl,rfl,s4,h2,L,J⟩;refine X _ _ _ ?_;have kl:=gY (by lia) J.nd J.ϭ;walk_at "";refine⟨_,.inl ⟨_,ξ.of L,rfl⟩,?_⟩;rcases fV G with rfl|⟨ws',q,rfl⟩
 .rw[ah (by simp)];rw[J.done R]at h2;exact k b f Wa s4 h2
 .rw[fS]at J L hN Ud ⊢;rw[ao (by simp)];have hq:q∈ws'++[q]:=aX _ (ax.mpr rfl);have u:=J.at_ r0 r1 hq;have C:=J.step g R r0 r1 (p:=q) (ws':=ws') (j9 q ws');refine⟨NW,λco H' z=>?_,?_⟩
  .obtain⟨m',lt,Y4,UR,a4,a5,a6,e1,M,U⟩:=Ud _ _ z
   first|exact⟨m',lt,Y4,UR,a4,a5,a6,e1,M,U⟩|exact⟨m',lt,Y4,UR,e1,a4,a5,a6,M,U⟩
  rw[aE,bh,cZ]at L;refine⟨Rz L,Ls L ?_⟩;have Z:γ H (upd f a (.lst (ws'.map V.int))):=s4.put Xj _;have Z1:upd f a (.lst (ws'.map V.int)) b=some (.lst (nl m par o)):=by rw[aY Z0.symm];exact h2
  have y:upd f a (.lst (ws'.map V.int)) a=some (.lst (ws'.map V.int)):=aw;generalize upd f a (.lst (ws'.map V.int))=H5 at Z Z1 y ⊢;refine Ι Z1 (fo u.1 (J9 u.1 u.2)) ?_;rw[J.front hq];have a3:Pb.front r par q=.τ\/∃i,Pb.front r par q=.int i:=by
   unfold Pb.front;by_cases c:q=r
   .rw[ao c];exact .inl rfl
   .rw[ah c];exact .inr ⟨_,rfl⟩
  have mk:∀v,v∈fh m S (Pb.front r par q) q->(0<=v/\v<m)/\v≠r/\par v=q:=λv=>(gW g R u.1 u.2).mp;refine⟨p,t,m,ps,S,q,_,rfl,W.same Z,u.1,u.2,a3,λY H6 O s6 e6=>⟨Y,rfl,⟨_,ξ.of e6⟩,?_⟩⟩;generalize fh m S (Pb.front r par q) q=d at mk e6 C ⊢;have cl:H Y=none:=Z.free O;have az:Y≠b:=λz=>by rw[z,Z1]at O;cases O
  have am:Y≠a:=λz=>by rw[z,y]at O;cases O
  have al:=gY (by lia) C.nd C.ϭ;rw[ap]at al;have an:=gY (by lia) C.XE λw hw=>C.at_ r0 r1 hw;rw[ap]at an;refine jC (K:=K) (xs:=d.map V.int) (λi l j=>∃B,l=[some (.ref p),some (.int r),some (.ref b),some (.ref a),some (.int q),some (Pb.front r par q),B]/\γ H j/\j Y=some (.lst (d.map V.int))/\j b=some (.lst (nl m par (o++d.take i)))/\j a=some (.lst ((ws'++d.take i).map V.int))) ⟨_,rfl,Z.trans s6,e6,by rw[eB,bR];exact s6 _ _ Z1,by rw[eB,bR];exact s6 _ _ y⟩ (λi l j _ z=>by obtain⟨_,_,_,z,_⟩:=z;exact ξ.of z) ?_ ?_
  .rintro i x l j NI BB X hI hi ⟨B,rfl,s7,e7,Z2,We⟩;refine X _ _ ?_;rw[aQ]at hi;obtain⟨v,hv,rfl⟩:=bS.mp hi;obtain⟨vr,_,vp⟩:=mk v (aO hv);have et:d.take (i+1)=d.take i++[v]:=(by rw[bq,hv];rfl);walk_at "";refine⟨b,_,v,v.toNat,rfl,rfl,Z2,by unfold TF;rw[ao vr.1,ao (by rw[t6];lia)],?_⟩;rw[<-vp,Pa vr.1 vr.2,vp,b4,<-et];have N:upd j b (.lst (nl m par (o++d.take (i+1)))) a=some (.lst ((ws'++d.take i).map V.int)):=(by rw[aY Z0];exact We);have ca:(ws'++d.take i).length<=100:=by
    rw[ap,aZ]
    lia
   refine⟨Rz N,nK N (eK (by rw[ag];lia)) (hI _ _ ⟨_,rfl,(s7.put Wa _).put Xj _,?_,?_,?_⟩)⟩
   .rw[aY am,aY az];exact e7
   .rw[aY Z0.symm,aw]
   .rw[aw,et,<-b4,aE (l₁:=ws'++d.take i)];rfl
  .rintro BB l j X ⟨B,rfl,s7,e7,Z2,We⟩;refine X _ _ ?_;rw[ag,bQ]at Z2 We;refine hN _ _ _ ?_ ⟨_,_,_,_,_,rfl,rfl,s7,Z2,We,C⟩;rw[ap,ap,ap];simp only[aJ,dD]
   lia
abbrev Ci(P:Program)(w:World)(base:Heap)(T:Txt K I):=Cb P w K I base "ahead" CV ["web","r"] 5 (Gg T)
def GF(T:Txt K I):Sp:=λf H Q _=>E4 λ(a b:Addr)(c e:dm)=>f=[.ref a,.ref b]/\H a=some (.lst (c.map V.int))/\H b=some (.lst (e.map V.int))/\c.length<=1000/\∀l d,H l=none->γ H d->d l=some (.lst ((mF c e).map V.int))->Q (.ref l) d
abbrev yD:Stmt:=top 62
theorem Mv:ε ["one","other"] ["one","other"] (aF yD):=.of
theorem Ex:Υ (aF yD) "zip":=.of (by kernel_rfl)
theorem Nl(T:Txt K I)(t:bO (ψ P w)):Ok P w K I base "added" yD ["one","other"] 1 (GF T):=λ_ _ D=>by
 refine D.F.Ϙ Mv (by walk_at "v") λO A r s H M Q E S h=>?_;obtain⟨a,b,xs,j,rfl,y,C,R,k⟩:=h;refine⟨_,(aH (bp (jI rfl (mH (Nc:=["left","right"]) 2 (by decide +kernel) (by decide +kernel) rfl (by decide +kernel) rfl) (Lf true true Ex.g T.zip (aa (δ 0) (aa (δ 1) aq))) (λ_ _ _ _=>(CY K rfl (n:=2) rfl (cK (fq (i:=0) (show(["left","right"]:hO).Nodup from by decide +kernel) rfl (Or.inl rfl)) (cK (fq (i:=1) (show(["left","right"]:hO).Nodup from by decide +kernel) rfl (Or.inl rfl)) iT)))) (λ_ _ _ _=>iX) (λ_ _ _ _=>(aV dR (pv 0) (pv 1)))))),?_⟩;walk_at "s";walk_at "";refine⟨a,b,⟨rfl,rfl⟩,⟨_,ξ.of y⟩,⟨_,ξ.of C⟩,λp o=>?_⟩;refine EX (K:=K) (c:=true) (d:=true) (xs:=xs.map V.int) (zs:=j.map V.int) (λi l m f=>γ H f/\f p=some (.lst l)/\l=(((xs.zip j).take i).map λq=>q.1+q.2).map V.int/\∃v w,m=[v,w]) ⟨γ.new _ o,aw,rfl,_,_,rfl⟩ (λi l m f z=>⟨ξ.of (z.1 _ _ y),ξ.of (z.1 _ _ C)⟩) ?_ ?_
 .rintro i x z l m f q N hN hx YZ ⟨s2,e2,rfl,v,w,rfl⟩ t;rw[aQ]at hx YZ;obtain⟨x,u,rfl⟩:=bS.mp hx;obtain⟨z,J,rfl⟩:=bS.mp YZ;have B:=γ.new (.tup [V.int x,V.int z]) t;have G:=(ay.mp u).1;walk_at "";refine⟨_,Β.of aw,rfl,_,_,rfl,_,_,rfl,rfl,?_⟩;walk_at "";refine⟨B _ _ e2,eK (by simp;lia),hN _ _ _ ⟨(s2.trans B).put o _,aw,?_,_,_,rfl⟩⟩;have L:(xs.zip j)[i]?=some (x,z):=by rw[ki];exact⟨u,J⟩
  rw[bq,L,aE,aE]
  rfl
 .rintro l m f ⟨s2,e2,rfl,v,w,rfl⟩;have e:(((xs.zip j).take (min (xs.map V.int).length (j.map V.int).length)).map λq=>q.1+q.2)=mF xs j:=by
   rw[cj (by rw[List.length_zip,ag,ag];exact aN _)];unfold mF;rw[List.zip,List.map_zipWith]
  rw[e]at e2;exact k p f o s2 e2
abbrev yK(P:Program)(w:World)(base:Heap)(T:Txt K I):=Cb P w K I base "added" yD ["one","other"] 1 (GF T)
def oN(p c a b:Addr):List (Str×V):=cT "idle" (.ref b) (cT "kids" (.ref a) (cT "needs" (.ref c) (cT "web" (.ref p) [])))
theorem uz(p c a b:Addr):(oN p c a b).lookup ("web":Str)=some (.ref p):=by
 unfold oN;rw[dI,ah (by decide +kernel),dI,ah (by decide +kernel),dI,ah (by decide +kernel),dI,ao rfl]
theorem uQ(p a b c:Addr):(oN p a b c).lookup ("needs":Str)=some (.ref a):=by
 unfold oN;rw[dI,ah (by decide +kernel),dI,ah (by decide +kernel),dI,ao rfl]
theorem BF(p c a b:Addr):(oN p c a b).lookup ("kids":Str)=some (.ref a):=by
 unfold oN;rw[dI,ah (by decide +kernel),dI,ao rfl]
theorem BX(p c b a:Addr):(oN p c b a).lookup ("idle":Str)=some (.ref a):=by
 unfold oN;rw[dI,ao rfl]
structure ϑ(C O:Addr)(H:Hp)(o p t:Addr)(m:Int)(ps:gy)(rs:hU)(r:Int)(par:dt)(dep:ew)(nd:dt)(na ka ia:Addr)(kl:gy)(bs:List V)(S:Int->Prop):Prop where
 ob:∃dx,H o=some (.ins O dx (oN p na ka ia))
 web:ι C H p m t ps rs
 rt:ζ m rs r par dep
 hn:H na=some (.lst (((cM m.toNat).map nd).map V.int))
 hk:H ka=some (.lst (kl.map V.ref))
 kp:Paired (λa v=>H a=some (.lst ((kd m rs r par v).map V.int))) kl (cM m.toNat)
 hi:H ia=some (.lst bs)
 done:∀c,S c->∃a,Ϲ bs c=some (.ref a)/\H a=some (.lst ((Io m rs r par dep nd c).map V.int))
 cl:∀u,0<=u->u<m->S u->∀c∈kd m rs r par u,S c
theorem ϑ.same{C O:Addr}{H l:Hp}{o p t:Addr}{m:Int}{d:gy}{j:hU}{r:Int}{par:dt}{b:ew}{nd:dt}{g i f:Addr}{k:gy}{bs:List V}{S:Int->Prop}(e:γ H l)(h:ϑ C O H o p t m d j r par b nd g i f k bs S):ϑ C O l o p t m d j r par b nd g i f k bs S where
 ob:=let ⟨dx,q⟩:=h.ob;⟨dx,e _ _ q⟩
 web:=h.web.same e
 rt:=h.rt
 hn:=e _ _ h.hn
 hk:=e _ _ h.hk
 kp:=Paired.imp' (λq v x=>e q _ x) h.kp
 hi:=e _ _ h.hi
 done:=λc n=>let ⟨a,h1,h2⟩:=h.done c n;⟨a,h1,e _ _ h2⟩
 cl:=h.cl
theorem ϑ.kids{C O:Addr}{H:Hp}{o p t:Addr}{m:Int}{g:gy}{e:hU}{r:Int}{b:dt}{c:ew}{i:dt}{n q j:Addr}{f:gy}{u:List V}{S:Int->Prop}(h:ϑ C O H o p t m g e r b c i n q j f u S){v:Int}(d:0<=v)(s:v<m):∃a,Ϲ (f.map V.ref) v=some (.ref a)/\H a=some (.lst ((kd m e r b v).map V.int)):=by
 obtain⟨a,l,k⟩:=Kp h.kp (Dh d s);exact⟨a,fo d (by rw[aQ,l];rfl),k⟩
theorem QY{m:Int}{b:hU}(g:Good m b){r:Int}{a:dt}{v:Int}:(kd m b r a v).length<=24:=by
 have d:=bN (λu=>decide (V.int u≠front r a v)) (jN m b v);have c:=bN (λq=>decide (q∈fX b v)) (cM m.toNat);rw[dq]at c;have:=g.ω;show((jN m b v).filter λu=>decide (V.int u≠front r a v)).length<=24;unfold jN at d ⊢
 lia
def xF(T:Txt K I):Sp:=λg H Q _=>E18 λ(o p t:Addr)(m:Int)(h:gy)(d:hU)(r:Int)(a:dt)(b:ew)(f:dt)(k n j:Addr)(s:gy)(q:List V)(S:Int->Prop)(v:Int)(x:V)=>g=[.ref o,.int v,x]/\ϑ T.Web T.Outlook H o p t m h d r a b f k n j s q S/\(0<=v/\v<m)/\(x=.τ\/∃i,x=.int i)/\(∀c∈kd m d r a v,S c)/\∀l e,H l=none->γ H e->e l=some (.lst ((Ge m d r a (Io m d r a b f) v x).map V.int))->Q (.ref l) e
abbrev va:Stmt:=top 61
theorem EI:ε ["outlook","place","left_out","load","kid"] ["outlook","place","left_out"] (aF va):=.of
theorem EM(T:Txt K I)(hq:bO (ψ P w))(kc:yK P w base T):Ok P w K I base "idle_kids" va ["outlook","place","left_out"] 2 (xF T):=λ_ _ D=>by
 refine D.F.Ϙ EI (by walk_at "v") λς A L s H vs Q E hr h=>?_;obtain⟨o,p,t,m,ps,b,r,a,j,Z,na,ka,ia,kl,bs,S,v,x,rfl,O,u,hx,hS,k⟩:=h;have g:=O.web.go;have R:=O.rt;have ω:=g.ω;obtain⟨J,ob⟩:=O.ob;obtain⟨dw,wb⟩:=O.web.ob;refine⟨_,(aA (Ζ 3 (aV yB (cS (aa aD aq)) (dj (dj (δ 0) rfl) rfl))) (aA (gH PassesOwn.never rfl (ie (Η bG (dj (δ 0) rfl) (δ 1))) (ϧ 4) (aH (b5 (Μ mL (δ 4) (δ 2)) (aH (Ζ 3 (ϛ kc hr hq (aa (δ 3) (aa (Η bG (dj (δ 0) rfl) (δ 4)) aq))))) bE))) (aH (bp (δ 3))))),?_⟩;walk_at "s";walk_at "";refine⟨by decide,λU n1=>?_⟩;have C:=γ.new (.lst [V.int 0]) n1;refine⟨T.Outlook,J,_,C _ _ ob,T.υ,T.Φ,_,uz _ _ _ _,p,rfl,?_⟩;refine⟨T.Web,dw,_,C _ _ wb,T.Ξ,T.ϓ,_,iu _ _,?_⟩;refine⟨U,m,[V.int 0],rfl,rfl,aw,by lia,by lia,bL (by simp;lia),λf n2=>?_⟩;rw[wa,<-Iq];have e:=C.trans (γ.new (.lst ((gE m).map V.int)) n2);have Wa:H f=none:=C.free n2;have X:upd (upd H U (.lst [V.int 0])) f (.lst ((gE m).map V.int)) f=some (.lst ((gE m).map V.int)):=aw;generalize upd (upd H U (.lst [V.int 0])) f (.lst ((gE m).map V.int))=H2 at e X ⊢;obtain⟨ak,M,Y5⟩:=O.kids u.1 u.2;refine⟨T.Outlook,J,_,e _ _ ob,T.υ,T.Fc,_,BF _ _ _ _,Ι (e _ _ O.hk) M ⟨ak,rfl,⟨_,ξ.of (e _ _ Y5)⟩,?_⟩⟩;have kr:∀c∈kd m b r a v,0<=c/\c<m:=λc G=>((gW g R u.1 u.2).mp G).1;refine jC (K:=K) (xs:=(kd m b r a v).map V.int) (λi n d=>γ H d/\∃(l:Addr)(W:Option V),H l=none/\d l=some (.lst ((wA m ((((kd m b r a v).take i).filter λk=>decide (V.int k≠x)).map (Io m b r a j Z))).map V.int))/\n=[some (V.ref o),some (V.int v),some x,some (V.ref l),W]) ⟨e,f,_,Wa,X,rfl⟩ (λi n d _ z=>ξ.of (z.1 _ _ Y5)) ?_ ?_
 .rintro i y n d N BB Ϗ hN B ⟨s3,l,W,nl,el,rfl⟩;refine Ϗ _ _ ?_;rw[aQ]at B;obtain⟨c,G,rfl⟩:=bS.mp B;have cm:c∈kd m b r a v:=aO G;have Y:(kd m b r a v).take (i+1)=(kd m b r a v).take i++[c]:=by rw[bq,G];rfl
  walk_at "";have sc:uP (V.int c) x=true:=by
   rcases hx with rfl|⟨i,rfl⟩<;>rfl
  refine⟨sc,?_⟩;by_cases q:V.int c=x
  .rw[ah (λz=>z q)];refine hN _ _ ⟨s3,l,_,nl,?_,rfl⟩;rw[Y,cC]
   simpa[q]using el
  .rw[ao q];obtain⟨ai,h1,h2⟩:=O.done c (hS c cm);refine⟨T.Outlook,J,_,s3 _ _ ob,T.υ,T.Te,_,BX _ _ _ _,Ι (s3 _ _ O.hi) h1 ?_⟩;have ll:(wA m ((((kd m b r a v).take i).filter λk=>decide (V.int k≠x)).map (Io m b r a j Z))).length=m.toNat:=yq _ _ (yW m) λy B=>by
    obtain⟨k,hk,rfl⟩:=aW.mp B;have:=kr k (dB (ci.mp hk).1);exact HN g R this.1 this.2
   refine⟨l,ai,_,_,rfl,el,s3 _ _ h2,by lia,λl4 H4 n4 s4 e4=>hN _ _ ⟨s3.trans s4,l4,_,s3.free n4,?_,rfl⟩⟩;rw[Y,cC,eJ (by simpa using q),iB,aE,bh,cZ,IQ];exact e4
 .rintro BB n d Ϗ ⟨s3,l,W,nl,el,rfl⟩;refine Ϗ _ _ ?_;rw[ag,bQ]at el;walk_at "";exact k l d nl s3 el
abbrev rN(P:Program)(w:World)(base:Heap)(T:Txt K I):=Cb P w K I base "idle_kids" va ["outlook","place","left_out"] 2 (xF T)
def Fm(T:Txt K I):Sp:=λb H Q _=>∃(p:Addr)(a:dm),b=[.ref p]/\(ξ K H p (a.map V.int)\/Β K H p (a.map V.int))/\Q (.int a.sum) H
abbrev CZ:Stmt:=top 28
theorem MB:ε ["numbers"] ["numbers"] (aF CZ):=.of
theorem MV(T:Txt K I)(e:bO (ψ P w)):Ok P w K I base "total" CZ ["numbers"] 1 (Fm T):=λ_ _ D=>by
 refine D.F.Ϙ MB (by walk_at "v") λd A a s H f Q E g h=>?_;obtain⟨p,c,rfl,b,k⟩:=h;refine⟨_,(aH (bp (Q4 (M9 rfl) T.sum (aa (δ 0) aq)))),?_⟩;walk_at "s";walk_at "";exact⟨c,b,k⟩
abbrev yQ(P:Program)(w:World)(base:Heap)(T:Txt K I):=Cb P w K I base "total" CZ ["numbers"] 1 (Fm T)
def oY(T:Txt K I):Nat->Sp
 | 0=>λ_ _ _ _=>False
 | n+1=>λg H Q _=>E18 λ(o p t:Addr)(m:Int)(h:gy)(d:hU)(r:Int)(a:dt)(b:ew)(f:dt)(j k i:Addr)(s:gy)(q:List V)(S:Int->Prop)(v y:Int)=>g=[.ref o,.int v,.int y]/\ϑ T.Web T.Outlook H o p t m h d r a b f j k i s q S/\(0<=v/\v<m)/\m.toNat<=b v+1+n/\(∀c∈kd m d r a v,S c)/\∀l e,H l=none->γ H e->e l=some (.lst ((Ro m d r a b f v y).map V.int))->Q (.ref l) e
def pP(T:Txt K I):Sp:=oY T 25
def GI(T:Txt K I):Nat->Sp
 | 0=>λ_ _ _ _=>False
 | n+1=>λg H Q _=>E19 λ(o p t:Addr)(m:Int)(h:gy)(d:hU)(r:Int)(a:dt)(b:ew)(e:dt)(j k i:Addr)(s:gy)(q:List V)(S:Int->Prop)(v c y:Int)=>g=[.ref o,.int v,.int c,.int y]/\ϑ T.Web T.Outlook H o p t m h d r a b e j k i s q S/\(0<=v/\v<m)/\c∈kd m d r a v/\m.toNat<=b c+1+n/\(∀c∈kd m d r a v,S c)/\∀l f,H l=none->γ H f->f l=some (.lst ((Vz m d r a e (Io m d r a b e) (Ro m d r a b e) v y c).map V.int))->Q (.ref l) f
abbrev cU:Stmt:=top 63
theorem tm:ε ["outlook","place","over","room","best","kid","load"] ["outlook","place","over"] (aF cU):=.of
theorem EH:Sw (aF cU) "outlook":=.of (by kernel_rfl)
theorem GY:Sw (aF cU) "place":=.of (by kernel_rfl)
theorem Ia:Sw (aF cU) "over":=.of (by kernel_rfl)
theorem HL:Sw (aF cU) "room":=.of (by kernel_rfl)
theorem HK:Sw (aF cU) "best":=.of (by kernel_rfl)
theorem JM:Sw (aF cU) "kid":=.of (by kernel_rfl)
theorem Ib:Sw (aF cU) "load":=.of (by kernel_rfl)
theorem mV:Υ (aF cU) "idle_kids":=.of (by kernel_rfl)
theorem oF:Υ (aF cU) "load_by":=.of (by kernel_rfl)
theorem jp:Υ (aF cU) "total":=.of (by kernel_rfl)
abbrev lx:Stmt:=top 64
theorem IC:ε ["outlook","place","kid","room","given","over"] ["outlook","place","kid","room"] (aF lx):=.of
theorem nU:Υ (aF lx) "toll":=.of (by kernel_rfl)
theorem tf:Υ (aF lx) "added":=.of (by kernel_rfl)
theorem oA:Υ (aF lx) "greatest_load":=.of (by kernel_rfl)
theorem qa:Υ (aF lx) "idle_kids":=.of (by kernel_rfl)
theorem G5(T:Txt K I)(q:bO (ψ P w)){f:Addr}{fd:FuncData}(D:Df K I "load_by" lx ["outlook","place","kid","room"] f fd)(M:yK P w base T)(C:rN P w base T)(i:qB P w base T){g6:Addr}{gI:FuncData}(eA:Df K I "greatest_load" cU ["outlook","place","over"] g6 gI){n N:Nat}(hN:3<=N)(fR:ϋ P w K I base (ψ P w) N g6 gI ["outlook","place","over"] (oY T n)):ϋ P w K I base (ψ P w) (N+1) f fd ["outlook","place","kid","room"] (GI T n):=by
 refine D.F.Ϙ IC (λvs H Q E h=>?_) (λς A ac s H vs Q E B h=>?_)
 .cases n with
  | zero=>exact h.elim
  | succ n=>
  obtain⟨o,p,t,m,x,j,r,e,l,L,Y,Z,V,kl,bs,S,v,c,y,rfl,_⟩:=h
  rfl
 .cases n with
  | zero=>exact h.elim
  | succ n=>
  obtain⟨o,p,t,m,x,j,r,e,l,L,Y,Z,V,kl,bs,S,v,c,y,rfl,O,u,cm,fu,hS,k⟩:=h;have g:=O.web.go;have R:=O.rt;have ω:=g.ω;obtain⟨dx,ob⟩:=O.ob;obtain⟨⟨a,cn,cp⟩,_,_⟩:=tD g R u.1 u.2 cm;obtain⟨k1,J,a0,a1⟩:=sJ g R a.1 a.2 cn;obtain⟨k2,U,b0,b1⟩:=pV g R a.1 a.2 cn;have e1:UD j e c=k1:=by unfold UD;rw[J];rfl
  have e2:Ts j e c=k2:=by unfold Ts;rw[U];rfl
  rw[cp]at J U;refine⟨_,(aA (Ζ 4 (aV mj (δ 3) (aV oq (Η bG (dj (δ 0) rfl) (δ 2)) (iW i.G (B.mono (by lia)) nU.g i.D.m i.D.F.kp i.D.b .nil (gF q) (aa (dj (δ 0) rfl) (aa (δ 1) (aa (δ 2) aq))) (hdb:=nU.d))))) (aA (Ζ 5 (aV mj (aV oq (iW i.G (B.mono (by lia)) nU.g i.D.m i.D.F.kp i.D.b .nil (gF q) (aa (dj (δ 0) rfl) (aa (δ 2) (aa (δ 1) aq))) (hdb:=nU.d)) (aV dR (δ 4) aD)) aD)) (aH (bp (iW M.G (B.mono (by lia)) tf.g M.D.m M.D.F.kp M.D.b .nil (gF q) (aa (iW fR (B.mono (by lia)) oA.g eA.m eA.F.kp eA.b .nil (gF q) (aa (δ 0) (aa (δ 2) (aa (δ 5) aq))) (hdb:=oA.d)) (aa (iW C.G (B.mono (by lia)) qa.g C.D.m C.D.F.kp C.D.b .nil (gF q) (aa (δ 0) (aa (δ 1) (aa (δ 2) aq))) (hdb:=qa.d)) aq)) (hdb:=tf.d)))))),?_⟩;walk_at "s";walk_at "";refine⟨T.Outlook,dx,_,ob,T.υ,T.yT,_,uQ _ _ _ _,Ι O.hn (C3 L a.1 a.2) ?_⟩;have W:=O.web;refine⟨T.Outlook,dx,_,ob,T.υ,T.Φ,_,uz _ _ _ _,?_⟩;refine⟨p,t,m,x,j,v,c,rfl,W,λk' _ _ _ _ h=>?_,λz=>absurd ⟨u,a⟩ z,λ_ _ _ _ z=>by rw[J]at z;cases z⟩;rw[J]at h;cases h;refine⟨_,rfl,_,rfl,.inr ⟨by lia,by lia⟩,?_⟩;refine⟨T.Outlook,dx,_,ob,T.υ,T.Φ,_,uz _ _ _ _,?_⟩;refine⟨p,t,m,x,j,c,v,rfl,W,λk' _ _ _ _ h=>?_,λz=>absurd ⟨a,u⟩ z,λ_ _ _ _ z=>by rw[U]at z;cases z⟩;rw[U]at h;cases h;refine⟨_,rfl,.inl ⟨by lia,by lia⟩,?_⟩;refine⟨o,p,t,m,x,j,r,e,l,L,Y,Z,V,kl,bs,S,c,_,rfl,O,a,fu,λd hd=>O.cl c a.1 a.2 (hS c cm) d hd,λl1 H1 n1 s1 h1=>?_⟩;refine⟨o,p,t,m,x,j,r,e,l,L,Y,Z,V,kl,bs,S,v,_,rfl,O.same s1,u,.inr ⟨_,rfl⟩,hS,λl2 H2 n2 X h2=>?_⟩;refine⟨l1,l2,_,_,rfl,X _ _ h1,h2,by rw[HW g R a.1 a.2];lia,λl3 H3 n3 s3 h3=>?_⟩;refine k l3 H3 (s1.free (X.free n3)) (s1.trans (X.trans s3)) ?_;unfold Vz;rw[e1,e2];exact h3
theorem y6(T:Txt K I)(L:bO (ψ P w)){f:Addr}{fd:FuncData}(D:Df K I "greatest_load" cU ["outlook","place","over"] f fd){xC:Addr}{vQ:FuncData}(Z:Df K I "load_by" lx ["outlook","place","kid","room"] xC vQ)(kc:yK P w base T)(U:rN P w base T)(eI:qB P w base T)(B:yQ P w base T):∀n:Nat,ϋ P w K I base (ψ P w) (2*n+4) f fd ["outlook","place","over"] (oY T n):=by
 intro n;have eA:=D
 induction n with
 | zero=>exact D.F.Ϙ tm (λvs H Q E h=>h.elim) (λς A C s H vs Q E W h=>h.elim)
 | succ n fR=>
 have K3:=G5 T L Z kc U eI eA (by lia) fR;refine D.F.Ϙ tm (by walk_at "v") λς A C s H vs Q E W h=>?_;obtain⟨o,p,t,m,ps,e,r,a,j,u,na,ka,ia,kl,bs,S,v,y,rfl,O,x,fu,hS,k⟩:=h;have g:=O.web.go;have R:=O.rt;have ω:=g.ω;obtain⟨dx,ob⟩:=O.ob;refine⟨_,(aA (Ζ 3 (aV dR (Η bG (dj (δ 0) rfl) (δ 1)) (δ 2))) (aA (Ζ 4 (iW U.G (W.mono (by lia)) mV.g U.D.m U.D.F.kp U.D.b .nil (gF L) (aa (δ 0) (aa (δ 1) (aa AU aq))) (hdb:=mV.d))) (aA (rg (δ 4) (δ 1) pL (δ 3) vx iy) (aA (gH PassesOwn.never rfl (ie (Η bG (dj (δ 0) rfl) (δ 1))) (ϧ 5) (aA (Ζ 6 (iW K3 (W.mono (by lia)) oF.g Z.m Z.F.kp Z.b .nil (gF L) (aa (δ 0) (aa (δ 1) (aa (δ 5) (aa (δ 3) aq)))) (hdb:=oF.d))) (aH (b5 (Μ qk (iW B.G (W.mono (by lia)) jp.g B.D.m B.D.F.kp B.D.b .nil (gF L) (aa (δ 6) aq) (hdb:=jp.d)) (iW B.G (W.mono (by lia)) jp.g B.D.m B.D.F.kp B.D.b .nil (gF L) (aa (δ 4) aq) (hdb:=jp.d))) (aH (Ζ 4 (δ 6))) bE)))) (aH (bp (δ 4))))))),?_⟩;walk_at "s";walk_at "";refine⟨T.Outlook,dx,_,ob,T.υ,T.yT,_,uQ _ _ _ _,Ι O.hn (C3 u x.1 x.2) ⟨_,rfl,?_⟩⟩;refine⟨o,p,t,m,ps,e,r,a,j,u,na,ka,ia,kl,bs,S,v,_,rfl,O,x,.inl rfl,hS,λl1 H1 n1 s1 h1=>?_⟩;have bl:(Ge m e r a (Io m e r a j u) v V.τ).length=m.toNat:=yU λk hk=>by
  have w:=tD g R x.1 x.2 hk;exact HN g R w.1.1.1 w.1.1.2
 refine Ι h1 (Rb x.1 (by lia)) ⟨_,rfl,tS h1 x.1 (by rw[ag];lia) ?_⟩;have M:=s1.put n1 (.lst (((Ge m e r a (Io m e r a j u) v V.τ).map V.int).set v.toNat (V.int ((Ge m e r a (Io m e r a j u) v V.τ).getD v.toNat 0+(u v+y)))));have h2:upd H1 l1 (.lst (((Ge m e r a (Io m e r a j u) v V.τ).map V.int).set v.toNat (V.int ((Ge m e r a (Io m e r a j u) v V.τ).getD v.toNat 0+(u v+y))))) l1=some (.lst ((vd (Ge m e r a (Io m e r a j u) v V.τ) v (u v+y)).map V.int)):=by
  rw[aw];unfold vd;rw[cY]
 generalize upd H1 l1 (.lst (((Ge m e r a (Io m e r a j u) v V.τ).map V.int).set v.toNat (V.int ((Ge m e r a (Io m e r a j u) v V.τ).getD v.toNat 0+(u v+y)))))=H2 at M h2 ⊢;obtain⟨ak,ac,Y5⟩:=O.kids x.1 x.2;refine⟨T.Outlook,dx,_,M _ _ ob,T.υ,T.Fc,_,BF _ _ _ _,Ι (M _ _ O.hk) ac ⟨ak,rfl,⟨_,ξ.of (M _ _ Y5)⟩,?_⟩⟩;refine jC (K:=K) (xs:=(kd m e r a v).map V.int) (λi X J=>γ H J/\E3 λ(l:Addr)(v5 v6:Option V)=>H l=none/\J l=some (.lst (((((kd m e r a v).take i).map (Vz m e r a u (Io m e r a j u) (Ro m e r a j u) v (u v+y))).foldl qZ (vd (Ge m e r a (Io m e r a j u) v .τ) v (u v+y))).map V.int))/\X=[some (V.ref o),some (V.int v),some (V.int y),some (V.int (u v+y)),some (V.ref l),v5,v6]) ⟨M,l1,_,_,n1,h2,rfl⟩ (λi X J _ z=>ξ.of (z.1 _ _ Y5)) ?_ ?_
 .rintro i y' X J N BB Ϗ hN hy ⟨s3,l,v5,v6,nl,el,rfl⟩;refine Ϗ _ _ ?_;rw[aQ]at hy;obtain⟨c,hc,rfl⟩:=bS.mp hy;have cm:c∈kd m e r a v:=aO hc;have et:(kd m e r a v).take (i+1)=(kd m e r a v).take i++[c]:=by rw[bq,hc];rfl
  have w:=tD g R x.1 x.2 cm;obtain⟨n',rfl⟩:∃n',n=n'+1:=⟨n-1,by lia⟩;walk_at "";refine⟨o,p,t,m,ps,e,r,a,j,u,na,ka,ia,kl,bs,S,v,c,_,rfl,O.same s3,x,cm,by lia,hS,λl4 H4 n4 Y h4=>?_⟩;refine⟨l4,_,rfl,.inl (ξ.of h4),l,_,rfl,.inl (ξ.of (Y _ _ el)),?_⟩;refine⟨_,rfl,_,rfl,?_⟩;have ef:(((kd m e r a v).take (i+1)).map (Vz m e r a u (Io m e r a j u) (Ro m e r a j u) v (u v+y))).foldl qZ (vd (Ge m e r a (Io m e r a j u) v .τ) v (u v+y))=qZ ((((kd m e r a v).take i).map (Vz m e r a u (Io m e r a j u) (Ro m e r a j u) v (u v+y))).foldl qZ (vd (Ge m e r a (Io m e r a j u) v .τ) v (u v+y))) (Vz m e r a u (Io m e r a j u) (Ro m e r a j u) v (u v+y) c):=by
   rw[et,aE,jb]
   rfl
  split
  .rename_i q
   refine hN _ _ ⟨s3.trans Y,l4,_,_,s3.free n4,?_,rfl⟩;rw[ef,Kv q];exact h4
  .rename_i q
   refine hN _ _ ⟨s3.trans Y,l,_,_,nl,?_,rfl⟩;rw[ef,Kn q];exact Y _ _ el
 .rintro BB X J Ϗ ⟨s3,l,v5,v6,nl,el,rfl⟩;refine Ϗ _ _ ?_;rw[ag,bQ]at el;walk_at "";refine k l J nl s3 ?_;rw[Ao g R x.1 x.2];exact el
theorem zU(T:Txt K I)(c:bO (ψ P w)){f:Addr}{a:FuncData}(D:Df K I "greatest_load" cU ["outlook","place","over"] f a){d:Addr}{e:FuncData}(i:Df K I "load_by" lx ["outlook","place","kid","room"] d e)(j:yK P w base T)(b:rN P w base T)(g:qB P w base T)(h:yQ P w base T):ϋ P w K I base (ψ P w) 54 f a ["outlook","place","over"] (pP T):=y6 T c D i j b g h 25
def xw(T:Txt K I):Sp:=λg H Q _=>E17 λ(o p t:Addr)(m:Int)(h:gy)(d:hU)(r:Int)(a:dt)(b:ew)(f:dt)(j k i:Addr)(q:gy)(n:List V)(S:Int->Prop)(v:Int)=>g=[.ref o,.int v,.int (a v)]/\ϑ T.Web T.Outlook H o p t m h d r a b f j k i q n S/\(0<=v/\v<m)/\v≠r/\(∀c∈kd m d r a v,S c)/\∀l e,H l=none->γ H e->e l=some (.lst ((Io m d r a b f v).map V.int))->Q (.ref l) e
abbrev uK:Stmt:=top 60
theorem Gf:ε ["outlook","place","front"] ["outlook","place","front"] (aF uK):=.of
theorem ED(T:Txt K I)(l:bO (ψ P w)){y:Addr}{x:FuncData}(V:Df K I "greatest_load" cU ["outlook","place","over"] y x)(X:ϋ P w K I base (ψ P w) 54 y x ["outlook","place","over"] (pP T))(Y:rN P w base T)(eI:qB P w base T):Ok P w K I base "idle_load" uK ["outlook","place","front"] 55 (xw T):=λ_ _ D=>by
 refine D.F.Ϙ Gf (by walk_at "v") λς A q s H vs Q E n h=>?_;obtain⟨o,p,t,m,j,f,r,b,d,e,G,J,C,N,M,S,v,rfl,O,a,U,B,k⟩:=h;have g:=O.web.go;have R:=O.rt;have ω:=g.ω;have W:=O.web;obtain⟨L,ob⟩:=O.ob;obtain⟨k2,i,b0,b1⟩:=pV g R a.1 a.2 U;have Z:Ts f b v=k2:=by unfold Ts;rw[i];rfl
 have u:=R.up v a.1 a.2 U;rw[Fe g R a.1 a.2]at k;refine⟨_,(aA (b5 (Μ qk (Η bG (dj (δ 0) rfl) (δ 1)) aD) (aH (bp (ϛ Y n l (aa (δ 0) (aa (δ 1) (aa AU aq)))))) bE) (aH (bp (pcq V X n l (aa (δ 0) (aa (δ 1) (aa (aV mj (ϛ eI n l (aa (dj (δ 0) rfl) (aa (δ 1) (aa (δ 2) aq)))) aD) aq))))))),?_⟩;walk_at "s";walk_at "";refine⟨T.Outlook,L,_,ob,T.υ,T.yT,_,uQ _ _ _ _,Ι O.hn (C3 e a.1 a.2) ⟨_,rfl,?_⟩⟩;by_cases c:0<e v
 .rw[ao c]at k ⊢;exact⟨o,p,t,m,j,f,r,b,d,e,G,J,C,N,M,S,v,_,rfl,O,a,.inl rfl,B,k⟩
 .rw[ah c]at k ⊢;refine⟨T.Outlook,L,_,ob,T.υ,T.Φ,_,uz _ _ _ _,?_⟩;refine⟨p,t,m,j,f,v,b v,rfl,W,λk' _ _ _ _ h=>?_,λz=>absurd ⟨a,u.1⟩ z,λ_ _ _ _ z=>by rw[i]at z;cases z⟩;rw[i]at h;cases h;refine⟨_,rfl,?_⟩;refine⟨o,p,t,m,j,f,r,b,d,e,G,J,C,N,M,S,v,_,rfl,O,a,by show m.toNat<=d v+1+24;lia,B,?_⟩;rw[<-Z];exact k
def Iv(T:Txt K I):Sp:=λe H Q E=>E6 λ(p t:Addr)(m:Int)(f:gy)(c:hU)(r:Int)=>e=[.ref p,.int r]/\ι T.Web H p m t f c/\(0<=r->r<m->∃b a,ζ m c r b a/\∀l d,H l=none->γ H d->d l=some (.lst ((iL m c r b a r).map V.int))->(iL m c r b a r).Nodup->(∀v,v∈iL m c r b a r↔0<=v/\v<m)->Q (.ref l) d)/\(¬(0<=r/\r<m)->E (.ref T.NoPlace) none H)
abbrev AZ:Stmt:=top 33
theorem ON:ε ["web","r","nearer","places","waiting","place","kid"] ["web","r"] (aF AZ):=.of
theorem zQ:Υ (aF AZ) "reversed":=.of (by kernel_rfl)
theorem NO(T:Txt K I)(hq:bO (ψ P w))(oM:Ci P w base T)(mX:Fp P w base T):Ok P w K I base "down" AZ ["web","r"] 6 (Iv T):=λ_ _ D=>by
 refine D.F.ϯ ON (by walk_at "v") λς A a9 s H vs Q E hr h=>?_;obtain⟨p,t,m,ps,Y,r,rfl,W,k,e⟩:=h;have g:=W.go;have ω:=g.ω;refine⟨_,(aA (Ζ 2 (Λ oM hr bK (aa (δ 0) (aa (δ 1) aq)))) (aA (Ζ 3 (cS aq)) (aA (Ζ 4 (cS (aa (δ 1) aq))) (aA (wy PassesOwn.leaving (Ah (δ 4) (λ_=>rfl)) (aA (Ζ 5 (BU PySem.F.plainAttrs_list PySem.F.slot_list_pop PySem.F.type_list_pop Bn (δ 4))) (aA (cL (eu PySem.F.plainAttrs_list PySem.F.slot_list_append PySem.F.type_list_append eG (δ 3) (aa (δ 5) aq))) (aH (gH PassesOwn.leaving rfl (Fx zQ.g T.reversed (Λ mX hr bK (aa (δ 0) (aa (δ 5) (aa (Η bG (δ 2) (δ 5)) aq))))) (ϧ 6) (aH (cL (eu PySem.F.plainAttrs_list PySem.F.slot_list_append PySem.F.type_list_append eG (δ 4) (aa (δ 6) aq))))))))) (aH (bp (δ 3))))))),?_⟩;walk_at "s";walk_at "";refine⟨p,t,m,ps,Y,r,rfl,W,λr0 r1=>?_,e⟩;obtain⟨a,U,R,k⟩:=k r0 r1;refine⟨a,U,R,λo H1 n1 s1 e1=>⟨by decide,λb n3=>⟨bL (by simp),λd L=>?_⟩⟩⟩;have Xj:H b=none:=s1.free n3;have s3:=s1.trans (γ.new (.lst []) n3);have Z4:H d=none:=s3.free L;have bj:o≠b:=λz=>by rw[<-z,e1]at n3;cases n3
 have Z5:b≠d:=λz=>by rw[<-z,aw]at L;cases L
 have VE:=γ.new (.lst []) n3 _ _ e1;have am:o≠d:=λz=>by rw[<-z,VE]at L;cases L
 have s4:=s3.trans (γ.new (.lst [V.int r]) L);have ai:=γ.new (.lst [V.int r]) L _ _ VE;have YV:upd (upd H1 b (.lst [])) d (.lst [V.int r]) b=some (.lst []):=by rw[aY Z5,aw]
 have an:upd (upd H1 b (.lst [])) d (.lst [V.int r]) d=some (.lst [V.int r]):=aw;generalize upd (upd H1 b (.lst [])) d (.lst [V.int r])=H4 at s4 ai YV an ⊢;refine Ct (λn B l=>E5 λ(G y j:dm)(v5 Z:Option V)=>n=2*(m.toNat-G.length)+y.length/\B=[some (.ref p),some (.int r),some (.ref o),some (.ref b),some (.ref d),v5,Z]/\γ H l/\l o=some (.lst (pZ m r a))/\l b=some (.lst (j.map V.int))/\l d=some (.lst (y.map V.int))/\ϩ m Y r a G y/\(j++y).Perm (r::G)/\j++y.reverse.flatMap (iL m Y r a U)=iL m Y r a U r) (2*m.toNat+1) ⟨[],[r],[],_,_,rfl,rfl,s4,ai,YV,an,ϩ.start,List.Perm.refl _,by simp⟩ ?_;rintro n B l NW BB Ϗ hN Ud ⟨G,y,j,v5,Z,rfl,rfl,s5,h1,h3,h4,J,O,ep⟩;refine Ϗ _ _ _ ?_;have rk:∀w∈r::G,0<=w/\w<m:=λw hw=>by
  rcases aG.mp hw with rfl|z
  .exact⟨r0,r1⟩
  .exact J.ϭ w z
 have nk:(r::G).Nodup:=bI.mpr ⟨J.nr,J.nd⟩;have kl:=gY (m:=m) (by lia) nk rk;have dd:=gY (m:=m) (by lia) J.nd J.ϭ;have C:=O.length_eq;rw[ap]at C;rw[aJ]at kl C;walk_at "";refine⟨_,.inl ⟨_,ξ.of h4,rfl⟩,?_⟩;rcases fV y with rfl|⟨ws',q,rfl⟩
 .rw[ah (by simp)];rw[List.reverse_nil,List.flatMap_nil,bR]at ep;rw[bR]at O;subst ep;refine k b l Xj s5 h3 (O.nodup_iff.mpr nk) λv=>⟨λz=>rk v (O.mem_iff.mp z),λz=>O.mem_iff.mpr ?_⟩;by_cases c:v=r
  .rw[c];exact aP
  .exact aL _ (J.all R v z.1 z.2 c)
 .rw[fS]at J h4 hN Ud O ep C ⊢;rw[ao (by simp)];have hq:q∈ws'++[q]:=aX _ (ax.mpr rfl);have M:=J.at_ r0 r1 hq;have J2:=J.step g R r0 r1 (p:=q) (ws':=ws') (j9 q ws');refine⟨NW,λdn H' z=>?_,?_⟩
  .obtain⟨m',lt,Y4,UR,pl',a5,a6,z1,z2⟩:=Ud _ _ z
   first|exact⟨m',lt,Y4,UR,pl',a5,a6,z1,z2⟩|exact⟨m',lt,Y4,UR,z1,pl',a5,a6,z2⟩
  rw[aE,bh,cZ]at h4;refine⟨Rz h4,Ls h4 ?_⟩;have s6:γ H (upd l d (.lst (ws'.map V.int))):=s5.put Z4 _;have S:upd l d (.lst (ws'.map V.int)) b=some (.lst (j.map V.int)):=by rw[aY Z5];exact h3
  have al:upd l d (.lst (ws'.map V.int)) o=some (.lst (pZ m r a)):=by rw[aY am];exact h1
  have ac:upd l d (.lst (ws'.map V.int)) d=some (.lst (ws'.map V.int)):=aw;generalize upd l d (.lst (ws'.map V.int))=H6 at s6 S al ac ⊢;refine⟨Rz S,nK S (eK (by rw[ag];lia)) ?_⟩;have s7:γ H (upd H6 b (.lst (j.map V.int++[V.int q]))):=s6.put Xj _;have We:upd H6 b (.lst (j.map V.int++[V.int q])) b=some (.lst ((j++[q]).map V.int)):=by rw[aw,aE];rfl
  have Z6:upd H6 b (.lst (j.map V.int++[V.int q])) o=some (.lst (pZ m r a)):=by rw[aY bj];exact al
  have N:upd H6 b (.lst (j.map V.int++[V.int q])) d=some (.lst (ws'.map V.int)):=by rw[aY Z5.symm];exact ac
  generalize upd H6 b (.lst (j.map V.int++[V.int q]))=H7 at s7 We Z6 N ⊢;refine Ι Z6 (fo M.1 (zM M.1 M.2)) ?_;have bf:Pb.front r a q=.τ\/∃i,Pb.front r a q=.int i:=by
   unfold Pb.front;by_cases c:q=r
   .rw[ao c];exact .inl rfl
   .rw[ah c];exact .inr ⟨_,rfl⟩
  have pq:=rS g R M.1 M.2;refine⟨p,t,m,ps,Y,q,_,rfl,W.same s7,M.1,M.2,bf,λl8 H8 X s8 e8=>⟨l8,rfl,_,ξ.of e8,?_⟩⟩;generalize fh m Y (Pb.front r a q) q=f at e8 J2 pq ⊢;have dl:o≠l8:=λz=>by rw[<-z,Z6]at X;cases X
  have cr:b≠l8:=λz=>by rw[<-z,We]at X;cases X
  have ba:d≠l8:=λz=>by rw[<-z,N]at X;cases X
  have a3:=gY (m:=m) (by lia) J2.nd J2.ϭ;rw[ap]at a3;have a8:=gY (m:=m) (by lia) J2.XE λw hw=>J2.at_ r0 r1 hw;rw[ap]at a8;refine Go (K:=K) (xs:=f.map V.int) (λi B u=>∃Z,B=[some (.ref p),some (.int r),some (.ref o),some (.ref b),some (.ref d),some (.int q),Z]/\γ H u/\u l8=some (.lst (f.map V.int))/\u o=some (.lst (pZ m r a))/\u b=some (.lst ((j++[q]).map V.int))/\u d=some (.lst ((ws'++f.reverse.take i).map V.int))) ⟨_,rfl,s7.trans s8,e8,s8 _ _ Z6,s8 _ _ We,by rw[eB,bR];exact s8 _ _ N⟩ (λi B u _ z=>by obtain⟨_,_,_,z,_⟩:=z;exact ξ.of z) ?_ ?_
  .rintro i x B u NI hI hi ⟨Z,rfl,s9,e9,h19,h39,Y6⟩;rw[<-gR,aQ]at hi;obtain⟨v,hv,rfl⟩:=bS.mp hi;have et:f.reverse.take (i+1)=f.reverse.take i++[v]:=(by rw[bq,hv];rfl);have cx:(ws'++f.reverse.take i).length<=100:=by
    rw[ap,aZ,bA]
    lia
   walk_at "";refine⟨Rz Y6,nK Y6 (eK (by rw[ag];lia)) (hI _ _ ⟨_,rfl,s9.put Z4 _,?_,?_,?_,?_⟩)⟩
   .rw[aY ba.symm];exact e9
   .rw[aY am];exact h19
   .rw[aY Z5];exact h39
   .rw[aw,et,<-b4,aE (l₁:=ws'++f.reverse.take i)];rfl
  .rintro B u ⟨Z,rfl,s9,e9,h19,h39,Y6⟩;rw[ag,show f.length=f.reverse.length by rw[bA],bQ]at Y6;refine hN _ _ _ ?_ ⟨G++f,ws'++f.reverse,j++[q],_,_,rfl,rfl,s9,h19,h39,Y6,J2.perm (mC _ f.reverse_perm.symm),?_,?_⟩
   .rw[ap,ap,ap,bA];simp only[aJ,dD]
    lia
   .have p1:(j++[q]++(ws'++f.reverse)).Perm (j++(ws'++[q])++f):=by
     rw[b4,b4];refine mC _ ?_;rw[<-b4];exact List.Perm.append (List.perm_append_comm) f.reverse_perm
    exact p1.trans (List.Perm.append_right _ O)
   .rw[<-ep,nh,nh,List.reverse_reverse,List.reverse_singleton,List.singleton_append,dJ,pq,nS];simp
def Jl(a:dt)(v:Int):List V:=[.int v,.int (a v)]
abbrev Α(H:Hp)(a:dt):List Addr->List Int->Prop:=Paired λq v=>H q=some (.tup (Jl a v))
theorem Α.same{H c:Hp}{a:dt}{d:gy}{b:dm}(e:γ H c)(h:Α H a d b):Α c a d b:=Paired.imp' (λq v x=>e q _ x) h
theorem Α.get{H:Hp}{c:dt}:∀{d:gy}{f:dm}{i:Nat}{x:V},Α H c d f->(d.map V.ref)[i]?=some x->∃p r,x=.ref p/\d[i]?=some p/\f[i]?=some r/\H p=some (.tup (Jl c r))
 | _,_,i,x,.nil,e=>by simp at e
 | _,_,0,x,.cons (a:=p) (b:=r) h hs,e=>⟨p,r,by simpa using e.symm,by simp,by simp,h⟩
 | a::l1,_,i+1,x,.cons h hs,e=>by
   have k:(List.map V.ref l1)[i]?=some x:=by simpa using e
   obtain⟨p,r,m,j,l,g⟩:=Α.get hs k;exact⟨p,r,m,by simpa using j,by simpa using l,g⟩
theorem Α.snoc{H:Hp}{a:dt}{q:Addr}{v:Int}(e:H q=some (.tup (Jl a v))):∀{c:gy}{b:dm},Α H a c b->Α H a (c++[q]) (b++[v])
 | _,_,.nil=>.cons e .nil
 | _,_,.cons x xs=>.cons x (Α.snoc e xs)
def xA(T:Txt K I):Sp:=λg H Q E=>E6 λ(p t:Addr)(m:Int)(h:gy)(e:hU)(r:Int)=>g=[.ref p,.int r]/\ι T.Web H p m t h e/\(0<=r->r<m->∃a b,ζ m e r a b/\∀l f d c,iL m e r a b r=r::d->H l=none->γ H c->c l=some (.lst (f.map V.ref))->Α c a f d.reverse->Order m r a d->Q (.ref l) c)/\(¬(0<=r/\r<m)->E (.ref T.NoPlace) none H)
abbrev tz:Stmt:=top 35
theorem DJ:ε ["web","r","nearer"] ["web","r"] (aF tz):=.of
theorem AA:Uu (aF tz) "nearer":=.of (by kernel_rfl)
theorem xP:Υ (aF tz) "reversed":=.of (by kernel_rfl)
theorem KN(T:Txt K I)(hq:bO (ψ P w))(oM:Ci P w base T)(FC:Cb P w K I base "down" AZ ["web","r"] 6 (Iv T)):Ok P w K I base "inward" tz ["web","r"] 7 (xA T):=λ_ _ D=>by
 refine D.F.ϯ DJ (by walk_at "v") λς A Z s H vs Q E hr h=>?_;obtain⟨p,t,m,ps,rs,r,rfl,W,k,e⟩:=h;have g:=W.go;have ω:=g.ω;refine⟨_,(aA (vD (i:=2) DJ.nd rfl (Or.inr AA.l) (Λ oM hr bK (aa (δ 0) (aa (Sh 1) aq)))) (aH (bp (jI rfl (U4 ["place","nearer","r"] 1 [2,1]) (Fx xP.g T.reversed (Λ FC hr bK (aa (δ 0) (aa (Sh 1) aq)))) (λ_ _ _ _=>(fq (i:=0) (show(["place","nearer","r"]:hO).Nodup from by decide +kernel) rfl (Or.inl rfl))) (λ_ _ _ _=>(CF (Μ mL (pv 0) (pv 2)))) (λ_ _ _ _=>(jT (aa (pv 0) (aa (Η (LZ K rfl) (pv 1) (pv 0)) aq)))))))),?_⟩;walk_at "s";walk_at "";refine⟨p,t,m,ps,rs,r,?_⟩;refine Vx rfl W (λJ L=>?_) e;obtain⟨d,B,R,k⟩:=k J L;refine⟨d,B,R,λl1 H1 n1 s1 e1=>?_⟩;refine⟨p,t,m,ps,rs,r,?_⟩;refine Vx rfl (W.same s1) (λ_ _=>⟨d,B,R,λl2 H2 n2 s2 U nd al=>?_⟩) (λz=>absurd ⟨J,L⟩ z);obtain⟨j,et,O⟩:=B6 g R J L nd al;have ll:=pN g R J L;rw[et]at U ll;rw[aJ]at ll;refine⟨l2,rfl,_,ξ.of U,λY X=>?_⟩;have U9:=s2 _ _ e1;have Ϝ:=s1.trans s2;have Y7:=Ϝ.free X;refine Ly (K:=K) (xs:=(r::j).map V.int) (λi u G n=>γ H2 n/\n Y=some (.lst u)/\(∃f:List Addr,u=f.map V.ref/\Α n d f (j.reverse.take i))/\∃v,G=[v,some (V.ref l1),some (V.int r)]) ⟨γ.new _ X,aw,⟨[],rfl,.nil⟩,_,rfl⟩ (λi u G n _ z=>ξ.of (z.1 _ _ U)) ?_ ?_
 .rintro i x u G n N hN hx ⟨s3,e3,⟨f,rfl,pa⟩,v,rfl⟩;rw[<-gR,List.reverse_cons,aQ]at hx;obtain⟨y,o,rfl⟩:=bS.mp hx;have il:=(ay.mp o).1;rw[ap,bA]at il;have ql:f.length=(j.reverse.take i).length:=Paired.length pa;rw[aZ,bA]at ql;walk_at "";by_cases c:i<j.length
  .rw[cD (by rw[bA];exact c)]at o;have M:y∈j:=gS.mp (aO o);have S:=O.ϭ y M;rw[ao (O.ne M)];have gp:Ϲ (pZ m r d) y=some (V.int (d y)):=by
    have ef:Pb.front r d y=V.int (d y):=(by unfold Pb.front;rw[ah (O.ne M)]);rw[<-ef];exact fo S.1 (zM S.1 S.2)
   refine Ι (s3 _ _ U9) gp ⟨bL (by simp),λq C=>?_⟩;have s4:=γ.new (.tup [V.int y,V.int (d y)]) C;have ab:q≠Y:=λz=>by rw[z,e3]at C;cases C
   refine⟨s4 _ _ e3,eK (by rw[ag];lia),hN _ _ _ ⟨(s3.trans s4).put X _,aw,⟨f++[q],by rw[aE];rfl,?_⟩,_,rfl⟩⟩;rw[bq,o];refine Α.snoc (by rw[aY ab,aw];rfl) ?_;exact Paired.imp' (λa b h=>by
    rw[aY (dX h e3 (by intro z;cases z)),aY (cP h C)];exact h) pa
  .have ei:i=j.reverse.length:=(by rw[bA];simp at il;lia);rw[ei,cA (aN _),eW]at o;cases o;rw[ah (λz=>z rfl)];refine hN _ _ _ ⟨s3,e3,⟨f,rfl,?_⟩,_,rfl⟩;rw[cj (by lia)]at pa ⊢;exact pa
 .rintro u G n ⟨s3,e3,⟨f,rfl,pa⟩,v,rfl⟩;rw[cj (by rw[ag,bA,aJ];lia)]at pa;exact k Y f j n et Y7 (Ϝ.trans s3) e3 pa O
abbrev pJ(P:Program)(w:World)(base:Heap)(T:Txt K I):=Cb P w K I base "inward" tz ["web","r"] 7 (xA T)
def Gd(T:Txt K I):Sp:=λh H Q E=>E9 λ(p a t:Addr)(c:Bool)(m:Int)(i:gy)(g:hU)(e:dm)(r:Int)=>h=[.ref p,.ref a,.int r]/\ι T.Web H p m t i g/\ύ K c H a (e.map V.int)/\e.length<=1000/\(bz m e=true->0<=r->r<m->∃d f,ζ m g r d f/\∀l b,H l=none->γ H b->b l=some (.lst ((oE m g r d f (λv=>e.getD v.toNat 0) (VY g d)).map V.int))->Q (.ref l) b)/\(bz m e=false->∀b,γ H b->E (.ref T.BadWish) none b)/\(bz m e=true->¬(0<=r/\r<m)->∀b,γ H b->E (.ref T.NoPlace) none b)
abbrev C8:Stmt:=top 54
theorem Mu:ε ["web","wish","r","found","place","front"] ["web","wish","r"] (aF C8):=.of
theorem LF(T:Txt K I)(hq:bO (ψ P w))(fE:pJ P w base T)(eI:qB P w base T)(i4:uy P w base T):Ok P w K I base "needs" C8 ["web","wish","r"] 8 (Gd T):=λ_ _ D=>by
 refine D.F.ϯ Mu (by walk_at "v") λς A X s H vs Q E hr h=>?_;obtain⟨p,a,t,c,m,Z,j,xs,r,rfl,W,ha,hz,k,e,e'⟩:=h;have g:=W.go;have ω:=g.ω;refine⟨_,(aA (Ζ 3 (RF oz T.list (aa (Λ i4 hr bK (aa (δ 0) (aa (δ 1) aq))) aq))) (aA (gH PassesOwn.leaving rfl (ie (Λ fE hr bK (aa (δ 0) (aa (δ 2) aq)))) (kU (n:=2) rfl (cK (ϧ 4) (cK (ϧ 5) iT))) (aH (rg (δ 3) (δ 5) pL (aV oq (Η bG (δ 3) (δ 4)) (Λ eI hr bK (aa (δ 0) (aa (δ 5) (aa (δ 4) aq))))) vx iy))) (aH (bp (δ 3))))),?_⟩;walk_at "s";walk_at "";refine⟨p,a,t,c,m,Z,j,xs,?_⟩;refine an6 rfl W ha hz (λC l0 H0 s0 _ e0=>?_) e;have xl:(xs.length:Int)=m:=by
  unfold bz at C;rw[bw]at C;exact bn C.1
 refine⟨l0,rfl,_,.inr e0,λl n1=>?_⟩;have s1:=γ.new (.lst (xs.map V.int)) n1;have M:=s0.trans s1;have nl:=s0.free n1;have Y:upd H0 l (.lst (xs.map V.int)) l=some (.lst (xs.map V.int)):=aw;generalize upd H0 l (.lst (xs.map V.int))=H1 at s1 M Y ⊢;refine⟨p,t,m,Z,j,r,?_⟩;refine Vx rfl (W.same M) (λr0 r1=>?_) (λz=>e' C z H1 M);obtain⟨d,B,R,k⟩:=k C r0 r1;refine⟨d,B,R,λU L J H2 _ n2 s2 e2 pa O=>?_⟩;have Y8:U≠l:=λz=>by rw[z,Y]at n2;cases n2
 refine⟨U,rfl,⟨_,ξ.of e2⟩,?_⟩;have ql:L.length=J.reverse.length:=Paired.length pa;refine jC (K:=K) (xs:=L.map V.ref) (λi G f=>γ H f/\f U=some (.lst (L.map V.ref))/\Α f d L J.reverse/\E3 λ(y:dm)(S v5:Option V)=>f l=some (.lst (y.map V.int))/\ϙ m j r d B (λv=>xs.getD v.toNat 0) (VY j d) (J.drop (J.length-i)) y/\G=[some (V.ref p),some (V.ref a),some (V.int r),some (V.ref l),S,v5]) ⟨M.trans s2,e2,pa,xs,_,_,s2 _ _ Y,by rw[gA,eM];exact ϙ.nil xl,rfl⟩ (λi G f _ z=>ξ.of z.2.1) ?_ ?_
 .rintro i x G f N BB Ϗ hN hx ⟨s3,e3,Xk,y,S,v5,c3,so,rfl⟩;refine Ϗ _ _ ?_;obtain⟨q,v,rfl,hq,hv,eq⟩:=Xk.get hx;obtain⟨⟨o,vn⟩,ev,Y9⟩:=O.turn g R so hv;have u:=R.up v o.1 o.2 vn;obtain⟨kk,hk,k0,k1⟩:=sJ g R o.1 o.2 vn;have cl:=so.len;walk_at "";refine⟨_,Β.of eq,rfl,_,_,rfl,_,_,rfl,rfl,?_⟩;refine Ι c3 (Rb u.1.1 (by lia)) (Ι c3 (Rb o.1 (by lia)) ?_);refine⟨p,t,m,Z,j,d v,v,rfl,W.same s3,λk' _ _ _ _ h=>?_,λz=>absurd ⟨u.1,o⟩ z,λ_ _ _ _ z=>by rw[hk]at z;cases z⟩;rw[hk]at h;cases h;refine⟨_,rfl,_,rfl,.inr ⟨by lia,by lia⟩,_,rfl,tS c3 u.1.1 (by rw[ag];lia) (hN _ _ ⟨s3.put nl _,?_,?_,rp d (VY j d) y v,_,_,?_,Y9,rfl⟩)⟩
  .rw[aY Y8];exact e3
  .exact Paired.imp' (λa b h=>by rw[aY (dX h c3 (by intro z;cases z))];exact h) Xk
  .rw[aw,<-cY];unfold rp VY;rw[hk]
   rfl
 .rintro BB G f Ϗ ⟨s3,e3,Xk,y,S,v5,c3,so,rfl⟩;refine Ϗ _ _ ?_;rw[ag,ql,bA,eW,iR]at so;rw[O.done g R so]at c3;walk_at "";exact k l f nl s3 c3
theorem ϑ.put{C O:Addr}{H:Hp}{o p t:Addr}{m:Int}{B:gy}{g:hU}{r:Int}{par:dt}{f:ew}{nd:dt}{k n b:Addr}{A:gy}{bs:List V}{S:Int->Prop}(h:ϑ C O H o p t m B g r par f nd k n b A bs S)(s:k≠b)(i:n≠b)(j:∀q∈A,q≠b)(hd:∀c,S c->0<=c/\∀a,Ϲ bs c=some (.ref a)->a≠b)(bl:bs.length=m.toNat){v:Int}(v0:0<=v)(v1:v<m)(G:∀c∈kd m g r par v,S c){l:Addr}(M:H l=some (.lst ((Io m g r par f nd v).map V.int)))(nl:l≠b):ϑ C O (upd H b (.lst (bs.set v.toNat (.ref l)))) o p t m B g r par f nd k n b A (bs.set v.toNat (.ref l)) (λc=>c=v\/S c) where
 ob:=by
  obtain⟨y,q⟩:=h.ob;exact⟨y,by rw[aY (dX q h.hi (by intro z;cases z))];exact q⟩
 web:=by
  have W:=h.web;refine⟨?_,?_,?_,W.go⟩
  .obtain⟨y,q⟩:=W.ob;exact⟨y,by rw[aY (dX q h.hi (by intro z;cases z))];exact q⟩
  .rw[aY (dX W.tu h.hi (by intro z;cases z))];exact W.tu
  .exact Paired.imp' (λq x e=>by rw[aY (dX e h.hi (by intro z;cases z))];exact e) W.ro
 rt:=h.rt
 hn:=by rw[aY s];exact h.hn
 hk:=by rw[aY i];exact h.hk
 kp:=CU (λq x J e=>by rw[aY (j q J)];exact e) h.kp
 hi:=aw
 done:=λc d=>by
  by_cases e:c=v
  .subst e;refine⟨l,fo v0 ?_,by rw[aY nl];exact M⟩;rw[cN (by lia)]
  .have d:=d.resolve_left e;obtain⟨a,D,F⟩:=h.done c d;obtain⟨E,L⟩:=hd c d;refine⟨a,fo E ?_,by rw[aY (L a D)];exact F⟩;rw[cV (by lia)];exact(Bg E).symm.trans D
 cl:=λu u0 u1 hu c d=>by
  rcases hu with rfl|hu
  .exact .inr (G c d)
  .exact .inr (h.cl u u0 u1 hu c d)
theorem ϑ.sub{C O:Addr}{H:Hp}{o p t:Addr}{m:Int}{g:gy}{e:hU}{r:Int}{a:dt}{b:ew}{i:dt}{k l j:Addr}{q:gy}{n:List V}{S:Int->Prop}{d:Int->Prop}(h:ϑ C O H o p t m g e r a b i k l j q n S)(f:∀c,d c->S c)(s:∀u,0<=u->u<m->d u->∀c∈kd m e r a u,d c):ϑ C O H o p t m g e r a b i k l j q n d:=⟨h.ob,h.web,h.rt,h.hn,h.hk,h.kp,h.hi,λc v=>h.done c (f c v),s⟩
theorem ι.Uh{C O:Addr}{H c:Hp}{o p:Addr}{m:Int}{t b:Addr}{d:gy}{f:hU}(e:ϰ o H c)(a:H o=some (.ins O b []))(h:ι C H p m t d f):ι C c p m t d f:=⟨let ⟨b,q⟩:=h.ob;⟨b,e _ _ q (dX q a (by intro z;cases z))⟩,e _ _ h.tu (dX h.tu a (by intro z;cases z)),Paired.imp' (λq x z=>e _ _ z (dX z a (by intro z;cases z))) h.ro,h.go⟩
def qG(T:Txt K I):Sp:=λj H Q _=>W7 λ(o q p a t:Addr)(c:Bool)(m:Int)(i:gy)(f:hU)(g:dm)(r:Int)=>j=[.ref o,.ref p,.ref a,.int r]/\H o=some (.ins T.Outlook q [])/\ι T.Web H p m t i f/\ύ K c H a (g.map V.int)/\bz m g=true/\(0<=r/\r<m)/\∃d e,ζ m f r d e/\∀l n k u s h,ϑ T.Web T.Outlook h o p t m i f r d e (aS m f r d e (λv=>g.getD v.toNat 0) (VY f d)) l n k u s (λv=>(0<=v/\v<m)/\v≠r)->(∀b x,H b=some x->b≠o->h b=some x)->Q .τ h
abbrev kY:Stmt:=jL (top 59) 0
theorem xf:ε ["self","web","wish","r","place","front"] ["self","web","wish","r"] (aF kY):=.of
theorem qC:Υ (aF kY) "enumerate":=.of (by kernel_rfl)
theorem xi(T:Txt K I)(O:bO (ψ P w))(oM:Ci P w base T)(uM:Cb P w K I base "idle_load" uK ["outlook","place","front"] 55 (xw T))(fE:pJ P w base T)(mX:Fp P w base T)(CD:Cb P w K I base "needs" C8 ["web","wish","r"] 8 (Gd T)):Td P w K I base "__init__" "Outlook.__init__" kY ["self","web","wish","r"] 56 (qG T):=λ_ _ F=>by
 refine F.Ϙ xf (by walk_at "v") λς A cr s H vs Q E hr h=>?_;obtain⟨o,f,p,a,t,c,m,ps,L,xs,r,rfl,ho,W,ha,fi,rr,par,J,R,k⟩:=h;have g:=W.go;have ω:=g.ω;obtain⟨dw,wb⟩:=W.ob;refine⟨_,(aA (rQ (δ 0) (Sh 1) rfl) (aA (rQ (δ 0) (ϛ CD hr O (aa (Sh 1) (aa (δ 2) (aa (δ 3) aq)))) rfl) (aA (rQ (δ 0) (jI rfl (U4 ["place","front","web"] 2 [1]) (Hs true qC.g T.enumerate (ϛ oM hr O (aa (Sh 1) (aa (δ 3) aq)))) (λ_ _ _ _=>(CY K rfl (n:=2) rfl (cK (fq (i:=0) (show(["place","front","web"]:hO).Nodup from by decide +kernel) rfl (Or.inl rfl)) (cK (fq (i:=1) (show(["place","front","web"]:hO).Nodup from by decide +kernel) rfl (Or.inl rfl)) iT)))) (λ_ _ _ _=>iX) (λ_ _ _ _=>(iW mX.G (hr.mono (by decide)) (by rfl) mX.D.m mX.D.F.kp mX.D.b .nil (gF O) (aa (pv 2) (aa (pv 0) (aa (pv 1) aq)))))) rfl) (aA (rQ (δ 0) (aV yB (cS (aa AU aq)) (dj (Sh 1) rfl)) rfl) (aH (gH PassesOwn.never rfl (ie (ϛ fE hr O (aa (Sh 1) (aa (δ 3) aq)))) (kU (n:=2) rfl (cK (ϧ 4) (cK (ϧ 5) iT))) (aH (mW (ϛ uM hr O (aa (δ 0) (aa (δ 4) (aa (δ 5) aq)))) (rX (dj (δ 0) rfl) (δ 4) iy))))))))),?_⟩;walk_at "s";walk_at "";have xl:(xs.length:Int)=m:=by
  have fi:=fi;unfold bz at fi;rw[bw]at fi;exact bn fi.1
 refine⟨T.Outlook,f,[],ho,T.υ,T.Φ,by decide,?_⟩;have k1:ϰ o H (upd H o (.ins T.Outlook f (cT "web" (.ref p) []))):=ϰ.refl.put _;have o1:upd H o (.ins T.Outlook f (cT "web" (.ref p) [])) o=some (.ins T.Outlook f (cT "web" (.ref p) [])):=aw;generalize upd H o (.ins T.Outlook f (cT "web" (.ref p) []))=H1 at k1 o1 ⊢;refine⟨p,a,t,c,m,ps,L,xs,r,rfl,W.Uh k1 ho,k1.ϳ ho ha,by lia,λ_ _ _=>⟨par,J,R,λj H2 n2 s2 e2=>?_⟩,λz=>(by rw[fi]at z;cases z),λ_ z=>absurd rr z⟩;have k2:=k1.then s2;refine⟨T.Outlook,f,_,s2 _ _ o1,T.υ,T.yT,by show 1<1000;decide,?_⟩;have ae:j≠o:=λz=>by rw[z,o1]at n2;cases n2
 have k3:=k2.put (.ins T.Outlook f (cT "needs" (.ref j) (cT "web" (.ref p) [])));have o3:upd H2 o (.ins T.Outlook f (cT "needs" (.ref j) (cT "web" (.ref p) []))) o=some (.ins T.Outlook f (cT "needs" (.ref j) (cT "web" (.ref p) []))):=aw;have e3:upd H2 o (.ins T.Outlook f (cT "needs" (.ref j) (cT "web" (.ref p) []))) j=_:=(aY ae).trans e2;generalize upd H2 o (.ins T.Outlook f (cT "needs" (.ref j) (cT "web" (.ref p) [])))=H3 at k3 o3 e3 ⊢;have W3:=W.Uh k3 ho;refine⟨p,t,m,ps,L,r,rfl,W3,λ_ _=>⟨par,J,R,λla H4 n4 s4 e4=>⟨la,rfl,⟨_,ξ.of e4⟩,λB ac=>?_⟩⟩,λz=>absurd rr z⟩;have e8:=s4.free ac;refine JY (K:=K) (c:=true) (xs:=pZ m r par) (λi ys U S=>γ H4 S/\S B=some (.lst ys)/\(∃M:List Addr,ys=M.map V.ref/\Paired (λa v=>S a=some (.lst ((kd m L r par v).map V.int))) M ((cM m.toNat).take i)/\∀q∈M,q≠B)/\∃v w,U=[v,w,some (V.ref p)]) ⟨γ.new _ ac,aw,⟨[],rfl,.nil,by simp⟩,_,_,rfl⟩ (λi ys U S z=>ξ.of (z.1 _ _ e4)) ?_ ?_
 .rintro i x ys U S q N hN hx ⟨s5,e5,⟨M,rfl,pk,hkq⟩,v,w,rfl⟩ nq;have il:i<m.toNat:=by
   have:=(ay.mp hx).1;unfold pZ at this
   rwa [ag,dq]at this
  have ex:x=Pb.front r par (i:Int):=by
   have:=zM (m:=m) (r:=r) (par:=par) (v:=(i:Int)) (by lia) (by lia);rw[show((i:Int)).toNat=i from rfl,hx]at this;exact bC this
  have qe:=s5 _ _ e4;have s6:=γ.new (.tup [V.int i,x]) nq;have b3:=s5.trans s6;have et:(cM m.toNat).take (i+1)=(cM m.toNat).take i++[(i:Int)]:=by rw[bq,lD il];rfl
  have ev:M.length<=24:=by
   have:=Paired.length pk;rw[aZ]at this
   lia
  walk_at "";refine⟨_,Β.of aw,rfl,_,_,rfl,_,_,rfl,rfl,?_⟩;refine⟨p,t,m,ps,L,i,x,rfl,W3.same (s4.trans b3),by lia,by lia,?_,λl6 H6 n6 s7 e7=>?_⟩
  .rw[ex];unfold Pb.front;split
   .exact .inl rfl
   .exact .inr ⟨_,rfl⟩
  have af:=s6.trans s7;refine⟨af _ _ e5,eK (by rw[ag];lia),hN _ _ _ ⟨(s5.trans af).put ac _,aw,⟨M++[l6],by rw[aE];rfl,?_,λq O=>?_⟩,_,_,rfl⟩⟩;have nk:l6≠B:=λz=>by rw[z,s6 _ _ e5]at n6;cases n6
  rotate_left
  .rcases aK.mp O with h|h
   .exact hkq q h
   .rw[ax.mp h];exact λz=>by rw[z,s6 _ _ e5]at n6;cases n6
  rw[et];refine Am (by rw[aY nk,e7,ex]) (CU (λq v O h=>?_) pk);have e:q≠B:=λz=>hkq q O z;rw[aY e];exact af _ _ h
 .rintro ys U S ⟨s5,e5,⟨M,rfl,pk,hkq⟩,v,w,rfl⟩;rw[show(pZ m r par).length=m.toNat by unfold pZ;rw[ag,dq],cj (by rw[dq];exact aN _)]at pk;have o5:=s5 _ _ (s4 _ _ o3);have k5:=(k3.then s4).then s5;have dn:=s5 _ _ (s4 _ _ e3);refine⟨T.Outlook,f,_,o5,T.υ,T.Fc,by show 2<1000;decide,by decide,λl1 n1=>?_⟩;have aC:B≠o:=λz=>by rw[z,o5]at e5;cases e5
  have k6:=k5.put (.ins T.Outlook f (cT "kids" (.ref B) (cT "needs" (.ref j) (cT "web" (.ref p) []))));have o6:upd S o (.ins T.Outlook f (cT "kids" (.ref B) (cT "needs" (.ref j) (cT "web" (.ref p) [])))) o=some (.ins T.Outlook f (cT "kids" (.ref B) (cT "needs" (.ref j) (cT "web" (.ref p) [])))):=aw;have e6:upd S o (.ins T.Outlook f (cT "kids" (.ref B) (cT "needs" (.ref j) (cT "web" (.ref p) [])))) B=_:=(aY aC).trans e5;have ad:upd S o (.ins T.Outlook f (cT "kids" (.ref B) (cT "needs" (.ref j) (cT "web" (.ref p) [])))) j=_:=(aY ae).trans dn;have ab:Paired (λa v=>upd S o (.ins T.Outlook f (cT "kids" (.ref B) (cT "needs" (.ref j) (cT "web" (.ref p) [])))) a=some (.lst ((kd m L r par v).map V.int))) M (cM m.toNat):=Paired.imp' (λq v h=>by rw[aY (dX h o5 (by intro z;cases z))];exact h) pk;generalize upd S o (.ins T.Outlook f (cT "kids" (.ref B) (cT "needs" (.ref j) (cT "web" (.ref p) []))))=H6 at k6 o6 e6 ad ab n1 ⊢;have s7:=γ.new (.lst [V.τ]) n1;obtain⟨cy,cs⟩:=(W.Uh k6 ho).ob;refine⟨T.Web,cy,_,s7 _ _ cs,T.Ξ,T.ϓ,_,iu _ _,?_⟩;refine⟨l1,m,[V.τ],rfl,rfl,aw,by lia,by lia,bL (by simp;lia),λC a1=>?_⟩;rw[wa];have s8:=s7.trans (γ.new (.lst (List.replicate m.toNat V.τ)) a1);have i8:upd (upd H6 l1 (.lst [V.τ])) C (.lst (List.replicate m.toNat V.τ)) C=some (.lst (List.replicate m.toNat V.τ)):=aw;have X:=s7.free a1;generalize upd (upd H6 l1 (.lst [V.τ])) C (.lst (List.replicate m.toNat V.τ))=H8 at s8 i8 ⊢;have o8:=s8 _ _ o6;refine⟨T.Outlook,f,_,o8,T.υ,T.Te,by show 3<1000;decide,?_⟩;have k8:=(k6.then s8).put (.ins T.Outlook f (oN p j B C));have a3:C≠o:=λz=>by rw[z,o6]at X;cases X
  have O9:ϑ T.Web T.Outlook (upd H8 o (.ins T.Outlook f (oN p j B C))) o p t m ps L r par J (aS m L r par J (λv=>xs.getD v.toNat 0) (VY L par)) j B C M (List.replicate m.toNat V.τ) (λ_=>False):=⟨⟨f,aw⟩,W.Uh k8 ho,R,(aY ae).trans (s8 _ _ ad),(aY aC).trans (s8 _ _ e6),Paired.imp' (λq v h=>by rw[aY (dX h o6 (by intro z;cases z))];exact s8 _ _ h) ab,(aY a3).trans i8,λc z=>z.elim,λu _ _ z=>z.elim⟩
  have k9:=k8;show xA T [V.ref p,V.int r] (upd H8 o (.ins T.Outlook f (oN p j B C))) _ _;generalize upd H8 o (.ins T.Outlook f (oN p j B C))=H9 at O9 k9 ⊢;have dd:H C=none:=by
   cases e:H C with
   | none=>rfl
   | some x=>rw[k6 _ _ e a3]at X;cases X
  have co:j≠C:=λz=>by rw[<-z,ad]at X;cases X
  have cv:B≠C:=λz=>by rw[<-z,e6]at X;cases X
  have cx:∀q∈M,q≠C:=λq O z=>by
   obtain⟨v,hv⟩:=Ip ab O;rw[z,X]at hv;cases hv
  refine⟨p,t,m,ps,L,r,rfl,O9.web,λ_ _=>⟨par,J,R,λlq qs Z e9 et a6 Za a7 pa Or=>⟨lq,rfl,⟨_,ξ.of a7⟩,?_⟩⟩,λz=>absurd rr z⟩;have ct:lq≠C:=λz=>by rw[z,O9.hi]at a6;cases a6
  refine jC (K:=K) (xs:=qs.map V.ref) (λi U Y=>ϰ o H Y/\Y lq=some (.lst (qs.map V.ref))/\Α Y par qs Z.reverse/\E3 λ(bs:List V)(v4 v5:Option V)=>ϑ T.Web T.Outlook Y o p t m ps L r par J (aS m L r par J (λv=>xs.getD v.toNat 0) (VY L par)) j B C M bs (λc=>c∈Z.drop (Z.length-i))/\bs.length=m.toNat/\(∀c,c∈Z.drop (Z.length-i)->∀a,Ϲ bs c=some (.ref a)->a≠C)/\U=[some (V.ref o),some (V.ref p),some (V.ref a),some (V.int r),v4,v5]) ⟨k9.then Za,a7,pa,List.replicate m.toNat V.τ,_,_,(O9.same Za).sub (λc d=>?_) (λu _ _ hu=>?_),dy,λc d=>?_,rfl⟩ (λi U Y _ z=>ξ.of z.2.1) ?_ ?_
  .rw[gA,eM]at d;cases d
  .rw[gA,eM]at hu;cases hu
  .rw[gA,eM]at d;cases d
  .rintro i x U Y N BB Ϗ hN hx ⟨k11,Zb,VG,bs,v4,v5,Xl,bl,hda,rfl⟩;refine Ϗ _ _ ?_;obtain⟨q,v,rfl,O,hv,eq⟩:=VG.get hx;obtain⟨⟨vr,vn⟩,ed,_,a2,b2⟩:=Or.cut R hv;have hS:∀c∈kd m L r par v,c∈Z.drop (Z.length-i):=λc d=>by
    have w:=(gW g R vr.1 vr.2).mp d;exact b2 c w.1.1 w.1.2 w.2.1 w.2.2
   walk_at "";refine⟨_,Β.of eq,rfl,_,_,rfl,_,_,rfl,rfl,?_⟩;refine⟨o,p,t,m,ps,L,r,par,J,_,j,B,C,M,bs,_,v,rfl,Xl,vr,vn,hS,λl ey a0 Ϝ U9=>?_⟩;have Z7:=Xl.same Ϝ;obtain⟨YX,ZX⟩:=Z7.ob;have nl:l≠C:=λz=>by rw[z,Xl.hi]at a0;cases a0
   refine⟨T.Outlook,YX,_,ZX,T.υ,T.Te,_,BX _ _ _ _,tS Z7.hi vr.1 (by lia) (hN _ _ ⟨?_,?_,?_,_,_,_,(Z7.put co cv cx (λc d=>⟨(a2 c d).1.1,hda c d⟩) bl vr.1 vr.2 hS U9 nl).sub (λc d=>?_) (λu u0 u1 hu c d=>?_),?_,?_,rfl⟩)⟩
   .exact λb y hb nb=>by rw[aY (cP hb dd)];exact Ϝ _ _ (k11 b y hb nb)
   .rw[aY ct];exact Ϝ _ _ Zb
   .exact Paired.imp' (λa b h=>by rw[aY (dX (Ϝ _ _ h) Z7.hi (by intro z;cases z))];exact Ϝ _ _ h) VG
   .rw[ed]at d;exact aG.mp d
   .rw[ed];rw[ed]at hu;rcases aG.mp hu with rfl|hu
    .exact aL _ (hS c d)
    .exact aL _ (Xl.cl u u0 u1 hu c d)
   .rw[b7];exact bl
   .intro c d a' Tx;rw[ed]at d;by_cases e:c=v
    .subst e;rw[Bg vr.1,cN (by lia)]at Tx;cases Tx;exact nl
    .have d:=(aG.mp d).resolve_left e;have c0:=(a2 c d).1.1;rw[Bg c0,cV (by lia),<-Bg c0]at Tx;exact hda c d a' Tx
  .rintro BB U Y Ϗ ⟨k11,Zb,VG,bs,v4,v5,Xl,bl,hda,rfl⟩;refine Ϗ _ _ ?_;have ql:qs.length=Z.reverse.length:=Paired.length VG;rw[ag,ql,bA,eW,iR]at Xl;walk_at "";refine k j B C M bs Y (Xl.sub (λc d=>?_) (λu u0 u1 hu c d=>?_)) k11
   .exact(Or.all c d.1.1 d.1.2).resolve_left d.2
   .have w:=(gW g R u0 u1).mp d;exact⟨w.1,w.2.1⟩
def Bb(T:Txt K I):Sp:=λh H Q _=>E9 λ(p a t:Addr)(c:Bool)(m:Int)(i:gy)(e:hU)(f:dm)(r:Int)=>h=[.ref p,.ref a,.int r]/\ι T.Web H p m t i e/\ύ K c H a (f.map V.int)/\bz m f=true/\(0<=r/\r<m)/\∃d b,ζ m e r d b/\∀l g,H l=none->γ H g->g l=some (.tup ((Ro m e r d b (pF m e r d b f) r (-1)).map V.int))->Q (.ref l) g
abbrev uq:Stmt:=top 58
theorem Jp:ε ["web","wish","r"] ["web","wish","r"] (aF uq):=.of
theorem rP:Υ (aF uq) "Outlook":=.of (by kernel_rfl)
theorem Jj(T:Txt K I)(L:bO (ψ P w))(q:Cm P w K I base (Mk K T.Outlook) "__init__" "Outlook.__init__" kY ["self","web","wish","r"] 56 (qG T)){B:Addr}{z:FuncData}(eA:Df K I "greatest_load" cU ["outlook","place","over"] B z)(fR:ϋ P w K I base (ψ P w) 54 B z ["outlook","place","over"] (pP T)):Ok P w K I base "failing" uq ["web","wish","r"] 58 (Bb T):=λ_ _ D=>by
 refine D.F.Ϙ Jp (by walk_at "v") λς A u s H vs Q E V h=>?_;obtain⟨p,a,t,c,m,C,X,xs,r,rfl,W,ha,fi,j,f,e,R,k⟩:=h;have ω:=W.go.ω;refine⟨_,(aH (bp (RF ii T.tuple (aa (pcq eA fR V L (aa (sN q.M q.G (V.mono (by decide)) rP.g T.TX q.b .nil (gF L) (aa (δ 0) (aa (δ 1) (aa (δ 2) aq))) (hdb:=rP.d)) (aa (δ 2) (aa (sG qg aD) aq)))) aq)))),?_⟩;walk_at "s";walk_at "";intro o i J Y ne;have v:upd H i (.own o) o=none:=by rw[aY ne.symm];exact J
 have n:γ H (upd (upd H i (.own o)) o (.ins T.Outlook i [])):=(γ.new _ Y).trans (γ.new _ v);refine⟨o,i,p,a,t,c,m,C,X,xs,r,rfl,aw,W.same n,γ.ϳ n ha,fi,j,f,e,R,λna ka ia kl bs H1 O kp=>?_⟩;have y:γ H H1:=λb x N=>kp b x (n b x N) (cP N J);refine⟨rfl,?_⟩;refine⟨o,p,t,m,C,X,r,f,e,_,na,ka,ia,kl,bs,_,r,_,rfl,O,j,by show m.toNat<=e r+1+24;lia,λc hc=>?_,λl H2 n2 S Z=>?_⟩
 .have w:=(gW W.go R j.1 j.2).mp hc;exact⟨w.1,w.2.1⟩
 .refine⟨l,rfl,_,.inl ⟨ξ.of Z,λl3 U=>k l3 _ (y.free (S.free U)) ((y.trans S).trans (γ.new _ U)) aw⟩⟩
def AQ(T:Txt K I):Sp:=λe H Q E=>E8 λ(p a t:Addr)(c:Bool)(m:Int)(f:gy)(g:hU)(b:dm)=>e=[.ref p,.ref a]/\ι T.Web H p m t f g/\ύ K c H a (b.map V.int)/\b.length<=1000/\(bz m b=true->∀d,γ H d->Q (.bl (decide (b.sum=0))) d)/\(bz m b=false->∀d,γ H d->E (.ref T.BadWish) none d)
abbrev yt:Stmt:=top 57
theorem JA:ε ["web","wish"] ["web","wish"] (aF yt):=.of
theorem Jd(T:Txt K I)(B:bO (ψ P w))(o:yQ P w base T)(r:uy P w base T):Ok P w K I base "is_idle" yt ["web","wish"] 3 (AQ T):=λ_ _ D=>by
 refine D.F.ϯ JA (by walk_at "v") λC A d s H y Q E f h=>?_;obtain⟨p,a,t,c,m,i,v,b,rfl,W,u,x,k,e⟩:=h;refine⟨_,(aH (bp (kP di (Λ o f bK (aa (Λ r f bK (aa (δ 0) (aa (δ 1) aq))) aq)) aD (jR _)))),?_⟩;walk_at "s";walk_at "";refine⟨p,a,t,c,m,i,v,b,rfl,W,u,x,λq l n g _ j=>?_,e⟩;refine⟨l,_,rfl,.inr j,?_⟩;refine⟨rfl,?_⟩;rw[show decide (V.int b.sum=V.int 0)=decide (b.sum=0) by by_cases z:b.sum=0<;>simp[z]];exact k q n g
abbrev DM(P:Program)(w:World)(base:Heap)(T:Txt K I):=Cb P w K I base "is_idle" yt ["web","wish"] 3 (AQ T)
def F2(T:Txt K I):Sp:=λh H Q E=>E8 λ(p a t:Addr)(c:Bool)(m:Int)(i:gy)(g:hU)(b:dm)=>h=[.ref p,.ref a]/\ι T.Web H p m t i g/\ύ K c H a (b.map V.int)/\b.length<=1000/\(bz m b=true->b.sum≠0->∃f e,ζ m g (fw m b) f e/\∀l d,H l=none->γ H d->d l=some (.tup ((Ro m g (fw m b) f e (pF m g (fw m b) f e b) (fw m b) (-1)).map V.int))->Q (.ref l) d)/\(bz m b=false->∀d,γ H d->E (.ref T.BadWish) none d)/\(bz m b=true->b.sum=0->∀d,γ H d->E (.ref T.NoWorst) none d)
abbrev sL:Stmt:=top 56
theorem F3:ε ["web","wish","wanted_at"] ["web","wish"] (aF sL):=.of
theorem xQ:Sw (aF sL) "wanted_at":=.of (by kernel_rfl)
theorem sY:Υ (aF sL) "NoWorst":=.of (by kernel_rfl)
theorem CS:Υ (aF sL) "range":=.of (by kernel_rfl)
theorem LN(T:Txt K I)(hq:bO (ψ P w))(xT:Cb P w K I base "failing" uq ["web","wish","r"] 58 (Bb T))(X:DM P w base T):Ok P w K I base "fails" sL ["web","wish"] 59 (F2 T):=λ_ _ D=>by
 refine D.F.ϯ F3 (by walk_at "v") λς A C s H vs Q E O h=>?_;obtain⟨p,a,t,c,m,L,S,b,rfl,W,x,hz,k,e,e'⟩:=h;have g:=W.go;have ω:=g.ω;obtain⟨dw,Z⟩:=W.ob;refine⟨_,(aA (b5 (mR (Λ X O bK (aa (δ 0) (aa (Sh 1) aq)))) (aH (jM T.T4 rfl kR sY.g T.RV (aa bo aq) (hdb:=sY.d))) bE) (aA (wH (i:=2) F3.nd rfl xQ.l rfl (U4 ["place","wish"] 1 [1]) (rZ CS.g T.range (aa (dj (δ 0) rfl) aq)) (λ_ _ _ _=>(fq (i:=0) (show(["place","wish"]:hO).Nodup from by decide +kernel) rfl (Or.inl rfl))) (λ_ _ _ _=>(CF (Μ qk (Η (NT c K rfl) (pv 1) (pv 0)) aD))) (λ_ _ _ _=>(pv 0))) (aH (bp (Λ xT O bK (aa (δ 0) (aa (Sh 1) (aa (Η bG (δ 2) aD) aq)))))))),?_⟩;walk_at "s";walk_at "";refine⟨p,a,t,c,m,L,S,b,rfl,W,x,hz,λj M f=>?_,e⟩;refine⟨_,rfl,?_⟩;by_cases z:b.sum=0
 .rw[ao (by simpa using z)];exact⟨by decide,e' j z M f⟩
 .rw[ah (by simpa using z)];obtain⟨B,J,R,k⟩:=k j z;have xl:=ip j;have Y:=Dp j;obtain⟨tl,G,rr,x0⟩:=Ix xl Y z;refine⟨T.Web,dw,_,f _ _ Z,T.Ξ,T.ϓ,_,iu _ _,m,rfl,by lia,by lia,λpc y=>?_⟩;have Y7:=f.free y;refine sy (λi n u r=>γ M r/\r pc=some (.lst n)/\n=((cM i).filter λv=>decide (0<b.getD v.toNat 0)).map V.int/\∃v,u=[v,some (V.ref a)]) ⟨γ.new _ y,aw,rfl,_,rfl⟩ ?_ ?_
  .rintro i n u r N hN hi ⟨s3,e3,rfl,v,rfl⟩;have ll:((cM i).filter λv=>decide (0<b.getD v.toNat 0)).length<=24:=by
    have h1:=bN (λv=>decide (0<b.getD v.toNat 0)) (cM i);rw[dq]at h1
    lia
   walk_at "";rw[jB];refine ixX (γ.ϳ (f.trans s3) x) (Rb (by lia) (by lia)) ⟨_,rfl,?_⟩;rw[show((i:Int)).toNat=i from rfl];by_cases q:0<b.getD i 0
   .rw[ao q];refine⟨e3,eK (by rw[ag];lia),hN _ _ _ ⟨s3.put y _,aw,?_,_,rfl⟩⟩;rw[wr,cC,eJ (by simpa using q),iB,aE]
    rfl
   .rw[ah q];refine hN _ _ _ ⟨s3,e3,?_,_,rfl⟩;rw[wr,cC,fH (by simpa using q),iB,bR]
  .rintro n u r ⟨s3,e3,rfl,v,rfl⟩;rw[G]at e3;have o:=f.trans s3;refine Ι (v:=V.int (fw m b)) e3 (fo (by decide) rfl) ?_;exact⟨p,a,t,c,m,L,S,b,_,rfl,W.same o,γ.ϳ o x,j,rr,B,J,R,λl H4 U s4 h4=>k l H4 (o.free U) (o.trans s4) h4⟩
abbrev Ik(P:Program)(w:World)(base:Heap)(T:Txt K I):=Cb P w K I base "fails" sL ["web","wish"] 59 (F2 T)
def DR(T:Txt K I):Sp:=λh H Q E=>E8 λ(p a t:Addr)(c:Bool)(m:Int)(i:gy)(g:hU)(b:dm)=>h=[.ref p,.ref a]/\ι T.Web H p m t i g/\ύ K c H a (b.map V.int)/\b.length<=1000/\(bz m b=true->b.sum≠0->∃f e,ζ m g (fw m b) f e/\∀d,γ H d->Q (.int ((Ro m g (fw m b) f e (pF m g (fw m b) f e b) (fw m b) (-1)).sum+1)) d)/\(bz m b=true->b.sum=0->∀d,γ H d->Q (.int 0) d)/\(bz m b=false->∀d,γ H d->E (.ref T.BadWish) none d)
abbrev zG:Stmt:=top 55
theorem J0:ε ["web","wish"] ["web","wish"] (aF zG):=.of
theorem Kf(T:Txt K I)(S:bO (ψ P w))(L:Ik P w base T)(v:DM P w base T)(C:yQ P w base T):Ok P w K I base "always" zG ["web","wish"] 60 (DR T):=λ_ _ D=>by
 refine D.F.ϯ J0 (by walk_at "v") λU A j s H N Q E g h=>?_;obtain⟨p,a,t,c,m,o,r,d,rfl,W,q,u,k,e,G⟩:=h;refine⟨_,(aA (b5 (mR (Λ v g bK (aa (δ 0) (aa (δ 1) aq)))) (aH (bp aD)) bE) (aH (bp (aV dR (Λ C g bK (aa (Λ L g bK (aa (δ 0) (aa (δ 1) aq))) aq)) aD)))),?_⟩;walk_at "s";walk_at "";refine⟨p,a,t,c,m,o,r,d,rfl,W,q,u,λf B b=>?_,G⟩;refine⟨_,rfl,?_⟩;by_cases z:d.sum=0
 .rw[ao (by simpa using z)];exact e f z B b
 .rw[ah (by simpa using z)];obtain⟨i,n,R,k⟩:=k f z;refine⟨p,a,t,c,m,o,r,d,rfl,W.same b,γ.ϳ b q,u,λ_ _=>⟨i,n,R,λl M O J x=>?_⟩,λz=>(by rw[f]at z;cases z),λ_ y=>absurd y z⟩;refine⟨l,_,rfl,.inr (Β.of x),_,rfl,k M (b.trans J)⟩
def zx(T:Txt K I):Sp:=λh H Q E=>E9 λ(p a t:Addr)(c:Bool)(m:Int)(i:gy)(g:hU)(e:dm)(r:Int)=>h=[.ref p,.ref a,.int r]/\ι T.Web H p m t i g/\ύ K c H a (e.map V.int)/\e.length<=1000/\(bz m e=true->0<=r->r<m->∃d f,ζ m g r d f/\∀l b,H l=none->γ H b->b l=some (.lst ((oE m g r d f (λv=>e.getD v.toNat 0) (SQ g d)).map V.int))->Q (.ref l) b)/\(bz m e=false->∀b,γ H b->E (.ref T.BadLaying) none b)/\(bz m e=true->¬(0<=r/\r<m)->∀b,γ H b->E (.ref T.NoPlace) none b)
abbrev wL:Stmt:=top 66
theorem GL:ε ["web","laying","r","counts","place","front"] ["web","laying","r"] (aF wL):=.of
theorem GV(T:Txt K I)(hq:bO (ψ P w))(fE:pJ P w base T)(gr:rD P w base T)(eI:qB P w base T):Ok P w K I base "gathered" wL ["web","laying","r"] 8 (zx T):=λ_ _ D=>by
 refine D.F.ϯ GL (by walk_at "v") λς A X s H vs Q E hr h=>?_;obtain⟨p,a,t,c,m,Z,j,xs,r,rfl,W,ha,hz,k,e,e'⟩:=h;have g:=W.go;have ω:=g.ω;refine⟨_,(aA (Ζ 3 (RF oz T.list (aa (Λ gr hr bK (aa (δ 0) (aa (δ 1) aq))) aq))) (aA (gH PassesOwn.leaving rfl (ie (Λ fE hr bK (aa (δ 0) (aa (δ 2) aq)))) (kU (n:=2) rfl (cK (ϧ 4) (cK (ϧ 5) iT))) (aH (rg (δ 3) (δ 5) pL (aV dz (Η bG (δ 3) (δ 4)) (Λ eI hr bK (aa (δ 0) (aa (δ 4) (aa (δ 5) aq))))) vx iy))) (aH (bp (δ 3))))),?_⟩;walk_at "s";walk_at "";refine⟨p,a,t,c,m,Z,j,xs,?_⟩;refine an6 rfl W ha hz (λC l0 H0 s0 _ e0=>?_) e;have xl:(xs.length:Int)=m:=by
  unfold bz at C;rw[bw]at C;exact bn C.1
 refine⟨l0,rfl,_,.inr e0,λl n1=>?_⟩;have s1:=γ.new (.lst (xs.map V.int)) n1;have M:=s0.trans s1;have nl:=s0.free n1;have Y:upd H0 l (.lst (xs.map V.int)) l=some (.lst (xs.map V.int)):=aw;generalize upd H0 l (.lst (xs.map V.int))=H1 at s1 M Y ⊢;refine⟨p,t,m,Z,j,r,?_⟩;refine Vx rfl (W.same M) (λr0 r1=>?_) (λz=>e' C z H1 M);obtain⟨d,B,R,k⟩:=k C r0 r1;refine⟨d,B,R,λU L J H2 _ n2 s2 e2 pa O=>?_⟩;have Y8:U≠l:=λz=>by rw[z,Y]at n2;cases n2
 refine⟨U,rfl,⟨_,ξ.of e2⟩,?_⟩;have ql:L.length=J.reverse.length:=Paired.length pa;refine jC (K:=K) (xs:=L.map V.ref) (λi G f=>γ H f/\f U=some (.lst (L.map V.ref))/\Α f d L J.reverse/\E3 λ(y:dm)(S v5:Option V)=>f l=some (.lst (y.map V.int))/\ϙ m j r d B (λv=>xs.getD v.toNat 0) (SQ j d) (J.drop (J.length-i)) y/\G=[some (V.ref p),some (V.ref a),some (V.int r),some (V.ref l),S,v5]) ⟨M.trans s2,e2,pa,xs,_,_,s2 _ _ Y,by rw[gA,eM];exact ϙ.nil xl,rfl⟩ (λi G f _ z=>ξ.of z.2.1) ?_ ?_
 .rintro i x G f N BB Ϗ hN hx ⟨s3,e3,Xk,y,S,v5,c3,so,rfl⟩;refine Ϗ _ _ ?_;obtain⟨q,v,rfl,hq,hv,eq⟩:=Xk.get hx;obtain⟨⟨o,vn⟩,ev,Y9⟩:=O.turn g R so hv;have u:=R.up v o.1 o.2 vn;obtain⟨kk,hk,k0,k1⟩:=pV g R o.1 o.2 vn;have cl:=so.len;walk_at "";refine⟨_,Β.of eq,rfl,_,_,rfl,_,_,rfl,rfl,?_⟩;refine Ι c3 (Rb u.1.1 (by lia)) (Ι c3 (Rb o.1 (by lia)) ?_);refine⟨p,t,m,Z,j,v,d v,rfl,W.same s3,λk' _ _ _ _ h=>?_,λz=>absurd ⟨o,u.1⟩ z,λ_ _ _ _ z=>by rw[hk]at z;cases z⟩;rw[hk]at h;cases h;refine⟨_,rfl,_,rfl,⟨by lia,by lia⟩,_,rfl,tS c3 u.1.1 (by rw[ag];lia) (hN _ _ ⟨s3.put nl _,?_,?_,rp d (SQ j d) y v,_,_,?_,Y9,rfl⟩)⟩
  .rw[aY Y8];exact e3
  .exact Paired.imp' (λa b h=>by rw[aY (dX h c3 (by intro z;cases z))];exact h) Xk
  .rw[aw,<-cY];unfold rp SQ;rw[hk]
   rfl
 .rintro BB G f Ϗ ⟨s3,e3,Xk,y,S,v5,c3,so,rfl⟩;refine Ϗ _ _ ?_;rw[ag,ql,bA,eW,iR]at so;rw[O.done g R so]at c3;walk_at "";exact k l f nl s3 c3
abbrev AI(P:Program)(w:World)(base:Heap)(T:Txt K I):=Cb P w K I base "gathered" wL ["web","laying","r"] 8 (zx T)
def Ez(T:Txt K I):Sp:=λj H Q E=>E9 λ(p a t:Addr)(c:Bool)(m:Int)(k:gy)(g:hU)(f:dm)(r:Int)=>j=[.ref p,.ref a,.int r]/\ι T.Web H p m t k g/\ύ K c H a (f.map V.int)/\f.length<=1000/\(bz m f=true->0<=r->r<m->∃b e,ζ m g r b e/\∀l i h d,iL m g r b e r=r::h->H l=none->γ H d->d l=some (.lst (i.map V.ref))->Ϥ d m g r b e (λv=>f.getD v.toNat 0) i (lF m g r b e (λv=>f.getD v.toNat 0) h.reverse)->Order m r b h->Q (.ref l) d)/\(bz m f=false->∀d,γ H d->E (.ref T.BadLaying) none d)/\(bz m f=true->¬(0<=r/\r<m)->∀d,γ H d->E (.ref T.NoPlace) none d)
abbrev CJ:Stmt:=top 68
theorem LK:ε ["web","laying","r","counts","steps","place","front","times"] ["web","laying","r"] (aF CJ):=.of
theorem Ng(T:Txt K I)(hq:bO (ψ P w))(oO:AI P w base T)(fE:pJ P w base T)(eI:qB P w base T):Ok P w K I base "bring" CJ ["web","laying","r"] 9 (Ez T):=λ_ _ D=>by
 refine D.F.ϯ LK (by walk_at "v") λς A Y s H vs Q E hr h=>?_;obtain⟨p,a,t,c,m,ps,j,xs,r,rfl,W,ha,hz,k,e,e'⟩:=h;have g:=W.go;have ω:=g.ω;refine⟨_,(aA (Ζ 3 (Λ oO hr bK (aa (δ 0) (aa (δ 1) (aa (δ 2) aq))))) (aA (Ζ 4 (cS aq)) (aA (gH PassesOwn.leaving rfl (ie (Λ fE hr bK (aa (δ 0) (aa (δ 2) aq)))) (kU (n:=2) rfl (cK (ϧ 5) (cK (ϧ 6) iT))) (aA (Ζ 7 (aV dz (Η bG (δ 3) (δ 5)) (Λ eI hr bK (aa (δ 0) (aa (δ 5) (aa (δ 6) aq)))))) (aH (b5 (Μ qk (δ 7) aD) (aH (cL (eu PySem.F.plainAttrs_list PySem.F.slot_list_append PySem.F.type_list_append eG (δ 4) (aa (jT (aa (δ 5) (aa (δ 6) (aa (δ 7) aq)))) aq)))) bE)))) (aH (bp (δ 4)))))),?_⟩;walk_at "s";walk_at "";refine⟨p,a,t,c,m,ps,j,xs,r,?_⟩;refine an7 rfl W ha hz (λfi r0 r1=>?_) e e';obtain⟨d,f,R,k⟩:=k fi r0 r1;refine⟨d,f,R,λS H1 nc s1 ec=>⟨bL (by simp),λC L=>?_⟩⟩;have U:=γ.new (.lst []) L;have Wg:=s1.free L;have Z:=s1.trans U;have es:upd H1 C (.lst []) C=some (.lst []):=aw;have Wh:=U _ _ ec;generalize upd H1 C (.lst [])=H2 at U Z es Wh ⊢;refine⟨p,t,m,ps,j,r,?_⟩;refine Vx rfl (W.same Z) (λ_ _=>⟨d,f,R,λX M l H3 et n2 s3 e3 pa O=>?_⟩) (λz=>absurd ⟨r0,r1⟩ z);refine⟨X,rfl,⟨_,ξ.of e3⟩,?_⟩;have ql:M.length=l.reverse.length:=Paired.length pa;have ll:=pN g R r0 r1;rw[et,aJ]at ll;have Zc:X≠C:=λz=>by rw[z,es]at n2;cases n2
 have Zd:S≠C:=λz=>by rw[<-z,ec]at L;cases L
 have iF:=Z.trans s3;refine jC (K:=K) (xs:=M.map V.ref) (λi J y=>γ H y/\y X=some (.lst (M.map V.ref))/\y S=some (.lst ((oE m j r d f (λv=>xs.getD v.toNat 0) (SQ j d)).map V.int))/\Α y d M l.reverse/\E4 λ(B:gy)(v5 v6 v7:Option V)=>y C=some (.lst (B.map V.ref))/\Ϥ y m j r d f (λv=>xs.getD v.toNat 0) B (lF m j r d f (λv=>xs.getD v.toNat 0) (l.reverse.take i))/\J=[some (V.ref p),some (V.ref a),some (V.int r),some (V.ref S),some (V.ref C),v5,v6,v7]) ⟨iF,e3,s3 _ _ Wh,pa,[],_,_,_,s3 _ _ es,.nil,rfl⟩ (λi J y _ z=>ξ.of z.2.1) ?_ ?_
 .rintro i x J y N BB Ϗ hN hx ⟨s4,e4,c4,TB,B,v5,v6,v7,u4,ba,rfl⟩;refine Ϗ _ _ ?_;obtain⟨q,v,rfl,hq,hv,eq⟩:=TB.get hx;have vm:v∈l:=gS.mp (aO hv);obtain⟨G,vn⟩:=O.places v vm;have u:=R.up v G.1 G.2 vn;obtain⟨kk,hk,k0,k1⟩:=pV g R G.1 G.2 vn;have Sf:l.reverse.take (i+1)=l.reverse.take i++[v]:=by rw[bq,hv];rfl
  have ul:B.length=(lF m j r d f (λv=>xs.getD v.toNat 0) (l.reverse.take i)).length:=Paired.length ba;have bm:B.length<=24:=by
   rw[ul];refine aR (bN _ _) ?_;rw[aZ,bA]
   lia
  walk_at "";refine⟨_,Β.of eq,rfl,_,_,rfl,_,_,rfl,rfl,?_⟩;refine Ι c4 (Rb G.1 (by unfold oE;rw[ag,dq];lia)) ?_;rw[tL G.1 G.2];refine⟨p,t,m,ps,j,v,d v,rfl,W.same s4,λk' _ _ _ _ h=>?_,λz=>absurd ⟨G,u.1⟩ z,λ_ _ _ _ z=>by rw[hk]at z;cases z⟩;rw[hk]at h;cases h;refine⟨_,rfl,_,rfl,⟨by lia,by lia⟩,?_⟩;have ae:aS m j r d f (λv=>xs.getD v.toNat 0) (SQ j d) v/kk=TN m j r d f (λv=>xs.getD v.toNat 0) v:=by
   unfold TN SQ;rw[hk]
   rfl
  rw[ae];by_cases c:0<TN m j r d f (λv=>xs.getD v.toNat 0) v
  .rw[ao c];refine⟨Rz u4,bL (by simp),λq5 n5=>?_⟩;have o:=γ.new (.tup (JQ m j r d f (λv=>xs.getD v.toNat 0) v)) n5;refine nK (o _ _ u4) (eK (by rw[ag];lia)) (hN _ _ ⟨(s4.trans o).put Wg _,?_,?_,?_,B++[q5],_,_,_,?_,?_,rfl⟩)
   .rw[aY Zc];exact o _ _ e4
   .rw[aY Zd];exact o _ _ c4
   .exact Paired.imp' (λa b h=>by rw[aY (dX (o _ _ h) (o _ _ u4) (by intro z;cases z))];exact o _ _ h) TB
   .rw[aw,aE];rfl
   .have Ze:q5≠C:=λz=>by rw[z,u4]at n5;cases n5
    have eb:lF m j r d f (λv=>xs.getD v.toNat 0) (l.reverse.take (i+1))=lF m j r d f (λv=>xs.getD v.toNat 0) (l.reverse.take i)++[v]:=by
     rw[Sf,Ji c]
    rw[eb];refine Ϥ.snoc (by rw[aY Ze,aw];rfl) ?_;exact Paired.imp' (λa b h=>by rw[aY (dX (o _ _ h) (o _ _ u4) (by intro z;cases z))];exact o _ _ h) ba
  .rw[ah c];have eb:lF m j r d f (λv=>xs.getD v.toNat 0) (l.reverse.take (i+1))=lF m j r d f (λv=>xs.getD v.toNat 0) (l.reverse.take i):=by
    rw[Sf,IE c]
   exact hN _ _ ⟨s4,e4,c4,TB,B,_,_,_,u4,by rw[eb];exact ba,rfl⟩
 .rintro BB J y Ϗ ⟨s4,e4,c4,TB,B,v5,v6,v7,u4,ba,rfl⟩;refine Ϗ _ _ ?_;rw[ag,ql,bQ]at ba;walk_at "";exact k C B l y et Wg s4 u4 ba O
def yc(T:Txt K I):Sp:=λd H Q _=>ZP λ(p t:Addr)(m:Int)(e:gy)(c:hU)(x v u a b:Int)=>d=[.ref p,.int x,.int v,.int u]/\ι T.Web H p m t e c/\(0<=v/\v<m)/\(0<=u/\u<m)/\fg c v u=some a/\fg c u v=some b/\(2<=a/\a<=1000000)/\(2<=b/\b<=1000000)/\Q (.int (if 0<=x then x/a else x*b)) H
abbrev uU:Stmt:=top 46
theorem Fa:ε ["web","over","place","front"] ["web","over","place","front"] (aF uU):=.of
theorem GB(T:Txt K I)(B:bO (ψ P w))(l:qB P w base T):Ok P w K I base "handed_on" uU ["web","over","place","front"] 4 (yc T):=λ_ _ D=>by
 refine D.F.ϯ Fa (by walk_at "v") λC A a s H y Q E i h=>?_;obtain⟨p,t,m,f,j,x,v,u,r,G,rfl,W,b,d,g,e,o,q,k⟩:=h;refine⟨_,(aA (b5 (Μ yZ (δ 1) aD) (aH (bp (aV dz (δ 1) (Λ l i bK (aa (δ 0) (aa (δ 2) (aa (δ 3) aq))))))) bE) (aH (bp (aV oq (δ 1) (Λ l i bK (aa (δ 0) (aa (δ 3) (aa (δ 2) aq)))))))),?_⟩;walk_at "s";walk_at "";by_cases c:0<=x
 .rw[ao c]at k ⊢;refine⟨p,t,m,f,j,v,u,rfl,W,λn _ _ _ _ h=>?_,λz=>absurd ⟨b,d⟩ z,λ_ _ _ _ z=>by rw[g]at z;cases z⟩;rw[g]at h;cases h;exact⟨_,rfl,⟨by lia,by lia⟩,k⟩
 .rw[ah c]at k ⊢;refine⟨p,t,m,f,j,u,v,rfl,W,λn _ _ _ _ h=>?_,λz=>absurd ⟨d,b⟩ z,λ_ _ _ _ z=>by rw[e]at z;cases z⟩;rw[e]at h;cases h;exact⟨_,rfl,.inr ⟨by lia,by lia⟩,k⟩
abbrev zr(P:Program)(w:World)(base:Heap)(T:Txt K I):=Cb P w K I base "handed_on" uU ["web","over","place","front"] 4 (yc T)
def xn(T:Txt K I):Sp:=λk H Q E=>V0 λ(p a b t:Addr)(c d:Bool)(m:Int)(n:gy)(j:hU)(f h:dm)(r:Int)=>k=[.ref p,.ref a,.ref b,.int r]/\ι T.Web H p m t n j/\ύ K c H a (f.map V.int)/\f.length<=1000/\ύ K d H b (h.map V.int)/\h.length<=1000/\(bz m f=true->bz m h=true->0<=r->r<m->∃g i,ζ m j r g i/\∀l e,H l=none->γ H e->e l=some (.lst ((oE m j r g i (λv=>(kX m f h).getD v.toNat 0) (RA j g)).map V.int))->Q (.ref l) e)/\(bz m f=false->∀e,γ H e->E (.ref T.BadLaying) none e)/\(bz m f=true->bz m h=false->∀e,γ H e->E (.ref T.BadWish) none e)/\(bz m f=true->bz m h=true->¬(0<=r/\r<m)->∀e,γ H e->E (.ref T.NoPlace) none e)
abbrev lL:Stmt:=top 45
theorem qh:ε ["web","laying","wish","r","has","wanted","over","place","front"] ["web","laying","wish","r"] (aF lL):=.of
theorem Ap:Uu (aF lL) "has":=.of (by kernel_rfl)
theorem xb:Uu (aF lL) "wanted":=.of (by kernel_rfl)
theorem zb:Sw (aF lL) "over":=.of (by kernel_rfl)
theorem xB:Υ (aF lL) "range":=.of (by kernel_rfl)
theorem EN(T:Txt K I)(hq:bO (ψ P w))(nB:zr P w base T)(fE:pJ P w base T)(gr:rD P w base T)(i4:uy P w base T):Ok P w K I base "standings" lL ["web","laying","wish","r"] 8 (xn T):=λ_ _ D=>by
 refine D.F.ϯ qh (by walk_at "v") λς A an s H vs Q E hr h=>?_;obtain⟨p,a,b,t,c,d,m,ps,C,xs,G,r,rfl,W,ha,hz,hb,hy,k,e1,e2,e3⟩:=h;have g:=W.go;have m1:=g.m1;have ω:=g.ω;refine⟨_,(aA (vD (i:=4) qh.nd rfl (Or.inr Ap.l) (Λ gr hr bK (aa (δ 0) (aa (δ 1) aq)))) (aA (vD (i:=5) qh.nd rfl (Or.inr xb.l) (Λ i4 hr bK (aa (δ 0) (aa (δ 2) aq)))) (aA (wH (i:=6) qh.nd rfl zb.l rfl (U4 ["place","has","wanted"] 1 [4,5]) (rZ xB.g T.range (aa (dj (δ 0) rfl) aq)) (λ_ _ _ _=>(fq (i:=0) (show(["place","has","wanted"]:hO).Nodup from by decide +kernel) rfl (Or.inl rfl))) (λ_ _ _ _=>iX) (λ_ _ _ _=>(aV mj (Η (Iu K rfl) (pv 1) (pv 0)) (Η (Iu K rfl) (pv 2) (pv 0))))) (aA (gH PassesOwn.leaving rfl (ie (Λ fE hr bK (aa (δ 0) (aa (δ 3) aq)))) (kU (n:=2) rfl (cK (ϧ 7) (cK (ϧ 8) iT))) (aH (rg (δ 6) (δ 8) pL (Λ nB hr bK (aa (δ 0) (aa (Η bG (δ 6) (δ 7)) (aa (δ 7) (aa (δ 8) aq))))) vx iy))) (aH (bp (δ 6))))))),?_⟩;walk_at "s";walk_at "";refine⟨p,a,t,c,m,ps,C,xs,rfl,W,ha,hz,λfi la H1 s1 _ ea=>?_,e1⟩;refine⟨p,b,t,d,m,ps,C,G,rfl,W.same s1,γ.ϳ s1 hb,hy,λU lb H2 Y _ eb=>?_,λU H2 Y=>e2 fi U H2 (s1.trans Y)⟩;have Zf:∀{j:dm},bz m j=true->(j.length:Int)=m:=λ{j} f=>by
  unfold bz at f;rw[bw]at f;exact bn f.1
 have xl:=Zf fi;have yl:=Zf U;have Ϝ:=s1.trans Y;have W2:=W.same Ϝ;obtain⟨dx,ob⟩:=W2.ob;refine⟨T.Web,dx,_,ob,T.Ξ,T.ϓ,_,iu m t,m,rfl,by lia,by lia,λlo no=>?_⟩;have al:=γ.tup Y ea;refine sy (λi j o J=>γ H2 J/\J lo=some (.lst j)/\j=((List.range i).map λi=>xs.getD i 0-G.getD i 0).map V.int/\∃v,o=[v,some (V.ref la),some (V.ref lb)]) ⟨γ.new _ no,aw,rfl,_,rfl⟩ ?_ ?_
 .rintro i j o J N hN hi ⟨s3,U7,rfl,v,rfl⟩;rw[jB];have i0:(0:Int)<=(i:Int):=by lia
  have ga:=Rb (xs:=xs) i0 (by lia);have gb:=Rb (xs:=G) i0 (by lia);rw[eE]at ga gb;walk_at "";refine CI (γ.tup s3 al) ga (CI (γ.tup s3 eb) gb ⟨_,rfl,_,rfl,U7,eK (by simp;lia),hN _ _ _ ⟨s3.put no _,aw,?_,_,rfl⟩⟩);rw[List.range_succ,aE,aE]
  rfl
 .rintro j o J ⟨s3,U7,rfl,v,rfl⟩;have S:=Ϝ.free no;have iF:=Ϝ.trans s3;have ol:=K1 (m:=m) (by lia) xs G;change J lo=some (.lst ((kX m xs G).map V.int))at U7;refine⟨p,t,m,ps,C,r,rfl,W.same iF,λr0 r1=>?_,λz=>e3 fi U z J iF⟩;obtain⟨e,M,R,k⟩:=k fi U r0 r1;refine⟨e,M,R,λl2 Z X H4 _ n2 s4 e4 pa O=>?_⟩;have Y8:l2≠lo:=λz=>by rw[z,U7]at n2;cases n2
  refine⟨l2,rfl,⟨_,ξ.of e4⟩,?_⟩;have ql:Z.length=X.reverse.length:=Paired.length pa;refine yh (K:=K) (xs:=Z.map V.ref) (λi o y=>γ H y/\y l2=some (.lst (Z.map V.ref))/\Α y e Z X.reverse/\E3 λ(L:dm)(v4 v5:Option V)=>y lo=some (.lst (L.map V.int))/\ϙ m C r e M (λv=>(kX m xs G).getD v.toNat 0) (RA C e) (X.drop (X.length-i)) L/\o=[some (V.ref p),some (V.ref a),some (V.ref b),some (V.int r),some (V.ref la),some (V.ref lb),some (V.ref lo),v4,v5]) ⟨iF.trans s4,e4,pa,kX m xs G,_,_,s4 _ _ U7,by rw[gA,eM];exact ϙ.nil ol,rfl⟩ (λi o y _ z=>ξ.of z.2.1) ?_ ?_
  .rintro i x o y N hN hx ⟨s5,e5,pa5,L,v4,v5,c5,so,rfl⟩;obtain⟨q,v,rfl,hq,hv,eq⟩:=pa5.get hx;obtain⟨⟨B,vn⟩,ev,Y9⟩:=O.turn g R so hv;have u:=R.up v B.1 B.2 vn;obtain⟨kk,hk,k0,k1⟩:=pV g R B.1 B.2 vn;obtain⟨kd,hd,d0,d1⟩:=sJ g R B.1 B.2 vn;have cl:=so.len;walk_at "";refine⟨_,Β.of eq,rfl,_,_,rfl,_,_,rfl,rfl,?_⟩;refine Ι c5 (Rb u.1.1 (by lia)) (Ι c5 (Rb B.1 (by lia)) ?_);refine⟨p,t,m,ps,C,_,v,e v,kk,kd,rfl,W.same s5,B,u.1,hk,hd,⟨k0,k1⟩,⟨d0,d1⟩,?_⟩;refine⟨_,rfl,_,rfl,tS c5 u.1.1 (by rw[ag];lia) (hN _ _ ⟨s5.put S _,?_,?_,rp e (RA C e) L v,_,_,?_,Y9,rfl⟩)⟩
   .rw[aY Y8];exact e5
   .exact Paired.imp' (λa b h=>by rw[aY (dX h c5 (by intro z;cases z))];exact h) pa5
   .rw[aw,<-cY];unfold rp RA;rw[hk,hd]
    rfl
  .rintro o y ⟨s5,e5,pa5,L,v4,v5,c5,so,rfl⟩;rw[ag,ql,bA,eW,iR]at so;rw[O.done g R so]at c5;walk_at "";exact k lo y S s5 c5
abbrev uZ(P:Program)(w:World)(base:Heap)(T:Txt K I):=Cb P w K I base "standings" lL ["web","laying","wish","r"] 8 (xn T)
def zt(T:Txt K I):Sp:=λk H Q E=>V0 λ(p a b t:Addr)(c d:Bool)(m:Int)(l:gy)(j:hU)(f h:dm)(r:Int)=>k=[.ref p,.ref a,.ref b,.int r]/\ι T.Web H p m t l j/\ύ K c H a (f.map V.int)/\f.length<=1000/\ύ K d H b (h.map V.int)/\h.length<=1000/\(bz m f=true->bz m h=true->0<=r->r<m->∃g i,ζ m j r g i/\∀e,γ H e->Q (.int (aS m j r g i (λv=>(kX m f h).getD v.toNat 0) (RA j g) r)) e)/\(bz m f=false->∀e,γ H e->E (.ref T.BadLaying) none e)/\(bz m f=true->bz m h=false->∀e,γ H e->E (.ref T.BadWish) none e)/\(bz m f=true->bz m h=true->¬(0<=r/\r<m)->∀e,γ H e->E (.ref T.NoPlace) none e)
abbrev wF:Stmt:=top 47
theorem Hb:ε ["web","laying","wish","r"] ["web","laying","wish","r"] (aF wF):=.of
theorem GM(T:Txt K I)(V:bO (ψ P w))(q:uZ P w base T):Ok P w K I base "standing" wF ["web","laying","wish","r"] 9 (zt T):=λ_ _ D=>by
 refine D.F.ϯ Hb (by walk_at "v") λX A i s H U Q E M h=>?_;obtain⟨p,a,b,t,c,d,m,u,N,z,O,r,rfl,W,J,S,B,v,k,f,L,G⟩:=h;refine⟨_,(aH (bp (oJ bG (Λ q M bK (aa (δ 0) (aa (δ 1) (aa (δ 2) (aa (δ 3) aq))))) (δ 3) (λ_ _=>rfl)))),?_⟩;walk_at "s";walk_at "";refine⟨p,a,b,t,c,d,m,u,N,z,O,r,rfl,W,J,S,B,v,λC x e n=>?_,f,L,G⟩;obtain⟨g,j,R,k⟩:=k C x e n;refine⟨g,j,R,λl y Y o f=>?_⟩;refine Ι f (Rb e ?_) ?_
 .unfold oE;rw[ag,dq];lia
 .rw[tL e n];exact k y o
abbrev wc(P:Program)(w:World)(base:Heap)(T:Txt K I):=Cb P w K I base "standing" wF ["web","laying","wish","r"] 9 (zt T)
def Dm(T:Txt K I):Sp:=λk H Q E=>W7 λ(p a b t:Addr)(c d:Bool)(m:Int)(l:gy)(j:hU)(g i:dm)=>k=[.ref p,.ref a,.ref b]/\ι T.Web H p m t l j/\ύ K c H a (g.map V.int)/\g.length<=1000/\ύ K d H b (i.map V.int)/\i.length<=1000/\(bz m g=true->bz m i=true->∃f h,ζ m j 0 f h/\∀e,γ H e->Q (.bl (decide (0<=aS m j 0 f h (λv=>(kX m g i).getD v.toNat 0) (RA j f) 0))) e)/\(bz m g=false->∀e,γ H e->E (.ref T.BadLaying) none e)/\(bz m g=true->bz m i=false->∀e,γ H e->E (.ref T.BadWish) none e)
abbrev Ay:Stmt:=top 48
theorem KF:ε ["web","laying","wish"] ["web","laying","wish"] (aF Ay):=.of
theorem Kr(T:Txt K I)(N:bO (ψ P w))(B:wc P w base T):Ok P w K I base "is_met" Ay ["web","laying","wish"] 10 (Dm T):=λ_ _ D=>by
 refine D.F.ϯ KF (by walk_at "v") λO A f s H M Q E v h=>?_;obtain⟨p,a,b,t,c,d,m,i,y,n,J,rfl,W,r,L,o,j,k,x,u⟩:=h;have m1:=W.go.m1;refine⟨_,(aH (bp (kP yZ (Λ B v bK (aa (δ 0) (aa (δ 1) (aa (δ 2) (aa aD aq))))) aD (jR _)))),?_⟩;walk_at "s";walk_at "";refine⟨p,a,b,t,c,d,m,i,y,n,J,0,rfl,W,r,L,o,j,λq l _ _=>?_,x,u,λ_ _ z=>absurd ⟨dU _,by lia⟩ z⟩;obtain⟨e,g,R,k⟩:=k q l;exact⟨e,g,R,λG C=>⟨_,rfl,k G C⟩⟩
theorem Ko{m:Int}{b:hU}{a:hT}{c:Int->Int->Nat}{d e:dm}{i:Nat}:vN m b a c d e (i+1)=vN m b a c d e i++[aS m b i (a i) (c i) (λv=>(kX m d e).getD v.toNat 0) (RA b (a i)) i]:=by
 unfold vN;rw[wr,aE]
 rfl
def zd(T:Txt K I):Sp:=λk H Q _=>E13 λ(p a b t:Addr)(c d:Bool)(m:Int)(n:gy)(f:hU)(e h:dm)(j:hT)(i:Int->Int->Nat)=>k=[.ref p,.ref a,.ref b]/\ι T.Web H p m t n f/\ύ K c H a (e.map V.int)/\bz m e=true/\ύ K d H b (h.map V.int)/\bz m h=true/\(∀r,0<=r->r<m->ζ m f r (j r) (i r))/\∀l g,H l=none->γ H g->g l=some (.tup (((vN m f j i e h m.toNat).map λx=>-x).map V.int))->Q (.ref l) g
abbrev sv:Stmt:=top 52
theorem GU:ε ["web","laying","wish"] ["web","laying","wish"] (aF sv):=.of
theorem y4:Υ (aF sv) "range":=.of (by kernel_rfl)
theorem GJ(T:Txt K I)(X:bO (ψ P w))(f:wc P w base T):Ok P w K I base "lacks_of" sv ["web","laying","wish"] 10 (zd T):=λ_ _ D=>by
 refine D.F.Ϙ GU (by walk_at "v") λς A o s H vs Q E hr h=>?_;obtain⟨p,a,b,t,c,d,m,U,L,q,S,R,u,rfl,W,Z,y,Y,M,RR,k⟩:=h;have g:=W.go;have ω:=g.ω;have m1:=g.m1;have xl:=ip y;have yl:=ip M;obtain⟨dx,ob⟩:=W.ob;refine⟨_,(aH (bp (RF ii T.tuple (aa (jI rfl (U4 ["r","web","laying","wish"] 1 [0,1,2]) (rZ y4.g T.range (aa (dj (Sh 0) rfl) aq)) (λ_ _ _ _=>(fq (i:=0) (show(["r","web","laying","wish"]:hO).Nodup from by decide +kernel) rfl (Or.inl rfl))) (λ_ _ _ _=>iX) (λ_ _ _ _=>(sG qg (iW f.G (hr.mono (by decide)) (by rfl) f.D.m f.D.F.kp f.D.b .nil (gF X) (aa (pv 1) (aa (pv 2) (aa (pv 3) (aa (pv 0) aq)))))))) aq)))),?_⟩;walk_at "s";walk_at "";refine⟨T.Web,dx,_,ob,T.Ξ,T.ϓ,_,iu m t,m,rfl,by lia,by lia,λJ O=>?_⟩;refine sy (λi e n j=>γ H j/\j J=some (.lst e)/\e=((vN m L R u q S i).map λx=>-x).map V.int/\∃v,n=[v,some (V.ref p),some (V.ref a),some (V.ref b)]) ⟨γ.new _ O,aw,rfl,_,rfl⟩ ?_ ?_
 .rintro i e n j N hN hi ⟨s3,e3,rfl,v,rfl⟩;rw[jB];have B:(0:Int)<=(i:Int):=by lia
  have r:(i:Int)<m:=by lia
  walk_at "";refine⟨p,a,b,t,c,d,m,U,L,q,S,(i:Int),rfl,W.same s3,γ.ϳ s3 Z,by lia,γ.ϳ s3 Y,by lia,λ_ _ _ _=>⟨R i,u i,RR i B r,λH4 C=>?_⟩,(λz=>by rw[y]at z;cases z),(λ_ z=>by rw[M]at z;cases z),λ_ _ z=>absurd ⟨B,r⟩ z⟩;refine⟨_,rfl,C _ _ e3,eK (by rw[ag,ag,FF];lia),hN _ _ _ ⟨(s3.trans C).put O _,aw,?_,_,rfl⟩⟩;rw[Ko,aE,aE]
  rfl
 .rintro e n j ⟨s3,e3,rfl,v,rfl⟩;refine⟨J,rfl,_,.inl ⟨ξ.of e3,λl nl=>?_⟩⟩;exact k l _ (s3.free nl) (s3.trans (γ.new _ nl)) aw
def zo(T:Txt K I):Sp:=λo H Q _=>ZQ λ(p a b t:Addr)(c d:Bool)(m:Int)(q:gy)(g:hU)(j k:dm)(r:Int)(e:dt)(f:ew)=>o=[.ref p,.ref a,.ref b,.int r]/\ι T.Web H p m t q g/\ύ K c H a (j.map V.int)/\bz m j=true/\ύ K d H b (k.map V.int)/\bz m k=true/\(0<=r/\r<m)/\ζ m g r e f/\∀l n i h,iL m g r e f r=r::i->H l=none->γ H h->h l=some (.lst (n.map V.ref))->Γ h n (qo g e (rW m g r e f k j) i.reverse)->Order m r e i->Q (.ref l) h
abbrev wE:Stmt:=top 50
theorem GS:ε ["web","laying","wish","r","over","steps","place","front","times"] ["web","laying","wish","r"] (aF wE):=.of
theorem G6(T:Txt K I)(M:bO (ψ P w))(nB:zr P w base T)(fE:pJ P w base T)(jo:uZ P w base T):Ok P w K I base "steps_in" wE ["web","laying","wish","r"] 9 (zo T):=λ_ _ D=>by
 refine D.F.Ϙ GS (by walk_at "v") λς A ac s H vs Q E hr h=>?_;obtain⟨p,a,b,t,c,d,m,ps,j,xs,o,r,e,f,rfl,W,ha,fx,hb,fy,rr,R,k⟩:=h;obtain⟨r0,r1⟩:=rr;have g:=W.go;have ω:=g.ω;have xl:=ip fx;have yl:=ip fy;refine⟨_,(aA (Ζ 4 (ϛ jo hr M (aa (δ 0) (aa (δ 1) (aa (δ 2) (aa (δ 3) aq)))))) (aA (Ζ 5 (cS aq)) (aA (gH PassesOwn.never rfl (ie (ϛ fE hr M (aa (δ 0) (aa (δ 3) aq)))) (kU (n:=2) rfl (cK (ϧ 6) (cK (ϧ 7) iT))) (aA (Ζ 8 (ϛ nB hr M (aa (δ 0) (aa (Η bG (δ 4) (δ 6)) (aa (δ 6) (aa (δ 7) aq)))))) (aH (b5 (Μ qk (δ 8) aD) (aH (cL (eu PySem.F.plainAttrs_list PySem.F.slot_list_append PySem.F.type_list_append eG (δ 5) (aa (jT (aa (δ 6) (aa (δ 7) (aa (δ 8) aq)))) aq)))) bE)))) (aH (bp (δ 5)))))),?_⟩;walk_at "s";walk_at "";refine⟨p,a,b,t,c,d,m,ps,j,xs,o,r,rfl,W,ha,by lia,hb,by lia,λ_ _ _ _=>⟨e,f,R,λY H1 nc s1 ec=>⟨bL (by simp),λG S=>?_⟩⟩,(λz=>by rw[fx]at z;cases z),(λ_ z=>by rw[fy]at z;cases z),λ_ _ z=>absurd ⟨r0,r1⟩ z⟩;have Z:=γ.new (.lst []) S;have Wg:=s1.free S;have Ϝ:=s1.trans Z;have es:upd H1 G (.lst []) G=some (.lst []):=aw;have Wh:=Z _ _ ec;generalize upd H1 G (.lst [])=H2 at Z Ϝ es Wh ⊢;refine⟨p,t,m,ps,j,r,?_⟩;refine Vx rfl (W.same Ϝ) (λ_ _=>⟨e,f,R,λl2 U J H3 et n2 s3 e3 pa O=>?_⟩) (λz=>absurd ⟨r0,r1⟩ z);refine⟨l2,rfl,⟨_,ξ.of e3⟩,?_⟩;have ql:U.length=J.reverse.length:=Paired.length pa;have ll:=pN g R r0 r1;rw[et,aJ]at ll;have Zc:l2≠G:=λz=>by rw[z,es]at n2;cases n2
 have Zd:Y≠G:=λz=>by rw[<-z,ec]at S;cases S
 have iF:=Ϝ.trans s3;refine jC (K:=K) (xs:=U.map V.ref) (λi L B=>γ H B/\B l2=some (.lst (U.map V.ref))/\B Y=some (.lst ((oE m j r e f (λv=>(kX m xs o).getD v.toNat 0) (RA j e)).map V.int))/\Α B e U J.reverse/\E4 λ(C:gy)(v5 v6 v7:Option V)=>B G=some (.lst (C.map V.ref))/\Γ B C (qo j e (rW m j r e f o xs) (J.reverse.take i))/\L=[some (V.ref p),some (V.ref a),some (V.ref b),some (V.int r),some (V.ref Y),some (V.ref G),v5,v6,v7]) ⟨iF,e3,s3 _ _ Wh,pa,[],_,_,_,s3 _ _ es,.nil,rfl⟩ (λi L B _ z=>ξ.of z.2.1) ?_ ?_
 .rintro i x L B N BB Ϗ hN hx ⟨s4,e4,c4,TB,C,v5,v6,v7,u4,ba,rfl⟩;refine Ϗ _ _ ?_;obtain⟨q,v,rfl,M,hv,eq⟩:=TB.get hx;have vm:v∈J:=gS.mp (aO hv);obtain⟨l,X⟩:=O.places v vm;have u:=R.up v l.1 l.2 X;obtain⟨kk,hk,k0,k1⟩:=pV g R l.1 l.2 X;obtain⟨kd,hd,d0,d1⟩:=sJ g R l.1 l.2 X;have Sf:J.reverse.take (i+1)=J.reverse.take i++[v]:=by rw[bq,hv];rfl
  have ul:C.length=(qo j e (rW m j r e f o xs) (J.reverse.take i)).length:=Paired.length ba;have bv:C.length<=24:=by
   rw[ul];unfold qo;rw[ag];refine aR (bN _ _) ?_;rw[aZ,bA]
   lia
  walk_at "";refine⟨_,Β.of eq,rfl,_,_,rfl,_,_,rfl,rfl,?_⟩;refine Ι c4 (Rb l.1 (by unfold oE;rw[ag,dq];lia)) ?_;rw[tL l.1 l.2];refine⟨p,t,m,ps,j,_,v,e v,kk,kd,rfl,W.same s4,l,u.1,hk,hd,⟨k0,k1⟩,⟨d0,d1⟩,?_⟩;have eh:(if 0<=rW m j r e f o xs v then rW m j r e f o xs v/kk else rW m j r e f o xs v*kd)=RA j e v (rW m j r e f o xs v):=by
   unfold RA;rw[hk,hd]
   rfl
  rw[eh];refine⟨_,rfl,?_⟩;obtain⟨i1,i2⟩:=OH g R (rW m j r e f o xs) l.1 l.2 X;by_cases z:0<RA j e v (rW m j r e f o xs v)
  .rw[ao z,i1 z];rw[i1 z]at z;refine⟨Rz u4,bL (by simp),λq5 n5=>?_⟩;have y:=γ.new (.tup (Vw (Mf j e (rW m j r e f o xs) v))) n5;refine nK (y _ _ u4) (eK (by rw[ag];lia)) (hN _ _ ⟨(s4.trans y).put Wg _,?_,?_,?_,C++[q5],_,_,_,?_,?_,rfl⟩)
   .rw[aY Zc];exact y _ _ e4
   .rw[aY Zd];exact y _ _ c4
   .exact Paired.imp' (λa b h=>by rw[aY (dX (y _ _ h) (y _ _ u4) (by intro z;cases z))];exact y _ _ h) TB
   .rw[aw,aE];rfl
   .have Ze:q5≠G:=λz=>by rw[z,u4]at n5;cases n5
    rw[Sf,MR (bB z)];refine yF (by rw[aY Ze,aw];rfl) ?_;exact Paired.imp' (λa b h=>by rw[aY (dX (y _ _ h) (y _ _ u4) (by intro z;cases z))];exact y _ _ h) ba
  .rw[ah z];exact hN _ _ ⟨s4,e4,c4,TB,C,_,_,_,u4,by rw[Sf,MI (by unfold Fo;rw[b8];exact i2 z)];exact ba,rfl⟩
 .rintro BB L B Ϗ ⟨s4,e4,c4,TB,C,v5,v6,v7,u4,ba,rfl⟩;refine Ϗ _ _ ?_;rw[ag,ql,bQ]at ba;walk_at "";exact k G C J B et Wg s4 u4 ba O
def ya(T:Txt K I):Sp:=λo H Q _=>ZQ λ(p a b t:Addr)(c d:Bool)(m:Int)(q:gy)(g:hU)(j k:dm)(r:Int)(e:dt)(f:ew)=>o=[.ref p,.ref a,.ref b,.int r]/\ι T.Web H p m t q g/\ύ K c H a (j.map V.int)/\bz m j=true/\ύ K d H b (k.map V.int)/\bz m k=true/\(0<=r/\r<m)/\ζ m g r e f/\∀l n i h,iL m g r e f r=r::i->H l=none->γ H h->h l=some (.lst (n.map V.ref))->Γ h n (qA e (rW m g r e f k j) i)->Order m r e i->Q (.ref l) h
abbrev rG:Stmt:=top 51
theorem Fb:ε ["web","laying","wish","r","over","steps","place","front"] ["web","laying","wish","r"] (aF rG):=.of
theorem vw:Υ (aF rG) "reversed":=.of (by kernel_rfl)
theorem Fh(T:Txt K I)(hq:bO (ψ P w))(fE:pJ P w base T)(jo:uZ P w base T):Ok P w K I base "steps_out" rG ["web","laying","wish","r"] 9 (ya T):=λ_ _ D=>by
 refine D.F.Ϙ Fb (by walk_at "v") λς A Y s H vs Q E hr h=>?_;obtain⟨p,a,b,t,c,d,m,ps,j,xs,C,r,e,f,rfl,W,ha,fx,hb,fy,rr,R,k⟩:=h;obtain⟨r0,r1⟩:=rr;have g:=W.go;have ω:=g.ω;have xl:=ip fx;have yl:=ip fy;refine⟨_,(aA (Ζ 4 (ϛ jo hr hq (aa (δ 0) (aa (δ 1) (aa (δ 2) (aa (δ 3) aq)))))) (aA (Ζ 5 (cS aq)) (aA (gH PassesOwn.never rfl (Fx vw.g T.reversed (ϛ fE hr hq (aa (δ 0) (aa (δ 3) aq)))) (kU (n:=2) rfl (cK (ϧ 6) (cK (ϧ 7) iT))) (aH (b5 (Μ Be (Η bG (δ 4) (δ 6)) aD) (aH (cL (eu PySem.F.plainAttrs_list PySem.F.slot_list_append PySem.F.type_list_append eG (δ 5) (aa (jT (aa (δ 7) (aa (δ 6) (aa (sG qg (Η bG (δ 4) (δ 6))) aq)))) aq)))) bE))) (aH (bp (δ 5)))))),?_⟩;walk_at "s";walk_at "";refine⟨p,a,b,t,c,d,m,ps,j,xs,C,r,rfl,W,ha,by lia,hb,by lia,λ_ _ _ _=>⟨e,f,R,λM H1 nc s1 ec=>⟨bL (by simp),λy L=>?_⟩⟩,(λz=>by rw[fx]at z;cases z),(λ_ z=>by rw[fy]at z;cases z),λ_ _ z=>absurd ⟨r0,r1⟩ z⟩;have U:=γ.new (.lst []) L;have Wg:=s1.free L;have Ϝ:=s1.trans U;have es:upd H1 y (.lst []) y=some (.lst []):=aw;have Wh:=U _ _ ec;generalize upd H1 y (.lst [])=H2 at U Ϝ es Wh ⊢;refine⟨p,t,m,ps,j,r,?_⟩;refine Vx rfl (W.same Ϝ) (λ_ _=>⟨e,f,R,λX G B H3 et n2 s3 e3 pa O=>?_⟩) (λz=>absurd ⟨r0,r1⟩ z);have ql:G.length=B.reverse.length:=Paired.length pa;rw[bA]at ql;have ll:=pN g R r0 r1;rw[et,aJ]at ll;have Zc:X≠y:=λz=>by rw[z,es]at n2;cases n2
 have Zd:M≠y:=λz=>by rw[<-z,ec]at L;cases L
 have iF:=Ϝ.trans s3;refine⟨X,rfl,_,ξ.of e3,?_⟩;refine Go (K:=K) (xs:=G.map V.ref) (λi J o=>γ H o/\o X=some (.lst (G.map V.ref))/\o M=some (.lst ((oE m j r e f (λv=>(kX m xs C).getD v.toNat 0) (RA j e)).map V.int))/\Α o e G B.reverse/\E3 λ(u:gy)(v5 v6:Option V)=>o y=some (.lst (u.map V.ref))/\Γ o u (qA e (rW m j r e f C xs) (B.take i))/\J=[some (V.ref p),some (V.ref a),some (V.ref b),some (V.int r),some (V.ref M),some (V.ref y),v5,v6]) ⟨iF,e3,s3 _ _ Wh,pa,[],_,_,s3 _ _ es,.nil,rfl⟩ (λi J o _ z=>ξ.of z.2.1) ?_ ?_
 .rintro i x J o N hN hx ⟨s4,e4,c4,TB,u,v5,v6,u4,ba,rfl⟩;have il:=(ay.mp hx).1;rw[bA,ag]at il;rw[ee (by rw[ag];exact il),ag]at hx;obtain⟨q,v,rfl,By,S,eq⟩:=TB.get hx;rw[ee (by lia),show B.length-1-(G.length-1-i)=i by lia]at S;have vm:=aO S;have Z:=O.ϭ v vm;have Sf:B.take (i+1)=B.take i++[v]:=by rw[bq,S];rfl
  have ul:u.length=(qA e (rW m j r e f C xs) (B.take i)).length:=Paired.length ba;have bl:u.length<=24:=by
   rw[ul];unfold qA;rw[ag];refine aR (bN _ _) ?_;rw[aZ]
   lia
  have gv:Ϲ ((oE m j r e f (λv=>(kX m xs C).getD v.toNat 0) (RA j e)).map V.int) v=some (V.int (rW m j r e f C xs v)):=by
   rw[Rb Z.1 (by unfold oE;rw[ag,dq];lia),tL Z.1 Z.2]
  walk_at "";refine⟨_,Β.of eq,rfl,_,_,rfl,_,_,rfl,rfl,?_⟩;refine Ι c4 gv ⟨_,rfl,?_⟩;by_cases z:rW m j r e f C xs v<0
  .rw[ao z];refine⟨Rz u4,Ι c4 gv ⟨_,rfl,bL (by simp),λq5 n5=>?_⟩⟩;have l:=γ.new (.tup (Vw (M7 e (rW m j r e f C xs) v))) n5;refine nK (l _ _ u4) (eK (by rw[ag];lia)) (hN _ _ ⟨(s4.trans l).put Wg _,?_,?_,?_,u++[q5],_,_,?_,?_,rfl⟩)
   .rw[aY Zc];exact l _ _ e4
   .rw[aY Zd];exact l _ _ c4
   .exact Paired.imp' (λa b h=>by rw[aY (dX (l _ _ h) (l _ _ u4) (by intro z;cases z))];exact l _ _ h) TB
   .rw[aw,aE];rfl
   .have Ze:q5≠y:=λz=>by rw[z,u4]at n5;cases n5
    rw[Sf,MZ (bB z)];refine yF (by rw[aY Ze,aw];rfl) ?_;exact Paired.imp' (λa b h=>by rw[aY (dX (l _ _ h) (l _ _ u4) (by intro z;cases z))];exact l _ _ h) ba
  .rw[ah z];exact hN _ _ ⟨s4,e4,c4,TB,u,_,_,u4,by rw[Sf,MJ (by unfold FM;rw[b8];exact z)];exact ba,rfl⟩
 .rintro J o ⟨s4,e4,c4,TB,u,v5,v6,u4,ba,rfl⟩;rw[ag,ql,bQ]at ba;walk_at "";exact k y u B o et Wg s4 u4 ba O
def BD(T:Txt K I):Sp:=λq H Q E=>W7 λ(p a b t:Addr)(c d:Bool)(m:Int)(s:gy)(h:hU)(f i:dm)=>q=[.ref p,.ref a,.ref b]/\ι T.Web H p m t s h/\ύ K c H a (f.map V.int)/\f.length<=1000/\ύ K d H b (i.map V.int)/\i.length<=1000/\(bz m f=true->bz m i=true->∃g j,(∀r,0<=r->r<m->ζ m h r (g r) (j r))/\(0<=rW m h 0 (g 0) (j 0) i f 0->∀l n o k e,iL m h 0 (g 0) (j 0) 0=0::k->Order m 0 (g 0) k->H n=none->H l=none->γ H e->e l=some (.tup [.str "steps",.ref n])->e n=some (.lst (o.map V.ref))->Γ e o (qo h (g 0) (rW m h 0 (g 0) (j 0) i f) k.reverse++qA (g 0) (rW m h 0 (g 0) (j 0) i f) k)->Q (.ref l) e)/\(¬0<=rW m h 0 (g 0) (j 0) i f 0->∀l lt e,H lt=none->H l=none->γ H e->e l=some (.tup [.str "lack",.ref lt])->e lt=some (.tup (((vN m h g j f i m.toNat).map λx=>-x).map V.int))->Q (.ref l) e))/\(bz m f=false->∀e,γ H e->E (.ref T.BadLaying) none e)/\(bz m f=true->bz m i=false->∀e,γ H e->E (.ref T.BadWish) none e)
abbrev xV:Stmt:=top 49
theorem Jq:ε ["web","laying","wish"] ["web","laying","wish"] (aF xV):=.of
theorem Iz(T:Txt K I)(hq:bO (ψ P w))(Aa:Cb P w K I base "is_met" Ay ["web","laying","wish"] 10 (Dm T))(wK:Cb P w K I base "lacks_of" sv ["web","laying","wish"] 10 (zd T))(vT:Cb P w K I base "steps_in" wE ["web","laying","wish","r"] 9 (zo T))(uL:Cb P w K I base "steps_out" rG ["web","laying","wish","r"] 9 (ya T)):Ok P w K I base "meeting" xV ["web","laying","wish"] 11 (BD T):=λ_ _ D=>by
 refine D.F.ϯ Jq (by walk_at "v") λς A U s H vs Q E J h=>?_;obtain⟨p,a,b,t,c,d,m,C,n,j,q,rfl,W,B,hz,x,hy,k,e1,e2⟩:=h;have m1:=W.go.m1;have ω:=W.go.ω;have g:=W.go;refine⟨_,(aA (b5 (mR (Λ Aa J bK (aa (δ 0) (aa (δ 1) (aa (δ 2) aq))))) (aH (bp (jT (aa bo (aa (aV gh (Λ vT J bK (aa (δ 0) (aa (δ 1) (aa (δ 2) (aa aD aq))))) (Λ uL J bK (aa (δ 0) (aa (δ 1) (aa (δ 2) (aa aD aq)))))) aq))))) bE) (aH (bp (jT (aa bo (aa (Λ wK J bK (aa (δ 0) (aa (δ 1) (aa (δ 2) aq)))) aq)))))),?_⟩;walk_at "s";walk_at "";refine⟨p,a,b,t,c,d,m,C,n,j,q,rfl,W,B,hz,x,hy,λv r=>?_,e1,e2⟩;obtain⟨o,l,RR,k1,k2⟩:=k v r;have G:=RR 0 (dU _) (by lia);refine⟨o 0,l 0,G,λH1 e=>⟨_,rfl,?_⟩⟩;by_cases z:0<=rW m n 0 (o 0) (l 0) q j 0
 .rw[ao (bB z)];refine⟨p,a,b,t,c,d,m,C,n,j,q,0,o 0,l 0,rfl,W.same e,γ.ϳ e B,v,γ.ϳ e x,r,⟨dU _,by lia⟩,G,λl1 Z tl H2 R n1 u Y Xs O=>?_⟩;have y:=e.trans u;refine⟨p,a,b,t,c,d,m,C,n,j,q,0,o 0,l 0,rfl,W.same y,γ.ϳ y B,v,γ.ϳ y x,r,⟨dU _,by lia⟩,G,λS X Z8 H3 Sf n2 s3 h3 SN _=>?_⟩;have ac:Z8=tl:=by rw[R]at Sf;cases Sf;rfl
  subst ac;have ll:=pN g G (dU _) (by lia);rw[R,aJ]at ll;have b1:Z.length<=24:=by
   rw[Paired.length Xs];unfold qo;rw[ag];refine aR (bN _ _) ?_;rw[bA]
   lia
  have b2:X.length<=24:=by
   rw[Paired.length SN];unfold qA;rw[ag];refine aR (bN _ _) ?_
   lia
  have N:=y.trans s3;refine ML (s3 _ _ Y) h3 (bL (by rw[ag,ag];lia)) λl3 n3=>⟨bL (by simp),λL i=>?_⟩;have M:=γ.new (.lst (Z.map V.ref++X.map V.ref)) n3;have f:=γ.new (.tup [V.str (Str.ofString "steps"),V.ref l3]) i;have Xj:=N.free n3;have Z4:=(N.trans M).free i;refine k1 z L l3 (Z++X) Z8 _ R O Xj Z4 (N.trans (M.trans f)) aw (by rw[f _ _ aw,aE]) (Γ.same (M.trans f) ?_);exact Gr SN (Γ.same s3 Xs)
 .rw[ah (by rw[b8];exact z)];refine⟨p,a,b,t,c,d,m,C,n,j,q,o,l,rfl,W.same e,γ.ϳ e B,v,γ.ϳ e x,r,RR,λS H2 n2 u Y=>⟨bL (by simp),λL i=>?_⟩⟩;have f:=γ.new (.tup [V.str (Str.ofString "lack"),V.ref S]) i;exact k2 z L S _ (e.free n2) ((e.trans u).free i) (e.trans (u.trans f)) aw (f _ _ Y)
def vB(T:Txt K I):Sp:=λb H Q _=>∃z:Int,b=[.int z]/\Bt z/\∀a,γ H a->Q (.str (tI z)) a
abbrev kN:Stmt:=top 84
theorem Ch:ε ["number","pieces"] ["number"] (aF kN):=.of
theorem gM:Υ (aF kN) "PIECE":=.of (by kernel_rfl)
theorem lZ:Υ (aF kN) "PIECE_FIGURES":=.of (by kernel_rfl)
theorem tZ:Υ (aF kN) "reversed":=.of (by kernel_rfl)
theorem CG(T:Txt K I)(y:bO (ψ P w)):Ok P w K I base "number_text" kN ["number"] 1 (vB T):=λ_ _ D=>by
 refine D.F.Ϙ Ch (by walk_at "v") λC A i s H x Q E G h=>?_;obtain⟨z,rfl,nb,k⟩:=h;refine⟨_,(aA (Ζ 1 (cS aq)) (aA (wy PassesOwn.never (Μ yZ (δ 0) (mJ gM.g T.Se (hd:=gM.d))) (aA (cL (eu PySem.F.plainAttrs_list PySem.F.slot_list_append PySem.F.type_list_append eG (δ 1) (aa (eu PySem.F.plainAttrs_str PySem.F.slot_str_zfill PySem.F.type_str_zfill M8 (RF iQ T.str (aa (aV cG (δ 0) (mJ gM.g T.Se (hd:=gM.d))) aq)) (aa (mJ lZ.g T.Rm (hd:=lZ.d)) aq)) aq))) (aH (Ζ 0 (aV Gv (δ 0) (mJ gM.g T.Se (hd:=gM.d))))))) (aA (cL (eu PySem.F.plainAttrs_list PySem.F.slot_list_append PySem.F.type_list_append eG (δ 1) (aa (RF iQ T.str (aa (δ 0) aq)) aq))) (aH (bp (Mb rfl tZ.g T.reversed (δ 1))))))),?_⟩;walk_at "s";refine cW λv n=>?_;walk_at "";refine⟨bL (by simp),λl nl=>n _ _ (cW λJ m=>?_)⟩;refine Ct (λk j u=>∃q:Int,k=q.toNat/\∃a,u=upd H l (.lst (a.map V.str))/\Np z q a/\j=[some (V.int q),some (V.ref l)]) z.toNat ⟨z,rfl,[],rfl,.start nb,rfl⟩ ?_;rintro _ j _ N B o r t ⟨q,rfl,a,rfl,b,rfl⟩;have f:=b.cnt;have f:(a.map V.str).length<sizeLine:=eK (by rw[ag];lia);refine o _ _ _ ?_;walk_at "";by_cases c:(1000000000000000000:Int)<=q
 .rw[ao c];obtain⟨p,e⟩:=b.step c;refine⟨N,t,Rz aw,by decide,p,by simp[Ra],_,rfl,by decide,nK aw f ⟨⟨by decide,by decide⟩,r _ _ _ (by lia) ⟨_,rfl,_,?_,e,rfl⟩⟩⟩;rw[aE];exact mi
 .rw[ah c];refine m _ _ ?_;walk_at "";refine⟨Rz aw,b.big.log,nK aw f ⟨a++[tI q],?_,b.sum,?_⟩⟩
  .rw[mi,aE];exact ξ.of aw
  .rw[show Str.ofString ""=("":Str)from rfl,b.done];refine k _ ?_;rw[mi];exact γ.new _ nl
abbrev sk(P:Program)(w:World)(base:Heap)(T:Txt K I):=Cb P w K I base "number_text" kN ["number"] 1 (vB T)
def uk(T:Txt K I):Sp:=λe H Q _=>E3 λ(a:Addr)(c:Bool)(b:dm)=>e=[.ref a]/\Ux c H a (b.map V.int)/\b.length<=100/\(∀z∈b,Bt z)/\∀d,γ H d->Q (.str (Ug b)) d
abbrev qP:Stmt:=top 85
theorem AH:ε ["numbers"] ["numbers"] (aF qP):=.of
theorem BM(T:Txt K I)(u:bO (ψ P w))(g:sk P w base T):Ok P w K I base "numbers_text" qP ["numbers"] 2 (uk T):=λ_ _ D=>by
 refine D.F.Ϙ AH (by walk_at "v") λJ A o s H C Q E B h=>?_;obtain⟨a,c,j,rfl,t,y,nb,k⟩:=h;refine⟨_,(aH (bp (eu PySem.F.plainAttrs_str PySem.F.slot_str_join PySem.F.type_str_join jK bo (aa (jI rfl (mH (Nc:=["number"]) 1 (by decide +kernel) (by decide +kernel) rfl (by decide +kernel) rfl) (yw c (δ 0)) (λ_ _ _ _=>(fq (i:=0) (show(["number"]:hO).Nodup from by decide +kernel) rfl (Or.inl rfl))) (λ_ _ _ _=>iX) (λ_ _ _ _=>(iW g.G (B.mono (by decide)) (by rfl) g.D.m g.D.F.kp g.D.b .nil (gF u) (aa (pv 0) aq)))) aq)))),?_⟩;walk_at "s";walk_at "";refine⟨by simp[Ra],⟨_,t.sq⟩,λp q=>?_⟩;refine lM (K:=K) (xs:=j.map V.int) (λi e f d=>γ H d/\d p=some (.lst e)/\e=((j.take i).map tI).map V.str/\∃v,f=[v]) ⟨γ.new _ q,aw,rfl,_,rfl⟩ (λi e f d _ ⟨z,_⟩=>γ.ϳ z t.sq) ?_ ?_
 .rintro i x e f d N hN hi ⟨s2,h2,rfl,v,rfl⟩;obtain⟨n,l,rfl⟩:=List.ν hi;have L:i<j.length:=(ay.mp l).1;walk_at "";refine⟨n,rfl,nb n (aO l),λM r=>⟨r _ _ h2,eK (by rw[ag,ag,aZ];lia),hN _ _ _ ⟨(s2.trans r).put q _,aw,?_,_,rfl⟩⟩⟩;rw[bq,l,aE,aE]
  rfl
 .rintro e f d ⟨s2,h2,rfl,v,rfl⟩;rw[ag,bQ]at h2;exact⟨_,p,_,rfl,rfl,ξ.of h2,Kj nb y,k _ s2⟩
abbrev qK(P:Program)(w:World)(base:Heap)(T:Txt K I):=Cb P w K I base "numbers_text" qP ["numbers"] 2 (uk T)
def wY(T:Txt K I):Sp:=λe H Q _=>E4 λ(a:Addr)(c:Bool)(as:gy)(b:List Ϧ)=>e=[.ref a]/\Ux c H a (as.map V.ref)/\Γ H as b/\b.length<=200/\(∀s∈b,W9 s)/\∀d,γ H d->Q (.str (Xb b)) d
abbrev tP:Stmt:=top 86
theorem Ee:ε ["steps"] ["steps"] (aF tP):=.of
theorem Ej(T:Txt K I)(C:bO (ψ P w))(j:qK P w base T):Ok P w K I base "steps_text" tP ["steps"] 3 (wY T):=λ_ _ D=>by
 refine D.F.Ϙ Ee (by walk_at "v") λS A o s H O Q E M h=>?_;obtain⟨a,c,as,l,rfl,g,B,L,nb,k⟩:=h;refine⟨_,(aA (b5 (Μ di (Q4 dk T.len (aa (δ 0) aq)) aD) (aH (bp bo)) bE) (aH (bp (eu PySem.F.plainAttrs_str PySem.F.slot_str_join PySem.F.type_str_join jK bo (aa (jI rfl (mH (Nc:=["step"]) 1 (by decide +kernel) (by decide +kernel) rfl (by decide +kernel) rfl) (yw c (δ 0)) (λ_ _ _ _=>(fq (i:=0) (show(["step"]:hO).Nodup from by decide +kernel) rfl (Or.inl rfl))) (λ_ _ _ _=>iX) (λ_ _ _ _=>(iW j.G (M.mono (by decide)) (by rfl) j.D.m j.D.F.kp j.D.b .nil (gF C) (aa (pv 0) aq)))) aq))))),?_⟩;walk_at "s";walk_at "";have y:as.length=l.length:=Paired.length B;refine⟨as.map V.ref,by cases c;exact .inr (Β.of g);exact .inl (ξ.of g),?_⟩;rw[ag];unfold Xb at k;by_cases r:((as.length:Nat):Int)=0
 .rw[ao (lA.mp (by lia))]at k;rw[ao r];exact k H (γ.refl _)
 .rw[ah λz=>r (by rw[y,z];rfl)]at k;rw[ah r];refine⟨by simp[Ra],⟨_,g.sq⟩,λp t=>?_⟩;refine lM (K:=K) (xs:=as.map V.ref) (λi e f d=>γ H d/\d p=some (.lst e)/\e=((l.take i).map Xa).map V.str/\∃v,f=[v]) ⟨γ.new _ t,aw,rfl,_,rfl⟩ (λi e f d _ ⟨z,_⟩=>γ.ϳ z g.sq) ?_ ?_
  .rintro i x e f d N hN hi ⟨s2,h2,rfl,v,rfl⟩;obtain⟨q,s,rfl,R,n,J⟩:=HR B hi;have U:i<l.length:=(ay.mp n).1;walk_at "";refine⟨q,false,[s.1,s.2.1,s.2.2],rfl,s2 _ _ J,eO rfl,nb s (aO n),λW u=>⟨u _ _ h2,eK (by rw[ag,ag,aZ];lia),hN _ _ _ ⟨(s2.trans u).put t _,aw,?_,_,rfl⟩⟩⟩;rw[bq,n,aE,aE]
   rfl
  .rintro e f d ⟨s2,h2,rfl,v,rfl⟩;rw[ag,y,bQ]at h2;exact⟨_,p,_,rfl,rfl,ξ.of h2,Pc nb L,k _ s2⟩
abbrev xM(P:Program)(w:World)(base:Heap)(T:Txt K I):=Cb P w K I base "steps_text" tP ["steps"] 3 (wY T)
def ud(T:Txt K I):Sp:=λf H Q _=>E3 λ(p a:Addr)(w:Str)=>f=[.ref p]/\H p=some (.tup [.str w,.ref a])/\((∃(e:gy)(c:List Ϧ),w="steps"/\H a=some (.lst (e.map V.ref))/\Γ H e c/\c.length<=48/\(∀s∈c,W9 s)/\∀b,γ H b->Q (.str (Str.ofString "steps " ++ Xb c)) b)\/∃d:List Int,w="lack"/\H a=some (.tup (d.map V.int))/\d.length<=24/\(∀z∈d,Bt z)/\∀b,γ H b->Q (.str (Str.ofString "lack " ++ Ug d)) b)
abbrev re:Stmt:=top 116
theorem BI:ε ["found"] ["found"] (aF re):=.of
theorem Bs(T:Txt K I)(g:bO (ψ P w))(m:qK P w base T)(j:xM P w base T):Ok P w K I base "meeting_text" re ["found"] 4 (ud T):=λ_ _ D=>by
 refine D.F.Ϙ BI (by walk_at "v") λo A f s H n Q E i h=>?_;obtain⟨p,a,w,rfl,e,h⟩:=h;refine⟨_,(aA (b5 (Μ di (Η fB (δ 0) aD) bo) (aH (bp (aV fZ bo (ϛ j i g (aa (Η fB (δ 0) aD) aq))))) bE) (aH (bp (aV fZ bo (ϛ m i g (aa (Η fB (δ 0) aD) aq)))))),?_⟩;walk_at "s";walk_at "";refine CI (Β.of e) rfl ?_;rcases h with⟨qs,ss,rfl,ha,st,l,b,k⟩|⟨zs,rfl,ha,l,b,k⟩
 .rw[ao rfl];have:=CQ b l;exact⟨rfl,CI (Β.of e) rfl ⟨a,true,qs,ss,rfl,ha,st,by lia,b,λd c=>⟨_,rfl,_,rfl,bL (by rw[show(Str.ofString "steps ").length=6 from rfl];lia),k d c⟩⟩⟩
 .rw[ah (Rk (by decide))];have:=yJ b;exact⟨rfl,CI (Β.of e) rfl ⟨a,false,zs,rfl,ha,by lia,b,λd c=>⟨_,rfl,_,rfl,bL (by rw[show(Str.ofString "lack ").length=5 from rfl];lia),k d c⟩⟩⟩
def HM(T:Txt K I):Sp:=λh H Q E=>E9 λ(p a t:Addr)(c:Bool)(m:Int)(i:gy)(g:hU)(e:dm)(r:Int)=>h=[.ref p,.ref a,.int r]/\ι T.Web H p m t i g/\ύ K c H a (e.map V.int)/\e.length<=1000/\(bz m e=true->0<=r->r<m->∃d f,ζ m g r d f/\∀b,γ H b->Q (.int (aS m g r d f (λv=>e.getD v.toNat 0) (SQ g d) r)) b)/\(bz m e=false->∀b,γ H b->E (.ref T.BadLaying) none b)/\(bz m e=true->¬(0<=r/\r<m)->∀b,γ H b->E (.ref T.NoPlace) none b)
abbrev ET:Stmt:=top 67
theorem Ot:ε ["web","laying","r"] ["web","laying","r"] (aF ET):=.of
theorem Oz(T:Txt K I)(L:bO (ψ P w))(u:AI P w base T):Ok P w K I base "most" ET ["web","laying","r"] 9 (HM T):=λ_ _ D=>by
 refine D.F.ϯ Ot (by walk_at "v") λM A f s H J Q E z h=>?_;obtain⟨p,a,t,c,m,n,C,q,r,rfl,W,y,G,k,e,v⟩:=h;refine⟨_,(aH (bp (oJ bG (Λ u z bK (aa (δ 0) (aa (δ 1) (aa (δ 2) aq)))) (δ 2) (λ_ _=>rfl)))),?_⟩;walk_at "s";walk_at "";refine⟨p,a,t,c,m,n,C,q,r,?_⟩;refine an7 rfl W y G (λx b i=>?_) e v;obtain⟨d,g,R,k⟩:=k x b i;refine⟨d,g,R,λl o N j B=>?_⟩;refine Ι B (Rb b ?_) ?_
 .unfold oE;rw[ag,dq];lia
 .rw[tL b i];exact k o j
def tJ(T:Txt K I):Sp:=λb H Q _=>∃z:Int,b=[.int z]/\Bt z/\∀a,γ H a->Q (.str (tI z)) a
abbrev qf:Stmt:=top 115
theorem zZ:ε ["number"] ["number"] (aF qf):=.of
theorem zV(T:Txt K I)(d:bO (ψ P w))(e:sk P w base T):Ok P w K I base "standing_text" qf ["number"] 2 (tJ T):=λ_ _ D=>by
 refine D.F.Ϙ zZ (by walk_at "v") λl A b s H j Q E f h=>?_;obtain⟨z,rfl,nb,k⟩:=h;refine⟨_,(aA (b5 (Μ Be (δ 0) aD) (aH (bp (aV fZ bo (ϛ e f d (aa (sG qg (δ 0)) aq))))) bE) (aH (bp (ϛ e f d (aa (δ 0) aq))))),?_⟩;walk_at "s";walk_at "";by_cases c:z<0
 .rw[ao c];have a:Bt (-z):=by show(-z).natAbs<_;rw[Int.natAbs_neg];exact nb
  refine⟨-z,rfl,a,λi g=>⟨_,rfl,_,rfl,?_,?_⟩⟩
  .have:=ve a;exact bL (by rw[show(Str.ofString "-").length=1 from rfl];lia)
  .rw[K4 c];exact k i g
 .rw[ah c];exact⟨z,rfl,nb,k⟩
def uE(T:Txt K I):Sp:=λf H Q E=>E13 λ(o h j t d:Addr)(m:Int)(g:gy)(e:hU)(i:List (List Int×List Int))(s:List Int×List Int)(w:Str)(c:List Nat)(r:Sum Str Nat)=>f=[.ref o,.str w,.ref d]/\π T.Web T.Desk H o h j m t g e (i++[s])/\bz m s.1=true/\bz m s.2=true/\H d=some (.lst (TQ c))/\Q0 m e s.1 s.2 w c r/\(∀a,r=.inl a->∀b,γ H b->Q (.str a) b)/\(r=.inr 0->∀x b,γ H b->E (.ref T.NoPlace) x b)/\(r=.inr 4->∀x b,γ H b->E (.ref T.NoWorst) x b)
abbrev qO:Stmt:=top 113
theorem Bf:ε ["desk","word","numbers"] ["desk","word","numbers"] (aF qO):=.of
theorem Ba(T:Txt K I)(hq:bO (ψ P w))(n:pI P w base T)(i:rB P w base T)(zO:Cb P w K I base "always" zG ["web","wish"] 60 (DR T))(C7:Cb P w K I base "bring" CJ ["web","laying","r"] 9 (Ez T))(sR:Ik P w base T)(yg:Cb P w K I base "meeting" xV ["web","laying","wish"] 11 (BD T))(rf:Cb P w K I base "meeting_text" re ["found"] 4 (ud T))(FY:Cb P w K I base "most" ET ["web","laying","r"] 9 (HM T))(eR:sk P w base T)(eC:qK P w base T)(ir:wc P w base T)(qc:Cb P w K I base "standing_text" qf ["number"] 2 (tJ T))(lW:xM P w base T):Ok P w K I base "told_of_desk" qO ["desk","word","numbers"] 61 (uE T):=λ_ _ D=>by
 refine D.F.ϯ Bf (by walk_at "v") λς A ae s H vs Q E d h=>?_;obtain⟨o,y,pl,t,ln,m,x,B,ο,s,w,ns,r,rfl,O,J,C,Y,r,k,e0,e4⟩:=h;have g:=O.web.go;refine⟨_,(aA (b5 (Μ di (δ 1) bo) (aH (bp (Λ eC d bK (aa (gu (δ 0) T.η n.M n.G (d.mono (by decide)) n.b .nil bK) aq)))) bE) (aA (b5 (Μ di (δ 1) bo) (aH (bp (Λ eC d bK (aa (gu (δ 0) T.η i.M i.G (d.mono (by decide)) i.b .nil bK) aq)))) bE) (aA (b5 (Μ di (δ 1) bo) (aH (bp (Λ eR d bK (aa (Λ FY d bK (aa (dj (δ 0) rfl) (aa (gu (δ 0) T.η n.M n.G (d.mono (by decide)) n.b .nil bK) (aa (Η bG (δ 2) aD) aq)))) aq)))) bE) (aA (b5 (Μ di (δ 1) bo) (aH (bp (Λ lW d bK (aa (Λ C7 d bK (aa (dj (δ 0) rfl) (aa (gu (δ 0) T.η n.M n.G (d.mono (by decide)) n.b .nil bK) (aa (Η bG (δ 2) aD) aq)))) aq)))) bE) (aA (b5 (Μ di (δ 1) bo) (aH (bp (Λ qc d bK (aa (Λ ir d bK (aa (dj (δ 0) rfl) (aa (gu (δ 0) T.η n.M n.G (d.mono (by decide)) n.b .nil bK) (aa (gu (δ 0) T.η i.M i.G (d.mono (by decide)) i.b .nil bK) (aa (Η bG (δ 2) aD) aq))))) aq)))) bE) (aA (b5 (Μ di (δ 1) bo) (aH (bp (Λ rf d bK (aa (Λ yg d bK (aa (dj (δ 0) rfl) (aa (gu (δ 0) T.η n.M n.G (d.mono (by decide)) n.b .nil bK) (aa (gu (δ 0) T.η i.M i.G (d.mono (by decide)) i.b .nil bK) aq)))) aq)))) bE) (aA (b5 (Μ di (δ 1) bo) (aH (bp (Λ eR d bK (aa (Λ zO d bK (aa (dj (δ 0) rfl) (aa (gu (δ 0) T.η i.M i.G (d.mono (by decide)) i.b .nil bK) aq))) aq)))) bE) (aA (b5 (Μ di (δ 1) bo) (aH (bp (Λ eC d bK (aa (Λ sR d bK (aa (dj (δ 0) rfl) (aa (gu (δ 0) T.η i.M i.G (d.mono (by decide)) i.b .nil bK) aq))) aq)))) bE) (aH Mc))))))))),?_⟩;walk_at "s";have ω:=g.ω;have xl:=ip J;have yl:=ip C;have e:∀{P:Prop}{z:dm},bz m z=true->bz m z=false->P:=λa b=>by rw[a]at b;cases b
 walk_at "";have L:∀{R:V->Hp->Prop},(∀a,H a=some (.tup (s.1.map V.int))->R (.ref a) H)->qM T [.ref o] H R E:=λh=>⟨o,y,pl,t,m,x,B,ο,s,rfl,O,h⟩;have N:∀{R:V->Hp->Prop},(∀a,H a=some (.tup (s.2.map V.int))->R (.ref a) H)->sV T [.ref o] H R E:=λh=>⟨o,y,pl,t,m,x,B,ο,s,rfl,O,h⟩;cases r with
 | laying l b=>
   rw[ao rfl];exact O.Ο (L λa c=>⟨a,false,_,rfl,c,by lia,b,k _ rfl⟩)
 | wish l b=>
   rw[ah (Rk (by decide)),ao rfl];exact O.Ο (N λa c=>⟨a,false,_,rfl,c,by lia,b,k _ rfl⟩)
 | @most v par dep h R b=>
   repeat rw[ah (Rk (by decide))]
   rw[ao rfl];exact O.Tv T.η T.ρ (O.Ο (L λa c=>Ι Y rfl ⟨y,a,t,false,m,x,B,s.1,v,rfl,O.web,Β.of c,by lia,λ_ _ _=>⟨par,dep,R,λS f=>⟨_,rfl,b,λu j=>k _ rfl u (f.trans j)⟩⟩,e J,λ_ z=>absurd ⟨by lia,h⟩ z⟩))
 | @V4 v h=>
   repeat rw[ah (Rk (by decide))]
   rw[ao rfl];exact O.Tv T.η T.ρ (O.Ο (L λa c=>Ι Y rfl ⟨y,a,t,false,m,x,B,s.1,v,rfl,O.web,Β.of c,by lia,λ_ _ z=>absurd z (by lia),e J,λ_ _=>e0 rfl none⟩))
 | @bring v par dep tl ss h R et es l b=>
   repeat rw[ah (Rk (by decide))]
   rw[ao rfl];refine O.Tv T.η T.ρ (O.Ο (L λa c=>Ι Y rfl ⟨y,a,t,false,m,x,B,s.1,v,rfl,O.web,Β.of c,by lia,λ_ _ _=>⟨par,dep,R,λp qs Z8 S Z n1 f X ba _=>?_⟩,e J,λ_ z=>absurd ⟨by lia,h⟩ z⟩));rw[et]at Z;cases Z;subst es;exact⟨p,true,qs,_,rfl,X,MK ba,by lia,b,λu j=>k _ rfl u (f.trans j)⟩
 | @UH v h=>
   repeat rw[ah (Rk (by decide))]
   rw[ao rfl];exact O.Tv T.η T.ρ (O.Ο (L λa c=>Ι Y rfl ⟨y,a,t,false,m,x,B,s.1,v,rfl,O.web,Β.of c,by lia,λ_ _ z=>absurd z (by lia),e J,λ_ _=>e0 rfl none⟩))
 | @stands v par dep h R b=>
   repeat rw[ah (Rk (by decide))]
   rw[ao rfl];exact O.Tv T.η T.ρ (O.Ο (L λa c=>O.Ο (N λU W=>Ι Y rfl ⟨y,a,U,t,false,false,m,x,B,s.1,s.2,v,rfl,O.web,Β.of c,by lia,Β.of W,by lia,λ_ _ _ _=>⟨par,dep,R,λS f=>⟨_,rfl,b,λu j=>k _ rfl u (f.trans j)⟩⟩,e J,λ_=>e C,λ_ _ z=>absurd ⟨by lia,h⟩ z⟩)))
 | @Tu v h=>
   repeat rw[ah (Rk (by decide))]
   rw[ao rfl];exact O.Tv T.η T.ρ (O.Ο (L λa c=>O.Ο (N λU W=>Ι Y rfl ⟨y,a,U,t,false,false,m,x,B,s.1,s.2,v,rfl,O.web,Β.of c,by lia,Β.of W,by lia,λ_ _ _ z=>absurd z (by lia),e J,λ_=>e C,λ_ _ _=>e0 rfl none⟩)))
 | @UI ώ ϣ tl ss RR et h es l b=>
   repeat rw[ah (Rk (by decide))]
   rw[ao rfl];refine O.Tv T.η T.ρ (O.Ο (L λa c=>O.Ο (N λU W=>⟨y,a,U,t,false,false,m,x,B,s.1,s.2,rfl,O.web,Β.of c,by lia,Β.of W,by lia,λ_ _=>⟨ώ,ϣ,RR,λ_ p q qs Z8 S Z _ _ _ f X e2 st=>?_,λz=>absurd h z⟩,e J,λ_=>e C⟩)));rw[et]at Z;cases Z;subst es;exact⟨p,q,_,rfl,X,.inl ⟨qs,_,rfl,e2,st,l,b,λu j=>k _ rfl u (f.trans j)⟩⟩
 | @UJ ώ ϣ zs RR h es l b=>
   repeat rw[ah (Rk (by decide))]
   rw[ao rfl];subst es;exact O.Tv T.η T.ρ (O.Ο (L λa c=>O.Ο (N λU W=>⟨y,a,U,t,false,false,m,x,B,s.1,s.2,rfl,O.web,Β.of c,by lia,Β.of W,by lia,λ_ _=>⟨ώ,ϣ,RR,λz=>absurd z h,λ_ p q S _ _ f X e2=>⟨p,q,_,rfl,X,.inr ⟨_,rfl,e2,l,b,λu j=>k _ rfl u (f.trans j)⟩⟩⟩,e J,λ_=>e C⟩)))
 | Sb h=>
   repeat rw[ah (Rk (by decide))]
   rw[ao rfl];exact O.Tv T.η T.ρ (O.Ο (N λa c=>⟨y,a,t,false,m,x,B,s.2,rfl,O.web,Β.of c,by lia,λ_ z=>absurd h z,λ_ _ S f=>⟨0,rfl,by decide,λu j=>k _ rfl u (f.trans j)⟩,e C⟩))
 | @always par dep h R b=>
   repeat rw[ah (Rk (by decide))]
   rw[ao rfl];exact O.Tv T.η T.ρ (O.Ο (N λa c=>⟨y,a,t,false,m,x,B,s.2,rfl,O.web,Β.of c,by lia,λ_ _=>⟨par,dep,R,λS f=>⟨_,rfl,b,λu j=>k _ rfl u (f.trans j)⟩⟩,λ_ z=>absurd z h,e C⟩))
 | UK h=>
   repeat rw[ah (Rk (by decide))]
   rw[ao rfl];exact O.Tv T.η T.ρ (O.Ο (N λa c=>⟨y,a,t,false,m,x,B,s.2,rfl,O.web,Β.of c,by lia,λ_ z=>absurd h z,e C,λ_ _=>e4 rfl none⟩))
 | @fails par dep zs h R es l b=>
   repeat rw[ah (Rk (by decide))]
   rw[ao rfl];subst es;exact O.Tv T.η T.ρ (O.Ο (N λa c=>⟨y,a,t,false,m,x,B,s.2,rfl,O.web,Β.of c,by lia,λ_ _=>⟨par,dep,R,λp S _ f X=>⟨p,false,_,rfl,X,by lia,b,λu j=>k _ rfl u (f.trans j)⟩⟩,e C,λ_ z=>absurd z h⟩))
def xO(T:Txt K I):Sp:=λh H Q E=>V0 λ(o g d t:Addr)(m:Int)(f:gy)(e:hU)(c:List (List Int×List Int))(s:List Int×List Int)(z:Str)(r:Sum Str Nat)(S:List (List Int×List Int))=>h=[.ref o,.str z]/\π T.Web T.Desk H o g d m t f e (c++[s])/\c.length<=500/\bz m s.1=true/\bz m s.2=true/\Tc m e c s z r S/\(∀a,r=.inl a->∀b,π T.Web T.Desk b o g d m t f e S->ϰ d H b->Q (.str a) b)/\(r=.inr 0->∀x b,γ H b->E (.ref T.NoPlace) x b)/\(r=.inr 2->∀x b,γ H b->E (.ref T.BadStep) x b)/\(r=.inr 3->∀x b,γ H b->E (.ref T.NoDeed) x b)/\(r=.inr 4->∀x b,γ H b->E (.ref T.NoWorst) x b)/\(r=.inr 5->∀x b,γ H b->E (.ref T.BadText) x b)
abbrev rJ:Stmt:=top 111
theorem GA:ε ["desk","row","words","numbers"] ["desk","row"] (aF rJ):=.of
theorem qd:Υ (aF rJ) "BadText":=.of (by kernel_rfl)
theorem FL(T:Txt K I)(hq:bO (ψ P w))(W:jD P w base T)(x6:Cb P w K I base "do_deed" xK ["desk","word","numbers"] 10 (BP T))(ms:yf P w base T)(qJ:Cb P w K I base "told_of_desk" qO ["desk","word","numbers"] 61 (uE T))(Ϭ:DK w K T.NUMBERS_BEHIND nbK):Ok P w K I base "answer_of" rJ ["desk","row"] 62 (xO T):=λ_ _ D=>by
 refine D.F.ϯ GA (by walk_at "v") λς A ar s H vs Q E hr h=>?_;obtain⟨o,wb,pl,t,m,ps,rs,Y,s,z,r,S,rfl,O,sl,fi,fj,⟨zl,C⟩,k,e0,e2,e3,e4,e5⟩:=h;obtain⟨e,i,N,wo,wl⟩:∃e i,Le z=e::i/\(∀x∈i,XG x)/\i.length<=1000:=by
  rcases C with⟨_,_,_,e,i,a,b,c,_⟩|⟨w,v,a,b,c,d⟩
  .exact⟨e,i,a,b,c⟩
  .refine⟨w,_,a,λx R=>?_,?_⟩
   .obtain⟨n,hn,rfl⟩:=aW.mp R;exact(Wd.fs (b n hn)).ok
   .rw[ag];exact aR (IR c) (by decide)
 refine⟨_,(aA (Ζ 2 (eu PySem.F.plainAttrs_str PySem.F.slot_str_split PySem.F.type_str_split qU (δ 1) (aa bo aq))) (aA (b5 (oQ (OV w K rfl rfl Ϭ) (Η bG (δ 2) aD) (pgl T.ϫ) (by with_unfolding_all rfl)) (aH (om W.M W.G hq (hr.mono (by decide)) W.b rfl rfl qT qd.g T.Ω (aa aD aq) (hdb:=qd.d))) bE) (aA (Ζ 3 (Λ ms hr bK (aa (gc hV (δ 2) (gN aD) gP) (aa (Lu w K rfl rfl Ϭ (pgl T.ϫ) (Η bG (δ 2) aD) (λ_ _=>rfl)) (aa aD aq))))) (aA (b5 (oQ Ds (Η bG (δ 2) aD) (pgl T.VC) (by with_unfolding_all rfl)) (aA (cL (Λ x6 hr bK (aa (δ 0) (aa (Η bG (δ 2) aD) (aa (δ 3) aq))))) (aH (bp bo))) bE) (aH (bp (Λ qJ hr bK (aa (δ 0) (aa (Η bG (δ 2) aD) (aa (δ 3) aq)))))))))),?_⟩;walk_at "s";unfold Xz yP bV;refine cW λN1 h1=>?_;walk_at "";refine⟨by simp[Ra],z,rfl,_,rfl,rfl,zl,λl nl=>h1 _ _ (cW λN2 h2=>?_)⟩;have s1:=γ.new (HO.lst ((Txt.split z (Str.ofString " ")).map V.str)) nl;have Z:upd H l (HO.lst ((Txt.split z (Str.ofString " ")).map V.str)) l=some (.lst ((e::i).map V.str)):=by rw[aw,<-N];rfl
 generalize upd H l (HO.lst ((Txt.split z (Str.ofString " ")).map V.str))=H1 at s1 Z ⊢;have L:Ϲ ((e::i).map V.str) 0=some (.str e):=fo (by decide) rfl;walk_at "";refine Ι Z L ⟨e,rfl,rfl,_,rfl,?_⟩;rw[Ku,ko];cases en:nb e with
 | none=>
   have c5:r=.inr 5:=by
    rcases C with⟨_,h,_⟩|⟨w,v,a,_,c,_⟩
    .exact h
    .rw[N]at a;cases a;rw[en]at c;cases c
   rw[ao (by rfl)];unfold sP;walk_at "";refine⟨bL (by simp),λJ ne=>⟨J,W.f,_,rfl,aw,W.M,λdx nd BV=>⟨rfl,some dx,?_,?_⟩⟩⟩
   .rw[aY (Ne.symm BV),aw]
   .exact e5 c5 _ _ (s1.trans (qR ne nd BV))
 | some n=>
   rw[ah (by exact bi)];refine h2 _ _ (cW λN3 h3=>?_);walk_at "";refine⟨l,_,rfl,ξ.of Z,λl2 n2=>?_⟩;rw[Bw _ (by decide)];have s2:=s1.trans (γ.new (HO.lst (((e::i).map V.str).drop (1:Int).toNat)) n2);have U9:=γ.new (HO.lst (((e::i).map V.str).drop (1:Int).toNat)) n2 _ _ Z;have X:upd H1 l2 (HO.lst (((e::i).map V.str).drop (1:Int).toNat)) l2=some (.lst (i.map V.str)):=aw;generalize upd H1 l2 (HO.lst (((e::i).map V.str).drop (1:Int).toNat))=H2 at s2 U9 X ⊢;refine Ι U9 L ⟨e,.int n,rfl,rfl,by rw[Ku,en];rfl,?_⟩;refine⟨l2,i,n,1,rfl,X,by lia,wo,λel v VQ p H3 np s3 U=>?_,λai dx H3 s3 _=>?_⟩
   .have C:U5 m rs Y s e v r S\/(S=Y++[s]/\Q0 m rs s.1 s.2 e v r):=by
     rcases C with⟨_,_,_,w',ws',a,_,_,h⟩|⟨w,TU,a,b,_,h⟩
     .rw[N]at a;cases a;rcases h n en with h|⟨x,R,h⟩
      .lia
      .have:ϱ x∈i.map ϱ:=aW.mpr ⟨x,R,rfl⟩;rw[VQ,h]at this;obtain⟨_,_,this⟩:=aW.mp this;cases this
     .rw[N]at a;cases a;rw[HY b]at VQ;cases zS VQ;exact h
    refine h3 _ _ ?_;have B:=s2.trans s3;have O3:=O.same B;have VE:=s3 _ _ U9;walk_at "";refine Ι VE L ⟨T.DEEDS,_,rfl,.inr T.VD.sq,rfl,rfl,_,rfl,?_⟩;rcases C with h|⟨rfl,h⟩
    .rw[ao (by cases h<;>decide +kernel)];refine Ι VE L ⟨o,wb,pl,t,p,m,ps,rs,Y,s,e,v,r,S,rfl,O3,sl,fi,fj,U,h,λa J j O4 k4=>?_,λz x j u=>e2 z x j (B.trans u),λz x j u=>e3 z x j (B.trans u)⟩;obtain rfl:a=Str.ofString "done":=by
      subst J;cases h<;>rfl
     exact k _ J j O4 λc y h n=>k4 c y (B _ _ h) n
    .rw[ah (by cases h<;>decide +kernel)];exact Ι VE L ⟨o,wb,pl,t,p,m,ps,rs,Y,s,e,v,r,rfl,O3,fi,fj,U,h,λa J j u=>k a J j (O3.same u) λc y h n=>u _ _ (B _ _ h),λz x j u=>e0 z x j (B.trans u),λz x j u=>e4 z x j (B.trans u)⟩
   .have c5:r=.inr 5:=by
     rcases C with⟨_,h,_⟩|⟨w,v,a,b,c,_⟩
     .exact h
     .rw[N]at a;cases a;rw[en]at c;cases c;rcases ai with h|⟨x,R,h⟩
      .rw[ag]at h;exact absurd rfl h
      .obtain⟨q,hq,rfl⟩:=aW.mp R;rw[ye.mpr ⟨b q hq,rfl⟩]at h;cases h
    exact e5 c5 _ _ (s2.trans s3)
theorem SU{K:fv}{C b:Addr}(d:Q3 K b C){a:Addr}{c R2:Prop}(ne:a≠b)(n:a≠C)(h:R2):∃D,Value.ref C=Value.ref D/\∃x,PySem.W.mroIn K D (Value.ref a)=some x/\if x=true then c else R2:=⟨C,rfl,false,by rw[d.mr,bP ne,nF,bP n],h⟩
theorem hit{K:fv}{C b:Addr}(c:Q3 K b C){a R2:Prop}(h:a):∃D,Value.ref C=Value.ref D/\∃x,PySem.W.mroIn K D (Value.ref C)=some x/\if x=true then a else R2:=⟨C,rfl,true,by rw[c.mr];simp,h⟩
def vJ(T:Txt K I):Sp:=λg H Q _=>V0 λ(o f b t:Addr)(m:Int)(e:gy)(d:hU)(a:List (List Int×List Int))(s:List Int×List Int)(z:Str)(r:Sum Str Nat)(S:List (List Int×List Int))=>g=[.ref o,.str z]/\π T.Web T.Desk H o f b m t e d (a++[s])/\a.length<=500/\bz m s.1=true/\bz m s.2=true/\Tc m d a s z r S/\∀c,π T.Web T.Desk c o f b m t e d S->ϰ b H c->Q (.str (Aw r)) c
abbrev gK:Stmt:=jL (top 110) 9
theorem CC:ε ["self","row"] ["self","row"] (aF gK):=.of
theorem o9:Υ (aF gK) "BadText":=.of (by kernel_rfl)
theorem pp:Υ (aF gK) "NoPlace":=.of (by kernel_rfl)
theorem oj:Υ (aF gK) "BadLaying":=.of (by kernel_rfl)
theorem pb:Υ (aF gK) "BadWish":=.of (by kernel_rfl)
theorem pi:Υ (aF gK) "BadStep":=.of (by kernel_rfl)
theorem pX:Υ (aF gK) "NoDeed":=.of (by kernel_rfl)
theorem pC:Υ (aF gK) "NoWorst":=.of (by kernel_rfl)
theorem CB(T:Txt K I)(R:bO (ψ P w))(B:Cb P w K I base "answer_of" rJ ["desk","row"] 62 (xO T)):Td P w K I base "answer" "Desk.answer" gK ["self","row"] 63 (vJ T):=λ_ _ F=>by
 refine F.Ϙ CC (by walk_at "v") λU A l s H N Q E J h=>?_;obtain⟨o,u,G,t,m,q,L,y,s,z,r,S,rfl,O,D,C,v,n,k⟩:=h;refine⟨_,(aH (J6 rfl rfl rfl (Gu (OC (pyb B J (aa (δ 0) (aa (δ 1) aq))))) (wC T.gT.x o9.g T.Ω (λ_=>(aH (bp bo))) (wC T.Q5.x pp.g T.RT (λ_=>(aH (bp bo))) (wC T.SH.x oj.g T.Rf (λ_=>(aH (bp bo))) (wC T.TZ.x pb.g T.RU (λ_=>(aH (bp bo))) (wC T.Ϟ.x pi.g T.RW (λ_=>(aH (bp bo))) (wC T.Ϣ.x pX.g T.SE (λ_=>(aH (bp bo))) (wC T.ϊ.x pC.g T.RV (λ_=>(aH (bp bo))) KJ (hdb:=pC.d)) (hdb:=pX.d)) (hdb:=pi.d)) (hdb:=pb.d)) (hdb:=oj.d)) (hdb:=pp.d)) (hdb:=o9.d)))),?_⟩;walk_at "s";unfold Jk BW;walk_at "";have j:∀{c:Nat},r=.inr c->∀i,γ H i->Q (.str (Jy c)) i:=λe i f=>by
  have:=k i;rw[e]at this;exact this (by rw[n.same e];exact O.same f) λb x h _=>f b x h
 exact⟨o,u,G,t,m,q,L,y,s,z,r,S,rfl,O,D,C,v,n,(λa e i M p=>by have:=k i M p;rw[e]at this;exact this),(λe x i f=>SU T.Q5 (lT T.iD 9 0) (lT T.iD 9 2) (hit T.Q5 (j e _ f))),(λe x i f=>SU T.Ϟ (lT T.iD 9 0) (lT T.iD 9 8) (SU T.Ϟ (lT T.iD 2 0) (lT T.iD 2 8) (SU T.Ϟ (lT T.iD 4 0) (lT T.iD 4 8) (SU T.Ϟ (lT T.iD 5 0) (lT T.iD 5 8) (hit T.Ϟ (j e _ f)))))),(λe x i f=>SU T.Ϣ (lT T.iD 9 0) (lT T.iD 9 7) (SU T.Ϣ (lT T.iD 2 0) (lT T.iD 2 7) (SU T.Ϣ (lT T.iD 4 0) (lT T.iD 4 7) (SU T.Ϣ (lT T.iD 5 0) (lT T.iD 5 7) (SU T.Ϣ (lT T.iD 8 0) (lT T.iD 8 7) (hit T.Ϣ (j e _ f))))))),(λe x i f=>SU T.ϊ (lT T.iD 9 0) (lT T.iD 9 6) (SU T.ϊ (lT T.iD 2 0) (lT T.iD 2 6) (SU T.ϊ (lT T.iD 4 0) (lT T.iD 4 6) (SU T.ϊ (lT T.iD 5 0) (lT T.iD 5 6) (SU T.ϊ (lT T.iD 8 0) (lT T.iD 8 6) (SU T.ϊ (lT T.iD 7 0) (lT T.iD 7 6) (hit T.ϊ (j e _ f)))))))),(λe x i f=>hit T.gT (j e _ f))⟩
abbrev wZ(P:Program)(w:World)(base:Heap)(T:Txt K I):=Cm P w K I base (Meth K T.Desk "answer") "answer" "Desk.answer" gK ["self","row"] 63 (vJ T)
def zw(T:Txt K I):Sp:=λc H Q _=>E3 λ(a:Addr)(b:dm)(k:Int)=>c=[.ref a,.int k]/\ξ K H a (b.map V.int)/\0<=k/\∀v,Q (.int v) H
abbrev wv:Stmt:=top 119
theorem G0:ε ["script","k"] ["script","k"] (aF wv):=.of
theorem GZ(T:Txt K I)(l:bO (ψ P w)):Ok P w K I base "_law_cell" wv ["script","k"] 1 (zw T):=λ_ _ D=>by
 refine D.F.Ϙ G0 (by walk_at "v") λm A d s H j Q E n h=>?_;obtain⟨a,b,i,rfl,e,f,k⟩:=h;refine⟨_,(aA (b5 (Μ Be (δ 1) (Q4 dk T.len (aa (δ 0) aq))) (aH (bp (Η bG (δ 0) (δ 1)))) bE) (aH (bp aD))),?_⟩;walk_at "s";walk_at "";refine⟨_,.inl e,?_⟩;rw[ag];by_cases c:i<(b.length:Int)
 .rw[ao c];have g:i.toNat<b.length:=by lia
  exact ZI e (fo f (v:=.int b[i.toNat]) (by rw[aQ,aB g];rfl)) (k _)
 .rw[ah c];exact k 0
abbrev BO(P:Program)(w:World)(base:Heap)(T:Txt K I):=Cb P w K I base "_law_cell" wv ["script","k"] 1 (zw T)
def wU(T:Txt K I):Sp:=λe H Q _=>E3 λ(a:Addr)(d:dm)(z:Int)=>e=[.ref a,.int z]/\ξ K H a (d.map V.int)/\d.length<=63/\1<=z/\z<=40/\∀p (c:dm) b,H p=none->γ H b->b p=some (.lst (c.map V.int))->c.length<=40->Q (.ref p) b
abbrev qz:Stmt:=top 127
theorem D6:ε ["cells","many","folded","k"] ["cells","many"] (aF qz):=.of
theorem xc:Υ (aF qz) "range":=.of (by kernel_rfl)
theorem Eb(T:Txt K I)(u:bO (ψ P w)):Ok P w K I base "_law_folded" qz ["cells","many"] 1 (wU T):=λ_ _ D=>by
 refine D.F.Ϙ D6 (by walk_at "v") λB A m s H r Q E C h=>?_;obtain⟨a,f,z,rfl,o,x,G,y,k⟩:=h;refine⟨_,(aA (Ζ 2 (cS aq)) (aA (gH PassesOwn.never rfl (rZ xc.g T.range (aa (Q4 dk T.len (aa (δ 0) aq)) aq)) (ϧ 3) (aH (b5 (Μ Be (δ 3) (δ 1)) (aH (cL (eu PySem.F.plainAttrs_list PySem.F.slot_list_append PySem.F.type_list_append eG (δ 2) (aa (Η bG (δ 0) (δ 3)) aq)))) (aH (mW (aV dR (aV oq (Η bG (δ 2) (aV cG (δ 3) (δ 1))) aD) (Η bG (δ 0) (δ 3))) (rX (δ 2) (aV cG (δ 3) (δ 1)) iy)))))) (aH (bp (δ 2))))),?_⟩;walk_at "s";walk_at "";refine⟨bL (by simp),λl nl=>?_⟩;have e:=γ.new (HO.lst []) nl;have p:upd H l (HO.lst []) l=some (HO.lst (([]:dm).map V.int)):=aw;generalize upd H l (HO.lst [])=t at e p ⊢;refine⟨_,.inl (γ.seq e o),?_⟩;rw[ag];refine⟨by lia,by lia,?_⟩;refine B9 (lo:=0) (λi j d=>γ H d/\∃(xs:dm)(v:Option V),d l=some (.lst (xs.map V.int))/\xs.length=min i z.toNat/\j=[some (V.ref a),some (V.int z),some (V.ref l),v]) ⟨e,[],_,p,by simp,rfl⟩ ?_ ?_
 .rintro i j d N BB Ϗ hN hi ⟨s2,xs,v,e2,xl,rfl⟩;refine Ϗ _ _ ?_;rw[show(0:Int)+(i:Int)=(i:Int) by lia];walk_at "";have q:=Rb (xs:=f) (i:=(i:Int)) (by lia) (by lia);have b:=γ.seq s2 o;by_cases c:(i:Int)<z
  .rw[ao c];refine⟨Rz e2,⟨a,_,_,_,rfl,rfl,b,q,nK e2 (eK (by rw[ag];lia)) (hN _ _ ⟨s2.put nl _,xs++[f.getD i 0],_,by rw[aw,aE];rfl,by rw[ap,bM];lia,rfl⟩)⟩⟩
  .rw[ah c];have n:=b6 (i:Int) (show z≠0 by lia);have J:=cg (i:Int) (show 0<z by lia);refine⟨by lia,Ι e2 (Rb n (by lia)) ⟨_,rfl,.inr ⟨by decide,by decide⟩,⟨a,_,_,_,rfl,rfl,b,q,_,rfl,by lia,tS e2 n (by rw[ag];lia) (hN _ _ ⟨s2.put nl _,xs.set ((i:Int)%z).toNat (xs.getD ((i:Int)%z).toNat 0*31+f.getD i 0),_,by rw[aw,cY];rfl,by rw[b7];lia,rfl⟩)⟩⟩⟩
 .rintro BB j d Ϗ ⟨s2,xs,v,e2,xl,rfl⟩;refine Ϗ _ _ ?_;walk_at "";exact k l xs d nl s2 e2 (by lia)
def zB(T:Txt K I):Sp:=λc H Q _=>∃(a:Addr)(b:dm),c=[.ref a]/\ξ K H a (b.map V.int)/\∀v,Q (.int v) H
abbrev wf:Stmt:=top 120
theorem Hg:ε ["script"] ["script"] (aF wf):=.of
theorem G4(T:Txt K I)(g:bO (ψ P w)):Ok P w K I base "_law_last" wf ["script"] 1 (zB T):=λ_ _ D=>by
 refine D.F.Ϙ Hg (by walk_at "v") λf A b s H i Q E j h=>?_;obtain⟨a,e,rfl,d,k⟩:=h;refine⟨_,(aA (b5 (Μ di (Q4 dk T.len (aa (δ 0) aq)) aD) (aH (bp aD)) bE) (aH (bp (Η bG (δ 0) (aV mj (Q4 dk T.len (aa (δ 0) aq)) aD))))),?_⟩;walk_at "s";walk_at "";refine⟨_,.inl d,?_⟩;rw[ag];by_cases c:((e.length:Nat):Int)=0
 .rw[ao c];exact k 0
 .rw[ah c];refine⟨_,.inl d,?_⟩;rw[ag];exact ZI d (Rb (by lia) (by lia)) (k _)
structure UT(H H':Hp)(m:Int)(rs:hU)(r:Road)(j:Nat)(md:Int)(t:Nat)(lw:Addr)(ns:List Nat):Prop where
 sm:γ H H'
 fr:H lw=none
 ls:LS H' lw (Ε::ns.map FS)
 l4:ns.length=4
 b:∀n∈ns,n<10^60
 bad:md<t->¬Good m (rs.set j (ϗ ns))
 og:t<=md->ns=iJ r
section
variable{H g:Hp}{m:Int}{f:hU}{r:Road}{j t:Nat}{a:Int}{d:Addr}{c:List Nat}
theorem UT.skip(st:UT H g m f r j a t d c)(ne:a≠t):UT H g m f r j a (t+1) d c:=⟨st.sm,st.fr,st.ls,st.l4,st.b,λh=>st.bad (by lia),λh=>st.og (by lia)⟩
theorem UT.put(st:UT H g m f r j a t d c){i n:Nat}{k:Int}(s:k=(i+1:Nat))(v:i<4)(u:n<10^60)(e:a=t)(l:c=iJ r->¬Good m (f.set j (ϗ (c.set i n)))){Q:Hp->Prop}(q:∀p,UT H p m f r j a (t+1) d (c.set i n)->Q p):Ul (.ref d) (.int k) (.str (FS n)) g Q:=by
 have l4:=st.l4;subst s;refine tS st.ls (by lia) (by rw[ag,aJ,ag];lia) (q _ ⟨st.sm.put st.fr _,st.fr,?_,by rw[b7];exact l4,λy o=>?_,λ_=>l (st.og (by lia)),λh=>by lia⟩)
 .show upd _ _ _ _=_;rw[aw,eE,bh,List.set_cons_succ,cY,bh,cY]
 .rcases eT o with o|rfl
  .exact st.b y o
  .exact u
end
def wR(T:Txt K I):Sp:=λe H Q _=>E4 λ(a:Addr)(c m:Int)(d:hU)=>e=[.ref a,.int c]/\LS H a (bW m d)/\Good m d/\∀p X b,γ H b->LS b p X->Rl X->Q (.ref p) b
abbrev tp:Stmt:=top 130
theorem D1:ε ["rows","cell","at","words","mode"] ["rows","cell"] (aF tp):=.of
theorem Eh(T:Txt K I)(hq:bO (ψ P w)):Ok P w K I base "_law_no_web" tp ["rows","cell"] 1 (wR T):=λ_ _ D=>by
 refine D.F.Ϙ D1 (by walk_at "v") λς A ak s H vs Q E hr h=>?_;obtain⟨a,c,m,f,rfl,B,g,k⟩:=h;have m1:=g.m1;have ω:=g.ω;have wn:=iY g;have gl:=g.len;refine⟨_,(aA (b5 (Μ di (Q4 dk T.len (aa (δ 0) aq)) aD) (aH (bp (oJ bG (cS (aa (cS (aa bo aq)) (aa (cS (aa bo aq)) aq))) (aV cG (δ 1) aD) (λ_ _=>rfl)))) bE) (aA (Ζ 2 (aV dR aD (aV cG (aV dz (δ 1) aD) (aV mj (Q4 dk T.len (aa (δ 0) aq)) aD)))) (aA (Ζ 3 (eu PySem.F.plainAttrs_str PySem.F.slot_str_split PySem.F.type_str_split qU (Η bG (δ 0) (δ 2)) (aa bo aq))) (aA (Ζ 4 (aV cG (δ 1) aD)) (aA (b5 (Μ di (δ 4) aD) (aH (mW (Η bG (δ 3) aD) (rX (δ 3) aD iy))) bE) (aA (b5 (Μ di (δ 4) aD) (aH (mW (RF iQ T.str (aa (aV cG (aV dz (δ 1) aD) aD) aq)) (rX (δ 3) aD iy))) bE) (aA (b5 (Μ di (δ 4) aD) (aH (mW (RF iQ T.str (aa (aV dR aD (aV cG (aV dz (δ 1) aD) (aV B3 aD aD))) aq)) (rX (δ 3) aD iy))) bE) (aA (b5 (Μ di (δ 4) aD) (aH (mW (RF iQ T.str (aa (aV dR (Q4 dk T.len (aa (δ 0) aq)) (aV cG (aV dz (δ 1) aD) aD)) aq)) (rX (δ 3) aD iy))) bE) (aA (b5 (Μ qk (δ 4) aD) (aH (Ζ 3 (eu PySem.F.plainAttrs_str PySem.F.slot_str_split PySem.F.type_str_split qU (oJ bG (δ 0) (aV dR aD (aV cG (δ 2) (aV mj (Q4 dk T.len (aa (δ 0) aq)) aD))) (λ_ _=>rfl)) (aa bo aq)))) bE) (aA (b5 (PW.pt (yk (Μ qk (δ 4) aD) (vM (Μ di (Q4 dk T.len (aa (δ 0) aq)) aD)))) (aH (Ζ 3 (cS (aa bo (aa bo (aa bo (aa bo (aa bo aq)))))))) bE) (aH (bp (aV gh (aV gh (gc hV (δ 0) gP (gN (δ 2))) (cS (aa (eu PySem.F.plainAttrs_str PySem.F.slot_str_join PySem.F.type_str_join jK bo (aa (δ 3) aq)) aq))) (gc hV (δ 0) (gN (aV dR (δ 2) aD)) gP)))))))))))))),?_⟩;walk_at "s";unfold Xz yP bV;refine cW λN1 h1=>?_;walk_at "";refine⟨_,.inl (ξ.of B),?_⟩;rw[ag];by_cases S:((bW m f).length:Int)=1
 .rw[ao S];refine⟨bL (by simp),λp np=>⟨bL (by simp),λq R=>⟨bL (by simp),λr nr=>⟨by decide,?_⟩⟩⟩⟩;have sp:=γ.new (HO.lst [V.str (Str.ofString "web 0")]) np;have sq:=γ.new (HO.lst [V.str (Str.ofString "web 25")]) R;have X:=γ.new (HO.lst [V.ref p,V.ref q]) nr;rcases(show c%2=0\/c%2=1 by lia)with z|z<;>rw[z]
  .exact Ι aw (fo (by decide) rfl) (k p _ _ (sp.trans (sq.trans X)) (X _ _ (sq _ _ (show LS _ p [Str.ofString "web 0"]from aw))) KI.1)
  .exact Ι aw (fo (by decide) rfl) (k q _ _ (sp.trans (sq.trans X)) (X _ _ (show LS _ q [Str.ofString "web 25"]from aw)) KI.2)
 rw[ah S];refine h1 _ _ (cW λN2 Y=>?_);walk_at "";refine⟨⟨by decide,by decide⟩,_,.inl (ξ.of B),?_⟩;rw[ag];refine⟨by lia,Y _ _ (cW λN3 h3=>?_)⟩;have i0:=b6 (c/6) (show((bW m f).length:Int)-1≠0 by lia);have i1:=cg (c/6) (show 0<((bW m f).length:Int)-1 by lia);obtain⟨j,ej⟩:=dH i0;rw[ej]at i1 ⊢;have C:j<f.length:=by lia
 have hr:f[j]?=some f[j]:=aB C;have ok:=g.ok _ (aO hr);generalize f[j]=r at hr ok;have Zh:∀{i:Nat}{x:Road},f[i]?=some x->∀{d:Hp}{Q':VK}(k:Int),k=(i+1:Nat)->γ H d->(∀lw W,d lw=none->γ d W->LS W lw (Ε::(iJ x).map FS)->Q' (.ref lw) W)->Av K (.ref a) (.int k) d λy d=>Ra K "str" y d/\∃z,y=V.str z/\∃x,V.str (Str.ofString " ")=V.str x/\(x.length==0)=false/\z.length<=60000/\∀l,d l=none->Q' (V.ref l) (upd d l (HO.lst (List.map V.str (Txt.split z x)))):=λ{i x} u {d Q'} k ek t q=>by
  subst ek;have w:=yV g (i:=i+1) (y:=oG x) (by show(f.map oG)[i]?=_;rw[aQ,u];rfl);refine Ι (v:=V.str (oG x)) (t _ _ B) (fo (by lia) (by show((bW m f).map V.str)[i+1]?=_;rw[aQ];show((f.map oG)[i]?).map V.str=_;rw[aQ,u];rfl)) ⟨by simp[Ra],_,rfl,_,rfl,rfl,by lia,λl nl=>q l _ nl (γ.new _ nl) ?_⟩;show upd _ _ _ _=_;rw[aw,show Txt.split (oG x) (Str.ofString " ")=_ from kW rj (iJ x)]
 walk_at "";refine Zh hr (Q':=λv d=>N3 [some (V.ref a),some (V.int c),some (V.int (1+j)),some v,none] d) (1+j) (by lia) (γ.refl _) λlw d nw t L=>h3 _ _ (cW λN4 h4=>?_);clear Y h3;walk_at "";refine⟨by decide,h4 _ _ (cW λN5 h5=>?_)⟩;clear h4;have d0:=b6 c (show(6:Int)≠0 by decide);have d6:=cg c (show(0:Int)<6 by decide);have st:UT H d m f r j (c%6) 0 lw (iJ r):=⟨t,nw,L,rfl,(Cf ok ω).2,λh=>by lia,λ_=>rfl⟩;clear t L nw;have Z:∀(x n:Int),0<n->0<=x%n/\x%n<n:=λx n h=>⟨b6 x (lh h),cg x h⟩;have k5:∀{d:Hp}{lw:Addr}{ns:List Nat},UT H d m f r j (c%6) 1 lw ns->N5 [some (V.ref a),some (V.int c),some (V.int (1+j)),some (V.ref lw),some (V.int (c%6))] d:=λ{d lw ns} st=>by
  refine h5 _ _ (cW λN6 h6=>?_);have k6:∀{d:Hp}{lw:Addr}{ns:List Nat},UT H d m f r j (c%6) 2 lw ns->N6 [some (V.ref a),some (V.int c),some (V.int (1+j)),some (V.ref lw),some (V.int (c%6))] d:=λ{d lw ns} st=>by
   refine h6 _ _ (cW λN7 h7=>?_);have k7:∀{d:Hp}{lw:Addr}{ns:List Nat},UT H d m f r j (c%6) 3 lw ns->N7 [some (V.ref a),some (V.int c),some (V.int (1+j)),some (V.ref lw),some (V.int (c%6))] d:=λ{d lw ns} st=>by
    refine h7 _ _ (cW λN8 h8=>?_);have k8:∀{d:Hp}{lw:Addr}{ns:List Nat},UT H d m f r j (c%6) 4 lw ns->N8 [some (V.ref a),some (V.int c),some (V.int (1+j)),some (V.ref lw),some (V.int (c%6))] d:=λ{d lw ns} st=>by
     refine h8 _ _ (cW λN9 h9=>?_);have k9:∀{d:Hp}{lw:Addr}{ns:List Nat},γ H d->LS d lw (Ε::ns.map FS)->ns.length=4->(∀n∈ns,n<10^60)->(¬(3<c%6/\((bW m f).length:Int)=2)->¬Good m (f.set j (ϗ ns)))->N9 [some (V.ref a),some (V.int c),some (V.int (1+j)),some (V.ref lw),some (V.int (c%6))] d:=λ{d lw ns} t L l4 b bad=>by
      refine h9 _ _ (cW λai ae=>?_);have M:∀{d:Hp}{lw:Addr}{ns:List Nat},γ H d->LS d lw (Ε::ns.map FS)->ns.length=4->(∀n∈ns,n<10^60)->¬Good m (f.set j (ϗ ns))->ai [some (V.ref a),some (V.int c),some (V.int (1+j)),some (V.ref lw),some (V.int (c%6))] d:=λ{d lw ns} t L l4 b bad=>by
       refine ae _ _ ?_;walk_at "";refine q0 (t _ _ B) (by lia) λp W U e2=>⟨by simp[Ra],P4 (U _ _ L) (by decide +kernel) (λx u=>?_) (by rw[ag];lia) ⟨bL (by simp),λq R=>?_⟩⟩
       .obtain⟨n,hn,rfl⟩:=aW.mp u;exact Wd.fs (b n hn)
       .have s3:=γ.new (HO.lst [V.str (Str.join (Str.ofString " ") (Ε::ns.map FS))]) R;refine uu (s3 _ _ e2) (show LS _ q [ό Ε ns]from aw) (by rw[aZ];show _+1<=_;lia) λp2 H4 s4 e4=>vA (s4 _ _ (s3 _ _ (U _ _ (t _ _ B)))) (by lia) λp5 H5 s5 e5=>uu (s5 _ _ e4) e5 (by rw[ap,aZ,bZ];show _+1+_<=_;lia) λp6 H6 s6 e6=>?_;rw[show(1+(j:Int)).toNat=j+1 by lia,show(1+(j:Int)+1).toNat=j+2 by lia]at e6;exact k p6 _ H6 (t.trans (U.trans (s3.trans (s4.trans (s5.trans s6))))) e6 (nws g C l4 b bad)
      walk_at "";by_cases N:3<c%6
      .rw[ao N];refine⟨_,.inl (ξ.of (t _ _ B)),?_⟩;rw[ag];by_cases c2:((bW m f).length:Int)=2
       .rw[ao c2];refine⟨bL (by simp),λq R=>M (ns:=[0,0,2,2]) (t.trans (γ.new _ R)) ?_ rfl (by decide) (tN C λz=>z.ne rfl)⟩;show upd _ _ _ _=_;rw[aw,Qw,Qv]
        rfl
       .rw[ah c2];exact M t L l4 b (bad λz=>c2 z.2)
      .rw[ah N];exact M t L l4 b (bad λz=>N z.1)
     walk_at "";by_cases N:3<c%6
     .rw[ao N];refine⟨_,.inl (ξ.of (st.sm _ _ B)),?_⟩;rw[ag];have e:=Z (1+j) (((bW m f).length:Int)-1) (by lia);obtain⟨i,ei⟩:=dH e.1;rw[ei]at e;have u:f[i]?=some f[i]:=aB (by lia);have J:=g.ok _ (aO u);generalize f[i]=x at u J;rw[ei];refine⟨by lia,Zh u (Q':=λv d=>N9 [some (V.ref a),some (V.int c),some (V.int (1+j)),some v,some (V.int (c%6))] d) _ (by lia) st.sm λl2 W _ U e2=>k9 (st.sm.trans U) e2 rfl (Cf J ω).2 λY=>?_⟩;rw[xJ J];refine Lq C u λz=>Y ⟨N,?_⟩;subst z;rcases(show 1+(i:Int)<((bW m f).length:Int)-1\/1+(i:Int)=((bW m f).length:Int)-1 by lia)with q|q
      .rw[Int.emod_eq_of_lt (by lia) q]at ei
       lia
      .rw[q,Int.emod_self]at ei
       lia
     .rw[ah N];exact k9 st.sm st.ls st.l4 st.b λ_=>st.bad (by lia)
    walk_at "";split
    .rename_i z
     refine⟨_,.inl (ξ.of (st.sm _ _ B)),⟨by decide,by decide⟩,by decide,?_⟩;rw[ag];have e:=Z (c/200) 30 (by decide);obtain⟨v,O⟩:=dH (show 0<=((bW m f).length:Int)+c/200%30 by lia);rw[O,qm];exact⟨(oV (z:=v) (n:=7) (by lia) (by decide)).log,st.put (i:=0) rfl (by decide) (by lia) z (λo=>tN C λq=>by subst o;have q:(v:Int)<m:=q.a1;lia) λH3 G=>k8 G⟩
    .exact k8 (st.skip (by assumption))
   walk_at "";split
   .rename_i z
    refine⟨⟨by decide,by decide⟩,⟨by decide,by decide,by decide⟩,by decide,?_⟩;have e:=Z (c/200) (10^Int.toNat 9) (by decide);rw[show(10:Int)^Int.toNat 9=1000000000 from rfl]at e ⊢;obtain⟨v,O⟩:=dH (show 0<=1000001+c/200%1000000000 by lia);rw[O,qm];exact⟨(oV (z:=v) (n:=40) (by lia) (by decide)).log,st.put (i:=3) rfl (by decide) (by lia) z (λo=>tN C λq=>by subst o;have q:(v:Int)<=1000000:=q.u1;lia) λH3 G=>k7 G⟩
   .exact k7 (st.skip (by assumption))
  walk_at "";split
  .rename_i z
   have e:=Z (c/200) 2 (by decide);obtain⟨v,O⟩:=dH e.1;rw[O]at e;rw[O,qm];exact⟨⟨by decide,by decide⟩,by decide,(oV (z:=v) (n:=2) (by lia) (by decide)).log,st.put (i:=2) rfl (by decide) (by lia) z (λo=>tN C λq=>by subst o;have q:2<=(v:Int):=q.t0;lia) λH3 G=>k6 G⟩
  .exact k6 (st.skip (by assumption))
 walk_at "";split
 .rename_i z
  have a1:=ok.a1;exact Ι st.ls (v:=V.str (FS r.a.toNat)) (fo (by decide) rfl) (st.put (i:=1) rfl (by decide) (by lia) z (λ_=>tN C λq=>q.ne rfl) λH3 G=>k5 G)
 .exact k5 (st.skip (by assumption))
def AG(T:Txt K I):Sp:=λe H Q _=>E4 λ(c o m b:Int)=>e=[.int c,.int o,.int m,.int b]/\0<=m/\m<=1000/\0<b/\b<1000000000000000000/\∀(l:Addr)(a:dm)(d:Hp),H l=none->γ H d->d l=some (.lst (a.map V.int))->(a.length:Int)=m->(∀x∈a,0<=x)->Q (.ref l) d
abbrev uv:Stmt:=top 121
theorem Jx:ε ["cell","mode","many","base","found","rest","k","m"] ["cell","mode","many","base"] (aF uv):=.of
theorem Ax:Υ (aF uv) "range":=.of (by kernel_rfl)
theorem IV(T:Txt K I)(Z:bO (ψ P w)):Ok P w K I base "_law_row" uv ["cell","mode","many","base"] 1 (AG T):=λ_ _ D=>by
 refine D.F.Ϙ Jx (by walk_at "v") λς A u s H X Q E hr h=>?_;obtain⟨c,o,m,b,rfl,Y,W,C,b1,k⟩:=h;refine⟨_,(aA (Ζ 4 (cS aq)) (aA (Ζ 5 (δ 0)) (aA (gH PassesOwn.never rfl (rZ Ax.g T.range (aa (δ 2) aq)) (ϧ 6) (aH (b5 (Μ di (δ 1) aD) (aA (cL (eu PySem.F.plainAttrs_list PySem.F.slot_list_append PySem.F.type_list_append eG (δ 4) (aa (aV cG (δ 5) (δ 3)) aq))) (aH (Ζ 5 (aV Gv (δ 5) (δ 3))))) (aA (Ζ 7 (aV cG (aV oq (aV dR (aV dR (aV cG (δ 0) aD) (aV oq aD (δ 6))) aD) aD) aD)) (aA (Ζ 7 (aV cG (aV oq (aV cG (aV oq (δ 7) (δ 7)) aD) aD) aD)) (aH (cL (eu PySem.F.plainAttrs_list PySem.F.slot_list_append PySem.F.type_list_append eG (δ 4) (aa (aV dz (δ 7) aD) aq))))))))) (aH (bp (δ 4)))))),?_⟩;walk_at "s";walk_at "";refine⟨by decide,λl j=>?_⟩;refine⟨by lia,by lia,?_⟩;refine AL (λi q f=>γ H f/\E4 λ(a:dm)(r:Int)(v t:Option V)=>f l=some (.lst (a.map V.int))/\a.length=i/\(∀x∈a,0<=x)/\q=[some (V.int c),some (V.int o),some (V.int m),some (V.int b),some (V.ref l),some (V.int r),v,t]) ⟨γ.new _ j,[],c,_,_,aw,rfl,(λx n=>absurd n bX),rfl⟩ ?_ ?_
 .rintro i q f N hN hi ⟨s2,a,r,v,t,e2,xl,x0,rfl⟩;have U:(0:Int)+(i:Int)=(i:Int):=by lia
  rw[U];walk_at "";have B:(a.map V.int).length<sizeLine:=eK (by rw[ag];lia);have d:∀y:Int,0<=y->∀x∈a++[y],0<=x:=λy L x n=>by
   rcases aK.mp n with h|h
   .exact x0 x h
   .rw[ax.mp h];exact L
  by_cases z:o=0
  .rw[ao z];refine⟨Rz e2,C,nK e2 B ⟨⟨C,by lia⟩,hN _ _ ⟨s2.put j _,a++[r%b],_,_,_,?_,by rw[ap,xl];rfl,d _ (b6 _ (by lia)),rfl⟩⟩⟩;rw[aw,aE]
   rfl
  .rw[ah z];have M:=b6 c (show(998244353:Int)≠0 by decide);have J:=cg c (show(0:Int)<998244353 by decide);generalize c%998244353=p at M J ⊢;have R:=b6 ((p+7919*(i:Int)+11)*48271) (show(2147483647:Int)≠0 by decide);have S:=cg ((p+7919*(i:Int)+11)*48271) (show(0:Int)<2147483647 by decide);refine⟨by decide,.inl ⟨by decide,by decide⟩,.inr ⟨by decide,by decide⟩,by decide,?_⟩;generalize (p+7919*(i:Int)+11)*48271%2147483647=e at R S ⊢;have h5:=b6 (e*e) (show(2147483629:Int)≠0 by decide);refine⟨.inl ⟨by lia,by lia⟩,by decide,.inr ⟨by decide,by decide⟩,by decide,?_⟩;have G:=b6 (e*e%2147483629*40692) (show(2147483399:Int)≠0 by decide);generalize e*e%2147483629*40692%2147483399=O at G ⊢;refine⟨Rz e2,⟨by decide,by decide⟩,nK e2 B (hN _ _ ⟨s2.put j _,a++[O/7],_,_,_,?_,by rw[ap,xl];rfl,d _ (Int.ediv_nonneg G (by decide)),rfl⟩)⟩;rw[aw,aE]
   rfl
 .rintro q f ⟨s2,a,r,v,t,e2,xl,x0,rfl⟩;exact⟨_,rfl,k l a f j s2 e2 (by lia) x0⟩
theorem zA{c d:Type}{R:c->d->Prop}:∀(n:Nat){b:List c}{a:List d},Paired R b a->Paired R (b.take n) (a.take n)
 | 0,_,_,_=>by rw[eB,eB];exact .nil
 | _+1,_,_,.nil=>.nil
 | n+1,_,_,.cons x xs=>.cons x (zA n xs)
theorem zg{c d:Type}{R:c->d->Prop}:∀(n:Nat){b:List c}{a:List d},Paired R b a->Paired R (b.drop n) (a.drop n)
 | 0,_,_,h=>h
 | _+1,_,_,.nil=>.nil
 | n+1,_,_,.cons x xs=>zg n xs
theorem AX{e f:Type}{R:e->f->Prop}{d:List e}{c:List f}(h:Paired R d c):∀{b:List e}{a:List f},Paired R b a->Paired R (b++d) (a++c)
 | _,_,.nil=>h
 | _,_,.cons x xs=>.cons x (AX h xs)
theorem μ.ins{H:Hp}{a:gy}{b:hU}{q:Addr}{r:Road}(n:Nat)(h:μ H a b)(e:H q=some (.tup (nQ r))):μ H (a.take n++q::a.drop n) (b.take n++r::b.drop n):=AX (R:=λp r=>H p=some (.tup (nQ r))) (.cons e (zg n h)) (zA n h)
theorem Ft{H:Hp}{p:Addr}(o:HO):∀b u,H b=some u->b≠p->upd H p o b=some u:=λb u h n=>by rw[aY n];exact h
def nZ(m s:Int):List Int:=(cM m.toNat).map λv=>(v+s)%m
theorem Dk{m s v:Int}(a:0<=v)(b:v<m):(nZ m s).getD v.toNat 0=(v+s)%m:=by
 unfold nZ;rw[List.getD,aQ,lD (by lia),bJ a]
 rfl
theorem Mh{m s a b:Int}(l:0<=a)(h:a<m)(f:0<=b)(i:b<m)(e:(a+s)%m=(b+s)%m):a=b:=by
 have g:=Int.emod_emod_of_dvd (a+s) (Int.dvd_refl m);have d:(a-b)%m=0:=by
  have:=Int.emod_eq_emod_iff_emod_sub_eq_zero.mp e
  rwa [show a+s-(b+s)=a-b by lia]at this
 obtain⟨k,c⟩:=Int.dvd_of_emod_eq_zero d;have j:0<m:=by lia
 have:k=0:=by
  rcases Int.lt_trichotomy k 0 with z|z|z
  .have:m*k<=m*(-1):=cB (by lia) (by lia)
   lia
  .exact z
  .have:m*1<=m*k:=cB (by lia) (by lia)
   lia
 rw[this]at c
 lia
theorem LR{m s:Int}(i:1<=m):Rv m.toNat (nZ m s) where
 len:=by unfold nZ;rw[ag,dq]
 nd:=by
  unfold nZ;refine List.pairwise_map.mpr ((o7 m.toNat).imp_of_mem λ{a b} ha hb h e=>h ?_);obtain⟨a0,a1⟩:=iZ.mp ha;obtain⟨b0,b1⟩:=iZ.mp hb;exact Mh a0 (by lia) b0 (by lia) e
 all:=λv d f=>by
  unfold nZ;refine aW.mpr ⟨(v-s)%m,iZ.mpr ⟨b6 _ (by lia),?_⟩,?_⟩
  .have:=cg (v-s) (show 0<m by lia)
   lia
  .rw[Int.emod_add_emod,show v-s+s=v by lia,Int.emod_eq_of_lt d (by lia)]
 ϭ:=λv c=>by
  unfold nZ at c;obtain⟨u,_,rfl⟩:=aW.mp c;have f:=b6 (u+s) (show m≠0 by lia);have g:=cg (u+s) (show 0<m by lia)
  lia
theorem On{c:Prop}[Decidable c]{A B:Prop}{P:Int->Prop}(m1 m2:Int)(hB:P m2->B)(hA:P m1->A)(h:∀m,(m=m1\/m=m2)->P m):if c then A else B:=by
 by_cases z:c
 .rw[ao z];exact hA (h _ (.inl rfl))
 .rw[ah z];exact hB (h _ (.inr rfl))
def xS(T:Txt K I):Sp:=λf H Q _=>∃(a:Addr)(e:dm),f=[.ref a]/\ξ K H a (e.map V.int)/\∀(t l:Addr)(m:Int)(c:gy)(d:hU)(b:Hp),H t=none->H l=none->γ H b->b t=some (.tup [.int m,.ref l])->b l=some (.lst (c.map V.ref))->μ b c d->Good m d->Q (.ref t) b
abbrev rF:Stmt:=top 123
theorem Fy:ε ["script","mode","shape","tolls","many","roads","k","hang","one","other","there","back","road"] ["script"] (aF rF):=.of
theorem xH:Υ (aF rF) "range":=.of (by kernel_rfl)
theorem F5(T:Txt K I)(J:bO (ψ P w))(lz:BO P w base T)(ub:Cb P w K I base "_law_row" uv ["cell","mode","many","base"] 1 (AG T))(u6:Cb P w K I base "_law_tolls" uW ["t"] 1 (xL T)):Ok P w K I base "_law_roads" rF ["script"] 2 (xS T):=λ_ _ D=>by
 refine D.F.Ϙ Fy (by walk_at "v") λς A br s H vs Q E hr h=>?_;obtain⟨a,ns,rfl,ha,k⟩:=h;refine⟨_,(aA (Ζ 1 (aV cG (ϛ lz hr J (aa (δ 0) (aa aD aq))) aD)) (aA (Ζ 2 (ϛ ub hr J (aa (aV dz (ϛ lz hr J (aa (δ 0) (aa aD aq))) aD) (aa (δ 1) (aa aD (aa aD aq)))))) (aA (Ζ 3 (ϛ ub hr J (aa (ϛ lz hr J (aa (δ 0) (aa aD aq))) (aa (δ 1) (aa aD (aa (aV oq aD (aV B3 aD aD)) aq)))))) (aA (Ζ 4 (aV dR aD (aV cG (Η bG (δ 2) aD) aD))) (aA (b5 (Μ di (aV cG (aV dz (Η bG (δ 2) aD) aD) aD) aD) (aH (Ζ 4 (aV dR aD (aV cG (aV dz (Η bG (δ 2) aD) aD) aD)))) bE) (aA (Ζ 5 (cS aq)) (aA (gH PassesOwn.never rfl (Dl xH.g T.range (aa aD (aa (δ 4) aq))) (ϧ 6) (aA (Ζ 7 (oJ bG (cS (aa (aV mj (δ 6) aD) (aa aD (aa (aV cG (Η bG (δ 2) (aV dR (δ 6) aD)) (δ 6)) (aa (aV cG (Η bG (δ 2) (aV dR (δ 6) aD)) (δ 6)) aq))))) (aV cG (Η bG (δ 2) aD) aD) (λ_ _=>rfl))) (aA (Ζ 8 (aV cG (aV dR (δ 7) (aV dz (Η bG (δ 2) aD) aD)) (δ 4))) (aA (Ζ 9 (aV cG (aV dR (δ 6) (aV dz (Η bG (δ 2) aD) aD)) (δ 4))) (aA (mW (ϛ u6 hr J (aa (Η bG (δ 3) (δ 6)) aq)) (kU (n:=2) rfl (cK (ϧ 10) (cK (ϧ 11) iT)))) (aA (Ζ 12 (jT (aa (δ 8) (aa (δ 9) (aa (δ 10) (aa (δ 11) aq)))))) (aA (b5 (oQ di (aV cG (aV dz (Η bG (δ 2) (aV dR (δ 6) aD)) aD) aD) aD (jR _)) (aH (Ζ 12 (jT (aa (δ 9) (aa (δ 8) (aa (δ 11) (aa (δ 10) aq))))))) bE) (aH (cL (eu PySem.F.plainAttrs_list kJ PySem.F.type_list_insert Kt (δ 5) (aa (aV cG (aV dz (Η bG (δ 2) (aV dR (δ 6) aD)) aD) (aV dR (Q4 dk T.len (aa (δ 5) aq)) aD)) (aa (δ 12) aq)))))))))))) (aH (bp (jT (aa (δ 4) (aa (δ 5) aq)))))))))))),?_⟩;walk_at "s";have em:∀(x n:Int),0<n->0<=x%n/\x%n<n:=λx n h=>⟨b6 x (lh h),cg x h⟩;have cd:∀x n:Int,0<n->n<1073741824->z9 x n:=λx n h1 h2=>⟨h1,h2⟩;refine cW λN1 h1=>?_;walk_at "";refine⟨a,ns,0,rfl,ha,by decide,λc0=>⟨c0,rfl,by decide,h1 _ _ (cW λN2 h2=>?_)⟩⟩;walk_at "";refine⟨a,ns,0,rfl,ha,by decide,λc1=>⟨c1,rfl,cd _ _ (by decide) (by decide),?_⟩⟩;refine⟨_,_,26,9600,rfl,by decide,by decide,by decide,by decide,λls O H1 n1 s1 e1 ea al=>h2 _ _ (cW λN3 h3=>?_)⟩;walk_at "";refine⟨a,ns,1,rfl,γ.seq s1 ha,by decide,λc2=>⟨⟨by decide,by decide,by decide⟩,.inl ⟨by decide,by decide⟩,?_⟩⟩;refine⟨_,_,24,_,rfl,by decide,by decide,by decide,by decide,λlt ts H2 n2 s2 e2 tl t0=>h3 _ _ (cW λN4 h4=>?_)⟩;walk_at "";have M:=s2 _ _ e1;have Y:=s1.trans s2;have g0:=Rb (xs:=O) (i:=0) (by decide) (by lia);have g1:=Rb (xs:=O) (i:=1) (by decide) (by lia);have p1:0<=O.getD (1:Int).toNat 0:=Ii al _;generalize O.getD (0:Int).toNat 0=U at g0 ⊢;generalize O.getD (1:Int).toNat 0=d at g1 p1 ⊢;refine Ι M g0 ⟨U,rfl,by decide,h4 _ _ (cW λN5 h5=>?_)⟩;walk_at "";refine Ι M g0 ⟨U,rfl,cd _ _ (by decide) (by decide),by decide,?_⟩;have mm:=em U 7 (by decide);have mn:=em (U/70) 17 (by decide);apply On (8+U/70%17) (1+U%7)
 .generalize 1+U%7=m;intro h;exact h
 .exact λh=>Ι M g0 ⟨U,rfl,cd _ _ (by decide) (by decide),by decide,h⟩
 intro m hm;have m1:1<=m:=by lia
 have ω:m<=24:=by lia
 clear hm mm mn;refine h5 _ _ (cW λN6 h6=>?_);walk_at "";refine⟨by decide,λlo X=>h6 _ _ (cW λN7 h7=>?_)⟩;walk_at "";refine⟨1,m,⟨rfl,rfl⟩,⟨by decide,by decide,by lia,by lia⟩,?_⟩;have ZY:H lo=none:=Y.free X;refine B9 (λi σ W=>ZP λ(B:gy)(S:hU)(e:List Row)(v6 v7 v8 v9 o v Va:Option V)=>σ=[some (V.ref a),some (V.int (c0%2)),some (V.ref ls),some (V.ref lt),some (V.int m),some (V.ref lo),v6,v7,v8,v9,o,v,Va]/\γ H2 W/\W lo=some (.lst (B.map V.ref))/\μ W B S/\Rows i e/\VW (nZ m (d/4)) e S) ⟨[],[],[],_,_,_,_,_,_,_,rfl,γ.new _ X,aw,.nil,⟨rfl,λi r h=>by cases h⟩,VW.nil _⟩ ?_ ?_
 .rintro i σ W N BB Ϗ hN hi ⟨B,S,e,v6,v7,v8,v9,o,v,Va,rfl,s3,YY,ro3,R,P⟩;refine Ϗ _ _ ?_;have k0:(1:Int)<=1+(i:Int):=by lia
  have k1:1+(i:Int)<m:=by lia
  generalize hk:(1:Int)+(i:Int)=b at k0 k1 ⊢;have ev:B.length=S.length:=Paired.length ro3;have rl:=R.len;have pl:=P.len;have gk:=Rb (xs:=O) (i:=b+1) (by lia) (by lia);have pk:0<=O.getD (b+1).toNat 0:=Ii al _;generalize O.getD (b+1).toNat 0=f at gk pk;have gt:=Rb (xs:=ts) (i:=b) (by lia) (by lia);generalize ts.getD b.toNat 0=tk at gt;have Z:=s3 _ _ M;have cc:=s3 _ _ e2;have hg:=em f b (by lia);refine cW λM1 bs=>?_;walk_at "";refine Ι Z gk ⟨f,rfl,by lia,Ι Z gk ⟨f,rfl,by lia,bL (by simp),λq1 Zg=>?_⟩⟩;have L:=γ.new (.lst [.int (b-1),.int 0,.int (f%b),.int (f%b)]) Zg;obtain⟨u,bj,u0,u1⟩:∃u:Int,Ϲ [V.int (b-1),V.int 0,V.int (f%b),V.int (f%b)] (d%4)=some (.int u)/\0<=u/\u<b:=by
   rcases(show d%4=0\/d%4=1\/d%4=2\/d%4=3 by lia)with z|z|z|z
   .exact⟨_,by rw[z];rfl,by lia,by lia⟩
   .exact⟨_,by rw[z];rfl,by lia,by lia⟩
   .exact⟨_,by rw[z];rfl,hg.1,hg.2⟩
   .exact⟨_,by rw[z];rfl,hg.1,hg.2⟩
  refine Ι (L _ _ Z) g1 ⟨d,rfl,by decide,Ι aw bj (bs _ _ (cW λM2 cr=>?_))⟩;generalize upd W q1 (.lst [.int (b-1),.int 0,.int (f%b),.int (f%b)])=H4 at L ⊢;have am:=L _ _ Z;walk_at "";refine Ι am g1 ⟨d,rfl,cd _ _ (by decide) (by decide),by lia,cr _ _ (cW λM3 cp=>?_)⟩;walk_at "";refine Ι am g1 ⟨d,rfl,cd _ _ (by decide) (by decide),by lia,cp _ _ (cW λM4 bl=>?_)⟩;walk_at "";refine Ι (L _ _ cc) gt ?_;refine⟨tk,rfl,λq2 G C b2 aC t1 b0 b1=>?_⟩;have s5:=γ.new (.tup [.int G,.int C]) b2;refine⟨q2,rfl,_,Β.of aw,rfl,_,_,rfl,_,_,rfl,rfl,bl _ _ (cW λM5 a8=>?_)⟩;walk_at "";refine⟨bL (by simp),λq3 bf=>a8 _ _ (cW λM6 az=>?_)⟩;walk_at "";have s6:=γ.new (.tup [.int ((u+d/4)%m),.int ((b+d/4)%m),.int G,.int C]) bf;have U8:=L.trans (s5.trans s6);have ak:upd (upd H4 q2 (.tup [.int G,.int C])) q3 (.tup [.int ((u+d/4)%m),.int ((b+d/4)%m),.int G,.int C]) q3=some (.tup [.int ((u+d/4)%m),.int ((b+d/4)%m),.int G,.int C]):=aw;generalize upd (upd H4 q2 (.tup [.int G,.int C])) q3 (.tup [.int ((u+d/4)%m),.int ((b+d/4)%m),.int G,.int C])=H6 at U8 ak ⊢;have ba:=U8 _ _ Z;have lu:=Dk (s:=d/4) u0 (show u<m by lia);have lk:=Dk (s:=d/4) (show 0<=b by lia) k1;have put:∀(H7:Hp)(q:Addr)(l:Row)(v7 v8 v9 o v Va:Option V),γ W H7->l.k=b->VU l->H7 q=some (.tup (nQ (qi (nZ m (d/4)) l)))->Ra K "list" (V.ref lo) H7/\Av K (V.ref ls) (V.int (b+1)) H7 λx H1=>∃i,x=V.int i/\z9 i 48/\∃y,(ξ K H1 lo y\/Β K H1 lo y)/\0<(y.length:Int)+1/\R5 (V.ref lo) [V.int (i/48%((y.length:Int)+1)),V.ref q] H1 λ_ H2=>N [some (V.ref a),some (V.int (c0%2)),some (V.ref ls),some (V.ref lt),some (V.int m),some (V.ref lo),some (V.int b),v7,v8,v9,o,v,Va] H2:=by
   intro H7 q l v7 v8 v9 o v Va s7 rk bt J;have Zi:=s7 _ _ YY;have sp:=em (f/48) ((B.length:Int)+1) (by lia);refine⟨Rz Zi,Ι (s7 _ _ Z) gk ⟨f,rfl,cd _ _ (by decide) (by decide),_,.inl (ξ.of Zi),by lia,?_⟩⟩;rw[ag];refine QV Zi sp.1 (by rw[ag];lia) (eK (by rw[ag];lia)) (hN _ _ ⟨B.take (f/48%((B.length:Int)+1)).toNat++q::B.drop (f/48%((B.length:Int)+1)).toNat,S.take (f/48%((B.length:Int)+1)).toNat++qi (nZ m (d/4)) l::S.drop (f/48%((B.length:Int)+1)).toNat,e++[l],_,_,_,_,_,_,_,rfl,?_,?_,?_,?_,P.step l _⟩)
   .exact(s3.trans s7).put X _
   .rw[aw,aE,bh,List.map_take,mQ]
   .exact μ.ins _ (Paired.imp' (λp r h=>Ft _ _ _ h (dX h Zi (by intro z;cases z))) (μ.same s7 ro3)) (Ft _ _ _ J (dX J Zi (by intro z;cases z)))
   .refine⟨by rw[ap,rl];rfl,λj r hj=>?_⟩;by_cases U3:j<e.length
    .rw[cD U3]at hj;exact R.ok j r hj
    .have hj2:j=e.length:=by
      have:=(ay.mp hj).1;rw[ap]at this;simp at this
      lia
     rw[hj2,cA (aN _),eW]at hj;cases hj;exact⟨by lia,bt⟩
  refine Ι ba gk ⟨f,rfl,cd _ _ (by decide) (by decide),by decide,?_⟩;by_cases c:f/24%2=1
  .rw[ao c];refine⟨bL (by simp),λq4 co=>az _ _ ?_⟩;walk_at "";refine put _ q4 ⟨b,u,C,G,0,0⟩ _ _ _ _ _ _ (U8.trans (γ.new _ co)) rfl ⟨u0,u1,b0,b1,aC,t1,dU _,by show(0:Int)<b;lia⟩ ?_;rw[aw];unfold qi;rw[ah (show ¬(0:Int)=1 by decide)];show _=some (HO.tup [V.int ((nZ m (d/4)).getD b.toNat 0),V.int ((nZ m (d/4)).getD u.toNat 0),V.int C,V.int G]);rw[lu,lk]
  .rw[ah c];refine az _ _ ?_;walk_at "";refine put _ q3 ⟨b,u,G,C,1,0⟩ _ _ _ _ _ _ U8 rfl ⟨u0,u1,aC,t1,b0,b1,dU _,by show(0:Int)<b;lia⟩ ?_;rw[ak];unfold qi;rw[ao rfl];show _=some (HO.tup [V.int ((nZ m (d/4)).getD u.toNat 0),V.int ((nZ m (d/4)).getD b.toNat 0),V.int G,V.int C]);rw[lu,lk]
 .rintro BB σ W Ϗ ⟨B,S,e,v6,v7,v8,v9,o,v,Va,rfl,s3,YY,ro3,R,P⟩;refine Ϗ _ _ ?_;have g:=OS (n:=m.toNat) (by lia) (by lia) (LR m1) (by rw[show m.toNat-1=(m-1).toNat by lia];exact R) P;rw[bJ (by lia)]at g;walk_at "";refine h7 _ _ ?_;walk_at "";refine⟨bL (by simp),λt nt=>?_⟩;have L:=γ.new (.tup [.int m,.ref lo]) nt;exact k t lo m B S _ ((Y.trans s3).free nt) ZY (Y.trans (s3.trans L)) aw (L _ _ YY) (μ.same L ro3) g
def zi(T:Txt K I):Sp:=λf H Q _=>E5 λ(l:Addr)(c m:Int)(e:gy)(d:hU)=>f=[.int c,.int m,.ref l]/\H l=some (.lst (e.map V.ref))/\μ H e d/\Good m d/\∀q b a (D:Dd),D.Ok m d->(∀y∈D.ns,0<=y/\y<10^60)->H b=none->γ H a->a q=some (.tup [.str D.wd,.ref b])->a b=some (.lst (D.ns.map V.int))->Q (.ref q) a
abbrev qp:Stmt:=top 124
theorem zE:ε ["cell","many","roads","place","amount","one","other","there","back"] ["cell","many","roads"] (aF qp):=.of
theorem Ca:Sw (aF qp) "one":=.of (by kernel_rfl)
theorem y9:Sw (aF qp) "other":=.of (by kernel_rfl)
theorem G3(T:Txt K I)(hq:bO (ψ P w)):Ok P w K I base "_law_deed" qp ["cell","many","roads"] 1 (zi T):=λ_ _ D=>by
 refine D.F.Ϙ zE (by walk_at "v") λς A J s H vs Q E hr h=>?_;obtain⟨l,c,m,C,rs,rfl,N,ro,g,k⟩:=h;have m1:=g.m1;have ω:=g.ω;have Z:0<m:=by lia
 have f:∀(x n:Int),0<n->0<=x%n/\x%n<n:=λx n h=>⟨b6 x (lh h),cg x h⟩;refine⟨_,(aA (Ζ 3 (aV cG (aV dz (δ 0) aD) (δ 1))) (aA (Ζ 4 (aV cG (aV dz (δ 0) aD) aD)) (aA (b5 (Μ di (aV cG (aV dz (δ 0) aD) aD) aD) (aH (Ζ 4 (aV cG (aV dz (δ 0) aD) (aV B3 aD aD)))) bE) (aA (b5 (Μ di (aV cG (aV dz (δ 0) aD) aD) aD) (aH (Ζ 4 (aV mj (aV mj (aV B3 aD aD) aD) (aV cG (aV dz (δ 0) aD) aD)))) bE) (aA (b5 (PW.pt (yk (Μ di (aV cG (δ 0) aD) aD) (vM (Μ qk (Q4 dk T.len (aa (δ 2) aq)) aD)))) (aA (mW (Η bG (δ 2) (aV cG (aV dz (δ 0) aD) (Q4 dk T.len (aa (δ 2) aq)))) (kU (n:=4) rfl (cK (ϧ 5) (cK (ϧ 6) (cK (ϧ 7) (cK (ϧ 8) iT)))))) (aA (b5 (Μ di (aV cG (aV dz (δ 0) aD) aD) aD) (aH (Ou (i:=5) (j:=6) rfl zE.nd rfl rfl (by decide) Ca.l y9.l (aa (δ 6) (aa (δ 5) aq)) (by kernel_rfl))) bE) (aH (bp (jT (aa bo (aa (cS (aa (δ 5) (aa (δ 6) (aa (aV dR aD (aV cG (aV dz (δ 0) aD) aD)) aq)))) aq))))))) bE) (aH (bp (jT (aa (oJ bG (cS (aa bo (aa bo (aa bo (aa bo (aa bo aq)))))) (aV cG (δ 0) aD) (λ_ _=>rfl)) (aa (cS (aa (δ 3) (aa (δ 4) aq))) aq)))))))))),?_⟩;walk_at "s";refine cW λN1 h1=>?_;walk_at "";refine⟨⟨by decide,by decide⟩,Z,h1 _ _ (cW λN2 h2=>?_)⟩;have q:=f (c/5) m Z;generalize c/5%m=v at q ⊢;walk_at "";refine⟨⟨by decide,by decide⟩,by decide,h2 _ _ (cW λN3 U=>?_)⟩;have d:=f (c/120) 13 (by decide);replace d:0<=c/120%13/\c/120%13<10^60:=by lia
 generalize c/120%13=n at d ⊢;have O:∀n,0<=n/\n<10^60->N3 [some (V.int c),some (V.int m),some (V.ref l),some (V.int v),some (V.int n),none,none,none,none] H:=λn d=>by
  refine U _ _ (cW λN4 h4=>?_);have k4:∀n,0<=n/\n<10^60->N4 [some (V.int c),some (V.int m),some (V.ref l),some (V.int v),some (V.int n),none,none,none,none] H:=λn d=>by
   refine h4 _ _ (cW λN5 S=>?_);have e:N5 [some (V.int c),some (V.int m),some (V.ref l),some (V.int v),some (V.int n),none,none,none,none] H:=by
    refine S _ _ ?_;walk_at "";refine⟨bL (by simp),λq1 n1=>⟨by decide,?_⟩⟩;have B:=γ.new (.lst [V.str "put",V.str "put",V.str "want",V.str "put",V.str "back"]) n1;have bd:∀y∈[v,n],0<=y/\y<10^60:=λy r=>by
     simp only[aG,bX,or_false]at r;rcases r with rfl|rfl<;>lia
    obtain⟨D,hD,ok,en⟩:∃D:Dd,Ϲ [V.str "put",V.str "put",V.str "want",V.str "put",V.str "back"] (c%5)=some (.str D.wd)/\D.Ok m rs/\D.ns=[v,n]:=by
     have S:=f c 5 (by decide);rcases(show c%5=0\/c%5=1\/c%5=2\/c%5=3\/c%5=4 by lia)with z|z|z|z|z<;>rw[z]
     .exact⟨.put v n,rfl,⟨q,d.1⟩,rfl⟩
     .exact⟨.put v n,rfl,⟨q,d.1⟩,rfl⟩
     .exact⟨.want v n,rfl,⟨q,d.1⟩,rfl⟩
     .exact⟨.put v n,rfl,⟨q,d.1⟩,rfl⟩
     .exact⟨.back v n,rfl,trivial,rfl⟩
    refine Ι aw hD ⟨bL (by simp),λq2 n2=>⟨bL (by simp),λq3 n3=>?_⟩⟩;have u:=B.trans (γ.new (.lst [V.int v,V.int n]) n2);have s3:=γ.new (.tup [V.str D.wd,V.ref q2]) n3;refine k q3 q2 _ D ok (by rw[en];exact bd) (B.free n2) (u.trans s3) aw ?_;rw[en];exact s3 _ _ aw
   walk_at "";refine⟨by decide,?_⟩;by_cases Y:c%5=3
   .rw[ao Y];refine⟨_,.inl (ξ.of N),?_⟩;rw[ag];by_cases G:(0:Int)<C.length
    .rw[ao G];refine⟨⟨by decide,by decide⟩,_,.inl (ξ.of N),?_⟩;rw[ag];have jr:=f (c/5) (C.length:Int) G;refine⟨G,?_⟩;generalize c/5%(C.length:Int)=j at jr ⊢;obtain⟨p,X⟩:∃p,C[j.toNat]?=some p:=⟨_,aB (by lia)⟩;obtain⟨p',x,L,ba,hx,ex⟩:=ro.get (i:=j.toNat) (x:=V.ref p) (by rw[aQ,X];rfl);injection L with L
     subst L;have xm:=aO hx;refine Ι (v:=V.ref p) N (fo jr.1 (by rw[aQ,X];rfl)) ⟨p,rfl,_,Β.of ex,rfl,_,_,rfl,_,_,rfl,_,_,rfl,_,_,rfl,rfl,⟨by decide,by decide⟩,by decide,?_⟩;have n3:=f (c/240) 3 (by decide);have t:∀a b,Ta rs a b->∀p,H p=none->[V.str "step",V.ref p].length<=sizeLine/\∀o,upd H p (.lst [V.int a,V.int b,V.int (1+c/240%3)]) o=none->Q (V.ref o) (upd (upd H p (.lst [V.int a,V.int b,V.int (1+c/240%3)])) o (.tup [V.str "step",V.ref p])):=λa b R p np=>⟨bL (by simp),λp1 M=>by
      have B:=γ.new (.lst [V.int a,V.int b,V.int (1+c/240%3)]) np;have u:=γ.new (.tup [V.str "step",V.ref p]) M;exact k p1 p _ (.step a b (1+c/240%3)) ⟨R,by lia,by lia⟩ (λy r=>by
       obtain⟨ar,br,_⟩:=g.Vs R;simp only[Dd.ns,aG,bX,or_false]at r;rcases r with rfl|rfl|rfl<;>lia) np (B.trans u) aw (u _ _ aw)⟩
     by_cases W:c/120%2=1
     .rw[ao W];exact⟨_,_,⟨rfl,rfl⟩,⟨by decide,by decide⟩,by decide,bL (by simp),t _ _ ⟨x,xm,.inr ⟨rfl,rfl⟩⟩⟩
     .rw[ah W];exact⟨⟨by decide,by decide⟩,by decide,bL (by simp),t _ _ ⟨x,xm,.inl ⟨rfl,rfl⟩⟩⟩
    .rw[ah G];exact e
   .rw[ah Y];exact e
  walk_at "";refine⟨⟨by decide,by decide⟩,by decide,?_⟩;split
  .have U:=f (c/10920) 3 (by decide);have:(2:Int)<=10^Int.toNat 60-1:=(by decide);exact⟨⟨by decide,by decide,by decide⟩,⟨by decide,by decide⟩,by decide,k4 _ (by rw[show(10:Int)^Int.toNat 60=10^60 from rfl];lia)⟩
  .exact k4 n d
 walk_at "";refine⟨⟨by decide,by decide⟩,by decide,?_⟩;split
 .exact⟨⟨by decide,by decide⟩,⟨by decide,by decide,by decide⟩,p60,O _ (f _ _ p60)⟩
 .exact O n d
def xE(T:Txt K I):Sp:=λe H Q _=>E3 λ(a:Addr)(c:Bool)(b:dm)=>e=[.ref a]/\Ux c H a (b.map V.int)/\b.length<=100/\(∀z∈b,Bt z)/\∀d,γ H d->Q (.str (Ug b)) d
abbrev uO:Stmt:=top 125
theorem EJ:ε ["numbers"] ["numbers"] (aF uO):=.of
theorem Gk(T:Txt K I)(r:bO (ψ P w)):Ok P w K I base "_law_words" uO ["numbers"] 1 (xE T):=λ_ _ D=>by
 refine D.F.Ϙ EJ (by walk_at "v") λt A j s H q Q E y h=>?_;obtain⟨a,c,f,rfl,m,o,nb,k⟩:=h;refine⟨_,(aH (bp (eu PySem.F.plainAttrs_str PySem.F.slot_str_join PySem.F.type_str_join jK bo (aa (jI rfl (mH (Nc:=["number"]) 1 (by decide +kernel) (by decide +kernel) rfl (by decide +kernel) rfl) (yw c (δ 0)) (λ_ _ _ _=>(fq (i:=0) (show(["number"]:hO).Nodup from by decide +kernel) rfl (Or.inl rfl))) (λ_ _ _ _=>iX) (λ_ _ _ _=>(uh iQ (by rfl) T.str Gs (aa (pv 0) aq)))) aq)))),?_⟩;walk_at "s";walk_at "";refine⟨by simp[Ra],⟨_,m.sq⟩,λp l=>?_⟩;refine lM (K:=K) (xs:=f.map V.int) (λi d e b=>γ H b/\b p=some (.lst d)/\d=((f.take i).map tI).map V.str/\∃v,e=[v]) ⟨γ.new _ l,aw,rfl,_,rfl⟩ (λi d e b _ ⟨z,_⟩=>γ.ϳ z m.sq) ?_ ?_
 .rintro i x d e b N hN hi ⟨s2,h2,rfl,v,rfl⟩;obtain⟨n,g,rfl⟩:=List.ν hi;have u:i<f.length:=(ay.mp g).1;walk_at "";refine⟨(nb n (aO g)).log,h2,eK (by rw[ag,ag,aZ];lia),hN _ _ _ ⟨s2.put l _,aw,?_,_,rfl⟩⟩;rw[bq,g,aE,aE]
  rfl
 .rintro d e b ⟨s2,h2,rfl,v,rfl⟩;rw[ag,bQ]at h2;exact⟨_,p,_,rfl,rfl,ξ.of h2,Kj nb o,k _ s2⟩
def wS(T:Txt K I):Sp:=λe H Q _=>E5 λ(c m:Int)(l:Addr)(d:gy)(a:hU)=>e=[.int c,.int m,.ref l]/\H l=some (.lst (d.map V.ref))/\μ H d a/\Good m a/\∀z b,γ H b->ϥ m a z->Q (.str z) b
abbrev tX:Stmt:=top 128
theorem D3:ε ["cell","many","roads","deed","numbers","place","asks"] ["cell","many","roads"] (aF tX):=.of
theorem DZ(T:Txt K I)(t:bO (ψ P w))(N:Cb P w K I base "_law_deed" qp ["cell","many","roads"] 1 (zi T))(vc:Cb P w K I base "_law_words" uO ["numbers"] 1 (xE T)):Ok P w K I base "_law_row_of" tX ["cell","many","roads"] 2 (wS T):=λ_ _ D=>by
 refine D.F.Ϙ D3 (by walk_at "v") λς A o s H vs Q E x h=>?_;obtain⟨c,m,l,M,rs,rfl,el,ro,g,k⟩:=h;have m1:=g.m1;have ω:=g.ω;refine⟨_,(aA (b5 (Μ di (aV cG (δ 0) aD) aD) (aA (mW (ϛ N x t (aa (aV dz (δ 0) aD) (aa (δ 1) (aa (δ 2) aq)))) (kU (n:=2) rfl (cK (ϧ 3) (cK (ϧ 4) iT)))) (aA (b5 (Μ di (δ 3) bo) (aH (bp bo)) bE) (aH (bp (aV fZ (aV fZ (δ 3) bo) (ϛ vc x t (aa (δ 4) aq))))))) bE) (aA (Ζ 5 (RF iQ T.str (aa (aV cG (aV dz (δ 0) aD) (aV dR (δ 1) aD)) aq))) (aA (Ζ 6 (cS (aa bo (aa bo (aa (aV fZ bo (δ 5)) (aa (aV fZ bo (δ 5)) (aa (aV fZ bo (δ 5)) (aa bo (aa bo (aa bo (aa bo aq))))))))))) (aH (bp (oJ bG (aV gh (δ 6) (cS (aa bo (aa (aV fZ bo (δ 5)) aq)))) (aV cG (aV dz (δ 0) aD) aD) (λ_ _=>rfl))))))),?_⟩;walk_at "s";refine cW λN1 R=>?_;walk_at "";refine⟨by decide,?_⟩;by_cases z:c%3=0
 .rw[ao z];refine⟨⟨by decide,by decide⟩,l,_,m,M,rs,rfl,el,ro,g,λq b S D J i nb p eq Z=>⟨q,rfl,_,Β.of eq,rfl,_,_,rfl,_,_,rfl,rfl,?_⟩⟩;refine⟨rfl,?_⟩;by_cases u:∃v n,D=.back v n
  .obtain⟨v,n,rfl⟩:=u;rw[ao (show V.str (Dd.back v n).wd=V.str (Str.ofString "back")from rfl)];refine k _ S p ?_;rw[<-sM (Str.ofString "back")];exact MQ
  .have nbk:∀v n,D≠.back v n:=λv n z=>u ⟨v,n,z⟩;rw[ah (OO nbk)];have l3:D.ns.length<=3/\D.ns≠[]:=(by cases D<;>simp[Dd.ns]);have r:∀y∈D.ns,Bt y:=λy f=>oV (n:=200) (by have:=i y f;lia) (by decide);have wl:=yJ r;have dl:D.wd.length<=20:=(by cases D<;>exact Da _);have l1:(Str.ofString " ").length=1:=rfl;refine⟨_,rfl,_,rfl,bL (by lia),b,true,D.ns,rfl,Z,by lia,r,λH2 W=>⟨_,rfl,_,rfl,bL (by rw[qQ];lia),?_⟩⟩;rw[JU l3.2 λy f=>(i y f).1];exact k _ H2 (p.trans W) (Oi g J i nbk)
 .rw[ah z];refine R _ _ (cW λN2 L=>?_);walk_at "";have G:=b6 (c/60) (show m+1≠0 by lia);have v1:=cg (c/60) (show 0<m+1 by lia);obtain⟨v,j⟩:=dH G;rw[j]at v1;refine⟨⟨by decide,by decide⟩,by lia,by rw[j];exact(oV (z:=v) (n:=5) (by lia) (by decide)).log,L _ _ (cW λN3 U=>?_)⟩;rw[j,qm];have B:v<10^60:=by lia
  have as:=Og g B;have e:=fsL B;walk_at "";refine⟨_,rfl,_,rfl,XH (Da "most ") e,_,rfl,_,rfl,XH (Da "bring ") e,_,rfl,_,rfl,XH (Da "stands ") e,bL (by simp),λa X=>U _ _ ?_⟩;walk_at "";refine⟨_,rfl,_,rfl,XH (Da "put ") e,bL (by simp),λb nb=>?_⟩;refine ML (γ.new _ nb _ _ aw) aw (bL (by simp)) λd O=>⟨⟨by decide,by decide⟩,by decide,?_⟩;have Y:=b6 (c/3) (show(11:Int)≠0 by decide);have i1:=cg (c/3) (show(0:Int)<11 by decide);obtain⟨z,C⟩:∃z,([Str.ofString "laying",Str.ofString "wish",Str.ofString "most " ++ FS v,Str.ofString "bring " ++ FS v,Str.ofString "stands " ++ FS v,Str.ofString "meet",Str.ofString "lay",Str.ofString "",Str.ofString "back 1",Str.ofString "always",Str.ofString "put " ++ FS v]:hO)[(c/3%11).toNat]?=some z:=⟨_,aB (show(c/3%11).toNat<11 by lia)⟩;refine Ι (v:=V.str z) aw (fo Y ?_) (k z _ (((γ.new _ X).trans (γ.new _ nb)).trans (γ.new _ O)) (as z (aO C)));have:=congrArg (Option.map V.str) C;rw[<-aQ]at this;exact this
def wT(T:Txt K I):Sp:=λe H Q _=>E4 λ(a:Addr)(c m:Int)(d:hU)=>e=[.ref a,.int c]/\LS H a (bW m d)/\Good m d/\∀p X b,γ H b->LS b p X->Rl X->Q (.ref p) b
abbrev tH:Stmt:=top 129
theorem Em:ε ["rows","cell","at","mode"] ["rows","cell"] (aF tH):=.of
theorem D2(T:Txt K I)(hq:bO (ψ P w)):Ok P w K I base "_law_spoilt" tH ["rows","cell"] 1 (wT T):=λ_ _ D=>by
 refine D.F.Ϙ Em (by walk_at "v") λς A Y s H vs Q E hr h=>?_;obtain⟨a,c,m,j,rfl,e,g,k⟩:=h;have m1:=g.m1;have ω:=g.ω;have wn:=iY g;refine⟨_,(aA (Ζ 2 (aV cG (aV dz (δ 1) aD) (Q4 dk T.len (aa (δ 0) aq)))) (aA (Ζ 3 (aV cG (δ 1) aD)) (aA (b5 (Μ di (δ 3) aD) (aH (bp (aV gh (gc hV (δ 0) gP (gN (δ 2))) (gc hV (δ 0) (gN (aV dR (δ 2) aD)) gP)))) bE) (aA (b5 (Μ di (δ 3) aD) (aH (bp (aV gh (gc hV (δ 0) gP (gN (aV dR (δ 2) aD))) (gc hV (δ 0) (gN (δ 2)) gP)))) bE) (aA (b5 (Μ di (δ 3) aD) (aH (bp (aV gh (aV gh (gc hV (δ 0) gP (gN (δ 2))) (cS (aa (aV fZ (Η bG (δ 0) (δ 2)) bo) aq))) (gc hV (δ 0) (gN (aV dR (δ 2) aD)) gP)))) bE) (aA (b5 (Μ di (δ 3) aD) (aH (bp (aV gh (aV gh (gc hV (δ 0) gP (gN (δ 2))) (cS (aa (aV fZ (Η bG (δ 0) (δ 2)) bo) aq))) (gc hV (δ 0) (gN (aV dR (δ 2) aD)) gP)))) bE) (aA (b5 (Μ di (δ 3) aD) (aH (bp (aV gh (aV gh (gc hV (δ 0) gP (gN (δ 2))) (cS (aa bo (aa (Η bG (δ 0) (δ 2)) aq)))) (gc hV (δ 0) (gN (aV dR (δ 2) aD)) gP)))) bE) (aA (b5 (Μ di (δ 3) aD) (aH (bp (aV gh (cS (aa (aV fZ bo (gc P8 (Η bG (δ 0) aD) (gN aD) gP)) aq)) (gc hV (δ 0) (gN aD) gP)))) bE) (aA (b5 (Μ di (δ 3) aD) (aH (bp (aV gh (cS (aa (aV fZ (Η bG (δ 0) aD) bo) aq)) (gc hV (δ 0) (gN aD) gP)))) bE) (aH (bp (aV gh (δ 0) (cS (aa bo aq)))))))))))))),?_⟩;walk_at "s";unfold Xz yP bV;refine cW λN1 h1=>?_;walk_at "";refine⟨⟨by decide,by decide⟩,_,.inl (ξ.of e),?_⟩;rw[ag];refine⟨by lia,h1 _ _ (cW λN2 U=>?_)⟩;have i0:=b6 (c/8) (show((bW m j).length:Int)≠0 by lia);have i1:=cg (c/8) (show 0<((bW m j).length:Int) by lia);obtain⟨i,ei⟩:=dH i0;rw[ei]at i1 ⊢;have X:i<(bW m j).length:=by lia
 have L:(bW m j)[i]?=some (bW m j)[i]:=aB X;generalize (bW m j)[i]=y at L;have yl:=(yV g L).2;have v:Ϲ ((bW m j).map V.str) (i:Int)=some (.str y):=fo (by lia) (by rw[aQ,eE,L];rfl);clear h1;walk_at "";refine⟨by decide,U _ _ ?_⟩;have md:=b6 c (show(8:Int)≠0 by decide);walk_at "";have W:((i:Int)+1).toNat=i+1:=by lia
 have o:∀{b:Hp}{x y:Addr}{A B:hO},γ H b->LS b x A->LS b y B->A.length+B.length<=100->Rl (A++B)->Rj (.ref x) (.ref y) b Q:=λd f r l G=>uu f r l λq Z M O=>k q _ Z (d.trans M) O G;have R:∀{b:Hp}{x:Addr}{zs:hO},γ H b->LS b x ((bW m j).take i++zs)->zs.length<=2->Rl ((bW m j).take i++zs++(bW m j).drop (i+1))->Co K (.ref a) (some ((i:Int)+1)) none b λy t=>Rj (.ref x) y t Q:=λ{b x zs} d f l G=>vA (d _ _ e) (by lia) λp t n r=>by
  rw[W]at r;exact o (d.trans n) (n _ _ f) r (by rw[ap,aZ,bZ];lia) G
 have u:∀{b:Hp}{x:Addr}{zs:hO},γ H b->LS b x ((bW m j).take i)->zs.length<=2->Rl ((bW m j).take i++zs++(bW m j).drop (i+1))->∀p,b p=none->Rj (.ref x) (.ref p) (upd b p (.lst (zs.map V.str))) λx b=>Co K (.ref a) (some ((i:Int)+1)) none b λy t=>Rj x y t Q:=λ{b x zs} d f l G p J=>by
  have n:=γ.new (HO.lst (zs.map V.str)) J;exact uu (n _ _ f) aw (by rw[aZ];lia) λq Z M O=>R (d.trans (n.trans M)) O l G
 have N:∀{z:Str},Rl ([z]++(bW m j).drop 1)->∀p,H p=none->Co K (.ref a) (some 1) none (upd H p (.lst [V.str z])) λy t=>Rj (.ref p) y t Q:=λ{z} G p J=>by
  have n:=γ.new (HO.lst [V.str z]) J;exact vA (n _ _ e) (by decide) λq Z M O=>o (n.trans M) (M _ _ (show LS _ p [z]from aw)) O (by rw[bZ];show 1+_<=_;lia) G
 have h0:Ϲ ((bW m j).map V.str) 0=some (.str (ό Τ [m.toNat])):=fo (by decide) rfl;have S:=yV g (i:=0) rfl;have C:∀{y:Str}{s:String},y.length<=305->decide ((Str.ofString s).length<=20)=true->y.length+(Str.ofString s).length<=sizeLine:=λh U=>XH h (bn U);split
 .exact q0 e (by lia) λp b d f=>vA (d _ _ e) (by lia) λq t n r=>by
   rw[W]at r;exact o (d.trans n) (n _ _ f) r (by rw[aZ,bZ];lia) (QR g X)
 split
 .exact q0 e (by lia) λp b d f=>vA (d _ _ e) (by lia) λq t n r=>by
   rw[W]at f;exact o (d.trans n) (n _ _ f) r (by rw[aZ,bZ];lia) (QT g X)
 split
 .exact q0 e (by lia) λp b d f=>Ι (d _ _ e) v ⟨_,rfl,_,rfl,C yl (by decide),bL (by simp),u d f (eO rfl) (QJ g L)⟩
 split
 .exact q0 e (by lia) λp b d f=>Ι (d _ _ e) v ⟨_,rfl,_,rfl,C yl (by decide),bL (by simp),u d f (eO rfl) (Qu g L)⟩
 split
 .exact q0 e (by lia) λp b d f=>Ι (d _ _ e) v ⟨bL (by simp),u (zs:=[Str.ofString "",y]) d f (eO rfl) (QS g L)⟩
 split
 .have sl:=Txt.slice_le (ό Τ [m.toNat]) (some 3) none;exact Ι e h0 ⟨_,rfl,bL (by lia),_,rfl,_,rfl,XH (Da "Web") (aR sl S.2),bL (by simp),N (QU g ⟨S.1.sub Kx,aR sl S.2⟩)⟩
 split
 .exact Ι e h0 ⟨_,rfl,_,rfl,C S.2 (by decide),bL (by simp),N (Qx g)⟩
 .exact⟨bL (by simp),λp J=>o (γ.new _ J) (γ.new _ J _ _ e) (show LS _ p [Str.ofString "road 0 0 2 2"]from aw) (by show _+1<=_;lia) (QX g)⟩
def ue(T:Txt K I):Sp:=λd H Q _=>E4 λ(l:Addr)(m:Int)(c:gy)(b:hU)=>d=[.int m,.ref l]/\H l=some (.lst (c.map V.ref))/\μ H c b/\Good m b/\∀p a,H p=none->γ H a->LS a p (bW m b)->Q (.ref p) a
abbrev qN:Stmt:=top 126
theorem Bp:ε ["many","roads","rows","road"] ["many","roads"] (aF qN):=.of
theorem BC(T:Txt K I)(hq:bO (ψ P w)):Ok P w K I base "_law_web_rows" qN ["many","roads"] 1 (ue T):=λ_ _ D=>by
 refine D.F.Ϙ Bp (by walk_at "v") λς A M s H vs Q E hr h=>?_;obtain⟨l,m,U,J,rfl,el,Z,g,k⟩:=h;have m1:=g.m1;have ω:=g.ω;have ak:=g.len;have e:U.length=J.length:=Paired.length Z;refine⟨_,(aA (Ζ 2 (cS (aa (aV fZ bo (RF iQ T.str (aa (δ 0) aq))) aq))) (aA (gH PassesOwn.never rfl (ie (δ 1)) (ϧ 3) (aH (cL (eu PySem.F.plainAttrs_list PySem.F.slot_list_append PySem.F.type_list_append eG (δ 2) (aa (aV fZ bo (eu PySem.F.plainAttrs_str PySem.F.slot_str_join PySem.F.type_str_join jK bo (aa (jI rfl (mH (Nc:=["number"]) 1 (by decide +kernel) (by decide +kernel) rfl (by decide +kernel) rfl) (vk (δ 3)) (λ_ _ _ _=>(fq (i:=0) (show(["number"]:hO).Nodup from by decide +kernel) rfl (Or.inl rfl))) (λ_ _ _ _=>iX) (λ_ _ _ _=>(uh iQ (by rfl) T.str Gs (aa (pv 0) aq)))) aq))) aq))))) (aH (bp (δ 2))))),?_⟩;walk_at "s";refine cW λN2 h2=>?_;walk_at "";have R:=oV (z:=m) (n:=5) (by lia) (by decide);have fl:=ve R;have em:=tU m.toNat;rw[bJ (show 0<=m by lia)]at em;refine⟨R.log,_,rfl,_,rfl,bL (by rw[show(Str.ofString "web ").length=4 from rfl];show 4+(tI m).length<=_;lia),bL (by simp),λq t=>h2 _ _ (cW λN3 h3=>?_)⟩;rw[show Str.ofString (toString m)=FS m.toNat from em,Cp];have G:=γ.new (HO.lst [V.str (ό Τ [m.toNat])]) t;have W:upd H q (HO.lst [V.str (ό Τ [m.toNat])]) q=some (.lst ((ό Τ [m.toNat]::([]:hU).map oG).map V.str)):=aw;generalize upd H q (HO.lst [V.str (ό Τ [m.toNat])])=H3 at G W ⊢;walk_at "";refine⟨⟨_,ξ.of (G _ _ el)⟩,?_⟩;refine jC (K:=K) (xs:=U.map V.ref) (λi b d=>γ H d/\d q=some (.lst ((ό Τ [m.toNat]::(J.take i).map oG).map V.str))/\∃C,b=[some (V.int m),some (V.ref l),some (V.ref q),C]) ⟨G,W,_,rfl⟩ (λi b d _ z=>ξ.of (z.1 _ _ el)) ?_ ?_
 .rintro i x b d N BB Ϗ hN hi ⟨s4,e4,C,rfl⟩;obtain⟨S,r,rfl,Zg,u,L⟩:=Z.get hi;have RJ:i<J.length:=(ay.mp u).1;obtain⟨rv,O⟩:=Cf (g.ok r (aO u)) ω;have B:d S=some (.tup (nQ r)):=s4 _ _ L;rw[rv]at B;refine Ϗ _ _ ?_;walk_at "";refine⟨Rz e4,by simp[Ra],⟨_,Β.of B⟩,λY X=>?_⟩;refine lM (K:=K) (c:=false) (a:=S) (xs:=TQ (iJ r)) (λj p b f=>γ d f/\f Y=some (.lst p)/\p=(((iJ r).take j).map FS).map V.str/\∃v,b=[v]) ⟨γ.new _ X,aw,rfl,_,rfl⟩ (λj p b f _ ⟨z,_⟩=>Β.of (z _ _ B)) ?_ ?_
  .rintro j y p b f N5 hN5 hj ⟨s5,h5,rfl,v,rfl⟩;obtain⟨n,o,rfl⟩:=List.ν hj;have jl:j<4:=(ay.mp o).1;walk_at "";refine⟨HX (O n (aO o)) (by decide) (by decide),h5,eK (by simp only[ag,aZ];lia),hN5 _ _ _ ⟨s5.put X _,aw,?_,_,rfl⟩⟩;rw[bq,o,aE,aE,qm]
   rfl
  .rintro p b f ⟨s5,h5,rfl,v,rfl⟩;have ll:(TQ (iJ r)).length=4:=rfl;rw[ll,show(iJ r).take 4=iJ r from rfl]at h5;have wl:=Oj (k:=59) O;rw[show(iJ r).length=4 from rfl]at wl;have sm:=Py (ns:=iJ r) (λn o=>bc (O n o) (by decide)) (eO rfl);refine⟨_,Y,_,rfl,rfl,ξ.of h5,sm,_,rfl,_,rfl,?_,?_⟩
   .exact bL (by rw[show(Str.ofString "road ").length=5 from rfl];show 5+(Yz (iJ r)).length<=_;lia)
   .rw[show Str.ofString "road " ++ Str.join (Str.ofString " ") ((iJ r).map FS)=oG r from LV];refine nK (s5 _ _ e4) (eK (by rw[ag,aJ,ag,aZ];lia)) (hN _ _ ⟨(s4.trans s5).put t _,?_,_,rfl⟩);rw[aw,bq,u,aE,<-List.cons_append,aE]
    rfl
 .rintro BB b d Ϗ ⟨s4,e4,C,rfl⟩;refine Ϗ _ _ (h3 _ _ ?_);rw[ag,e,bQ]at e4;walk_at "";exact k q d t s4 e4
def xD(T:Txt K I):Sp:=λd H Q E=>E3 λ(l:Addr)(a:List V)(i:Int)=>d=[.ref l,.int i]/\H l=some (.lst a)/\((a.length:Int)<=i->Q .τ H)/\(i<(a.length:Int)->∀c b,γ H b->b c=some (.xd [("at",.int (i+1))])->E (.ref T.BadText) (some c) b)
abbrev rq:Stmt:=top 92
theorem FN:ε ["rows","last"] ["rows","last"] (aF rq):=.of
theorem p8:Υ (aF rq) "BadText":=.of (by kernel_rfl)
theorem FU(T:Txt K I)(o:bO (ψ P w))(a:jD P w base T):Ok P w K I base "check_end" rq ["rows","last"] 3 (xD T):=λ_ _ D=>by
 refine D.F.ϯ FN (by walk_at "v") λv A e s H u Q E r h=>?_;obtain⟨l,j,i,rfl,q,k,p⟩:=h;refine⟨_,(aH (b5 (Μ qk (Q4 dk T.len (aa (δ 0) aq)) (δ 1)) (aH (om a.M a.G o (r.mono (by decide)) a.b rfl rfl qT p8.g T.Ω (aa (aV dR (δ 1) aD) aq) (hdb:=p8.d))) bE)),?_⟩;walk_at "s";walk_at "";refine⟨j,.inl (ξ.of q),?_⟩;by_cases z:i<(j.length:Int)
 .rw[ao z];unfold sP;walk_at "";refine⟨bL (by simp),λt ne=>⟨t,a.f,_,rfl,aw,a.M,λm n c=>⟨rfl,some m,?_,?_⟩⟩⟩
  .rw[aY (Ne.symm c),aw]
  .exact p z m _ (qR ne n c) (by rw[pw c,aw])
 .rw[ah z];exact k (by lia)
def zj(T:Txt K I):Sp:=λf H Q E=>E5 λ(a:Addr)(Y:hO)(i n:Nat)(d:Str)=>f=[.ref a,.int (i+1:Nat),.str d,.int n]/\H a=some (.lst (Y.map V.str))/\(∀y∈Y,Rw y)/\(∀y c,Y[i]?=some y->aT d n y c->∀p b,H p=none->γ H b->b p=some (.lst (TQ c))->Q (.ref p) b)/\((∀y,Y[i]?=some y->¬∃c,aT d n y c)->∀e b,γ H b->b e=some (.xd [("at",.int (i+1:Nat))])->E (.ref T.BadText) (some e) b)
abbrev sC:Stmt:=top 88
theorem Hi:ε ["rows","at","head","many","words"] ["rows","at","head","many"] (aF sC):=.of
theorem kH:Υ (aF sC) "BadText":=.of (by kernel_rfl)
theorem GR(T:Txt K I)(hq:bO (ψ P w))(j:jD P w base T)(ms:yf P w base T):Ok P w K I base "read_row" sC ["rows","at","head","many"] 5 (zj T):=λ_ _ D=>by
 refine D.F.ϯ Hi (by walk_at "v") λς A af s H vs Q E hr h=>?_;obtain⟨a,Y,i,n,hd,rfl,B,hY,k,Z⟩:=h;refine⟨_,(aA (b5 (Μ qk (δ 1) (Q4 dk T.len (aa (δ 0) aq))) (aH (om j.M j.G hq (hr.mono (by decide)) j.b rfl rfl qT kH.g T.Ω (aa (δ 1) aq) (hdb:=kH.d))) bE) (aA (Ζ 4 (eu PySem.F.plainAttrs_str PySem.F.slot_str_split PySem.F.type_str_split qU (Η bG (δ 0) (aV mj (δ 1) aD)) (aa bo aq))) (aA (b5 (Μ mL (Η bG (δ 4) aD) (δ 2)) (aH (om j.M j.G hq (hr.mono (by decide)) j.b rfl rfl qT kH.g T.Ω (aa (δ 1) aq) (hdb:=kH.d))) bE) (aH (bp (Λ ms hr bK (aa (gc hV (δ 4) (gN aD) gP) (aa (δ 3) (aa (δ 1) aq))))))))),?_⟩;walk_at "s";unfold Xz yP bV;walk_at "";refine⟨_,.inl (ξ.of B),?_⟩;rw[ag];by_cases z:(Y.length:Int)<((i+1:Nat):Int)
 .rw[ao z];unfold sP;walk_at "";refine⟨bL (by simp),λB ne=>⟨B,j.f,_,rfl,aw,j.M,λr R q=>⟨rfl,some r,?_,?_⟩⟩⟩
  .rw[aY (Ne.symm q),aw]
  .exact Z (λy u=>by have:=(ay.mp u).1;lia) r _ (qR ne R q) (by rw[pw q,aw])
 .rw[ah z];obtain⟨y,u⟩:∃y,Y[i]?=some y:=⟨_,aB (by lia)⟩;have ym:=hY y (aO u);obtain⟨w1,w2,w3⟩:=ym.Le;refine Ι B (v:=V.str y) (fo (by lia) (by rw[show(((i+1:Nat):Int)-1).toNat=i by lia,aQ,u];rfl)) ⟨by simp[Ra],y,rfl,_,rfl,rfl,w1,λl nl=>?_⟩;have C:=γ.new (HO.lst ((Txt.split y (Str.ofString " ")).map V.str)) nl;have N:upd H l (HO.lst ((Txt.split y (Str.ofString " ")).map V.str)) l=some (.lst ((Le y).map V.str)):=aw;generalize upd H l (HO.lst ((Txt.split y (Str.ofString " ")).map V.str))=H1 at C N ⊢;have n0:Le y≠[]:=ME _ _;have un:∀t,Y[i]?=some t->t=y:=λt h=>by rw[u]at h;exact(bC h).symm
  obtain⟨w,o,L⟩:∃w o,Le y=w::o:=by
   cases e:Le y with
   | nil=>exact absurd e n0
   | cons w o=>exact⟨w,o,rfl⟩
  rw[L]at N w2 w3;refine Ι N (v:=V.str w) (fo (dU 0) rfl) ⟨rfl,?_⟩;by_cases c:w=hd
  .rw[ah (λz=>z (congrArg V.str c))];refine⟨l,_,rfl,ξ.of N,λp np=>?_⟩;rw[Bw _ (by decide)];have U:=γ.new (HO.lst (o.map V.str)) np;rw[aJ]at w2;refine⟨p,o,n,(i+1:Nat),rfl,aw,by lia,λx O=>w3 x (.tail _ O),λl3 J en p2 H2 S W e2=>?_,λX r H2 W ad=>?_⟩
   .exact k y J u ⟨o,by rw[L,c],en,by have:=congrArg List.length en;rw[ag,ag]at this;lia⟩ p2 H2 (C.free (U.free S)) (C.trans (U.trans W)) e2
   .refine Z (λt h=>?_) r H2 (C.trans (U.trans W)) ad;rw[un t h];rintro⟨J,ab,e,m,l4⟩;rw[L]at e;obtain⟨_,rfl⟩:=ck e;have ml:=congrArg List.length m;rw[ag,ag]at ml;rcases X with b|⟨x,O,b⟩
    .lia
    .have:ϱ x∈J.map some:=(by rw[<-m];exact aW.mpr ⟨x,O,rfl⟩);rw[b]at this;obtain⟨_,_,e⟩:=aW.mp this;cases e
  .rw[ao (λz=>c (by injection z))];unfold sP;walk_at "";refine⟨bL (by simp),λB ne=>⟨B,j.f,_,rfl,aw,j.M,λr R q=>⟨rfl,some r,?_,?_⟩⟩⟩
   .rw[aY (Ne.symm q),aw]
   .refine Z (λt h=>?_) r _ (C.trans (qR ne R q)) (by rw[pw q,aw]);rw[un t h];rintro⟨J,ab,e,_⟩;rw[L]at e;exact c (ck e).1
def zq(T:Txt K I):Sp:=λd H Q E=>E3 λ(z:Str)(Y:hO)(b:Dv)=>d=[.str z]/\z.length<=60000/\Txt.split z (Str.ofString "\n")=Y/\(∀y∈Y,Rw y)/\Due Y b/\(match b with
 | .ok m rs=>∀p t e a,H p=none->γ H a->ι T.Web a p m t e rs->Q (.ref p) a
 | .bad n=>∀c a,γ H a->a c=some (.xd [("at",.int n)])->E (.ref T.BadText) (some c) a
 | .web=>∀a,γ H a->E (.ref T.BadWeb) none a)
abbrev lC:Stmt:=top 87
theorem u5:ε ["text","rows","many","last","roads"] ["text"] (aF lC):=.of
theorem zI:Uu (aF lC) "rows":=.of (by kernel_rfl)
theorem za:Sw (aF lC) "roads":=.of (by kernel_rfl)
theorem oX:Υ (aF lC) "MOST_PLACES":=.of (by kernel_rfl)
theorem y8:Υ (aF lC) "range":=.of (by kernel_rfl)
theorem uB:Υ (aF lC) "Web":=.of (by kernel_rfl)
theorem GO(T:Txt K I)(hq:bO (ψ P w))(dQ:qX P w base T)(uH:Cb P w K I base "check_end" rq ["rows","last"] 3 (xD T))(mG:Cb P w K I base "read_row" sC ["rows","at","head","many"] 5 (zj T)):Ok P w K I base "read_web" lC ["text"] 6 (zq T):=λ_ _ D=>by
 refine D.F.ϯ u5 (by walk_at "v") λς A a6 s H vs Q E hr h=>?_;obtain⟨z,Y,dv,rfl,zl,eY,hY,du,k⟩:=h;refine⟨_,(aA (vD (i:=1) u5.nd rfl (Or.inr zI.l) (eu PySem.F.plainAttrs_str PySem.F.slot_str_split PySem.F.type_str_split qU (δ 0) (aa bo aq))) (aA (Ζ 2 (oJ bG (Λ mG hr bK (aa (Sh 1) (aa aD (aa bo (aa aD aq))))) aD (λ_ _=>rfl))) (aA (Ζ 3 (LU (vO sA sA aD (δ 2) (mJ oX.g T.nE (hd:=oX.d))) (δ 2) aD)) (aA (He (i:=4) rfl rfl rfl NG u5.nd rfl za.l rfl (U4 ["at","rows"] 1 [1]) (Dl y8.g T.range (aa aD (aa (aV dR (δ 3) aD) aq))) (λ_ _ _ _=>(fq (i:=0) (show(["at","rows"]:hO).Nodup from by decide +kernel) rfl (Or.inl rfl))) (λ_ _ _ _=>iX) (λ_ _ _ _=>(Hk (vh K rfl) (by rfl) T.tuple Fj (Ai mG.G (hr.mono (by decide)) (by rfl) mG.D.m mG.D.F.kp mG.D.b .nil (aa (pv 1) (aa (pv 0) (aa bo (aa aD aq)))))))) (aA (cL (Λ uH hr bK (aa (Sh 1) (aa (δ 3) aq)))) (aH (bp (sN dQ.M dQ.G (hr.mono (by decide)) uB.g T.UM dQ.b .nil bK (aa (δ 2) (aa (δ 4) aq)) (hdb:=uB.d))))))))),?_⟩;walk_at "s";refine cW λN0 h0=>?_;walk_at "";refine⟨by simp[Ra],_,rfl,_,rfl,rfl,zl,λl nl=>h0 _ _ (cW λN1 h1=>?_)⟩;rw[eY];have s1:=γ.new (.lst (Y.map V.str)) nl;have el:upd H l (.lst (Y.map V.str)) l=some (.lst (Y.map V.str)):=aw;generalize upd H l (.lst (Y.map V.str))=H1 at s1 el ⊢;walk_at "";have hk:((∀y,Y[0]?=some y->¬∃u,aT Τ 1 y u)/\∀j c,γ H c->c j=some (.xd [("at",.int 1)])->E (.ref T.BadText) (some j) c)\/∃m a,Ue Y m a/\(a.length+1<QZ m->(∀y,Y[a.length+1]?=some y->¬∃u,aT Ε 4 y u)/\∀j c,γ H c->c j=some (.xd [("at",.int (a.length+2:Nat))])->E (.ref T.BadText) (some j) c)/\(a.length+1=QZ m->QZ m<Y.length->∀j c,γ H c->c j=some (.xd [("at",.int (QZ m+1:Nat))])->E (.ref T.BadText) (some j) c)/\(Cq Y m a->¬Good m (a.map ϗ)->∀c,γ H c->E (.ref T.BadWeb) none c)/\(Cq Y m a->Good m (a.map ϗ)->∀p t B c,H p=none->γ H c->ι T.Web c p m t B (a.map ϗ)->Q (.ref p) c):=by
  cases dv with
  | bad n=>
    rcases du with⟨rfl,h⟩|⟨m,a,L,lt,h,rfl⟩|⟨m,a,L,e,lt,rfl⟩
    .exact .inl ⟨h,k⟩
    .exact .inr ⟨m,a,L,λ_=>⟨h,k⟩,λe=>absurd e (by lia),λf=>absurd f.2.1 (by lia),λf=>absurd f.2.1 (by lia)⟩
    .exact .inr ⟨m,a,L,λh=>absurd h (by lia),λ_ _=>k,λf=>absurd f.2.2 (by lia),λf=>absurd f.2.2 (by lia)⟩
  | web=>
    obtain⟨m,a,f,Z⟩:=du;exact .inr ⟨m,a,f.1,λh=>absurd f.2.1 (by lia),λ_ h=>absurd f.2.2 (by lia),λ_ _=>k,λ_ g=>absurd g Z⟩
  | ok m rs=>
    obtain⟨a,f,rfl,g⟩:=du;exact .inr ⟨m,a,f.1,λh=>absurd f.2.1 (by lia),λ_ h=>absurd f.2.2 (by lia),λ_ Z=>absurd g Z,λ_ _=>k⟩
 clear k du;rcases hk with⟨h,k⟩|⟨m,a,L,kA,kB,kC,kD⟩
 .exact⟨l,Y,0,1,Τ,rfl,el,hY,λy u S r=>absurd ⟨u,r⟩ (h y S),λ_ j c s' hd=>k j c (s1.trans s') hd⟩
 obtain⟨y0,ae,r0⟩:=L.one;refine⟨l,Y,0,1,Τ,rfl,el,hY,λy u S r p2 H2 cn s2 e2=>?_,λh=>absurd ⟨_,r0⟩ (h y0 ae)⟩;have:u=[m]:=by
  rw[ae]at S;cases S;exact r.uniq r0
 subst this;refine Ι (v:=V.int m) e2 (fo (dU 0) rfl) (h1 _ _ (cW λN2 h2=>?_));have af:=s2 _ _ el;have Ϝ:=s1.trans s2;clear s1 s2 el e2 h0 h1;have lp:=C4 m;have LL:=L.len;have X:N2 [some (V.str z),some (V.ref l),some (V.int m),some (V.int (QZ m)),none] H2:=by
  refine h2 _ _ (cW λN3 h3=>?_);clear h2;walk_at "";refine⟨2,_,⟨rfl,rfl⟩,⟨by lia,by lia,by lia,by lia⟩,λpc T8=>?_⟩;rw[show((QZ m:Int)+1-2).toNat=QZ m-1 by lia];have s2:=γ.new (.lst []) T8;refine sy (λi zs σ J=>i<=a.length/\γ H2 J/\J pc=some (.lst zs)/\(∃B:List Addr,zs=B.map V.ref/\B.length=i/\μ J B ((a.map ϗ).take i))/\∃v,σ=[v,some (V.ref l)]) ⟨bT _,s2,aw,⟨[],rfl,rfl,.nil⟩,_,rfl⟩ ?_ ?_
  .rintro i zs σ J N hN hi ⟨il,s3,e3,⟨B,rfl,pl,ro⟩,v,rfl⟩;walk_at "";have ei:V.int (2+(i:Int))=V.int ((i+1+1:Nat):Int):=(by rw[show((i+1+1:Nat):Int)=2+(i:Int) by lia]);refine⟨l,Y,i+1,4,Ε,by rw[ei];rfl,s3 _ _ af,hY,λy u S r q O nq C e4=>?_,λh j O C hd=>?_⟩
   .have Xi:i<a.length:=by
     refine Nat.lt_of_le_of_ne il λz=>?_;have:=(kA (by lia)).1 y (by rw[<-z];exact S);exact this ⟨u,r⟩
    obtain⟨U,Wo⟩:∃U,a[i]?=some U:=⟨_,aB Xi⟩;obtain⟨y',Uc,r'⟩:=L.row i U Wo;have ey:y'=y:=(by rw[S]at Uc;exact(bC Uc).symm);subst ey;have en:=r.uniq r';subst en;have n4:=(L.ns4 u (aO Wo)).1;have et:(a.map ϗ).take (i+1)=(a.map ϗ).take i++[ϗ u]:=(by rw[bq,aQ,Wo];rfl);refine⟨q,rfl,_,.inl ⟨ξ.of e4,λqt R=>?_⟩⟩;have s5:=C.trans (γ.new (.tup (TQ u)) R);have ba:qt≠pc:=λz=>by rw[z,C _ _ e3]at R;cases R
    refine⟨s5 _ _ e3,eK (by rw[ag];lia),hN _ _ _ ⟨Xi,?_,aw,⟨B++[qt],by rw[aE];rfl,by rw[ap,pl];rfl,?_⟩,_,rfl⟩⟩
    .exact λb o e=>by rw[aY (cP e T8)];exact s5 _ _ (s3 _ _ e)
    .rw[et];refine Gr (.cons ?_ .nil) (Paired.imp' (λb r hb=>?_) ro)
     .show upd _ pc _ qt=some (.tup (nQ (ϗ u)));rw[aY ba,Pi n4];exact aw
     .rw[aY (dX hb e3 (by intro z;cases z))];exact s5 _ _ hb
   .have Xi:i=a.length:=by
     refine Nat.le_antisymm il (Nat.le_of_not_lt λz=>?_);obtain⟨U,Wo⟩:∃U,a[i]?=some U:=⟨_,aB z⟩;obtain⟨y',Uc,r'⟩:=L.row i U Wo;exact h y' Uc ⟨_,r'⟩
    refine(kA (by lia)).2 j O (Ϝ.trans (s3.trans C)) ?_;rw[hd,Xi]
  .rintro zs σ J ⟨il,s3,e3,⟨B,rfl,pl,ro⟩,v,rfl⟩;have Xi:QZ m-1=a.length:=(by lia);rw[cj (by rw[ag];lia)]at ro;have iF:=Ϝ.trans s3;refine h3 _ _ ?_;walk_at "";refine⟨l,_,_,rfl,s3 _ _ af,λle=>?_,λlt j O C hd=>kB (by lia) (by rw[ag]at lt;lia) j O (iF.trans C) (by rw[hd];rfl)⟩;have fu:Cq Y m a:=⟨L,by lia,by have:=L.YH;rw[ag]at le;lia⟩;intro x j hx YT ne;have bd:upd J j (.own x) x=none:=(by rw[aY ne.symm];exact hx);have s0:γ J (upd (upd J j (.own x)) x (.ins T.Web j [])):=(γ.new _ YT).trans (γ.new _ bd);refine⟨x,j,m,true,pc,B,a.map ϗ,rfl,aw,ξ.of (s0 _ _ e3),μ.same s0 ro,by rw[ag];lia,λg t O ht W kp=>⟨rfl,kD fu g x t B O (iF.free hx) (iF.trans λb o e=>kp b o (s0 b o e) (cP e hx)) W⟩,λZ O C=>kC fu Z O (iF.trans (s0.trans C))⟩
 unfold QZ at X;walk_at "";by_cases c1:1<=m
 .rw[ao (by lia)];by_cases c2:m<=24
  .rw[ao (by lia)];rw[ao ⟨c1,c2⟩]at X;exact X
  .rw[ah (by lia)];rw[ah (λz=>c2 z.2)]at X;exact X
 .rw[ah (by lia)];rw[ah (λz=>c1 z.1)]at X;exact X
def AM(T:Txt K I):Sp:=λc H Q _=>E3 λ(z:Str)(Y:hO)(a:Str)=>c=[.str z]/\z.length<=60000/\Txt.split z (Str.ofString "\n")=Y/\Cv Y a/\∀b,γ H b->Q (.str a) b
abbrev yE:Stmt:=top 117
theorem PJ:ε ["text","rows","gap","web","desk","answers","row"] ["text"] (aF yE):=.of
theorem vt:Υ (aF yE) "BadText":=.of (by kernel_rfl)
theorem Ec:Υ (aF yE) "BadWeb":=.of (by kernel_rfl)
theorem zn:Υ (aF yE) "Desk":=.of (by kernel_rfl)
theorem Pz(T:Txt K I)(hq:bO (ψ P w))(fQ:ug P w base T)(gL:wZ P w base T)(vR:Cb P w K I base "read_web" lC ["text"] 6 (zq T)):Ok P w K I base "run" yE ["text"] 65 (AM T):=λ_ _ D=>by
 refine D.F.Ϙ PJ (by walk_at "v") λς A ar s H vs Q E hr h=>?_;obtain⟨z,Y,a,rfl,zl,eY,ra,k⟩:=h;refine⟨_,(aA (Ζ 1 (eu PySem.F.plainAttrs_str PySem.F.slot_str_split PySem.F.type_str_split qU (δ 0) (aa bo aq))) (aA (b5 (oQ EE bo (δ 1) (by with_unfolding_all rfl)) (aH (bp bo)) bE) (aA (Ζ 2 (eu PySem.F.plainAttrs_list PySem.F.slot_list_index PySem.F.type_list_index J5 (δ 1) (aa bo aq))) (aA (J6 rfl rfl rfl (Gu (pxs 3 (pyb vR hr (aa (eu PySem.F.plainAttrs_str PySem.F.slot_str_join PySem.F.type_str_join jK bo (aa (gc hV (δ 1) gP (gN (δ 2))) aq)) aq)))) (Pf T.gT.x T.SG.x vt.g T.Ω Ec.g T.ϡ (λ_=>(aH (bp bo))) KJ (hdb:=vt.d))) (aA (Ζ 4 (sN fQ.M fQ.G (hr.mono (by decide)) zn.g T.UN fQ.b .nil (gF hq) (aa (δ 3) aq) (hdb:=zn.d))) (aA (Ζ 5 (cS aq)) (aA (gH PassesOwn.never rfl (ie (gc hV (δ 1) (gN (aV dR (δ 2) aD)) gP)) (ϧ 6) (aH (cL (eu PySem.F.plainAttrs_list PySem.F.slot_list_append PySem.F.type_list_append eG (δ 5) (aa (pR (δ 4) T.η gL.M gL.G (hr.mono (by decide)) gL.b .nil (gF hq) (aa (δ 6) aq)) aq))))) (aH (bp (eu PySem.F.plainAttrs_str PySem.F.slot_str_join PySem.F.type_str_join jK bo (aa (δ 5) aq))))))))))),?_⟩;walk_at "s";unfold Xz yP bV;refine cW λN1 h1=>?_;walk_at "";refine⟨by simp[Ra],z,rfl,_,rfl,rfl,zl,λl nl=>h1 _ _ (cW λN2 h2=>?_)⟩;have s1:=γ.new (HO.lst ((Txt.split z (Str.ofString "\n")).map V.str)) nl;have L:upd H l (HO.lst ((Txt.split z (Str.ofString "\n")).map V.str)) l=some (.lst (Y.map V.str)):=by rw[aw,<-eY]
 generalize upd H l (HO.lst ((Txt.split z (Str.ofString "\n")).map V.str))=H1 at s1 L ⊢;walk_at "";refine⟨l,_,rfl,.inl (ξ.of L),rfl,Lo Y,_,rfl,?_⟩;rw[ao (show(true:Bool)=true from rfl),OQ];rcases ra with⟨h,rfl⟩|⟨A,B,dv,rfl,n,o,du,fin⟩
 .rw[ao (by simp[h])];exact k H1 s1
 rw[ah (by simp)];refine h2 _ _ (cW λN3 h3=>?_);clear h1 h2;walk_at "";refine⟨Rz L,l,_,_,A.length,rfl,rfl,L,by simp,λi hi z=>n ?_,by have:=o.1;lia,h3 _ _ (cW λN4 h4=>?_)⟩
 .rw[cD hi]at z;exact aO z
 clear h3;unfold Jk Ir;walk_at "";refine⟨by simp[Ra],q0 L (by lia) λl2 H2 s2 e2=>?_⟩;rw[eE,List.take_left]at e2;obtain⟨sp,ln,sm⟩:Txt.split (Str.join (Str.ofString "\n") A) (Str.ofString "\n")=(if A=[]then[Str.ofString ""]else A)/\(Str.join (Str.ofString "\n") A).length<=60000/\(A.map (·.length)).sum+A.length*(Str.ofString "\n").length<=16777216:=by
  by_cases c:A=[]
  .subst c
   decide +kernel
  .rw[ah c];exact o.text (by decide) (by decide) c
 have Ϝ:=s1.trans s2;refine⟨_,l2,A,rfl,rfl,ξ.of e2,sm,_,_,dv,rfl,ln,sp,λy J=>?_,du,?_⟩
 .split at J
  .rw[ax.mp J];exact⟨by unfold Pl;decide +kernel,by decide⟩
  .exact o.rw (by decide) y J
 rcases fin with⟨nd,rfl⟩|⟨m,rs,out,rfl,bl,w,rfl⟩
 .have hit:∀{C:Addr}{H':Hp}(xe:Q3 K T.TollError C),C=T.BadText\/C=T.BadWeb->γ H2 H'->∃u,Value.ref C=Value.ref u/\∃x,PySem.W.mroIn K u (Value.ref T.BadText)=some x/\∃Xh,PySem.W.mroIn K u (Value.ref T.BadWeb)=some Xh/\if(x||Xh)=true then Q (V.str (Str.ofString "refused web")) H' else False:=λxe hC p=>⟨_,rfl,_,xe.mr _,_,xe.mr _,by
   rw[ao (by rcases hC with rfl|rfl<;>simp)];exact k _ (Ϝ.trans p)⟩
  cases dv with
  | ok m rs=>exact absurd rfl (nd m rs)
  | bad i=>exact λdx H3 p _=>hit T.gT (.inl rfl) p
  | web=>exact λH3 p=>hit T.SG (.inr rfl) p
 intro x t ps H3 _ p W;refine h4 _ _ (cW λN5 h5=>?_);clear h4;walk_at "";refine HJ T W λd wb pl t1 H4 _ a0 s4 D=>h5 _ _ (cW λN6 h6=>?_);clear h5;have Wi:=Ϝ.trans (p.trans s4);have ad:=(Ϝ.trans p).free a0;walk_at "";refine⟨bL (by simp),λq j=>h6 _ _ (cW λN7 h7=>?_)⟩;clear h6;have O:=γ.new (HO.lst []) j;have ea:upd H4 q (HO.lst []) q=some (HO.lst (([]:hO).map V.str)):=aw;generalize upd H4 q (HO.lst [])=H5 at O ea ⊢;have D5:=D.same O;obtain⟨qs,pq,_⟩:=D.pa;have U:pl≠q:=λz=>by rw[<-z,pq]at j;cases j
 have a4:=Wi.free j;have a6:LS H5 l (A++Str.ofString "" :: B):=(s2.trans (p.trans (s4.trans O))) _ _ L;walk_at "";refine⟨l,_,rfl,ξ.of a6,λv R=>?_⟩;rw[Bw _ (by lia),<-mQ,show((A.length:Int)+1).toNat=A.length+1 by lia,show(A++Str.ofString "" :: B).drop (A.length+1)=B by simp];have Z:=γ.new (HO.lst (B.map V.str)) R;have e6:upd H5 v (HO.lst (B.map V.str)) v=some (.lst (B.map V.str)):=aw;generalize upd H5 v (HO.lst (B.map V.str))=H6 at Z e6 ⊢;have ai:v≠pl:=λz=>by rw[z,O _ _ pq]at R;cases R
 have am:v≠q:=λz=>by rw[z,ea]at R;cases R
 refine⟨v,rfl,⟨_,ξ.of e6⟩,?_⟩;have wl:=w.len;refine jC (K:=K) (xs:=B.map V.str) (λi X r=>γ H r/\r v=some (.lst (B.map V.str))/\E4 λ(S:List (List Int×List Int))(f rest:hO)(v6:Option V)=>π T.Web T.Desk r d wb pl m t1 ps rs S/\r q=some (.lst (f.map V.str))/\f.length=i/\out=f++rest/\RK m rs S (B.drop i) rest/\X=[some (V.str z),some (V.ref l),some (V.int A.length),some (V.ref x),some (V.ref d),some (V.ref q),v6]) ⟨Wi.trans (O.trans Z),e6,_,[],out,_,D5.same Z,Z _ _ ea,rfl,rfl,w,rfl⟩ (λi X r _ z=>ξ.of z.2.1) ?_ ?_
 .rintro i y X r N BB Ϗ hN hi ⟨s7,e7,S,f,rest,v6,D7,a7,dl,eo,w7,rfl⟩;refine Ϗ _ _ ?_;obtain⟨y,J,rfl⟩:=List.ν hi;have il:=(ay.mp J).1;rw[gj il,(ay.mp J).2]at w7;cases w7 with
  | @cons ο S' s _ o _ as sl sz h al t=>
  walk_at "";have ff:=sz.fil;refine⟨Rz a7,D7.Ο ⟨d,wb,pl,t1,m,ps,rs,ο,s,y,o,S',rfl,D7,sl,n9 sz.l1 ff.1,n9 sz.l2 ff.2,h,λH8 D8 k8=>?_⟩⟩;have a8:=k8 _ _ a7 U.symm;have s8:γ H H8:=λb x e=>k8 b x (s7 b x e) (cP e ad);refine nK a8 (eK (by rw[ag];lia)) (hN _ _ ⟨s8.put a4 _,?_,S',f++[Aw o],as,_,D8.Uh (ϰ.refl.put _) a8 U,?_,by rw[ap,dl];rfl,by rw[eo];simp,t,rfl⟩)
  .rw[aY am];exact k8 _ _ e7 ai
  .rw[aw,aE]
   rfl
 .rintro BB X r Ϗ ⟨s7,e7,S,f,rest,v6,D7,a7,dl,eo,w7,rfl⟩;refine Ϗ _ _ (h7 _ _ ?_);rw[ag,eM]at w7;cases w7;rw[bR]at eo;subst eo;walk_at "";have sm:=rR wl.2;exact⟨by simp[Ra],_,q,out,rfl,rfl,ξ.of a7,by rw[show(Str.ofString "\n").length=1 from rfl];lia,k r s7⟩
def IK(K:fv):Sp:=λc H Q _=>∃(a:Addr)(b:dm),c=[.ref a]/\ξ K H a (b.map V.int)/\b.length<=63/\∀d,Q (.bl true) d
def Pm(T:Txt K I):Sp:=IK K
abbrev rH:Stmt:=top 131
theorem xG:ε ["script","many","roads","web","size","rows","desk","due","lead","text","found","cell","spoilt"] ["script"] (aF rH):=.of
theorem Hj:Uu (aF rH) "many":=.of (by kernel_rfl)
theorem F1:Uu (aF rH) "roads":=.of (by kernel_rfl)
theorem GW:Sw (aF rH) "rows":=.of (by kernel_rfl)
theorem Hf:Uu (aF rH) "desk":=.of (by kernel_rfl)
theorem Cd:Υ (aF rH) "Web":=.of (by kernel_rfl)
theorem zz:Υ (aF rH) "Desk":=.of (by kernel_rfl)
theorem vZ:Υ (aF rH) "str":=.of (by kernel_rfl)
theorem Ph(T:Txt K I)(hq:bO (ψ P w)){f:Addr}{fd:FuncData}(D:Df K I "law" rH ["script"] f fd)(fQ:ug P w base T)(gL:wZ P w base T)(dQ:qX P w base T)(lz:BO P w base T)(tF:Cb P w K I base "_law_folded" qz ["cells","many"] 1 (wU T))(ww:Cb P w K I base "_law_last" wf ["script"] 1 (zB T))(tM:Cb P w K I base "_law_no_web" tp ["rows","cell"] 1 (wR T))(uJ:Cb P w K I base "_law_roads" rF ["script"] 2 (xS T))(mf:Cb P w K I base "_law_row_of" tX ["cell","many","roads"] 2 (wS T))(tE:Cb P w K I base "_law_spoilt" tH ["rows","cell"] 1 (wT T))(qW:Cb P w K I base "_law_web_rows" qN ["many","roads"] 1 (ue T))(rL:Cb P w K I base "run" yE ["text"] 65 (AM T)):ϋ P w K I base (ψ P w) 66 f fd ["script"] (Pm T):=by
 refine D.F.Ϙ xG (by walk_at "v") λς A ex s H vs Q E B h=>?_;obtain⟨a,ns,rfl,ha,hn,k⟩:=h;refine⟨_,(aA (mW (ϛ uJ B hq (aa (δ 0) aq)) (kU (n:=2) rfl (cK (fq (i:=1) xG.nd rfl (Or.inr Hj.l)) (cK (fq (i:=2) xG.nd rfl (Or.inr F1.l)) iT)))) (aA (Ζ 3 (sN dQ.M dQ.G (B.mono (by decide)) Cd.g T.UM dQ.b .nil (gF hq) (aa (Sh 1) (aa (Sh 2) aq)) (hdb:=Cd.d))) (aA (Ζ 4 (Η bG (cS (aa aD (aa aD aq))) (RF Kg T.int (aa (kP qk (Sh 1) aD (jR _)) aq)))) (aA (wH (i:=5) xG.nd rfl GW.l rfl (U4 ["cell","many","roads"] 1 [1,2]) (ie (ϛ tF B hq (aa (δ 0) (aa (δ 4) aq)))) (λ_ _ _ _=>(fq (i:=0) (show(["cell","many","roads"]:hO).Nodup from by decide +kernel) rfl (Or.inl rfl))) (λ_ _ _ _=>iX) (λ_ _ _ _=>(iW mf.G (B.mono (by decide)) (by rfl) mf.D.m mf.D.F.kp mf.D.b .nil (gF hq) (aa (pv 0) (aa (pv 1) (aa (pv 2) aq)))))) (aA (vD (i:=6) xG.nd rfl (Or.inr Hf.l) (sN fQ.M fQ.G (B.mono (by decide)) zz.g T.UN fQ.b .nil (gF hq) (aa (δ 3) aq) (hdb:=zz.d))) (aA (Ζ 7 (eu PySem.F.plainAttrs_str PySem.F.slot_str_join PySem.F.type_str_join jK bo (aa (jI rfl (U4 ["row","desk"] 1 [6]) (ie (δ 5)) (λ_ _ _ _=>(fq (i:=0) (show(["row","desk"]:hO).Nodup from by decide +kernel) rfl (Or.inl rfl))) (λ_ _ _ _=>iX) (λ_ _ _ _=>(pR (pv 1) T.η gL.M gL.G (B.mono (by decide)) gL.b .nil (gF hq) (aa (pv 0) aq)))) aq))) (aA (Ζ 8 (ϛ qW B hq (aa (Sh 1) (aa (Sh 2) aq)))) (aA (Ζ 9 (eu PySem.F.plainAttrs_str PySem.F.slot_str_join PySem.F.type_str_join jK bo (aa (aV gh (aV gh (δ 8) (cS (aa bo aq))) (δ 5)) aq))) (aA (Ζ 10 (ϛ rL B hq (aa (δ 9) aq))) (aA (b5 (PW.pt (yN (nj (mR (Q4 Hh T.isinstance (aa (δ 10) (aa (NU (v:=.ty "str") vZ.g T.str Gs rfl (hn:=vZ.n) (hd:=vZ.d)) aq))))) (yN (Μ mL (δ 10) (δ 7)) (B8 (Μ mL (ϛ rL B hq (aa (δ 9) aq)) (δ 7)))))) (aH (bp wB)) bE) (aA (b5 (PW.pt (yN (oQ mL (ϛ rL B hq (aa (eu PySem.F.plainAttrs_str PySem.F.slot_str_join PySem.F.type_str_join jK bo (aa (aV gh (δ 8) (cS (aa bo aq))) aq)) aq)) bo (jR _)) (yN (oQ mL (ϛ rL B hq (aa (eu PySem.F.plainAttrs_str PySem.F.slot_str_join PySem.F.type_str_join jK bo (aa (δ 8) aq)) aq)) bo (jR _)) (B8 (Μ mL (ϛ rL B hq (aa bo aq)) bo))))) (aH (bp wB)) bE) (aA (gH PassesOwn.never rfl (ie (cS (aa (ϛ ww B hq (aa (δ 0) aq)) (aa (ϛ lz B hq (aa (δ 0) (aa aD aq))) aq)))) (ϧ 11) (aA (Ζ 12 (ϛ tE B hq (aa (δ 8) (aa (δ 11) aq)))) (aA (b5 (oQ mL (ϛ rL B hq (aa (eu PySem.F.plainAttrs_str PySem.F.slot_str_join PySem.F.type_str_join jK bo (aa (aV gh (aV gh (δ 12) (cS (aa bo aq))) (δ 5)) aq)) aq)) bo (jR _)) (aH (bp wB)) bE) (aH (b5 (oQ mL (ϛ rL B hq (aa (eu PySem.F.plainAttrs_str PySem.F.slot_str_join PySem.F.type_str_join jK bo (aa (aV gh (aV gh (ϛ tM B hq (aa (δ 8) (aa (aV dz (δ 11) aD) aq))) (cS (aa bo aq))) (δ 5)) aq)) aq)) bo (jR _)) (aH (bp wB)) bE))))) (aH (bp (kP di (ϛ rL B hq (aa (eu PySem.F.plainAttrs_str PySem.F.slot_str_join PySem.F.type_str_join jK bo (aa (aV gh (aV gh (aV gh (cS (aa bo aq)) (δ 8)) (cS (aa bo aq))) (δ 5)) aq)) aq)) bo (jR _)))))))))))))))),?_⟩;walk_at "s";refine cW λN1 h1=>?_;walk_at "";refine⟨a,ns,rfl,ha,λt l m ps rs j nt nl s1 et L O g=>?_⟩;have m1:=g.m1;have ω:=g.ω;refine⟨t,rfl,_,Β.of et,rfl,_,_,rfl,_,_,rfl,rfl,h1 _ _ (cW λN2 h2=>?_)⟩;walk_at "";refine Ks T (c:=true) (ξ.of L) O g λx tw H2 hx e0 s2 W=>h2 _ _ (cW λN3 h3=>?_);clear h1 h2;walk_at "";refine⟨bL (by simp),λp np=>.inr ?_⟩;obtain⟨sz,ez,z1,z2⟩:∃sz:Int,Ϲ [V.int 40,V.int 8] (if 7<m then 1 else 0)=some (.int sz)/\1<=sz/\sz<=40:=by
  split
  .exact⟨8,fo (by decide) rfl,by decide,by decide⟩
  .exact⟨40,fo (by decide) rfl,by decide,by decide⟩
 refine Ι aw ez (h3 _ _ (cW λN4 h4=>?_));clear h3;have U:=γ.new (HO.lst [V.int 40,V.int 8]) np;have iF:=s1.trans (s2.trans U);have W:=W.same U;have L:=U _ _ (s2 _ _ L);have O:=μ.same (s2.trans U) O;generalize upd H2 p (HO.lst [V.int 40,V.int 8])=H3 at iF W L O ⊢;clear s1 s2 U np hx e0 et nt nl ez;walk_at "";refine⟨a,ns,sz,rfl,γ.seq iF ha,hn,z1,z2,λlf xs H4 _ s4 ef xl=>?_⟩;have Wi:=iF.trans s4;have W:=W.same s4;have L:=s4 _ _ L;have O:=μ.same s4 O;clear iF s4;refine⟨lf,rfl,⟨_,ξ.of ef⟩,λlr bm=>?_⟩;refine lM (c:=true) (K:=K) (a:=lf) (xs:=xs.map V.int) (λi ys C H5=>γ H4 H5/\H5 lr=some (.lst ys)/\∃(Z:hO)(v:Option V),ys=Z.map V.str/\Z.length=i/\(∀z∈Z,ϥ m rs z)/\C=[v,some (V.int m),some (V.ref l)]) ⟨γ.new _ bm,aw,[],_,rfl,rfl,λz hz=>(by cases hz),rfl⟩ (λi ys C H5 _ z=>ξ.of (z.1 _ _ ef)) ?_ ?_
 .rintro i y ys C H5 N hN hi ⟨s5,e5,Z,v,rfl,zl,ok,rfl⟩;obtain⟨c,hc,rfl⟩:=List.ν hi;have il:=(ay.mp hc).1;walk_at "";refine⟨c,m,l,ps,rs,rfl,s5 _ _ L,μ.same s5 O,g,λz H6 s6 az=>⟨s6 _ _ e5,eK (by rw[ag];lia),hN _ _ _ ⟨(s5.trans s6).put bm _,aw,Z++[z],_,by rw[aE];rfl,by rw[ap,zl];rfl,λq hq=>?_,rfl⟩⟩⟩;rcases aK.mp hq with hq|hq
  .exact ok q hq
  .rw[ax.mp hq];exact az
 rintro ys C H5 ⟨s5,er,Z,v,rfl,zl,ok,rfl⟩;rw[ag]at zl;refine h4 _ _ (cW λN5 h5=>?_);have W:=W.same s5;have L:=s5 _ _ L;have O:=μ.same s5 O;have Wj:=Wi.trans s5;have Zl:Z.length<=40:=by lia
 clear h4 Wi s5 bm ef xl zl;obtain⟨ae,an⟩:=Kw Z 0 [(gE m,gE m)] ok (by simp) (by show 1+_<=_;lia) (by lia) (O7 (by lia));walk_at "";refine HJ T W λd wb pl J H6 _ cr s6 D=>h5 _ _ (cW λN6 h6=>?_);clear h5 W;obtain⟨qs,pq,_⟩:=D.pa;walk_at "";refine⟨by simp[Ra],⟨_,ξ.of (s6 _ _ er)⟩,λlc XO=>?_⟩;have bf:pl≠lc:=λz=>by rw[<-z,pq]at XO;cases XO
 have Zj:=s6.free XO;refine lM (c:=true) (K:=K) (a:=lr) (xs:=Z.map V.str) (λi ys C H7=>γ H5 H7/\H7 lc=some (.lst ys)/\E4 λ(S:List (List Int×List Int))(u rest:hO)(v:Option V)=>π T.Web T.Desk H7 d wb pl m J ps rs S/\ys=u.map V.str/\u.length=i/\ae=u++rest/\RK m rs S (Z.drop i) rest/\C=[v,some (V.ref d)]) ⟨s6.trans (γ.new _ XO),aw,_,[],ae,_,D.same (γ.new _ XO),rfl,rfl,rfl,an,rfl⟩ (λi ys C H7 _ z=>ξ.of (z.1 _ _ er)) ?_ ?_
 .rintro i y ys C H7 N hN hi ⟨s7,e7,S,u,rest,v,D7,rfl,dl,eo,w7,rfl⟩;obtain⟨y,hy,rfl⟩:=List.ν hi;have il:=(ay.mp hy).1;rw[gj il,(ay.mp hy).2]at w7;cases w7 with
  | @cons ο S' s _ o _ as sl sz h al t=>
  walk_at "";have ff:=sz.fil;refine D7.Ο ⟨d,wb,pl,J,m,ps,rs,ο,s,y,o,S',rfl,D7,sl,n9 sz.l1 ff.1,n9 sz.l2 ff.2,h,λH8 D8 k8=>?_⟩;have e8:=k8 _ _ e7 bf.symm;have s8:γ H5 H8:=λb x e=>k8 b x (s7 b x e) (cP e cr);exact⟨e8,eK (by rw[ag];lia),hN _ _ _ ⟨s8.put Zj _,aw,S',u++[Aw o],as,_,D8.Uh (ϰ.refl.put _) e8 bf,by rw[aE];rfl,by rw[ap,dl];rfl,by rw[eo];simp,t,rfl⟩⟩
 rintro ys C H7 ⟨s7,e7,S,u,rest,v,D7,rfl,dl,eo,w7,rfl⟩;rw[ag,eM]at w7;cases w7;rw[bR]at eo;subst eo;have wl:=an.len;have sm:=rR wl.2;refine⟨_,lc,ae,rfl,rfl,ξ.of e7,by rw[show(Str.ofString "\n").length=1 from rfl];lia,h6 _ _ (cW λN7 h7=>?_)⟩;have er:=s7 _ _ er;have L:=s7 _ _ L;have O:=μ.same s7 O;have Xn:=Wj.trans s7;clear D7 e7 D s6 pq XO Zj bf cr s7 Wj h6 dl v sm;walk_at "";refine⟨l,m,ps,rs,rfl,L,O,g,λll H8 _ s8 e8=>h7 _ _ (cW λN8 h8=>?_)⟩;have er:=s8 _ _ er;have e6:=Xn.trans s8;clear s8 Xn L O h7;have go:∀{j:Hp}{p:Addr}{Y:hO}{A:Str}{Q':VK},LS j p Y->Y≠[]->(∀y∈Y,Pl y/\y.length<=400)->Y.length<=100->Cv Y A->(∀H2,γ j H2->Q' (.str A) H2)->Et K (.str (Str.ofString "\n")) [.ref p] j λx j=>AM T [x] j Q' E0:=λ{j p Y A Q'} e ne b l ra q=>by
  obtain⟨j1,j2,j3⟩:=Dw ne b l;exact⟨_,p,Y,rfl,rfl,ξ.of e,j3,_,Y,A,rfl,j2,j1,ra,q⟩
 walk_at "";have wn:=iY g;have bk:Pl (Str.ofString "")/\(Str.ofString "").length<=400:=⟨by unfold Pl;decide +kernel,by decide⟩;have aC:∀y∈bW m rs,Pl y/\y.length<=400:=λy hy=>⟨((C6 g).2 y hy).1,aR ((C6 g).2 y hy).2 (by decide)⟩;have Xo:∀{X:hO},(∀y∈X,Pl y/\y.length<=400)->∀y∈X++[Str.ofString ""]++Z,Pl y/\y.length<=400:=λ{X} hX y hy=>by
  rcases aK.mp hy with hy|hy
  .rcases aK.mp hy with hy|hy
   .exact hX y hy
   .rw[ax.mp hy];exact bk
  .exact⟨(ok y hy).pl,aR (ok y hy).len (by decide)⟩
 have Xp:∀{X:hO},X.length<=30->(X++[Str.ofString ""]++Z).length<=100:=λh=>by rw[ap,ap,bM];lia
 have Xq:∀{j:Hp}{p:Addr}{X:hO}{R:VK},γ H8 j->LS j p X->X.length<=30->(∀q H2,γ j H2->LS H2 q (X++[Str.ofString ""]++Z)->R (.ref q) H2)->[V.str (Str.ofString "")].length<=sizeLine/\∀q,j q=none->Rj (.ref p) (.ref q) (upd j q (.lst [V.str (Str.ofString "")])) λx j=>Rj x (.ref lr) j R:=λ{j p X R} s1 e1 lX r=>⟨bL (by simp),λq nq=>by
  have s2:=γ.new (HO.lst [V.str (Str.ofString "")]) nq;exact uu (s2 _ _ e1) (show LS _ q [Str.ofString ""]from aw) (by show _+1<=_;lia) λp3 H3 s3 e3=>uu e3 (s3 _ _ (s2 _ _ (s1 _ _ er))) (by rw[ap];show _+1+_<=_;lia) λp4 H4 s4 e4=>r p4 H4 (s2.trans (s3.trans s4)) e4⟩
 refine⟨by simp[Ra],Xq (γ.refl _) e8 (by lia) λq H9 s9 e9=>?_⟩;obtain⟨j1,j2,j3⟩:=Dw (Y:=bW m rs++[Str.ofString ""]++Z) (by simp) (Xo aC) (Xp (by lia));have ra:=Ga g (by lia) an;refine⟨_,q,_,rfl,rfl,ξ.of e9,j3,h8 _ _ (cW λN9 h9=>?_)⟩;have eb:=s9 _ _ e8;clear e9 h8;walk_at "";refine⟨_,_,_,rfl,j2,j1,ra,λhE Za=>h9 _ _ (cW λhm bY=>?_)⟩;have Zk:=s9.trans Za;clear s9 Za eb h9;walk_at "";refine⟨_,_,_,true,rfl,.str _,λcv r=>by cases(show cv=.type "str" from r);rfl,true,rfl,?_⟩;rw[ah (by decide),ah (λz=>z trivial)];refine⟨_,_,_,rfl,j2,j1,ra,λVF Zm=>⟨rfl,?_⟩⟩;rw[ah λz=>z rfl];refine bY _ _ (cW λhK cs=>?_);have Zm:=Zk.trans Zm;have Zb:=Zm _ _ e8;clear bY Zk j1 j2 j3 ra;walk_at "";refine⟨by simp[Ra],bL (by simp),λp1 n1=>?_⟩;have J:=γ.new (HO.lst [V.str (Str.ofString "")]) n1;refine uu (J _ _ Zb) (show LS _ p1 [Str.ofString ""]from aw) (by show _+1<=_;lia) λp2 ht Ϝ U9=>go U9 (by simp) (λy hy=>?_) (by rw[ap];show _+1<=_;lia) (A:=Str.ofString "") ?_ λhF iF=>⟨rfl,?_⟩
 .rcases aK.mp hy with hy|hy
  .exact aC y hy
  .rw[ax.mp hy];exact bk
 .have:=Ga g (Z:=[]) (by decide) .nil;rw[bR]at this;exact this
 rw[ah λz=>z rfl];have iF:=Zm.trans (J.trans (Ϝ.trans iF));have VE:=iF _ _ e8;refine⟨by simp[Ra],go VE (by unfold bW;simp) aC (by lia) (PK g) λhk Wi=>⟨rfl,?_⟩⟩;rw[ah λz=>z rfl];refine⟨_,_,Str.ofString "refused web",rfl,by decide,rfl,?_,λcx Wj=>⟨rfl,?_⟩⟩
 .rw[show Txt.split (Str.ofString "") (Str.ofString "\n")=[Str.ofString ""] by decide +kernel];exact Iw
 rw[ah λz=>z rfl];refine cs _ _ (cW λhb eN=>?_);have Wj:=iF.trans (Wi.trans Wj);clear cs J Zb U9 VE Zm Ϝ iF Wi;walk_at "";have Xr:=γ.seq (e6.trans Wj) ha;refine⟨a,ns,rfl,Xr,λv1=>⟨a,ns,2,rfl,Xr,by decide,λv2=>⟨bL (by simp),λlv cp=>⟨⟨_,ξ.of aw⟩,?_⟩⟩⟩⟩;have J:=γ.new (HO.lst [V.int v1,V.int v2]) cp;have ev:upd cx lv (HO.lst [V.int v1,V.int v2]) lv=some (HO.lst ([v1,v2].map V.int)):=aw;generalize upd cx lv (HO.lst [V.int v1,V.int v2])=fa at J ev ⊢;have cc:=Wj.trans J;clear J Wj Xr cp;have cy:∀{j:Hp}{p:Addr}{X:hO}{R:VK},γ H8 j->LS j p X->Rl X->(∀H2,γ j H2->R (.str (Str.ofString "refused web")) H2)->[V.str (Str.ofString "")].length<=sizeLine/\∀q,j q=none->Rj (.ref p) (.ref q) (upd j q (.lst [V.str (Str.ofString "")])) λx j=>Rj x (.ref lr) j λx j=>Et K (.str (Str.ofString "\n")) [x] j λx j=>AM T [x] j R E0:=λ{j p X R} s1 e1 U r=>Xq s1 e1 (aR U.1.1 (by decide)) λq H2 s2 e2=>go e2 (by simp) (Xo U.1.2) (Xp (aR U.1.1 (by decide))) (Oh U) λH3 s3=>r H3 (s2.trans s3);refine jC (K:=K) (xs:=[v1,v2].map V.int) (λi C av=>γ fa av/\∃(bd Va:Option V),C=[some (V.ref a),some (V.int m),some (V.ref l),some (V.ref x),some (V.int sz),some (V.ref lr),some (V.ref d),some (V.str ((Str.ofString "\n").join ae)),some (V.ref ll),some (V.str ((Str.ofString "\n").join (bW m rs++[Str.ofString ""]++Z))),some (V.str ((Str.ofString "\n").join ae)),bd,Va]) ⟨γ.refl _,_,_,rfl⟩ (λi C av _ z=>ξ.of (z.1 _ _ ev)) ?_ ?_
 .rintro i y C av N BB Ϗ hN hi ⟨Xn,bd,Va,rfl⟩;obtain⟨c,hc,rfl⟩:=List.ν hi;refine Ϗ _ _ (cW λM1 j1=>?_);have Zn:=cc.trans Xn;walk_at "";refine⟨ll,c,m,rs,rfl,Zn _ _ e8,g,λq X ey VH a9 U=>j1 _ _ (cW λM2 j2=>?_)⟩;have ct:=Zn.trans VH;clear j1;walk_at "";refine⟨by simp[Ra],cy ct a9 U λeQ a6=>⟨rfl,?_⟩⟩;rw[ah λz=>z rfl];have cn:=ct.trans a6;refine j2 _ _ ?_;clear j2;walk_at "";refine⟨by simp[Ra],⟨by decide,by decide⟩,ll,_,m,rs,rfl,cn _ _ e8,g,λq2 X2 cl bl fj ea=>cy (cn.trans bl) fj ea λhH es=>⟨rfl,?_⟩⟩;rw[ah λz=>z rfl];exact hN _ _ ⟨Xn.trans (VH.trans (a6.trans (bl.trans es))),_,_,rfl⟩
 .rintro BB C av Ϗ ⟨Xn,bd,Va,rfl⟩;refine Ϗ _ _ (eN _ _ ?_);have Zn:=cc.trans Xn;walk_at "";refine⟨by simp[Ra],bL (by simp),λp1 n1=>?_⟩;have J:=γ.new (HO.lst [V.str (Str.ofString "")]) n1;have l1:([Str.ofString ""]++bW m rs).length<=30:=by rw[ap];show 1+_<=_;lia
  refine uu (show LS _ p1 [Str.ofString ""]from aw) (J _ _ (Zn _ _ e8)) (by show 1+_<=_;lia) λp2 ey VH a9=>Xq (Zn.trans (J.trans VH)) a9 l1 λq eQ a6 eA=>go eA (by simp) (Xo λy hy=>?_) (Xp l1) Iw λcl bl=>⟨rfl,?_⟩
  .rcases aK.mp hy with hy|hy
   .rw[ax.mp hy];exact bk
   .exact aC y hy
  .rw[bB rfl];exact k cl
end
theorem walk{l:PySem.W.OpenLaw}{q:Program}{c:hO}{XP:(Str->Option Value)->Heap->Prop}{i:World->Heap->Prop}{d:DefRec}{K:Params->PySem.W.Frag}(t:l.most=some 63)(m:d.params.defaults=[])(v:∀(w:World) (h:Heap),i w h->(K w.params).In h)(F:∀(w:World) (e:hL) (g:Addr) (h:Heap),(K w.params).In h->h.Ns mainGlobals e->e d.name=some (.ref g)->∃j:FuncData,(∀(s:Shared) (u:Value),BindsTo s j ⟨[u],[]⟩ [("script",u)])/\∀b:Heap,(K w.params).In b->b.Ns mainGlobals e->ϋ l.prog w (K w.params) e b (ψ l.prog w) 66 g j ["script"] (IK (K w.params))):PySem.W.WalkO q c XP i l.row.toRowW d [] (λf o=>PySem.call f o):=L2.Vp (n:=63) (k:=66) (x:="script") (CX:=λw=>ψ l.prog w) (sp:=λw=>IK (K w.params)) t (by decide) m ⟨rfl,by decide,by decide⟩ v F (λ_ _ a p y _ r=>⟨a,p,rfl,r,y,λ_=>rfl⟩) λ_ _ _ _ _ z=>bF _ _ _ _ _ z
end Pk
open L2
open PySem PySem.W PyProof.Rows
set_option maxRecDepth 100000 in
set_option maxHeartbeats 0 in
theorem PySem.Challenge.cw_pebbletoll_k65_whole_texts_run_holds : PySem.Challenge.rw_pebbletoll_k65_whole_texts_run.Holds := by
 w_on;refine PySem.W.holds_law Hd.ws λajh=>?_
 refine PySem.W.holds_open (q:=Hd.qq) (loose:=["NUMBERS_BEHIND"]) (Xt:=(λs=>PySem.W.xlAt Hd.qq [] s&&PySem.W.recOk (PySem.W.RowW.records (PySem.W.OpenRow.toRowW (PySem.Challenge.rw_pebbletoll_k65_whole_texts_run).row)) s)) (XP:=PySem.W.XL Hd.qq []) (Yf:=PySem.W.Hook.obs (PySem.W.kHook Hd.KK Hd.T9 Hd.ϟ)) (Ya:=PySem.W.Hook.val (PySem.W.kHook Hd.KK Hd.T9 Hd.ϟ)) (YP:=PySem.W.Hook.says (PySem.W.kHook Hd.KK Hd.T9 Hd.ϟ)) (N:=13548) Hd.left (PySem.W.Hook.of (PySem.W.kHook Hd.KK Hd.T9 Hd.ϟ)) (PySem.W.Hook.keeps (PySem.W.kHook Hd.KK Hd.T9 Hd.ϟ)) (λs e=>PySem.W.xl_of s (nR.mp e).1) PySem.W.XL.keeps (by rfl) (by rfl) (by rfl) (λs e=>PySem.W.recFacts_of (nR.mp e).2) (by rfl) (by assumption) (by decide +kernel) ⟨rfl,rfl,rfl,rfl,rfl,by decide +kernel⟩ ?hw ?hc
 (case hw=>w_witness2)
 k_fill
 refine Pk.walk (l:=PySem.Challenge.rw_pebbletoll_k65_whole_texts_run) rfl rfl (λw h Y=>PySem.W.kIn_of Y) λw mg fa h X G Yl=>?_
 let T:Pk.Txt (Hd.KK w.params) mg:=by
  constructor
  all_goals first|exact jW X G (by k_is)|exact PySem.W.mg_none_of X G (by k_is)|exact⟨_,jW X G (by k_is)⟩|k_is|exact Pb.adt (by k_is)|exact⟨by k_is,by k_is,by k_is,by k_is⟩|exact⟨by k_is,by k_is,by k_is⟩|decide|exact OU (by k_is) (by k_is) (by k_is) (by k_is) (by k_is) (by k_is) (by k_is) (by k_is) (by rfl)|exact OX (by k_is) (by k_is) (by k_is) (by k_is) (by k_is) (by k_is) (by k_is) (by k_is) (by rfl)|exact OA _ _ _ _ _ _ _ _ _ _ _ _ _ _ _ _ (by k_is) (by rfl) (by kernel_rfl) (by k_is) (by kernel_rfl)|exact OB (by k_is) (by rfl) (by k_is) (by k_is) (by k_is)|exact⟨_,_,_,by k_is,rfl,rfl,by show 4<=sizeLine;decide,.cons ⟨_,rfl⟩ (.cons ⟨_,rfl⟩ (.cons ⟨_,rfl⟩ (.cons ⟨_,rfl⟩ (.nil))))⟩
 refine Pb.lw (st:=Pk.rH) X G Yl λbase _ _ D=>?_;have C:=@Pb.cd PySem.Challenge.rw_pebbletoll_k65_whole_texts_run.prog w _ _ _ base X G;have M:=@Pb.cm PySem.Challenge.rw_pebbletoll_k65_whole_texts_run.prog w (Hd.KK w.params) mg base;have Q7:=Pb.dkN (w:=w) (K:=(Hd.KK w.params)) "NUMBERS_BEHIND" Hd.Ϩ (by decide +kernel);have mB:=Pb.df (x:="load_by") (st:=Pk.lx) (ps:=["outlook","place","kid","room"]) X G;have eA:=Pb.df (x:="greatest_load") (st:=Pk.cU) (ps:=["outlook","place","over"]) X G;have rn:=C (Pk.AR T bF);have jt:=C (Pk.G2 T bF);have sZ:=C (Pk.D9 T bF jt);have mw:=C (Pk.Ea T bF);have rh:=C (Pk.Bh T bF mw);have se:=C (Pk.Cr T bF);have dQ:=M "Web" (R:=Mk) (Pk.B4 T bF rn sZ rh se);have u6:=C (Pk.E1 T bF);have fQ:=M "Desk" (R:=Mk) (Pk.zT T bF dQ);have bj:=M "BadText" (R:=sI) (Pk.xa T bF);have oC:=M "Desk" (R:=(Meth · · "deeds")) (Pk.Eo T bF);have pD:=M "Desk" (R:=(Meth · · "back")) (Pk.ER T bF oC);have fD:=M "Desk" (R:=(Meth · · "keep")) (Pk.FW T bF);have bU:=M "Desk" (R:=(Meth · · "laying")) (Pk.Cj T bF);have cf:=M "Desk" (R:=(Meth · · "wish")) (Pk.Fk T bF);have dS:=C (Pk.C0 T bF jt);have nD:=C (Pk.E2 T bF);have gr:=C (Pk.FO T bF nD);have JK:=C (Pk.Pt T bF dS gr);have EO:=C (Pk.NY T bF JK);have qu:=M "Desk" (R:=(Meth · · "put")) (Pk.GK T bF fD bU cf EO);have gJ:=M "BadStep" (R:=sI) (Pk.xh T bF);have eI:=C (Pk.Ob T bF dS);have sO:=C (Pk.LM T bF eI);have zF:=C (Pk.Lc T bF sO);have mx:=C (Pk.Ek T bF dS mw);have x8:=C (Pk.Jm T bF jt mx);have r9:=C (Pk.Cu T bF x8 sO);have xz:=C (Pk.JI T bF gJ zF r9 gr);have zX:=C (Pk.J7 T bF xz);have pj:=M "Desk" (R:=(Meth · · "step")) (Pk.Fg T bF fD bU cf zX);have i4:=C (Pk.JP T bF nD);have pd:=M "Desk" (R:=(Meth · · "want")) (Pk.EZ T bF fD bU cf dS i4);have x6:=C (Pk.Jn T bF pD qu pj pd);have uS:=C (Pk.EB T bF);have kQ:=C (Pk.CA T bF bj uS);have ms:=C (Pk.D4 T bF bj kQ);have mX:=C (Pk.Oe T bF mx);have oM:=C (Pk.Mp T bF dS mX);have kc:=C (Pk.Nl T bF);have eN:=C (Pk.EM T bF kc);have hZ:=C (Pk.MV T bF);have fR:=Pk.zU (P:=PySem.Challenge.rw_pebbletoll_k65_whole_texts_run.prog) (w:=w) (base:=base) T bF eA mB kc eN eI hZ;have uM:=C (Pk.ED T bF eA fR eN eI);have FC:=C (Pk.NO T bF oM mX);have fE:=C (Pk.KN T bF oM FC);have CD:=C (Pk.LF T bF fE eI i4);have jE:=M "Outlook" (R:=Mk) (Pk.xi T bF oM uM fE mX CD);have xT:=C (Pk.Jj T bF jE eA fR);have pT:=C (Pk.Jd T bF hZ i4);have sR:=C (Pk.LN T bF xT pT);have zO:=C (Pk.Kf T bF sR pT hZ);have oO:=C (Pk.GV T bF fE gr eI);have C7:=C (Pk.Ng T bF oO fE eI);have nB:=C (Pk.GB T bF eI);have jo:=C (Pk.EN T bF nB fE gr i4);have ir:=C (Pk.GM T bF jo);have Aa:=C (Pk.Kr T bF ir);have wK:=C (Pk.GJ T bF ir);have vT:=C (Pk.G6 T bF nB fE jo);have uL:=C (Pk.Fh T bF fE jo);have yg:=C (Pk.Iz T bF Aa wK vT uL);have eR:=C (Pk.CG T bF);have eC:=C (Pk.BM T bF eR);have lW:=C (Pk.Ej T bF eC);have rf:=C (Pk.Bs T bF eC lW);have FY:=C (Pk.Oz T bF oO);have qc:=C (Pk.zV T bF eR);have qJ:=C (Pk.Ba T bF bU cf zO C7 sR yg rf FY eR eC ir qc lW);have uG:=C (Pk.FL T bF bj x6 ms qJ Q7);have gL:=M "Desk" (R:=(Meth · · "answer")) (Pk.CB T bF uG);have lz:=C (Pk.GZ T bF);have tF:=C (Pk.Eb T bF);have ww:=C (Pk.G4 T bF);have tM:=C (Pk.Eh T bF);have ub:=C (Pk.IV T bF);have uJ:=C (Pk.F5 T bF lz ub u6);have vV:=C (Pk.G3 T bF);have vc:=C (Pk.Gk T bF);have mf:=C (Pk.DZ T bF vV vc);have tE:=C (Pk.D2 T bF);have qW:=C (Pk.BC T bF);have uH:=C (Pk.FU T bF bj);have mG:=C (Pk.GR T bF bj ms);have vR:=C (Pk.GO T bF dQ uH mG);have rL:=C (Pk.Pz T bF fQ gL vR);exact Pk.Ph T bF D fQ gL dQ lz tF ww tM uJ mf tE qW rL
#print axioms PySem.Challenge.cw_pebbletoll_k65_whole_texts_run_holds