import PyProof.Rows.All
import Wide.All
import OpenK.AllK
import Wide.FinOn
import Lean
import PyProof.EqAt
import PyProof.EqKinds
import PyProof.TupleCall
import PyProof.P3Eq
import PyProof.NeData
import PyProof.FitsBits
import PyProof.ZipIter
import PyProof.TupleIter
import KE.KRevIter
import PyProof.TupleOfGen
import PyProof.ListRange
import KE.KIsAll
import PyProof.ExcArgsOwn
import OpenK.KDescr
import PyProof.StationsW
import PyProof.ExcBaseAll.ValueError
import OpenK.KOwn
import PyProof.RulesAs
import PyProof.RulesDel
import PyProof.Rows.SortWalk
import PyProof.CompUse
import KE.KDictSum
import PyProof.WalkInts
import KE.KSortTup
import PyProof.Rows.TupDisplay
import KE.KIntText
import PyProof.JoinWalk
import PyProof.ExcInit
import PyProof.ExcClass2
import PySem.Challenge.RW_pebbletoll_k01_errors_apart
set_option Elab.async false
set_option linter.all false
set_option maxRecDepth 100000
namespace Hd
open PySem
def top (i : Nat) : Stmt := PySem.Challenge.pw_pebbletoll_k01_errors_apart.main.body.getD i (.Pass ⟨0, 0, 0, 0⟩)
def inC (s : Stmt) (j : Nat) : Stmt := match s with
  | .ClassDef _ _ _ b _ _ _ _ _ _ _ => b.getD j (.Pass ⟨0, 0, 0, 0⟩)
  | _ => .Pass ⟨0, 0, 0, 0⟩
def kA (s : Stmt) : Arguments := match s with
  | .FunctionDef _ a _ _ _ _ _ _ _ _ => a
  | _ => { posonlyargs := [], args := [], vararg := none, kwonlyargs := [], kw_defaults := [], kwarg := none, defaults := [] }
def kB (s : Stmt) : List Stmt := match s with
  | .FunctionDef _ _ b _ _ _ _ _ _ _ => b
  | _ => []
def kS (s : Stmt) : Scope := match s with
  | .FunctionDef _ _ _ _ _ _ sc _ _ _ => sc
  | _ => { kind := .function, names := [], isGenerator := false, isCoroutine := false }
def en (P : Params) (s : Str) (t : Tok) (v : Value) : DictEntry := .mk (PyData.keyHash P s) (.str s t) v
def cO (a b : Str) (t1 t2 t3 : Tok) (i1 i2 i3 i4 i5 : Int) (r1 : Value) (b1 : Bool) (i6 : Int) (r2 v1 v2 v3 r3 : Value) (i7 i8 : Int) (t4 : Tok) : Obj := .mk (.type "code") none (.fields #[.str a t1, .str b t2, .str "/claim/cut.py" t3, .int i1 0, .int i2 0, .int i3 0, .int i4 0, .int i5 0, r1, .bool b1, .int i6 0, r2, v1, v2, v3, r3, .int i7 0, .int i8 0, .str "/claim/cut.py" t4]) #[]
def fR (a b : Str) (s : Stmt) : Obj := .mk .none none (.func (.mk a b (kA s) (.stmts (kB s)) (kS s) 0 [] .none .none .none .none none .none .none 0)) #[]
def fO (a b : Str) (s : Stmt) (pm cd : Value) : Obj := .mk (.type "function") none (.func (PySem.W.fnOf a b (kA s) (kB s) (kS s) .none .none .none pm none cd .none)) #[]
def tO (xs : Array Value) : Obj := .mk (.type "tuple") none (.seq xs 0) #[]
def KK : PySem.Params → PySem.W.Frag := fun P =>
  (nat_lit 2, (.mk .none none (.dict #[] 0) #[])) ::
  (nat_lit 3, (.mk (.type "dict") none (.dict #[(.mk (PySem.PyData.keyHash P ⟨#[95, 95, 110, 97, 109, 101, 95, 95]⟩) (.str ⟨#[95, 95, 110, 97, 109, 101, 95, 95]⟩ 165) (.str ⟨#[108, 97, 119, 95, 112, 101, 98, 98, 108, 101, 116, 111, 108, 108, 95, 107, 48, 49, 95, 101, 114, 114, 111, 114, 115, 95, 97, 112, 97, 114, 116]⟩ 401)), (.mk (PySem.PyData.keyHash P ⟨#[95, 95, 100, 111, 99, 95, 95]⟩) (.str ⟨#[95, 95, 100, 111, 99, 95, 95]⟩ 166) .none), (.mk (PySem.PyData.keyHash P ⟨#[95, 95, 112, 97, 99, 107, 97, 103, 101, 95, 95]⟩) (.str ⟨#[95, 95, 112, 97, 99, 107, 97, 103, 101, 95, 95]⟩ 167) .none), (.mk (PySem.PyData.keyHash P ⟨#[95, 95, 108, 111, 97, 100, 101, 114, 95, 95]⟩) (.str ⟨#[95, 95, 108, 111, 97, 100, 101, 114, 95, 95]⟩ 168) (.builtin "__main__.__loader__#opaque")), (.mk (PySem.PyData.keyHash P ⟨#[95, 95, 115, 112, 101, 99, 95, 95]⟩) (.str ⟨#[95, 95, 115, 112, 101, 99, 95, 95]⟩ 169) .none), (.mk (PySem.PyData.keyHash P ⟨#[95, 95, 97, 110, 110, 111, 116, 97, 116, 105, 111, 110, 115, 95, 95]⟩) (.str ⟨#[95, 95, 97, 110, 110, 111, 116, 97, 116, 105, 111, 110, 115, 95, 95]⟩ 170) (.ref 6)), (.mk (PySem.PyData.keyHash P ⟨#[95, 95, 98, 117, 105, 108, 116, 105, 110, 115, 95, 95]⟩) (.str ⟨#[95, 95, 98, 117, 105, 108, 116, 105, 110, 115, 95, 95]⟩ 171) (.ref 4)), (.mk (PySem.PyData.keyHash P ⟨#[95, 95, 102, 105, 108, 101, 95, 95]⟩) (.str ⟨#[95, 95, 102, 105, 108, 101, 95, 95]⟩ 173) (.str ⟨#[47, 99, 108, 97, 105, 109, 47, 99, 117, 116, 46, 112, 121]⟩ 172)), (.mk (PySem.PyData.keyHash P ⟨#[95, 95, 99, 97, 99, 104, 101, 100, 95, 95]⟩) (.str ⟨#[95, 95, 99, 97, 99, 104, 101, 100, 95, 95]⟩ 174) .none), (.mk (PySem.PyData.keyHash P ⟨#[84, 111, 108, 108, 69, 114, 114, 111, 114]⟩) (.str ⟨#[84, 111, 108, 108, 69, 114, 114, 111, 114]⟩ 206) (.ref 24)), (.mk (PySem.PyData.keyHash P ⟨#[66, 97, 100, 87, 101, 98]⟩) (.str ⟨#[66, 97, 100, 87, 101, 98]⟩ 222) (.ref 37)), (.mk (PySem.PyData.keyHash P ⟨#[78, 111, 80, 108, 97, 99, 101]⟩) (.str ⟨#[78, 111, 80, 108, 97, 99, 101]⟩ 238) (.ref 49)), (.mk (PySem.PyData.keyHash P ⟨#[78, 111, 82, 111, 97, 100]⟩) (.str ⟨#[78, 111, 82, 111, 97, 100]⟩ 254) (.ref 61)), (.mk (PySem.PyData.keyHash P ⟨#[66, 97, 100, 76, 97, 121, 105, 110, 103]⟩) (.str ⟨#[66, 97, 100, 76, 97, 121, 105, 110, 103]⟩ 270) (.ref 73)), (.mk (PySem.PyData.keyHash P ⟨#[66, 97, 100, 87, 105, 115, 104]⟩) (.str ⟨#[66, 97, 100, 87, 105, 115, 104]⟩ 286) (.ref 85)), (.mk (PySem.PyData.keyHash P ⟨#[84, 111, 111, 77, 97, 110, 121]⟩) (.str ⟨#[84, 111, 111, 77, 97, 110, 121]⟩ 302) (.ref 97)), (.mk (PySem.PyData.keyHash P ⟨#[78, 111, 78, 117, 109, 98, 101, 114]⟩) (.str ⟨#[78, 111, 78, 117, 109, 98, 101, 114]⟩ 318) (.ref 109)), (.mk (PySem.PyData.keyHash P ⟨#[78, 111, 87, 111, 114, 115, 116]⟩) (.str ⟨#[78, 111, 87, 111, 114, 115, 116]⟩ 334) (.ref 121)), (.mk (PySem.PyData.keyHash P ⟨#[78, 111, 68, 101, 101, 100]⟩) (.str ⟨#[78, 111, 68, 101, 101, 100]⟩ 350) (.ref 133)), (.mk (PySem.PyData.keyHash P ⟨#[66, 97, 100, 83, 116, 101, 112]⟩) (.str ⟨#[66, 97, 100, 83, 116, 101, 112]⟩ 375) (.ref 152)), (.mk (PySem.PyData.keyHash P ⟨#[66, 97, 100, 84, 101, 120, 116]⟩) (.str ⟨#[66, 97, 100, 84, 101, 120, 116]⟩ 400) (.ref 171)), (.mk (PySem.PyData.keyHash P ⟨#[95, 108, 97, 119, 95, 119, 104, 111, 108, 101]⟩) (.str ⟨#[95, 108, 97, 119, 95, 119, 104, 111, 108, 101]⟩ 409) (.ref 180)), (.mk (PySem.PyData.keyHash P ⟨#[95, 108, 97, 119, 95, 109, 97, 114, 107, 115]⟩) (.str ⟨#[95, 108, 97, 119, 95, 109, 97, 114, 107, 115]⟩ 417) (.ref 187)), (.mk (PySem.PyData.keyHash P ⟨#[95, 108, 97, 119, 95, 114, 97, 105, 115, 101, 100]⟩) (.str ⟨#[95, 108, 97, 119, 95, 114, 97, 105, 115, 101, 100]⟩ 425) (.ref 194)), (.mk (PySem.PyData.keyHash P ⟨#[95, 108, 97, 119, 95, 99, 97, 117, 103, 104, 116]⟩) (.str ⟨#[95, 108, 97, 119, 95, 99, 97, 117, 103, 104, 116]⟩ 435) (.ref 201)), (.mk (PySem.PyData.keyHash P ⟨#[108, 97, 119]⟩) (.str ⟨#[108, 97, 119]⟩ 441) (.ref 206))] 26) #[])) ::
  (nat_lit 6, (.mk (.type "dict") none (.dict #[] 0) #[])) ::
  (nat_lit 15, (tO #[(.type "ValueError")])) ::
  (nat_lit 22, (tO #[])) ::
  (nat_lit 23, (.mk (.type "dict") none (.dict #[(.mk (PySem.PyData.keyHash P ⟨#[95, 95, 109, 111, 100, 117, 108, 101, 95, 95]⟩) (.str ⟨#[95, 95, 109, 111, 100, 117, 108, 101, 95, 95]⟩ 196) (.str ⟨#[112, 101, 98, 98, 108, 101, 116, 111, 108, 108, 46, 101, 114, 114, 111, 114, 115]⟩ 187)), (.mk (PySem.PyData.keyHash P ⟨#[95, 95, 102, 105, 114, 115, 116, 108, 105, 110, 101, 110, 111, 95, 95]⟩) (.str ⟨#[95, 95, 102, 105, 114, 115, 116, 108, 105, 110, 101, 110, 111, 95, 95]⟩ 200) (.int 2 199)), (.mk (PySem.PyData.keyHash P ⟨#[95, 95, 115, 116, 97, 116, 105, 99, 95, 97, 116, 116, 114, 105, 98, 117, 116, 101, 115, 95, 95]⟩) (.str ⟨#[95, 95, 115, 116, 97, 116, 105, 99, 95, 97, 116, 116, 114, 105, 98, 117, 116, 101, 115, 95, 95]⟩ 201) (.ref 22)), (.mk (PySem.PyData.keyHash P ⟨#[95, 95, 119, 101, 97, 107, 114, 101, 102, 95, 95]⟩) (.str ⟨#[95, 95, 119, 101, 97, 107, 114, 101, 102, 95, 95]⟩ 203) (.ref 25)), (.mk (PySem.PyData.keyHash P ⟨#[95, 95, 100, 111, 99, 95, 95]⟩) (.str ⟨#[95, 95, 100, 111, 99, 95, 95]⟩ 204) .none)] 3) #[])) ::
  (nat_lit 24, (.mk (.type "type") none (.cls (.mk ⟨#[84, 111, 108, 108, 69, 114, 114, 111, 114]⟩ [(.type "ValueError")] [(.ref 24), (.type "ValueError"), (.type "Exception"), (.type "BaseException"), (.type "object")] 23 ⟨#[84, 111, 108, 108, 69, 114, 114, 111, 114]⟩ true [] [(.ref 37), (.ref 49), (.ref 61), (.ref 73), (.ref 85), (.ref 97), (.ref 109), (.ref 121), (.ref 133), (.ref 152), (.ref 171)] false none false)) #[(some (.ref 15)), none, (some (.str ⟨#[84, 111, 108, 108, 69, 114, 114, 111, 114]⟩ 189)), (some (.str ⟨#[84, 111, 108, 108, 69, 114, 114, 111, 114]⟩ 197)), (some (.builtin "ValueError.__new__")), (some (.bool true))])) ::
  (nat_lit 25, (.mk (.type "getset_descriptor") none (.fields #[(.str ⟨#[95, 95, 119, 101, 97, 107, 114, 101, 102, 95, 95]⟩ 202), (.ref 24), (.builtin "ExceptionGroup.__weakref__"), .none]) #[])) ::
  (nat_lit 28, (tO #[(.ref 24)])) ::
  (nat_lit 35, (tO #[])) ::
  (nat_lit 36, (.mk (.type "dict") none (.dict #[(.mk (PySem.PyData.keyHash P ⟨#[95, 95, 109, 111, 100, 117, 108, 101, 95, 95]⟩) (.str ⟨#[95, 95, 109, 111, 100, 117, 108, 101, 95, 95]⟩ 214) (.str ⟨#[112, 101, 98, 98, 108, 101, 116, 111, 108, 108, 46, 101, 114, 114, 111, 114, 115]⟩ 187)), (.mk (PySem.PyData.keyHash P ⟨#[95, 95, 102, 105, 114, 115, 116, 108, 105, 110, 101, 110, 111, 95, 95]⟩) (.str ⟨#[95, 95, 102, 105, 114, 115, 116, 108, 105, 110, 101, 110, 111, 95, 95]⟩ 218) (.int 4 217)), (.mk (PySem.PyData.keyHash P ⟨#[95, 95, 115, 116, 97, 116, 105, 99, 95, 97, 116, 116, 114, 105, 98, 117, 116, 101, 115, 95, 95]⟩) (.str ⟨#[95, 95, 115, 116, 97, 116, 105, 99, 95, 97, 116, 116, 114, 105, 98, 117, 116, 101, 115, 95, 95]⟩ 219) (.ref 35)), (.mk (PySem.PyData.keyHash P ⟨#[95, 95, 100, 111, 99, 95, 95]⟩) (.str ⟨#[95, 95, 100, 111, 99, 95, 95]⟩ 220) .none)] 2) #[])) ::
  (nat_lit 37, (.mk (.type "type") none (.cls (.mk ⟨#[66, 97, 100, 87, 101, 98]⟩ [(.ref 24)] [(.ref 37), (.ref 24), (.type "ValueError"), (.type "Exception"), (.type "BaseException"), (.type "object")] 36 ⟨#[66, 97, 100, 87, 101, 98]⟩ true [] [] false none false)) #[(some (.ref 28)), none, (some (.str ⟨#[66, 97, 100, 87, 101, 98]⟩ 207)), (some (.str ⟨#[66, 97, 100, 87, 101, 98]⟩ 215)), (some (.builtin "ValueError.__new__")), (some (.bool true))])) ::
  (nat_lit 40, (tO #[(.ref 24)])) ::
  (nat_lit 47, (tO #[])) ::
  (nat_lit 48, (.mk (.type "dict") none (.dict #[(.mk (PySem.PyData.keyHash P ⟨#[95, 95, 109, 111, 100, 117, 108, 101, 95, 95]⟩) (.str ⟨#[95, 95, 109, 111, 100, 117, 108, 101, 95, 95]⟩ 230) (.str ⟨#[112, 101, 98, 98, 108, 101, 116, 111, 108, 108, 46, 101, 114, 114, 111, 114, 115]⟩ 187)), (.mk (PySem.PyData.keyHash P ⟨#[95, 95, 102, 105, 114, 115, 116, 108, 105, 110, 101, 110, 111, 95, 95]⟩) (.str ⟨#[95, 95, 102, 105, 114, 115, 116, 108, 105, 110, 101, 110, 111, 95, 95]⟩ 234) (.int 6 233)), (.mk (PySem.PyData.keyHash P ⟨#[95, 95, 115, 116, 97, 116, 105, 99, 95, 97, 116, 116, 114, 105, 98, 117, 116, 101, 115, 95, 95]⟩) (.str ⟨#[95, 95, 115, 116, 97, 116, 105, 99, 95, 97, 116, 116, 114, 105, 98, 117, 116, 101, 115, 95, 95]⟩ 235) (.ref 47)), (.mk (PySem.PyData.keyHash P ⟨#[95, 95, 100, 111, 99, 95, 95]⟩) (.str ⟨#[95, 95, 100, 111, 99, 95, 95]⟩ 236) .none)] 2) #[])) ::
  (nat_lit 49, (.mk (.type "type") none (.cls (.mk ⟨#[78, 111, 80, 108, 97, 99, 101]⟩ [(.ref 24)] [(.ref 49), (.ref 24), (.type "ValueError"), (.type "Exception"), (.type "BaseException"), (.type "object")] 48 ⟨#[78, 111, 80, 108, 97, 99, 101]⟩ true [] [] false none false)) #[(some (.ref 40)), none, (some (.str ⟨#[78, 111, 80, 108, 97, 99, 101]⟩ 223)), (some (.str ⟨#[78, 111, 80, 108, 97, 99, 101]⟩ 231)), (some (.builtin "ValueError.__new__")), (some (.bool true))])) ::
  (nat_lit 52, (tO #[(.ref 24)])) ::
  (nat_lit 59, (tO #[])) ::
  (nat_lit 60, (.mk (.type "dict") none (.dict #[(.mk (PySem.PyData.keyHash P ⟨#[95, 95, 109, 111, 100, 117, 108, 101, 95, 95]⟩) (.str ⟨#[95, 95, 109, 111, 100, 117, 108, 101, 95, 95]⟩ 246) (.str ⟨#[112, 101, 98, 98, 108, 101, 116, 111, 108, 108, 46, 101, 114, 114, 111, 114, 115]⟩ 187)), (.mk (PySem.PyData.keyHash P ⟨#[95, 95, 102, 105, 114, 115, 116, 108, 105, 110, 101, 110, 111, 95, 95]⟩) (.str ⟨#[95, 95, 102, 105, 114, 115, 116, 108, 105, 110, 101, 110, 111, 95, 95]⟩ 250) (.int 8 249)), (.mk (PySem.PyData.keyHash P ⟨#[95, 95, 115, 116, 97, 116, 105, 99, 95, 97, 116, 116, 114, 105, 98, 117, 116, 101, 115, 95, 95]⟩) (.str ⟨#[95, 95, 115, 116, 97, 116, 105, 99, 95, 97, 116, 116, 114, 105, 98, 117, 116, 101, 115, 95, 95]⟩ 251) (.ref 59)), (.mk (PySem.PyData.keyHash P ⟨#[95, 95, 100, 111, 99, 95, 95]⟩) (.str ⟨#[95, 95, 100, 111, 99, 95, 95]⟩ 252) .none)] 2) #[])) ::
  (nat_lit 61, (.mk (.type "type") none (.cls (.mk ⟨#[78, 111, 82, 111, 97, 100]⟩ [(.ref 24)] [(.ref 61), (.ref 24), (.type "ValueError"), (.type "Exception"), (.type "BaseException"), (.type "object")] 60 ⟨#[78, 111, 82, 111, 97, 100]⟩ true [] [] false none false)) #[(some (.ref 52)), none, (some (.str ⟨#[78, 111, 82, 111, 97, 100]⟩ 239)), (some (.str ⟨#[78, 111, 82, 111, 97, 100]⟩ 247)), (some (.builtin "ValueError.__new__")), (some (.bool true))])) ::
  (nat_lit 64, (tO #[(.ref 24)])) ::
  (nat_lit 71, (tO #[])) ::
  (nat_lit 72, (.mk (.type "dict") none (.dict #[(.mk (PySem.PyData.keyHash P ⟨#[95, 95, 109, 111, 100, 117, 108, 101, 95, 95]⟩) (.str ⟨#[95, 95, 109, 111, 100, 117, 108, 101, 95, 95]⟩ 262) (.str ⟨#[112, 101, 98, 98, 108, 101, 116, 111, 108, 108, 46, 101, 114, 114, 111, 114, 115]⟩ 187)), (.mk (PySem.PyData.keyHash P ⟨#[95, 95, 102, 105, 114, 115, 116, 108, 105, 110, 101, 110, 111, 95, 95]⟩) (.str ⟨#[95, 95, 102, 105, 114, 115, 116, 108, 105, 110, 101, 110, 111, 95, 95]⟩ 266) (.int 10 265)), (.mk (PySem.PyData.keyHash P ⟨#[95, 95, 115, 116, 97, 116, 105, 99, 95, 97, 116, 116, 114, 105, 98, 117, 116, 101, 115, 95, 95]⟩) (.str ⟨#[95, 95, 115, 116, 97, 116, 105, 99, 95, 97, 116, 116, 114, 105, 98, 117, 116, 101, 115, 95, 95]⟩ 267) (.ref 71)), (.mk (PySem.PyData.keyHash P ⟨#[95, 95, 100, 111, 99, 95, 95]⟩) (.str ⟨#[95, 95, 100, 111, 99, 95, 95]⟩ 268) .none)] 2) #[])) ::
  (nat_lit 73, (.mk (.type "type") none (.cls (.mk ⟨#[66, 97, 100, 76, 97, 121, 105, 110, 103]⟩ [(.ref 24)] [(.ref 73), (.ref 24), (.type "ValueError"), (.type "Exception"), (.type "BaseException"), (.type "object")] 72 ⟨#[66, 97, 100, 76, 97, 121, 105, 110, 103]⟩ true [] [] false none false)) #[(some (.ref 64)), none, (some (.str ⟨#[66, 97, 100, 76, 97, 121, 105, 110, 103]⟩ 255)), (some (.str ⟨#[66, 97, 100, 76, 97, 121, 105, 110, 103]⟩ 263)), (some (.builtin "ValueError.__new__")), (some (.bool true))])) ::
  (nat_lit 76, (tO #[(.ref 24)])) ::
  (nat_lit 83, (tO #[])) ::
  (nat_lit 84, (.mk (.type "dict") none (.dict #[(.mk (PySem.PyData.keyHash P ⟨#[95, 95, 109, 111, 100, 117, 108, 101, 95, 95]⟩) (.str ⟨#[95, 95, 109, 111, 100, 117, 108, 101, 95, 95]⟩ 278) (.str ⟨#[112, 101, 98, 98, 108, 101, 116, 111, 108, 108, 46, 101, 114, 114, 111, 114, 115]⟩ 187)), (.mk (PySem.PyData.keyHash P ⟨#[95, 95, 102, 105, 114, 115, 116, 108, 105, 110, 101, 110, 111, 95, 95]⟩) (.str ⟨#[95, 95, 102, 105, 114, 115, 116, 108, 105, 110, 101, 110, 111, 95, 95]⟩ 282) (.int 12 281)), (.mk (PySem.PyData.keyHash P ⟨#[95, 95, 115, 116, 97, 116, 105, 99, 95, 97, 116, 116, 114, 105, 98, 117, 116, 101, 115, 95, 95]⟩) (.str ⟨#[95, 95, 115, 116, 97, 116, 105, 99, 95, 97, 116, 116, 114, 105, 98, 117, 116, 101, 115, 95, 95]⟩ 283) (.ref 83)), (.mk (PySem.PyData.keyHash P ⟨#[95, 95, 100, 111, 99, 95, 95]⟩) (.str ⟨#[95, 95, 100, 111, 99, 95, 95]⟩ 284) .none)] 2) #[])) ::
  (nat_lit 85, (.mk (.type "type") none (.cls (.mk ⟨#[66, 97, 100, 87, 105, 115, 104]⟩ [(.ref 24)] [(.ref 85), (.ref 24), (.type "ValueError"), (.type "Exception"), (.type "BaseException"), (.type "object")] 84 ⟨#[66, 97, 100, 87, 105, 115, 104]⟩ true [] [] false none false)) #[(some (.ref 76)), none, (some (.str ⟨#[66, 97, 100, 87, 105, 115, 104]⟩ 271)), (some (.str ⟨#[66, 97, 100, 87, 105, 115, 104]⟩ 279)), (some (.builtin "ValueError.__new__")), (some (.bool true))])) ::
  (nat_lit 88, (tO #[(.ref 24)])) ::
  (nat_lit 95, (tO #[])) ::
  (nat_lit 96, (.mk (.type "dict") none (.dict #[(.mk (PySem.PyData.keyHash P ⟨#[95, 95, 109, 111, 100, 117, 108, 101, 95, 95]⟩) (.str ⟨#[95, 95, 109, 111, 100, 117, 108, 101, 95, 95]⟩ 294) (.str ⟨#[112, 101, 98, 98, 108, 101, 116, 111, 108, 108, 46, 101, 114, 114, 111, 114, 115]⟩ 187)), (.mk (PySem.PyData.keyHash P ⟨#[95, 95, 102, 105, 114, 115, 116, 108, 105, 110, 101, 110, 111, 95, 95]⟩) (.str ⟨#[95, 95, 102, 105, 114, 115, 116, 108, 105, 110, 101, 110, 111, 95, 95]⟩ 298) (.int 14 297)), (.mk (PySem.PyData.keyHash P ⟨#[95, 95, 115, 116, 97, 116, 105, 99, 95, 97, 116, 116, 114, 105, 98, 117, 116, 101, 115, 95, 95]⟩) (.str ⟨#[95, 95, 115, 116, 97, 116, 105, 99, 95, 97, 116, 116, 114, 105, 98, 117, 116, 101, 115, 95, 95]⟩ 299) (.ref 95)), (.mk (PySem.PyData.keyHash P ⟨#[95, 95, 100, 111, 99, 95, 95]⟩) (.str ⟨#[95, 95, 100, 111, 99, 95, 95]⟩ 300) .none)] 2) #[])) ::
  (nat_lit 97, (.mk (.type "type") none (.cls (.mk ⟨#[84, 111, 111, 77, 97, 110, 121]⟩ [(.ref 24)] [(.ref 97), (.ref 24), (.type "ValueError"), (.type "Exception"), (.type "BaseException"), (.type "object")] 96 ⟨#[84, 111, 111, 77, 97, 110, 121]⟩ true [] [] false none false)) #[(some (.ref 88)), none, (some (.str ⟨#[84, 111, 111, 77, 97, 110, 121]⟩ 287)), (some (.str ⟨#[84, 111, 111, 77, 97, 110, 121]⟩ 295)), (some (.builtin "ValueError.__new__")), (some (.bool true))])) ::
  (nat_lit 100, (tO #[(.ref 24)])) ::
  (nat_lit 107, (tO #[])) ::
  (nat_lit 108, (.mk (.type "dict") none (.dict #[(.mk (PySem.PyData.keyHash P ⟨#[95, 95, 109, 111, 100, 117, 108, 101, 95, 95]⟩) (.str ⟨#[95, 95, 109, 111, 100, 117, 108, 101, 95, 95]⟩ 310) (.str ⟨#[112, 101, 98, 98, 108, 101, 116, 111, 108, 108, 46, 101, 114, 114, 111, 114, 115]⟩ 187)), (.mk (PySem.PyData.keyHash P ⟨#[95, 95, 102, 105, 114, 115, 116, 108, 105, 110, 101, 110, 111, 95, 95]⟩) (.str ⟨#[95, 95, 102, 105, 114, 115, 116, 108, 105, 110, 101, 110, 111, 95, 95]⟩ 314) (.int 16 313)), (.mk (PySem.PyData.keyHash P ⟨#[95, 95, 115, 116, 97, 116, 105, 99, 95, 97, 116, 116, 114, 105, 98, 117, 116, 101, 115, 95, 95]⟩) (.str ⟨#[95, 95, 115, 116, 97, 116, 105, 99, 95, 97, 116, 116, 114, 105, 98, 117, 116, 101, 115, 95, 95]⟩ 315) (.ref 107)), (.mk (PySem.PyData.keyHash P ⟨#[95, 95, 100, 111, 99, 95, 95]⟩) (.str ⟨#[95, 95, 100, 111, 99, 95, 95]⟩ 316) .none)] 2) #[])) ::
  (nat_lit 109, (.mk (.type "type") none (.cls (.mk ⟨#[78, 111, 78, 117, 109, 98, 101, 114]⟩ [(.ref 24)] [(.ref 109), (.ref 24), (.type "ValueError"), (.type "Exception"), (.type "BaseException"), (.type "object")] 108 ⟨#[78, 111, 78, 117, 109, 98, 101, 114]⟩ true [] [] false none false)) #[(some (.ref 100)), none, (some (.str ⟨#[78, 111, 78, 117, 109, 98, 101, 114]⟩ 303)), (some (.str ⟨#[78, 111, 78, 117, 109, 98, 101, 114]⟩ 311)), (some (.builtin "ValueError.__new__")), (some (.bool true))])) ::
  (nat_lit 112, (tO #[(.ref 24)])) ::
  (nat_lit 119, (tO #[])) ::
  (nat_lit 120, (.mk (.type "dict") none (.dict #[(.mk (PySem.PyData.keyHash P ⟨#[95, 95, 109, 111, 100, 117, 108, 101, 95, 95]⟩) (.str ⟨#[95, 95, 109, 111, 100, 117, 108, 101, 95, 95]⟩ 326) (.str ⟨#[112, 101, 98, 98, 108, 101, 116, 111, 108, 108, 46, 101, 114, 114, 111, 114, 115]⟩ 187)), (.mk (PySem.PyData.keyHash P ⟨#[95, 95, 102, 105, 114, 115, 116, 108, 105, 110, 101, 110, 111, 95, 95]⟩) (.str ⟨#[95, 95, 102, 105, 114, 115, 116, 108, 105, 110, 101, 110, 111, 95, 95]⟩ 330) (.int 18 329)), (.mk (PySem.PyData.keyHash P ⟨#[95, 95, 115, 116, 97, 116, 105, 99, 95, 97, 116, 116, 114, 105, 98, 117, 116, 101, 115, 95, 95]⟩) (.str ⟨#[95, 95, 115, 116, 97, 116, 105, 99, 95, 97, 116, 116, 114, 105, 98, 117, 116, 101, 115, 95, 95]⟩ 331) (.ref 119)), (.mk (PySem.PyData.keyHash P ⟨#[95, 95, 100, 111, 99, 95, 95]⟩) (.str ⟨#[95, 95, 100, 111, 99, 95, 95]⟩ 332) .none)] 2) #[])) ::
  (nat_lit 121, (.mk (.type "type") none (.cls (.mk ⟨#[78, 111, 87, 111, 114, 115, 116]⟩ [(.ref 24)] [(.ref 121), (.ref 24), (.type "ValueError"), (.type "Exception"), (.type "BaseException"), (.type "object")] 120 ⟨#[78, 111, 87, 111, 114, 115, 116]⟩ true [] [] false none false)) #[(some (.ref 112)), none, (some (.str ⟨#[78, 111, 87, 111, 114, 115, 116]⟩ 319)), (some (.str ⟨#[78, 111, 87, 111, 114, 115, 116]⟩ 327)), (some (.builtin "ValueError.__new__")), (some (.bool true))])) ::
  (nat_lit 124, (tO #[(.ref 24)])) ::
  (nat_lit 131, (tO #[])) ::
  (nat_lit 132, (.mk (.type "dict") none (.dict #[(.mk (PySem.PyData.keyHash P ⟨#[95, 95, 109, 111, 100, 117, 108, 101, 95, 95]⟩) (.str ⟨#[95, 95, 109, 111, 100, 117, 108, 101, 95, 95]⟩ 342) (.str ⟨#[112, 101, 98, 98, 108, 101, 116, 111, 108, 108, 46, 101, 114, 114, 111, 114, 115]⟩ 187)), (.mk (PySem.PyData.keyHash P ⟨#[95, 95, 102, 105, 114, 115, 116, 108, 105, 110, 101, 110, 111, 95, 95]⟩) (.str ⟨#[95, 95, 102, 105, 114, 115, 116, 108, 105, 110, 101, 110, 111, 95, 95]⟩ 346) (.int 20 345)), (.mk (PySem.PyData.keyHash P ⟨#[95, 95, 115, 116, 97, 116, 105, 99, 95, 97, 116, 116, 114, 105, 98, 117, 116, 101, 115, 95, 95]⟩) (.str ⟨#[95, 95, 115, 116, 97, 116, 105, 99, 95, 97, 116, 116, 114, 105, 98, 117, 116, 101, 115, 95, 95]⟩ 347) (.ref 131)), (.mk (PySem.PyData.keyHash P ⟨#[95, 95, 100, 111, 99, 95, 95]⟩) (.str ⟨#[95, 95, 100, 111, 99, 95, 95]⟩ 348) .none)] 2) #[])) ::
  (nat_lit 133, (.mk (.type "type") none (.cls (.mk ⟨#[78, 111, 68, 101, 101, 100]⟩ [(.ref 24)] [(.ref 133), (.ref 24), (.type "ValueError"), (.type "Exception"), (.type "BaseException"), (.type "object")] 132 ⟨#[78, 111, 68, 101, 101, 100]⟩ true [] [] false none false)) #[(some (.ref 124)), none, (some (.str ⟨#[78, 111, 68, 101, 101, 100]⟩ 335)), (some (.str ⟨#[78, 111, 68, 101, 101, 100]⟩ 343)), (some (.builtin "ValueError.__new__")), (some (.bool true))])) ::
  (nat_lit 136, (tO #[(.ref 24)])) ::
  (nat_lit 143, (tO #[])) ::
  (nat_lit 145, (.mk (.type "tuple") none (.seq #[(.str ⟨#[115, 101, 108, 102]⟩ 366), (.str ⟨#[97, 116]⟩ 367)] 0) #[])) ::
  (nat_lit 146, (tO #[])) ::
  (nat_lit 148, (.mk (.type "code") none (.fields #[(.str ⟨#[95, 95, 105, 110, 105, 116, 95, 95]⟩ 363), (.str ⟨#[66, 97, 100, 83, 116, 101, 112, 46, 95, 95, 105, 110, 105, 116, 95, 95]⟩ 364), (.str ⟨#[47, 99, 108, 97, 105, 109, 47, 99, 117, 116, 46, 112, 121]⟩ 365), (.int 24 0), (.int 2 0), (.int 0 0), (.int 0 0), (.int 3 0), (.ref 143), (.bool true), (.int 181 0), (.ref 144), .none, (.ref 145), (.ref 146), (.ref 147), (.int 368 0), (.int 24 0), (.str ⟨#[47, 99, 108, 97, 105, 109, 47, 99, 117, 116, 46, 112, 121]⟩ 369)]) #[])) ::
  (nat_lit 149, (.mk (.type "function") none (.func (PySem.W.fnOf ⟨#[95, 95, 105, 110, 105, 116, 95, 95]⟩ ⟨#[66, 97, 100, 83, 116, 101, 112, 46, 95, 95, 105, 110, 105, 116, 95, 95]⟩ (kA (inC (top 11) 0)) (kB (inC (top 11) 0)) (kS (inC (top 11) 0)) .none .none .none (.str ⟨#[112, 101, 98, 98, 108, 101, 116, 111, 108, 108, 46, 101, 114, 114, 111, 114, 115]⟩ 187) none (.ref 148) .none)) #[])) ::
  (nat_lit 150, (.mk (.type "tuple") none (.seq #[(.str ⟨#[97, 116]⟩ 371)] 0) #[])) ::
  (nat_lit 151, (.mk (.type "dict") none (.dict #[(.mk (PySem.PyData.keyHash P ⟨#[95, 95, 109, 111, 100, 117, 108, 101, 95, 95]⟩) (.str ⟨#[95, 95, 109, 111, 100, 117, 108, 101, 95, 95]⟩ 358) (.str ⟨#[112, 101, 98, 98, 108, 101, 116, 111, 108, 108, 46, 101, 114, 114, 111, 114, 115]⟩ 187)), (.mk (PySem.PyData.keyHash P ⟨#[95, 95, 102, 105, 114, 115, 116, 108, 105, 110, 101, 110, 111, 95, 95]⟩) (.str ⟨#[95, 95, 102, 105, 114, 115, 116, 108, 105, 110, 101, 110, 111, 95, 95]⟩ 362) (.int 22 361)), (.mk (PySem.PyData.keyHash P ⟨#[95, 95, 105, 110, 105, 116, 95, 95]⟩) (.str ⟨#[95, 95, 105, 110, 105, 116, 95, 95]⟩ 370) (.ref 149)), (.mk (PySem.PyData.keyHash P ⟨#[95, 95, 115, 116, 97, 116, 105, 99, 95, 97, 116, 116, 114, 105, 98, 117, 116, 101, 115, 95, 95]⟩) (.str ⟨#[95, 95, 115, 116, 97, 116, 105, 99, 95, 97, 116, 116, 114, 105, 98, 117, 116, 101, 115, 95, 95]⟩ 372) (.ref 150)), (.mk (PySem.PyData.keyHash P ⟨#[95, 95, 100, 111, 99, 95, 95]⟩) (.str ⟨#[95, 95, 100, 111, 99, 95, 95]⟩ 373) .none)] 2) #[])) ::
  (nat_lit 152, (.mk (.type "type") none (.cls (.mk ⟨#[66, 97, 100, 83, 116, 101, 112]⟩ [(.ref 24)] [(.ref 152), (.ref 24), (.type "ValueError"), (.type "Exception"), (.type "BaseException"), (.type "object")] 151 ⟨#[66, 97, 100, 83, 116, 101, 112]⟩ true [] [] false none false)) #[(some (.ref 136)), none, (some (.str ⟨#[66, 97, 100, 83, 116, 101, 112]⟩ 351)), (some (.str ⟨#[66, 97, 100, 83, 116, 101, 112]⟩ 359)), (some (.builtin "ValueError.__new__")), (some (.bool true))])) ::
  (nat_lit 155, (tO #[(.ref 24)])) ::
  (nat_lit 162, (tO #[])) ::
  (nat_lit 164, (.mk (.type "tuple") none (.seq #[(.str ⟨#[115, 101, 108, 102]⟩ 391), (.str ⟨#[97, 116]⟩ 392)] 0) #[])) ::
  (nat_lit 165, (tO #[])) ::
  (nat_lit 167, (.mk (.type "code") none (.fields #[(.str ⟨#[95, 95, 105, 110, 105, 116, 95, 95]⟩ 388), (.str ⟨#[66, 97, 100, 84, 101, 120, 116, 46, 95, 95, 105, 110, 105, 116, 95, 95]⟩ 389), (.str ⟨#[47, 99, 108, 97, 105, 109, 47, 99, 117, 116, 46, 112, 121]⟩ 390), (.int 29 0), (.int 2 0), (.int 0 0), (.int 0 0), (.int 3 0), (.ref 162), (.bool true), (.int 181 0), (.ref 163), .none, (.ref 164), (.ref 165), (.ref 166), (.int 393 0), (.int 29 0), (.str ⟨#[47, 99, 108, 97, 105, 109, 47, 99, 117, 116, 46, 112, 121]⟩ 394)]) #[])) ::
  (nat_lit 168, (.mk (.type "function") none (.func (PySem.W.fnOf ⟨#[95, 95, 105, 110, 105, 116, 95, 95]⟩ ⟨#[66, 97, 100, 84, 101, 120, 116, 46, 95, 95, 105, 110, 105, 116, 95, 95]⟩ (kA (inC (top 12) 0)) (kB (inC (top 12) 0)) (kS (inC (top 12) 0)) .none .none .none (.str ⟨#[112, 101, 98, 98, 108, 101, 116, 111, 108, 108, 46, 101, 114, 114, 111, 114, 115]⟩ 187) none (.ref 167) .none)) #[])) ::
  (nat_lit 169, (.mk (.type "tuple") none (.seq #[(.str ⟨#[97, 116]⟩ 396)] 0) #[])) ::
  (nat_lit 170, (.mk (.type "dict") none (.dict #[(.mk (PySem.PyData.keyHash P ⟨#[95, 95, 109, 111, 100, 117, 108, 101, 95, 95]⟩) (.str ⟨#[95, 95, 109, 111, 100, 117, 108, 101, 95, 95]⟩ 383) (.str ⟨#[112, 101, 98, 98, 108, 101, 116, 111, 108, 108, 46, 101, 114, 114, 111, 114, 115]⟩ 187)), (.mk (PySem.PyData.keyHash P ⟨#[95, 95, 102, 105, 114, 115, 116, 108, 105, 110, 101, 110, 111, 95, 95]⟩) (.str ⟨#[95, 95, 102, 105, 114, 115, 116, 108, 105, 110, 101, 110, 111, 95, 95]⟩ 387) (.int 27 386)), (.mk (PySem.PyData.keyHash P ⟨#[95, 95, 105, 110, 105, 116, 95, 95]⟩) (.str ⟨#[95, 95, 105, 110, 105, 116, 95, 95]⟩ 395) (.ref 168)), (.mk (PySem.PyData.keyHash P ⟨#[95, 95, 115, 116, 97, 116, 105, 99, 95, 97, 116, 116, 114, 105, 98, 117, 116, 101, 115, 95, 95]⟩) (.str ⟨#[95, 95, 115, 116, 97, 116, 105, 99, 95, 97, 116, 116, 114, 105, 98, 117, 116, 101, 115, 95, 95]⟩ 397) (.ref 169)), (.mk (PySem.PyData.keyHash P ⟨#[95, 95, 100, 111, 99, 95, 95]⟩) (.str ⟨#[95, 95, 100, 111, 99, 95, 95]⟩ 398) .none)] 2) #[])) ::
  (nat_lit 171, (.mk (.type "type") none (.cls (.mk ⟨#[66, 97, 100, 84, 101, 120, 116]⟩ [(.ref 24)] [(.ref 171), (.ref 24), (.type "ValueError"), (.type "Exception"), (.type "BaseException"), (.type "object")] 170 ⟨#[66, 97, 100, 84, 101, 120, 116]⟩ true [] [] false none false)) #[(some (.ref 155)), none, (some (.str ⟨#[66, 97, 100, 84, 101, 120, 116]⟩ 376)), (some (.str ⟨#[66, 97, 100, 84, 101, 120, 116]⟩ 384)), (some (.builtin "ValueError.__new__")), (some (.bool true))])) ::
  (nat_lit 174, (tO #[])) ::
  (nat_lit 176, (.mk (.type "tuple") none (.seq #[(.str ⟨#[102, 111, 117, 110, 100]⟩ 406)] 0) #[])) ::
  (nat_lit 177, (tO #[])) ::
  (nat_lit 179, (.mk (.type "code") none (.fields #[(.str ⟨#[95, 108, 97, 119, 95, 119, 104, 111, 108, 101]⟩ 403), (.str ⟨#[95, 108, 97, 119, 95, 119, 104, 111, 108, 101]⟩ 404), (.str ⟨#[47, 99, 108, 97, 105, 109, 47, 99, 117, 116, 46, 112, 121]⟩ 405), (.int 33 0), (.int 1 0), (.int 0 0), (.int 0 0), (.int 3 0), (.ref 174), (.bool true), (.int 181 0), (.ref 175), .none, (.ref 176), (.ref 177), (.ref 178), (.int 407 0), (.int 33 0), (.str ⟨#[47, 99, 108, 97, 105, 109, 47, 99, 117, 116, 46, 112, 121]⟩ 408)]) #[])) ::
  (nat_lit 180, (.mk (.type "function") none (.func (PySem.W.fnOf ⟨#[95, 108, 97, 119, 95, 119, 104, 111, 108, 101]⟩ ⟨#[95, 108, 97, 119, 95, 119, 104, 111, 108, 101]⟩ (kA (top 14)) (kB (top 14)) (kS (top 14)) .none .none .none (.str ⟨#[108, 97, 119, 95, 112, 101, 98, 98, 108, 101, 116, 111, 108, 108, 95, 107, 48, 49, 95, 101, 114, 114, 111, 114, 115, 95, 97, 112, 97, 114, 116]⟩ 401) none (.ref 179) .none)) #[])) ::
  (nat_lit 181, (tO #[])) ::
  (nat_lit 183, (.mk (.type "tuple") none (.seq #[(.str ⟨#[101]⟩ 413), (.str ⟨#[109, 97, 114, 107, 115]⟩ 414)] 0) #[])) ::
  (nat_lit 184, (tO #[])) ::
  (nat_lit 186, (.mk (.type "code") none (.fields #[(.str ⟨#[95, 108, 97, 119, 95, 109, 97, 114, 107, 115]⟩ 410), (.str ⟨#[95, 108, 97, 119, 95, 109, 97, 114, 107, 115]⟩ 411), (.str ⟨#[47, 99, 108, 97, 105, 109, 47, 99, 117, 116, 46, 112, 121]⟩ 412), (.int 35 0), (.int 1 0), (.int 0 0), (.int 0 0), (.int 3 0), (.ref 181), (.bool true), (.int 181 0), (.ref 182), .none, (.ref 183), (.ref 184), (.ref 185), (.int 415 0), (.int 35 0), (.str ⟨#[47, 99, 108, 97, 105, 109, 47, 99, 117, 116, 46, 112, 121]⟩ 416)]) #[])) ::
  (nat_lit 187, (.mk (.type "function") none (.func (PySem.W.fnOf ⟨#[95, 108, 97, 119, 95, 109, 97, 114, 107, 115]⟩ ⟨#[95, 108, 97, 119, 95, 109, 97, 114, 107, 115]⟩ (kA (top 15)) (kB (top 15)) (kS (top 15)) .none .none .none (.str ⟨#[108, 97, 119, 95, 112, 101, 98, 98, 108, 101, 116, 111, 108, 108, 95, 107, 48, 49, 95, 101, 114, 114, 111, 114, 115, 95, 97, 112, 97, 114, 116]⟩ 401) none (.ref 186) .none)) #[])) ::
  (nat_lit 188, (tO #[])) ::
  (nat_lit 190, (.mk (.type "tuple") none (.seq #[(.str ⟨#[119, 104, 105, 99, 104]⟩ 421), (.str ⟨#[110, 117, 109, 98, 101, 114]⟩ 422)] 0) #[])) ::
  (nat_lit 191, (tO #[])) ::
  (nat_lit 193, (.mk (.type "code") none (.fields #[(.str ⟨#[95, 108, 97, 119, 95, 114, 97, 105, 115, 101, 100]⟩ 418), (.str ⟨#[95, 108, 97, 119, 95, 114, 97, 105, 115, 101, 100]⟩ 419), (.str ⟨#[47, 99, 108, 97, 105, 109, 47, 99, 117, 116, 46, 112, 121]⟩ 420), (.int 39 0), (.int 2 0), (.int 0 0), (.int 0 0), (.int 3 0), (.ref 188), (.bool true), (.int 181 0), (.ref 189), .none, (.ref 190), (.ref 191), (.ref 192), (.int 423 0), (.int 39 0), (.str ⟨#[47, 99, 108, 97, 105, 109, 47, 99, 117, 116, 46, 112, 121]⟩ 424)]) #[])) ::
  (nat_lit 194, (.mk (.type "function") none (.func (PySem.W.fnOf ⟨#[95, 108, 97, 119, 95, 114, 97, 105, 115, 101, 100]⟩ ⟨#[95, 108, 97, 119, 95, 114, 97, 105, 115, 101, 100]⟩ (kA (top 16)) (kB (top 16)) (kS (top 16)) .none .none .none (.str ⟨#[108, 97, 119, 95, 112, 101, 98, 98, 108, 101, 116, 111, 108, 108, 95, 107, 48, 49, 95, 101, 114, 114, 111, 114, 115, 95, 97, 112, 97, 114, 116]⟩ 401) none (.ref 193) .none)) #[])) ::
  (nat_lit 195, (tO #[])) ::
  (nat_lit 197, (.mk (.type "tuple") none (.seq #[(.str ⟨#[119, 104, 105, 99, 104]⟩ 429), (.str ⟨#[110, 117, 109, 98, 101, 114]⟩ 430), (.str ⟨#[107, 101, 112, 116]⟩ 431), (.str ⟨#[101]⟩ 432)] 0) #[])) ::
  (nat_lit 198, (tO #[])) ::
  (nat_lit 200, (.mk (.type "code") none (.fields #[(.str ⟨#[95, 108, 97, 119, 95, 99, 97, 117, 103, 104, 116]⟩ 426), (.str ⟨#[95, 108, 97, 119, 95, 99, 97, 117, 103, 104, 116]⟩ 427), (.str ⟨#[47, 99, 108, 97, 105, 109, 47, 99, 117, 116, 46, 112, 121]⟩ 428), (.int 61 0), (.int 2 0), (.int 0 0), (.int 0 0), (.int 3 0), (.ref 195), (.bool true), (.int 181 0), (.ref 196), .none, (.ref 197), (.ref 198), (.ref 199), (.int 433 0), (.int 61 0), (.str ⟨#[47, 99, 108, 97, 105, 109, 47, 99, 117, 116, 46, 112, 121]⟩ 434)]) #[])) ::
  (nat_lit 201, (.mk (.type "function") none (.func (PySem.W.fnOf ⟨#[95, 108, 97, 119, 95, 99, 97, 117, 103, 104, 116]⟩ ⟨#[95, 108, 97, 119, 95, 99, 97, 117, 103, 104, 116]⟩ (kA (top 17)) (kB (top 17)) (kS (top 17)) .none .none .none (.str ⟨#[108, 97, 119, 95, 112, 101, 98, 98, 108, 101, 116, 111, 108, 108, 95, 107, 48, 49, 95, 101, 114, 114, 111, 114, 115, 95, 97, 112, 97, 114, 116]⟩ 401) none (.ref 200) .none)) #[])) ::
  (nat_lit 202, (tO #[])) ::
  (nat_lit 205, (.mk (.type "code") none (.fields #[(.str ⟨#[108, 97, 119]⟩ 436), (.str ⟨#[108, 97, 119]⟩ 437), (.str ⟨#[47, 99, 108, 97, 105, 109, 47, 99, 117, 116, 46, 112, 121]⟩ 438), (.int 72 0), (.int 1 0), (.int 0 0), (.int 0 0), (.int 3 0), (.ref 202), (.bool true), (.int 181 0), (.ref 203), .none, .none, .none, (.ref 204), (.int 439 0), (.int 72 0), (.str ⟨#[47, 99, 108, 97, 105, 109, 47, 99, 117, 116, 46, 112, 121]⟩ 440)]) #[])) ::
  (nat_lit 206, (.mk (.type "function") none (.func (PySem.W.fnOf ⟨#[108, 97, 119]⟩ ⟨#[108, 97, 119]⟩ (kA (top 18)) (kB (top 18)) (kS (top 18)) .none .none .none (.str ⟨#[108, 97, 119, 95, 112, 101, 98, 98, 108, 101, 116, 111, 108, 108, 95, 107, 48, 49, 95, 101, 114, 114, 111, 114, 115, 95, 97, 112, 97, 114, 116]⟩ 401) none (.ref 205) .none)) #[])) :: []
abbrev qq : Program := PySem.W.view PySem.Challenge.pw_pebbletoll_k01_errors_apart [1, 2, 3, 4, 5, 6, 7, 8, 9, 10, 11, 12, 14, 15, 16, 17, 18]
abbrev asK : List Addr := [2, 3, 6, 15, 22, 23, 24, 25, 28, 35, 36, 37, 40, 47, 48, 49, 52, 59, 60, 61, 64, 71, 72, 73, 76, 83, 84, 85, 88, 95, 96, 97, 100, 107, 108, 109, 112, 119, 120, 121, 124, 131, 132, 133, 136, 143, 145, 146, 148, 149, 150, 151, 152, 155, 162, 164, 165, 167, 168, 169, 170, 171, 174, 176, 177, 179, 180, 181, 183, 184, 186, 187, 188, 190, 191, 193, 194, 195, 197, 198, 200, 201, 202, 205, 206]
theorem asK_eq : ∀ P, asK = (KK P).map (·.1) := fun _ => by kernel_rfl
theorem left : PySem.W.LeftO (PySem.Challenge.rw_pebbletoll_k01_errors_apart).row.prog qq [] (fun s => PySem.W.xlAt Hd.qq [] s && PySem.W.recOk (PySem.W.RowW.records (PySem.W.OpenRow.toRowW (PySem.Challenge.rw_pebbletoll_k01_errors_apart).row)) s) (PySem.W.Hook.obs (PySem.W.kHook Hd.KK Hd.asK Hd.asK_eq)) (PySem.W.Hook.val (PySem.W.kHook Hd.KK Hd.asK Hd.asK_eq)) 5642 := fun w => by kernel_rfl
end Hd
set_option Elab.async false
set_option linter.all false
set_option maxRecDepth 100000
namespace L2
open PySem PySem.Spec PyProof.Rows
abbrev Key := Sum Int Str
def keyIs : Key → Value → Bool
  | .inl k, v => Value.isInt k v
  | .inr x, v => Value.isStrOf x v
def keyH (w : World) : Key → Int
  | .inl k => hashInt k
  | .inr x => hashStr w x
theorem keyIs_shape : ∀ {k : Key} {v : Value}, keyIs k v = true → (∃ i t, k = Sum.inl i ∧ v = Value.int i t) ∨ (∃ x t, k = Sum.inr x ∧ v = Value.str x t)
  | .inl i, v, h => by
    obtain ⟨t, e⟩ := Value.isInt_shape (k := i) (v := v) h
    exact .inl ⟨i, t, rfl, e⟩
  | .inr x, v, h => by
    obtain ⟨t, e⟩ := Value.isStrOf_shape (x := x) (v := v) h
    exact .inr ⟨x, t, rfl, e⟩
theorem key_ll (a b : Int) : decide ((Sum.inl a : Key) = Sum.inl b) = (a == b) := by
  by_cases e : a = b
  · subst e; simp
  · have h : ¬ (Sum.inl a : Key) = Sum.inl b := fun q => e (Sum.inl.inj q)
    rw [decide_eq_false h]
    exact (beq_eq_false_iff_ne.mpr e).symm
theorem key_rr (a b : Str) : decide ((Sum.inr a : Key) = Sum.inr b) = decide (a = b) := by
  by_cases e : a = b
  · subst e; simp
  · have h : ¬ (Sum.inr a : Key) = Sum.inr b := fun q => e (Sum.inr.inj q)
    rw [decide_eq_false h, decide_eq_false e]
theorem key_lr (a : Int) (b : Str) : decide ((Sum.inl a : Key) = Sum.inr b) = false := decide_eq_false (fun q => nomatch q)
theorem key_rl (a : Str) (b : Int) : decide ((Sum.inr a : Key) = Sum.inl b) = false := decide_eq_false (fun q => nomatch q)
def mixKind (prog : Program) (w : World) : PySem.KeyKind prog w Key where
  is := keyIs
  hash := keyH w
  inj := fun v a b ha hb => by
    rcases keyIs_shape ha with ⟨i, t, rfl, rfl⟩ | ⟨x, t, rfl, rfl⟩
    · rcases keyIs_shape hb with ⟨j, u, rfl, e⟩ | ⟨y, u, rfl, e⟩
      · injection e with e1 _; rw [e1]
      · exact nomatch e
    · rcases keyIs_shape hb with ⟨j, u, rfl, e⟩ | ⟨y, u, rfl, e⟩
      · exact nomatch e
      · injection e with e1 _; rw [e1]
  byValue := fun k v h => by
    rcases keyIs_shape h with ⟨i, t, rfl, rfl⟩ | ⟨x, t, rfl, rfl⟩ <;> rfl
  pyHash := fun hv h => by
    rcases keyIs_shape hv with ⟨i, t, rfl, rfl⟩ | ⟨x, t, rfl, rfl⟩
    · exact wpAny_pyHash_int h
    · exact wpAny_pyHash_str h
  eqBool := fun hu hv h => by
    rcases keyIs_shape hu with ⟨i, t, rfl, rfl⟩ | ⟨x, t, rfl, rfl⟩
    · rcases keyIs_shape hv with ⟨j, u, rfl, rfl⟩ | ⟨y, u, rfl, rfl⟩
      · rw [key_ll] at h; exact wpAny_eqBool_int h
      · rw [key_lr] at h; exact SeqAt.EqAt.int_str i t y u _ _ _ _ h
    · rcases keyIs_shape hv with ⟨j, u, rfl, rfl⟩ | ⟨y, u, rfl, rfl⟩
      · rw [key_rl] at h; exact SeqAt.EqAt.str_int x t j u _ _ _ _ h
      · rw [key_rr] at h; exact wpAny_eqBool_str h
  «strs» := fun k x t v h => by
    rcases keyIs_shape h with ⟨i, u, rfl, e⟩ | ⟨y, u, rfl, e⟩
    · exact nomatch e
    · injection e with e1 _
      subst e1
      cases v <;> rfl
end L2
namespace L2
open PySem PySem.Spec PyProof.Rows
inductive V where
  | non | bl (b : Bool) | int (i : Int) | str (x : Str) | byt (b : Array UInt8) | flt (b : UInt64) | ref (a : Addr) | ty (n : String)
  deriving DecidableEq
def RelV : V → Value → Prop
  | .non, u => u = Value.none
  | .bl b, u => u = Value.bool b
  | .int i, u => ∃ t, u = Value.int i t
  | .str x, u => ∃ t, u = Value.str x t
  | .byt b, u => ∃ t, u = Value.bytes b t
  | .flt b, u => ∃ t, u = Value.float b t
  | .ref a, u => u = Value.ref a
  | .ty n, u => u = Value.type n
abbrev Vals : List V → List Value → Prop := Paired RelV
theorem Vals.length {xs : List V} {us : List Value} (r : Vals xs us) : xs.length = us.length := Paired.length r
theorem Vals.get : ∀ {xs : List V} {us : List Value} {i : Nat} {x : V}, Vals xs us → xs[i]? = some x → ∃ u, us[i]? = some u ∧ RelV x u
  | _, _, _, _, .nil, e => by simp at e
  | _, _, 0, _, .cons r _, e => by simp at e; subst e; exact ⟨_, rfl, r⟩
  | _, _, i + 1, x, .cons _ t, e => by
    obtain ⟨u, h1, h2⟩ := Vals.get (i := i) (x := x) t (by simpa using e)
    exact ⟨u, by simpa using h1, h2⟩
theorem Vals.append : ∀ {xs ys : List V} {us ws : List Value}, Vals xs us → Vals ys ws → Vals (xs ++ ys) (us ++ ws)
  | _, _, _, _, .nil, s => s
  | _, _, _, _, .cons r t, s => .cons r (Vals.append t s)
theorem Vals.take : ∀ {xs : List V} {us : List Value} (n : Nat), Vals xs us → Vals (xs.take n) (us.take n)
  | _, _, 0, _ => .nil
  | _, _, _ + 1, .nil => .nil
  | _, _, n + 1, .cons r t => .cons r (Vals.take n t)
theorem Vals.drop : ∀ {xs : List V} {us : List Value} (n : Nat), Vals xs us → Vals (xs.drop n) (us.drop n)
  | _, _, 0, r => r
  | _, _, _ + 1, .nil => .nil
  | _, _, n + 1, .cons _ t => Vals.drop n t
def RelO : Option V → Option Value → Prop
  | some v, some u => RelV v u
  | none, none => True
  | _, _ => False
def KV {κ : Type} : List (κ × V) → List (κ × Value) → Prop := Paired fun (p : κ × V) (q : κ × Value) => p.1 = q.1 ∧ RelV p.2 q.2
def kV : Key → V
  | .inl i => .int i
  | .inr x => .str x
inductive HO where
  /-- a list -/
  | lst (xs : List V)
  /-- a tuple (never changes) -/
  | tup (xs : List V)
  /-- a dict whose keys are ints and texts; one whose keys are tuples of ints and texts (the empty one is both) -/
  | dK (kvs : List (Key × V)) | dT (kvs : List (List Key × V))
  /-- a set of ints: its members, its size -/
  | set (S : Int → Bool) (n : Nat)
  /-- an instance of the class at C, its dict at dx, its attributes -/
  | ins (C dx : Addr) (fs : List (Str × V))
  /-- the dict of the instance at x -/
  | own (x : Addr)
  /-- the dict of an exception -/
  | xd (fs : List (Str × V))
  /-- a bound method, f of x -/
  | met (f x : Addr)
  /-- a range object lo, lo + 1, .. below hi -/
  | rng (lo hi : Int)
  /-- a thing that is known to the object (the script; a dict while a loop walks it): read, never written while it is so -/
  | frz (o : Obj) (u : HO)
  /-- a code object's table -/
  | tbl (ps : Array Value)
  /-- any other thing, by what is true of its one object (a def of one's own: SetO a S n := HO.ext fun h => ..) -/
  | ext (φ : Heap → Prop)
abbrev Hp := Addr → Option HO
def upd (H : Hp) (a : Addr) (o : HO) : Hp := fun b => if b = a then some o else H b
theorem upd_same {H : Hp} {a : Addr} {o : HO} : upd H a o a = some o := by unfold upd; rw [if_pos rfl]
theorem upd_ne {H : Hp} {a b : Addr} {o : HO} (h : b ≠ a) : upd H a o b = H b := by unfold upd; rw [if_neg h]
theorem upd_upd {H : Hp} {a : Addr} {o u : HO} : upd (upd H a o) a u = upd H a u := by
  funext b; unfold upd; split <;> rfl
theorem ne_of_none {H : Hp} {a b : Addr} {o : HO} (h : H a = some o) (h' : H b = none) : a ≠ b := by
  intro e; subst e; rw [h] at h'; cases h'
section
variable (P : Program) (w : World)
def ObjOk (H : Hp) (h : Heap) (a : Addr) : HO → Prop
  | .lst xs => xs.length ≤ sizeLine ∧ ∃ (its : List Value) (n : Nat), Vals xs its ∧ h.get? a = some { cls := .type "list", data := .seq its.toArray n }
  | .tup xs => xs.length ≤ sizeLine ∧ ∃ its : List Value, Vals xs its ∧ IsTup h a its.toArray
  | .dK kvs => kvs.length ≤ sizeLine ∧ (a == sysModules) = false ∧ ∃ vs, KV kvs vs ∧ h.DictOf (mixKind P w) a vs
  | .dT kvs => kvs.length ≤ sizeLine ∧ (a == sysModules) = false ∧ ∃ xs : List (List Key × Addr × Value),
      Paired (fun (p : List Key × V) (q : List Key × Addr × Value) => p.1 = q.1 ∧ H q.2.1 = some (.tup (p.1.map kV)) ∧ RelV p.2 q.2.2) kvs xs ∧
      ∃ o es ep, h.get? a = some o ∧ o.ExactDict ∧ o.data = .dict es ep ∧ es.toList = xs.map (entryOfKey (tupleKind (mixKind P w))) ∧ (xs.map (·.1)).Nodup
  | .set S n => h.SetOf (intKind P w) a S n
  | .ins C dx fs => H dx = some (.own a) ∧ fs.length ≤ 1000 ∧ dx ≠ a ∧ h.get? a = some (PySem.W.instObj C dx) ∧
      ∃ mA, h.Ns1 dx mA ∧ (∀ f, RelO (fs.lookup f) (mA f)) ∧ PySem.Within mA (fs.map (·.1))
  | .own _ => ∃ o, h.get? a = some o
  | .xd fs => ∃ mA, h.Ns1 a mA ∧ ∀ f, RelO (fs.lookup f) (mA f)
  | .rng lo hi => ∃ t u v, h.get? a = some { cls := .type "range", data := .fields #[.int lo t, .int hi u, .int 1 v] }
  | .frz o u => h.get? a = some o ∧ ObjOk H h a u
  | .tbl ps => h.get? a = some { cls := .none, data := .fields ps }
  | .met f x => h.get? a = some (PySem.W.methodObj (.ref f) (.ref x))
  | .ext φ => φ h ∧ (∃ o, h.get? a = some o) ∧ ∀ h1 h2 : Heap, φ h1 → (∀ o, h1.get? a = some o → h2.get? a = some o) → φ h2
def HOk (H : Hp) (h : Heap) : Prop := ∀ a o, H a = some o → ObjOk P w H h a o
end
section
variable {P : Program} {w : World} {H H' : Hp} {h h' : Heap} {a : Addr} {o : HO}
theorem ObjOk.lt (x : ObjOk P w H h a o) : a < h.objs.size := by
  cases o with
  | lst xs => obtain ⟨_, _, _, _, e⟩ := x; exact Heap.lt_size e
  | tup xs => obtain ⟨_, _, _, p⟩ := x; exact p.lt
  | dK kvs => obtain ⟨_, _, _, _, o, _, _, e, _⟩ := x; exact Heap.lt_size e
  | dT kvs => obtain ⟨_, _, _, _, o, _, _, e, _⟩ := x; exact Heap.lt_size e
  | set S n => obtain ⟨o, _, _, _, e, _⟩ := x; exact Heap.lt_size e
  | ins C dx fs => obtain ⟨_, _, _, e, _⟩ := x; exact Heap.lt_size e
  | own y => obtain ⟨_, e⟩ := x; exact Heap.lt_size e
  | xd fs => obtain ⟨_, ⟨_, _, _, e, _⟩, _⟩ := x; exact Heap.lt_size e
  | rng lo hi => obtain ⟨_, _, _, e⟩ := x; exact Heap.lt_size e
  | frz ob u => obtain ⟨e, _⟩ := x; exact Heap.lt_size e
  | tbl ps => exact Heap.lt_size (show h.get? a = some _ from x)
  | met f y => exact Heap.lt_size (show h.get? a = some _ from x)
  | ext φ => obtain ⟨_, ⟨_, e⟩, _⟩ := x; exact Heap.lt_size e
theorem Paired.mapP {α β : Type} {F G : α → β → Prop} : ∀ {l₁ : List α} {l₂ : List β}, Paired F l₁ l₂ → (∀ a b, F a b → G a b) → Paired G l₁ l₂
  | _, _, .nil, _ => .nil
  | _, _, .cons r t, f => .cons (f _ _ r) (Paired.mapP t f)
theorem ObjOk.stay (x : ObjOk P w H h a o) (k : ∀ b u, (b = a ∨ H b = some (.own a)) → h.get? b = some u → h'.get? b = some u)
    (ho : ∀ b, H b = some (.own a) → H' b = some (.own a)) (ht : ∀ b xs, H b = some (.tup xs) → H' b = some (.tup xs)) : ObjOk P w H' h' a o := by
  induction o with
  | lst xs => obtain ⟨z, its, n, r, e⟩ := x; exact ⟨z, its, n, r, k _ _ (.inl rfl) e⟩
  | tup xs => obtain ⟨z, its, r, ob, e, c⟩ := x; exact ⟨z, its, r, ob, k _ _ (.inl rfl) e, c⟩
  | dK kvs => obtain ⟨z, y, vs, r, ob, es, ep, e, c⟩ := x; exact ⟨z, y, vs, r, ob, es, ep, k _ _ (.inl rfl) e, c⟩
  | dT kvs =>
    obtain ⟨z, y, xs, r, ob, es, ep, e, c⟩ := x
    exact ⟨z, y, xs, Paired.mapP r fun p q z => ⟨z.1, ht _ _ z.2.1, z.2.2⟩, ob, es, ep, k _ _ (.inl rfl) e, c⟩
  | set S n => obtain ⟨ob, es, ep, t, e, c⟩ := x; exact ⟨ob, es, ep, t, k _ _ (.inl rfl) e, c⟩
  | ins C dx fs =>
    obtain ⟨d, z, ne, e, mA, ⟨od, es, ep, e2, c⟩, r⟩ := x
    exact ⟨ho _ d, z, ne, k _ _ (.inl rfl) e, mA, ⟨od, es, ep, k _ _ (.inr d) e2, c⟩, r⟩
  | own y => obtain ⟨ob, e⟩ := x; exact ⟨ob, k _ _ (.inl rfl) e⟩
  | xd fs => obtain ⟨mA, ⟨od, es, ep, e, c⟩, r⟩ := x; exact ⟨mA, ⟨od, es, ep, k _ _ (.inl rfl) e, c⟩, r⟩
  | rng lo hi => obtain ⟨t, u, v, e⟩ := x; exact ⟨t, u, v, k _ _ (.inl rfl) e⟩
  | frz ob u ih => obtain ⟨e, q⟩ := x; exact ⟨k _ _ (.inl rfl) e, ih q⟩
  | tbl ps =>
    have e : h.get? a = some { cls := .none, data := .fields ps } := x
    show h'.get? a = some { cls := .none, data := .fields ps }
    exact k a _ (.inl rfl) e
  | met f y =>
    have e : h.get? a = some (PySem.W.methodObj (.ref f) (.ref y)) := x
    show h'.get? a = some (PySem.W.methodObj (.ref f) (.ref y))
    exact k a _ (.inl rfl) e
  | ext φ => obtain ⟨p, ⟨o, e⟩, st⟩ := x; exact ⟨st _ _ p fun o q => k _ _ (.inl rfl) q, ⟨o, k _ _ (.inl rfl) e⟩, st⟩
theorem HOk.lt (x : HOk P w H h) (e : H a = some o) : a < h.objs.size := (x a o e).lt
theorem HOk.fresh (x : HOk P w H h) (e : h.objs.size ≤ a) : H a = none := by
  cases q : H a with
  | none => rfl
  | some u => exact absurd (Nat.lt_of_lt_of_le (x.lt q) e) (Nat.lt_irrefl _)
theorem HOk.kept (x : HOk P w H h) (k : ∀ b u, h.get? b = some u → h'.get? b = some u) : HOk P w H h' := fun a o e =>
  (x a o e).stay (fun b u _ q => k b u q) (fun _ q => q) fun _ _ q => q
theorem HOk.laid (x : HOk P w H h) (k : ∀ b u, h.get? b = some u → h'.get? b = some u) (hp : h.objs.size ≤ a) (new : ObjOk P w (upd H a o) h' a o) : HOk P w (upd H a o) h' := fun b u e => by
  have hn := x.fresh hp
  by_cases hb : b = a
  · subst hb; rw [upd_same] at e; cases e; exact new
  · rw [upd_ne hb] at e
    exact (x b u e).stay (fun c v _ q => k c v q) (fun c q => by rw [upd_ne (ne_of_none q hn)]; exact q) fun c xs q => by rw [upd_ne (ne_of_none q hn)]; exact q
end
def Rd (H : Hp) (a : Addr) (u : HO) : Prop := H a = some u ∨ ∃ o, H a = some (.frz o u)
theorem Rd.ok {P : Program} {w : World} {H : Hp} {h : Heap} {a : Addr} {u : HO} (r : Rd H a u) (x : HOk P w H h) : ObjOk P w H h a u := by
  rcases r with r | ⟨o, r⟩
  · exact x a u r
  · obtain ⟨_, q⟩ := x a _ r
    exact q
def Mut : Option HO → Prop
  | some (.lst _) => True
  | some (.dK _) => True
  | some (.dT _) => True
  | some (.set _ _) => True
  | some (.ins _ _ _) => True
  | some (.ext _) => True
  | _ => False
section
variable {P : Program} {w : World} {H : Hp} {h h' : Heap} {x e : Addr} {o' : HO}
theorem HOk.write (ok : HOk P w H h) (mu : Mut (H x)) (he : e = x ∨ H e = some (.own x)) (k : ∀ b u, b ≠ e → h.get? b = some u → h'.get? b = some u) (heo : ∃ u, h'.get? e = some u)
    (new : ObjOk P w (upd H x o') h' x o') : HOk P w (upd H x o') h' := fun b u q => by
  have nown : ∀ c y, H c = some (.own y) → c ≠ x := fun c y r z => by subst z; rw [r] at mu; exact mu
  have ntup : ∀ c xs, H c = some (.tup xs) → c ≠ x := fun c xs r z => by subst z; rw [r] at mu; exact mu
  by_cases hb : b = x
  · subst hb; rw [upd_same] at q; cases q; exact new
  · rw [upd_ne hb] at q
    by_cases hbe : b = e
    · have q' : H b = some (.own x) := by
        rcases he with z | z
        · exact absurd (hbe.trans z) hb
        · rw [hbe]; exact z
      rw [q] at q'; cases q'
      obtain ⟨v, hv⟩ := heo
      exact ⟨v, by rw [hbe]; exact hv⟩
    · refine (ok b u q).stay (fun c v hc r => k c v ?_ r) (fun c r => by rw [upd_ne (nown c b r)]; exact r) fun c xs r => by rw [upd_ne (ntup c xs r)]; exact r
      rcases hc with rfl | hc
      · exact hbe
      · rintro rfl
        rcases he with z | z
        · exact nown c b hc z
        · rw [hc] at z; cases z; exact hb rfl
end
structure Un (fs ex : List Addr) (H H' : Hp) (h h' : Heap) : Prop where
  keep : ∀ b o, h.get? b = some o → H b = none → b ∉ fs → b ∉ ex → h'.get? b = some o
  slot : ∀ b o, h.get? b = some o → H b = none → b ∈ fs → b ∉ ex → ∃ sl, h'.get? b = some { o with slots := sl }
  free : ∀ b o, h.get? b = some o → H b = none → b ∉ ex → H' b = none
  there : ∀ b o, h.get? b = some o → b ∉ ex → ∃ o', h'.get? b = some o'
  tups : ∀ b xs, H b = some (.tup xs) → H' b = some (.tup xs)
  frzs : ∀ b o u, H b = some (.frz o u) → H' b = some (.frz o u)
  tbls : ∀ b ps, H b = some (.tbl ps) → ∃ more, H' b = some (.tbl (ps ++ more))
section
variable {fs fs' ex ex' : List Addr} {H H1 H2 : Hp} {h h1 h2 h' : Heap} {a x e : Addr} {o : HO}
theorem Un.any (u : Un fs ex H H1 h h1) {b : Addr} {ob : Obj} (q : h.get? b = some ob) (n : H b = none) (hx : b ∉ ex) : ∃ sl, h1.get? b = some { ob with slots := sl } := by
  by_cases hb : b ∈ fs
  · exact u.slot b ob q n hb hx
  · exact ⟨ob.slots, u.keep b ob q n hb hx⟩
theorem Un.kept (k : ∀ b u, h.get? b = some u → h'.get? b = some u) : Un fs ex H H h h' :=
  ⟨fun b ob q _ _ _ => k b ob q, fun b ob q _ _ _ => ⟨ob.slots, k b ob q⟩, fun _ _ _ n _ => n, fun b ob q _ => ⟨ob, k b ob q⟩, fun _ _ q => q, fun _ _ _ q => q, fun _ ps q => ⟨#[], by rw [q]; simp⟩⟩
theorem Un.refl : Un fs ex H H h h := Un.kept fun _ _ q => q
theorem Un.laid (k : ∀ b u, h.get? b = some u → h'.get? b = some u) (hp : h.objs.size ≤ a) (hn : H a = none) : Un fs ex H (upd H a o) h h' where
  keep := fun b u q _ _ _ => k b u q
  slot := fun b u q _ _ _ => ⟨u.slots, k b u q⟩
  free := fun b u q n _ => by rw [upd_ne (Nat.ne_of_lt (Nat.lt_of_lt_of_le (Heap.lt_size q) hp))]; exact n
  there := fun b u q _ => ⟨u, k b u q⟩
  tups := fun b xs q => by rw [upd_ne (ne_of_none q hn)]; exact q
  frzs := fun b u xs q => by rw [upd_ne (ne_of_none q hn)]; exact q
  tbls := fun b ps q => ⟨#[], by rw [upd_ne (ne_of_none q hn), q]; simp⟩
theorem Un.write (mu : Mut (H x)) (he : e = x ∨ H e = some (.own x)) (k : ∀ b u, b ≠ e → h.get? b = some u → h'.get? b = some u) (heo : ∃ u, h'.get? e = some u) : Un fs ex H (upd H x o) h h' := by
  have hx : ∀ b, H b = none → b ≠ x := fun b n z => by subst z; rw [n] at mu; exact mu
  have hb : ∀ b, H b = none → b ≠ e := fun b n z => by
    subst z
    rcases he with r | r
    · exact hx b n r
    · rw [n] at r; cases r
  have hm : ∀ b u, H b = some u → ¬ Mut (some u) → b ≠ x := fun b u q nm z => by subst z; rw [q] at mu; exact nm mu
  refine ⟨fun b u q n _ _ => k b u (hb b n) q, fun b u q n _ _ => ⟨u.slots, k b u (hb b n) q⟩, fun b u q n _ => by rw [upd_ne (hx b n)]; exact n, fun b u q _ => ?_,
    fun b xs q => by rw [upd_ne (hm b _ q fun z => z)]; exact q, fun b u xs q => by rw [upd_ne (hm b _ q fun z => z)]; exact q, fun b ps q => ⟨#[], by rw [upd_ne (hm b _ q fun z => z), q]; simp⟩⟩
  by_cases hbe : b = e
  · subst hbe; exact heo
  · exact ⟨u, k b u hbe q⟩
end
def trk (h : Heap) (H : Hp) : List Addr := (List.range h.objs.size).filter fun a => (H a).isSome
def hidT (h : Heap) (H : Hp) : Heap := PySem.W.hideAll h (trk h H)
theorem hidT_size (h : Heap) (H : Hp) : (hidT h H).objs.size = h.objs.size := PySem.W.hideAll_size _ _
theorem hidT_get {h : Heap} {H : Hp} {b : Addr} {o : Obj} (e : h.get? b = some o) (n : H b = none) : (hidT h H).get? b = some o :=
  PySem.W.hideAll_get _ e fun hm => by
    have q : (H b).isSome = true := (List.mem_filter.mp hm).2
    rw [n] at q; simp at q
theorem of_hidT {h : Heap} {H : Hp} {b : Addr} {o : Obj} (e : (hidT h H).get? b = some o) : h.get? b = some o ∧ H b = none := by
  have e' : h.get? b = some o := PySem.W.of_hideAll (trk h H) e
  refine ⟨e', ?_⟩
  cases q : H b with
  | none => rfl
  | some x =>
    have hm : b ∈ trk h H := List.mem_filter.mpr ⟨List.mem_range.mpr (Heap.lt_size e'), by simp [q]⟩
    have z : (hidT h H).get? b = none := PySem.W.hideAll_none (trk h H) hm
    rw [z] at e; cases e
def allNews (g h : Heap) (L : Addr) : List (Addr × Obj) := (List.range h.objs.size).filterMap fun a => if a = L ∨ (g.get? a).isSome = true then none else (h.get? a).map fun o => (a, o)
def rest (g h : Heap) (L d : Addr) : List (Addr × Obj) := (allNews g h L).filter fun p => decide (p.1 ≠ d)
end L2
namespace L2
open PySem PySem.Spec PyProof.Rows
structure Mod (K : PySem.W.Frag) (mg : Str → Option Value) (base : Heap) : Prop where
  kin : K.In base
  glob : base.Ns mainGlobals mg
  blt : ∃ mb, base.Ns builtinsNs mb ∧ ∀ x : Str, x ≠ "__name__" → mb x = bootBuiltins x
  nolimit : base.NoLimit
structure Cx where
  prog : Program
  w : World
  K : PySem.W.Frag
  mg : Str → Option Value
  base : Heap
  A : Around
  N : List Str
  s₀ : Shared
  H₀ : Hp
  env : Env
  outer : List Env
  stack : List Env
  ex : List Addr
  fn : Str → Bool
  calm : Bool
  pn : List (Addr × Obj)
  xe : Value → Shared → Prop
def frs (l : List Env) : List Addr := l.filterMap (·.frame)
abbrev Cx.fs (X : Cx) : List Addr := frs X.outer
def Vis (sc : Scope) (x : Str) : Prop := sc.names.lookup x = some .local ∨ sc.names.lookup x = some .cell ∨ sc.names.lookup x = some .free
def Loc (sc : Scope) (x : Str) : Prop := sc.names.lookup x = some .local ∨ sc.names.lookup x = some .cell
def Look (env : Env) (h : Heap) (m : Str → Option Value) (x : Str) (u : Value) : Prop :=
  (env.kindOf x = some .local ∧ m x = some u) ∨ ((env.kindOf x = some .cell ∨ env.kindOf x = some .free) ∧ ∃ c, env.cells.lookup x = some c ∧ h.IsCell c (some u))
structure Cx.Ok (X : Cx) : Prop where
  mod : Mod X.K X.mg X.base
  kind : X.env.scope.kind = .function
  glob : X.env.globals = mainGlobals
  blt : X.env.builtins = builtinsNs
  above : X.s₀.heap.objs.size ≤ X.env.locals
  inj : ∀ x y c, X.env.cells.lookup x = some c → X.env.cells.lookup y = some c → x = y
  has : ∀ x, (X.env.kindOf x = some .cell ∨ X.env.kindOf x = some .free) → ∃ c, X.env.cells.lookup x = some c
  cab : ∀ x c, X.fn x = true → X.env.cells.lookup x = some c → X.s₀.heap.objs.size ≤ c
  hd : X.calm = true → X.A.handled = none
  frames : X.A.frames = some X.stack
  stk : X.stack = X.outer ∨ (X.stack = X.env :: X.outer ∧ X.env.frame = some X.env.locals)
  exf : ∀ b ∈ X.ex, b ≠ X.env.locals ∧ ∀ x c, X.env.cells.lookup x = some c → c ≠ b
  bs : ∀ b o, X.base.get? b = some o → X.s₀.heap.get? b = some o ∧ X.H₀ b = none
  bsz : X.base.objs.size ≤ X.s₀.heap.objs.size
  noex : ∀ b o, X.base.get? b = some o → b ∉ X.ex
  exfs : ∀ b ∈ X.ex, b ∉ X.fs
  funs : X.s₀.heap.FunFrames X.base X.outer
  frf : ∀ b ∈ X.fs, X.H₀ b = none
structure Inv (X : Cx) (pins : List (Addr × Obj)) (σ : List (Option V)) (H : Hp) (s : Shared) : Prop where
  ok : X.Ok
  os : s.os = X.s₀.os
  bare : AllBare s.gens
  base : Un X.fs X.ex X.H₀ H X.s₀.heap s.heap
  loc : ∃ m, s.heap.Ns X.env.locals m ∧ ∀ (i : Nat) (x : Str) (v : V), X.N[i]? = some x → σ[i]? = some (some v) → Vis X.env.scope x → ∃ u, RelV v u ∧ Look X.env s.heap m x u
  cell : ∀ x c, X.env.cells.lookup x = some c → ∃ v, s.heap.IsCell c v
  free : H X.env.locals = none
  freeC : ∀ x c, X.env.cells.lookup x = some c → H c = none
  pin : ∀ p ∈ X.pn ++ pins, s.heap.get? p.1 = some p.2 ∧ H p.1 = none ∧ p.1 ≠ X.env.locals ∧ p.1 ∉ X.fs ∧ ∀ v, p.2.data ≠ .cell v
  hok : HOk X.prog X.w H s.heap
  len : σ.length = X.N.length
section
variable {X : Cx} {pins : List (Addr × Obj)} {σ : List (Option V)} {H H' : Hp} {s : Shared} {h' : Heap}
theorem Cx.Ok.nofr (ok : X.Ok) {b : Addr} {o : Obj} (e : X.base.get? b = some o) : b ∉ X.fs := fun hb => by
  have := (ok.funs.mem hb).1
  rw [e] at this; cases this
theorem Inv.bs (I : Inv X pins σ H s) : ∀ b o, X.base.get? b = some o → s.heap.get? b = some o ∧ H b = none := fun b o e =>
  ⟨I.base.keep b o (I.ok.bs b o e).1 (I.ok.bs b o e).2 (I.ok.nofr e) (I.ok.noex b o e), I.base.free b o (I.ok.bs b o e).1 (I.ok.bs b o e).2 (I.ok.noex b o e)⟩
theorem Inv.bk (I : Inv X pins σ H s) : ∀ b o, X.base.get? b = some o → s.heap.get? b = some o := fun b o e => (I.bs b o e).1
theorem Inv.mod (I : Inv X pins σ H s) : Mod X.K X.mg X.base := I.ok.mod
theorem Inv.kIn (I : Inv X pins σ H s) : X.K.In s.heap := I.ok.mod.kin.keeps I.bk
theorem Inv.lt (I : Inv X pins σ H s) : X.env.locals < s.heap.objs.size := let ⟨_, hn, _⟩ := I.loc; hn.lt
theorem Inv.sz (I : Inv X pins σ H s) : X.s₀.heap.objs.size ≤ s.heap.objs.size := Nat.le_trans I.ok.above (Nat.le_of_lt I.lt)
theorem Inv.nofs (I : Inv X pins σ H s) {a : Addr} (h : s.heap.objs.size ≤ a) : a ∉ X.fs := fun hb => by
  obtain ⟨_, o, ho, _⟩ := I.ok.funs.mem hb
  exact absurd (Nat.lt_of_lt_of_le (Heap.lt_size ho) (Nat.le_trans I.sz h)) (Nat.lt_irrefl _)
theorem Inv.cne (I : Inv X pins σ H s) : ∀ x c, X.env.cells.lookup x = some c → c ≠ X.env.locals := fun x c e z => by
  obtain ⟨v, o, ho, hd⟩ := I.cell x c e
  obtain ⟨m, ⟨o', es, ep, ho', hd', _⟩, _⟩ := I.loc
  rw [z, ho'] at ho; cases ho; rw [hd'] at hd; cases hd
theorem Inv.funs (I : Inv X pins σ H s) : s.heap.FunFrames X.base X.outer := by
  have all : ∀ (l : List Env), (∀ b ∈ frs l, b ∈ X.fs) → X.s₀.heap.FunFrames X.base l → s.heap.FunFrames X.base l := by
    intro l
    induction l with
    | nil => intro _ _; trivial
    | cons env r ih =>
      intro hs hl
      obtain ⟨hk, ⟨L, o, hf, hn, ho, hd⟩, hr⟩ := hl
      have hL : L ∈ X.fs := hs L (by unfold frs; rw [List.filterMap_cons, hf]; exact List.mem_cons_self)
      obtain ⟨sl, e⟩ := I.base.slot L o ho (I.ok.frf L hL) hL fun z => I.ok.exfs L z hL
      exact ⟨hk, ⟨L, _, hf, hn, e, hd⟩, ih (fun b hb => hs b (by unfold frs; rw [List.filterMap_cons, hf]; exact List.mem_cons_of_mem _ hb)) hr⟩
  exact all X.outer (fun _ hb => hb) I.ok.funs
theorem Inv.stack (I : Inv X pins σ H s) : s.heap.FunFrames X.base X.stack := by
  rcases I.ok.stk with e | ⟨e, hf⟩
  · rw [e]; exact I.funs
  · rw [e]
    obtain ⟨m, hn, _⟩ := I.loc
    refine .cons (by rw [I.ok.kind]; decide) hf hn ?_ I.funs
    exact Heap.get?_none_of_le (Nat.le_trans I.ok.bsz I.ok.above)
theorem Inv.stkSub (I : Inv X pins σ H s) : ∀ b ∈ frs X.stack, b ∈ X.env.locals :: X.fs := fun b hb => by
  rcases I.ok.stk with e | ⟨e, hf⟩
  · rw [e] at hb; exact List.mem_cons_of_mem _ hb
  · rw [e] at hb
    unfold frs at hb
    rw [List.filterMap_cons, hf] at hb
    exact hb
theorem Inv.stkFree (I : Inv X pins σ H s) : ∀ b ∈ frs X.stack, H b = none := fun b hb => by
  rcases List.mem_cons.mp (I.stkSub b hb) with e | hb
  · rw [e]; exact I.free
  · obtain ⟨_, o, ho, _⟩ := I.ok.funs.mem hb
    exact I.base.free b o ho (I.ok.frf b hb) fun z => I.ok.exfs b z hb
theorem Inv.step {g' : Array GenState} {t' : Nat} {d' : Drawn} {ch : List Addr} (I : Inv X pins σ H s)
    (hch : ∀ b ∈ ch, (b ∈ X.ex ∨ X.s₀.heap.objs.size ≤ b) ∧ b ≠ X.env.locals ∧ (∀ x c, X.env.cells.lookup x = some c → c ≠ b) ∧ ∀ p ∈ X.pn ++ pins, p.1 ≠ b)
    (keep : ∀ b o, b ≠ X.env.locals → b ∉ X.fs → b ∉ ch → s.heap.get? b = some o → H b = none → h'.get? b = some o)
    (slot : ∀ b o, b ≠ X.env.locals → b ∈ X.fs → b ∉ ch → s.heap.get? b = some o → H b = none → ∃ sl, h'.get? b = some { o with slots := sl }) (free : ∀ b o, b ∉ ch → s.heap.get? b = some o → H b = none → H' b = none)
    (there : ∀ b o, b ∉ ch → s.heap.get? b = some o → ∃ o', h'.get? b = some o')
    (tups : ∀ b xs, H b = some (.tup xs) → H' b = some (.tup xs)) (frzs : ∀ b o u, H b = some (.frz o u) → H' b = some (.frz o u)) (tbls : ∀ b ps, H b = some (.tbl ps) → ∃ more, H' b = some (.tbl (ps ++ more)))
    (ns : ∀ m, s.heap.Ns X.env.locals m → h'.Ns X.env.locals m) (hok : HOk X.prog X.w H' h') (hg : AllBare g') :
    Inv X pins σ H' { s with heap := h', gens := g', drawn := d', toks := t' } := by
  have neL : ∀ b o, X.s₀.heap.get? b = some o → b ≠ X.env.locals := fun b o e => Nat.ne_of_lt (Nat.lt_of_lt_of_le (Heap.lt_size e) I.ok.above)
  have neC : ∀ b o, X.s₀.heap.get? b = some o → b ∉ X.ex → b ∉ ch := fun b o e hx hb => by
    rcases (hch b hb).1 with z | z
    · exact hx z
    · exact absurd (Nat.lt_of_lt_of_le (Heap.lt_size e) z) (Nat.lt_irrefl _)
  have cellK : ∀ x c, X.env.cells.lookup x = some c → ∀ v, s.heap.IsCell c v → h'.IsCell c v := fun x c e v ⟨o, ho, hd⟩ => by
    have nch : c ∉ ch := fun z => (hch c z).2.2.1 x c e rfl
    by_cases hc : c ∈ X.fs
    · obtain ⟨sl, q⟩ := slot c o (I.cne x c e) hc nch ho (I.freeC x c e)
      exact ⟨_, q, hd⟩
    · exact ⟨o, keep c o (I.cne x c e) hc nch ho (I.freeC x c e), hd⟩
  refine ⟨I.ok, I.os, hg, ⟨fun b o e n hb hx => ?_, fun b o e n hb hx => ?_, fun b o e n hx => ?_, fun b o e hx => ?_, fun b xs e => tups b xs (I.base.tups b xs e), fun b o xs e => frzs b o xs (I.base.frzs b o xs e), fun b ps e => ?_⟩, ?_, fun x c e => ?_, ?_, fun x c e => ?_, fun p hp => ?_, hok, I.len⟩
  · exact keep b o (neL b o e) hb (neC b o e hx) (I.base.keep b o e n hb hx) (I.base.free b o e n hx)
  · obtain ⟨sl, e1⟩ := I.base.slot b o e n hb hx
    obtain ⟨sl', e2⟩ := slot b _ (neL b o e) hb (neC b o e hx) e1 (I.base.free b o e n hx)
    exact ⟨sl', e2⟩
  · obtain ⟨o', e1⟩ := I.base.there b o e hx
    exact free b o' (neC b o e hx) e1 (I.base.free b o e n hx)
  · obtain ⟨o', e1⟩ := I.base.there b o e hx
    exact there b o' (neC b o e hx) e1
  · obtain ⟨m1, e1⟩ := I.base.tbls b ps e
    obtain ⟨m2, e2⟩ := tbls b _ e1
    exact ⟨m1 ++ m2, by rw [e2, Array.append_assoc]⟩
  · obtain ⟨m, hn, hl⟩ := I.loc
    refine ⟨m, ns m hn, fun i x v e1 e2 e3 => ?_⟩
    obtain ⟨u, r, l⟩ := hl i x v e1 e2 e3
    refine ⟨u, r, ?_⟩
    rcases l with l | ⟨k, c, e, z⟩
    · exact .inl l
    · exact .inr ⟨k, c, e, cellK x c e _ z⟩
  · obtain ⟨v, z⟩ := I.cell x c e
    exact ⟨v, cellK x c e v z⟩
  · obtain ⟨m, ⟨o, _, _, ho, _⟩, _⟩ := I.loc
    exact free _ o (fun z => (hch _ z).2.1 rfl) ho I.free
  · obtain ⟨v, o, ho, hd⟩ := I.cell x c e
    exact free c o (fun z => (hch c z).2.2.1 x c e rfl) ho (I.freeC x c e)
  · obtain ⟨e, n, ne, nf, d⟩ := I.pin p hp
    have nch : p.1 ∉ ch := fun z => (hch p.1 z).2.2.2 p hp rfl
    exact ⟨keep p.1 p.2 ne nf nch e n, free p.1 p.2 nch e n, ne, nf, d⟩
theorem Inv.un {t' : Nat} (I : Inv X pins σ H s) (u : Un X.fs [] H H' s.heap h') (hok : HOk X.prog X.w H' h') : Inv X pins σ H' { s with heap := h', toks := t' } := by
  obtain ⟨m, ⟨o, es, ep, ho, r⟩, _⟩ := id I.loc
  obtain ⟨sl, hL⟩ := u.any ho I.free (by simp)
  exact I.step (g' := s.gens) (d' := s.drawn) (ch := []) (fun _ z => nomatch z) (fun b o _ hb _ e n => u.keep b o e n hb (by simp)) (fun b o _ hb _ e n => u.slot b o e n hb (by simp)) (fun b o _ e n => u.free b o e n (by simp)) (fun b o _ e => u.there b o e (by simp)) u.tups u.frzs u.tbls (fun m' hm => by
    obtain ⟨o', es', ep', ho', r'⟩ := hm
    rw [ho] at ho'; cases ho'
    exact ⟨_, es', ep', hL, r'⟩) hok I.bare
theorem Inv.call {g' : Array GenState} {t' : Nat} {d' : Drawn} {ch : List Addr} (I : Inv X pins σ H s) (u : Un (frs X.stack) ch H H' s.heap h') (hok : HOk X.prog X.w H' h') (hg : AllBare g')
    (hch : ∀ b ∈ ch, (b ∈ X.ex ∨ X.s₀.heap.objs.size ≤ b) ∧ b ≠ X.env.locals ∧ (∀ x c, X.env.cells.lookup x = some c → c ≠ b) ∧ ∀ p ∈ X.pn ++ pins, p.1 ≠ b) :
    Inv X pins σ H' { s with heap := h', gens := g', drawn := d', toks := t' } := by
  obtain ⟨m, ⟨o, es, ep, ho, r⟩, _⟩ := id I.loc
  obtain ⟨sl, hL⟩ := u.any ho I.free fun z => (hch _ z).2.1 rfl
  exact I.step (ch := ch) hch (fun b o hL hb hc e n => u.keep b o e n (fun z => (List.mem_cons.mp (I.stkSub b z)).elim hL hb) hc) (fun b o _ _ hc e n => u.any e n hc) (fun b o hc e n => u.free b o e n hc) (fun b o hc e => u.there b o e hc) u.tups u.frzs u.tbls (fun m' hm => by
    obtain ⟨o', es', ep', ho', r'⟩ := hm
    rw [ho] at ho'; cases ho'
    exact ⟨_, es', ep', hL, r'⟩) hok hg
theorem Inv.turned {t' : Nat} {it : Addr} (I : Inv X pins σ H s) (k : ∀ b o, b ≠ it → s.heap.get? b = some o → h'.get? b = some o) (hn : H it = none) (hL : it ≠ X.env.locals)
    (h1 : it ∈ X.ex ∨ X.s₀.heap.objs.size ≤ it) (h2 : ∀ x c, X.env.cells.lookup x = some c → c ≠ it) (h3 : ∀ p ∈ X.pn ++ pins, p.1 ≠ it) : Inv X pins σ H { s with heap := h', toks := t' } := by
  have nit : ∀ b u, H b = some u → b ≠ it := fun b u e z => by rw [z, hn] at e; cases e
  refine I.step (g' := s.gens) (d' := s.drawn) (ch := [it]) (fun b hb => ?_) (fun b o _ _ hc e _ => k b o (fun z => hc (by simp [z])) e) (fun b o _ _ hc e _ => ⟨o.slots, k b o (fun z => hc (by simp [z])) e⟩) (fun _ _ _ _ n => n)
    (fun b o hc e => ⟨o, k b o (fun z => hc (by simp [z])) e⟩) (fun _ _ e => e) (fun _ _ _ e => e) (fun b ps e => ⟨#[], by rw [e]; simp⟩) (fun m hm => ?_) (fun b u e => ?_) I.bare
  · have e : b = it := by simpa using hb
    subst e
    exact ⟨h1, hL, h2, h3⟩
  · obtain ⟨o, es, ep, ho, r⟩ := hm
    exact ⟨o, es, ep, k _ o (Ne.symm hL) ho, r⟩
  · refine (I.hok b u e).stay (fun c v hc q => k c v ?_ q) (fun _ q => q) fun _ _ q => q
    rcases hc with z | z
    · rw [z]; exact nit b u e
    · exact nit c _ z
theorem Inv.tok (I : Inv X pins σ H s) (t : Nat) : Inv X pins σ H { s with toks := t } := I.un (h' := s.heap) (t' := t) Un.refl I.hok
theorem Inv.kept {t' : Nat} (I : Inv X pins σ H s) (k : ∀ b u, s.heap.get? b = some u → h'.get? b = some u) : Inv X pins σ H { s with heap := h', toks := t' } := I.un (Un.kept k) (I.hok.kept k)
theorem Inv.laid {a : Addr} {o : HO} {t' : Nat} (I : Inv X pins σ H s) (k : ∀ b u, s.heap.get? b = some u → h'.get? b = some u) (hp : s.heap.objs.size ≤ a) (new : ObjOk X.prog X.w (upd H a o) h' a o) :
    Inv X pins σ (upd H a o) { s with heap := h', toks := t' } := I.un (Un.laid k hp (I.hok.fresh hp)) (I.hok.laid k hp new)
theorem Inv.write {x e : Addr} {o : HO} {t' : Nat} (I : Inv X pins σ H s) (mu : Mut (H x)) (he : e = x ∨ H e = some (.own x)) (k : ∀ b u, b ≠ e → s.heap.get? b = some u → h'.get? b = some u) (heo : ∃ u, h'.get? e = some u)
    (new : ObjOk X.prog X.w (upd H x o) h' x o) : Inv X pins σ (upd H x o) { s with heap := h', toks := t' } := I.un (Un.write mu he k heo) (I.hok.write mu he k heo new)
theorem Inv.pins_of {pins' : List (Addr × Obj)} (I : Inv X pins σ H s) (h : ∀ p ∈ pins', s.heap.get? p.1 = some p.2 ∧ H p.1 = none ∧ p.1 ≠ X.env.locals ∧ p.1 ∉ X.fs ∧ ∀ v, p.2.data ≠ .cell v) : Inv X pins' σ H s :=
  ⟨I.ok, I.os, I.bare, I.base, I.loc, I.cell, I.free, I.freeC, fun p hp => (List.mem_append.mp hp).elim (fun z => I.pin p (List.mem_append_left _ z)) (h p), I.hok, I.len⟩
theorem nodup_ix {N : List Str} (hN : N.Nodup) {i j : Nat} {x : Str} (a : N[i]? = some x) (b : N[j]? = some x) : i = j := by
  obtain ⟨h1, e1⟩ := List.getElem?_eq_some_iff.mp a
  obtain ⟨h2, e2⟩ := List.getElem?_eq_some_iff.mp b
  exact (List.getElem_inj hN).mp (e1.trans e2.symm)
theorem store_ok2 {M : Model} {A : Around} {E : Value → Shared → Prop} {i : Nat} {x : Str} {v : V} {u : Value} {Q : Unit → Shared → Prop} (I : Inv X pins σ H s) (hN : X.N.Nodup) (hi : X.N[i]? = some x) (hx : Loc X.env.scope x) (r : RelV v u)
    (h : ∀ s', Inv X pins (σ.set i (some v)) H s' → (∃ a, Heap.SameBut a s.heap s'.heap ∧ (a = X.env.locals ∨ X.env.cells.lookup x = some a)) → Q () s') (hf : X.fn x = true ∨ X.env.scope.names.lookup x = some .local := by first | exact .inl rfl | exact .inr rfl | assumption) : wpAny M A (storeName X.env x u) Q E s := by
  obtain ⟨m, hn, hl⟩ := id I.loc
  have hcls : (X.env.scope.kind == .class || (X.env.scope.kind == .module && X.env.locals != X.env.globals)) = false := by rw [I.ok.kind]; rfl
  have hiσ : i < σ.length := by rw [I.len]; exact (List.getElem?_eq_some_iff.mp hi).1
  have cne := I.cne
  have tracked : ∀ {a : Addr} {h' : Heap}, (∃ o, s.heap.get? a = some o ∧ H a = none) → Heap.SameBut a s.heap h' → HOk X.prog X.w H h' := fun {a h'} ha hs b ob e => by
    obtain ⟨_, _, hfree⟩ := ha
    refine (I.hok b ob e).stay (fun c w' hc q => (hs.2 c ?_).trans q) (fun _ q => q) fun _ _ q => q
    rintro rfl
    rcases hc with rfl | hc
    · rw [hfree] at e; cases e
    · rw [hfree] at hc; cases hc
  rcases hx with hk | hk
  · refine wpAny_storeName_local hk hn (fun h' hn' hs => ?_) hcls
    obtain ⟨oL, _, _, hoL, _⟩ := id hn
    refine h _ ⟨I.ok, I.os, I.bare, ⟨fun b o e n hb hx => ?_, fun b o e n hb hx => ?_, I.base.free, fun b o e hx => ?_, I.base.tups, I.base.frzs, I.base.tbls⟩, ⟨_, hn', fun j y v' e1 e2 e3 => ?_⟩, fun y c e => ?_, I.free, I.freeC, fun p hp => ?_, tracked ⟨oL, hoL, I.free⟩ hs, by simpa using I.len⟩ ⟨_, hs, .inl rfl⟩
    · exact (hs.2 b (Nat.ne_of_lt (Nat.lt_of_lt_of_le (Heap.lt_size e) I.ok.above))).trans (I.base.keep b o e n hb hx)
    · obtain ⟨sl, e1⟩ := I.base.slot b o e n hb hx
      exact ⟨sl, (hs.2 b (Nat.ne_of_lt (Nat.lt_of_lt_of_le (Heap.lt_size e) I.ok.above))).trans e1⟩
    · obtain ⟨o', e1⟩ := I.base.there b o e hx
      exact ⟨o', (hs.2 b (Nat.ne_of_lt (Nat.lt_of_lt_of_le (Heap.lt_size e) I.ok.above))).trans e1⟩
    · by_cases hj : j = i
      · subst hj
        rw [hi] at e1; cases e1
        rw [List.getElem?_set_self hiσ] at e2
        cases e2
        exact ⟨u, r, .inl ⟨hk, by simp⟩⟩
      · rw [List.getElem?_set_ne (Ne.symm hj)] at e2
        obtain ⟨u', r', q⟩ := hl j y v' e1 e2 e3
        refine ⟨u', r', ?_⟩
        rcases q with ⟨k, e⟩ | ⟨k, c, e, z⟩
        · refine .inl ⟨k, ?_⟩
          have : y ≠ x := fun e => hj (nodup_ix hN e1 (e ▸ hi))
          simp [this, e]
        · exact .inr ⟨k, c, e, z.sameBut hs (cne y c e)⟩
    · obtain ⟨w', z⟩ := I.cell y c e
      exact ⟨w', z.sameBut hs (cne y c e)⟩
    · obtain ⟨e, n, ne, nf, d⟩ := I.pin p hp
      exact ⟨(hs.2 p.1 ne).trans e, n, ne, nf, d⟩
  · have hfn : X.fn x = true := by
      rcases hf with z | z
      · exact z
      · rw [z] at hk; cases hk
    obtain ⟨c, hc⟩ := I.ok.has x (.inl hk)
    obtain ⟨w', z⟩ := I.cell x c hc
    refine wpAny_storeName_cell I.ok.kind hk hc z (fun h' hc' hs => ?_)
    obtain ⟨oc, hoc, hocd⟩ := id z
    refine h { s with heap := h' } ⟨I.ok, I.os, I.bare, ⟨fun b o e n hb hx => ?_, fun b o e n hb hx => ?_, I.base.free, fun b o e hx => ?_, I.base.tups, I.base.frzs, I.base.tbls⟩, ⟨m, hn.sameBut hs (Ne.symm (cne x c hc)), fun j y v' e1 e2 e3 => ?_⟩, fun y c' e => ?_, I.free, I.freeC, fun p hp => ?_, tracked ⟨oc, hoc, I.freeC x c hc⟩ hs, by simpa using I.len⟩ ⟨c, hs, .inr hc⟩
    · exact (hs.2 b (Nat.ne_of_lt (Nat.lt_of_lt_of_le (Heap.lt_size e) (I.ok.cab x c hfn hc)))).trans (I.base.keep b o e n hb hx)
    · obtain ⟨sl, e1⟩ := I.base.slot b o e n hb hx
      exact ⟨sl, (hs.2 b (Nat.ne_of_lt (Nat.lt_of_lt_of_le (Heap.lt_size e) (I.ok.cab x c hfn hc)))).trans e1⟩
    · obtain ⟨o', e1⟩ := I.base.there b o e hx
      exact ⟨o', (hs.2 b (Nat.ne_of_lt (Nat.lt_of_lt_of_le (Heap.lt_size e) (I.ok.cab x c hfn hc)))).trans e1⟩
    · by_cases hj : j = i
      · subst hj
        rw [hi] at e1; cases e1
        rw [List.getElem?_set_self hiσ] at e2
        cases e2
        exact ⟨u, r, .inr ⟨.inl hk, c, hc, hc'⟩⟩
      · rw [List.getElem?_set_ne (Ne.symm hj)] at e2
        obtain ⟨u', r', q⟩ := hl j y v' e1 e2 e3
        refine ⟨u', r', ?_⟩
        rcases q with q | ⟨k, c', e, z'⟩
        · exact .inl q
        · refine .inr ⟨k, c', e, z'.sameBut hs ?_⟩
          rintro rfl
          exact hj (nodup_ix hN e1 (I.ok.inj _ _ _ e hc ▸ hi))
    · by_cases hcc : c' = c
      · subst hcc; exact ⟨_, hc'⟩
      · obtain ⟨w2, z2⟩ := I.cell y c' e
        exact ⟨w2, z2.sameBut hs hcc⟩
    · obtain ⟨e, n, ne, nf, d⟩ := I.pin p hp
      refine ⟨(hs.2 p.1 ?_).trans e, n, ne, nf, d⟩
      intro q
      rw [q, hoc] at e
      have q' : oc = p.2 := Option.some.inj e
      exact d w' (by rw [← q']; exact hocd)
theorem store_ok {M : Model} {A : Around} {E : Value → Shared → Prop} {i : Nat} {x : Str} {v : V} {u : Value} {Q : Unit → Shared → Prop} (I : Inv X pins σ H s) (hN : X.N.Nodup) (hi : X.N[i]? = some x) (hx : Loc X.env.scope x) (r : RelV v u)
    (h : ∀ s', Inv X pins (σ.set i (some v)) H s' → Q () s') (hf : X.fn x = true ∨ X.env.scope.names.lookup x = some .local := by first | exact .inl rfl | exact .inr rfl | assumption) : wpAny M A (storeName X.env x u) Q E s :=
  store_ok2 I hN hi hx r (fun s' I' _ => h s' I') hf
theorem Inv.call' {s' : Shared} {ch : List Addr} (I : Inv X pins σ H s) (ho : s'.os = s.os) (u : Un (frs X.stack) ch H H' s.heap s'.heap) (hok : HOk X.prog X.w H' s'.heap) (hg : AllBare s'.gens)
    (hch : ∀ b ∈ ch, (b ∈ X.ex ∨ X.s₀.heap.objs.size ≤ b) ∧ b ≠ X.env.locals ∧ (∀ x c, X.env.cells.lookup x = some c → c ≠ b) ∧ ∀ p ∈ X.pn ++ pins, p.1 ≠ b) : Inv X pins σ H' s' := by
  obtain ⟨h', g', d', t', o'⟩ := s'
  have e : o' = s.os := ho
  subst e
  exact I.call (g' := g') (t' := t') (d' := d') u hok hg hch
end
abbrev XK := Value → Option Addr → Hp → Prop
abbrev St := List (Option V)
abbrev VK := V → Hp → Prop
abbrev TE := St → Hp → VK → Prop
abbrev TT := St → Hp → (Bool → Hp → Prop) → Prop
abbrev TA := St → Hp → (List V → Hp → Prop) → Prop
structure Ends where
  nx : St → Hp → Prop
  rt : VK
  bk : St → Hp → Prop := fun _ _ => False
  ct : St → Hp → Prop := fun _ _ => False
abbrev TS := Ends → St → Hp → Prop
def EP (X : Cx) (pins : List (Addr × Obj)) (σ : St) (Q : VK) (u : Value) (s' : Shared) : Prop := ∃ v H', Inv X pins σ H' s' ∧ RelV v u ∧ Q v H'
def TP (X : Cx) (pins : List (Addr × Obj)) (σ : St) (Q : Bool → Hp → Prop) (b : Bool) (s' : Shared) : Prop := ∃ H', Inv X pins σ H' s' ∧ Q b H'
def AP (X : Cx) (pins : List (Addr × Obj)) (σ : St) (Q : List V → Hp → Prop) (us : List Value) (s' : Shared) : Prop := ∃ vs H', Inv X pins σ H' s' ∧ Vals vs us ∧ Q vs H'
def SP (X : Cx) (pins : List (Addr × Obj)) (D : Ends) (f : Flow) (s' : Shared) : Prop :=
  match f with
  | .next => ∃ σ' H', Inv X pins σ' H' s' ∧ D.nx σ' H'
  | .brk => ∃ σ' H', Inv X pins σ' H' s' ∧ D.bk σ' H'
  | .cont => ∃ σ' H', Inv X pins σ' H' s' ∧ D.ct σ' H'
  | .ret u => ∃ v σ' H', Inv X pins σ' H' s' ∧ RelV v u ∧ D.rt v H'
def PE (X : Cx) (e : Expr) (t : TE) : Prop :=
  ∀ (pins : List (Addr × Obj)) (s : Shared) (σ : St) (H : Hp) (Q : VK), Inv X pins σ H s → t σ H Q → wpAny (model X.prog X.w) X.A (eval e X.env) (EP X pins σ Q) X.xe s
def PT (X : Cx) (e : Expr) (t : TT) : Prop :=
  ∀ (pins : List (Addr × Obj)) (s : Shared) (σ : St) (H : Hp) (Q : Bool → Hp → Prop), Inv X pins σ H s → t σ H Q → wpAny (model X.prog X.w) X.A (isTrue e X.env (eval e X.env)) (TP X pins σ Q) X.xe s
def PW (X : Cx) (e : Expr) (t : TT) : Prop :=
  ∀ (whole : Sem Value) (pins : List (Addr × Obj)) (s : Shared) (σ : St) (H : Hp) (Q : Bool → Hp → Prop), Inv X pins σ H s → t σ H Q → wpAny (model X.prog X.w) X.A (isTrue e X.env whole) (TP X pins σ Q) X.xe s
theorem PW.pt {X : Cx} {e : Expr} {t : TT} (h : PW X e t) : PT X e t := h _
def PA (X : Cx) (es : List Expr) (t : TA) : Prop :=
  ∀ (pos : Pos) (pins : List (Addr × Obj)) (s : Shared) (σ : St) (H : Hp) (Q : List V → Hp → Prop), Inv X pins σ H s → t σ H Q → wpAny (model X.prog X.w) X.A (spliced (backTo pos (starEach es X.env))) (AP X pins σ Q) X.xe s
def PS (X : Cx) (st : Stmt) (t : TS) : Prop :=
  ∀ (pins : List (Addr × Obj)) (s : Shared) (σ : St) (H : Hp) (D : Ends), Inv X pins σ H s → t D σ H → wpAny (model X.prog X.w) X.A (exec st X.env) (SP X pins D) X.xe s
def PSs (X : Cx) (st : List Stmt) (t : TS) : Prop :=
  ∀ (pins : List (Addr × Obj)) (s : Shared) (σ : St) (H : Hp) (D : Ends), Inv X pins σ H s → t D σ H → wpAny (model X.prog X.w) X.A (execs st X.env) (SP X pins D) X.xe s
theorem thn {α : Type} {t : Sem α} {Q Q' : α → Shared → Prop} {M : Model} {A : Around} {E : Value → Shared → Prop} {s : Shared} (h : wpAny M A t Q E s) (hQ : ∀ a s, Q a s → Q' a s) : wpAny M A t Q' E s := wpAny_mono h hQ fun _ _ x => x
theorem thnE {t : Sem Value} {X : Cx} {pins : List (Addr × Obj)} {σ : St} {Q : VK} {Q' : Value → Shared → Prop} {M : Model} {A : Around} {E : Value → Shared → Prop} {s : Shared} (h : wpAny M A t (EP X pins σ Q) E s) (hQ : ∀ u s v H, Inv X pins σ H s → RelV v u → Q v H → Q' u s) : wpAny M A t Q' E s := thn h fun u s ⟨v, H, I, r, q⟩ => hQ u s v H I r q
theorem thnA {t : Sem (List Value)} {X : Cx} {pins : List (Addr × Obj)} {σ : St} {Q : List V → Hp → Prop} {Q' : List Value → Shared → Prop} {M : Model} {A : Around} {E : Value → Shared → Prop} {s : Shared} (h : wpAny M A t (AP X pins σ Q) E s) (hQ : ∀ u s v H, Inv X pins σ H s → Vals v u → Q v H → Q' u s) : wpAny M A t Q' E s := thn h fun u s ⟨v, H, I, r, q⟩ => hQ u s v H I r q
theorem thnT {t : Sem Bool} {X : Cx} {pins : List (Addr × Obj)} {σ : St} {Q : Bool → Hp → Prop} {Q' : Bool → Shared → Prop} {M : Model} {A : Around} {E : Value → Shared → Prop} {s : Shared} (h : wpAny M A t (TP X pins σ Q) E s) (hQ : ∀ u s H, Inv X pins σ H s → Q u H → Q' u s) : wpAny M A t Q' E s := thn h fun u s ⟨H, I, q⟩ => hQ u s H I q
end L2
namespace L2
open PySem PySem.Spec PyProof.Rows
section
variable {X : Cx}
def tVar (i : Nat) : TE := fun σ H Q => ∃ v, σ[i]? = some (some v) ∧ Q v H
def tC (v : V) : TE := fun _ H Q => Q v H
theorem pe_var {i : Nat} {x : Str} {pos : Pos} (hN : X.N[i]? = some x) (hv : Vis X.env.scope x) (hd : (x == ("__debug__" : Str)) = false := by decide) (hcd : (x == ("__classdict__" : Str)) = false := by decide) : PE X (.Name x pos) (tVar i) := by
  intro pins s σ H Q I h
  obtain ⟨v, e, h⟩ := h
  obtain ⟨m, hn, hl⟩ := I.loc
  obtain ⟨u, r, l⟩ := hl i x v hN e hv
  have fin : EP X pins σ Q u s := ⟨v, H, I, r, h⟩
  rcases l with ⟨hk, hm⟩ | ⟨hk, c, hc, hcell⟩
  · exact wpAny_Name (wpAny_loadName_local I.ok.kind hk hn hm fin) hd
  · rcases hk with hk | hk
    · exact wpAny_Name (wpAny_loadName_cell I.ok.kind hk hc hcell fin) hd
    · exact wpAny_Name (wpAny_loadName_free I.ok.kind hk hc hcell fin hcd) hd
theorem pe_int {i j pos} : PE X (.Constant (.int i) j pos) (tC (.int i)) := fun _ _ _ H _ I h => wpAny_Constant_int ⟨.int i, H, I.tok _, ⟨_, rfl⟩, h⟩
theorem pe_bl {b j pos} : PE X (.Constant (.bool b) j pos) (tC (.bl b)) := fun _ _ _ H _ I h => Constant_bool ⟨.bl b, H, I, rfl, h⟩
theorem pe_str {x j pos} : PE X (.Constant (.str x) j pos) (tC (.str x)) := fun _ _ _ H _ I h => Calls.Constant_str ⟨.str x, H, I.tok _, ⟨_, rfl⟩, h⟩
def Gl (X : Cx) (x : Str) : Prop := X.env.kindOf x = some .globalImplicit
theorem ld_glob {E : Value → Shared → Prop} {pins : List (Addr × Obj)} {s : Shared} {σ : St} {H : Hp} {x : Str} {u : Value} {pos : Pos} {Q : Value → Shared → Prop} (I : Inv X pins σ H s) (hg : Gl X x) (hm : X.mg x = some u) (h : Q u s)
    (hd : (x == ("__debug__" : Str)) = false := by decide) : wpAny (model X.prog X.w) X.A (eval (.Name x pos) X.env) Q E s :=
  Calls.Name_function_global I.ok.kind hg (Calls.loadGlobal_global (by rw [I.ok.glob]; exact I.mod.glob.keeps I.bk) hm h) hd
theorem ld_blt {E : Value → Shared → Prop} {pins : List (Addr × Obj)} {s : Shared} {σ : St} {H : Hp} {x : Str} {u : Value} {pos : Pos} {Q : Value → Shared → Prop} (I : Inv X pins σ H s) (hg : Gl X x) (hm : X.mg x = none) (hv : bootBuiltins x = some u) (h : Q u s)
    (hn : x ≠ "__name__" := by decide) (hd : (x == ("__debug__" : Str)) = false := by decide) : wpAny (model X.prog X.w) X.A (eval (.Name x pos) X.env) Q E s := by
  obtain ⟨mb, h1, h2⟩ := I.mod.blt
  exact Calls.Name_function_global I.ok.kind hg (Calls.loadGlobal_builtin (by rw [I.ok.glob]; exact I.mod.glob.keeps I.bk) hm (by rw [I.ok.blt]; exact h1.keeps I.bk) ((h2 x hn).trans hv) h) hd
theorem pe_glob {x : Str} {v : V} {u : Value} {pos : Pos} (hg : Gl X x) (hm : X.mg x = some u) (r : RelV v u) (hd : (x == ("__debug__" : Str)) = false := by decide) : PE X (.Name x pos) (tC v) :=
  fun _ _ _ H _ I h => ld_glob I hg hm ⟨v, H, I, r, h⟩ hd
theorem pe_bltn {x : Str} {v : V} {u : Value} {pos : Pos} (hg : Gl X x) (hm : X.mg x = none) (hv : bootBuiltins x = some u) (r : RelV v u) (hn : x ≠ "__name__" := by decide) (hd : (x == ("__debug__" : Str)) = false := by decide) : PE X (.Name x pos) (tC v) :=
  fun _ _ _ H _ I h => ld_blt I hg hm hv ⟨v, H, I, r, h⟩ hn hd
variable {a b : Expr} {ta tb : TE} {pos : Pos}
def PC (X : Cx) (op : CmpOp) (a b : Expr) (t : TE) : Prop :=
  ∀ (pins : List (Addr × Obj)) (s : Shared) (σ : St) (H : Hp) (Q : VK), Inv X pins σ H s → t σ H Q →
    wpAny (model X.prog X.w) X.A (eval a X.env) (fun v s₁ => wpAny (model X.prog X.w) X.A (eval b X.env) (fun u s₂ => wpAny (model X.prog X.w) X.A (compareOp op v u) (EP X pins σ Q) X.xe s₂) X.xe s₁) X.xe s
def tIsN (ta : TE) : TE := fun σ H Q => ta σ H fun x H1 => Q (.bl (decide (x = .non))) H1
def tNotN (ta : TE) : TE := fun σ H Q => ta σ H fun x H1 => Q (.bl (!decide (x = .non))) H1
def tB (t : TE) : TT := fun σ H Q => t σ H fun x H1 => ∃ c, x = .bl c ∧ Q c H1
theorem pt_val {e : Expr} {t : TE} (h : PE X e t) (he : ∀ whole, isTrue e X.env whole = (do let v ← whole; standAt e.pos; holding [v] (truthy v)) := by intro _; rfl) : PT X e (tB t) := by
  intro pins s σ H Q I hw
  refine isTrue_plain (thnE (h pins s σ H _ I hw) fun v s1 x H1 I1 r1 q1 => ?_) (he _)
  obtain ⟨d, rfl, q⟩ := q1
  cases r1
  exact wpAny_truthy_bool ⟨H1, I1, q⟩
variable {tA tB' : TT} {rest : List Expr}
def tAnd (t u : TT) : TT := fun σ H Q => t σ H fun c H1 => if c = true then u σ H1 Q else Q false H1
def tOr (t u : TT) : TT := fun σ H Q => t σ H fun c H1 => if c = true then Q true H1 else u σ H1 Q
def tNot (t : TT) : TT := fun σ H Q => t σ H fun c H1 => Q (!c) H1
theorem pw_or1 (ha : PT X a tA) : PW X (.BoolOp .Or [a] pos) tA := by
  intro wh pins s σ H Q I h
  refine isTrue_or (thn (ha pins s σ H Q I h) fun c s1 e => ?_)
  cases c with
  | false => exact isTrue_or_nil e
  | true => exact e
theorem pw_or (ha : PT X a tA) (hb : PW X (.BoolOp .Or (b :: rest) pos) tB') : PW X (.BoolOp .Or (a :: b :: rest) pos) (tOr tA tB') := by
  intro wh pins s σ H Q I h
  refine isTrue_or (thnT (ha pins s σ H _ I h) fun c s1 H1 I1 q1 => ?_)
  cases c with
  | true => exact ⟨H1, I1, q1⟩
  | false => exact hb wh pins s1 σ H1 Q I1 q1
theorem pt_not (ha : PT X a tA) : PT X (.UnaryOp .Not a pos) (tNot tA) := by
  intro pins s σ H Q I h
  exact isTrue_not (ha pins s σ H (fun c H1 => Q (!c) H1) I h)
def tAndV (ta tb : TE) : TE := fun σ H Q => ta σ H fun x H1 => ∃ c, x = .bl c ∧ if c = true then tb σ H1 Q else Q (.bl false) H1
def tOrV (ta tb : TE) : TE := fun σ H Q => ta σ H fun x H1 => ∃ c, x = .bl c ∧ if c = true then Q (.bl true) H1 else tb σ H1 Q
def tNotV (ta : TE) : TE := fun σ H Q => ta σ H fun x H1 => ∃ c, x = .bl c ∧ Q (.bl (!c)) H1
theorem pe_one {op} {t : TE} (h : PE X a t) : PE X (.BoolOp op [a] pos) t := fun pins s σ H Q I hw => BoolOp_one (h pins s σ H Q I hw)
theorem pe_and (ha : PE X a ta) (hb : PE X (.BoolOp .And (b :: rest) pos) tb) : PE X (.BoolOp .And (a :: b :: rest) pos) (tAndV ta tb) := by
  intro pins s σ H Q I h
  refine BoolOp_and (thnE (ha pins s σ H _ I h) fun v s1 x H1 I1 r1 q1 => ?_)
  obtain ⟨c, rfl, q1⟩ := q1
  cases r1
  refine wpAny_truthy_bool ?_
  cases c with
  | true => exact hb pins s1 σ H1 Q I1 q1
  | false => exact ⟨.bl false, H1, I1, rfl, q1⟩
theorem pe_or (ha : PE X a ta) (hb : PE X (.BoolOp .Or (b :: rest) pos) tb) : PE X (.BoolOp .Or (a :: b :: rest) pos) (tOrV ta tb) := by
  intro pins s σ H Q I h
  refine BoolOp_or (thnE (ha pins s σ H _ I h) fun v s1 x H1 I1 r1 q1 => ?_)
  obtain ⟨c, rfl, q1⟩ := q1
  cases r1
  refine wpAny_truthy_bool ?_
  cases c with
  | false => exact hb pins s1 σ H1 Q I1 q1
  | true => exact ⟨.bl true, H1, I1, rfl, q1⟩
theorem pe_not (ha : PE X a ta) : PE X (.UnaryOp .Not a pos) (tNotV ta) := by
  intro pins s σ H Q I h
  refine UnaryOp_ (thnE (ha pins s σ H _ I h) fun v s1 x H1 I1 r1 q1 => ?_)
  obtain ⟨c, rfl, q1⟩ := q1
  cases r1
  exact not_of (wpAny_truthy_bool ⟨.bl (!c), H1, I1, rfl, q1⟩)
def tIf (t : TT) (ta tb : TE) : TE := fun σ H Q => t σ H fun c H1 => if c = true then ta σ H1 Q else tb σ H1 Q
end
end L2
namespace L2
open PySem PySem.Spec PyProof.Rows
def SqL (K : PySem.W.Frag) (H : Hp) (a : Addr) (xs : List V) : Prop :=
  Rd H a (.lst xs) ∨
    ∃ (o : Obj) (its : Array Value) (n : Nat), K.lookup a = some o ∧ o.cls = .type "list" ∧ o.dict = none ∧ o.data = .seq its n ∧ its.size ≤ sizeLine ∧ Vals xs its.toList
def SqT (K : PySem.W.Frag) (H : Hp) (a : Addr) (xs : List V) : Prop :=
  Rd H a (.tup xs) ∨
    ∃ (o : Obj) (its : Array Value) (n : Nat), K.lookup a = some o ∧ o.cls = .type "tuple" ∧ o.data = .seq its n ∧ its.size ≤ sizeLine ∧ Vals xs its.toList
def absV : Value → Option V
  | .none => some .non
  | .bool b => some (.bl b)
  | .int i _ => some (.int i)
  | .str x _ => some (.str x)
  | .bytes b _ => some (.byt b)
  | .float b _ => some (.flt b)
  | .ref a => some (.ref a)
  | .type n => some (.ty n)
  | _ => none
theorem RelV.abs {x : V} {u : Value} (r : RelV x u) : absV u = some x := by
  cases x with
  | non => cases r; rfl
  | bl _ => cases r; rfl
  | int _ => obtain ⟨t, rfl⟩ := r; rfl
  | str _ => obtain ⟨t, rfl⟩ := r; rfl
  | byt _ => obtain ⟨t, rfl⟩ := r; rfl
  | flt _ => obtain ⟨t, rfl⟩ := r; rfl
  | ref _ => cases r; rfl
  | ty _ => cases r; rfl
theorem RelV.inj {x y : V} {u : Value} (r : RelV x u) (q : RelV y u) : x = y := Option.some.inj (r.abs.symm.trans q.abs)
theorem Vals.inj {xs ys : List V} {us : List Value} (h : Vals xs us) (h2 : Vals ys us) : xs = ys := by
  induction h generalizing ys with
  | nil => cases h2; rfl
  | cons r _ ih => cases h2 with | cons r2 t2 => rw [r.inj r2, ih t2]
section
variable {X : Cx} {pins : List (Addr × Obj)} {σ : St} {H : Hp} {s : Shared} {a : Addr} {xs ys : List V}
theorem SqL.of {K : PySem.W.Frag} (h : H a = some (.lst xs)) : SqL K H a xs := .inl (.inl h)
theorem Inv.list (I : Inv X pins σ H s) (h : SqL X.K H a xs) : ∃ its : List Value, Vals xs its ∧ PlainL s.heap a its.toArray ∧ xs.length ≤ sizeLine := by
  rcases h with h | ⟨o, its, n, hk, hc, hd, hs, hz, r⟩
  · obtain ⟨z, its, n, r, e⟩ := h.ok I.hok
    exact ⟨its, r, ⟨_, n, e, rfl, rfl, rfl⟩, z⟩
  · refine ⟨its.toList, r, ⟨o, n, I.kIn a o hk, hc, hd, by simpa using hs⟩, ?_⟩
    have e := r.length
    simp only [Array.length_toList] at e
    omega
theorem Inv.tuple (I : Inv X pins σ H s) (h : SqT X.K H a xs) : ∃ its : List Value, Vals xs its ∧ IsTup s.heap a its.toArray ∧ xs.length ≤ sizeLine := by
  rcases h with h | ⟨o, its, n, hk, hc, hs, hz, r⟩
  · obtain ⟨z, its, r, p⟩ := h.ok I.hok
    exact ⟨its, r, p, z⟩
  · refine ⟨its.toList, r, ⟨o, I.kIn a o hk, hc, n, by simpa using hs⟩, ?_⟩
    have e := r.length
    simp only [Array.length_toList] at e
    omega
theorem Inv.list_inj (I : Inv X pins σ H s) (h : SqL X.K H a xs) (h' : SqL X.K H a ys) : xs = ys := by
  obtain ⟨its, r, ⟨o, n, e, _, _, d⟩, _⟩ := I.list h
  obtain ⟨its', r', ⟨o', n', e', _, _, d'⟩, _⟩ := I.list h'
  rw [e] at e'; cases e'
  rw [d] at d'
  injection d' with d1 _
  have : its = its' := by simpa using congrArg Array.toList d1
  subst this
  exact r.inj r'
end
abbrev Cx.wish (X : Cx) (E : Value → Shared → Prop) : Cx := { X with xe := E }
abbrev Cx.nox (X : Cx) : Cx := X.wish fun _ _ => False
theorem Cx.Ok.wish {X : Cx} (ok : X.Ok) (E : Value → Shared → Prop) : (X.wish E).Ok :=
  ⟨ok.mod, ok.kind, ok.glob, ok.blt, ok.above, ok.inj, ok.has, ok.cab, ok.hd, ok.frames, ok.stk, ok.exf, ok.bs, ok.bsz, ok.noex, ok.exfs, ok.funs, ok.frf⟩
theorem Cx.Ok.unwish {X : Cx} {E : Value → Shared → Prop} (ok : (X.wish E).Ok) : X.Ok :=
  ⟨ok.mod, ok.kind, ok.glob, ok.blt, ok.above, ok.inj, ok.has, ok.cab, ok.hd, ok.frames, ok.stk, ok.exf, ok.bs, ok.bsz, ok.noex, ok.exfs, ok.funs, ok.frf⟩
section
variable {X : Cx} {pins : List (Addr × Obj)} {σ : St} {H : Hp} {s : Shared} {E : Value → Shared → Prop}
theorem Inv.wish (I : Inv X pins σ H s) (E : Value → Shared → Prop) : Inv (X.wish E) pins σ H s := ⟨I.ok.wish E, I.os, I.bare, I.base, I.loc, I.cell, I.free, I.freeC, I.pin, I.hok, I.len⟩
theorem Inv.unwish (I : Inv (X.wish E) pins σ H s) : Inv X pins σ H s := ⟨I.ok.unwish, I.os, I.bare, I.base, I.loc, I.cell, I.free, I.freeC, I.pin, I.hok, I.len⟩
theorem SP.unwish {D : Ends} {f : Flow} {s' : Shared} (h : SP (X.wish E) pins D f s') : SP X pins D f s' := by
  cases f with
  | next => obtain ⟨σ', H', I, q⟩ := h; exact ⟨σ', H', I.unwish, q⟩
  | brk => obtain ⟨σ', H', I, q⟩ := h; exact ⟨σ', H', I.unwish, q⟩
  | cont => obtain ⟨σ', H', I, q⟩ := h; exact ⟨σ', H', I.unwish, q⟩
  | ret u => obtain ⟨v, σ', H', I, r, q⟩ := h; exact ⟨v, σ', H', I.unwish, r, q⟩
theorem PSs.nox {st : List Stmt} {t : TS} (h : PSs X.nox st t) : PSs X st t := fun pins s σ H D I hw =>
  wpAny_mono (h pins s σ H D (I.wish _) hw) (fun _ _ q => q.unwish) fun _ _ z => False.elim z
end
section
variable {X : Cx} {st : Stmt} {rest : List Stmt} {t u : TS} {e : Expr} {te : TE} {pos : Pos}
def tNext : TS := fun D σ H => D.nx σ H
def tSeq (t u : TS) : TS := fun D σ H => t { D with nx := u D } σ H
theorem pss_nil : PSs X [] tNext := fun _ _ σ H _ I h => wpAny_execs_nil ⟨σ, H, I, h⟩
theorem pss_cons (h1 : PS X st t) (h2 : PSs X rest u) : PSs X (st :: rest) (tSeq t u) := by
  intro pins s σ H D I h
  refine wpAny_execs_cons (thn (h1 pins s σ H { D with nx := u D } I h) fun f s1 q => ?_)
  cases f with
  | next =>
    obtain ⟨σ', H', I', q⟩ := q
    exact h2 pins s1 σ' H' D I' q
  | ret v => exact q
  | brk => exact q
  | cont => exact q
theorem pss_one (h1 : PS X st t) : PSs X [st] t := by
  intro pins s σ H D I h
  refine wpAny_execs_cons (thn (h1 pins s σ H D I h) fun f s1 q => ?_)
  cases f with
  | next => exact wpAny_execs_nil q
  | ret v => exact q
  | brk => exact q
  | cont => exact q
theorem Inv.quiet {pins : List (Addr × Obj)} {σ : St} {H : Hp} {s : Shared} (I : Inv X pins σ H s) : interactive X.env = false := by simp [interactive, I.ok.kind]
def tDrop (te : TE) : TS := fun D σ H => te σ H fun _ H1 => D.nx σ H1
theorem ps_expr (he : PE X e te) (hs : swapsWith e none pos.line X.env = pure false := by rfl) : PS X (.Expr e pos) (tDrop te) := by
  intro pins s σ H D I h
  exact wpAny_Expr_any (thnE (he pins s σ H _ I h) fun v s1 x H1 I1 r1 q1 => ⟨σ, H1, I1, q1⟩) I.quiet hs
def tRet (te : TE) : TS := fun D σ H => te σ H D.rt
theorem ps_ret (he : PE X e te) : PS X (.Return (some e) pos) (tRet te) := by
  intro pins s σ H D I h
  exact wpAny_Return_some (thnE (he pins s σ H _ I h) fun v s1 x H1 I1 r1 q1 => ⟨x, σ, H1, I1, r1, q1⟩)
def tRetN : TS := fun D _ H => D.rt .non H
def tIfS (c : TT) (t u : TS) : TS := fun D σ H => c σ H fun b H1 => if b = true then t D σ H1 else u D σ H1
theorem ps_if {c : Expr} {a b : List Stmt} {tc : TT} (hc : PT X c tc) (ha : PSs X a t) (hb : PSs X b u) : PS X (.If c a b pos) (tIfS tc t u) := by
  intro pins s σ H D I h
  refine wpAny_If (thnT (hc pins s σ H _ I h) fun d s1 H1 I1 q1 => ?_)
  cases d with
  | true => exact ha pins s1 σ H1 D I1 q1
  | false => exact hb pins s1 σ H1 D I1 q1
def tNever : TS := fun _ _ _ => False
end
abbrev TG := V → St → Hp → (St → Hp → Prop) → Prop
abbrev TGs := List V → St → Hp → (St → Hp → Prop) → Prop
def PG (X : Cx) (target : Expr) (t : TG) : Prop :=
  ∀ (pins : List (Addr × Obj)) (s : Shared) (σ : St) (H : Hp) (v : V) (u : Value) (Q : St → Hp → Prop), Inv X pins σ H s → RelV v u → t v σ H Q →
    wpAny (model X.prog X.w) X.A (assign target X.env u) (fun _ s' => ∃ σ' H', Inv X pins σ' H' s' ∧ Q σ' H') X.xe s
def PGs (X : Cx) (ts : List Expr) (t : TGs) : Prop :=
  ∀ (pins : List (Addr × Obj)) (s : Shared) (σ : St) (H : Hp) (vs : List V) (us : List Value) (Q : St → Hp → Prop), Inv X pins σ H s → Vals vs us → t vs σ H Q →
    wpAny (model X.prog X.w) X.A (assignInOrder ((assignEach ts X.env).map (·.2)) us) (fun _ s' => ∃ σ' H', Inv X pins σ' H' s' ∧ Q σ' H') X.xe s
abbrev TSet := V → V → V → Hp → (Hp → Prop) → Prop
abbrev TIp := V → V → Hp → VK → Prop
section
variable {X : Cx} {pos : Pos}
def gName (i : Nat) : TG := fun v σ H Q => Q (σ.set i (some v)) H
theorem pg_name {i : Nat} {x : Str} (hN : X.N.Nodup) (hi : X.N[i]? = some x) (hx : Loc X.env.scope x) (hf : X.fn x = true ∨ X.env.scope.names.lookup x = some .local := by first | exact .inl rfl | exact .inr rfl | assumption) : PG X (.Name x pos) (gName i) := by
  intro pins s σ H v u Q I r h
  exact wpAny_assign_Name (store_ok I hN hi hx r (fun s' I' => ⟨_, H, I', h⟩) hf)
def gNil : TGs := fun vs σ H Q => vs = [] ∧ Q σ H
def gCons (t : TG) (u : TGs) : TGs := fun vs σ H Q => ∃ v r, vs = v :: r ∧ t v σ H fun σ' H' => u r σ' H' Q
def gTup (K : PySem.W.Frag) (n : Nat) (t : TGs) : TG := fun v σ H Q => ∃ a xs, v = .ref a ∧ SqT K H a xs ∧ xs.length = n ∧ t xs σ H Q
def gSub (to ti : TE) (t : TSet) : TG := fun v σ H Q => to σ H fun o H1 => ti σ H1 fun i H2 => t o i v H2 fun H3 => Q σ H3
def tAsg (te : TE) (g : TG) : TS := fun D σ H => te σ H fun x H1 => g x σ H1 D.nx
theorem ps_set {i : Nat} {x : Str} {e : Expr} {te : TE} {pos' : Pos} (hN : X.N.Nodup) (hi : X.N[i]? = some x) (hx : Loc X.env.scope x) (he : PE X e te) (hs : swapsWith e (some (.Name x pos')) pos.line X.env = pure false := by rfl) (hf : X.fn x = true ∨ X.env.scope.names.lookup x = some .local := by first | exact .inl rfl | exact .inr rfl | assumption) :
    PS X (.Assign [.Name x pos'] e pos) (tAsg te (gName i)) := by
  intro pins s σ H D I h
  refine wpAny_Assign_Name (thnE (he pins s σ H _ I h) fun v s1 y H1 I1 r1 q1 => ?_) hs
  exact store_ok I1 hN hi hx r1 (fun s2 I2 => ⟨_, H1, I2, q1⟩) hf
def tAug (i : Nat) (te : TE) (ti : TIp) : TS := fun D σ H => ∃ x, σ[i]? = some (some x) ∧ te σ H fun y H1 => ti x y H1 fun z H2 => D.nx (σ.set i (some z)) H2
def tAugS (to ti te : TE) (tget : V → V → Hp → VK → Prop) (tip : TIp) (tset : TSet) : TS := fun D σ H => to σ H fun o H1 => ti σ H1 fun i H2 => tget o i H2 fun x H3 => te σ H3 fun y H4 => tip x y H4 fun z H5 => tset o i z H5 fun H6 => D.nx σ H6
def ipI (f : Int → Int → Int) : TIp := fun x y H Q => ∃ i j, x = .int i ∧ y = .int j ∧ Q (.int (f i j)) H
end
section
variable {X : Cx} {pos : Pos}
end
structure It where
  go : Nat → Hp → Prop
  yld : Nat → Hp → V → Hp → Prop
  stop : Nat → Hp → Prop
def FpOk (X : Cx) (pins : List (Addr × Obj)) (H : Hp) (b : Addr) : Prop :=
  H b = none ∧ b ≠ X.env.locals ∧ b ∉ X.fs ∧ (b ∈ X.ex ∨ X.s₀.heap.objs.size ≤ b) ∧ (∀ x c, X.env.cells.lookup x = some c → c ≠ b) ∧ ∀ p ∈ X.pn ++ pins, p.1 ≠ b
theorem Inv.fpOk {X : Cx} {pins : List (Addr × Obj)} {σ : St} {H H' : Hp} {s : Shared} {b : Addr} (I : Inv X pins σ H s) (hb : s.heap.objs.size ≤ b) (hn : H' b = none) : FpOk X pins H' b := by
  refine ⟨hn, Nat.ne_of_gt (Nat.lt_of_lt_of_le I.lt hb), I.nofs hb, .inr (Nat.le_trans I.sz hb), fun x c e z => ?_, fun p hp z => ?_⟩
  · obtain ⟨v, q⟩ := I.cell x c e
    exact absurd (Nat.lt_of_lt_of_le q.lt (by rw [z]; exact hb)) (Nat.lt_irrefl _)
  · exact absurd (Nat.lt_of_lt_of_le (Heap.lt_size (I.pin p hp).1) (by rw [z]; exact hb)) (Nat.lt_irrefl _)
structure Turn (P : Program) (w : World) (K : PySem.W.Frag) (tg : Expr) (J : It) (fp : List Addr) (it : Addr) (tn : Nat → Heap → Prop) : Prop where
  mem : it ∈ fp
  obj : ∀ i h, tn i h → ∀ b ∈ fp, ∃ o, h.get? b = some o ∧ ∀ v, o.data ≠ .cell v
  keep : ∀ i h h', tn i h → (∀ b ∈ fp, ∀ o, h.get? b = some o → h'.get? b = some o) → tn i h'
  item : ∀ (X : Cx), X.prog = P → X.w = w → X.K = K → X.calm = true → ∀ (i : Nat) (pins : List (Addr × Obj)) (s : Shared) (σ : St) (H : Hp) (E : Value → Shared → Prop), Inv X pins σ H s → (∀ b ∈ fp, FpOk X pins H b) → tn i s.heap → J.go i H →
    wpAny (model P w) X.A (pyNext (.ref it)) (fun r s1 => ∃ u, r = some u ∧
      wpAny (model P w) X.A (letOwnedTupleGo tg (.ref it) u) (fun _ s2 => ∃ x H', Inv X pins σ H' s2 ∧ RelV x u ∧ J.yld i H x H' ∧ tn (i + 1) s2.heap ∧ ∀ b ∈ fp, H' b = none) E s1) E s
  done : ∀ (X : Cx), X.prog = P → X.w = w → X.K = K → X.calm = true → ∀ (i : Nat) (pins : List (Addr × Obj)) (s : Shared) (σ : St) (H : Hp) (E : Value → Shared → Prop), Inv X pins σ H s → (∀ b ∈ fp, FpOk X pins H b) → tn i s.heap → J.stop i H →
    wpAny (model P w) X.A (pyNext (.ref it)) (fun r s1 => r = none ∧ Inv X pins σ H s1) E s
  self : ∀ (A : Around) (i : Nat) (s : Shared) (Q : Value → Shared → Prop) (E : Value → Shared → Prop), tn i s.heap → Q (.ref it) s → wpAny (model P w) A (pyIter (.ref it)) Q E s
abbrev TI := St → Hp → (It → Hp → Prop) → Prop
def PIE (X : Cx) (pins : List (Addr × Obj)) (σ : St) (tg : Expr) (R : It → Hp → Prop) (itv : Value) (s2 : Shared) : Prop :=
  ∃ (it : Addr) (fp : List Addr) (tn : Nat → Heap → Prop) (J : It) (H' : Hp), itv = .ref it ∧ Inv X pins σ H' s2 ∧ Turn X.prog X.w X.K tg J fp it tn ∧ tn 0 s2.heap ∧ (∀ b ∈ fp, FpOk X pins H' b) ∧ R J H'
def PI (X : Cx) (tg iter : Expr) (wi : TI) : Prop :=
  ∀ (pins : List (Addr × Obj)) (s : Shared) (σ : St) (H : Hp) (R : It → Hp → Prop), Inv X pins σ H s → wi σ H R →
    wpAny (model X.prog X.w) X.A (eval iter X.env) (fun v s1 => wpAny (model X.prog X.w) X.A (pyIter v) (PIE X pins σ tg R) X.xe s1) X.xe s
theorem go_of {M : Model} {A : Around} {E : Value → Shared → Prop} {s : Shared} {tg : Expr} {it : Addr} {u : Value} {o : Obj} {n : String} {vs : Array Value} {Q : Unit → Shared → Prop} (ho : s.heap.get? it = some o) (hc : o.cls = .type n) (hd : o.data = .fields vs)
    (hn : ["enumerate", "zip", "dict_itemiterator", "dict_reverseitemiterator", "odict_iterator", "itertools.zip_longest", "itertools.pairwise"].contains n = false) (hQ : Q () s) : wpAny M A (letOwnedTupleGo tg (.ref it) u) Q E s := by
  unfold letOwnedTupleGo
  cases tg <;> first
    | exact wpAny_pure hQ
    | (cases u <;> first
        | exact wpAny_pure hQ
        | (refine wpAny_bind (wpAny_load ho ?_)
           rw [hc, hd]
           show wpAny M A (if (["enumerate", "zip", "dict_itemiterator", "dict_reverseitemiterator", "odict_iterator", "itertools.zip_longest", "itertools.pairwise"].contains n && vs[0]? == some (rawInt _)) = true then _ else _) Q E s
           rw [if_neg (by intro h; rw [hn, Bool.false_and] at h; cases h)]
           exact wpAny_pure hQ))
def Itl (K : PySem.W.Frag) (a : Addr) : It :=
  ⟨fun i H => ∃ xs x, SqL K H a xs ∧ xs[i]? = some x, fun i H x H' => H' = H ∧ ∀ xs, SqL K H a xs → xs[i]? = some x, fun i H => ∃ xs, SqL K H a xs ∧ xs.length ≤ i⟩
def Itt (K : PySem.W.Frag) (a : Addr) : It :=
  ⟨fun i H => ∃ xs x, SqT K H a xs ∧ xs[i]? = some x, fun i H x H' => H' = H ∧ ∀ xs, SqT K H a xs → xs[i]? = some x, fun i H => ∃ xs, SqT K H a xs ∧ xs.length ≤ i⟩
def Itr (lo : Int) (n : Nat) : It := ⟨fun i _ => i < n, fun i H x H' => H' = H ∧ x = .int (lo + i), fun i _ => n ≤ i⟩
theorem turn_list {P : Program} {w : World} {K : PySem.W.Frag} {tg : Expr} (a it : Addr) : Turn P w K tg (Itl K a) [it] it (fun i h => h.IsListIter it a i) where
  mem := by simp
  obj := fun i h st b hb => by
    have e : b = it := by simpa using hb
    subst e
    obtain ⟨o, e, c, d⟩ := st
    exact ⟨o, e, fun v z => by rw [d] at z; cases z⟩
  keep := fun i h h' st k => st.at fun o e => k it (by simp) o e
  item := by
    intro X hP hw hK hc i pins s σ H E I hf st hg
    subst hP hw hK
    obtain ⟨xs, x, hq, hx⟩ := hg
    obtain ⟨its, rv, p, hz⟩ := I.list hq
    obtain ⟨u, hu, ru⟩ := rv.get hx
    obtain ⟨f0, f1, f2, f3, f4, f5⟩ := hf it (by simp)
    refine wpAny_pyNext_list_item st p.isList (x := u) (by simpa using hu) fun h' st' sb => ?_
    have I1 : Inv X pins σ H { s with heap := h' } := I.turned (t' := s.toks) (fun b o hb e => (sb.2 b hb).trans e) f0 f1 f3 f4 f5
    obtain ⟨o, e, c, d⟩ := id st'
    exact ⟨u, rfl, go_of (s := { s with heap := h' }) e c d (by decide) ⟨x, H, I1, ru, ⟨rfl, fun ys hy => by rw [I.list_inj hy hq]; exact hx⟩, st', fun b hb => (hf b hb).1⟩⟩
  done := by
    intro X hP hw hK hc i pins s σ H E I hf st hg
    subst hP hw hK
    obtain ⟨xs, hq, hx⟩ := hg
    obtain ⟨its, rv, p, hz⟩ := I.list hq
    obtain ⟨f0, f1, f2, f3, f4, f5⟩ := hf it (by simp)
    have hl := rv.length
    exact wpAny_pyNext_list_end (I.ok.hd hc) st p.isList (by simp; omega) fun h' eb => ⟨rfl, I.turned (t' := s.toks) (fun b o hb e => eb b o hb e) f0 f1 f3 f4 f5⟩
  self := fun _ _ _ _ _ st h => wpAny_pyIter_listiter st h
theorem turn_range {P : Program} {w : World} {K : PySem.W.Frag} {tg : Expr} (it : Addr) (lo : Int) (n : Nat) : Turn P w K tg (Itr lo n) [it] it (fun i h => IsRangeIter h it (lo + (i : Nat) * 1) ((n : Int) - (i : Nat)) 1) where
  mem := by simp
  obj := fun i h st b hb => by
    have e : b = it := by simpa using hb
    subst e
    exact ⟨_, st, fun v z => by
      have z' : Data.fields _ = Data.cell v := z
      cases z'⟩
  keep := fun i h h' st k => k it (by simp) _ st
  item := by
    intro X hP hw hK hc i pins s σ H E I hf st hg
    subst hP hw hK
    obtain ⟨f0, f1, f2, f3, f4, f5⟩ := hf it (by simp)
    have W := Walks.range (prog := X.prog) (w := X.w) (I.ok.hd hc) it lo 1 n
    refine W.item i s _ _ hg st fun v h' tk hv st' kk => ?_
    obtain ⟨t, rfl⟩ := hv
    have I1 : Inv X pins σ H { s with heap := h', toks := tk } := I.turned (fun b o hb e => kk b o (by simpa using hb) e) f0 f1 f3 f4 f5
    refine ⟨_, rfl, go_of (s := { s with heap := h', toks := tk }) (n := "range_iterator") st' rfl rfl (by decide) ⟨.int (lo + i), H, I1, ⟨t, ?_⟩, ⟨rfl, rfl⟩, st', fun b hb => (hf b hb).1⟩⟩
    rw [Int.mul_one]
  done := by
    intro X hP hw hK hc i pins s σ H E I hf st hg
    subst hP hw hK
    obtain ⟨f0, f1, f2, f3, f4, f5⟩ := hf it (by simp)
    exact wpAny_pyNext_range_end (I.ok.hd hc) st (by have : n ≤ i := hg; omega) fun h' eb => ⟨rfl, I.turned (t' := s.toks) (fun b o hb e => eb b o hb e) f0 f1 f3 f4 f5⟩
  self := fun _ _ _ _ _ st h => wpAny_pyIter_rangeiter st h
end L2
namespace L2
open PySem PySem.Spec PyProof.Rows
section
variable {X : Cx} {tg : Expr}
def iList (K : PySem.W.Frag) (tl : TE) : TI := fun σ H R => tl σ H fun x H1 => ∃ a, x = .ref a ∧ (∃ xs, SqL K H1 a xs) ∧ R (Itl K a) H1
def iTup (K : PySem.W.Frag) (tl : TE) : TI := fun σ H R => tl σ H fun x H1 => ∃ a, x = .ref a ∧ (∃ xs, SqT K H1 a xs) ∧ R (Itt K a) H1
theorem pi_list {l : Expr} {tl : TE} (hl : PE X l tl) : PI X tg l (iList X.K tl) := by
  intro pins s σ H R I h
  refine thnE (hl pins s σ H _ I h) fun v s1 x H1 I1 r1 q1 => ?_
  obtain ⟨a, e, ⟨xs, hq⟩, q⟩ := q1
  subst e
  cases r1
  obtain ⟨its, rv, p, hz⟩ := I1.list hq
  refine wpAny_pyIter_list p.isList ?_
  refine ⟨s1.heap.objs.size, [s1.heap.objs.size], _, _, H1, rfl, I1.kept (t' := s1.toks) fun b o e => Heap.get?_push_of_some _ e, turn_list a _, ⟨_, Heap.get?_push_size _ rfl, rfl, rfl⟩, fun b hb => ?_, q⟩
  have e : b = s1.heap.objs.size := by simpa using hb
  subst e
  exact I1.fpOk (Nat.le_refl _) (I1.hok.fresh (Nat.le_refl _))
theorem range_it {pins : List (Addr × Obj)} {σ : St} {H : Hp} {s : Shared} {R : It → Hp → Prop} {E : Value → Shared → Prop} {lo hi : Int} {t u v : Tok} {tk : Nat} (I : Inv X pins σ H s) (h1 : -(2 ^ 62) ≤ lo) (h2 : lo < 2 ^ 62) (h3 : -(2 ^ 62) ≤ hi) (h4 : hi < 2 ^ 62)
    (q : R (Itr lo (hi - lo).toNat) H) : wpAny (model X.prog X.w) X.A (pyIter (.ref s.heap.objs.size)) (PIE X pins σ tg R) E { s with heap := s.heap.push { cls := .type "range", data := .fields #[.int lo t, .int hi u, .int 1 v] }, toks := tk } := by
  refine wpAny_pyIter_range (IsRange.new ..) (small_one h1 h2 h3 h4) ?_
  have I1 : Inv X pins σ H { s with heap := s.heap.push { cls := .type "range", data := .fields #[.int lo t, .int hi u, .int 1 v] }, toks := tk } := I.kept fun b o e => Heap.get?_push_of_some _ e
  refine ⟨(s.heap.push { cls := .type "range", data := .fields #[.int lo t, .int hi u, .int 1 v] }).objs.size, [(s.heap.push { cls := .type "range", data := .fields #[.int lo t, .int hi u, .int 1 v] }).objs.size], _, _, H, rfl,
    I1.kept (t' := tk) fun b o e => Heap.get?_push_of_some _ e, turn_range _ lo (hi - lo).toNat, ?_, fun b hb => ?_, q⟩
  · have e1 : lo + ((0 : Nat) : Int) * 1 = lo := by simp
    have e2 : (((hi - lo).toNat : Nat) : Int) - ((0 : Nat) : Int) = Builtin.Range.rangeSize lo hi 1 := by rw [rangeSize_one]; split <;> omega
    show IsRangeIter _ _ (lo + ((0 : Nat) : Int) * 1) ((((hi - lo).toNat : Nat) : Int) - ((0 : Nat) : Int)) 1
    rw [e1, e2]
    exact Heap.get?_push_size _ rfl
  · have e : b = (s.heap.push { cls := .type "range", data := .fields #[.int lo t, .int hi u, .int 1 v] }).objs.size := by simpa using hb
    subst e
    exact I1.fpOk (Nat.le_refl _) (I1.hok.fresh (Nat.le_refl _))
def iRng1 (ta : TA) : TI := fun σ H R => ta σ H fun vs H1 => ∃ j : Int, vs = [.int j] ∧ -(2 ^ 62) ≤ j ∧ j < 2 ^ 62 ∧ R (Itr 0 j.toNat) H1
def iRng2 (ta : TA) : TI := fun σ H R => ta σ H fun vs H1 => ∃ i j : Int, vs = [.int i, .int j] ∧ (-(2 ^ 62) ≤ i ∧ i < 2 ^ 62 ∧ -(2 ^ 62) ≤ j ∧ j < 2 ^ 62) ∧ R (Itr i (j - i).toNat) H1
theorem pi_range1 {a : Expr} {ta : TA} {p pos : Pos} (hg : Gl X "range") (hm : X.mg "range" = none) (ha : PA X [a] ta) (hs : starEach [a] X.env = [(false, eval a X.env)] := by rfl) : PI X tg (.Call (.Name "range" p) [a] [] pos) (iRng1 ta) := by
  intro pins s σ H R I h
  refine Call_ (ld_blt I hg hm boot_range (PyProof.Rows.callWith_type1 (thnA (ha pos pins s σ H _ I h) fun us s1 vs H1 I1 r1 q1 => ?_) hs rfl))
  obtain ⟨j, e, q1, q2, q⟩ := q1
  subst e
  cases r1 with
  | cons r rr =>
    cases rr
    obtain ⟨t, rfl⟩ := r
    exact call_range_1 (range_it I1 (by omega) (by omega) q1 q2 (by simpa using q))
def tFor (wi : TI) (g : TG) (tb : TS) : TS := fun D σ H => wi σ H fun J H1 => ∃ W : Nat → Nat → St → Hp → Prop, (∃ m, W 0 m σ H1) ∧ ∀ i m σ H, W i m σ H →
  (J.stop i H ∧ D.nx σ H) ∨ (J.go i H ∧ ∃ N : St → Hp → Prop, (∀ σ' H', N σ' H' → ∃ m', m' < m ∧ W (i + 1) m' σ' H') ∧ ∀ x H', J.yld i H x H' → g x σ H' fun σ2 H2 => tb { D with nx := N, ct := N, bk := D.nx } σ2 H2)
def pinsAt (fp : List Addr) (h : Heap) : List (Addr × Obj) := fp.filterMap fun b => (h.get? b).map fun o => (b, o)
theorem mem_pinsAt {fp : List Addr} {h : Heap} {b : Addr} {o : Obj} (hb : b ∈ fp) (e : h.get? b = some o) : (b, o) ∈ pinsAt fp h := List.mem_filterMap.mpr ⟨b, hb, by rw [e]; rfl⟩
theorem of_pinsAt {fp : List Addr} {h : Heap} {p : Addr × Obj} (hp : p ∈ pinsAt fp h) : p.1 ∈ fp ∧ h.get? p.1 = some p.2 := by
  obtain ⟨b, hb, e⟩ := List.mem_filterMap.mp hp
  cases q : h.get? b with
  | none => rw [q] at e; cases e
  | some o =>
    rw [q] at e
    have e' : (b, o) = p := Option.some.inj e
    subst e'
    exact ⟨hb, q⟩
theorem Inv.pinned {pins : List (Addr × Obj)} {σ : St} {H : Hp} {s : Shared} {fp : List Addr} (I : Inv X pins σ H s) (hf : ∀ b ∈ fp, FpOk X pins H b) (ho : ∀ b ∈ fp, ∃ o, s.heap.get? b = some o ∧ ∀ v, o.data ≠ .cell v) : Inv X (pins ++ pinsAt fp s.heap) σ H s :=
  I.pins_of fun p hp => (List.mem_append.mp hp).elim (fun z => I.pin p (List.mem_append_right _ z)) fun z => by
    obtain ⟨hb, e⟩ := of_pinsAt z
    obtain ⟨f0, f1, f2, _⟩ := hf p.1 hb
    obtain ⟨o, e', d⟩ := ho p.1 hb
    rw [e] at e'; cases e'
    exact ⟨e, f0, f1, f2, d⟩
theorem Inv.unpinned {pins pl : List (Addr × Obj)} {σ : St} {H : Hp} {s : Shared} (I : Inv X (pins ++ pl) σ H s) : Inv X pins σ H s := I.pins_of fun p hp => I.pin p (List.mem_append_right _ (List.mem_append_left _ hp))
theorem ps_for {iter : Expr} {body : List Stmt} {wi : TI} {g : TG} {tb : TS} {pos : Pos} (hp : PassesOwn (model X.prog X.w) X.A X.env X.xe) (hc : X.calm = true) (hi : PI X tg iter wi) (hg : PG X tg g) (hb : PSs X body tb)
    (hs : ∀ x, foldedSetIterable iter X.env x = pure x := by intro _; rfl) : PS X (.For tg iter body [] pos) (tFor wi g tb) := by
  intro pins s σ H D I h
  refine wpAny_For (thn (hi pins s σ H _ I h) fun v s1 h1 => thn h1 fun itv s2 h2 => ?_) hs
  obtain ⟨it, fp, tn, J, H2, e, I2, T, st2, f2, W, ⟨m0, w0⟩, turn⟩ := h2
  subst e
  -- what stays true of the iterator's objects through the loop
  have stat : ∀ {H' : Hp}, (∀ b ∈ fp, H' b = none) → ∀ b ∈ fp, FpOk X pins H' b := fun hn b hb => ⟨hn b hb, (f2 b hb).2⟩
  refine codeAny_forLoop_any (fun n s' => ∃ i σ' H', Inv X pins σ' H' s' ∧ tn i s'.heap ∧ (∀ b ∈ fp, H' b = none) ∧ W i n σ' H') ?_ m0 ⟨0, σ, H2, I2, st2, fun b hb => (f2 b hb).1, w0⟩
  rintro n s3 ⟨i, σ3, H3, I3, st3, fr3, w3⟩
  rcases turn i n σ3 H3 w3 with ⟨stop, qn⟩ | ⟨go, N, hN, step⟩
  · refine wpAny_passesOwn hp (thn (T.done X rfl rfl rfl hc i pins s3 σ3 H3 X.xe I3 (stat fr3) st3 stop) fun r s4 ⟨hr, I4⟩ => ?_)
    subst hr
    exact wpAny_execs_nil ⟨σ3, H3, I4, qn⟩
  · refine wpAny_passesOwn hp (thn (T.item X rfl rfl rfl hc i pins s3 σ3 H3 X.xe I3 (stat fr3) st3 go) fun r s4 ⟨u, hr, h4⟩ => ?_)
    subst hr
    refine wpAny_passesOwn hp (thn h4 fun _ s5 ⟨x, H5, I5, r5, y5, st5, fr5⟩ => ?_)
    have I5' := I5.pinned (stat fr5) (T.obj _ _ st5)
    refine wpAny_passesOwn hp (thn (hg _ s5 σ3 H5 x u _ I5' r5 (step x H5 y5)) fun _ s6 ⟨σ6, H6, I6, q6⟩ => ?_)
    refine wpAny_passesOwn hp (thn (hb _ s6 σ6 H6 _ I6 q6) fun f s7 q7 => ?_)
    have again : ∀ {σ7 : St} {H7 : Hp}, Inv X (pins ++ pinsAt fp s5.heap) σ7 H7 s7 → N σ7 H7 → ∃ m, m < n ∧ ∃ i σ' H', Inv X pins σ' H' s7 ∧ tn i s7.heap ∧ (∀ b ∈ fp, H' b = none) ∧ W i m σ' H' := fun {σ7 H7} I7 n7 => by
      obtain ⟨m', hm, w7⟩ := hN σ7 H7 n7
      refine ⟨m', hm, i + 1, σ7, H7, I7.unpinned, T.keep _ _ _ st5 fun b hb o e => (I7.pin (b, o) (List.mem_append_right _ (List.mem_append_right _ (mem_pinsAt hb e)))).1, fun b hb => ?_, w7⟩
      obtain ⟨o, e, d⟩ := T.obj _ _ st5 b hb
      exact (I7.pin (b, o) (List.mem_append_right _ (List.mem_append_right _ (mem_pinsAt hb e)))).2.1
    cases f with
    | next => obtain ⟨σ7, H7, I7, n7⟩ := q7; exact again I7 n7
    | cont => obtain ⟨σ7, H7, I7, n7⟩ := q7; exact again I7 n7
    | brk => obtain ⟨σ7, H7, I7, q7⟩ := q7; exact ⟨σ7, H7, I7.unpinned, q7⟩
    | ret v => obtain ⟨x7, σ7, H7, I7, r7, q7⟩ := q7; exact ⟨x7, σ7, H7, I7.unpinned, r7, q7⟩
end
theorem for_list {K : PySem.W.Frag} {a : Addr} {xs : List V} {g : TG} {tb : TS} {D : Ends} {σ : St} {H : Hp} (Pv : Nat → St → Hp → Prop) (h0 : Pv 0 σ H) (hl : ∀ i σ H, i ≤ xs.length → Pv i σ H → SqL K H a xs)
    (hs : ∀ i x σ H, xs[i]? = some x → Pv i σ H → g x σ H fun σ2 H2 => tb { D with nx := Pv (i + 1), ct := Pv (i + 1), bk := D.nx } σ2 H2) (hd : ∀ σ H, Pv xs.length σ H → D.nx σ H) :
    ∃ W : Nat → Nat → St → Hp → Prop, (∃ m, W 0 m σ H) ∧ ∀ i m σ H, W i m σ H →
      ((Itl K a).stop i H ∧ D.nx σ H) ∨ ((Itl K a).go i H ∧ ∃ N : St → Hp → Prop, (∀ σ' H', N σ' H' → ∃ m', m' < m ∧ W (i + 1) m' σ' H') ∧ ∀ x H', (Itl K a).yld i H x H' → g x σ H' fun σ2 H2 => tb { D with nx := N, ct := N, bk := D.nx } σ2 H2) := by
  refine ⟨fun i m σ H => m = xs.length - i ∧ i ≤ xs.length ∧ Pv i σ H, ⟨xs.length, by simp, Nat.zero_le _, h0⟩, ?_⟩
  rintro i m σ H ⟨rfl, hi, p⟩
  have q := hl i σ H hi p
  by_cases hlt : i < xs.length
  · refine .inr ⟨⟨xs, xs[i], q, by simp [hlt]⟩, Pv (i + 1), fun σ' H' p' => ⟨xs.length - (i + 1), by omega, rfl, hlt, p'⟩, fun x H' y => ?_⟩
    obtain ⟨e, y⟩ := y
    subst e
    exact hs i x σ _ (y xs q) p
  · have e : i = xs.length := by omega
    subst e
    exact .inl ⟨⟨xs, q, Nat.le_refl _⟩, hd σ H p⟩
theorem for_range {lo : Int} {n : Nat} {g : TG} {tb : TS} {D : Ends} {σ : St} {H : Hp} (Pv : Nat → St → Hp → Prop) (h0 : Pv 0 σ H)
    (hs : ∀ i σ H, i < n → Pv i σ H → g (.int (lo + i)) σ H fun σ2 H2 => tb { D with nx := Pv (i + 1), ct := Pv (i + 1), bk := D.nx } σ2 H2) (hd : ∀ σ H, Pv n σ H → D.nx σ H) :
    ∃ W : Nat → Nat → St → Hp → Prop, (∃ m, W 0 m σ H) ∧ ∀ i m σ H, W i m σ H →
      ((Itr lo n).stop i H ∧ D.nx σ H) ∨ ((Itr lo n).go i H ∧ ∃ N : St → Hp → Prop, (∀ σ' H', N σ' H' → ∃ m', m' < m ∧ W (i + 1) m' σ' H') ∧ ∀ x H', (Itr lo n).yld i H x H' → g x σ H' fun σ2 H2 => tb { D with nx := N, ct := N, bk := D.nx } σ2 H2) := by
  refine ⟨fun i m σ H => m = n - i ∧ i ≤ n ∧ Pv i σ H, ⟨n, by simp, Nat.zero_le _, h0⟩, ?_⟩
  rintro i m σ H ⟨rfl, hi, p⟩
  by_cases hlt : i < n
  · refine .inr ⟨hlt, Pv (i + 1), fun σ' H' p' => ⟨n - (i + 1), by omega, rfl, hlt, p'⟩, fun x H' y => ?_⟩
    obtain ⟨e, y⟩ := y
    subst e y
    exact hs i σ _ hlt p
  · have e : i = n := by omega
    subst e
    exact .inl ⟨Nat.le_refl _, hd σ H p⟩
end L2
namespace L2
open PySem PySem.Spec PyProof.Rows
abbrev R2 := V → V → Hp → VK → Prop
def OpR (X : Cx) (f : Value → Value → Sem Value) (r : R2) : Prop :=
  ∀ (pins : List (Addr × Obj)) (s : Shared) (σ : St) (H : Hp) (x y : V) (v u : Value) (Q : VK), Inv X pins σ H s → RelV x v → RelV y u → r x y H Q →
    wpAny (model X.prog X.w) X.A (f v u) (EP X pins σ Q) X.xe s
def CallR (X : Cx) (f : Value) (r : List V → Hp → VK → Prop) : Prop :=
  ∀ (pins : List (Addr × Obj)) (s : Shared) (σ : St) (H : Hp) (xs : List V) (us : List Value) (Q : VK), Inv X pins σ H s → Vals xs us → r xs H Q →
    wpAny (model X.prog X.w) X.A (call f us) (EP X pins σ Q) X.xe s
def tOp (r : R2) (ta tb : TE) : TE := fun σ H Q => ta σ H fun x H1 => tb σ H1 fun y H2 => r x y H2 Q
def tUn (r : V → Hp → VK → Prop) (ta : TE) : TE := fun σ H Q => ta σ H fun x H1 => r x H1 Q
def rI (C : Int → Int → Prop) (g : Int → Int → V) : R2 := fun x y H Q => ∃ i j, x = .int i ∧ y = .int j ∧ C i j ∧ Q (g i j) H
def rI0 (g : Int → Int → V) : R2 := fun x y H Q => ∃ i j, x = .int i ∧ y = .int j ∧ Q (g i j) H
def rU (g : Int → V) : V → Hp → VK → Prop := fun x H Q => ∃ i, x = .int i ∧ Q (g i) H
section
variable {X : Cx} {a b c : Expr} {ta tb tc : TE} {pos : Pos}
theorem binT (ha : PE X a ta) (hb : PE X b tb) {pins : List (Addr × Obj)} {s : Shared} {σ : St} {H : Hp} {R : V → V → Hp → Prop} (I : Inv X pins σ H s)
    (h : ta σ H fun x H1 => tb σ H1 fun y H2 => R x y H2) {Q : Value → Shared → Prop} {f : Value → Value → Sem Value}
    (hf : ∀ v u s2 x y H2, Inv X pins σ H2 s2 → RelV x v → RelV y u → R x y H2 → wpAny (model X.prog X.w) X.A (f v u) Q X.xe s2) :
    wpAny (model X.prog X.w) X.A (eval a X.env) (fun v s₁ => wpAny (model X.prog X.w) X.A (eval b X.env) (fun u s₂ => wpAny (model X.prog X.w) X.A (f v u) Q X.xe s₂) X.xe s₁) X.xe s := by
  refine thnE (ha pins s σ H _ I h) fun v s1 x H1 I1 r1 q1 => ?_
  refine thnE (hb pins s1 σ H1 _ I1 q1) fun u s2 y H2 I2 r2 q2 => ?_
  exact hf v u s2 x y H2 I2 r1 r2 q2
theorem pe_op {op : Operator} {r : R2} (ho : OpR X (binaryOp op) r) (ha : PE X a ta) (hb : PE X b tb) : PE X (.BinOp a op b pos) (tOp r ta tb) := by
  intro pins s σ H Q I h
  exact wpAny_BinOp (binT ha hb I h fun v u s2 x y H2 I2 rx ry q => ho pins s2 σ H2 x y v u Q I2 rx ry q)
theorem opI {f : Value → Value → Sem Value} {C : Int → Int → Prop} {g : Int → Int → Int}
    (rule : ∀ (i j : Int) (t u : Tok) (s : Shared) (Q : Value → Shared → Prop) (E : Value → Shared → Prop), C i j → Q (.int (g i j) s.toks) { s with toks := s.toks + 1 } → wpAny (model X.prog X.w) X.A (f (.int i t) (.int j u)) Q E s) :
    OpR X f (rI C fun i j => .int (g i j)) := by
  intro pins s σ H x y v u Q I rx ry h
  obtain ⟨i, j, rfl, rfl, hc, q⟩ := h
  obtain ⟨t, rfl⟩ := rx
  obtain ⟨t', rfl⟩ := ry
  exact rule i j t t' s _ _ hc ⟨.int (g i j), H, I.tok _, ⟨_, rfl⟩, q⟩
theorem opI0 {f : Value → Value → Sem Value} {g : Int → Int → Int}
    (rule : ∀ (i j : Int) (t u : Tok) (s : Shared) (Q : Value → Shared → Prop) (E : Value → Shared → Prop), Q (.int (g i j) s.toks) { s with toks := s.toks + 1 } → wpAny (model X.prog X.w) X.A (f (.int i t) (.int j u)) Q E s) :
    OpR X f (rI0 fun i j => .int (g i j)) := by
  intro pins s σ H x y v u Q I rx ry h
  obtain ⟨i, j, rfl, rfl, q⟩ := h
  obtain ⟨t, rfl⟩ := rx
  obtain ⟨t', rfl⟩ := ry
  exact rule i j t t' s _ _ ⟨.int (g i j), H, I.tok _, ⟨_, rfl⟩, q⟩
def CDiv (i j : Int) : Prop := 0 < j ∧ j < 1073741824
def CPow (i j : Int) : Prop := 0 ≤ j ∧ j ≤ 1000000 ∧ i.natAbs < 2 ^ 64
theorem op_sub : OpR X (binaryOp .Sub) (rI0 fun i j => .int (i - j)) := opI0 fun _ _ _ _ _ _ _ q => sub_int q
theorem op_fdiv : OpR X (binaryOp .FloorDiv) (rI CDiv fun i j => .int (i / j)) := opI fun i j _ _ _ _ _ hc q => by
  have h1 : (0 : Int) < j := hc.1
  have h2 : j < 1073741824 := hc.2
  exact floordiv_int (by omega) (by rw [Int.fdiv_eq_ediv_of_nonneg i (by omega)]; exact q) (.inl (PyProof.noPylong_small (by omega)))
theorem op_mod : OpR X (binaryOp .Mod) (rI (fun _ j => 0 < j) fun i j => .int (i % j)) := opI fun i j _ _ _ _ _ hc q => by
  have h1 : (0 : Int) < j := hc
  exact mod_int' (by omega) (by rw [Int.fmod_eq_emod_of_nonneg i (by omega)]; exact q)
theorem op_pow : OpR X (binaryOp .Pow) (rI CPow fun i j => .int (i ^ j.toNat)) := opI fun _ _ _ _ _ _ _ hc q => pow_int_small hc.1 hc.2.1 hc.2.2 q
end
def scal : V → V → Bool
  | .non, .non => true | .non, .int _ => true | .int _, .non => true | .non, .bl _ => true | .bl _, .non => true | .non, .str _ => true | .str _, .non => true
  | .int _, .int _ => true | .bl _, .bl _ => true | .str _, .str _ => true | .byt _, .byt _ => true
  | .int _, .str _ => true | .str _, .int _ => true | .bl _, .str _ => true | .str _, .bl _ => true
  | _, _ => false
def rEq : R2 := fun x y H Q => scal x y = true ∧ Q (.bl (decide (x = y))) H
def rNe : R2 := fun x y H Q => scal x y = true ∧ Q (.bl (!decide (x = y))) H
theorem dec_int {i j : Int} : decide (V.int i = V.int j) = (i == j) := by
  rw [Bool.eq_iff_iff]
  simp
theorem dec_bl {i j : Bool} : decide (V.bl i = V.bl j) = (i == j) := by
  rw [Bool.eq_iff_iff]
  simp
theorem dec_str {i j : Str} : decide (V.str i = V.str j) = (i == j) := by
  rw [Bool.eq_iff_iff]
  simp
theorem dec_byt {i j : Array UInt8} : decide (V.byt i = V.byt j) = (i.toList == j.toList) := by
  rw [Bool.eq_iff_iff]
  cases i
  cases j
  simp
section
variable {X : Cx} {a b c : Expr} {ta tb tc : TE} {pos : Pos}
theorem fin_bl {pins : List (Addr × Obj)} {σ : St} {H : Hp} {s : Shared} {Q : VK} {k k' : Bool} (I : Inv X pins σ H s) (q : Q (.bl k) H) (e : k = k') : EP X pins σ Q (.bool k') s := by
  subst e
  exact ⟨.bl k, H, I, rfl, q⟩
theorem op_eq : OpR X (compareOp .Eq) rEq := by
  intro pins s σ H x y v u Q I rx ry h
  obtain ⟨hs, q⟩ := h
  cases x with
  | non =>
    cases rx
    cases y with
    | non => cases ry; exact PySem.EqNone.eq_none_none (fin_bl I q (by simp))
    | bl j => cases ry; exact PySem.EqNone.eq_none_bool (fin_bl I q (by simp))
    | int j => obtain ⟨t', rfl⟩ := ry; exact PySem.EqNone.eq_none_int (fin_bl I q (by simp))
    | str j => obtain ⟨t', rfl⟩ := ry; exact PySem.EqNone.eq_none_str (fin_bl I q (by simp))
    | _ => exact absurd (show false = true from hs) Bool.false_ne_true
  | bl i =>
    cases rx
    cases y with
    | non => cases ry; exact PySem.EqNone.eq_bool_none (fin_bl I q (by simp))
    | bl j => cases ry; exact eq_bool (fin_bl I q dec_bl)
    | str j => obtain ⟨t', rfl⟩ := ry; exact PySem.EqMixed.eq_bool_str (fin_bl I q (by simp))
    | _ => exact absurd (show false = true from hs) Bool.false_ne_true
  | int i =>
    obtain ⟨t, rfl⟩ := rx
    cases y with
    | non => cases ry; exact PySem.EqNone.eq_int_none (fin_bl I q (by simp))
    | int j => obtain ⟨t', rfl⟩ := ry; exact eq_int (fin_bl I q dec_int)
    | str j => obtain ⟨t', rfl⟩ := ry; exact PySem.EqMixed.eq_int_str (fin_bl I q (by simp))
    | _ => exact absurd (show false = true from hs) Bool.false_ne_true
  | str i =>
    obtain ⟨t, rfl⟩ := rx
    cases y with
    | non => cases ry; exact PySem.EqNone.eq_str_none (fin_bl I q (by simp))
    | bl j => cases ry; exact PySem.EqMixed.eq_str_bool (fin_bl I q (by simp))
    | int j => obtain ⟨t', rfl⟩ := ry; exact PySem.EqMixed.eq_str_int (fin_bl I q (by simp))
    | str j => obtain ⟨t', rfl⟩ := ry; exact eq_str (fin_bl I q dec_str)
    | _ => exact absurd (show false = true from hs) Bool.false_ne_true
  | byt i =>
    obtain ⟨t, rfl⟩ := rx
    cases y with
    | byt j => obtain ⟨t', rfl⟩ := ry; exact PySem.W.eq_bytes (fin_bl I q dec_byt)
    | _ => exact absurd (show false = true from hs) Bool.false_ne_true
  | _ => cases y <;> exact absurd (show false = true from hs) Bool.false_ne_true
theorem nomark (b : Expr) {op : CmpOp} (h : op ≠ .In := by decide) (h2 : op ≠ .NotIn := by decide) : behindInMarks op b = false := by
  have e1 : (op == CmpOp.In) = false := by cases op <;> first | rfl | exact absurd rfl h
  have e2 : (op == CmpOp.NotIn) = false := by cases op <;> first | rfl | exact absurd rfl h2
  cases b <;> simp [behindInMarks, e1, e2]
theorem pe_cmpR {op : CmpOp} {r : R2} (ho : OpR X (compareOp op) r) (ha : PE X a ta) (hb : PE X b tb) (hm : behindInMarks op b = false) : PE X (.Compare a [op] [b] pos) (tOp r ta tb) := by
  intro pins s σ H Q I h
  exact wpAny_Compare1 (binT ha hb I h fun v u s2 x y H2 I2 rx ry q => ho pins s2 σ H2 x y v u Q I2 rx ry q) hm
def tTest (t : TE) : TT := fun σ H Q => t σ H fun x H' => ∃ k, x = .bl k ∧ Q k H'
theorem pt_cmpR {op : CmpOp} {r : R2} (ho : OpR X (compareOp op) r) (ha : PE X a ta) (hb : PE X b tb) (hm : behindInMarks op b = false) : PT X (.Compare a [op] [b] pos) (tTest (tOp r ta tb)) := by
  intro pins s σ H Q I h
  refine wpAny_isTrue_Compare1 (thnE (ha pins s σ H _ I h) fun v s1 x H1 I1 r1 q1 => thnE (hb pins s1 σ H1 _ I1 q1) fun u s2 y H2 I2 r2 q2 =>
    thnE (ho pins s2 σ H2 x y v u _ I2 r1 r2 q2) fun c s3 z H3 I3 r3 ⟨k, e, q3⟩ => ?_) hm
  subst e
  cases r3
  exact wpAny_truthy_bool ⟨H3, I3, q3⟩
def tChain (r r' : R2) (ta tb tc : TE) : TE := fun σ H Q => ta σ H fun x H1 => tb σ H1 fun y H2 => r x y H2 fun z H3 => ∃ k, z = .bl k ∧
  (if k = true then tc σ H3 fun w' H4 => r' y w' H4 Q else Q (.bl false) H3)
theorem line63 : (sizeLine : Nat) < 2 ^ 63 := by rw [sizeLine_eq]; decide
theorem vals2 {x y : V} {us : List Value} (r : Vals [x, y] us) : ∃ u w', us = [u, w'] ∧ RelV x u ∧ RelV y w' := by
  cases r with
  | cons r1 r2 =>
    cases r2 with
    | cons r3 r4 => cases r4; exact ⟨_, _, rfl, r1, r3⟩
end
end L2
namespace L2
open PySem PySem.Spec PyProof.Rows
structure ObjM (h : Heap) (x dx C : Addr) (mA : Str → Option Value) : Prop where
  obj : h.get? x = some (PySem.W.instObj C dx)
  ns : h.Ns1 dx mA
  ne : dx ≠ x
theorem lookIn_ns {h : Heap} {dx : Addr} {mA : Str → Option Value} (n : h.Ns1 dx mA) : ∃ od, h.get? dx = some od ∧ ∀ name, PySem.W.lookIn name od = some (mA name) := by
  obtain ⟨o, es, ep, ho, hd, hk, _, hm⟩ := n
  refine ⟨o, ho, fun name => ?_⟩
  have e := hm name
  unfold nsFind findBy at e
  rw [← Array.find?_toList] at e
  unfold PySem.W.lookIn
  rw [hd]
  dsimp only
  split
  · rename_i y q
    rw [q] at e
    exact congrArg some e
  · rename_i q
    rw [q] at e
    have a : es.toList.any (·.refKey) = false := by
      rw [List.any_eq_false]
      intro y hy
      obtain ⟨z, t, hkey⟩ := hk y (Array.mem_toList_iff.mp hy)
      simp [DictEntry.refKey, hkey]
    have a' : ¬ es.toList.any (·.refKey) = true := by rw [a]; exact Bool.false_ne_true
    rw [if_neg a']
    exact congrArg some e
theorem ObjM.look {h : Heap} {x dx C : Addr} {mA : Str → Option Value} (I : ObjM h x dx C mA) : ∃ od, PySem.W.InstAt h x (PySem.W.instObj C dx) C (some od) ∧ ∀ name, PySem.W.lookIn name od = some (mA name) :=
  let ⟨od, ho, hl⟩ := lookIn_ns I.ns
  ⟨od, ⟨I.obj, rfl, rfl, ho⟩, hl⟩
section
variable {prog : Program} {w : World} {A : Around} {E : Value → Shared → Prop} {s : Shared} {K : PySem.W.Frag} {x dx C f : Addr} {mA : Str → Option Value} {name : Str} {v : Value}
end
def putF (f : Str) (v : V) : List (Str × V) → List (Str × V)
  | [] => [(f, v)]
  | (g, x) :: r => if g = f then (g, v) :: r else (g, x) :: putF f v r
theorem RelO.some_of {v : V} {o : Option Value} (r : RelO (some v) o) : ∃ u, o = some u ∧ RelV v u := by
  cases o with
  | none => exact (show False from r).elim
  | some u => exact ⟨u, rfl, r⟩
theorem handed_of {v : V} {u : Value} (r : RelV v u) : PySem.W.handedIn u = true := by
  cases v with
  | non => cases (show u = Value.none from r); rfl
  | bl b => cases (show u = Value.bool b from r); rfl
  | int i => obtain ⟨t, e⟩ := (show ∃ t, u = Value.int i t from r); cases e; rfl
  | str x => obtain ⟨t, e⟩ := (show ∃ t, u = Value.str x t from r); cases e; rfl
  | byt b => obtain ⟨t, e⟩ := (show ∃ t, u = Value.bytes b t from r); cases e; rfl
  | flt b => obtain ⟨t, e⟩ := (show ∃ t, u = Value.float b t from r); cases e; rfl
  | ref a => cases (show u = Value.ref a from r); rfl
  | ty n => cases (show u = Value.type n from r); rfl
section
variable {P : Program} {w : World} {H H' : Hp} {h h' : Heap} {a C dx : Addr} {fs fs' : List (Str × V)}
theorem ins_get (hok : HOk P w H h) (e : H a = some (.ins C dx fs)) : ∃ mA, ObjM h a dx C mA ∧ (∀ f, RelO (fs.lookup f) (mA f)) ∧ PySem.Within mA (fs.map (·.1)) ∧ fs.length ≤ 1000 ∧ H dx = some (.own a) := by
  obtain ⟨d, z, ne, ob, mA, n, r, q⟩ := (show ObjOk P w H h a (.ins C dx fs) from hok a _ e)
  exact ⟨mA, ⟨ob, n, ne⟩, r, q, z, d⟩
end
structure Cls (K : PySem.W.Frag) (C : Addr) : Prop where
  pg : PySem.W.plainGet K C Str.empty = true
  hd : PySem.W.hasDictIn K C = true
  po : PySem.W.plainOver K C = true
  sa : PySem.W.findIn K (.ref C) "__setattr__" = some (some (.builtin "object.__setattr__"))
theorem Cls.get {K : PySem.W.Frag} {C : Addr} (c : Cls K C) (f : Str) : PySem.W.plainGet K C f = true := c.pg
def NoAttr (K : PySem.W.Frag) (C : Addr) (f : Str) : Prop := PySem.W.findIn K (.ref C) f = some none
section
variable {X : Cx} {pins : List (Addr × Obj)} {σ : St} {H : Hp} {s : Shared} {a C dx : Addr} {fs : List (Str × V)} {f : Str} {v : V} {A : Around} {E : Value → Shared → Prop}
theorem attr_of {prog : Program} {w : World} {env : Env} {e : Expr} {f : Str} {pos : Pos} {s : Shared} {Q : Value → Shared → Prop} (hb : attributeBase e f env (eval e env) = eval e env)
    (h : wpAny (model prog w) A (eval e env) (fun o s₁ => wpAny (model prog w) A (getAttr o f true) Q E s₁) E s) : wpAny (model prog w) A (eval (.Attribute e f pos) env) Q E s :=
  Attribute_any_ h (by rw [arm_eval_Attribute, hb])
end
def tFld (K : PySem.W.Frag) (ta : TE) (f : Str) : TE := fun σ H Q => ta σ H fun x H1 => ∃ a C dx fs v, x = .ref a ∧ H1 a = some (.ins C dx fs) ∧ Cls K C ∧ NoAttr K C f ∧ fs.lookup f = some v ∧ Q v H1
def sFld (K : PySem.W.Frag) (ta tv : TE) (f : Str) : TS := fun D σ H => tv σ H fun y H1 => ta σ H1 fun x H2 => ∃ a C dx fs, x = .ref a ∧ H2 a = some (.ins C dx fs) ∧ Cls K C ∧ NoAttr K C f ∧ fs.length < 1000 ∧
  D.nx σ (upd H2 a (.ins C dx (putF f y fs)))
section
variable {X : Cx} {o e value : Expr} {f : Str} {pos pos' tpos : Pos} {ta tv : TE}
end
section
variable {X : Cx} {pins : List (Addr × Obj)} {σ : St} {H : Hp} {s : Shared} {A : Around} {E : Value → Shared → Prop} {Q : Value → Shared → Prop} {c : Value} {b : Bool}
inductive TyOf (K : PySem.W.Frag) (H : Hp) : V → Value → Prop where
  | non : TyOf K H .non (.type "NoneType")
  | bl (x : Bool) : TyOf K H (.bl x) (.type "bool")
  | int (i : Int) : TyOf K H (.int i) (.type "int")
  | str (x : Str) : TyOf K H (.str x) (.type "str")
  | flt (x : UInt64) : TyOf K H (.flt x) (.type "float")
  | lst {a : Addr} {xs : List V} (e : H a = some (.lst xs)) : TyOf K H (.ref a) (.type "list")
  | frz {a : Addr} {o : Obj} {xs : List V} (e : H a = some (.frz o (.lst xs))) : TyOf K H (.ref a) (.type "list")
  | tup {a : Addr} {xs : List V} (e : H a = some (.tup xs)) : TyOf K H (.ref a) (.type "tuple")
  | dK {a : Addr} {kvs : List (Key × V)} (e : H a = some (.dK kvs)) : TyOf K H (.ref a) (.type "dict")
  | dT {a : Addr} {kvs : List (List Key × V)} (e : H a = some (.dT kvs)) : TyOf K H (.ref a) (.type "dict")
  | ins {a C dx : Addr} {fs : List (Str × V)} (e : H a = some (.ins C dx fs)) (cl : Cls K C) (ha : PySem.W.findIn K (.ref C) "__class__" = some (some (.builtin "object.__class__")))
      (hn : PySem.W.specialIn K (.builtin "object.__class__") "__get__" = some (some (.builtin "getset_descriptor.__get__"))) (htk : PySem.W.takesIn K (.builtin "object.__class__") = some true)
      (hm : PySem.W.mroIn K C (.type "object") = some true) : TyOf K H (.ref a) (.ref C)
theorem isinst_ok {x : V} {u t : Value} (I : Inv X pins σ H s) (rx : RelV x u) (ty : TyOf X.K H x t) (e : PySem.W.kitOne X.K t c = some b) (h : ∀ tk, Q (.bool b) { s with toks := tk }) :
    wpAny (model X.prog X.w) A (call (.builtin "isinstance") [u, c]) Q E s := by
  cases ty with
  | non => cases (show u = Value.none from rx); exact PySem.W.kia_one PySem.W.kitx_none I.kIn True.intro e (fun z => nomatch z) h
  | bl y => cases (show u = Value.bool y from rx); exact PySem.W.kia_one PySem.W.kitx_bool I.kIn True.intro e (fun z => nomatch z) h
  | int i => obtain ⟨t, q⟩ := (show ∃ t, u = Value.int i t from rx); cases q; exact PySem.W.kia_one PySem.W.kitx_int I.kIn True.intro e (fun z => nomatch z) h
  | str y => obtain ⟨t, q⟩ := (show ∃ t, u = Value.str y t from rx); cases q; exact PySem.W.kia_one PySem.W.kitx_str I.kIn True.intro e (fun z => nomatch z) h
  | flt y => obtain ⟨t, q⟩ := (show ∃ t, u = Value.float y t from rx); cases q; exact PySem.W.kia_one PySem.W.kitx_float I.kIn True.intro e (fun z => nomatch z) h
  | @lst a xs ea =>
    cases (show u = Value.ref a from rx)
    obtain ⟨_, _, n, _, h1⟩ := (show ObjOk X.prog X.w H s.heap a (.lst xs) from I.hok a _ ea)
    exact PySem.W.kia_one PySem.W.kitx_list I.kIn ⟨_, h1, rfl⟩ e (fun z => nomatch z) h
  | @frz a ob xs ea =>
    cases (show u = Value.ref a from rx)
    obtain ⟨_, _, _, n, _, h1⟩ := (show ObjOk X.prog X.w H s.heap a (.frz ob (.lst xs)) from I.hok a _ ea)
    exact PySem.W.kia_one PySem.W.kitx_list I.kIn ⟨_, h1, rfl⟩ e (fun z => nomatch z) h
  | @tup a xs ea =>
    cases (show u = Value.ref a from rx)
    obtain ⟨_, _, _, p⟩ := (show ObjOk X.prog X.w H s.heap a (.tup xs) from I.hok a _ ea)
    obtain ⟨o, h1, h2, _⟩ := p
    exact PySem.W.kia_one PySem.W.kitx_tuple I.kIn ⟨o, h1, h2⟩ e (fun z => nomatch z) h
  | @dK a kvs ea =>
    cases (show u = Value.ref a from rx)
    obtain ⟨_, _, vs, _, p⟩ := (show ObjOk X.prog X.w H s.heap a (.dK kvs) from I.hok a _ ea)
    obtain ⟨o, es, ep, h1, h2, _⟩ := p
    exact PySem.W.kia_one PySem.W.kitx_dict I.kIn ⟨o, h1, h2.1⟩ e (fun z => nomatch z) h
  | @dT a kvs ea =>
    cases (show u = Value.ref a from rx)
    obtain ⟨_, _, xs, _, o, es, ep, h1, h2, _⟩ := (show ObjOk X.prog X.w H s.heap a (.dT kvs) from I.hok a _ ea)
    exact PySem.W.kia_one PySem.W.kitx_dict I.kIn ⟨o, h1, h2.1⟩ e (fun z => nomatch z) h
  | @ins a C dx fs ea cl ha hn htk hm =>
    cases (show u = Value.ref a from rx)
    obtain ⟨mA, O, _⟩ := ins_get I.hok ea
    obtain ⟨od, J, _⟩ := O.look
    exact PySem.W.kia_one (PySem.W.kitx_own (cl.get _) cl.hd ha hn htk hm) I.kIn J e (fun z => nomatch z) h
end
end L2
namespace L2
open PySem PySem.Spec PyProof.Rows
structure Room (k : Nat) (A : Around) : Prop where
  hd : A.handled = none
  dp : A.depth + 3 * k + 5 < recursionLimit
  un : A.units + 16 * k + 200 < cLine
theorem Room.mono {j k : Nat} {A : Around} (r : Room k A) (h : j ≤ k) : Room j A := ⟨r.hd, by have := r.dp; omega, by have := r.un; omega⟩
theorem Room.deeper {k : Nat} {A : Around} (r : Room (k + 1) A) (env : Env) : Room k (A.deeper env) :=
  ⟨r.hd, by have := r.dp; show A.depth + 1 + 3 * k + 5 < _; omega, by have := r.un; show A.units + 3 + 16 * k + 200 < _; omega⟩
theorem make_depth {A : Around} {C : Addr} {us : List Value} {kw : List (Str × Value)} : (A.under (.builtin "type.__call__" ⟨.ref C :: us, kw⟩)).depth = A.depth + 1 := by
  first | rfl | simp [Around.under, Code.weight, Code.isCreation, Code.isGuard, Code.isCaller, Code.frames, Code.isFrame, guardIds]
theorem make_units {A : Around} {C : Addr} {us : List Value} {kw : List (Str × Value)} : (A.under (.builtin "type.__call__" ⟨.ref C :: us, kw⟩)).units = A.units + 1 := by
  first | rfl | simp [Around.under, Code.cUnits, Code.frames, Code.isFrame]
theorem Room.make {k : Nat} {A : Around} (r : Room (k + 1) A) (C : Addr) (us : List Value) (kw : List (Str × Value)) : Room k (A.under (.builtin "type.__call__" ⟨.ref C :: us, kw⟩)) :=
  ⟨r.hd, by have := r.dp; rw [make_depth]; omega, by have := r.un; rw [make_units]; omega⟩
theorem Room.depth {k : Nat} {A : Around} (r : Room k A) : A.depth < recursionLimit := by have := r.dp; omega
theorem Room.units {k : Nat} {A : Around} (r : Room k A) : A.units + 64 < cLine := by have := r.un; omega
def tNil : TA := fun _ H Q => Q [] H
def tCons (ta : TE) (tr : TA) : TA := fun σ H Q => ta σ H fun x H1 => tr σ H1 fun xs H2 => Q (x :: xs) H2
section
variable {X : Cx} {e : Expr} {es : List Expr} {te : TE} {t : TA} {pos : Pos}
theorem pa_nil : PA X [] tNil := fun _ _ _ _ H Q I h => Calls.spliced_nil ⟨[], H, I, .nil, h⟩
theorem pa_cons (ha : PE X e te) (hr : PA X es t) (hs : starEach (e :: es) X.env = (false, eval e X.env) :: starEach es X.env := by rfl) : PA X (e :: es) (tCons te t) := by
  intro pos pins s σ H Q I h
  rw [hs]
  show wpAny _ _ (spliced ((false, eval e X.env) :: backTo pos (starEach es X.env))) _ _ s
  refine Calls.spliced_cons (thnE (ha pins s σ H _ I h) fun u s1 x H1 I1 r1 q1 => ?_)
  exact thnA (hr pos pins s1 σ H1 _ I1 q1) fun us s2 xs H2 I2 r2 q2 => ⟨x :: xs, H2, I2, .cons r1 r2, q2⟩
def tTup (t : TA) : TE := fun σ H Q => t σ H fun xs H1 => xs.length ≤ sizeLine ∧ ∀ p, H1 p = none → Q (.ref p) (upd H1 p (.tup xs))
def tLst (t : TA) : TE := fun σ H Q => t σ H fun xs H1 => xs.length ≤ sizeLine ∧ ∀ p, H1 p = none → Q (.ref p) (upd H1 p (.lst xs))
theorem pe_lst (h : PA X es t) : PE X (.List es pos) (tLst t) := by
  intro pins s σ H Q I hq
  refine wpAny_List_spliced (thnA (h pos pins s σ H _ I hq) fun us s1 xs H1 I1 r ⟨z, q⟩ => ⟨by rw [← r.length]; exact z, ?_⟩)
  have hf : H1 s1.heap.objs.size = none := I1.hok.fresh (Nat.le_refl _)
  refine ⟨.ref s1.heap.objs.size, upd H1 s1.heap.objs.size (.lst xs), I1.laid (t' := s1.toks) (fun b u e => Heap.get?_push_of_some _ e) (Nat.le_refl _) ?_, rfl, q _ hf⟩
  exact ⟨z, us, 0, r, Heap.get?_push_size _ rfl⟩
end
abbrev Sp := List V → Hp → VK → XK → Prop
abbrev CXT := List Env → Hp → Shared → XK → Value → Shared → Prop
structure Env0 (P : Program) (w : World) (K : PySem.W.Frag) (mg : Str → Option Value) (base : Heap) (A : Around) (outer : List Env) (s : Shared) (H : Hp) : Prop where
  frames : A.frames = some outer
  mod : Mod K mg base
  bs : ∀ b o, base.get? b = some o → s.heap.get? b = some o ∧ H b = none
  bsz : base.objs.size ≤ s.heap.objs.size
  funs : s.heap.FunFrames base outer
  frf : ∀ b ∈ frs outer, H b = none
  hok : HOk P w H s.heap
  bare : AllBare s.gens
def CE (outer : List Env) (P : Program) (w : World) (H : Hp) (s : Shared) (Q : VK) (u : Value) (s' : Shared) : Prop :=
  ∃ v H', s'.os = s.os ∧ AllBare s'.gens ∧ Un (frs outer) [] H H' s.heap s'.heap ∧ HOk P w H' s'.heap ∧ RelV v u ∧ Q v H'
def CR (CX : CXT) (outer : List Env) (P : Program) (w : World) (H : Hp) (s : Shared) (Q : VK) (E : XK) (r : Result) (s' : Shared) : Prop :=
  match r with
  | .ok (.ret u) => CE outer P w H s Q u s'
  | .ok _ => False
  | .error e => CX outer H s E e s'
structure FnOk (P : Program) (w : World) (K : PySem.W.Frag) (mg : Str → Option Value) (base : Heap) (CX : CXT) (k : Nat) (f : Addr) (fd : FuncData) (ps : List Str) (sp : Sp) : Prop where
  len : ∀ vs H Q E, sp vs H Q E → vs.length = ps.length
  run : ∀ (A : Around) (outer : List Env) (s : Shared) (H : Hp) (args : Args) (us : List Value) (vs : List V) (Q : VK) (E : XK), Room k A → Env0 P w K mg base A outer s H → BindsTo s fd args (ps.zip us) → Vals vs us → sp vs H Q E →
    codeAny (model P w) A (.call (.ref f) args) (CR CX outer P w H s Q E) s
theorem Env0.make {P : Program} {w : World} {K : PySem.W.Frag} {mg : Str → Option Value} {base : Heap} {A : Around} {outer : List Env} {s : Shared} {H : Hp} (e : Env0 P w K mg base A outer s H) (C : Addr) (us : List Value) (kw : List (Str × Value)) :
    Env0 P w K mg base (A.under (.builtin "type.__call__" ⟨.ref C :: us, kw⟩)) outer s H := ⟨by first | exact e.frames | (simpa [Around.under, Code.envs, Code.isFrame, pushEnvs] using e.frames), e.mod, e.bs, e.bsz, e.funs, e.frf, e.hok, e.bare⟩
section
variable {X : Cx} {pins : List (Addr × Obj)} {σ : St} {H : Hp} {s s' : Shared}
theorem Inv.env0 (I : Inv X pins σ H s) : Env0 X.prog X.w X.K X.mg X.base X.A X.stack s H :=
  ⟨I.ok.frames, I.ok.mod, I.bs, Nat.le_trans I.ok.bsz I.sz, I.stack, I.stkFree, I.hok, I.bare⟩
theorem Inv.after {Q : VK} {u : Value} (I : Inv X pins σ H s) (h : CE X.stack X.prog X.w H s Q u s') : EP X pins σ Q u s' := by
  obtain ⟨v, H', os, bare, un, hok, r, q⟩ := h
  obtain ⟨hh, g, d, t, os'⟩ := s'
  obtain rfl : os' = s.os := os
  exact ⟨v, H', I.call (h' := hh) (g' := g) (d' := d) (t' := t) (ch := []) un hok bare (fun b z => absurd z (by simp)), r, q⟩
end
def tCall (sp : Sp) (dvs : List V) (E : XK) (t : TA) : TE := fun σ H Q => t σ H fun vs H1 => sp (vs ++ dvs) H1 Q E
def tMake (C : Addr) (sp : Sp) (dvs : List V) (E : XK) (t : TA) : TE := fun σ H Q => t σ H fun vs H1 => ∀ x dx, H1 x = none → H1 dx = none → dx ≠ x →
  sp (.ref x :: (vs ++ dvs)) (upd (upd H1 dx (.own x)) x (.ins C dx [])) (fun v H2 => v = .non ∧ Q (.ref x) H2) E
def Binds (K : PySem.W.Frag) (fd : FuncData) (ps : List Str) (ds : List Value) : Prop :=
  ∀ (s : Shared) (us : List Value), K.In s.heap → (us ++ ds).length = ps.length → BindsTo s fd ⟨us, []⟩ (ps.zip (us ++ ds))
theorem Binds.all {K : PySem.W.Frag} {fd : FuncData} {ps : List Str} (h : ∀ us : List Value, us.length = ps.length → bindArgs fd ⟨us, []⟩ = pure (ps.zip us)) : Binds K fd ps [] := fun s us _ hl => by
  rw [List.append_nil] at hl ⊢
  exact .of_eq (h us hl)
def Passes (CX : CXT) (X : Cx) (E : XK) : Prop := ∀ (pins : List (Addr × Obj)) (σ : St) (H : Hp) (s : Shared) (e : Value) (s' : Shared), Inv X pins σ H s → CX X.stack H s E e s' → X.xe e s'
section
variable {X : Cx} {CX : CXT} {k : Nat} {f C : Addr} {fd : FuncData} {ps : List Str} {sp : Sp} {dvs : List V} {ds : List Value} {E : XK} {x m : Str} {p pos apos : Pos} {e o : Expr} {es : List Expr} {ta : TE} {t : TA}
theorem run_fn {pins : List (Addr × Obj)} {σ : St} {H : Hp} {s : Shared} {Q : VK} {us : List Value} {vs : List V} (F : FnOk X.prog X.w X.K X.mg X.base CX k f fd ps sp) (hr : Room k X.A) (hb : Binds X.K fd ps ds) (hd : Vals dvs ds) (hx : Passes CX X E)
    (I : Inv X pins σ H s) (r : Vals vs us) (h : sp (vs ++ dvs) H Q E) : wpAny (model X.prog X.w) X.A (call (.ref f) us) (EP X pins σ Q) X.xe s := by
  have r2 : Vals (vs ++ dvs) (us ++ ds) := r.append hd
  have hl : (us ++ ds).length = ps.length := by rw [← r2.length]; exact F.len _ _ _ _ h
  refine wpAny_call (codeAny_mono (F.run X.A X.stack s H ⟨us, []⟩ (us ++ ds) (vs ++ dvs) Q E hr I.env0 (hb s us I.kIn hl) r2 h) fun r s' hq => ?_)
  cases r with
  | error e => exact hx pins σ H s e s' I hq
  | ok fl =>
    cases fl with
    | ret u => exact I.after hq
    | next => exact False.elim hq
    | brk => exact False.elim hq
    | cont => exact False.elim hq
theorem pe_call (F : FnOk X.prog X.w X.K X.mg X.base CX k f fd ps sp) (hr : Room k X.A) (hg : Gl X x) (hm : X.mg x = some (.ref f)) (hk : PySem.W.keepIn X.K (.ref f) = true) (hb : Binds X.K fd ps ds) (hd : Vals dvs ds) (hx : Passes CX X E)
    (ha : PA X (e :: es) t) (hdb : (x == ("__debug__" : Str)) = false := by decide) (he : starEach (e :: es) X.env = (false, eval e X.env) :: starEach es X.env := by rfl) (hpl : (backTo pos (starEach es X.env)).any (·.1) = false := by rfl) :
    PE X (.Call (.Name x p) (e :: es) [] pos) (tCall sp dvs E t) := by
  intro pins s σ H Q I h
  refine wpAny_Call_Name_kw (ld_glob I hg hm ?_ hdb)
  refine PySem.W.callWith_K (h₀ := X.base) I.ok.mod.kin hk (thnA (ha pos pins s σ H _ I h) fun us s1 vs H1 I1 r q => ⟨I1.kIn, ?_⟩) he hpl
  exact run_fn F hr hb hd hx I1 r q
end
section
variable {X : Cx} {CX : CXT} {k : Nat} {f C : Addr} {fd : FuncData} {ps ks : List Str} {sp : Sp} {E : XK} {x m : Str} {p pos apos kpos : Pos} {e o : Expr} {es : List Expr} {kws : List Keyword} {te ta : TE} {t tk : TA} {nm : Option Str}
variable {g : List Value → List Value → List Value} {gV : List V → List V → List V}
end
structure FnScope (N P : List Str) (sc : Scope) : Prop where
  kind : sc.kind = .function
  co : sc.isCoroutine = false
  gen : sc.isGenerator = false
  nd : N.Nodup
  pre : N.take P.length = P
  par : ∀ x ∈ P, sc.names.lookup x = some .local ∨ sc.names.lookup x = some .cell
  nofree : ∀ y ∈ sc.names, y.2 ≠ .free
theorem bindL_out {kindOf : Str → Option NameKind} {x : Str} : ∀ {binds : List (Str × Value)} {m : Str → Option Value}, (∀ v, (x, v) ∉ binds) → bindL kindOf binds m x = m x
  | [], _, _ => rfl
  | (n, v) :: r, m, h => by
    unfold bindL
    rw [bindL_out fun w hw => h w (List.mem_cons_of_mem _ hw)]
    split
    · have : x ≠ n := by rintro rfl; exact h v List.mem_cons_self
      simp [this]
    · rfl
theorem bindC_out {kindOf : Str → Option NameKind} {x : Str} : ∀ {binds : List (Str × Value)} {m : Str → Option Value}, (∀ v, (x, v) ∉ binds) → bindC kindOf binds m x = m x
  | [], _, _ => rfl
  | (n, v) :: r, m, h => by
    unfold bindC
    rw [bindC_out fun w hw => h w (List.mem_cons_of_mem _ hw)]
    split
    · rfl
    · have : x ≠ n := by rintro rfl; exact h v List.mem_cons_self
      simp [this]
theorem bindL_get {kindOf : Str → Option NameKind} {x : Str} {v : Value} : ∀ {P : List Str} {vs : List Value} {i : Nat} {m : Str → Option Value}, P.Nodup → P[i]? = some x → vs[i]? = some v → kindOf x = some .local →
    bindL kindOf (P.zip vs) m x = some v
  | [], _, _, _, _, h, _, _ => by simp at h
  | _ :: _, [], _, _, _, _, h, _ => by simp at h
  | p :: P, w :: vs, 0, m, nd, h1, h2, hk => by
    simp at h1 h2; subst h1; subst h2
    show bindL kindOf ((p, w) :: P.zip vs) m p = _
    unfold bindL
    rw [bindL_out fun v hv => (List.nodup_cons.mp nd).1 (List.of_mem_zip hv).1, if_pos hk]
    simp
  | p :: P, w :: vs, i + 1, m, nd, h1, h2, hk => by
    show bindL kindOf ((p, w) :: P.zip vs) m x = _
    unfold bindL
    exact bindL_get (i := i) (List.nodup_cons.mp nd).2 (by simpa using h1) (by simpa using h2) hk
theorem bindC_get {kindOf : Str → Option NameKind} {x : Str} {v : Value} : ∀ {P : List Str} {vs : List Value} {i : Nat} {m : Str → Option Value}, P.Nodup → P[i]? = some x → vs[i]? = some v → kindOf x ≠ some .local →
    bindC kindOf (P.zip vs) m x = some v
  | [], _, _, _, _, h, _, _ => by simp at h
  | _ :: _, [], _, _, _, _, h, _ => by simp at h
  | p :: P, w :: vs, 0, m, nd, h1, h2, hk => by
    simp at h1 h2; subst h1; subst h2
    show bindC kindOf ((p, w) :: P.zip vs) m p = _
    unfold bindC
    rw [bindC_out fun v hv => (List.nodup_cons.mp nd).1 (List.of_mem_zip hv).1, if_neg hk]
    simp
  | p :: P, w :: vs, i + 1, m, nd, h1, h2, hk => by
    show bindC kindOf ((p, w) :: P.zip vs) m x = _
    unfold bindC
    exact bindC_get (i := i) (List.nodup_cons.mp nd).2 (by simpa using h1) (by simpa using h2) hk
def start (N : List Str) (vs : List V) : St := vs.map some ++ List.replicate (N.length - vs.length) none
def cxOf (CX : CXT) (P : Program) (w : World) (K : PySem.W.Frag) (mg : Str → Option Value) (base : Heap) (N : List Str) (qual : Str) (scope : Scope) (f : Addr) (cd : Value) (A : Around) (outer : List Env) (s : Shared) (H : Hp) (E : XK) : Cx where
  prog := P
  w := w
  K := K
  mg := mg
  base := base
  A := A.deeper (envOfC qual scope s.heap.objs.size f cd)
  N := N
  s₀ := s
  H₀ := H
  env := envOfC qual scope s.heap.objs.size f cd
  outer := outer
  stack := envOfC qual scope s.heap.objs.size f cd :: outer
  ex := []
  calm := true
  fn := fun _ => true
  pn := []
  xe := fun e s' => wpAny (model P w) (A.deeper (envOfC qual scope s.heap.objs.size f cd)) (leaving (envOfC qual scope s.heap.objs.size f cd) e) (fun _ s'' => CX outer H s E e s'') (fun e' s'' => CX outer H s E e' s'') s'
theorem cell_has {sc : Scope} {n : Nat} {x : Str} (h : sc.names.lookup x = some .cell) : ∃ c, (cellsFrom n sc.names []).lookup x = some c := by
  have q := PySem.W.cellsFrom_some sc.names n [] (.inl h)
  exact Option.isSome_iff_exists.mp q
theorem inv_start {CX : CXT} {P : Program} {w : World} {K : PySem.W.Frag} {mg : Str → Option Value} {base : Heap} {N ps : List Str} {qual : Str} {scope : Scope} {f : Addr} {cd : Value} {A : Around} {outer : List Env} {s s1 : Shared} {H : Hp} {E : XK} {us : List Value} {vs : List V}
    (S : FnScope N ps scope) (hd : A.handled = none) (e0 : Env0 P w K mg base A outer s H) (hl : vs.length = ps.length) (r : Vals vs us)
    (x : InCallC s s.heap.objs.size (bindL (envOfC qual scope s.heap.objs.size f cd).kindOf (ps.zip us) fun _ => none) (cellsFrom (s.heap.objs.size + 1) scope.names []) (bindC (envOfC qual scope s.heap.objs.size f cd).kindOf (ps.zip us) fun _ => none) s1) :
    Inv (cxOf CX P w K mg base N qual scope f cd A outer s H E) [] (start N vs) H s1 := by
  have hpl : ps.length ≤ N.length := by have := congrArg List.length S.pre; rw [List.length_take] at this; omega
  obtain ⟨h1, tk, rfl, hk⟩ := x.done
  have noA : ∀ b : Addr, b ∉ (cxOf CX P w K mg base N qual scope f cd A outer s H E).ex := fun b z => absurd (show b ∈ ([] : List Addr) from z) (by simp)
  refine ⟨⟨e0.mod, S.kind, rfl, rfl, Nat.le_refl _, fun y z c h1 h2 => ?_, fun y hy => ?_, fun y c _ h => ?_, fun _ => hd, Around.frames_deeper e0.frames, .inr ⟨rfl, rfl⟩, fun b z => absurd z (noA b), e0.bs, e0.bsz, fun b _ _ => noA b, fun b z => absurd z (noA b), e0.funs, e0.frf⟩,
    rfl, e0.bare, Un.kept hk, ⟨_, x.toInCall.ns, fun i y v h1 h2 h3 => ?_⟩, fun y c h => ⟨_, x.cell y c h⟩, e0.hok.fresh (Nat.le_refl _), fun y c h => ?_, fun p hp => absurd (show p ∈ ([] : List (Addr × Obj)) from hp) (by simp), e0.hok.kept hk, ?_⟩
  · exact name_of_addr x.apart (PySem.mem_of_lookup h1) (PySem.mem_of_lookup h2)
  · have hy : scope.names.lookup y = some .cell ∨ scope.names.lookup y = some .free := hy
    rcases hy with hy | hy
    · exact cell_has hy
    · exact absurd rfl (S.nofree _ (PySem.mem_of_lookup hy))
  · exact Nat.le_of_lt (x.above y c (PySem.mem_of_lookup h))
  · have hi : i < vs.length := by
      unfold start at h2
      by_cases hi : i < vs.length
      · exact hi
      · rw [List.getElem?_append_right (by simpa using hi)] at h2
        rw [List.getElem?_replicate] at h2
        split at h2 <;> cases h2
    have ha : vs[i]? = some v := by
      unfold start at h2
      rw [List.getElem?_append_left (by simpa using hi), List.getElem?_map] at h2
      cases e : vs[i]? with
      | none => rw [e] at h2; cases h2
      | some a => rw [e] at h2; cases h2; rfl
    obtain ⟨u, hu, rv⟩ := r.get ha
    have hp : ps[i]? = some y := by
      rw [← S.pre, List.getElem?_take_of_lt (by omega)]; exact h1
    have ndP : ps.Nodup := by rw [← S.pre]; exact S.nd.sublist (List.take_sublist _ _)
    refine ⟨u, rv, ?_⟩
    rcases S.par y (List.mem_of_getElem? hp) with k | k
    · exact .inl ⟨k, bindL_get ndP hp hu k⟩
    · obtain ⟨c, e⟩ := cell_has (n := s.heap.objs.size + 1) k
      refine .inr ⟨.inl k, c, e, ?_⟩
      have q := x.cell y c e
      rw [bindC_get ndP hp hu (by show scope.names.lookup y ≠ _; rw [k]; decide)] at q
      exact q
  · exact e0.hok.fresh (Nat.le_of_lt (x.above y c (PySem.mem_of_lookup h)))
  · unfold start
    show _ = N.length
    rw [List.length_append, List.length_map, List.length_replicate]
    omega
theorem fn_of {CX : CXT} {P : Program} {w : World} {K : PySem.W.Frag} {mg : Str → Option Value} {base : Heap} {k : Nat} {f : Addr} {name qual : Str} {params : Arguments} {body : List Stmt} {scope : Scope} {dV kV doc pm cdv ct oc : Value} {an od : Option Addr}
    {osl : Array (Option Value)} {N ps : List Str} {sp : Sp} (lk : K.lookup f = some ⟨oc, od, .func (PySem.W.fnOf name qual params body scope dV kV doc pm an cdv ct), osl⟩) (hcd : PySem.W.codeIn K cdv qual = true) (S : FnScope N ps scope)
    (len : ∀ vs H Q E, sp vs H Q E → vs.length = ps.length)
    (hbody : ∀ (A : Around) (outer : List Env) (s : Shared) (H : Hp) (vs : List V) (Q : VK) (E : XK), Room k (A.deeper (envOfC qual scope s.heap.objs.size f cdv)) → sp vs H Q E →
      ∃ t, PSs (cxOf CX P w K mg base N qual scope f cdv A outer s H E) body t ∧ t { nx := fun _ H' => Q .non H', rt := Q } (start N vs) H) :
    FnOk P w K mg base CX (k + 1) f (PySem.W.fnOf name qual params body scope dV kV doc pm an cdv ct) ps sp := by
  refine ⟨len, fun A outer s H args us vs Q E hr e0 hb r hsp => ?_⟩
  have hl := len _ _ _ _ hsp
  have KX : K.In s.heap := e0.mod.kin.keeps fun b o e => (e0.bs b o e).1
  have lim : s.heap.NoLimit := e0.mod.nolimit.keeps fun b o e => (e0.bs b o e).1
  have hkind : ∀ y ∈ ps.zip us, scope.names.lookup y.1 = some .local ∨ (scope.names.lookup y.1 = some .cell ∧ ((cellsFrom (s.heap.objs.size + 1) scope.names []).lookup y.1).isSome = true) := fun ⟨n, v⟩ hy => by
    rcases S.par n (List.of_mem_zip hy).1 with q | q
    · exact .inl q
    · exact .inr ⟨q, PySem.W.cellsFrom_some _ _ _ (.inl q)⟩
  refine codeAny_call_function hr.depth (KX _ _ lk) rfl S.co S.gen rfl (PySem.W.codeRec_of KX hcd) (hb _ _ _ _ ?_)
  refine wpAny_newFunctionEnv_cells S.kind hkind fun env he s1 x => ?_
  subst he
  refine ⟨lim.keeps x.toInCall.keep, codeAny_func ?_⟩
  obtain ⟨t, ht, hq⟩ := hbody A outer s H vs Q E (hr.deeper _) hsp
  have I : Inv (cxOf CX P w K mg base N qual scope f cdv A outer s H E) [] (start N vs) H s1 := inv_start S hr.hd e0 hl r x
  refine wpAny_mono (ht [] s1 (start N vs) H _ I hq) (fun fl s' hs => ?_) fun e s' hs => hs
  have fin : ∀ {σ' : St} {H' : Hp} {v : V} {u : Value}, Inv (cxOf CX P w K mg base N qual scope f cdv A outer s H E) [] σ' H' s' → RelV v u → Q v H' → CE outer P w H s Q u s' :=
    fun {σ' H' v u} J rv q => ⟨v, H', J.os, J.bare, J.base, J.hok, rv, q⟩
  cases fl with
  | ret u =>
    obtain ⟨v, σ', H', J, rv, q⟩ := hs
    exact fin J rv q
  | next =>
    obtain ⟨σ', H', J, q⟩ := hs
    exact fin (v := V.non) (u := Value.none) J rfl q
  | brk =>
    obtain ⟨_, _, _, q⟩ := hs
    exact False.elim q
  | cont =>
    obtain ⟨_, _, _, q⟩ := hs
    exact False.elim q
end L2
namespace L2
open PySem PySem.Spec PyProof.Rows
section
variable {X : Cx} {x : Str} {p pos : Pos} {e : Expr} {es : List Expr} {t : TA} {id T : String} {r : List V → Hp → VK → Prop}
def tCB (r : List V → Hp → VK → Prop) (t : TA) : TE := fun σ H Q => t σ H fun vs H1 => r vs H1 Q
theorem pe_callB (hc : CallR X (.builtin id) r) (hg : Gl X x) (hm : X.mg x = none) (hv : bootBuiltins x = some (.builtin id)) (ha : PA X (e :: es) t) (hn : x ≠ "__name__" := by decide) (hdb : (x == ("__debug__" : Str)) = false := by decide)
    (he : starEach (e :: es) X.env = (false, eval e X.env) :: starEach es X.env := by rfl) (hpl : (backTo pos (starEach es X.env)).any (·.1) = false := by rfl) : PE X (.Call (.Name x p) (e :: es) [] pos) (tCB r t) := by
  intro pins s σ H Q I h
  refine wpAny_Call_Name_kw (ld_blt I hg hm hv ?_ hn hdb)
  exact PyProof.Rows.callWith_builtin1 (thnA (ha pos pins s σ H _ I h) fun us s1 vs H1 I1 r1 q1 => hc pins s1 σ H1 vs us Q I1 r1 q1) he hpl
end
end L2
namespace HT
open PySem PyProof.Rows
section
open PySem.SeqAt
open PySem.AutoSeq1 (wpAny_loadPart')
open PySem.MeetsSeq PySem.MeetsSeq2 PySem.MeetsSeq3
end
section
variable {prog : Program} {w : World} {A : Around} {E : Value → Shared → Prop} {s : Shared}
def sIx (n d : Nat) : Option Int → Nat
  | none => d
  | some v => if v < 0 then (v + (n : Int)).toNat else min v.toNat n
end
end HT
namespace L2
open PySem PySem.Spec PyProof.Rows
abbrev TO := St → Hp → (Option Int → Hp → Prop) → Prop
def PO (X : Cx) (e : Option Expr) (t : TO) : Prop :=
  ∀ (pins : List (Addr × Obj)) (s : Shared) (σ : St) (H : Hp) (Q : Option Int → Hp → Prop), Inv X pins σ H s → t σ H Q →
    wpAny (model X.prog X.w) X.A (evalPart e X.env) (fun u s' => ∃ o H', Inv X pins σ H' s' ∧ IsPart u o ∧ Q o H') X.xe s
def tNoPart : TO := fun _ H Q => Q none H
def tPart (t : TE) : TO := fun σ H Q => t σ H fun x H1 => ∃ i, x = .int i ∧ Q (some i) H1
section
variable {X : Cx} {e : Expr} {te : TE} {lo hi : Option Expr} {tl th : TO} {pos p2 : Pos}
theorem po_none : PO X none tNoPart := by
  intro pins s σ H Q I h
  rw [evalPart_none]
  exact wpAny_pure ⟨none, H, I, .none, h⟩
theorem po_some (h : PE X e te) : PO X (some e) (tPart te) := by
  intro pins s σ H Q I hw
  rw [evalPart_some]
  refine thnE (h pins s σ H _ I hw) fun u s1 x H1 I1 r1 q1 => ?_
  obtain ⟨i, rfl, q⟩ := q1
  obtain ⟨t, rfl⟩ := r1
  exact ⟨some i, H1, I1, .int i t, q⟩
def SlR (X : Cx) (r : V → Option Int → Option Int → Hp → VK → Prop) : Prop :=
  ∀ (pins : List (Addr × Obj)) (s : Shared) (σ : St) (H : Hp) (x : V) (v vl vu : Value) (lo hi : Option Int) (sl : Addr) (Q : VK), Inv X pins σ H s → RelV x v → s.heap.IsSliceOf sl vl vu .none → IsPart vl lo → IsPart vu hi → r x lo hi H Q →
    ∃ T id, typeLookup (.type T) "__getitem__" = pure (some (.builtin id)) ∧ s.TypeIs v T ∧ wpAny (model X.prog X.w) X.A (getItem v (.ref sl)) (EP X pins σ Q) X.xe s
def tSl (r : V → Option Int → Option Int → Hp → VK → Prop) (te : TE) (tl th : TO) : TE := fun σ H Q => te σ H fun x H1 => tl σ H1 fun l H2 => th σ H2 fun u H3 => r x l u H3 Q
theorem pe_slice {r : V → Option Int → Option Int → Hp → VK → Prop} (hr : SlR X r) (he : PE X e te) (hl : PO X lo tl) (hu : PO X hi th) : PE X (.Subscript e (.Slice lo hi none p2) pos) (tSl r te tl th) := by
  intro pins s σ H Q I h
  refine Subscript_ (thnE (he pins s σ H _ I h) fun v s1 x H1 I1 r1 q1 => ?_)
  refine wpAny_Slice (thn (hl pins s1 σ H1 _ I1 q1) fun vl s2 ⟨l, H2, I2, pl, q2⟩ => thn (hu pins s2 σ H2 _ I2 q2) fun vu s3 ⟨u, H3, I3, pu, q3⟩ => ?_)
  rw [evalPart_none]
  refine wpAny_pure ?_
  have I4 : Inv X pins σ H3 { s3 with heap := s3.heap.push { cls := .type "slice", data := .fields #[vl, vu, .none] } } := I3.kept (t' := s3.toks) fun b ob q => Heap.get?_push_of_some _ q
  obtain ⟨T, id, hT, ht, hg⟩ := hr pins { s3 with heap := s3.heap.push { cls := .type "slice", data := .fields #[vl, vu, .none] } } σ H3 x v vl vu l u s3.heap.objs.size Q I4 r1 (Heap.IsSliceOf.new ..) pl pu q3
  show wpAny (model X.prog X.w) X.A (subscriptTail e (.Slice lo hi none p2) v (.ref s3.heap.objs.size)) (EP X pins σ Q) X.xe { s3 with heap := s3.heap.push { cls := .type "slice", data := .fields #[vl, vu, .none] } }
  exact tail_any (ops := [.ref s3.heap.objs.size, v]) ht hT hg (by with_unfolding_all rfl)
def cutV (xs : List V) (lo hi : Option Int) : List V := (xs.drop (HT.sIx xs.length 0 lo)).take (HT.sIx xs.length xs.length hi - HT.sIx xs.length 0 lo)
theorem cutV_length (xs : List V) (lo hi : Option Int) : (cutV xs lo hi).length ≤ xs.length := by
  unfold cutV
  rw [List.length_take, List.length_drop]
  omega
end
end L2
namespace L2
open PySem PySem.Spec PyProof.Rows
def ixN (n : Nat) (i : Int) : Option Nat := if 0 ≤ i then (if i < n then some i.toNat else none) else if -(n : Int) ≤ i then some (i + n).toNat else none
def atI {α : Type} (xs : List α) (i : Int) : Option α := (ixN xs.length i).bind fun j => xs[j]?
theorem ixN_seq {n : Nat} {i : Int} {j : Nat} (h : ixN n i = some j) : seqIndex? i n = some j ∧ j < n ∧ -(n : Int) ≤ i ∧ i < n := by
  unfold ixN at h
  by_cases h0 : 0 ≤ i
  · rw [if_pos h0] at h
    by_cases h1 : i < n
    · rw [if_pos h1] at h
      have e : i.toNat = j := Option.some.inj h
      exact ⟨by rw [seqIndex_of h0 h1, e], by omega, by omega, h1⟩
    · rw [if_neg h1] at h; cases h
  · rw [if_neg h0] at h
    by_cases h1 : -(n : Int) ≤ i
    · rw [if_pos h1] at h
      have e : (i + n).toNat = j := Option.some.inj h
      exact ⟨by rw [seqIndex_neg (by omega) h1, e], by omega, h1, by omega⟩
    · rw [if_neg h1] at h; cases h
theorem atI_get {α : Type} {xs : List α} {i : Int} {v : α} (h : atI xs i = some v) : ∃ j, seqIndex? i xs.length = some j ∧ xs[j]? = some v ∧ j < xs.length ∧ -(xs.length : Int) ≤ i ∧ i < xs.length := by
  unfold atI at h
  cases e : ixN xs.length i with
  | none => rw [e] at h; cases h
  | some j =>
    rw [e] at h
    obtain ⟨h1, h2, h3, h4⟩ := ixN_seq e
    exact ⟨j, h1, h, h2, h3, h4⟩
def PlainIx (b : Expr) : Prop := ∀ o i, subscripted b false o i = operate [o, i] (getItem o i)
def IxR (X : Cx) (r : R2) : Prop :=
  ∀ (value slice : Expr) (pins : List (Addr × Obj)) (s : Shared) (σ : St) (H : Hp) (x y : V) (v u : Value) (Q : VK), Inv X pins σ H s → RelV x v → RelV y u → r x y H Q →
    subscripted slice false v u = operate [v, u] (getItem v u) → wpAny (model X.prog X.w) X.A (subscriptTail value slice v u) (EP X pins σ Q) X.xe s
section
variable {X : Cx} {a b : Expr} {ta tb : TE} {pos : Pos}
theorem pe_ix {r : R2} (hr : IxR X r) (ha : PE X a ta) (hb : PE X b tb) (hs : PlainIx b) : PE X (.Subscript a b pos) (tOp r ta tb) := by
  intro pins s σ H Q I h
  exact Subscript_ (binT ha hb I h fun v u s2 x y H2 I2 rx ry q => hr a b pins s2 σ H2 x y v u Q I2 rx ry q (hs _ _))
def rIxL (K : PySem.W.Frag) : R2 := fun x y H Q => ∃ p xs i v, x = .ref p ∧ y = .int i ∧ SqL K H p xs ∧ atI xs i = some v ∧ Q v H
theorem ix_list : IxR X (rIxL X.K) := by
  intro value slice pins s σ H x y v u Q I rx ry h hs
  obtain ⟨p, xs, i, z, rfl, rfl, hq, he, q⟩ := h
  cases rx
  obtain ⟨t, rfl⟩ := ry
  obtain ⟨its, r, pl, hz⟩ := I.list hq
  obtain ⟨j, h1, h2, h3, h4, h5⟩ := atI_get he
  obtain ⟨w, ew, rw'⟩ := r.get h2
  have hl := r.length
  have hn := line63
  have fin : EP X pins σ Q w s := ⟨z, H, I, rw', q⟩
  by_cases h0 : 0 ≤ i
  · have hj : i.toNat = j := by
      rw [seqIndex_of h0 h5] at h1
      exact Option.some.inj h1
    exact item_listR pl.isList h0 (by omega) (by rw [hj]; simpa using ew) fin hs
  · have hj : (i + (its.toArray.size : Int)).toNat = j := by
      rw [seqIndex_neg (by omega) h4] at h1
      rw [List.size_toArray, ← hl]
      exact Option.some.inj h1
    exact subscriptTail_builtinR (x := w) pl.isList.typeIs slot_list_getitem.lookup
      (wpAny_getItem_list_neg (Q := fun r s' => r = w ∧ EP X pins σ Q r s') pl.isList (by omega) (by rw [List.size_toArray] <;> omega) (by omega) (by rw [hj]; simpa using ew) ⟨rfl, fin⟩) hs
theorem slice_bounds (lo hi : Option Int) (n : Nat) : (sliceBounds lo hi none n).1 = ((HT.sIx n 0 lo : Nat) : Int) ∧ (sliceBounds lo hi none n).2.1 = ((HT.sIx n n hi : Nat) : Int) ∧ (sliceBounds lo hi none n).2.2 = 1 := by
  refine ⟨?_, ?_, rfl⟩
  · cases lo with
    | none => simp [sliceBounds, HT.sIx]
    | some i =>
      simp only [sliceBounds, HT.sIx, Option.getD_none, show (1 : Int) > 0 by decide, if_true]
      by_cases h : i < 0
      · simp only [h, if_true] <;> omega
      · simp only [h, if_false] <;> omega
  · cases hi with
    | none => simp [sliceBounds, HT.sIx]
    | some i =>
      simp only [sliceBounds, HT.sIx, Option.getD_none, show (1 : Int) > 0 by decide, if_true]
      by_cases h : i < 0
      · simp only [h, if_true] <;> omega
      · simp only [h, if_false] <;> omega
theorem slicePick_cut (its : List Value) (lo hi : Option Int) : slicePick its.toArray lo hi none = ((its.drop (HT.sIx its.length 0 lo)).take (HT.sIx its.length its.length hi - HT.sIx its.length 0 lo)).toArray := by
  obtain ⟨h1, h2, h3⟩ := slice_bounds lo hi its.toArray.size
  unfold slicePick
  rw [h1, h2, h3]
  simp only [sliceRange_one, pick_run, List.size_toArray] <;> rfl
def rSlL (K : PySem.W.Frag) : V → Option Int → Option Int → Hp → VK → Prop := fun x lo hi H Q => ∃ a xs, x = .ref a ∧ SqL K H a xs ∧ ∀ p, H p = none → Q (.ref p) (upd H p (.lst (cutV xs lo hi)))
theorem sl_list : SlR X (rSlL X.K) := by
  intro pins s σ H x v vl vu lo hi sl Q I rx hs pl pu h
  obtain ⟨a, xs, rfl, hx, q⟩ := h
  cases rx
  obtain ⟨its, r, ht, hz⟩ := I.list hx
  have hlen := r.length
  refine ⟨"list", _, slot_list_getitem.lookup, ht.isList.typeIs, ?_⟩
  refine wpAny_getItem_list_slice ht.isList hs pl pu .none (by simp) ?_ (by rw [List.size_toArray] <;> omega)
  rw [slicePick_cut, ← hlen]
  refine ⟨.ref s.heap.objs.size, _, I.laid (t' := s.toks) (o := .lst (cutV xs lo hi)) (fun b ob q => Heap.get?_push_of_some _ q) (Nat.le_refl _) ?_, rfl, q _ (I.hok.fresh (Nat.le_refl _))⟩
  exact ⟨Nat.le_trans (cutV_length xs lo hi) hz, _, 0, (r.drop (HT.sIx xs.length 0 lo)).take (HT.sIx xs.length xs.length hi - HT.sIx xs.length 0 lo), Heap.get?_push_size _ rfl⟩
def tyV (K : PySem.W.Frag) (T : String) (x : V) (H : Hp) : Prop := match x with
  | .str _ => T = "str"
  | .int _ => T = "int"
  | .ref p => (T = "list" ∧ ∃ xs, SqL K H p xs) ∨ (T = "tuple" ∧ ∃ o, K.lookup p = some o ∧ o.cls = .type "tuple" ∧ o.dict = none) ∨
      (T = "dict" ∧ ((∃ kvs, H p = some (.dK kvs)) ∨ ∃ kvs, H p = some (.dT kvs))) ∨ (T = "set" ∧ ∃ S n, H p = some (.set S n))
  | _ => False
def tBM0 (K : PySem.W.Frag) (T : String) (r : V → List V → Hp → VK → Prop) (to : TE) : TE := fun σ H Q => to σ H fun x H1 => tyV K T x H1 ∧ r x [] H1 Q
def tBM (K : PySem.W.Frag) (T : String) (r : V → List V → Hp → VK → Prop) (to : TE) (t : TA) : TE := fun σ H Q => to σ H fun x H1 => tyV K T x H1 ∧ t σ H1 fun xs H2 => r x xs H2 Q
variable {o e : Expr} {es : List Expr} {to : TE} {t : TA} {name : Str} {apos cpos : Pos} {T id : String} {r : V → List V → Hp → VK → Prop}
end
end L2
namespace L2
open PySem PySem.Spec PyProof.Rows
def MtM (X : Cx) (id : String) (r : V → List V → Hp → VK → Prop) : Prop :=
  ∀ (pins : List (Addr × Obj)) (s : Shared) (σ : St) (H : Hp) (x : V) (xs : List V) (v : Value) (us : List Value) (Q : VK), Inv X pins σ H s → RelV x v → Vals xs us → r x xs H Q →
    wpAny (model X.prog X.w) X.A (call (.builtin id) (v :: us)) (EP X pins σ Q) X.xe s
theorem Vals.one {x : V} {us : List Value} (h : Vals [x] us) : ∃ u, us = [u] ∧ RelV x u := by
  cases h with
  | cons r t => cases t; exact ⟨_, rfl, r⟩
section
variable {X : Cx} {pins : List (Addr × Obj)} {σ : St} {H : Hp} {s : Shared} {l b : Addr} {xs ys zs : List V}
theorem Inv.lset {its its' : List Value} {n : Nat} {f : Array Value → Array Value} {t' : Nat} (I : Inv X pins σ H s) (hH : H l = some (.lst xs))
    (e : s.heap.get? l = some { cls := .type "list", data := .seq its.toArray n }) (hf : f its.toArray = its'.toArray) (hv : Vals ys its') (hz : ys.length ≤ sizeLine) :
    Inv X pins σ (upd H l (.lst ys)) { s with heap := s.heap.update l (Obj.mapSeq f), toks := t' } := by
  have q := PySem.IsL.update e f
  rw [hf] at q
  refine I.write (x := l) (e := l) (by rw [hH]; exact trivial) (.inl rfl) (fun b' u hb hu => (Heap.get?_update_other s.heap (Obj.mapSeq f) (Ne.symm hb)).trans hu) ⟨_, q⟩ ?_
  exact ⟨hz, its', _, hv, q⟩
theorem Inv.lnew {its : List Value} {t' : Nat} (I : Inv X pins σ H s) (hv : Vals ys its) (hz : ys.length ≤ sizeLine) :
    Inv X pins σ (upd H s.heap.objs.size (.lst ys)) { s with heap := s.heap.push { cls := .type "list", data := .seq its.toArray }, toks := t' } :=
  I.laid (fun _ _ q => Heap.get?_push_of_some _ q) (Nat.le_refl _) ⟨hz, its, 0, hv, Heap.get?_push_size _ rfl⟩
theorem Inv.fresh (I : Inv X pins σ H s) : H s.heap.objs.size = none := I.hok.fresh (Nat.le_refl _)
theorem Inv.lstM (I : Inv X pins σ H s) (hH : H l = some (.lst xs)) : xs.length ≤ sizeLine ∧ ∃ (its : List Value) (n : Nat), Vals xs its ∧ xs.length = its.length ∧ s.heap.get? l = some { cls := .type "list", data := .seq its.toArray n } := by
  obtain ⟨z, its, n, r, e⟩ := I.hok l _ hH
  exact ⟨z, its, n, r, r.length, e⟩
end
section
variable {X : Cx}
def rAppend : V → List V → Hp → VK → Prop := fun x vs H Q => ∃ l xs y, x = .ref l ∧ vs = [y] ∧ H l = some (.lst xs) ∧ xs.length < sizeLine ∧ Q .non (upd H l (.lst (xs ++ [y])))
theorem mt_append : MtM X "list.append" rAppend := by
  intro pins s σ H x vs v us Q I rx rv h
  obtain ⟨l, xs, y, rfl, rfl, hH, hz, q⟩ := h
  cases rx
  obtain ⟨u, rfl, ru⟩ := rv.one
  obtain ⟨z, its, n, r, hl, e⟩ := I.lstM hH
  refine call_meets F.slot_list_append ⟨_, e, rfl⟩ F.entry_list_append (F.args_list_append_2 _ _) (PySem.list_append l its.toArray n u (by rw [List.size_toArray]; omega)) ⟨e, ?_⟩
  refine ⟨.non, _, I.lset (its' := its ++ [u]) hH e (by simp) (r.append (.cons ru .nil)) ?_, rfl, q⟩
  rw [List.length_append, List.length_singleton]
  omega
def rCat : R2 := fun x y H Q => ∃ l b xs zs, x = .ref l ∧ y = .ref b ∧ H l = some (.lst xs) ∧ H b = some (.lst zs) ∧ xs.length + zs.length ≤ sizeLine ∧ ∀ p, H p = none → Q (.ref p) (upd H p (.lst (xs ++ zs)))
theorem op_cat : OpR X (binaryOp .Add) rCat := by
  intro pins s σ H x y v u Q I rx ry h
  obtain ⟨l, b, xs, zs, rfl, rfl, hH, hB, hz, q⟩ := h
  cases rx
  cases ry
  obtain ⟨z, its, n, r, hl, e⟩ := I.lstM hH
  obtain ⟨z2, its2, n2, r2, hl2, e2⟩ := I.lstM hB
  refine PySem.P.add_list e e2 ?_ (by rw [List.size_toArray, List.size_toArray]; omega)
  have ea : its.toArray ++ its2.toArray = (its ++ its2).toArray := by simp
  rw [ea]
  exact ⟨.ref _, _, I.lnew (t' := s.toks) (r.append r2) (by rw [List.length_append]; omega), rfl, q _ I.fresh⟩
end
section
variable {prog : Program} {w : World} {A : Around} {E : Value → Shared → Prop} {s : Shared}
set_option maxRecDepth 100000 in
end
section
variable {X : Cx}
end
end L2
namespace L2
open PySem PySem.Spec PyProof.Rows
section
variable {κ : Type} [DecidableEq κ]
def valV (kvs : List (κ × V)) (k : κ) : Option V := (kvs.find? fun kv => decide (kv.1 = k)).map (·.2)
def putK (kvs : List (κ × V)) (k : κ) (v : V) : List (κ × V) :=
  if (kvs.any fun kv => decide (kv.1 = k)) = true then kvs.map (fun kv => if kv.1 = k then (kv.1, v) else kv) else kvs ++ [(k, v)]
end
section
variable {P : Program} {w : World} {H : Hp} {h : Heap} {a : Addr}
end
def DGet (H : Hp) (a : Addr) (y : V) (r : Option V) : Prop :=
  (∃ kvs k, Rd H a (.dK kvs) ∧ y = kV k ∧ r = valV kvs k) ∨ ∃ kvs k b, Rd H a (.dT kvs) ∧ y = .ref b ∧ H b = some (.tup (k.map kV)) ∧ r = valV kvs k
def DPut (H : Hp) (a : Addr) (y v : V) (H' : Hp) : Prop :=
  (∃ kvs k, H a = some (.dK kvs) ∧ y = kV k ∧ kvs.length < sizeLine ∧ H' = upd H a (.dK (putK kvs k v))) ∨
  ∃ kvs k b, H a = some (.dT kvs) ∧ y = .ref b ∧ H b = some (.tup (k.map kV)) ∧ kvs.length < sizeLine ∧ H' = upd H a (.dT (putK kvs k v))
section
variable {X : Cx} {pins : List (Addr × Obj)} {σ : St} {H : Hp} {s : Shared} {a : Addr} {y v : V} {u r : Value} {o : Option V} {A : Around} {E : Value → Shared → Prop}
end
section
variable {X : Cx} {pins : List (Addr × Obj)} {σ : St} {H : Hp} {s : Shared} {a : Addr} {kvs : List (Key × V)} {k : Key} {u : Value} {A : Around} {E : Value → Shared → Prop}
end
def tDGet (td ty : TE) : TE := fun σ H Q => td σ H fun x H1 => ty σ H1 fun y H2 => ∃ a v, x = .ref a ∧ DGet H2 a y (some v) ∧ Q v H2
def tDIn (ty td : TE) : TE := fun σ H Q => ty σ H fun y H1 => td σ H1 fun x H2 => ∃ a o, x = .ref a ∧ DGet H2 a y o ∧ Q (.bl o.isSome) H2
def tDNotIn (ty td : TE) : TE := fun σ H Q => ty σ H fun y H1 => td σ H1 fun x H2 => ∃ a o, x = .ref a ∧ DGet H2 a y o ∧ Q (.bl (!o.isSome)) H2
def sDPut (td ty tv : TE) : TS := fun D σ H => tv σ H fun v H1 => td σ H1 fun x H2 => ty σ H2 fun y H3 => ∃ a H4, x = .ref a ∧ DPut H3 a y v H4 ∧ D.nx σ H4
section
variable {X : Cx} {o i e value : Expr} {pos pos' tpos : Pos} {td ty tv : TE}
end
def tDNewK : TE := fun _ H Q => ∀ p, H p = none → Q (.ref p) (upd H p (.dK []))
def tDNewT : TE := fun _ H Q => ∀ p, H p = none → Q (.ref p) (upd H p (.dT []))
section
variable {X : Cx} {pos : Pos}
end
def tPairs : List (TE × TE) → St → Hp → (List (V × V) → Hp → Prop) → Prop
  | [], _, H, Q => Q [] H
  | (tk, tv) :: r, σ, H, Q => tk σ H fun x H1 => tv σ H1 fun y H2 => tPairs r σ H2 fun ps H3 => Q ((x, y) :: ps) H3
abbrev VV : List (V × V) → List (Value × Value) → Prop := Paired fun p q => RelV p.1 q.1 ∧ RelV p.2 q.2
def PPs (X : Cx) (pos : Pos) (keys : List (Option Expr)) (values : List Expr) (trs : List (TE × TE)) : Prop :=
  ∀ (pins : List (Addr × Obj)) (s : Shared) (σ : St) (H : Hp) (Q : List (V × V) → Hp → Prop), Inv X pins σ H s → tPairs trs σ H Q →
    wpAny (model X.prog X.w) X.A (evalPairs (pairTrees keys values X.env pos)) (fun vs s' => ∃ ps H', Inv X pins σ H' s' ∧ VV ps vs ∧ Q ps H') X.xe s
def mergeK (kvs more : List (Key × V)) : List (Key × V) := more.foldl (fun acc kv => putK acc kv.1 kv.2) kvs
def tDisp (trs : List (TE × TE)) : TE := fun σ H Q => ∀ p, H p = none → tPairs trs σ (upd H p (.dK [])) fun ps H2 => H2 p = some (.dK []) ∧ ∃ kvs : List (Key × V), ps = kvs.map (fun kv => (kV kv.1, kv.2)) ∧ kvs.length ≤ 15 ∧ Q (.ref p) (upd H2 p (.dK (mergeK [] kvs)))
section
variable {X : Cx} {pins : List (Addr × Obj)} {σ : St} {H : Hp} {s : Shared} {a : Addr} {y d : V} {u r : Value} {o : Option V} {A : Around} {E : Value → Shared → Prop}
end
section
variable {X : Cx} {o e f : Expr} {apos cpos : Pos} {td ty tx : TE}
end
section
variable {X : Cx} {pins : List (Addr × Obj)} {σ : St} {H : Hp} {s : Shared} {a : Addr} {kvs : List (Key × V)} {A : Around} {E : Value → Shared → Prop}
end
section
variable {X : Cx} {pins : List (Addr × Obj)} {σ : St} {H : Hp} {s : Shared} {a : Addr} {y : V} {u : Value} {A : Around} {E : Value → Shared → Prop}
end
end L2
namespace Att
open PySem PySem.W PySem.Calls PyProof.Rows
theorem ints_of_wellAll {P : Params} {h : Heap} : ∀ (ns : List Int) (vs : List Value), WellAll P h vs (ns.map WData.int) → IntsAre vs ns := by
  intro ns
  induction ns with
  | nil =>
    intro vs w
    rw [List.map_nil] at w
    cases w
    exact .nil
  | cons n ns ih =>
    intro vs w
    rw [List.map_cons] at w
    cases w with
    | cons a b =>
      cases a
      exact .cons _ _ (ih _ b)
theorem script_of {l : OpenLaw} {n : Nat} (hn : l.most = some n) {P : Params} {h : Heap} {args : List WData} {vals : List Value}
    (hpre : l.row.toRowW.claim.pre args = true) (hwl : WellAll P h vals args) :
    ∃ a vs ns, vals = [Value.ref a] ∧ args = [WData.list (ns.map WData.int)] ∧ h.get? a = some { cls := .type "list", data := .seq vs.toArray } ∧ IntsAre vs ns ∧ ns.length ≤ n := by
  have hsh : WShape.hasAll [] args [.list .int] = true := (pre_splitW hpre).1
  have hc : l.pre.holds [] { args := args } = true := (pre_splitW hpre).2
  obtain ⟨d, r, rfl, h1, h2⟩ := hasAllW_cons hsh
  obtain rfl := hasAllW_nil h2
  obtain ⟨xs, rfl, h3⟩ := hasW_list h1
  obtain ⟨ns, rfl⟩ := items_int h3
  have hlen : ns.length ≤ n := by
    unfold OpenLaw.pre at hc
    have h4 : (WTm.not (.lt (.lit (.int (n : Int))) (.len (.arg 0)))).holds [] { args := [.list (ns.map .int)] } = true := by
      have h4 := (holds_andW hc).1
      rw [hn] at h4
      exact h4
    have h5 := condW_of h4 (w_not (w_lt w_lit (w_len_list (w_arg rfl))))
    rw [List.length_map] at h5
    refine Nat.le_of_not_lt fun q => ?_
    have q' : (n : Int) < ((ns.length : Nat) : Int) := by omega
    first
      | (rw [decide_eq_true q'] at h5; exact absurd h5 (by decide))
      | (simp at h5; omega)
  cases hwl with
  | cons w1 w2 =>
    cases w2
    cases w1 with
    | list ho hall => exact ⟨_, _, ns, rfl, rfl, ho, ints_of_wellAll ns _ hall, hlen⟩
theorem post_true (l : OpenLaw) (args : List WData) : l.row.toRowW.claim.post args (.bool true) args = true :=
  postW_of (r := l.row.toRowW) (X := (true == true))
    (show WShape.has [] (.bool true) .bool = true by first | rfl | decide | simp [WShape.has, WShape.arms, WShape.armsAll])
    (show (WTm.eq .res (.lit (.bool true))).value [] { args := args, res := some (.bool true), after := args } = some (.bool (true == true)) from w_eq_bool (w_res rfl) w_lit) rfl
theorem attach_call {l : OpenLaw} {n : Nat} {q : Program} {loose : List Str} {XP : (Str → Option Value) → Heap → Prop} {YP : World → Heap → Prop} {d : DefRec}
    (hn : l.most = some n) (hdf : d.params.defaults = [])
    (call : ∀ (w : World) (s₀ s₁ : Shared) (mg mb : Str → Option Value) (fa : Addr) (o : Obj) (pm cd doc : Value) (a : Addr) (vs : List Value) (ns : List Int),
      Ground q loose [] XP w s₀ mg mb s₁.heap → YP w s₁.heap →
      s₁.heap.get? fa = some o → o.data = .func (docDef d.name d.params d.body d.scope pm cd doc) → s₁.heap.CodeRec cd d.name → mg d.name = some (.ref fa) →
      s₁.heap.get? a = some { cls := .type "list", data := .seq vs.toArray } → IntsAre vs ns → ns.length ≤ n → s₁.gens = #[] →
      codeAny (model l.prog w) callerA (.call (.ref fa) ⟨[.ref a], []⟩) (fun r s' => r = .ok (.ret (.bool true)) ∧ OldK s₁.heap s'.heap ∧ s'.os = s₁.os ∧ AllBare s'.gens) s₁) :
    WalkO q loose XP YP l.row.toRowW d [] (fun f vs => PySem.call f vs) := by
  intro w s₀ s₁ mg mb G Y fa o pm cd doc dV kV ho hd hcd hD hmg hg args vals as hpre hlay hrd hwl hlo
  obtain rfl : dV = .none := Dflts.none hD hdf
  obtain rfl : kV = .none := Dflts.noKw hD
  obtain ⟨a, vs, ns, rfl, rfl, hobj, hints, hlen⟩ := script_of hn hpre hwl
  refine enter_call (codeAny_mono (call w s₀ s₁ mg mb fa o pm cd doc a vs ns G Y ho (fd_plain hd) hcd hmg hobj hints hlen hg) fun r s' hq => ?_)
  obtain ⟨rfl, h2, h3, h4⟩ := hq
  exact ⟨.inl ⟨.bool true, .bool true, [], rfl, fun _ => rfl, .bool true, post_true l _, fun _ => ⟨List.Pairwise.nil, fun _ hm => (nomatch hm)⟩⟩, h2, h3, h4⟩
section
variable {prog : Program} {w : World} {A : Around} {E : Value → Shared → Prop} {s : Shared} {K : Frag}
end
end Att
namespace L2
open PySem PySem.Spec PyProof.Rows
theorem vals_ints : ∀ {vs : List Value} {ns : List Int}, IntsAre vs ns → Vals (ns.map V.int) vs
  | _, _, .nil => .nil
  | _, _, .cons n t h => .cons ⟨t, rfl⟩ (vals_ints h)
def Only (H : Hp) : Prop := ∀ b, H b = none ∨ ∃ o xs, H b = some (.frz o (.lst xs))
theorem law_call {P : Program} {w : World} {K : PySem.W.Frag} {mg mb : Str → Option Value} {CX : CXT} {k : Nat} {fa a : Addr} {fd : FuncData} {x : Str} {sp : Sp} {s₁ : Shared} {vs : List Value} {ns : List Int}
    (KX : K.In s₁.heap) (hns : s₁.heap.Ns mainGlobals mg) (hb : s₁.heap.Ns builtinsNs mb) (hbb : ∀ x : Str, x ≠ "__name__" → mb x = bootBuiltins x) (hlim : s₁.heap.NoLimit) (hg : s₁.gens = #[])
    (ha : s₁.heap.get? a = some { cls := .type "list", data := .seq vs.toArray }) (hi : IntsAre vs ns) (hl : ns.length ≤ sizeLine) (hr : Room k callerA)
    (F : ∀ base : Heap, K.In base → base.Ns mainGlobals mg → FnOk P w K mg base CX k fa fd [x] sp) (hbind : ∀ (s : Shared) (u : Value), BindsTo s fd ⟨[u], []⟩ [(x, u)])
    (hsp : ∀ H : Hp, Only H → SqL K H a (ns.map V.int) → sp [.ref a] H (fun v _ => v = .bl true) fun _ _ _ => False)
    (hCX : ∀ H e s', CX [] H s₁ (fun _ _ _ => False) e s' → False) :
    codeAny (model P w) callerA (.call (.ref fa) ⟨[.ref a], []⟩) (fun r s' => r = .ok (.ret (.bool true)) ∧ OldK s₁.heap s'.heap ∧ s'.os = s₁.os ∧ AllBare s'.gens) s₁ := by
  have rv := vals_ints hi
  have lenV := hi.length
  -- from an abstract heap in which nothing but the script may be tracked
  have core : ∀ H : Hp, Only H → SqL K H a (ns.map V.int) → HOk P w H s₁.heap → (∀ b, H b ≠ none → b = a) → (H a ≠ none → K.lookup a = none) →
      codeAny (model P w) callerA (.call (.ref fa) ⟨[.ref a], []⟩) (fun r s' => r = .ok (.ret (.bool true)) ∧ OldK s₁.heap s'.heap ∧ s'.os = s₁.os ∧ AllBare s'.gens) s₁ := by
    intro H hO hS hok hA hK
    have base_of : ∀ {b : Addr} {o : Obj}, s₁.heap.get? b = some o → H b = none → (hidT s₁.heap H).get? b = some o := fun e n => hidT_get e n
    have noA : ∀ {b : Addr} {o : Obj} {es : Array DictEntry} {ep : Nat}, s₁.heap.get? b = some o → o.data = .dict es ep → H b = none := fun {b o es ep} e d => by
      cases q : H b with
      | none => rfl
      | some u =>
        have e' : b = a := hA b (by rw [q]; simp)
        subst e'
        rw [ha] at e; cases e
        have d' : Data.seq vs.toArray _ = Data.dict es ep := d
        cases d'
    have nsK : ∀ {b : Addr} {m : Str → Option Value}, s₁.heap.Ns b m → (hidT s₁.heap H).Ns b m := fun {b m} ⟨o, es, ep, e, d, r⟩ => ⟨o, es, ep, base_of e (noA e d), d, r⟩
    have hKb : K.In (hidT s₁.heap H) := fun b o e => base_of (KX b o e) (by
      cases q : H b with
      | none => rfl
      | some u =>
        have e' : b = a := hA b (by rw [q]; simp)
        subst e'
        rw [hK (by rw [q]; simp)] at e; cases e)
    have hM : Mod K mg (hidT s₁.heap H) := ⟨hKb, nsK hns, ⟨mb, nsK hb, hbb⟩, let ⟨mc, h1, h2⟩ := hlim; ⟨mc, nsK h1, h2⟩⟩
    have e0 : Env0 P w K mg (hidT s₁.heap H) callerA [] s₁ H := ⟨rfl, hM, fun b o e => of_hidT e, Nat.le_of_eq (hidT_size _ _), trivial, fun b hb => absurd (show b ∈ ([] : List Addr) from hb) (by simp), hok, .of_eq hg⟩
    refine codeAny_mono ((F _ hKb (nsK hns)).run callerA [] s₁ H ⟨[.ref a], []⟩ [.ref a] [.ref a] _ _ hr e0 (hbind s₁ (.ref a)) (.cons rfl .nil) (hsp H hO hS)) fun r s' h => ?_
    cases r with
    | error e => exact (hCX H e s' h).elim
    | ok fl =>
      cases fl with
      | next => exact False.elim h
      | brk => exact False.elim h
      | cont => exact False.elim h
      | ret u =>
        obtain ⟨v, H', os, bare, un, hok', r', q⟩ := h
        have q' : v = .bl true := q
        subst q'
        obtain rfl : u = Value.bool true := r'
        refine ⟨rfl, OldK.of_keep fun b o e => ?_, os, bare⟩
        cases q : H b with
        | none => exact un.keep b o e q (by intro z; exact absurd (show b ∈ ([] : List Addr) from z) (by simp)) (by simp)
        | some u =>
          rcases hO b with z | ⟨ob, xs, z⟩
          · rw [q] at z; cases z
          · have z2 := un.frzs b ob _ z
            obtain ⟨e1, _⟩ := hok b _ z
            obtain ⟨e2, _⟩ := hok' b _ z2
            rw [e] at e1; cases e1
            exact e2
  cases hk : K.lookup a with
  | some o =>
    -- the script is one of the module's own objects
    have e := KX a o hk
    rw [ha] at e
    cases e
    refine core (fun _ => none) (fun _ => .inl rfl) (.inr ⟨_, vs.toArray, _, hk, rfl, rfl, rfl, by rw [List.size_toArray, lenV]; exact hl, by simpa using rv⟩) (fun b u z => by have z' : (none : Option HO) = some u := z; cases z') (fun b z => absurd rfl z) fun z => absurd rfl z
  | none =>
    refine core (fun b => if b = a then some (.frz { cls := .type "list", data := .seq vs.toArray } (.lst (ns.map V.int))) else none) (fun b => ?_) (.inl (.inr ⟨{ cls := .type "list", data := .seq vs.toArray }, if_pos rfl⟩)) (fun b u z => ?_) (fun b z => ?_) fun _ => hk
    · by_cases hb : b = a
      · exact .inr ⟨_, _, if_pos hb⟩
      · exact .inl (if_neg hb)
    · by_cases hb : b = a
      · have z' := (if_pos hb).symm.trans z
        cases z'
        subst hb
        exact ⟨ha, by rw [List.length_map]; exact hl, vs, _, rv, ha⟩
      · have z' := (if_neg hb).symm.trans z
        cases z'
    · by_cases hb : b = a
      · exact hb
      · exact absurd (if_neg hb) z
end L2
namespace L2
open PySem PySem.Spec PyProof.Rows
theorem walk_of {l : PySem.W.OpenLaw} {n k : Nat} {q : Program} {loose : List Str} {XP : (Str → Option Value) → Heap → Prop} {YP : World → Heap → Prop} {d : DefRec} {K : Params → PySem.W.Frag} {CX : World → CXT} {sp : World → Sp} {x : Str}
    (hn : l.most = some n) (hn2 : n ≤ sizeLine) (hdf : d.params.defaults = []) (hr : Room k callerA)
    (hY : ∀ (w : World) (h : Heap), YP w h → (K w.params).In h)
    (F : ∀ (w : World) (mg : Str → Option Value) (fa : Addr) (h : Heap), (K w.params).In h → h.Ns mainGlobals mg → mg d.name = some (.ref fa) →
      ∃ fd : FuncData, (∀ (s : Shared) (u : Value), BindsTo s fd ⟨[u], []⟩ [(x, u)]) ∧
        ∀ base : Heap, (K w.params).In base → base.Ns mainGlobals mg → FnOk l.prog w (K w.params) mg base (CX w) k fa fd [x] (sp w))
    (hsp : ∀ (w : World) (H : Hp) (a : Addr) (ns : List Int), ns.length ≤ n → Only H → SqL (K w.params) H a (ns.map V.int) → sp w [.ref a] H (fun v _ => v = .bl true) fun _ _ _ => False)
    (hCX : ∀ (w : World) (H : Hp) (s : Shared) (e : Value) (s' : Shared), CX w [] H s (fun _ _ _ => False) e s' → False) :
    PySem.W.WalkO q loose XP YP l.row.toRowW d [] (fun f vs => PySem.call f vs) := by
  refine Att.attach_call hn hdf fun w s₀ s₁ mg mb fa o pm cd doc a vs ns G Y ho hd hcd hmg hobj hints hlen hg => ?_
  have KX := hY w _ Y
  obtain ⟨fd, hb, hF⟩ := F w mg fa _ KX G.T.g hmg
  exact law_call KX G.T.g G.T.b G.T.builtins G.T.nolimit hg hobj hints (Nat.le_trans hlen hn2) hr hF hb (fun H hO hS => hsp w H a ns hlen hO hS) fun H e s' => hCX w H s₁ e s'
end L2
namespace L2
open PySem PySem.Spec PyProof.Rows
def inClass (s : Stmt) (j : Nat) : Stmt := match s with
  | .ClassDef _ _ _ body _ _ _ _ _ _ _ => body.getD j (.Pass ⟨0, 0, 0, 0⟩)
  | _ => .Pass ⟨0, 0, 0, 0⟩
def defArgs (s : Stmt) : Arguments := match s with
  | .FunctionDef _ a _ _ _ _ _ _ _ _ => a
  | _ => { posonlyargs := [], args := [], vararg := none, kwonlyargs := [], kw_defaults := [], kwarg := none, defaults := [] }
def defBody (s : Stmt) : List Stmt := match s with
  | .FunctionDef _ _ b _ _ _ _ _ _ _ => b
  | _ => []
def defScope (s : Stmt) : Scope := match s with
  | .FunctionDef _ _ _ _ _ _ sc _ _ _ => sc
  | _ => { kind := .function, names := [], isGenerator := false, isCoroutine := false }
abbrev CX0 : CXT := fun _ _ _ _ _ _ => False
abbrev E0 : XK := fun _ _ _ => False
structure Fun (K : PySem.W.Frag) (x qual : Str) (st : Stmt) (f : Addr) (fd : FuncData) : Prop where
  ex : ∃ (oc : Value) (od : Option Addr) (kV doc pm : Value) (an : Option Addr) (cdv ct : Value) (osl : Array (Option Value)),
    fd = PySem.W.fnOf x qual (defArgs st) (defBody st) (defScope st) .none kV doc pm an cdv ct ∧ K.lookup f = some ⟨oc, od, .func fd, osl⟩ ∧ PySem.W.codeIn K cdv qual = true
  kp : PySem.W.keepIn K (.ref f) = true
section
variable {P : Program} {w : World} {K : PySem.W.Frag} {mg : Str → Option Value} {base : Heap}
theorem Fun.binds {x qual : Str} {st : Stmt} {f : Addr} {fd : FuncData} {ps : List Str} (F : Fun K x qual st f fd)
    (h : ∀ (kV doc pm : Value) (an : Option Addr) (cdv ct : Value) (us : List Value), us.length = ps.length → bindArgs (PySem.W.fnOf x qual (defArgs st) (defBody st) (defScope st) .none kV doc pm an cdv ct) ⟨us, []⟩ = pure (ps.zip us)) : Binds K fd ps [] := by
  obtain ⟨oc, od, kV, doc, pm, an, cdv, ct, osl, rfl, lk, hcd⟩ := F.ex
  exact .all (h kV doc pm an cdv ct)
theorem fun_mk {x qual : Str} {st : Stmt} {f : Addr} {oc : Value} {od an : Option Addr} {osl : Array (Option Value)} {kV doc pm cdv ct : Value} (l : K.lookup f = some ⟨oc, od, .func (PySem.W.fnOf x qual (defArgs st) (defBody st) (defScope st) .none kV doc pm an cdv ct), osl⟩)
    (c : PySem.W.codeIn K cdv qual = true) (k : PySem.W.keepIn K (.ref f) = true) : Fun K x qual st f (PySem.W.fnOf x qual (defArgs st) (defBody st) (defScope st) .none kV doc pm an cdv ct) := ⟨⟨oc, od, kV, doc, pm, an, cdv, ct, osl, rfl, l, c⟩, k⟩
end
section
variable {X : Cx}
theorem pv (i : Nat) {x : Str} {pos : Pos} (hN : X.N[i]? = some x := by rfl) (hv : Vis X.env.scope x := by first | exact Or.inl rfl | exact Or.inr (Or.inl rfl) | exact Or.inr (Or.inr rfl)) (hd : (x == ("__debug__" : Str)) = false := by decide)
    (hcd : (x == ("__classdict__" : Str)) = false := by decide) : PE X (.Name x pos) (tVar i) := pe_var hN hv hd hcd
end
def Same (H H' : Hp) : Prop := ∀ b o, H b = some o → H' b = some o
theorem Same.refl (H : Hp) : Same H H := fun _ _ h => h
theorem Same.trans {H H1 H2 : Hp} (a : Same H H1) (b : Same H1 H2) : Same H H2 := fun c o h => b c o (a c o h)
theorem Same.free {H H' : Hp} (e : Same H H') {l : Addr} (h : H' l = Option.none) : H l = Option.none := by
  cases q : H l with
  | none => rfl
  | some o =>
    rw [e l o q] at h
    cases h
theorem Same.seq {K : PySem.W.Frag} {H H' : Hp} {a : Addr} {xs : List V} (e : Same H H') (h : SqL K H a xs) : SqL K H' a xs := by
  rcases h with (h | ⟨o, h⟩) | h
  · exact .inl (.inl (e _ _ h))
  · exact .inl (.inr ⟨o, e _ _ h⟩)
  · exact .inr h
end L2
namespace L2
open PySem PySem.Spec PyProof.Rows
section
variable {X : Cx}
end
section
variable {κ : Type} [DecidableEq κ]
end
end L2
set_option Elab.async false
set_option linter.all false
set_option maxRecDepth 100000
namespace L2
open PySem PySem.Spec PyProof.Rows
def Cx.comp (X : Cx) (Nc : List Str) (scope : Scope) (cl : List (Str × Addr)) (C : Addr) (s₂ : Shared) (H₁ : Hp) (fp : List Addr) : Cx where
  prog := X.prog
  w := X.w
  K := X.K
  mg := X.mg
  base := X.base
  A := X.A
  N := Nc
  s₀ := s₂
  H₀ := H₁
  env := compEnvC scope cl C X.env
  outer := X.stack
  stack := X.stack
  ex := fp
  fn := fun _ => false
  calm := X.calm
  pn := []
  xe := fun _ _ => False
structure CompTxt (X : Cx) (Nc : List Str) (own : Nat) (js : List Nat) (scope : Scope) (cl : List (Str × Addr)) : Prop where
  clos : closureFor scope X.env = pure cl
  kind : scope.kind = .function
  nocell : ∀ y ∈ scope.names, y.2 ≠ .cell
  names : ∀ y ∈ scope.names, y.2 = .local → scope.names.lookup y.1 = some .local
  cells : ∀ x c, cl.lookup x = some c → X.env.cells.lookup x = some c
  has : ∀ x, ((relabel scope X.env).names.lookup x = some .cell ∨ (relabel scope X.env).names.lookup x = some .free) → ∃ c, cl.lookup x = some c
  len : Nc.length = own + js.length
  outer : ∀ i x, Nc[own + i]? = some x → ∃ j, js[i]? = some j ∧ X.N[j]? = some x ∧ X.env.scope.names.lookup x = some .cell ∧ (relabel scope X.env).names.lookup x = some .cell
def compStart0 (own : Nat) (js : List Nat) (σ : St) : St := List.replicate own none ++ js.map fun j => (σ[j]?).getD none
def tComp (own : Nat) (js : List Nat) (wi : TI) (g : TG) (tc : TT) (te : TE) : TE := fun σ H Q => wi σ H fun J H1 => ∀ p, H1 p = none →
  ∃ W : Nat → Nat → List V → St → Hp → Prop, (∃ m, W 0 m [] (compStart0 own js σ) (upd H1 p (.lst []))) ∧ ∀ i m ys σc Hc, W i m ys σc Hc →
    (J.stop i Hc ∧ Q (.ref p) Hc) ∨ (J.go i Hc ∧ ∀ x H', J.yld i Hc x H' → g x σc H' fun σ2 H2 => tc σ2 H2 fun b H3 =>
      if b = true then te σ2 H3 fun y H4 => H4 p = some (.lst ys) ∧ ys.length < sizeLine ∧ ∃ m', m' < m ∧ W (i + 1) m' (ys ++ [y]) σ2 (upd H4 p (.lst (ys ++ [y])))
      else ∃ m', m' < m ∧ W (i + 1) m' ys σ2 H3)
def PTs (X : Cx) (ifs : List Expr) (t : TT) : Prop :=
  ∀ (pins : List (Addr × Obj)) (s : Shared) (σ : St) (H : Hp) (Q : Bool → Hp → Prop), Inv X pins σ H s → t σ H Q →
    wpAny (model X.prog X.w) X.A (forIn ifs true fun c r => if r = true then do let ok ← isTrue c X.env (eval c X.env); pure (ForInStep.yield ok) else pure (ForInStep.yield r)) (TP X pins σ Q) X.xe s
def tYes : TT := fun _ H Q => Q true H
theorem pts_nil {X : Cx} : PTs X [] tYes := fun pins s σ H Q I h => wpAny_tests_nil ⟨H, I, h⟩
section
variable {prog : Program} {w : World} {A : Around} {E : Value → Shared → Prop} {R : Result → Shared → Prop} {s : Shared}
theorem compLoop_go {elt target iter : Expr} {ifs : List Expr} {scope : Scope} {pos : Pos} {it acc : Value} {env : Env} (I : Nat → Shared → Prop)
    (turn : ∀ n s, I n s → wpAny (model prog w) A (pyNext it) (fun r s₁ => match r with
      | none => R (.ok .next) s₁
      | some v => wpAny (model prog w) A (letOwnedTupleGo target it v) (fun _ s₁' => wpAny (model prog w) A (assign target env v) (fun _ s₂ =>
          wpAny (model prog w) A (forIn ifs true fun c r => if r = true then do let ok ← isTrue c env (eval c env); pure (ForInStep.yield ok) else pure (ForInStep.yield r)) (fun ok s₃ =>
            if ok = true then wpAny (model prog w) A (eval elt env) (fun x s₄ =>
              wpAny (model prog w) A (call (.builtin "list.append") [acc, x]) (fun _ s₅ => ∃ m, m < n ∧ I m s₅) (fun _ _ => False) s₄) (fun _ _ => False) s₃
            else ∃ m, m < n ∧ I m s₃) (fun _ _ => False) s₂) (fun _ _ => False) s₁') (fun _ _ => False) s₁) (fun _ _ => False) s)
    (n : Nat) (h : I n s) :
    codeAny (model prog w) A (.compLoop (.ListComp elt [⟨target, iter, ifs, 0⟩] scope pos) 0 it acc env) R s := by
  refine codeAny_loop rfl I (fun n s hI => ?_) n h
  show wpAny _ A ((compTurn (.ListComp elt [⟨target, iter, ifs, 0⟩] scope pos) 0 it acc env).onRaise (fun x => do noteFrame x env; theTreesLotGoes x)) _ _ s
  refine wpAny_noted ?_
  rw [compTurn_list]
  refine wpAny_bind (wpAny_standAt (wpAny_bind (wpAny_mono (turn n s hI) (fun r s₁ h₁ => ?_) fun _ _ h' => h'.elim)))
  cases r with
  | none => exact wpAny_pure h₁
  | some v =>
    refine wpAny_bind (wpAny_mono h₁ (fun _ s₁' h₁' => ?_) fun _ _ h' => h'.elim)
    refine wpAny_bind (wpAny_mono h₁' (fun _ s₂ h₂ => wpAny_bind (wpAny_mono h₂ (fun ok s₃ h₃ => ?_) fun _ _ h' => h'.elim)) fun _ _ h' => h'.elim)
    cases ok with
    | true =>
      rw [if_pos rfl] at h₃
      simp only [if_true]
      exact wpAny_bind (wpAny_bind (wpAny_mono h₃ (fun x s₄ h₄ => wpAny_bind (wpAny_mono h₄ (fun _ s₅ h₅ => wpAny_pure (wpAny_pure ⟨rfl, h₅⟩)) fun _ _ h' => h'.elim)) fun _ _ h' => h'.elim))
    | false =>
      rw [if_neg Bool.false_ne_true] at h₃
      simp only [Bool.false_eq_true, if_false]
      first
        | exact wpAny_pure ⟨rfl, h₃⟩
        | exact wpAny_bind (wpAny_pure (wpAny_pure ⟨rfl, h₃⟩))
end
end L2
set_option Elab.async false
set_option linter.all false
set_option maxRecDepth 100000
namespace L2
open PySem PySem.Spec PyProof.Rows
section
variable {X : Cx} {Nc : List Str} {own : Nat} {js : List Nat} {scope : Scope} {cl : List (Str × Addr)}
theorem comp_ok {pins : List (Addr × Obj)} {σ : St} {H₁ : Hp} {s₂ : Shared} {C : Addr} {fp : List Addr} (T : CompTxt X Nc own js scope cl) (I : Inv X pins σ H₁ s₂) (hC : s₂.heap.objs.size ≤ C)
    (f1 : ∀ b ∈ fp, FpOk X pins H₁ b) (hlt : ∀ b ∈ fp, b < s₂.heap.objs.size) : (X.comp Nc scope cl C s₂ H₁ fp).Ok where
  mod := I.ok.mod
  kind := by show (relabel scope X.env).kind = _; exact T.kind
  glob := I.ok.glob
  blt := I.ok.blt
  above := hC
  inj := fun x y c h1 h2 => I.ok.inj x y c (T.cells x c h1) (T.cells y c h2)
  has := fun x h => T.has x h
  cab := fun x c h => by cases h
  hd := I.ok.hd
  frames := I.ok.frames
  stk := .inl rfl
  exf := fun b hb => ⟨Nat.ne_of_lt (Nat.lt_of_lt_of_le (hlt b hb) hC), fun x c h => (f1 b hb).2.2.2.2.1 x c (T.cells x c h)⟩
  bs := I.bs
  bsz := Nat.le_trans I.ok.bsz I.sz
  noex := fun b o e hb => by
    rcases (f1 b hb).2.2.2.1 with z | z
    · exact I.ok.noex b o e z
    · exact absurd (Nat.lt_of_lt_of_le (Heap.lt_size (I.ok.bs b o e).1) z) (Nat.lt_irrefl _)
  exfs := fun b hb hs => by
    rcases List.mem_cons.mp (I.stkSub b hs) with z | z
    · exact (f1 b hb).2.1 z
    · exact (f1 b hb).2.2.1 z
  funs := I.stack
  frf := I.stkFree
theorem comp_inv {pins : List (Addr × Obj)} {σ : St} {H₁ : Hp} {s₂ : Shared} {C D : Addr} {fp : List Addr} {h₁ : Heap} {t : Nat} {m : Str → Option Value} (T : CompTxt X Nc own js scope cl) (I : Inv X pins σ H₁ s₂) (hC : s₂.heap.objs.size ≤ C)
    (hD : s₂.heap.objs.size ≤ D) (hDC : D ≠ C) (f1 : ∀ b ∈ fp, FpOk X pins H₁ b) (hlt : ∀ b ∈ fp, b < s₂.heap.objs.size) (old : ∀ b o, s₂.heap.get? b = some o → h₁.get? b = some o) (hns : h₁.Ns C m)
    (hacc : ∃ n, h₁.get? D = some { cls := .type "list", data := .seq ([] : List Value).toArray n }) :
    Inv (X.comp Nc scope cl C s₂ H₁ fp) [] (compStart0 own js σ) (upd H₁ D (.lst [])) { s₂ with heap := h₁, toks := t } := by
  obtain ⟨na, hacc⟩ := hacc
  have cellK : ∀ c v, s₂.heap.IsCell c v → h₁.IsCell c v := fun c v ⟨o, ho, hd⟩ => ⟨o, old c o ho, hd⟩
  refine ⟨comp_ok T I hC f1 hlt, rfl, I.bare, Un.laid old hD (I.hok.fresh hD), ⟨m, hns, fun i x v e1 e2 e3 => ?_⟩, fun x c e => ?_, ?_, fun x c e => ?_, fun p hp => (by cases hp), I.hok.laid old hD ?_, ?_⟩
  · have hN : Nc[i]? = some x := e1
    have hσ : (compStart0 own js σ)[i]? = some (some v) := e2
    unfold compStart0 at hσ
    by_cases hi : i < own
    · rw [List.getElem?_append_left (by simpa using hi), List.getElem?_replicate] at hσ
      simp [hi] at hσ
    · obtain ⟨k, rfl⟩ : ∃ k, i = own + k := ⟨i - own, by omega⟩
      rw [List.getElem?_append_right (by simp)] at hσ
      simp only [List.length_replicate, Nat.add_sub_cancel_left, List.getElem?_map] at hσ
      obtain ⟨j, hj, hx, hk, hr⟩ := T.outer k x hN
      rw [hj] at hσ
      replace hσ : some (σ[j]?.getD none) = some (some v) := hσ
      have hσj : σ[j]? = some (some v) := by
        cases q : σ[j]? with
        | none => rw [q] at hσ; simp at hσ
        | some y => rw [q] at hσ; simpa using hσ
      obtain ⟨m0, hn0, hl0⟩ := I.loc
      obtain ⟨u, ru, lk⟩ := hl0 j x v hx hσj (.inr (.inl hk))
      refine ⟨u, ru, .inr ⟨.inl hr, ?_⟩⟩
      rcases lk with ⟨z, _⟩ | ⟨_, c, hc, hcell⟩
      · have z' : X.env.scope.names.lookup x = some .local := z
        rw [hk] at z'; cases z'
      · obtain ⟨c', hc'⟩ := T.has x (.inl hr)
        have := T.cells x c' hc'
        rw [hc] at this; cases this
        exact ⟨c, hc', cellK c _ hcell⟩
  · obtain ⟨v, z⟩ := I.cell x c (T.cells x c e)
    exact ⟨v, cellK c v z⟩
  · show upd H₁ D (.lst []) C = none
    rw [upd_ne (Ne.symm hDC)]
    exact I.hok.fresh hC
  · have e' := T.cells x c e
    obtain ⟨v, o, ho, _⟩ := I.cell x c e'
    rw [upd_ne (Nat.ne_of_lt (Nat.lt_of_lt_of_le (Heap.lt_size ho) hD))]
    exact I.freeC x c e'
  · exact ⟨Nat.zero_le _, [], na, .nil, hacc⟩
  · show (compStart0 own js σ).length = Nc.length
    rw [T.len]
    simp [compStart0]
theorem comp_back {pins : List (Addr × Obj)} {σ σc : St} {H₁ H' : Hp} {s₂ s' : Shared} {C : Addr} {fp : List Addr} {h' : Heap} (I : Inv X pins σ H₁ s₂) (hC : s₂.heap.objs.size ≤ C)
    (f1 : ∀ b ∈ fp, FpOk X pins H₁ b) (I' : Inv (X.comp Nc scope cl C s₂ H₁ fp) [] σc H' s') (hs : Heap.SameBut C s'.heap h') : Inv X pins σ H' { s' with heap := h' } := by
  have u : Un (frs X.stack) fp H₁ H' s₂.heap s'.heap := I'.base
  have ne : ∀ b o, s₂.heap.get? b = some o → b ≠ C := fun b o e => Nat.ne_of_lt (Nat.lt_of_lt_of_le (Heap.lt_size e) hC)
  have k : ∀ b o, b ≠ C → s'.heap.get? b = some o → h'.get? b = some o := fun b o n e => hs.extBut b o n e
  have u' : Un (frs X.stack) fp H₁ H' s₂.heap h' := ⟨fun b o e n hb hx => k b o (ne b o e) (u.keep b o e n hb hx), fun b o e n hb hx => let ⟨sl, q⟩ := u.slot b o e n hb hx; ⟨sl, k b _ (ne b o e) q⟩,
    u.free, fun b o e hx => let ⟨o', q⟩ := u.there b o e hx; ⟨o', k b o' (ne b o e) q⟩, u.tups, u.frzs, u.tbls⟩
  have hfree : H' C = none := I'.free
  have hok' : HOk X.prog X.w H' h' := fun a o e => (I'.hok a o e).stay (fun b v hb q => k b v (fun z => by
    rcases hb with y | y
    · rw [y] at z; rw [z, hfree] at e; cases e
    · rw [z, hfree] at y; cases y) q) (fun _ q => q) fun _ _ q => q
  exact I.call' (s' := { s' with heap := h' }) (ch := fp) I'.os u' hok' I'.bare fun b hb => ⟨(f1 b hb).2.2.2.1, (f1 b hb).2.1, (f1 b hb).2.2.2.2.1, (f1 b hb).2.2.2.2.2⟩
end
end L2
set_option Elab.async false
set_option linter.all false
set_option maxRecDepth 100000
namespace L2
open PySem PySem.Spec PyProof.Rows
section
variable {X : Cx}
def rIsinst (K : PySem.W.Frag) : List V → Hp → VK → Prop := fun xs H Q => ∃ x c t b, xs = [x, c] ∧ TyOf K H x t ∧ (∀ cv, RelV c cv → PySem.W.kitOne K t cv = some b) ∧ Q (.bl b) H
theorem call_isinst : CallR X (.builtin "isinstance") (rIsinst X.K) := by
  intro pins s σ H xs us Q I r h
  obtain ⟨x, c, t, b, rfl, ty, hk, q⟩ := h
  obtain ⟨u, cv, rfl, ru, rc⟩ := vals2 r
  exact isinst_ok I ru ty (hk cv rc) fun tk => ⟨.bl b, H, I.tok tk, rfl, q⟩
end
mutual
inductive Deep (K : PySem.W.Frag) (H : Hp) : V → PyData → Prop
  | non : Deep K H .non .none
  | bl (b : Bool) : Deep K H (.bl b) (.bool b)
  | int (i : Int) : Deep K H (.int i) (.int i)
  | lst {a : Addr} {xs : List V} {ds : List PyData} : SqL K H a xs → DeepAll K H xs ds → Deep K H (.ref a) (.list ds)
  | tup {a : Addr} {xs : List V} {ds : List PyData} : SqT K H a xs → DeepAll K H xs ds → Deep K H (.ref a) (.tuple ds)
inductive DeepAll (K : PySem.W.Frag) (H : Hp) : List V → List PyData → Prop
  | nil : DeepAll K H [] []
  | cons {x : V} {d : PyData} {xs : List V} {ds : List PyData} : Deep K H x d → DeepAll K H xs ds → DeepAll K H (x :: xs) (d :: ds)
end
mutual
theorem Deep.reads {X : Cx} {pins : List (Addr × Obj)} {σ : St} {H : Hp} {s : Shared} (I : Inv X pins σ H s) : ∀ {x : V} {d : PyData} {u : Value}, Deep X.K H x d → RelV x u → (∃ as, Reads s.heap u d as) ∧ d.canLay0 = true
  | _, _, _, .non, r => by cases (show _ = Value.none from r); exact ⟨⟨_, .none⟩, by simp [PyData.canLay0]⟩
  | _, _, _, .bl b, r => by cases (show _ = Value.bool b from r); exact ⟨⟨_, .bool b⟩, by simp [PyData.canLay0]⟩
  | _, _, _, .int i, r => by obtain ⟨t, e⟩ := (show ∃ t, _ = Value.int i t from r); cases e; exact ⟨⟨_, .int i t⟩, by simp [PyData.canLay0]⟩
  | _, _, _, .lst (a := a) h hs, r => by
    cases (show _ = Value.ref a from r)
    obtain ⟨its, rv, ⟨o, n, e, c, _, dd⟩, hz⟩ := I.list h
    obtain ⟨⟨as, ra⟩, cl⟩ := DeepAll.reads I hs rv
    exact ⟨⟨_, .list e c dd (by simpa using ra)⟩, by simpa [PyData.canLay0] using cl⟩
  | _, _, _, .tup (a := a) h hs, r => by
    cases (show _ = Value.ref a from r)
    obtain ⟨its, rv, ⟨o, e, c, n, dd⟩, hz⟩ := I.tuple h
    obtain ⟨⟨as, ra⟩, cl⟩ := DeepAll.reads I hs rv
    exact ⟨⟨_, .tuple e c dd (by simpa using ra)⟩, by simpa [PyData.canLay0] using cl⟩
theorem DeepAll.reads {X : Cx} {pins : List (Addr × Obj)} {σ : St} {H : Hp} {s : Shared} (I : Inv X pins σ H s) : ∀ {xs : List V} {ds : List PyData} {us : List Value}, DeepAll X.K H xs ds → Vals xs us → (∃ as, ReadsAll s.heap us ds as) ∧ PyData.canLayAll0 ds = true
  | _, _, _, .nil, .nil => ⟨⟨_, .nil⟩, by simp [PyData.canLayAll0]⟩
  | _, _, _, .cons h hs, .cons r rs => by
    obtain ⟨⟨as, ra⟩, c1⟩ := Deep.reads I h r
    obtain ⟨⟨bs, rb⟩, c2⟩ := DeepAll.reads I hs rs
    exact ⟨⟨_, .cons ra rb⟩, by simp [PyData.canLayAll0, c1, c2]⟩
end
section
variable {X : Cx}
def rNeD (K : PySem.W.Frag) : R2 := fun x y H Q => ∃ d e, Deep K H x d ∧ Deep K H y e ∧ d.depth ≤ 40 ∧ Q (.bl (!PyData.eqv d e)) H
theorem op_neD (hu : X.A.units + 64 < cLine) : OpR X (compareOp .NotEq) (rNeD X.K) := by
  intro pins s σ H x y v u Q I rx ry h
  obtain ⟨d, e, hd, he, hp, q⟩ := h
  obtain ⟨⟨as, ra⟩, ca⟩ := hd.reads I rx
  obtain ⟨⟨bs, rb⟩, cb⟩ := he.reads I ry
  exact PySem.SeqAt.compareNe_reads ra rb ca cb (by omega) ⟨.bl _, H, I, rfl, q⟩
end
end L2
set_option Elab.async false
set_option linter.all false
set_option maxRecDepth 100000
namespace L2
open PySem PySem.Spec PyProof.Rows
section
variable {P : Program} {w : World} {A : Around} {E : Value → Shared → Prop} {s : Shared}
end
end L2
set_option Elab.async false
set_option linter.all false
set_option maxRecDepth 100000
namespace L2
open PySem PySem.Spec PyProof.Rows
section
variable {P : Program} {w : World} {A : Around} {E : Value → Shared → Prop} {s : Shared} {l1 l2 : Addr} {ob1 ob2 : Obj} {src1 src2 : Heap → Array Value → Prop} {at1 at2 : Addr → Nat → Heap → Prop}
end
def SqX (K : PySem.W.Frag) : Bool → Hp → Addr → List V → Prop
  | true, H, a, xs => SqL K H a xs
  | false, H, a, xs => SqT K H a xs
def Itz (K : PySem.W.Frag) (c d : Bool) (a b : Addr) : It :=
  ⟨fun i H => ∃ xs ys x y, SqX K c H a xs ∧ SqX K d H b ys ∧ xs[i]? = some x ∧ ys[i]? = some y,
   fun i H v H' => ∃ p x y, H p = none ∧ v = .ref p ∧ H' = upd H p (.tup [x, y]) ∧ (∀ xs, SqX K c H a xs → xs[i]? = some x) ∧ ∀ ys, SqX K d H b ys → ys[i]? = some y,
   fun i H => ∃ xs ys, SqX K c H a xs ∧ SqX K d H b ys ∧ (xs.length ≤ i ∨ ys.length ≤ i)⟩
end L2
set_option Elab.async false
set_option linter.all false
set_option maxRecDepth 100000
namespace L2
open PySem PySem.Spec PyProof.Rows
section
variable {X : Cx} {pins : List (Addr × Obj)} {σ : St} {H H2 : Hp} {s s2 : Shared} {a : Addr} {o : HO}
end
section
variable {P : Program} {w : World} {A : Around} {E : Value → Shared → Prop} {s : Shared}
end
end L2
set_option Elab.async false
set_option linter.all false
set_option maxRecDepth 100000
namespace L2
open PySem PySem.Spec PyProof.Rows
section
variable {P : Program} {w : World} {A : Around} {E : Value → Shared → Prop} {s : Shared} {R : Result → Shared → Prop}
end
section
variable {X : Cx} {e : Expr} {te : TE} {p1 p2 pos pos2 : Pos}
end
end L2
set_option Elab.async false
set_option linter.all false
set_option maxRecDepth 100000
namespace L2
open PySem PySem.Spec PyProof.Rows
section
variable {X : Cx}
def iZip (K : PySem.W.Frag) (c d : Bool) (ta : TA) : TI := fun σ H R => ta σ H fun vs H1 => ∃ a b, vs = [.ref a, .ref b] ∧ (∃ xs, SqX K c H1 a xs) ∧ (∃ ys, SqX K d H1 b ys) ∧ R (Itz K c d a b) H1
end
end L2
set_option linter.all false
namespace Pb
structure Road where
  a : Int
  b : Int
  t : Int
  u : Int
  deriving DecidableEq
def below (n : Nat) : List Int := (List.range n).map fun (k : Nat) => (k : Int)
end Pb
set_option linter.all false
namespace Pb
section
variable {m : Int} {row : List Int} {rs rs' : List Road}
end
end Pb
set_option Elab.async false
set_option linter.all false
set_option maxRecDepth 100000
namespace L2
open PySem PySem.Spec PyProof.Rows
def Quiet (CX : CXT) : Prop := ∀ outer H s e s', ¬ CX outer H s E0 e s'
theorem passQ {CX : CXT} (q : Quiet CX) {X : Cx} : Passes CX X E0 := fun _ _ _ _ _ _ _ h => (q _ _ _ _ _ h).elim
structure Df (K : PySem.W.Frag) (mg : Str → Option Value) (x : Str) (st : Stmt) (ps : List Str) (f : Addr) (fd : FuncData) : Prop where
  F : Fun K x x st f fd
  m : mg x = some (.ref f)
  b : Binds K fd ps []
section
variable {P : Program} {w : World} {K : PySem.W.Frag} {mg : Str → Option Value} {base : Heap} {CX : CXT}
theorem Fun.okC {x qual : Str} {st : Stmt} {f : Addr} {fd : FuncData} {N ps : List Str} {k : Nat} {sp : Sp} (F : Fun K x qual st f fd) (S : FnScope N ps (defScope st)) (len : ∀ vs H Q E, sp vs H Q E → vs.length = ps.length)
    (hbody : ∀ (cdv : Value) (A : Around) (outer : List Env) (s : Shared) (H : Hp) (vs : List V) (Q : VK) (E : XK), Room k (A.deeper (envOfC qual (defScope st) s.heap.objs.size f cdv)) → sp vs H Q E →
      ∃ t, PSs (cxOf CX P w K mg base N qual (defScope st) f cdv A outer s H E).nox (defBody st) t ∧ t { nx := fun _ H' => Q .non H', rt := Q } (start N vs) H) : FnOk P w K mg base CX (k + 1) f fd ps sp := by
  obtain ⟨oc, od, kV, doc, pm, an, cdv, ct, osl, rfl, lk, hcd⟩ := F.ex
  refine fn_of lk hcd S len fun A outer s H vs Q E hr hsp => ?_
  obtain ⟨t, h, q⟩ := hbody cdv A outer s H vs Q E hr hsp
  exact ⟨t, h.nox, q⟩
end
structure NmL (sc : Scope) (x : Str) : Prop where
  l : sc.names.lookup x = some .local
  d : (x == ("__debug__" : Str)) = false
  c : (x == ("__classdict__" : Str)) = false
structure NmC (sc : Scope) (x : Str) : Prop where
  l : sc.names.lookup x = some .cell
  d : (x == ("__debug__" : Str)) = false
  c : (x == ("__classdict__" : Str)) = false
structure NmG (sc : Scope) (x : Str) : Prop where
  g : sc.names.lookup x = some .globalImplicit
  d : (x == ("__debug__" : Str)) = false
  n : x ≠ "__name__"
theorem us1 {us : List Value} (h : us.length = 1) : ∃ a0, us = [a0] := List.length_eq_one_iff.mp h
theorem us2 {us : List Value} (h : us.length = 2) : ∃ a0 a1, us = [a0, a1] := by
  cases us with
  | nil => cases h
  | cons a0 t =>
    obtain ⟨a1, e⟩ := us1 (Nat.succ.inj h)
    subst e
    exact ⟨a0, a1, rfl⟩
def nmL (sc : Scope) (x : Str) : Bool := decide (sc.names.lookup x = some .local) && !(x == ("__debug__" : Str)) && !(x == ("__classdict__" : Str))
def nmC (sc : Scope) (x : Str) : Bool := decide (sc.names.lookup x = some .cell) && !(x == ("__debug__" : Str)) && !(x == ("__classdict__" : Str))
def nmG (sc : Scope) (x : Str) : Bool := decide (sc.names.lookup x = some .globalImplicit) && !(x == ("__debug__" : Str)) && !decide (x = "__name__")
theorem NmL.of {sc : Scope} {x : Str} (h : nmL sc x = true) : NmL sc x := by
  unfold nmL at h
  simp only [Bool.and_eq_true, decide_eq_true_eq, Bool.not_eq_true'] at h
  exact ⟨h.1.1, h.1.2, h.2⟩
theorem NmC.of {sc : Scope} {x : Str} (h : nmC sc x = true) : NmC sc x := by
  unfold nmC at h
  simp only [Bool.and_eq_true, decide_eq_true_eq, Bool.not_eq_true'] at h
  exact ⟨h.1.1, h.1.2, h.2⟩
theorem NmG.of {sc : Scope} {x : Str} (h : nmG sc x = true) : NmG sc x := by
  unfold nmG at h
  simp only [Bool.and_eq_true, decide_eq_true_eq, Bool.not_eq_true', decide_eq_false_iff_not] at h
  exact ⟨h.1.1, h.1.2, h.2⟩
def scOk (N ps : List Str) (sc : Scope) : Bool := decide (sc.kind = .function) && !sc.isCoroutine && !sc.isGenerator && decide N.Nodup && decide (N.take ps.length = ps) && (ps.all fun x => decide (sc.names.lookup x = some .local ∨ sc.names.lookup x = some .cell)) && (sc.names.all fun y => decide (y.2 ≠ .free))
theorem FnScope.of {N ps : List Str} {sc : Scope} (h : scOk N ps sc = true) : FnScope N ps sc := by
  unfold scOk at h
  simp only [Bool.and_eq_true, decide_eq_true_eq, Bool.not_eq_true', List.all_eq_true] at h
  obtain ⟨⟨⟨⟨⟨⟨h1, h2⟩, h3⟩, h4⟩, h5⟩, h6⟩, h7⟩ := h
  exact ⟨h1, h2, h3, h4, h5, h6, h7⟩
theorem pvl {X : Cx} (i : Nat) {x : Str} {pos : Pos} (n : NmL X.env.scope x) (hN : X.N[i]? = some x := by rfl) : PE X (.Name x pos) (tVar i) := pe_var hN (.inl n.l) n.d n.c
theorem pvc {X : Cx} (i : Nat) {x : Str} {pos : Pos} (n : NmC X.env.scope x) (hN : X.N[i]? = some x := by rfl) : PE X (.Name x pos) (tVar i) := pe_var hN (.inr (.inl n.l)) n.d n.c
theorem cxOf_K {CX : CXT} {P : Program} {w : World} {K : PySem.W.Frag} {mg : Str → Option Value} {base : Heap} {N : List Str} {qual : Str} {scope : Scope} {f : Addr} {cd : Value} {A : Around} {outer : List Env} {s : Shared} {H : Hp} {E : XK} :
    (cxOf CX P w K mg base N qual scope f cd A outer s H E).K = K := rfl
theorem tNever_eq (D : Ends) (σ : St) (H : Hp) : tNever D σ H = False := rfl
theorem scal_ii (i j : Int) : scal (.int i) (.int j) = true := rfl
theorem scal_bb (i j : Bool) : scal (.bl i) (.bl j) = true := rfl
theorem scal_in (i : Int) : scal (.int i) .non = true := rfl
theorem scal_ni (i : Int) : scal .non (.int i) = true := rfl
theorem scal_nn : scal .non .non = true := rfl
theorem scal_ss (i j : Str) : scal (.str i) (.str j) = true := rfl
theorem ixL {K : PySem.W.Frag} {H : Hp} {p : Addr} {xs : List V} {i : Int} {v : V} {Q : VK} (h : H p = some (.lst xs)) (e : atI xs i = some v) (q : Q v H) : rIxL K (.ref p) (.int i) H Q := ⟨p, xs, i, v, rfl, rfl, SqL.of h, e, q⟩
theorem small {n : Nat} (h : n ≤ 100000) : n < sizeLine := Nat.lt_of_le_of_lt h (by decide)
theorem smallE {n : Nat} (h : n ≤ 100000) : n ≤ sizeLine := Nat.le_of_lt (small h)
def Itx (K : PySem.W.Frag) : Bool → Addr → It
  | true, a => Itl K a
  | false, a => Itt K a
def iAny (K : PySem.W.Frag) (c : Bool) (tl : TE) : TI := fun σ H R => tl σ H fun x H1 => ∃ a, x = .ref a ∧ (∃ xs, SqX K c H1 a xs) ∧ R (Itx K c a) H1
def CompGo (J : It) (p : Addr) (Q : VK) (g : TG) (tc : TT) (te : TE) (σ0 : St) (H0 : Hp) : Prop :=
  ∃ W : Nat → Nat → List V → St → Hp → Prop, (∃ m, W 0 m [] σ0 H0) ∧ ∀ i m ys σc Hc, W i m ys σc Hc →
    (J.stop i Hc ∧ Q (.ref p) Hc) ∨ (J.go i Hc ∧ ∀ x H', J.yld i Hc x H' → g x σc H' fun σ2 H2 => tc σ2 H2 fun b H3 =>
      if b = true then te σ2 H3 fun y H4 => H4 p = some (.lst ys) ∧ ys.length < sizeLine ∧ ∃ m', m' < m ∧ W (i + 1) m' (ys ++ [y]) σ2 (upd H4 p (.lst (ys ++ [y])))
      else ∃ m', m' < m ∧ W (i + 1) m' ys σ2 H3)
theorem tComp_eq' {own : Nat} {js : List Nat} {wi : TI} {g : TG} {tc : TT} {te : TE} {σ : St} {H : Hp} {Q : VK} : tComp own js wi g tc te σ H Q = wi σ H fun J H1 => ∀ p, H1 p = none → CompGo J p Q g tc te (compStart0 own js σ) (upd H1 p (.lst [])) := rfl
def ForGo (J : It) (D : Ends) (g : TG) (tb : TS) (σ : St) (H : Hp) : Prop := ∃ W : Nat → Nat → St → Hp → Prop, (∃ m, W 0 m σ H) ∧ ∀ i m σ H, W i m σ H →
  (J.stop i H ∧ D.nx σ H) ∨ (J.go i H ∧ ∃ N : St → Hp → Prop, (∀ σ' H', N σ' H' → ∃ m', m' < m ∧ W (i + 1) m' σ' H') ∧ ∀ x H', J.yld i H x H' → g x σ H' fun σ2 H2 => tb { D with nx := N, ct := N, bk := D.nx } σ2 H2)
theorem tFor_eq {wi : TI} {g : TG} {tb : TS} {D : Ends} {σ : St} {H : Hp} : tFor wi g tb D σ H = wi σ H fun J H1 => ForGo J D g tb σ H1 := rfl
theorem comp_range {lo : Int} {n : Nat} {p : Addr} {Q : VK} {g : TG} {tc : TT} {te : TE} {σ0 : St} {H0 : Hp} (Pv : Nat → List V → St → Hp → Prop) (h0 : Pv 0 [] σ0 H0)
    (hs : ∀ (i : Nat) (ys : List V) (σ : St) (H : Hp) (N : List V → St → Hp → Prop), (∀ ys' σ' H', Pv (i + 1) ys' σ' H' → N ys' σ' H') → i < n → Pv i ys σ H → g (.int (lo + i)) σ H fun σ2 H2 => tc σ2 H2 fun b H3 =>
      if b = true then te σ2 H3 fun y H4 => H4 p = some (.lst ys) ∧ ys.length < sizeLine ∧ N (ys ++ [y]) σ2 (upd H4 p (.lst (ys ++ [y]))) else N ys σ2 H3)
    (hd : ∀ ys σ H, Pv n ys σ H → Q (.ref p) H) : CompGo (Itr lo n) p Q g tc te σ0 H0 := by
  refine ⟨fun i m ys σ H => m = n - i ∧ i ≤ n ∧ Pv i ys σ H, ⟨n, by simp, Nat.zero_le _, h0⟩, ?_⟩
  rintro i m ys σ H ⟨rfl, hi, pv⟩
  by_cases hlt : i < n
  · refine .inr ⟨hlt, fun x H' y => ?_⟩
    obtain ⟨rfl, rfl⟩ := y
    exact hs i ys σ _ (fun ys' σ' H' => ∃ m', m' < n - i ∧ (m' = n - (i + 1) ∧ i + 1 ≤ n ∧ Pv (i + 1) ys' σ' H')) (fun ys' σ' H' pv' => ⟨n - (i + 1), by omega, rfl, hlt, pv'⟩) hlt pv
  · have e : i = n := by omega
    subst e
    exact .inl ⟨Nat.le_refl _, hd ys σ H pv⟩
theorem pb_isinstance : bootBuiltins "isinstance" = some (.builtin "isinstance") := by decide +kernel
theorem pb_int : bootBuiltins "int" = some (.type "int") := by decide +kernel
theorem pb_bool : bootBuiltins "bool" = some (.type "bool") := by decide +kernel
section
variable {X : Cx} {a b o e : Expr} {es : List Expr} {ta tb to : TE} {t : TA} {pos apos cpos : Pos} {f name : Str} {T id : String} {r : V → List V → Hp → VK → Prop}
end
theorem for_listN {K : PySem.W.Frag} {a : Addr} {xs : List V} {g : TG} {tb : TS} {D : Ends} {σ : St} {H : Hp} (Pv : Nat → St → Hp → Prop) (h0 : Pv 0 σ H) (hl : ∀ i σ H, i ≤ xs.length → Pv i σ H → SqL K H a xs)
    (hs : ∀ (i : Nat) (x : V) (σ : St) (H : Hp) (N : St → Hp → Prop), (∀ σ' H', Pv (i + 1) σ' H' → N σ' H') → xs[i]? = some x → Pv i σ H → g x σ H fun σ2 H2 => tb { D with nx := N, ct := N, bk := D.nx } σ2 H2) (hd : ∀ σ H, Pv xs.length σ H → D.nx σ H) :
    ForGo (Itl K a) D g tb σ H := for_list Pv h0 hl (fun i x σ H hx p => hs i x σ H (Pv (i + 1)) (fun _ _ z => z) hx p) hd
theorem for_rangeN {lo : Int} {n : Nat} {g : TG} {tb : TS} {D : Ends} {σ : St} {H : Hp} (Pv : Nat → St → Hp → Prop) (h0 : Pv 0 σ H)
    (hs : ∀ (i : Nat) (σ : St) (H : Hp) (N : St → Hp → Prop), (∀ σ' H', Pv (i + 1) σ' H' → N σ' H') → i < n → Pv i σ H → g (.int (lo + i)) σ H fun σ2 H2 => tb { D with nx := N, ct := N, bk := D.nx } σ2 H2) (hd : ∀ σ H, Pv n σ H → D.nx σ H) :
    ForGo (Itr lo n) D g tb σ H := for_range Pv h0 (fun i σ H hi p => hs i σ H (Pv (i + 1)) (fun _ _ z => z) hi p) hd
open Pb
theorem Same.new {H : Hp} {p : Addr} (o : HO) (h : H p = none) : Same H (upd H p o) := fun b u e => by rw [upd_ne (ne_of_none e h)]; exact e
end L2
set_option Elab.async false
set_option linter.all false
set_option maxRecDepth 100000
namespace L2
open PySem PySem.Spec PyProof.Rows
abbrev bmV : List Value := [.type "ValueError", .type "Exception", .type "BaseException", .type "object"]
structure XCls (K : PySem.W.Frag) (C : Addr) : Prop where
  ty : PySem.W.typeIn K (.ref C) = some (.type "type")
  ga : PySem.W.findIn K (.ref C) "__getattribute__" = some (some (.builtin "BaseException.__getattribute__"))
  gt : PySem.W.findIn K (.ref C) "__getattr__" = some none
  cl : PySem.W.findIn K (.ref C) "__class__" = some (some (.builtin "object.__class__"))
  gs : PySem.W.specialIn K (.builtin "object.__class__") "__get__" = some (some (.builtin "getset_descriptor.__get__"))
  tk : PySem.W.takesIn K (.builtin "object.__class__") = some true
  mo : PySem.W.mroIn K C (.type "object") = some true
  mb : PySem.W.mroIn K C (.type "BaseException") = some true
  hd : PySem.W.hasDictIn K C = true
  sf : PySem.W.mroIn K C (.ref C) = some true
theorem exc_found {K : PySem.W.Frag} {C : Addr} {od : Option Obj} {name : Str} {a g : Value} (hc : (PySem.W.clsIn K C).isSome = true) (ha : PySem.W.findIn K (.ref C) name = some (some a)) (hg : PySem.W.specialIn K a "__get__" = some (some g)) (ht : PySem.W.takesIn K a = some true) :
    PySem.W.findObj K C od name = some (.bind g a) := by
  obtain ⟨cd, hc⟩ := Option.isSome_iff_exists.mp hc
  unfold PySem.W.findObj
  rw [hc, Option.bind_some, ha, Option.bind_some]
  simp [hg, ht]
section
variable {prog : Program} {w : World} {A : Around} {E : Value → Shared → Prop} {s : Shared} {K : PySem.W.Frag} {x C : Addr} {ox : Obj} {od : Option Obj}
theorem exc_check {M : Model} {nv : Value} {Q : Unit → Shared → Prop} (X : K.In s.heap) (I : PySem.W.InstAt s.heap x ox C od) (c : XCls K C) (h : Q () s) : wpAny M A (checkBuiltinCall "BaseException.__getattribute__" ⟨[.ref x, nv], []⟩) Q E s := by
  obtain ⟨hh, g, dr, t, os⟩ := s
  have hk : builtinKind "BaseException.__getattribute__" = some .slot := by decide +kernel
  have hs : splitId "BaseException.__getattribute__" = some ("BaseException", "__getattribute__") := by decide +kernel
  have L0 := I.type (M := M)
  have L1 := PySem.W.looks_mroIn (M := M) X c.mb
  have ha := F.args_bexc_ga (.ref x) nv
  simp only [checkBuiltinCall, hk, hs]
  unfold isInstance
  repeat (first | lk | wp_step)
  exact h
theorem exc_class {Q : Option Value → Shared → Prop} (X : K.In s.heap) (I : PySem.W.InstAt s.heap x ox C od) (c : XCls K C) (h : Q (some (.ref C)) { s with toks := s.toks + 1 }) : wpAny (model prog w) A (getAttr? (.ref x) "__class__") Q E s := by
  obtain ⟨hh, g, dr, t, os⟩ := s
  have hc : (PySem.W.clsIn K C).isSome = true := by
    obtain ⟨cd, e, _⟩ := PySem.W.any_some c.hd
    rw [e]
    rfl
  have L0 := I.type (M := model prog w)
  have L1 := PySem.W.looks_findIn (M := model prog w) X c.ga
  have L2 := PySem.W.looks_findIn (M := model prog w) X c.gt
  have L3 := PySem.W.looks_find (M := model prog w) X I (exc_found (od := od) hc c.cl c.gs c.tk)
  have n2 : (Value.builtin "BaseException.__getattribute__" == Value.builtin "object.__getattribute__") = false := by decide +kernel
  have n1 : (onTheHeap (Value.ref C) && Value.builtin "BaseException.__getattribute__" == Value.builtin "object.__getattribute__") = false := by rw [n2]; rfl
  have b1 := F.excAttr_ValueError.ga.bind (.ref x)
  unfold getAttr? getAttrBy? getAttrBy
  refine wpAny_bind (wpAny_mkText (wpAny_bind (wpAny_attempt (wpAny_holding (wpAny_bind (L0.at (wpAny_bind (L1.at ?_))))))))
  dsimp only
  rw [n1]
  simp only [Bool.false_eq_true, if_false]
  unfold getAttrByItsOwn hookBefore callGetattribute boundAndCalled
  simp only [onTheHeap, Bool.and_false, Bool.false_eq_true, if_false, if_true]
  refine wpAny_bind (L2.at (wpAny_bind (wpAny_attempt (wpAny_holding (wpAny_bind (wpAny_of_eq b1 ?_))))))
  refine wpAny_call (codeAny_call_builtin F.excAttr_ValueError.ga.plain F.entry_bexc_ga (exc_check X I c ?_))
  unfold Builtin.«object.__getattribute__»
  repeat lk
  refine wpAny_run (h := none) (PySem.W.class_get (s := ⟨hh, g, dr, t + 1, os⟩) (ox := ox) (od := od) X I c.mo ?_)
  refine wpAny_pure (wpAny_pure ?_)
  exact PySem.W.handed_on rfl (wpAny_pure h)
theorem kitx_exc (c : XCls K C) : PySem.W.KitX K (.ref x) (.ref C) (fun h => PySem.W.InstAt h x ox C od) where
  ty := fun _ _ _ I => I.type
  it := fun _ _ X _ => by
    obtain ⟨cd, e, _⟩ := PySem.W.any_some c.hd
    unfold PySem.W.clsIn at e
    split at e
    · rename_i ho
      intro A' Q' E' s' k q
      unfold isType loadHead
      exact wpAny_bind (wpAny_loadPart (k _ _ (X _ _ ho)) (wpAny_pure q))
    · cases e
  ne := fun h tp dd its n sl X htp => by
    obtain ⟨cd, e, _⟩ := PySem.W.any_some c.hd
    refine Bool.eq_false_iff.mpr fun q => ?_
    have z : C = tp := Value.ref.inj (beq_iff_eq.mp q)
    subst z
    unfold PySem.W.clsIn at e
    split at e
    · rename_i ho
      cases (X _ _ ho).symm.trans htp
    · cases e
  ca := fun X I k => exc_class X I c k
end
end L2
set_option Elab.async false
set_option linter.all false
set_option maxRecDepth 100000
namespace L2
open PySem PySem.Spec PyProof.Rows
def ErrO (h : Heap) (ea : Addr) (cls : Value) (od : Option Addr) (head : Value) : Prop := ∃ oe vs, h.get? ea = some oe ∧ oe.cls = cls ∧ oe.dict = od ∧ oe.data = .fields vs ∧ vs[1]? = some head
def TbO (h : Heap) (T : Addr) (fl : Value) : Prop := ∃ oT ts, h.get? T = some oT ∧ oT.data = .fields ts ∧ ts[3]? = some fl
structure Err (h : Heap) (ea T : Addr) (cls : Value) (od : Option Addr) (fl : Value) : Prop where
  e : ErrO h ea cls od (.ref T)
  t : TbO h T fl
  ne : T ≠ ea
structure Kept (fs xs : List Addr) (h h' : Heap) : Prop where
  keep : ∀ b o, h.get? b = some o → b ∉ fs → b ∉ xs → h'.get? b = some o
  slot : ∀ b o, h.get? b = some o → b ∈ fs → b ∉ xs → ∃ sl, h'.get? b = some { o with slots := sl }
  there : ∀ b o, h.get? b = some o → ∃ o', h'.get? b = some o'
theorem Kept.mono {fs xs ys : List Addr} {h h' : Heap} (k : Kept fs xs h h') (s : ∀ b ∈ xs, b ∈ ys) : Kept fs ys h h' := ⟨fun b o e f x => k.keep b o e f fun z => x (s b z), fun b o e f x => k.slot b o e f fun z => x (s b z), k.there⟩
theorem Kept.trans {fs xs : List Addr} {h h1 h2 : Heap} (a : Kept fs xs h h1) (b : Kept fs xs h1 h2) : Kept fs xs h h2 where
  keep := fun c o e f x => b.keep c o (a.keep c o e f x) f x
  slot := fun c o e f x => by
    obtain ⟨s1, e1⟩ := a.slot c o e f x
    obtain ⟨s2, e2⟩ := b.slot c _ e1 f x
    exact ⟨s2, e2⟩
  there := fun c o e => by
    obtain ⟨o1, e1⟩ := a.there c o e
    exact b.there c o1 e1
theorem Kept.of_all {fs xs : List Addr} {h h' : Heap} (k : ∀ b o, h.get? b = some o → h'.get? b = some o) : Kept fs xs h h' := ⟨fun b o e _ _ => k b o e, fun b o e _ _ => ⟨o.slots, k b o e⟩, fun b o e => ⟨o, k b o e⟩⟩
theorem kept_set {fs xs : List Addr} {h : Heap} {a : Addr} {oa : Obj} {vs : Array Value} {i : Nat} {v : Value} (ha : h.get? a = some oa) (hd : oa.data = .fields vs) (hx : a ∈ xs) : Kept fs xs h (h.update a (Obj.mapFields (·.setIfInBounds i v))) := by
  have oth : ∀ b o, h.get? b = some o → b ∉ xs → (h.update a (Obj.mapFields (·.setIfInBounds i v))).get? b = some o := fun b o e x => by
    rw [Heap.get?_update_other _ _ (fun (z : a = b) => x (z ▸ hx))]
    exact e
  refine ⟨fun b o e _ x => oth b o e x, fun b o e _ x => ⟨o.slots, oth b o e x⟩, fun b o e => ?_⟩
  by_cases z : b = a
  · subst z
    exact ⟨_, Heap.get?_update_self _ ha (Obj.isFreed_of_fields (Obj.data_mapFields hd _))⟩
  · rw [Heap.get?_update_other _ _ (Ne.symm z)]
    exact ⟨o, e⟩
theorem errO_set {h : Heap} {ea : Addr} {cls hd v : Value} {od : Option Addr} (e : ErrO h ea cls od hd) : ErrO (h.update ea (Obj.mapFields (·.setIfInBounds 1 v))) ea cls od v := by
  obtain ⟨oe, vs, h1, h2, h3, h4, h5⟩ := e
  have sz : 1 < vs.size := (Array.getElem?_eq_some_iff.mp h5).1
  refine ⟨_, _, Heap.get?_update_self _ h1 (Obj.isFreed_of_fields (Obj.data_mapFields h4 _)), ?_, ?_, Obj.data_mapFields h4 _, by simp [sz]⟩
  · rw [← h2]; exact Obj.cls_mapFields _ _
  · rw [← h3]; obtain ⟨c, d, dt, sl⟩ := oe; cases dt <;> rfl
theorem errO_other {h : Heap} {ea a : Addr} {cls hd : Value} {od : Option Addr} {f : Obj → Obj} (e : ErrO h ea cls od hd) (ne : a ≠ ea) : ErrO (h.update a f) ea cls od hd := by
  obtain ⟨oe, vs, h1, h2⟩ := e
  exact ⟨oe, vs, by rw [Heap.get?_update_other _ _ ne]; exact h1, h2⟩
theorem errO_keep {h h' : Heap} {ea : Addr} {cls hd : Value} {od : Option Addr} (e : ErrO h ea cls od hd) (k : ∀ o, h.get? ea = some o → h'.get? ea = some o) : ErrO h' ea cls od hd := by
  obtain ⟨oe, vs, h1, h2⟩ := e
  exact ⟨oe, vs, k _ h1, h2⟩
theorem errO_nofr {h base : Heap} {ea : Addr} {cls hd : Value} {od : Option Addr} {l : List Env} (e : ErrO h ea cls od hd) (f : h.FunFrames base l) : ea ∉ frs l := fun z => by
  obtain ⟨oe, vs, h1, _, _, h4, _⟩ := e
  obtain ⟨_, o, ho, hn⟩ := f.mem z
  rw [h1] at ho
  cases ho
  exact hn vs h4
theorem tbO_nofr {h base : Heap} {T : Addr} {fl : Value} {l : List Env} (e : TbO h T fl) (f : h.FunFrames base l) : T ∉ frs l := fun z => by
  obtain ⟨oe, vs, h1, h4, _⟩ := e
  obtain ⟨_, o, ho, hn⟩ := f.mem z
  rw [h1] at ho
  cases ho
  exact hn vs h4
section
variable {M : Model} {A : Around} {E : Value → Shared → Prop} {s : Shared} {Q : Unit → Shared → Prop} {fs : List Addr} {ea T L : Addr} {cls fl hd : Value} {od : Option Addr} {base : Heap} {env : Env} {outer : List Env}
theorem st_land (r : Err s.heap ea T cls od fl) (h : ∀ h', Err h' ea T cls od .none → Kept fs [T] s.heap h' → Q () { s with heap := h' }) : wpAny M A (setFlight (.ref ea) none) Q E s := by
  obtain ⟨⟨oe, vs, h1, h2, h3, h4, h5⟩, ⟨oT, ts, t1, t2, t3⟩, ne⟩ := r
  have sz : 3 < ts.size := (Array.getElem?_eq_some_iff.mp t3).1
  unfold setFlight
  refine wpAny_bind (wpAny_field h1 h4 h5 ?_)
  rw [if_pos (by simp : (Value.ref T != Value.none) = true)]
  refine wpAny_setField t1 t2 sz (h _ ⟨errO_other ⟨oe, vs, h1, h2, h3, h4, h5⟩ ne, ⟨_, _, Heap.get?_update_self _ t1 (Obj.isFreed_of_fields (Obj.data_mapFields t2 _)), Obj.data_mapFields t2 _, by simp [sz]⟩, ne⟩ (kept_set t1 t2 (by simp)))
theorem st_entry {head : Value} {hadNext : Bool} (hfr : A.frames = some (env :: outer)) (hl : s.heap.FunFrames base (env :: outer)) (hf : env.frame = some L) (r : ErrO s.heap ea cls od hd)
    (h : ∀ h' T', Err h' ea T' cls od (rawInt L) → Kept (frs (env :: outer)) [ea] s.heap h' → s.heap.get? T' = none → Q () { s with heap := h' }) :
    wpAny M A (do let a ← frameOf env; let pl ← entryPlaceOf L hadNext; let b ← EntryCells.newEntry head a .none (rawInt L) .none pl; setField (.ref ea) 1 b) Q E s := by
  have nf := errO_nofr r hl
  refine wpAny_bind (wpAny_frameOf_fun hfr hl hf fun g1 so => wpAny_bind (wpAny_entryPlaceOf fun pl hpl => ?_))
  unfold EntryCells.newEntry newFields
  refine wpAny_bind (wpAny_newObj_type ?_ (hpl.sizeOk5 _ _ _ _ _))
  have r1 : ErrO g1 ea cls od hd := errO_keep r fun o e => (so.2.1 ea nf).trans e
  generalize ht : ({ cls := .type "traceback", dict := none, data := .fields ([head, .ref L, .none, rawInt L, .none] ++ (if pl.isEmpty then List.replicate 6 Value.none else pl)).toArray } : Obj) = tb
  have r2 : ErrO (g1.push tb) ea cls od hd := errO_keep r1 fun o e => Heap.get?_push_of_some _ e
  obtain ⟨oe, vs, e1, e2, e3, e4, e5⟩ := id r2
  have lt : ea < g1.objs.size := by
    obtain ⟨_, _, e, _⟩ := r1
    exact Heap.lt_size e
  have hT : (g1.push tb).get? g1.objs.size = some tb := Heap.get?_push_size g1 (by rw [← ht]; rfl)
  refine wpAny_setField e1 e4 (Array.getElem?_eq_some_iff.mp e5).1 (h _ g1.objs.size ⟨errO_set r2, ⟨tb, ([head, .ref L, .none, rawInt L, .none] ++ (if pl.isEmpty then List.replicate 6 Value.none else pl)).toArray, ?_, by rw [← ht], by simp⟩, Nat.ne_of_gt lt⟩ ?_ ?_)
  · rw [Heap.get?_update_other _ _ (Nat.ne_of_lt lt)]
    exact hT
  · have k1 : Kept (frs (env :: outer)) [ea] s.heap g1 := ⟨fun b o e f _ => (so.2.1 b f).trans e, fun b o e _ _ => so.2.2 b o e, fun b o e => by
      obtain ⟨sl, z⟩ := so.2.2 b o e
      exact ⟨_, z⟩⟩
    exact k1.trans ((Kept.of_all fun b o e => Heap.get?_push_of_some _ e).trans (kept_set e1 e4 (by simp)))
  · exact Heap.get?_none_of_le (by rw [so.1]; exact Nat.le_refl _)
theorem st_first (hfr : A.frames = some (env :: outer)) (hl : s.heap.FunFrames base (env :: outer)) (hf : env.frame = some L) (r : ErrO s.heap ea cls od .none)
    (h : ∀ h' T', Err h' ea T' cls od (rawInt L) → Kept (frs (env :: outer)) [ea] s.heap h' → s.heap.get? T' = none → Q () { s with heap := h' }) : wpAny M A (noteFrame (.ref ea) env) Q E s := by
  obtain ⟨oe, vs, e1, e2, e3, e4, e5⟩ := id r
  unfold noteFrame
  simp only [hf]
  refine wpAny_bind (wpAny_field e1 e4 e5 ?_)
  rw [if_neg (by decide)]
  exact st_entry hfr hl hf r h
theorem st_next (hfr : A.frames = some (env :: outer)) (hl : s.heap.FunFrames base (env :: outer)) (hf : env.frame = some L) (r : Err s.heap ea T cls od .none)
    (h : ∀ h' T', Err h' ea T' cls od (rawInt L) → Kept (frs (env :: outer)) [ea, T] s.heap h' → s.heap.get? T' = none → Q () { s with heap := h' }) : wpAny M A (noteFrame (.ref ea) env) Q E s := by
  have nT := tbO_nofr r.t hl
  obtain ⟨⟨oe, vs, e1, e2, e3, e4, e5⟩, ⟨oT, ts, t1, t2, t3⟩, ne⟩ := id r
  unfold noteFrame
  simp only [hf]
  refine wpAny_bind (wpAny_field e1 e4 e5 ?_)
  rw [if_pos (by simp : (Value.ref T != Value.none) = true)]
  refine wpAny_bind (wpAny_field t1 t2 t3 ?_)
  rw [if_neg (by simp [rawInt])]
  have k1 : Kept (frs (env :: outer)) [ea, T] s.heap (s.heap.update T (Obj.mapFields (·.setIfInBounds 3 Value.none))) := kept_set t1 t2 (by simp)
  refine wpAny_bind (wpAny_setField t1 t2 (Array.getElem?_eq_some_iff.mp t3).1 ?_)
  refine st_entry hfr (hl.of_keeps fun b o e nf => ⟨o, ?_, rfl⟩) hf (errO_other r.e ne) fun h' T' r' k2 n => h h' T' r' (k1.trans (k2.mono (by simp))) ?_
  · by_cases z : b = T
    · subst z
      rw [t1] at e
      cases e
      exact absurd t2 (nf ts)
    · rw [Heap.get?_update_other _ _ (Ne.symm z)]
      exact e
  · cases q : s.heap.get? T' with
    | none => rfl
    | some o =>
      obtain ⟨o', z⟩ := k1.there T' o q
      rw [z] at n
      cases n
theorem st_leave1 (hfr : A.frames = some (env :: outer)) (hl : s.heap.FunFrames base (env :: outer)) (hf : env.frame = some L) (r : ErrO s.heap ea cls od .none)
    (h : ∀ h' T', Err h' ea T' cls od .none → Kept (frs (env :: outer)) [ea] s.heap h' → s.heap.get? T' = none → Q () { s with heap := h' }) : wpAny M A (leaving env (.ref ea)) Q E s := by
  unfold leaving
  refine wpAny_bind (st_first hfr hl hf r fun h1 T1 r1 k1 n1 => st_land (fs := frs (env :: outer)) (s := { s with heap := h1 }) r1 fun h2 r2 k2 => h h2 T1 r2 ⟨fun b o e f x => k2.keep b o (k1.keep b o e f x) f ?_, fun b o e f x => ?_, fun b o e => ?_⟩ n1)
  · simp only [List.mem_singleton]
    rintro rfl
    rw [n1] at e
    cases e
  · obtain ⟨s1, e1⟩ := k1.slot b o e f x
    obtain ⟨s2, e2⟩ := k2.slot b _ e1 f (by
      simp only [List.mem_singleton]
      rintro rfl
      rw [n1] at e
      cases e)
    exact ⟨s2, e2⟩
  · obtain ⟨o1, e1⟩ := k1.there b o e
    exact k2.there b o1 e1
end
def CXe (P : Program) (w : World) : CXT := fun outer H s E e s' => ∃ (ea T : Addr) (cls : Value) (od : Option Addr) (H' : Hp), e = .ref ea ∧ s'.os = s.os ∧ AllBare s'.gens ∧ Un (frs outer) [] H H' s.heap s'.heap ∧ HOk P w H' s'.heap ∧
  H' ea = none ∧ H' T = none ∧ s.heap.get? ea = none ∧ s.heap.get? T = none ∧ Err s'.heap ea T cls od .none ∧ E cls od H'
theorem quietE {P : Program} {w : World} : Quiet (CXe P w) := fun outer H s e s' h => by
  obtain ⟨_, _, _, _, _, _, _, _, _, _, _, _, _, _, _, z⟩ := h
  exact z
theorem kept_hok {P : Program} {w : World} {H : Hp} {h h' : Heap} {fs xs : List Addr} (x : HOk P w H h) (k : Kept fs xs h h') (f : ∀ b ∈ fs, H b = none) (u : ∀ b ∈ xs, H b = none) : HOk P w H h' := fun a o e => by
  refine (x a o e).stay (fun b ob hb q => k.keep b ob q ?_ ?_) (fun _ q => q) fun _ _ q => q
  · intro z
    rcases hb with rfl | hb
    · rw [f _ z] at e; cases e
    · rw [f _ z] at hb; cases hb
  · intro z
    rcases hb with rfl | hb
    · rw [u _ z] at e; cases e
    · rw [u _ z] at hb; cases hb
theorem untr {P : Program} {w : World} {H : Hp} {h : Heap} {b : Addr} (x : HOk P w H h) (n : h.get? b = none) : H b = none := by
  cases q : H b with
  | none => rfl
  | some o =>
    have lt := x.lt q
    cases z : h.get? b with
    | some o' => rw [z] at n; cases n
    | none =>
      exfalso
      have := (x b o q)
      cases o with
      | lst xs => obtain ⟨_, _, _, _, e⟩ := this; rw [n] at e; cases e
      | tup xs => obtain ⟨_, _, _, ob, e, _⟩ := this; rw [n] at e; cases e
      | dK kvs => obtain ⟨_, _, _, _, ob, _, _, e, _⟩ := this; rw [n] at e; cases e
      | dT kvs => obtain ⟨_, _, _, _, ob, _, _, e, _⟩ := this; rw [n] at e; cases e
      | set S m => obtain ⟨ob, _, _, _, e, _⟩ := this; rw [n] at e; cases e
      | ins C dx fs => obtain ⟨_, _, _, e, _⟩ := this; rw [n] at e; cases e
      | own y => obtain ⟨_, e⟩ := this; rw [n] at e; cases e
      | xd fs => obtain ⟨_, ⟨_, _, _, e, _⟩, _⟩ := this; rw [n] at e; cases e
      | rng lo hi => obtain ⟨_, _, _, e⟩ := this; rw [n] at e; cases e
      | frz ob u => obtain ⟨e, _⟩ := this; rw [n] at e; cases e
      | tbl ps => have e : h.get? b = some _ := this; rw [n] at e; cases e
      | met f y => have e : h.get? b = some _ := this; rw [n] at e; cases e
      | ext φ => obtain ⟨_, ⟨_, e⟩, _⟩ := this; rw [n] at e; cases e
section
variable {P : Program} {w : World} {K : PySem.W.Frag} {mg : Str → Option Value} {base : Heap} {N : List Str} {qual : Str} {scope : Scope} {f : Addr} {cd : Value} {A : Around} {outer : List Env} {s : Shared} {H : Hp} {E : XK}
theorem un_leave {CX : CXT} {pins : List (Addr × Obj)} {σ : St} {H' : Hp} {s' : Shared} {h' : Heap} {xs : List Addr} (J : Inv (cxOf CX P w K mg base N qual scope f cd A outer s H E) pins σ H' s') (k : Kept (frs (envOfC qual scope s.heap.objs.size f cd :: outer)) xs s'.heap h') (nx : ∀ b ∈ xs, s.heap.get? b = none) :
    Un (frs outer) [] H H' s.heap h' := by
  have b0 : Un (frs outer) [] H H' s.heap s'.heap := J.base
  have nl : ∀ b o, s.heap.get? b = some o → b ∉ xs := fun b o e z => by rw [nx b z] at e; cases e
  have nf : ∀ b o, s.heap.get? b = some o → b ∉ frs outer → b ∉ frs (envOfC qual scope s.heap.objs.size f cd :: outer) := fun b o e z m => by
    unfold frs at m z
    rw [List.filterMap_cons] at m
    have : (envOfC qual scope s.heap.objs.size f cd).frame = some s.heap.objs.size := rfl
    rw [this] at m
    rcases List.mem_cons.mp m with m | m
    · exact absurd (Heap.lt_size e) (by rw [m]; exact Nat.lt_irrefl _)
    · exact z m
  refine ⟨fun b o e n hf hx => k.keep b o (b0.keep b o e n hf hx) (nf b o e hf) (nl b o e), fun b o e n hf hx => ?_, b0.free, fun b o e hx => ?_, b0.tups, b0.frzs, b0.tbls⟩
  · obtain ⟨sl, e1⟩ := b0.slot b o e n hf hx
    by_cases m : b ∈ frs (envOfC qual scope s.heap.objs.size f cd :: outer)
    · obtain ⟨s2, e2⟩ := k.slot b _ e1 m (nl b o e)
      exact ⟨s2, e2⟩
    · exact ⟨sl, k.keep b _ e1 m (nl b o e)⟩
  · obtain ⟨o1, e1⟩ := b0.there b o e hx
    exact k.there b o1 e1
theorem inv_old {CX : CXT} {pins : List (Addr × Obj)} {σ : St} {H' : Hp} {s' : Shared} (J : Inv (cxOf CX P w K mg base N qual scope f cd A outer s H E) pins σ H' s') {b : Addr} (n : s'.heap.get? b = none) : s.heap.get? b = none := by
  cases q : s.heap.get? b with
  | none => rfl
  | some o =>
    have b0 : Un (frs outer) [] H H' s.heap s'.heap := J.base
    obtain ⟨o', e⟩ := b0.there b o q (by simp)
    rw [n] at e
    cases e
end
def Raises (X : Cx) (E : XK) : Prop := ∀ (pins : List (Addr × Obj)) (σ : St) (H : Hp) (s : Shared) (ea : Addr) (cls : Value) (od : Option Addr) (h' : Heap) (tk : Nat), Inv X pins σ H s → (∀ b o, s.heap.get? b = some o → h'.get? b = some o) → s.heap.get? ea = none → ErrO h' ea cls od .none → E cls od H →
  X.xe (.ref ea) { s with heap := h', toks := tk }
section
variable {P : Program} {w : World} {K : PySem.W.Frag} {mg : Str → Option Value} {base : Heap} {N : List Str} {qual : Str} {scope : Scope} {f : Addr} {cd : Value} {A : Around} {outer : List Env} {s : Shared} {H : Hp} {E : XK}
theorem raisesX : Raises (cxOf (CXe P w) P w K mg base N qual scope f cd A outer s H E) E := by
  intro pins σ H1 s1 ea cls od h' tk I kp nw er q
  have J := I.kept (t' := tk) kp
  refine st_leave1 (base := base) J.ok.frames J.stack rfl er fun h2 T' er' k nT => ?_
  have fr : ∀ b ∈ frs (envOfC qual scope s.heap.objs.size f cd :: outer), H1 b = none := J.stkFree
  refine ⟨ea, T', cls, od, H1, rfl, J.os, J.bare, un_leave J k ?_, kept_hok J.hok k fr ?_, untr I.hok nw, untr J.hok nT, inv_old I nw, inv_old J nT, er', q⟩
  · intro b hb
    rw [List.mem_singleton.mp hb]
    exact inv_old I nw
  · intro b hb
    rw [List.mem_singleton.mp hb]
    exact untr I.hok nw
end
end L2
set_option Elab.async false
set_option linter.all false
set_option maxRecDepth 100000
namespace L2
open PySem PySem.Spec PyProof.Rows
def XObj (K : PySem.W.Frag) (C : Addr) : Prop := ∃ (nm qn : Str) (N : Addr) (bs bm : List Value) (hdct : Bool) (sn : List Str) (sub : List Value) (ab : Bool) (col : Option Bool) (dd : Option Addr) (k0 k1 k2 k3 k5 : Option Value),
    K.lookup C = some (excClassObj nm qn C N bs bm hdct sn sub ab col dd k0 k1 k2 k3 k5 "ValueError.__new__") ∧ PySem.W.nsOkIn K N = true ∧ PySem.W.nsIn K N "__init__" = some none ∧ PySem.W.tailIn K bmV bm = true
theorem xobj_mk {K : PySem.W.Frag} {C : Addr} {o : Obj} (nm qn : Str) (N : Addr) (bs bm : List Value) (hdct : Bool) (sn : List Str) (sub : List Value) (ab : Bool) (col : Option Bool) (dd : Option Addr) (k0 k1 k2 k3 k5 : Option Value) (l : K.lookup C = some o)
    (e : o = excClassObj nm qn C N bs bm hdct sn sub ab col dd k0 k1 k2 k3 k5 "ValueError.__new__") (a : PySem.W.nsOkIn K N = true) (b : PySem.W.nsIn K N "__init__" = some none) (c : PySem.W.tailIn K bmV bm = true) : XObj K C := by
  subst e
  exact ⟨_, _, _, _, _, _, _, _, _, _, _, _, _, _, _, _, l, a, b, c⟩
def tRaise (C : Addr) (E : XK) (t : TA) : TS := fun _ σ H => t σ H fun vs H1 => vs.length ≤ sizeLine ∧ E (.ref C) none H1
section
variable {X : Cx} {x : Str} {np cpos pos : Pos} {e0 : Expr} {es : List Expr} {t : TA} {C : Addr} {E : XK}
theorem ps_raise (q : XObj X.K C) (hc : X.calm = true) (hR : Raises X E) (hg : Gl X x) (hm : X.mg x = some (.ref C)) (ha : PA X (e0 :: es) t) (hdb : (x == ("__debug__" : Str)) = false := by decide)
    (he : starEach (e0 :: es) X.env = (false, eval e0 X.env) :: starEach es X.env := by rfl) (hpl : (backTo cpos (starEach es X.env)).any (·.1) = false := by rfl) : PS X (.Raise (some (.Call (.Name x np) (e0 :: es) [] cpos)) none pos) (tRaise C E t) := by
  intro pins s σ H D I h
  obtain ⟨nm, qn, N, bs, bm, hdct, sn, sub, ab, col, dd, k0, k1, k2, k3, k5, ho, z5, z6, z4⟩ := q
  have B := I.mod.kin
  have T0 := PySem.W.tail_of_in B z4
  have N0 : X.base.Ns N (X.base.nsMap N) := .of_isNs (PySem.W.isNs_of_in B z5)
  have hp : (backTo cpos (starEach (e0 :: es) X.env)).any (·.1) = false := by
    rw [he]
    show (false || (backTo cpos (starEach es X.env)).any (·.1)) = false
    rw [hpl]
    rfl
  refine wpAny_Raise_call_subT (C := C) (nm := nm) (q := qn) (N := N) (bs := bs) (bm := bm) (hdct := hdct) (sn := sn) (sub := sub) (ab := ab) (col := col) (dd := dd) (k0 := k0) (k1 := k1) (k2 := k2) (k3 := k3) (k5 := k5) PySem.F.excBase_ValueError
    (T0.hasType (by decide +kernel)) (I.ok.hd hc) hp (PySem.W.nsMap_none_of_in B z5 z6) (ld_glob I hg hm ⟨rfl, ?_⟩ hdb)
  have g := ha cpos pins s σ H _ I h
  rw [he] at g ⊢
  refine Calls.evalArgs_plain (thn g fun us s1 ⟨vs, H1, I1, r1, q1⟩ => ⟨rfl, by show us.length ≤ _; rw [← r1.length]; exact q1.1, I1.bk _ _ (B _ _ ho), N0.keeps I1.bk, T0.keeps I1.bk, fun h' ea m => ?_⟩)
  obtain ⟨tt, m1, _, _⟩ := m.there
  exact hR pins σ H1 s1 ea (.ref C) none h' s1.toks I1 m.keeps m.new ⟨_, _, m1, rfl, rfl, rfl, rfl⟩ q1.2
end
def XP (CX : CXT) (X : Cx) (pins : List (Addr × Obj)) (σ : St) (E : XK) (e : Value) (s' : Shared) : Prop := ∃ H s, Inv X pins σ H s ∧ CX X.stack H s E e s'
def PEx (CX : CXT) (X : Cx) (e : Expr) (t : XK → TE) : Prop :=
  ∀ (E : XK) (pins : List (Addr × Obj)) (s : Shared) (σ : St) (H : Hp) (Q : VK), Inv X pins σ H s → t E σ H Q → wpAny (model X.prog X.w) X.A (eval e X.env) (EP X pins σ Q) (XP CX X pins σ E) s
abbrev XS (CX : CXT) (X : Cx) (pins : List (Addr × Obj)) (EK : St → XK) (e : Value) (s' : Shared) : Prop := ∃ σ, XP CX X pins σ (EK σ) e s'
def PSx (CX : CXT) (X : Cx) (st : Stmt) (t : (St → XK) → TS) : Prop :=
  ∀ (EK : St → XK) (pins : List (Addr × Obj)) (s : Shared) (σ : St) (H : Hp) (D : Ends), Inv X pins σ H s → t EK D σ H → wpAny (model X.prog X.w) X.A (exec st X.env) (SP X pins D) (XS CX X pins EK) s
def PSsx (CX : CXT) (X : Cx) (st : List Stmt) (t : (St → XK) → TS) : Prop :=
  ∀ (EK : St → XK) (pins : List (Addr × Obj)) (s : Shared) (σ : St) (H : Hp) (D : Ends), Inv X pins σ H s → t EK D σ H → wpAny (model X.prog X.w) X.A (execs st X.env) (SP X pins D) (XS CX X pins EK) s
section
variable {CX : CXT} {X : Cx} {k : Nat} {f C : Addr} {fd : FuncData} {ps : List Str} {sp : Sp} {dvs : List V} {ds : List Value} {x : Str} {p pos : Pos} {e : Expr} {es : List Expr} {te : TE} {t : TA} {st : Stmt} {sts : List Stmt} {ts : TS} {tx ux : (St → XK) → TS} {ex : XK → TE}
theorem pex_call (F : FnOk X.prog X.w X.K X.mg X.base CX k f fd ps sp) (hr : Room k X.A) (hg : Gl X x) (hm : X.mg x = some (.ref f)) (hk : PySem.W.keepIn X.K (.ref f) = true) (hb : Binds X.K fd ps ds) (hd : Vals dvs ds)
    (ha : PA X.nox (e :: es) t) (hdb : (x == ("__debug__" : Str)) = false := by decide) (he : starEach (e :: es) X.env = (false, eval e X.env) :: starEach es X.env := by rfl) (hpl : (backTo pos (starEach es X.env)).any (·.1) = false := by rfl) :
    PEx CX X (.Call (.Name x p) (e :: es) [] pos) (fun E => tCall sp dvs E t) := by
  intro E pins s σ H Q I h
  refine wpAny_Call_Name_kw (ld_glob I hg hm ?_ hdb)
  refine PySem.W.callWith_K (h₀ := X.base) I.ok.mod.kin hk (wpAny_mono (ha pos pins s σ H _ (I.wish _) h) (fun us s1 ⟨vs, H1, I1, r, q⟩ => ⟨I1.unwish.kIn, ?_⟩) fun _ _ z => False.elim z) he hpl
  have J := I1.unwish
  have r2 : Vals (vs ++ dvs) (us ++ ds) := r.append hd
  have hl : (us ++ ds).length = ps.length := by rw [← r2.length]; exact F.len _ _ _ _ q
  refine wpAny_call (codeAny_mono (F.run X.A X.stack s1 H1 ⟨us, []⟩ (us ++ ds) (vs ++ dvs) Q E hr J.env0 (hb s1 us J.kIn hl) r2 q) fun r s' hq => ?_)
  cases r with
  | error e => exact ⟨H1, s1, J, hq⟩
  | ok fl =>
    cases fl with
    | ret u => exact J.after hq
    | next => exact False.elim hq
    | brk => exact False.elim hq
    | cont => exact False.elim hq
theorem psx_expr (he : PEx CX X e ex) (hs : swapsWith e none pos.line X.env = pure false := by rfl) : PSx CX X (.Expr e pos) (fun EK D σ H => ex (EK σ) σ H fun _ H1 => D.nx σ H1) := by
  intro EK pins s σ H D I h
  exact wpAny_Expr_any (wpAny_mono (he (EK σ) pins s σ H _ I h) (fun v s1 ⟨x, H1, I1, r1, q1⟩ => ⟨σ, H1, I1, q1⟩) fun e s' z => ⟨σ, z⟩) I.quiet hs
theorem pssx_one (h1 : PSx CX X st tx) : PSsx CX X [st] tx := by
  intro EK pins s σ H D I h
  refine wpAny_execs_cons (thn (h1 EK pins s σ H D I h) fun f s1 q => ?_)
  cases f with
  | next => exact wpAny_execs_nil q
  | ret v => exact q
  | brk => exact q
  | cont => exact q
end
end L2
set_option Elab.async false
set_option linter.all false
set_option maxRecDepth 100000
namespace L2
open PySem PySem.Spec PyProof.Rows
abbrev Cx.held (X : Cx) (e : Value) : Cx := { X with A := X.A.mark (some e), calm := false }
theorem Cx.Ok.held {X : Cx} (ok : X.Ok) (e : Value) : (X.held e).Ok :=
  ⟨ok.mod, ok.kind, ok.glob, ok.blt, ok.above, ok.inj, ok.has, ok.cab, (fun z => nomatch z), ok.frames, ok.stk, ok.exf, ok.bs, ok.bsz, ok.noex, ok.exfs, ok.funs, ok.frf⟩
theorem Cx.Ok.unheld {X : Cx} {e : Value} (ok : (X.held e).Ok) (hd : X.calm = true → X.A.handled = none) : X.Ok :=
  ⟨ok.mod, ok.kind, ok.glob, ok.blt, ok.above, ok.inj, ok.has, ok.cab, hd, ok.frames, ok.stk, ok.exf, ok.bs, ok.bsz, ok.noex, ok.exfs, ok.funs, ok.frf⟩
section
variable {X : Cx} {pins : List (Addr × Obj)} {σ : St} {H : Hp} {s : Shared}
theorem Inv.held (I : Inv X pins σ H s) (e : Value) : Inv (X.held e) pins σ H s := ⟨I.ok.held e, I.os, I.bare, I.base, I.loc, I.cell, I.free, I.freeC, I.pin, I.hok, I.len⟩
theorem Inv.unheld {e : Value} (I : Inv (X.held e) pins σ H s) (hd : X.calm = true → X.A.handled = none) : Inv X pins σ H s := ⟨I.ok.unheld hd, I.os, I.bare, I.base, I.loc, I.cell, I.free, I.freeC, I.pin, I.hok, I.len⟩
theorem Inv.moved {xs : List Addr} {h' : Heap} {tk : Nat} (I : Inv X pins σ H s) (k : Kept (frs X.stack) xs s.heap h') (nx : ∀ b ∈ xs, H b = none ∧ X.s₀.heap.get? b = none ∧ b ≠ X.env.locals ∧ (∀ x c, X.env.cells.lookup x = some c → c ≠ b) ∧ ∀ p ∈ X.pn ++ pins, p.1 ≠ b) :
    Inv X pins σ H { s with heap := h', toks := tk } := by
  have old : ∀ b o, X.s₀.heap.get? b = some o → b ∉ xs := fun b o e z => by rw [(nx b z).2.1] at e; cases e
  have nel : ∀ b o, X.s₀.heap.get? b = some o → b ≠ X.env.locals := fun b o e z => absurd (Nat.lt_of_lt_of_le (Heap.lt_size e) I.ok.above) (by rw [z]; exact Nat.lt_irrefl _)
  have out : ∀ b, b ≠ X.env.locals → b ∉ X.fs → b ∉ frs X.stack := fun b h1 h2 z => (List.mem_cons.mp (I.stkSub b z)).elim h1 h2
  have any : ∀ b o, s.heap.get? b = some o → b ∉ xs → ∃ sl, h'.get? b = some { o with slots := sl } := fun b o e z => by
    by_cases f : b ∈ frs X.stack
    · exact k.slot b o e f z
    · exact ⟨o.slots, k.keep b o e f z⟩
  have cells : ∀ x c v, X.env.cells.lookup x = some c → s.heap.IsCell c v → h'.IsCell c v := fun x c v e ⟨o, ho, hd⟩ => by
    obtain ⟨sl, q⟩ := any c o ho fun z => (nx c z).2.2.2.1 x c e rfl
    exact ⟨_, q, hd⟩
  refine ⟨I.ok, I.os, I.bare, ⟨fun b o e n hf hx => ?_, fun b o e n hf hx => ?_, I.base.free, fun b o e hx => ?_, I.base.tups, I.base.frzs, I.base.tbls⟩, ?_, fun x c e => ?_, I.free, I.freeC, fun p hp => ?_, kept_hok I.hok k I.stkFree fun b hb => (nx b hb).1, I.len⟩
  · exact k.keep b o (I.base.keep b o e n hf hx) (out b (nel b o e) hf) (old b o e)
  · obtain ⟨sl, e1⟩ := I.base.slot b o e n hf hx
    obtain ⟨s2, e2⟩ := any b _ e1 (old b o e)
    exact ⟨s2, e2⟩
  · obtain ⟨o1, e1⟩ := I.base.there b o e hx
    exact k.there b o1 e1
  · obtain ⟨m, ⟨o, es, ep, ho, r⟩, l⟩ := I.loc
    obtain ⟨sl, e1⟩ := any _ o ho fun z => (nx _ z).2.2.1 rfl
    refine ⟨m, ⟨_, es, ep, e1, r⟩, fun i x v h1 h2 h3 => ?_⟩
    obtain ⟨u, r1, l1⟩ := l i x v h1 h2 h3
    refine ⟨u, r1, ?_⟩
    rcases l1 with l1 | ⟨k1, c, e, z⟩
    · exact .inl l1
    · exact .inr ⟨k1, c, e, cells x c _ e z⟩
  · obtain ⟨v, z⟩ := I.cell x c e
    exact ⟨v, cells x c v e z⟩
  · obtain ⟨e, n, ne, nf, d⟩ := I.pin p hp
    exact ⟨k.keep p.1 p.2 e (out p.1 ne nf) fun z => (nx p.1 z).2.2.2.2 p hp rfl, n, ne, nf, d⟩
theorem Inv.young (I : Inv X pins σ H s) {b : Addr} (n : s.heap.get? b = none) : X.s₀.heap.get? b = none ∨ b ∈ X.ex := by
  by_cases z : b ∈ X.ex
  · exact .inr z
  · refine .inl ?_
    cases q : X.s₀.heap.get? b with
    | none => rfl
    | some o =>
      obtain ⟨o', e⟩ := I.base.there b o q z
      rw [n] at e
      cases e
theorem Inv.apart (I : Inv X pins σ H s) {b : Addr} (n : s.heap.get? b = none) : b ≠ X.env.locals ∧ (∀ x c, X.env.cells.lookup x = some c → c ≠ b) ∧ ∀ p ∈ X.pn ++ pins, p.1 ≠ b := by
  refine ⟨?_, fun x c e z => ?_, fun p hp z => ?_⟩
  · rintro rfl
    obtain ⟨m, ⟨o, es, ep, ho, r⟩, _⟩ := I.loc
    rw [n] at ho
    cases ho
  · obtain ⟨v, o, ho, hd⟩ := I.cell x c e
    rw [z, n] at ho
    cases ho
  · obtain ⟨e, _⟩ := I.pin p hp
    rw [z, n] at e
    cases e
end
section
variable {K : PySem.W.Frag} {C C' : Addr} {x : Addr} {ox : Obj} {od : Option Obj} {M : Model} {A : Around} {E : Value → Shared → Prop} {s : Shared} {b : Bool} {Q : Bool → Shared → Prop}
theorem exc_matches (X : K.In s.heap) (hx : ∃ o, s.heap.get? x = some o ∧ o.cls = .ref C) (c' : XCls K C') (m : PySem.W.mroIn K C (.ref C') = some b) (h : Q b s) : wpAny M A (excMatches (.ref x) (.ref C')) Q E s := by
  obtain ⟨o, ho, hc⟩ := hx
  obtain ⟨hh, g, dr, t, os⟩ := s
  have L0 : PySem.W.Looks M hh (typeOf (.ref x)) (.ref C) := hc ▸ (PySem.W.Looks.ld ho).andThen .now
  have L1 := PySem.W.looks_mroIn (M := M) X m
  have L2 := PySem.W.looks_mroIn (M := M) X c'.mb
  have L3 := PySem.W.looks_typeIn (M := M) X c'.ty
  have L4 : PySem.W.Looks M hh (isSubtype (.type "type") (.type "tuple")) false := .of_pure tc_notTuple
  obtain ⟨cd, e, _⟩ := PySem.W.any_some c'.hd
  have L5 : PySem.W.Looks M hh (isType (.ref C')) true := by
    unfold PySem.W.clsIn at e
    split at e
    · rename_i ho'
      intro A' Q' E' s' k q
      unfold isType loadHead
      exact wpAny_bind (wpAny_loadPart (k _ _ (X _ _ ho')) (wpAny_pure q))
    · cases e
  unfold excMatches isInstance isExcClass
  cases b
  all_goals
    repeat lk
    exact h
end
end L2
set_option Elab.async false
set_option linter.all false
set_option maxRecDepth 100000
namespace L2
open PySem PySem.Spec PyProof.Rows
def ExO (ea : Addr) (cls : Value) (od : Option Addr) : HO := .ext fun h => ∃ oe vs, h.get? ea = some oe ∧ oe.cls = cls ∧ oe.dict = od ∧ oe.data = .fields vs
structure Loose (X : Cx) (pins : List (Addr × Obj)) (H : Hp) (b : Addr) : Prop where
  un : H b = none
  new : X.s₀.heap.get? b = none
  loc : b ≠ X.env.locals
  cel : ∀ x c, X.env.cells.lookup x = some c → c ≠ b
  pin : ∀ p ∈ X.pn ++ pins, p.1 ≠ b
theorem Loose.all {X : Cx} {pins : List (Addr × Obj)} {H : Hp} {b : Addr} (l : Loose X pins H b) : H b = none ∧ X.s₀.heap.get? b = none ∧ b ≠ X.env.locals ∧ (∀ x c, X.env.cells.lookup x = some c → c ≠ b) ∧ ∀ p ∈ X.pn ++ pins, p.1 ≠ b := ⟨l.un, l.new, l.loc, l.cel, l.pin⟩
section
variable {X : Cx} {pins : List (Addr × Obj)} {σ : St} {H : Hp} {s : Shared}
theorem Inv.trackX {ea : Addr} {cls hd : Value} {od : Option Addr} (I : Inv X pins σ H s) (l : Loose X pins H ea) (e : ErrO s.heap ea cls od hd) : Inv X pins σ (upd H ea (ExO ea cls od)) s := by
  obtain ⟨oe, vs, h1, h2, h3, h4, h5⟩ := e
  have ne : ∀ b, b ≠ ea → upd H ea (ExO ea cls od) b = H b := fun b z => upd_ne z
  have nt : ∀ b u, H b = some u → upd H ea (ExO ea cls od) b = some u := fun b u z => by rw [ne b (ne_of_none z l.un)]; exact z
  refine ⟨I.ok, I.os, I.bare, ⟨I.base.keep, I.base.slot, fun b o q n x => ?_, I.base.there, fun b xs q => nt _ _ (I.base.tups b xs q), fun b o u q => nt _ _ (I.base.frzs b o u q), fun b ps q => ?_⟩, I.loc, I.cell, ?_, fun x c q => ?_, fun p hp => ?_, ?_, I.len⟩
  · rw [ne b (by rintro rfl; rw [l.new] at q; cases q)]
    exact I.base.free b o q n x
  · obtain ⟨more, z⟩ := I.base.tbls b ps q
    exact ⟨more, nt _ _ z⟩
  · rw [ne _ (Ne.symm l.loc)]
    exact I.free
  · rw [ne _ (l.cel x c q)]
    exact I.freeC x c q
  · obtain ⟨z1, z2, z3, z4, z5⟩ := I.pin p hp
    exact ⟨z1, by rw [ne _ (l.pin p hp)]; exact z2, z3, z4, z5⟩
  · intro b u q
    by_cases z : b = ea
    · subst z
      rw [upd_same] at q
      cases q
      refine ⟨⟨oe, vs, h1, h2, h3, h4⟩, ⟨oe, h1⟩, ?_⟩
      rintro g1 g2 ⟨o, v, a1, a2⟩ kk
      exact ⟨o, v, kk _ a1, a2⟩
    · rw [ne b z] at q
      exact (I.hok b u q).stay (fun _ _ _ r => r) (fun c r => nt _ _ r) fun c xs r => nt _ _ r
theorem name_goes {M : Model} {A : Around} {E : Value → Shared → Prop} {n : Str} {i : Nat} {pos : Pos} {Q : Unit → Shared → Prop} (I : Inv X pins σ H s) (hN : X.N.Nodup) (hi : X.N[i]? = some n) (hl : X.env.scope.names.lookup n = some .local)
    (h : ∀ s', Inv X pins (σ.set i none) H s' → Q () s') : wpAny M A (do bindName X.env n .none; unbindBehindTheSuite X.env n pos) Q E s := by
  have hcls : (X.env.scope.kind == .class || (X.env.scope.kind == .module && X.env.locals != X.env.globals)) = false := by rw [I.ok.kind]; rfl
  have hiσ : i < σ.length := by rw [I.len]; exact (List.getElem?_eq_some_iff.mp hi).1
  refine wpAny_bind (wpAny_bindName (store_ok (v := V.non) I hN hi (.inl hl) rfl (fun s1 I1 => ?_) (.inr hl)))
  obtain ⟨m, hn, l⟩ := id I1.loc
  have hv : m n = some Value.none := by
    obtain ⟨u, r, q⟩ := l i n .non hi (by rw [List.getElem?_set_self hiσ]) (.inl hl)
    cases (show u = Value.none from r)
    rcases q with ⟨_, q⟩ | ⟨q, _⟩
    · exact q
    · rcases q with q | q <;> (have z : X.env.scope.names.lookup n = _ := q; rw [hl] at z; cases z)
  unfold unbindBehindTheSuite
  refine wpAny_onRaise (wpAny_unbindName_local hl hn hv hcls fun h' u hn' hs => h _ ?_)
  have cne := I1.cne
  have far : ∀ b o, X.s₀.heap.get? b = some o → b ≠ X.env.locals := fun b o e => Nat.ne_of_lt (Nat.lt_of_lt_of_le (Heap.lt_size e) I1.ok.above)
  have at_ : ∀ b, b ≠ X.env.locals → h'.get? b = s1.heap.get? b := fun b z => hs.2 b z
  refine ⟨I1.ok, I1.os, I1.bare, ⟨fun b o e n hb hx => ?_, fun b o e n hb hx => ?_, I1.base.free, fun b o e hx => ?_, I1.base.tups, I1.base.frzs, I1.base.tbls⟩, ⟨_, hn', fun j y v e1 e2 e3 => ?_⟩, fun y c e => ?_, I1.free, I1.freeC, fun p hp => ?_, fun b ob e => ?_, by simpa using I.len⟩
  · exact (at_ b (far b o e)).trans (I1.base.keep b o e n hb hx)
  · obtain ⟨sl, q⟩ := I1.base.slot b o e n hb hx
    exact ⟨sl, (at_ b (far b o e)).trans q⟩
  · obtain ⟨o', q⟩ := I1.base.there b o e hx
    exact ⟨o', (at_ b (far b o e)).trans q⟩
  · by_cases hj : j = i
    · subst hj
      rw [List.getElem?_set_self hiσ] at e2
      cases e2
    · have hy : y ≠ n := fun z => hj (nodup_ix hN e1 (z ▸ hi))
      rw [List.getElem?_set_ne (Ne.symm hj)] at e2
      obtain ⟨u', r', q⟩ := l j y v e1 (by rw [List.getElem?_set_ne (Ne.symm hj)]; exact e2) e3
      refine ⟨u', r', ?_⟩
      rcases q with ⟨k, z⟩ | ⟨k, c, z1, z2⟩
      · exact .inl ⟨k, by simp [hy, z]⟩
      · exact .inr ⟨k, c, z1, z2.sameBut hs (cne y c z1)⟩
  · obtain ⟨v, z⟩ := I1.cell y c e
    exact ⟨v, z.sameBut hs (cne y c e)⟩
  · obtain ⟨z1, z2, z3, z4, z5⟩ := I1.pin p hp
    exact ⟨(at_ p.1 z3).trans z1, z2, z3, z4, z5⟩
  · refine (I1.hok b ob e).stay (fun c w hc q => (at_ c ?_).trans q) (fun _ q => q) fun _ _ q => q
    rintro rfl
    rcases hc with rfl | hc
    · rw [I1.free] at e; cases e
    · rw [I1.free] at hc; cases hc
end
abbrev TH := Ends → St → Value → Option Addr → Hp → Prop
def PHs (X : Cx) (hs : List ExceptHandler) (th : TH) : Prop := ∀ (pins : List (Addr × Obj)) (s : Shared) (σ : St) (H : Hp) (D : Ends) (ea T : Addr) (cls : Value) (od : Option Addr), Inv X pins σ H s → Err s.heap ea T cls od .none → Loose X pins H ea → Loose X pins H T →
  th D σ cls od H → wpAny (model X.prog X.w) X.A (handleBy (.ref ea) X.env hs) (SP X pins D) X.xe s
def Ends.less (D : Ends) (i : Nat) : Ends := { nx := fun σ H => D.nx (σ.set i none) H, rt := D.rt, bk := fun σ H => D.bk (σ.set i none) H, ct := fun σ H => D.ct (σ.set i none) H }
def tHand (K : PySem.W.Frag) (C' : Addr) (i : Nat) (ts : TS) (tr : TH) : TH := fun D σ cls od H => ∃ C b, cls = .ref C ∧ PySem.W.mroIn K C (.ref C') = some b ∧
  if b = true then ∀ ea, H ea = none → ts (D.less i) (σ.set i (some (.ref ea))) (upd H ea (ExO ea cls od)) else tr D σ cls od H
def tNoHand : TH := fun _ _ _ _ _ => False
section
variable {X : Cx} {x n : Str} {np pos : Pos} {i : Nat} {C' : Addr} {b0 : Stmt} {suite : List Stmt} {rest : List ExceptHandler} {ts : TS} {tr : TH}
theorem ph_nil : PHs X [] tNoHand := fun _ _ _ _ _ _ _ _ _ _ _ _ _ h => h.elim
theorem ph_as (c' : XCls X.K C') (hg : Gl X x) (hm : X.mg x = some (.ref C')) (hN : X.N.Nodup) (hi : X.N[i]? = some n) (hl : X.env.scope.names.lookup n = some .local) (hb : ∀ e, PSs (X.held e).nox (b0 :: suite) ts) (hr : PHs X rest tr) (hdb : (x == ("__debug__" : Str)) = false := by decide) :
    PHs X (.ExceptHandler (some (.Name x np)) (some n) (b0 :: suite) pos :: rest) (tHand X.K C' i ts tr) := by
  intro pins s σ H D ea T cls od I er le lt h
  obtain ⟨C, b, rfl, m, q⟩ := h
  refine wpAny_handleBy_cons (codeAny_handlers_test (ld_glob (X := X.held (.ref ea)) (I.held _) hg hm ?_ hdb)) (by intro z; cases z)
  obtain ⟨oe, vs, h1, h2, h3, h4, h5⟩ := id er.e
  refine exc_matches I.kIn ⟨oe, h1, h2⟩ c' m ?_
  cases b with
  | false => exact hr pins s σ H D ea T _ od I er le lt (by simpa using q)
  | true =>
    rw [if_pos rfl] at q
    refine codeAny_handlers_suite_as (st_land (fs := frs X.stack) er fun h' er' k => ?_)
    have I1 : Inv X pins σ H { s with heap := h' } := I.moved (tk := s.toks) k fun b hb => by rw [List.mem_singleton.mp hb]; exact lt.all
    have I2 := (I1.trackX le er'.e).held (.ref ea)
    refine store_ok (X := X.held (.ref ea)) (v := V.ref ea) I2 hN hi (.inl hl) rfl (fun s2 I3 => ?_) (.inr hl)
    refine wpAny_mono (hb (.ref ea) pins s2 _ _ _ (I3.wish _) (q ea le.un)) (fun f s3 z => ?_) fun _ _ z => False.elim z
    have back : ∀ {σ' : St} {H' : Hp}, Inv (X.held (.ref ea)).nox pins σ' H' s3 → Inv X pins σ' H' s3 := fun J => J.unwish.unheld I.ok.hd
    dsimp only
    cases f with
    | next =>
      obtain ⟨σ', H', J, z⟩ := z
      exact name_goes (back J) hN hi hl fun s4 J4 => ⟨_, H', J4, z⟩
    | brk =>
      obtain ⟨σ', H', J, z⟩ := z
      exact name_goes (back J) hN hi hl fun s4 J4 => ⟨_, H', J4, z⟩
    | cont =>
      obtain ⟨σ', H', J, z⟩ := z
      exact name_goes (back J) hN hi hl fun s4 J4 => ⟨_, H', J4, z⟩
    | ret u =>
      obtain ⟨v, σ', H', J, rv, z⟩ := z
      exact name_goes (back J) hN hi hl fun s4 J4 => ⟨v, _, H', J4, rv, z⟩
def tTry (tb : (St → XK) → TS) (th : TH) : TS := fun D σ H => tb (fun σ' cls od H' => th D σ' cls od H') D σ H
theorem ps_try {body : List Stmt} {h0 : ExceptHandler} {hs : List ExceptHandler} {tb : (St → XK) → TS} {th : TH} (hx : X.ex = []) (hst : X.stack = X.env :: X.outer) (hf : X.env.frame = some X.env.locals) (hb : PSsx (CXe X.prog X.w) X body tb) (hh : PHs X (h0 :: hs) th) :
    PS X (.Try body (h0 :: hs) [] [] pos) (tTry tb th) := by
  intro pins s σ H D I h
  refine wpAny_Try_except (wpAny_mono (hb _ pins s σ H D I h) (fun f s1 q => ?_) fun e s' z => ?_)
  · cases f with
    | next => exact wpAny_execs_nil q
    | ret v => exact q
    | brk => exact q
    | cont => exact q
  · obtain ⟨σ1, H1, s1, I1, ea, T, cls, od, H', rfl, os, bare, un, hok, n1, n2, f1, f2, er, q⟩ := z
    have J := I1.call' (ch := []) os un hok bare (by simp)
    have fresh : ∀ b, s1.heap.get? b = none → H' b = none → Loose X pins H' b := fun b z u => by
      obtain ⟨a1, a2, a3⟩ := I1.apart z
      refine ⟨u, ?_, a1, a2, a3⟩
      rcases I1.young z with y | y
      · exact y
      · rw [hx] at y; cases y
    have le := fresh ea f1 n1
    have lt := fresh T f2 n2
    have fr := J.ok.frames
    have st := J.stack
    rw [hst] at fr st
    refine st_next fr st hf er fun h2 T2 er2 k2 nT2 => ?_
    rw [← hst] at k2
    have J2 : Inv X pins σ1 H' { s' with heap := h2 } := J.moved (tk := s'.toks) k2 fun b hb => by
      simp only [List.mem_cons, List.not_mem_nil, or_false] at hb
      rcases hb with rfl | rfl
      · exact le.all
      · exact lt.all
    have lt2 : Loose X pins H' T2 := by
      obtain ⟨a1, a2, a3⟩ := J.apart nT2
      refine ⟨untr hok nT2, ?_, a1, a2, a3⟩
      rcases J.young nT2 with y | y
      · exact y
      · rw [hx] at y; cases y
    refine st_land (fs := frs X.stack) (s := { s' with heap := h2 }) er2 fun h3 er3 k3 => ?_
    have J3 : Inv X pins σ1 H' { s' with heap := h3 } := J2.moved (tk := s'.toks) k3 fun b hb => by rw [List.mem_singleton.mp hb]; exact lt2.all
    exact hh pins _ σ1 H' D ea T2 cls od J3 er3 le lt2 q
end
end L2
set_option Elab.async false
set_option linter.all false
set_option maxRecDepth 100000
namespace L2
open PySem PySem.Spec PyProof.Rows
structure RoomH (k : Nat) (A : Around) : Prop where
  dp : A.depth + 3 * k + 5 < recursionLimit
  un : A.units + 16 * k + 200 < cLine
theorem Room.h {k : Nat} {A : Around} (r : Room k A) : RoomH k A := ⟨r.dp, r.un⟩
theorem RoomH.mark {k : Nat} {A : Around} (r : RoomH k A) (e : Option Value) : RoomH k (A.mark e) := ⟨r.dp, r.un⟩
theorem RoomH.deeper {k : Nat} {A : Around} (r : RoomH (k + 1) A) (env : Env) : RoomH k (A.deeper env) :=
  ⟨by have := r.dp; show A.depth + 1 + 3 * k + 5 < _; omega, by have := r.un; show A.units + 3 + 16 * k + 200 < _; omega⟩
structure FnOkH (P : Program) (w : World) (K : PySem.W.Frag) (mg : Str → Option Value) (base : Heap) (k : Nat) (f : Addr) (fd : FuncData) (ps : List Str) (sp : Sp) : Prop where
  len : ∀ vs H Q E, sp vs H Q E → vs.length = ps.length
  run : ∀ (A : Around) (outer : List Env) (s : Shared) (H : Hp) (args : Args) (us : List Value) (vs : List V) (Q : VK) (E : XK), RoomH k A → Env0 P w K mg base A outer s H → BindsTo s fd args (ps.zip us) → Vals vs us → sp vs H Q E →
    codeAny (model P w) A (.call (.ref f) args) (CR CX0 outer P w H s Q E) s
section
variable {P : Program} {w : World} {K : PySem.W.Frag} {mg : Str → Option Value} {base : Heap}
abbrev cxH (P : Program) (w : World) (K : PySem.W.Frag) (mg : Str → Option Value) (base : Heap) (N : List Str) (qual : Str) (scope : Scope) (f : Addr) (cd : Value) (A : Around) (outer : List Env) (s : Shared) (H : Hp) : Cx := { cxOf CX0 P w K mg base N qual scope f cd A outer s H E0 with calm := false, xe := fun _ _ => False }
theorem Fun.okH {x qual : Str} {st : Stmt} {f : Addr} {fd : FuncData} {N ps : List Str} {k : Nat} {sp : Sp} (F : Fun K x qual st f fd) (S : FnScope N ps (defScope st)) (len : ∀ vs H Q E, sp vs H Q E → vs.length = ps.length)
    (hbody : ∀ (cdv : Value) (A : Around) (outer : List Env) (s : Shared) (H : Hp) (vs : List V) (Q : VK) (E : XK), RoomH k (A.deeper (envOfC qual (defScope st) s.heap.objs.size f cdv)) → sp vs H Q E →
      ∃ t, PSs (cxH P w K mg base N qual (defScope st) f cdv A outer s H) (defBody st) t ∧ t { nx := fun _ H' => Q .non H', rt := Q } (start N vs) H) : FnOkH P w K mg base (k + 1) f fd ps sp := by
  obtain ⟨oc, od, kV, doc, pm, an, cdv, ct, osl, rfl, lk, hcd⟩ := F.ex
  refine ⟨len, fun A outer s H args us vs Q E hr e0 hb r hsp => ?_⟩
  have hl := len _ _ _ _ hsp
  have KX : K.In s.heap := e0.mod.kin.keeps fun b o e => (e0.bs b o e).1
  have lim : s.heap.NoLimit := e0.mod.nolimit.keeps fun b o e => (e0.bs b o e).1
  have kinds : ∀ y ∈ ps.zip us, (defScope st).names.lookup y.1 = some .local ∨ ((defScope st).names.lookup y.1 = some .cell ∧ ((cellsFrom (s.heap.objs.size + 1) (defScope st).names []).lookup y.1).isSome = true) := fun ⟨n, v⟩ hy => by
    rcases S.par n (List.of_mem_zip hy).1 with q | q
    · exact .inl q
    · exact .inr ⟨q, PySem.W.cellsFrom_some _ _ _ (.inl q)⟩
  refine codeAny_call_function (by have := hr.dp; omega) (KX _ _ lk) rfl S.co S.gen rfl (PySem.W.codeRec_of KX hcd) (hb _ _ _ _ ?_)
  refine wpAny_newFunctionEnv_cells S.kind kinds fun env he s1 x1 => ?_
  subst he
  refine ⟨lim.keeps x1.toInCall.keep, codeAny_func ?_⟩
  obtain ⟨t, ht, hq⟩ := hbody cdv A outer s H vs Q E (hr.deeper _) hsp
  have e1 : Env0 P w K mg base ({ A with handled := none } : Around) outer s H := ⟨e0.frames, e0.mod, e0.bs, e0.bsz, e0.funs, e0.frf, e0.hok, e0.bare⟩
  have J := inv_start (CX := CX0) (E := E0) (qual := qual) (f := f) (cd := cdv) S (show ({ A with handled := none } : Around).handled = none from rfl) e1 hl r x1
  have I : Inv (cxH P w K mg base N qual (defScope st) f cdv A outer s H) [] (start N vs) H s1 :=
    ⟨⟨J.ok.mod, J.ok.kind, J.ok.glob, J.ok.blt, J.ok.above, J.ok.inj, J.ok.has, J.ok.cab, (fun z => nomatch z), Around.frames_deeper e0.frames, J.ok.stk, J.ok.exf, J.ok.bs, J.ok.bsz, J.ok.noex, J.ok.exfs, J.ok.funs, J.ok.frf⟩, J.os, J.bare, J.base, J.loc, J.cell, J.free, J.freeC, J.pin, J.hok, J.len⟩
  refine wpAny_mono (ht [] s1 (start N vs) H _ I hq) (fun fl s' hs => ?_) fun e s' hs => False.elim hs
  have fin : ∀ {σ' : St} {H' : Hp} {v : V} {u : Value}, Inv (cxH P w K mg base N qual (defScope st) f cdv A outer s H) [] σ' H' s' → RelV v u → Q v H' → CE outer P w H s Q u s' := fun J rv q => ⟨_, _, J.os, J.bare, J.base, J.hok, rv, q⟩
  cases fl with
  | ret u =>
    obtain ⟨v, σ', H', J, rv, q⟩ := hs
    exact fin J rv q
  | next =>
    obtain ⟨σ', H', J, q⟩ := hs
    exact fin (v := V.non) (u := Value.none) J rfl q
  | brk =>
    obtain ⟨_, _, _, q⟩ := hs
    exact False.elim q
  | cont =>
    obtain ⟨_, _, _, q⟩ := hs
    exact False.elim q
end
section
variable {X : Cx} {k : Nat} {f : Addr} {fd : FuncData} {ps : List Str} {sp : Sp} {x : Str} {p pos : Pos} {e : Expr} {es : List Expr} {t : TA}
theorem pe_callH (F : FnOkH X.prog X.w X.K X.mg X.base k f fd ps sp) (hr : RoomH k X.A) (hg : Gl X x) (hm : X.mg x = some (.ref f)) (hk : PySem.W.keepIn X.K (.ref f) = true) (hb : Binds X.K fd ps [])
    (ha : PA X (e :: es) t) (hdb : (x == ("__debug__" : Str)) = false := by decide) (he : starEach (e :: es) X.env = (false, eval e X.env) :: starEach es X.env := by rfl) (hpl : (backTo pos (starEach es X.env)).any (·.1) = false := by rfl) :
    PE X (.Call (.Name x p) (e :: es) [] pos) (tCall sp [] E0 t) := by
  intro pins s σ H Q I h
  refine wpAny_Call_Name_kw (ld_glob I hg hm ?_ hdb)
  refine PySem.W.callWith_K (h₀ := X.base) I.ok.mod.kin hk (thnA (ha pos pins s σ H _ I h) fun us s1 vs H1 I1 r q => ⟨I1.kIn, ?_⟩) he hpl
  have r2 : Vals (vs ++ []) (us ++ []) := r.append .nil
  have hl : (us ++ []).length = ps.length := by rw [← r2.length]; exact F.len _ _ _ _ q
  refine wpAny_call (codeAny_mono (F.run X.A X.stack s1 H1 ⟨us, []⟩ (us ++ []) (vs ++ []) Q E0 hr I1.env0 (hb s1 us I1.kIn hl) r2 q) fun r s' hq => ?_)
  cases r with
  | error e => exact False.elim hq
  | ok fl =>
    cases fl with
    | ret u => exact I1.after hq
    | next => exact False.elim hq
    | brk => exact False.elim hq
    | cont => exact False.elim hq
end
def ClsV (K : PySem.W.Frag) (C : Addr) : V → Bool → Prop
  | .ref C', b => XCls K C' ∧ PySem.W.mroIn K C (.ref C') = some b
  | .ty T, b => PySem.W.kitMeta T = true ∧ PySem.W.mroIn K C (.type T) = some b
  | _, _ => False
def XDict (H : Hp) : Option Addr → Prop
  | none => True
  | some d => ∃ fs, H d = some (.xd fs)
def rIsX (K : PySem.W.Frag) : List V → Hp → VK → Prop := fun xs H Q => ∃ ea C od cv b, xs = [.ref ea, cv] ∧ H ea = some (ExO ea (.ref C) od) ∧ XDict H od ∧ XCls K C ∧ ClsV K C cv b ∧ Q (.bl b) H
theorem kit_exc {K : PySem.W.Frag} {C : Addr} {cv : V} {u : Value} {b : Bool} (c : XCls K C) (r : RelV cv u) (h : ClsV K C cv b) : PySem.W.kitOne K (.ref C) u = some b := by
  unfold PySem.W.kitOne
  cases cv with
  | ref C' =>
    cases (show u = Value.ref C' from r)
    obtain ⟨c', m⟩ := h
    by_cases z : C = C'
    · subst z
      rw [c.sf] at m
      cases m
      simp
    · have : (Value.ref C == Value.ref C') = false := by simpa using z
      rw [this]
      simp only [Bool.false_eq_true, if_false]
      unfold PySem.W.kitCls
      have q : ((PySem.W.clsIn K C').isSome && PySem.W.typeIn K (.ref C') == some (.type "type")) = true := by
        obtain ⟨cd, e, _⟩ := PySem.W.any_some c'.hd
        rw [e, c'.ty]
        simp
      simp only [q, if_true]
      exact m
  | ty T =>
    cases (show u = Value.type T from r)
    obtain ⟨c', m⟩ := h
    have : (Value.ref C == Value.type T) = false := by simp
    rw [this]
    simp only [Bool.false_eq_true, if_false]
    unfold PySem.W.kitCls
    simp only [c', if_true]
    exact m
  | non => exact h.elim
  | bl => exact h.elim
  | int => exact h.elim
  | str => exact h.elim
  | byt => exact h.elim
  | flt => exact h.elim
section
variable {X : Cx}
theorem exc_inst {pins : List (Addr × Obj)} {σ : St} {H : Hp} {s : Shared} {ea C : Addr} {od : Option Addr} (I : Inv X pins σ H s) (h : H ea = some (ExO ea (.ref C) od)) (d : XDict H od) : ∃ ox oo, PySem.W.InstAt s.heap ea ox C oo := by
  obtain ⟨⟨oe, vs, h1, h2, h3, h4⟩, _⟩ := (show ObjOk X.prog X.w H s.heap ea (ExO ea (.ref C) od) from I.hok ea _ h)
  have nc : PySem.W.notCls oe = true := by unfold PySem.W.notCls; rw [h4]
  cases od with
  | none => exact ⟨oe, none, h1, h2, nc, by rw [h3]; trivial⟩
  | some dx =>
    obtain ⟨fs, hd⟩ := d
    obtain ⟨mA, ⟨o, es, ep, e, _⟩, _⟩ := (show ObjOk X.prog X.w H s.heap dx (.xd fs) from I.hok dx _ hd)
    exact ⟨oe, some o, h1, h2, nc, by rw [h3]; exact e⟩
theorem call_isX : CallR X (.builtin "isinstance") (rIsX X.K) := by
  intro pins s σ H xs us Q I r h
  obtain ⟨ea, C, od, cv, b, rfl, he, hd, c, hk, q⟩ := h
  obtain ⟨u, cu, rfl, ru, rc⟩ := vals2 r
  cases (show u = Value.ref ea from ru)
  obtain ⟨ox, oo, ia⟩ := exc_inst I he hd
  exact PySem.W.kia_one (kitx_exc (x := ea) (ox := ox) (od := oo) c) I.kIn ia (kit_exc c rc hk) (fun z => nomatch z) fun tk => ⟨.bl b, H, I.tok tk, rfl, q⟩
end
def clOf (cells : List (Str × Addr)) : List (Str × NameKind) → List (Str × Addr) → List (Str × Addr)
  | [], acc => acc
  | (n, k) :: r, acc => if k == .free then clOf cells r ((n, (cells.lookup n).getD 0) :: acc) else clOf cells r acc
theorem closure_of {scope : Scope} {env : Env} (h : ∀ y ∈ scope.names, y.2 = .free → (env.cells.lookup y.1).isSome = true) : closureFor scope env = pure (clOf env.cells scope.names []) := by
  have key : ∀ (l : List (Str × NameKind)) (acc : List (Str × Addr)), (∀ y ∈ l, y.2 = .free → (env.cells.lookup y.1).isSome = true) →
      (forIn l acc fun (y : Str × NameKind) (c : List (Str × Addr)) => (if y.2 == NameKind.free then do let a ← cellOf env y.1; pure (ForInStep.yield ((y.1, a) :: c)) else pure (ForInStep.yield c) : Sem (ForInStep (List (Str × Addr))))) = (pure (clOf env.cells l acc) : Sem (List (Str × Addr))) := by
    intro l
    induction l with
    | nil => intro acc _; rfl
    | cons y l ih =>
      obtain ⟨n, k⟩ := y
      intro acc hh
      have h1 := hh (n, k) List.mem_cons_self
      have h2 : ∀ y ∈ l, y.2 = .free → (env.cells.lookup y.1).isSome = true := fun y hy => hh y (List.mem_cons_of_mem _ hy)
      rw [List.forIn_cons]
      unfold clOf
      cases q : k == NameKind.free with
      | false =>
        simp only [Bool.false_eq_true, if_false, pure_bind]
        exact ih acc h2
      | true =>
        obtain ⟨c, hc⟩ := Option.isSome_iff_exists.mp (h1 (by simpa using q))
        dsimp only at hc
        simp only [if_true, cellOf, hc, pure_bind, Option.getD_some]
        exact ih _ h2
  have := key scope.names [] h
  unfold closureFor
  simp only [bind_pure]
  exact this
theorem clOf_sub {cells : List (Str × Addr)} {x : Str} {c : Addr} : ∀ {l : List (Str × NameKind)} {acc : List (Str × Addr)}, (∀ y ∈ l, y.2 = .free → (cells.lookup y.1).isSome = true) → (∀ x c, acc.lookup x = some c → cells.lookup x = some c) → (clOf cells l acc).lookup x = some c → cells.lookup x = some c
  | [], acc, _, h2, h3 => h2 x c h3
  | (n, k) :: r, acc, h1, h2, h3 => by
    have h1' : ∀ y ∈ r, y.2 = .free → (cells.lookup y.1).isSome = true := fun y hy => h1 y (List.mem_cons_of_mem _ hy)
    unfold clOf at h3
    cases q : k == NameKind.free with
    | false =>
      rw [q] at h3
      exact clOf_sub h1' h2 (by simpa using h3)
    | true =>
      rw [q] at h3
      simp only [if_true] at h3
      obtain ⟨a, ha⟩ := Option.isSome_iff_exists.mp (h1 (n, k) List.mem_cons_self (by simpa using q))
      dsimp only at ha
      rw [ha] at h3
      refine clOf_sub h1' (fun y d hy => ?_) h3
      rw [List.lookup_cons] at hy
      cases z : y == n with
      | true =>
        rw [z] at hy
        cases hy
        rw [eq_of_beq z]
        exact ha
      | false =>
        rw [z] at hy
        exact h2 y d hy
theorem clOf_has {cells : List (Str × Addr)} {x : Str} : ∀ {l : List (Str × NameKind)} {acc : List (Str × Addr)}, ((∃ c, acc.lookup x = some c) ∨ (x, NameKind.free) ∈ l) → ∃ c, (clOf cells l acc).lookup x = some c
  | [], acc, h => by
    rcases h with h | h
    · exact h
    · cases h
  | (n, k) :: r, acc, h => by
    unfold clOf
    cases q : k == NameKind.free with
    | false =>
      simp only [Bool.false_eq_true, if_false]
      refine clOf_has ?_
      rcases h with h | h
      · exact .inl h
      · rcases List.mem_cons.mp h with z | z
        · cases z
          simp at q
        · exact .inr z
    | true =>
      simp only [if_true]
      refine clOf_has ?_
      by_cases z : x = n
      · subst z
        exact .inl ⟨(cells.lookup x).getD 0, by rw [List.lookup_cons]; simp⟩
      · rcases h with ⟨c, h⟩ | h
        · refine .inl ⟨c, ?_⟩
          rw [List.lookup_cons]
          have : (x == n) = false := by simpa using z
          rw [this]
          exact h
        · rcases List.mem_cons.mp h with y | y
          · cases y
            exact absurd rfl z
          · exact .inr y
theorem relabel_lookup {env : Env} {x : Str} {k : NameKind} : ∀ {l : List (Str × NameKind)}, l.lookup x = some k →
    (l.map fun (n, k) => if (k == NameKind.free && env.scope.kind == .function && env.kindOf n == some .cell) then (n, NameKind.cell) else (n, k)).lookup x = some (if (k == NameKind.free && env.scope.kind == .function && env.kindOf x == some .cell) then NameKind.cell else k)
  | [], h => by simp at h
  | (n, j) :: r, h => by
    have ih := @relabel_lookup env x k r
    rw [List.map_cons]
    rw [List.lookup_cons] at h
    cases z : x == n with
    | true =>
      rw [z] at h
      cases h
      have e := eq_of_beq z
      subst e
      by_cases q : (k == NameKind.free && env.scope.kind == .function && env.kindOf x == some .cell) = true
      · simp only [q, if_true, List.lookup_cons, z]
      · simp only [q, if_false, List.lookup_cons, z, Bool.false_eq_true]
    | false =>
      rw [z] at h
      dsimp only
      by_cases q : (j == NameKind.free && env.scope.kind == .function && env.kindOf n == some .cell) = true
      · rw [if_pos q, List.lookup_cons, z]
        exact ih h
      · rw [if_neg q, List.lookup_cons, z]
        exact ih h
theorem ct_clos {X : Cx} {Nc : List Str} {scope : Scope} (own : Nat) (js : List Nat) (hc : ∀ y ∈ scope.names, y.2 ≠ .cell) (hk : scope.kind = .function) (hn : ∀ y ∈ scope.names, y.2 = .local → scope.names.lookup y.1 = some .local) (hl : Nc.length = own + js.length)
    (hf : ∀ y ∈ scope.names, y.2 = .free → X.env.scope.names.lookup y.1 = some .cell) (hX : X.env.scope.kind = .function) (hcell : ∀ x, X.env.scope.names.lookup x = some .cell → ∃ c, X.env.cells.lookup x = some c)
    (hU : ∀ i, i < js.length → ∃ x j, Nc[own + i]? = some x ∧ js[i]? = some j ∧ X.N[j]? = some x ∧ scope.names.lookup x = some .free) : CompTxt X Nc own js scope (clOf X.env.cells scope.names []) := by
  have hs : ∀ y ∈ scope.names, y.2 = .free → (X.env.cells.lookup y.1).isSome = true := fun y hy e => by
    obtain ⟨c, q⟩ := hcell _ (hf y hy e)
    rw [q]
    rfl
  have free_cell : ∀ x, scope.names.lookup x = some .free → X.env.scope.names.lookup x = some .cell := fun x h => hf (x, .free) (PySem.mem_of_lookup h) rfl
  refine ⟨closure_of hs, hk, hc, hn, fun x c h => clOf_sub hs (fun x c z => by simp at z) h, fun x h => ?_, hl, fun i x h => ?_⟩
  · cases q : scope.names.lookup x with
    | none =>
      exfalso
      have : (relabel scope X.env).names.lookup x = none := by
        unfold relabel
        dsimp only
        revert q
        generalize scope.names = l
        induction l with
        | nil => intro _; rfl
        | cons y l ih =>
          obtain ⟨n, k⟩ := y
          intro q
          rw [List.lookup_cons] at q
          cases z : x == n with
          | true => rw [z] at q; cases q
          | false =>
            rw [z] at q
            rw [List.map_cons]
            dsimp only
            by_cases w : (k == NameKind.free && X.env.scope.kind == .function && X.env.kindOf n == some .cell) = true
            · rw [if_pos w, List.lookup_cons, z]
              exact ih q
            · rw [if_neg w, List.lookup_cons, z]
              exact ih q
      rw [this] at h
      rcases h with h | h <;> cases h
    | some k =>
      have r : (relabel scope X.env).names.lookup x = some _ := relabel_lookup (env := X.env) q
      cases k with
      | free => exact clOf_has (.inr (PySem.mem_of_lookup q))
      | cell => exact absurd rfl (hc _ (PySem.mem_of_lookup q))
      | _ =>
        rw [r] at h
        simp at h
  · have hi : i < js.length := by
      have := (List.getElem?_eq_some_iff.mp h).1
      omega
    obtain ⟨y, j, e1, e2, e3, e4⟩ := hU i hi
    rw [h] at e1
    cases e1
    have fc := free_cell x e4
    refine ⟨j, e2, e3, fc, ?_⟩
    have r : (relabel scope X.env).names.lookup x = some _ := relabel_lookup (env := X.env) e4
    rw [r]
    have : X.env.kindOf x = some .cell := fc
    rw [this, hX]
    rfl
end L2
set_option Elab.async false
set_option linter.all false
set_option maxRecDepth 100000
namespace L2
open PySem PySem.Spec PyProof.Rows
section
variable {X : Cx}
end
theorem mro_own {K : PySem.W.Frag} {C T : Addr} {c0 : Value} {dd : Option Addr} {cd : ClassData} {sl : Array (Option Value)} (h : K.lookup C = some ⟨c0, dd, .cls cd, sl⟩) (m : cd.mro = .ref C :: .ref T :: bmV) (C' : Addr) : PySem.W.mroIn K C (.ref C') = some (decide (C' = C) || decide (C' = T)) := by
  unfold PySem.W.mroIn PySem.W.clsIn
  rw [h]
  simp only [Option.bind_some, m, List.isEmpty_cons, Bool.false_eq_true, if_false]
  congr 1
  by_cases h1 : C' = C
  · subst h1; simp
  · by_cases h2 : C' = T
    · subst h2; simp
    · have a : (Value.ref C' == Value.ref C) = false := by simpa using h1
      have b : (Value.ref C' == Value.ref T) = false := by simpa using h2
      simp [List.contains_cons, a, b, h1, h2]
structure XErr (K : PySem.W.Frag) (T C : Addr) : Prop where
  x : XCls K C
  mr : ∀ C', PySem.W.mroIn K C (.ref C') = some (decide (C' = C) || decide (C' = T))
  mv : PySem.W.mroIn K C (.type "ValueError") = some true
theorem mro_ty {K : PySem.W.Frag} {C : Addr} {c0 : Value} {dd : Option Addr} {cd : ClassData} {sl : Array (Option Value)} {r : List Value} (h : K.lookup C = some ⟨c0, dd, .cls cd, sl⟩) (m : cd.mro = .ref C :: r) {v : Value} (hv : (Value.ref C :: r).contains v = true) : PySem.W.mroIn K C v = some true := by
  unfold PySem.W.mroIn PySem.W.clsIn
  rw [h]
  simp only [Option.bind_some, m, List.isEmpty_cons, Bool.false_eq_true, if_false, hv]
section
variable {K : PySem.W.Frag} {T C : Addr} {c0 : Value} {dd : Option Addr} {cd : ClassData} {sl : Array (Option Value)}
theorem xcls_mk {r : List Value} (h1 : PySem.W.typeIn K (.ref C) = some (.type "type")) (h2 : PySem.W.findIn K (.ref C) "__getattribute__" = some (some (.builtin "BaseException.__getattribute__"))) (h3 : PySem.W.findIn K (.ref C) "__getattr__" = some none)
    (h4 : PySem.W.findIn K (.ref C) "__class__" = some (some (.builtin "object.__class__"))) (h5 : PySem.W.specialIn K (.builtin "object.__class__") "__get__" = some (some (.builtin "getset_descriptor.__get__"))) (h6 : PySem.W.takesIn K (.builtin "object.__class__") = some true)
    (h7 : PySem.W.hasDictIn K C = true) (h : K.lookup C = some ⟨c0, dd, .cls cd, sl⟩) (m : cd.mro = .ref C :: r) (a : r.contains (.type "object") = true) (b : r.contains (.type "BaseException") = true) : XCls K C :=
  ⟨h1, h2, h3, h4, h5, h6, mro_ty h m (by rw [List.contains_cons, a, Bool.or_true]), mro_ty h m (by rw [List.contains_cons, b, Bool.or_true]), h7, mro_ty h m (by simp)⟩
structure XTop (K : PySem.W.Frag) (T : Addr) : Prop where
  x : XCls K T
theorem xtop_of (h1 : PySem.W.typeIn K (.ref C) = some (.type "type")) (h2 : PySem.W.findIn K (.ref C) "__getattribute__" = some (some (.builtin "BaseException.__getattribute__"))) (h3 : PySem.W.findIn K (.ref C) "__getattr__" = some none)
    (h4 : PySem.W.findIn K (.ref C) "__class__" = some (some (.builtin "object.__class__"))) (h5 : PySem.W.specialIn K (.builtin "object.__class__") "__get__" = some (some (.builtin "getset_descriptor.__get__"))) (h6 : PySem.W.takesIn K (.builtin "object.__class__") = some true)
    (h7 : PySem.W.hasDictIn K C = true) (h : K.lookup C = some ⟨c0, dd, .cls cd, sl⟩) (m : cd.mro = .ref C :: bmV) : XTop K C := ⟨xcls_mk h1 h2 h3 h4 h5 h6 h7 h m (by decide +kernel) (by decide +kernel)⟩
theorem xerr_mk (h1 : PySem.W.typeIn K (.ref C) = some (.type "type")) (h2 : PySem.W.findIn K (.ref C) "__getattribute__" = some (some (.builtin "BaseException.__getattribute__"))) (h3 : PySem.W.findIn K (.ref C) "__getattr__" = some none)
    (h4 : PySem.W.findIn K (.ref C) "__class__" = some (some (.builtin "object.__class__"))) (h5 : PySem.W.specialIn K (.builtin "object.__class__") "__get__" = some (some (.builtin "getset_descriptor.__get__"))) (h6 : PySem.W.takesIn K (.builtin "object.__class__") = some true)
    (h7 : PySem.W.hasDictIn K C = true) (h : K.lookup C = some ⟨c0, dd, .cls cd, sl⟩) (m : cd.mro = .ref C :: .ref T :: bmV) : XErr K T C := by
  have a : (Value.ref T :: bmV).contains (.type "object") = true := by rw [List.contains_cons]; simp [bmV]
  have b : (Value.ref T :: bmV).contains (.type "BaseException") = true := by rw [List.contains_cons]; simp [bmV]
  have c : (Value.ref T :: bmV).contains (.type "ValueError") = true := by rw [List.contains_cons]; simp [bmV]
  exact ⟨xcls_mk h1 h2 h3 h4 h5 h6 h7 h m a b, mro_own h m, mro_ty h m (by rw [List.contains_cons, c, Bool.or_true])⟩
end
section
variable {P : Program} {w : World} {K : PySem.W.Frag} {mg : Str → Option Value} {base : Heap}
theorem Fun.okX {x qual : Str} {st : Stmt} {f : Addr} {fd : FuncData} {N ps : List Str} {k : Nat} {sp : Sp} (F : Fun K x qual st f fd) (S : FnScope N ps (defScope st)) (len : ∀ vs H Q E, sp vs H Q E → vs.length = ps.length)
    (hbody : ∀ (cdv : Value) (A : Around) (outer : List Env) (s : Shared) (H : Hp) (vs : List V) (Q : VK) (E : XK), Room k (A.deeper (envOfC qual (defScope st) s.heap.objs.size f cdv)) → sp vs H Q E →
      ∃ t, PSs (cxOf (CXe P w) P w K mg base N qual (defScope st) f cdv A outer s H E) (defBody st) t ∧ t { nx := fun _ H' => Q .non H', rt := Q } (start N vs) H) : FnOk P w K mg base (CXe P w) (k + 1) f fd ps sp := by
  obtain ⟨oc, od, kV, doc, pm, an, cdv, ct, osl, rfl, lk, hcd⟩ := F.ex
  exact fn_of lk hcd S len fun A outer s H vs Q E hr hsp => hbody cdv A outer s H vs Q E hr hsp
end
theorem tRaise_eq {C : Addr} {E : XK} {t : TA} {D : Ends} {σ : St} {H : Hp} : tRaise C E t D σ H = t σ H fun vs H1 => vs.length ≤ sizeLine ∧ E (.ref C) none H1 := rfl
theorem tTry_eq {tb : (St → XK) → TS} {th : TH} {D : Ends} {σ : St} {H : Hp} : tTry tb th D σ H = tb (fun σ' cls od H' => th D σ' cls od H') D σ H := rfl
theorem tHand_eq {K : PySem.W.Frag} {C' : Addr} {i : Nat} {ts : TS} {tr : TH} {D : Ends} {σ : St} {cls : Value} {od : Option Addr} {H : Hp} : tHand K C' i ts tr D σ cls od H = ∃ C b, cls = .ref C ∧ PySem.W.mroIn K C (.ref C') = some b ∧
  if b = true then ∀ ea, H ea = none → ts (D.less i) (σ.set i (some (.ref ea))) (upd H ea (ExO ea cls od)) else tr D σ cls od H := rfl
theorem pb_ValueError : bootBuiltins "ValueError" = some (.type "ValueError") := by decide +kernel
theorem isX_own {K : PySem.W.Frag} {H : Hp} {ea C C' Tl : Addr} {od : Option Addr} {Q : VK} (he : H ea = some (ExO ea (.ref C) od)) (hd : XDict H od) (xe : XErr K Tl C) (x' : XErr K Tl C') (ne : C' ≠ Tl) (q : Q (.bl (decide (C' = C))) H) : rIsX K [.ref ea, .ref C'] H Q := by
  refine ⟨ea, C, od, .ref C', decide (C' = C), rfl, he, hd, xe.x, ⟨x'.x, ?_⟩, q⟩
  rw [xe.mr, decide_eq_false ne, Bool.or_false]
theorem isX_val {K : PySem.W.Frag} {H : Hp} {ea C Tl : Addr} {od : Option Addr} {Q : VK} (he : H ea = some (ExO ea (.ref C) od)) (hd : XDict H od) (xe : XErr K Tl C) (q : Q (.bl true) H) : rIsX K [.ref ea, .ty "ValueError"] H Q :=
  ⟨ea, C, od, .ty "ValueError", true, rfl, he, hd, xe.x, ⟨by decide +kernel, xe.mv⟩, q⟩
theorem XDict.same {H H' : Hp} {od : Option Addr} (e : Same H H') (h : XDict H od) : XDict H' od := by
  cases od with
  | none => trivial
  | some d =>
    obtain ⟨fs, h⟩ := h
    exact ⟨fs, e _ _ h⟩
theorem catR {H : Hp} {l b : Addr} {xs zs : List V} {Q : VK} (h1 : H l = some (.lst xs)) (h2 : H b = some (.lst zs)) (hz : xs.length + zs.length ≤ sizeLine) (q : ∀ p, H p = none → Q (.ref p) (upd H p (.lst (xs ++ zs)))) : rCat (.ref l) (.ref b) H Q := ⟨l, b, xs, zs, rfl, rfl, h1, h2, hz, q⟩
end L2
set_option Elab.async false
set_option linter.all false
set_option maxRecDepth 100000
namespace L2
open PySem PySem.Spec PyProof.Rows
theorem asg_name {M : Model} {A : Around} {E : Value → Shared → Prop} {s : Shared} {env : Env} {x : Str} {px : Pos} {v : Value} {Q : Unit → Shared → Prop} (h : wpAny M A (storeName env x v) Q E s) : wpAny M A (assign (.Name x px) env v) Q E s := by
  show wpAny M A (do standAt px; bindName env x v) Q E s
  exact wpAny_bind (wpAny_standAt (wpAny_bindName h))
section
variable {X : Cx} {Nc : List Str} {own : Nat} {js : List Nat} {scope : Scope} {cl : List (Str × Addr)}
theorem ps_setComp {i : Nat} {x : Str} {px pos : Pos} {elt target iter : Expr} {ifs : List Expr} {cpos : Pos} {wi : TI} {g : TG} {tc : TT} {te : TE} (hN : X.N.Nodup) (hxi : X.N[i]? = some x) (hxl : X.env.scope.names.lookup x = some .local) (hc : X.calm = true) (T : CompTxt X Nc own js scope cl)
    (hi : PI X target iter wi) (hg : ∀ C s₂ H₁ fp, PG (X.comp Nc scope cl C s₂ H₁ fp) target g) (ht : ∀ C s₂ H₁ fp, PTs (X.comp Nc scope cl C s₂ H₁ fp) ifs tc)
    (he : ∀ C s₂ H₁ fp, PE (X.comp Nc scope cl C s₂ H₁ fp) elt te) (hs : ∀ x, foldedSetIterable iter X.env x = pure x := by intro _; rfl)
    (hsw : swapsWith (.ListComp elt [⟨target, iter, ifs, 0⟩] scope cpos) (some (.Name x px)) pos.line X.env = pure true := by rfl) :
    PS X (.Assign [.Name x px] (.ListComp elt [⟨target, iter, ifs, 0⟩] scope cpos) pos) (tAsg (tComp own js wi g tc te) (gName i)) := by
  intro pins s σ H D I h
  rw [exec_Assign_Name_used _ _ _ _ hsw]
  refine wpAny_bind (wpAny_standAt (wpAny_bind ?_))
  rw [arm_evalThenUse_ListComp]
  refine wpAny_bind ?_
  refine wpAny_comprehension_free (use := some (assign (.Name x px) X.env)) rfl hs T.clos T.kind T.names (thn (hi pins s σ H _ I h) fun v s1 h1 => thn h1 fun itv s2 h2 => ?_)
  obtain ⟨it, fp, tn, J, H1, rfl, I1, Tn, st, f1, R⟩ := h2
  have hfp : ∀ b ∈ fp, b < s2.heap.objs.size := fun b hb => let ⟨o, e, _⟩ := Tn.obj _ _ st b hb; Heap.lt_size e
  refine wpAny_newObj_type (wpAny_newFunctionEnv T.nocell (by intro y hy; simp at hy) (fun h₁ hns₁ hsb₁ => ?_) T.kind)
  dsimp only at hns₁ hsb₁ ⊢
  generalize hH2 : s2.heap.push { cls := .type "list", dict := none, data := .seq ([] : List Value).toArray } = H2 at hns₁ hsb₁ ⊢
  have hC : H2.objs.size = s2.heap.objs.size + 1 := by rw [← hH2, Heap.size_push]
  have hDC : s2.heap.objs.size ≠ H2.objs.size := by rw [hC]; exact Nat.ne_of_lt (Nat.lt_succ_self _)
  have hCle : s2.heap.objs.size ≤ H2.objs.size := by rw [hC]; exact Nat.le_succ _
  have below : ∀ b, b < s2.heap.objs.size → b ≠ H2.objs.size := fun b hb => by rw [hC]; exact Nat.ne_of_lt (Nat.lt_succ_of_lt hb)
  have old : ∀ b o, s2.heap.get? b = some o → h₁.get? b = some o := fun b o e => hsb₁.extBut b o (below b (Heap.lt_size e)) (Heap.get?_push_of_some _ (hH2 ▸ Heap.get?_push_of_some _ e))
  have hacc : ∃ n, h₁.get? s2.heap.objs.size = some { cls := .type "list", data := .seq ([] : List Value).toArray n } := ⟨_, hsb₁.extBut _ _ hDC (Heap.get?_push_of_some _ (hH2 ▸ Heap.get?_push_size _ rfl))⟩
  have st₁ : tn 0 h₁ := Tn.keep _ _ _ st fun b _ o e => old b o e
  obtain ⟨W, ⟨m0, w0⟩, turn⟩ := R s2.heap.objs.size I1.fresh
  have Ic := comp_inv (t := s2.toks + ([] : List (Str × Value)).length) T I1 hCle (Nat.le_refl _) hDC f1 hfp old hns₁ hacc
  generalize hXc : X.comp Nc scope cl H2.objs.size s2 H1 fp = Xc at Ic
  have stat : ∀ {H' : Hp}, (∀ b ∈ fp, H' b = none) → ∀ b ∈ fp, FpOk Xc [] H' b := fun {H'} hn b hb => by
    subst hXc
    exact ⟨hn b hb, below b (hfp b hb), (comp_ok T I1 hCle f1 hfp).exfs b hb, .inl hb, fun x c e => (f1 b hb).2.2.2.2.1 x c (T.cells x c e), fun p hp => by cases hp⟩
  have fr0 : ∀ b ∈ fp, upd H1 s2.heap.objs.size (.lst []) b = none := fun b hb => by
    rw [upd_ne (Nat.ne_of_lt (hfp b hb))]
    exact (f1 b hb).1
  have calmc : Xc.calm = true := by subst hXc; exact hc
  have loop : ∀ s₃ : Shared, s₃ = { s2 with heap := h₁, toks := s2.toks + ([] : List (Str × Value)).length } →
      codeAny (model X.prog X.w) X.A (.compLoop (.ListComp elt [⟨target, iter, ifs, 0⟩] scope cpos) 0 (.ref it) (.ref s2.heap.objs.size) (compEnvC scope cl H2.objs.size X.env))
        (compPost (model X.prog X.w) X.A X.xe (some (assign (.Name x px) X.env)) (fun _ s' => wpAny (model X.prog X.w) X.A (pure ()) (fun _ s'' => wpAny (model X.prog X.w) X.A (pure Flow.next) (SP X pins D) X.xe s'') X.xe s') (.ref s2.heap.objs.size) H2.objs.size) s₃ := by
    rintro s₃ rfl
    refine compLoop_go (fun n s' => ∃ i ys σ' H', Inv Xc [] σ' H' s' ∧ tn i s'.heap ∧ (∀ b ∈ fp, H' b = none) ∧ W i n ys σ' H') ?_ m0 ⟨0, [], _, _, Ic, st₁, fr0, w0⟩
    rintro n s3 ⟨i, ys, σ3, H3, I3, st3, fr3, w3⟩
    rcases turn i n ys σ3 H3 w3 with ⟨stop, q⟩ | ⟨go, step⟩
    · subst hXc
      refine thn (Tn.done (X.comp Nc scope cl H2.objs.size s2 H1 fp) rfl rfl rfl hc i [] s3 σ3 H3 _ I3 (stat fr3) st3 stop) fun r s4 ⟨hr, I4⟩ => ?_
      subst hr
      obtain ⟨m4, hn4, _⟩ := id I4.loc
      have J := comp_back I1 hCle f1 I4 (h' := s4.heap) (Heap.SameBut.refl _ _)
      have cl0 : H2.objs.size ≠ X.env.locals := Nat.ne_of_gt (Nat.lt_of_lt_of_le I1.lt hCle)
      have cy : X.s₀.heap.objs.size ≤ H2.objs.size := Nat.le_trans I1.sz hCle
      have cc : ∀ y c, X.env.cells.lookup y = some c → c ≠ H2.objs.size := fun y c e => by
        obtain ⟨v', o', ho', _⟩ := I1.cell y c e
        exact Nat.ne_of_lt (Nat.lt_of_lt_of_le (Heap.lt_size ho') hCle)
      have cp : ∀ p ∈ X.pn ++ pins, p.1 ≠ H2.objs.size := fun p hp => by
        obtain ⟨ho', _⟩ := I1.pin p hp
        exact Nat.ne_of_lt (Nat.lt_of_lt_of_le (Heap.lt_size ho') hCle)
      refine asg_name (store_ok2 (v := .ref s2.heap.objs.size) J hN hxi (.inl hxl) rfl (fun s5 I5 ⟨ad, sb, had⟩ => ?_) (.inr hxl))
      have nad : H2.objs.size ≠ ad := by
        rcases had with rfl | had
        · exact cl0
        · exact (cc _ _ had).symm
      obtain ⟨oo, es, ep, e1, e2⟩ := hn4
      refine ⟨m4, ⟨oo, es, ep, (sb.2 _ nad).trans e1, e2⟩, fun h' hs' => wpAny_pure (wpAny_pure ⟨_, H3, ?_, q⟩)⟩
      exact I5.turned (it := H2.objs.size) (t' := s5.toks) (fun b o n e => hs'.extBut b o n e) I4.free cl0 (.inr cy) cc cp
    · subst hXc
      refine thn (Tn.item (X.comp Nc scope cl H2.objs.size s2 H1 fp) rfl rfl rfl hc i [] s3 σ3 H3 _ I3 (stat fr3) st3 go) fun r s4 ⟨u, hr, h4⟩ => ?_
      subst hr
      refine thn h4 fun _ s5 ⟨x, H5, I5, r5, y5, st5, fr5⟩ => ?_
      have I5' := I5.pinned (stat fr5) (Tn.obj _ _ st5)
      have back : ∀ {σ7 : St} {H7 : Hp} {s7 : Shared}, Inv (X.comp Nc scope cl H2.objs.size s2 H1 fp) ([] ++ pinsAt fp s5.heap) σ7 H7 s7 → Inv (X.comp Nc scope cl H2.objs.size s2 H1 fp) [] σ7 H7 s7 ∧ tn (i + 1) s7.heap ∧ ∀ b ∈ fp, H7 b = none := fun {σ7 H7 s7} I7 => by
        refine ⟨I7.unpinned, Tn.keep _ _ _ st5 fun b hb o e => (I7.pin (b, o) (List.mem_append_right _ (List.mem_append_right _ (mem_pinsAt hb e)))).1, fun b hb => ?_⟩
        obtain ⟨o, e, d⟩ := Tn.obj _ _ st5 b hb
        exact (I7.pin (b, o) (List.mem_append_right _ (List.mem_append_right _ (mem_pinsAt hb e)))).2.1
      refine thn (hg _ _ _ _ _ s5 σ3 H5 x u _ I5' r5 (step x H5 y5)) fun _ s6 ⟨σ6, H6, I6, q6⟩ => ?_
      refine thnT (ht _ _ _ _ _ s6 σ6 H6 _ I6 q6) fun ok s7 H7 I7 q7 => ?_
      cases ok with
      | false =>
        rw [if_neg Bool.false_ne_true] at q7 ⊢
        obtain ⟨m', hm, w7⟩ := q7
        obtain ⟨J1, J2, J3⟩ := back I7
        exact ⟨m', hm, i + 1, ys, σ6, H7, J1, J2, J3, w7⟩
      | true =>
        rw [if_pos rfl] at q7 ⊢
        refine thnE (he _ _ _ _ _ s7 σ6 H7 _ I7 q7) fun y s8 yv H8 I8 r8 ⟨hp8, hl8, m', hm, w8⟩ => ?_
        refine thn (mt_append _ s8 σ6 H8 (.ref s2.heap.objs.size) [yv] _ [y] (fun v' H' => W (i + 1) m' (ys ++ [yv]) σ6 H') I8 rfl (.cons r8 .nil) ⟨_, ys, yv, rfl, rfl, hp8, hl8, w8⟩) fun v9 s9 ⟨_, H9, I9, _, w9⟩ => ?_
        obtain ⟨J1, J2, J3⟩ := back I9
        exact ⟨m', hm, i + 1, ys ++ [yv], σ6, H9, J1, J2, J3, w9⟩
  exact codeAny_compStart_list (loop _ rfl) (Tn.self _ 0 _ _ _ st₁ (loop _ rfl))
end
end L2
set_option Elab.async false
set_option linter.all false
set_option maxRecDepth 100000
namespace L2
open PySem PySem.Spec PyProof.Rows
end L2
set_option Elab.async false
set_option linter.all false
set_option maxRecDepth 100000
namespace Pb
open L2 PySem
variable {m : Int} {rs : List Road} {r : Int} {par : Int → Int} {dep : Int → Nat}
end Pb
set_option Elab.async false
set_option linter.all false
set_option maxRecDepth 100000
namespace L2
open PySem PySem.Spec PyProof.Rows
def Itv (K : PySem.W.Frag) (a : Addr) (n : Nat) : It :=
  ⟨fun i H => i < n ∧ ∃ xs x, SqL K H a xs ∧ xs[n - 1 - i]? = some x, fun i H x H' => H' = H ∧ ∀ xs, SqL K H a xs → xs[n - 1 - i]? = some x, fun i H => n ≤ i⟩
def iRev (K : PySem.W.Frag) (tl : TE) : TI := fun σ H R => tl σ H fun x H1 => ∃ a xs, x = .ref a ∧ SqL K H1 a xs ∧ R (Itv K a xs.length) H1
section
variable {X : Cx} {tg e : Expr} {te : TE} {p2 pos : Pos}
end
end L2
set_option Elab.async false
set_option linter.all false
set_option maxRecDepth 100000
namespace L2
open PySem PySem.Spec PyProof.Rows
def tListR (te : TE) : TE := fun σ H Q => te σ H fun x H1 => ∃ i, x = .int i ∧ 0 ≤ i ∧ i ≤ 100000 ∧ ∀ l, H1 l = none → Q (.ref l) (upd H1 l (.lst ((Pb.below i.toNat).map V.int)))
section
variable {X : Cx} {e : Expr} {te : TE} {p1 p2 pos pos2 : Pos}
end
end L2
set_option Elab.async false
set_option linter.all false
set_option maxRecDepth 100000
namespace L2
open PySem PySem.Spec PyProof.Rows PySem.W
section
variable {X : Cx}
end
end L2
set_option Elab.async false
set_option linter.all false
set_option maxRecDepth 100000
namespace L2
open PySem PySem.Spec PyProof.Rows
section
variable {X : Cx}
end
end L2
set_option Elab.async false
set_option linter.all false
set_option maxRecDepth 100000
namespace Pb
open L2
section
variable {m : Int} {rs : List Road} {r : Int} {par : Int → Int} {dep : Int → Nat}
variable {held : Int → Int} {con : Int → Int → Int}
end
end Pb
set_option Elab.async false
set_option linter.all false
set_option maxRecDepth 100000
namespace Pb
open L2
section
variable {m : Int} {rs : List Road} {r : Int} {par : Int → Int} {dep : Int → Nat} {held : Int → Int}
end
section
open PySem
end
end Pb
set_option Elab.async false
set_option linter.all false
set_option maxRecDepth 100000
namespace L2
open PySem PySem.Spec PyProof.Rows
end L2
set_option Elab.async false
set_option linter.all false
set_option maxRecDepth 100000
namespace L2
open PySem PySem.Spec PyProof.Rows
def Itrs (lo st : Int) (n : Nat) : It := ⟨fun i _ => i < n, fun i H x H' => H' = H ∧ x = .int (lo + i * st), fun i _ => n ≤ i⟩
def iRng3 (ta : TA) : TI := fun σ H R => ta σ H fun vs H1 => ∃ i j c : Int, vs = [.int i, .int j, .int c] ∧ (0 ≤ i ∧ i ≤ 1000000 ∧ 0 ≤ j ∧ j ≤ 1000000 ∧ 0 < c ∧ c ≤ 1000000) ∧ R (Itrs i c (Builtin.Range.rangeSize i j c).toNat) H1
section
variable {X : Cx} {tg : Expr}
end
end L2
set_option Elab.async false
set_option linter.all false
set_option maxRecDepth 100000
namespace L2
open PySem PySem.Spec PyProof.Rows
end L2
namespace Pb
open L2 PySem
section
variable {m : Int} {rs : List Road} {r : Int} {par : Int → Int} {dep : Int → Nat}
end
end Pb
set_option Elab.async false
set_option linter.all false
set_option maxRecDepth 100000
namespace L2
open PySem PySem.Spec PyProof.Rows
section
variable {P : Program} {w : World} {A : Around} {E : Value → Shared → Prop} {s : Shared} {l : Addr} {ob : Obj} {src : Heap → Array Value → Prop} {at' : Addr → Nat → Heap → Prop}
end
def Ite (K : PySem.W.Frag) (c : Bool) (a : Addr) : It :=
  ⟨fun i H => ∃ xs x, SqX K c H a xs ∧ xs[i]? = some x,
   fun i H v H' => ∃ p x, H p = none ∧ v = .ref p ∧ H' = upd H p (.tup [.int i, x]) ∧ ∀ xs, SqX K c H a xs → xs[i]? = some x,
   fun i H => ∃ xs, SqX K c H a xs ∧ xs.length = i⟩
def iEnum (K : PySem.W.Frag) (c : Bool) (tl : TE) : TI := fun σ H R => tl σ H fun x H1 => ∃ a, x = .ref a ∧ (∃ xs, SqX K c H1 a xs) ∧ R (Ite K c a) H1
section
variable {X : Cx} {e : Expr} {te : TE} {p2 pos : Pos}
end
end L2
set_option Elab.async false
set_option linter.all false
set_option maxRecDepth 100000
namespace Pb
open L2 PySem
end Pb
namespace L2
open PySem PySem.Spec PyProof.Rows
def tPar3 (i j k : Nat) (ta : TA) : TS := fun D σ H => ta σ H fun vs H1 => ∃ v w z, vs = [v, w, z] ∧ D.nx (((σ.set i (some v)).set j (some w)).set k (some z)) H1
end L2
set_option Elab.async false
set_option linter.all false
set_option maxRecDepth 100000
namespace Pb
open L2
section
variable {m : Int} {rs : List Road} {r : Int} {par : Int → Int} {dep : Int → Nat} {held held' : Int → Int} {con : Int → Int → Int}
end
end Pb
set_option Elab.async false
set_option linter.all false
set_option maxRecDepth 100000
namespace L2
open PySem PySem.Spec PyProof.Rows
theorem cut_hi (zs : List V) {k : Int} (k0 : 0 ≤ k) : cutV zs none (some k) = zs.take k.toNat := by
  unfold cutV
  have e1 : HT.sIx zs.length 0 none = 0 := rfl
  have e2 : HT.sIx zs.length zs.length (some k) = min k.toNat zs.length := by
    show (if k < 0 then (k + (zs.length : Int)).toNat else min k.toNat zs.length) = _
    rw [if_neg (by omega)]
  rw [e1, e2, List.drop_zero, Nat.sub_zero, List.take_eq_take_iff]
  omega
end L2
namespace Pb
open L2 PySem
end Pb
set_option Elab.async false
set_option linter.all false
set_option maxRecDepth 100000
namespace Pb
open L2 PySem
section
variable {m : Int} {rs : List Road}
end
end Pb
set_option Elab.async false
set_option linter.all false
set_option maxRecDepth 100000
namespace L2
open PySem PySem.Spec PyProof.Rows
section
variable {X : Cx} {i o : Expr} {ty td : TE}
def tDInN (ty td : TE) : TE := fun σ H Q => ty σ H fun y H1 => td σ H1 fun x H2 => ∃ a, x = .ref a ∧ ((∃ o, DGet H2 a y o ∧ Q (.bl o.isSome) H2) ∨ (y = .non ∧ (∃ kvs, H2 a = some (.dK kvs)) ∧ Q (.bl false) H2))
end
end L2
set_option Elab.async false
set_option linter.all false
set_option maxRecDepth 100000
namespace Pb
open L2 PySem
section
variable {m : Int} {rs : List Road} {r b : Int} {par : Int → Int} {dep : Int → Nat}
end
end Pb
namespace L2
theorem cutS {A B : TS} {D : Ends} {σ : St} {H : Hp} (h : ∀ N : St → Hp → Prop, (∀ σ' H', B D σ' H' → N σ' H') → A { D with nx := N } σ H) : tSeq A B D σ H := h (B D) fun _ _ z => z
end L2
set_option Elab.async false
set_option linter.all false
set_option maxRecDepth 100000
namespace L2
open PySem
theorem for_listH {K : PySem.W.Frag} {a : Addr} {xs : List V} {g : TG} {tb : TS} {D : Ends} {σ : St} {H : Hp} (Pv : Nat → St → Hp → Prop) (h0 : Pv 0 σ H) (hl : ∀ i σ H, i ≤ xs.length → Pv i σ H → SqL K H a xs)
    (hs : ∀ (i : Nat) (x : V) (σ : St) (H : Hp) (N B : St → Hp → Prop), (∀ σ H, (g x σ H fun σ2 H2 => tb { D with nx := N, ct := N, bk := D.nx } σ2 H2) → B σ H) → (∀ σ' H', Pv (i + 1) σ' H' → N σ' H') → xs[i]? = some x → Pv i σ H → B σ H)
    (hd : ∀ (B : St → Hp → Prop) σ H, (∀ σ H, D.nx σ H → B σ H) → Pv xs.length σ H → B σ H) : ForGo (Itl K a) D g tb σ H :=
  for_listN Pv h0 hl (fun i x σ H N hN hx p => hs i x σ H N (fun σ H => g x σ H fun σ2 H2 => tb { D with nx := N, ct := N, bk := D.nx } σ2 H2) (fun _ _ z => z) hN hx p) fun σ H p => hd (fun σ H => D.nx σ H) σ H (fun _ _ z => z) p
end L2
set_option Elab.async false
set_option linter.all false
set_option maxRecDepth 100000
namespace Pb
open L2 PySem
section
variable {m : Int} {rs : List Road} {r : Int} {par : Int → Int} {dep : Int → Nat}
variable {para parb parc : Int → Int} {depa depb depc : Int → Nat} {a b c : Int}
end
section
variable {m : Int} {rs : List Road} {r b : Int} {par : Int → Int} {dep : Int → Nat}
end
end Pb
set_option Elab.async false
set_option linter.all false
set_option maxRecDepth 100000
namespace Pb
open L2 PySem
section
variable {m : Int} {rs : List Road} {r b : Int} {par : Int → Int} {dep : Int → Nat}
end
end Pb
set_option Elab.async false
set_option linter.all false
namespace L2
open PySem
end L2
namespace Pb
open PySem L2
end Pb
set_option Elab.async false
set_option linter.all false
set_option maxRecDepth 100000
set_option exponentiation.threshold 5000
namespace Pb
open L2 PySem
section
variable {m : Int} {rs : List Road} {r : Int} {par : Int → Int} {dep : Int → Nat}
variable {op : Int → Int → Int} {held : Int → Int} {con : Int → Int → Int}
end
end Pb
set_option Elab.async false
set_option linter.all false
set_option maxRecDepth 100000
namespace L2
open PySem PySem.Spec PyProof.Rows
section
variable {X : Cx}
end
end L2
namespace Pb
end Pb
set_option Elab.async false
set_option linter.all false
set_option maxRecDepth 100000
namespace L2
open PySem PySem.Spec PyProof.Rows
theorem nth_ne {l : List Addr} (h : l.Nodup) (i j : Nat) {a b : Addr} (hi : l[i]? = some a) (hj : l[j]? = some b) (ij : i ≠ j) : a ≠ b := fun z => by
  subst z
  obtain ⟨h1, e1⟩ := List.getElem?_eq_some_iff.mp hi
  obtain ⟨h2, e2⟩ := List.getElem?_eq_some_iff.mp hj
  rcases Nat.lt_or_gt_of_ne ij with q | q
  · exact List.pairwise_iff_getElem.mp h i j h1 h2 q (e1.trans e2.symm)
  · exact List.pairwise_iff_getElem.mp h j i h2 h1 q (e2.trans e1.symm)
section
variable {X : Cx}
end
end L2
set_option Elab.async false
set_option linter.all false
set_option maxRecDepth 100000
namespace L2
open PySem PySem.Spec PyProof.Rows
section
variable {P : Program} {w : World} {A : Around} {R : Result → Shared → Prop} {I S : Addr} {fp wr : List Addr} {n : Nat} {Pv : Nat → Value → Prop} {St : Nat → Heap → Prop} {bt : Nat → Nat → Bool} {kw : List (Str × Value)}
end
section
variable {X : Cx} {x : Str} {p pos kpos : Pos} {e de : Expr} {t tk : TA}
def tMinD (K : PySem.W.Frag) (t tk : TA) : TE := fun σ H Q => t σ H fun vs H1 => tk σ H1 fun zs H2 => ∃ (q : Addr) (ns : List Int) (d : V), vs = [.ref q] ∧ zs = [d] ∧ SqL K H2 q (ns.map V.int) ∧ ns ≠ [] ∧ ∀ y, y ∈ ns → (∀ x ∈ ns, y ≤ x) → Q (.int y) H2
def tNotT (t : TE) : TE := fun σ H Q => t σ H fun x H1 => ∃ b, x = .bl b ∧ Q (.bl (b != true)) H1
end
end L2
set_option Elab.async false
set_option linter.all false
set_option maxRecDepth 100000
namespace Pb
open L2 PySem
section
variable {m : Int} {rs : List Road} {r : Int} {par : Int → Int} {dep : Int → Nat}
variable {ch : Int → Option Int} {w : Int} {cn : Int → Int}
end
end Pb
set_option Elab.async false
set_option linter.all false
set_option maxRecDepth 100000
namespace L2
open PySem PySem.Spec PyProof.Rows PySem.W
section
variable {n : Nat}
variable (hn : 0 < n)
include hn
end
section
variable {prog : Program} {w : World} {A : Around} {E : Value → Shared → Prop} {s : Shared}
end
end L2
set_option Elab.async false
set_option linter.all false
set_option maxRecDepth 100000
namespace L2
open PySem PySem.Spec PyProof.Rows PySem.W Pb
section
variable {prog : Program} {w : World} {A : Around} {E : Value → Shared → Prop} {s : Shared} {it d : Addr} {i ep : Nat} {es : Array DictEntry}
end
section
variable {prog : Program} {w : World} {A : Around} {E : Value → Shared → Prop} {s : Shared} {fin : Bool} {C : Bool → Shared → Prop}
end
section
variable {prog : Program} {w : World} {A : Around} {E : Value → Shared → Prop} {s : Shared}
end
section
variable {X : Cx}
end
end L2
set_option Elab.async false
set_option linter.all false
set_option maxRecDepth 100000
namespace L2
end L2
namespace Pb
open L2 PySem
section
variable {m : Int} {rs : List Road} {r : Int} {par : Int → Int} {dep : Int → Nat}
end
section
end
end Pb
set_option Elab.async false
set_option linter.all false
set_option maxRecDepth 100000
namespace L2
open PySem PySem.Spec PyProof.Rows
def tDispT (tk tv : TE) : TE := fun σ H Q => ∀ p, H p = none → tPairs [(tk, tv)] σ (upd H p (.dT [])) fun ps H2 => H2 p = some (.dT []) ∧ ∃ (k : List Key) (b : Addr) (y : V), ps = [(.ref b, y)] ∧ H2 b = some (.tup (k.map kV)) ∧ Q (.ref p) (upd H2 p (.dT [(k, y)]))
end L2
set_option Elab.async false
set_option linter.all false
set_option maxRecDepth 100000
namespace Pb
open L2 PySem
end Pb
namespace Pb
open L2 PySem
section
variable {m : Int} {rs : List Road} {xs : List Int}
variable {r : Int} {par : Int → Int} {dep : Int → Nat}
end
end Pb
set_option Elab.async false
set_option linter.all false
set_option maxRecDepth 100000
namespace L2
open PySem PySem.Spec PyProof.Rows Pb
section
variable {X : Cx}
end
end L2
set_option Elab.async false
set_option linter.all false
set_option maxRecDepth 100000
namespace L2
open PySem PySem.Spec PyProof.Rows
end L2
namespace Pb
end Pb
namespace L2
open PySem Pb
end L2
namespace L2
open PySem
end L2
namespace L2
open PySem
end L2
namespace L2
open PySem PySem.Spec PyProof.Rows Pb
end L2
namespace L2
open PySem
end L2
set_option Elab.async false
set_option linter.all false
set_option maxRecDepth 100000
namespace Pb
open L2 PySem
section
variable {m : Int} {rs : List Road} {r : Int} {par : Int → Int} {dep : Int → Nat}
end
section
variable {m : Int} {rs : List Road} {xs : List Int}
end
end Pb
set_option Elab.async false
set_option linter.all false
set_option maxRecDepth 100000
namespace L2
open PySem PySem.Spec PyProof.Rows PySem.W Pb
section
variable {X : Cx} {pins : List (Addr × Obj)} {σ : St} {H : Hp} {s : Shared}
end
def Itd (d : Addr) (o : Obj) (kvs : List (List Key × V)) : It :=
  ⟨fun i H => H d = some (.frz o (.dT kvs)) ∧ i < kvs.length, fun i H x H' => H' = H ∧ ∃ (q : Addr) (k : List Key) (v : V), x = .ref q ∧ kvs[i]? = some (k, v) ∧ H q = some (.tup (k.map kV)), fun i H => H d = some (.frz o (.dT kvs)) ∧ i = kvs.length⟩
def tForD (tl : TE) (g : TG) (tb : TS) : TS := fun D σ H => tl σ H fun x H1 => ∃ (d : Addr) (kvs : List (List Key × V)), x = .ref d ∧ H1 d = some (.dT kvs) ∧
  ∀ o, ForGo (Itd d o kvs) { D with nx := fun σ' H' => H' d = some (.frz o (.dT kvs)) ∧ D.nx σ' (upd H' d (.dT kvs)) } g tb σ (upd H1 d (.frz o (.dT kvs)))
section
variable {X : Cx} {tg : Expr}
end
end L2
set_option Elab.async false
set_option linter.all false
set_option maxRecDepth 100000
namespace Pb
open L2 PySem
section
variable {α β : Type}
end
section
variable {m : Int} {rs : List Road} {r : Int} {par : Int → Int} {dep : Int → Nat}
end
end Pb
namespace Pb
open L2 PySem
section
variable {m : Int} {rs : List Road} {r : Int} {par : Int → Int} {dep : Int → Nat} {to : Bool}
end
end Pb
namespace Pb
open L2 PySem
end Pb
namespace Pb
open L2 PySem
end Pb
set_option Elab.async false
set_option linter.all false
set_option maxRecDepth 100000
namespace L2
open PySem PySem.Spec PyProof.Rows
section
variable {X : Cx} {cx : Str} {Nc : List Str} {own : Nat} {js : List Nat} {scope : Scope} {cl : List (Str × Addr)}
end
section
variable {X : Cx} {cx : Str} {Nc : List Str} {own : Nat} {js : List Nat} {scope : Scope} {cl : List (Str × Addr)}
end
end L2
set_option Elab.async false
set_option linter.all false
set_option maxRecDepth 100000
namespace L2
open PySem PySem.Spec PyProof.Rows PySem.W
section
variable {X : Cx}
end
def Its (z : Str) : It := ⟨fun i _ => i < z.cps.size, fun i H x H' => H' = H ∧ ∃ c, z.cps[i]? = some c ∧ x = .str ⟨#[c]⟩, fun i _ => z.cps.size ≤ i⟩
section
variable {X : Cx} {tg : Expr}
def iStr (tl : TE) : TI := fun σ H R => tl σ H fun x H1 => ∃ z, x = .str z ∧ z.cps.all (· < 128) = true ∧ R (Its z) H1
end
section
variable {P : Program} {w : World} {A : Around} {E : Value → Shared → Prop} {s : Shared}
end
section
variable {X : Cx} {e : Expr} {te : TE} {p2 apos cpos pos2 : Pos} {z : Str} {zp : Pos} {zk : Nat}
def tJoinR (K : PySem.W.Frag) (z : Str) (te : TE) : TE := fun σ H Q => te σ H fun x H1 => ∃ (a : Addr) (ys : List Str), x = .ref a ∧ SqL K H1 a (ys.map V.str) ∧ (ys.map (·.length)).sum + ys.length * z.length ≤ 16777216 ∧ Q (.str (Str.join z ys.reverse)) H1
end
end L2
set_option Elab.async false
set_option linter.all false
set_option maxRecDepth 100000
namespace Pb
open L2 PySem PySem.W NumText
end Pb
set_option Elab.async false
set_option linter.all false
set_option maxRecDepth 100000
namespace L2
open PySem PySem.Spec PyProof.Rows PySem.W
end L2
namespace Pb
open L2 PySem PySem.W NumText
open PySem.StrLaws (At ChainG occ_tight partsBetween_eq partsFrom strSub_toList subAt_eq sub_whole)
section
variable {X : Str} {u c v : Nat}
end
end Pb
set_option Elab.async false
set_option linter.all false
set_option maxRecDepth 100000
namespace L2
open PySem PySem.Spec PyProof.Rows PySem.W
end L2
namespace Pb
open L2 PySem PySem.W NumText
end Pb
set_option Elab.async false
set_option linter.all false
set_option maxRecDepth 100000
namespace Pb
open L2 PySem
section
variable {m : Int} {rs : List Road} {r : Int} {par : Int → Int} {dep : Int → Nat} {held : Int → Int}
end
end Pb
set_option Elab.async false
set_option linter.all false
set_option maxRecDepth 100000
namespace L2
open PySem PySem.Spec PyProof.Rows
section
variable {prog : Program} {w : World} {A : Around} {E : Value → Shared → Prop} {R : Result → Shared → Prop} {s : Shared}
end
section
variable {M : Model} {A : Around} {E : Value → Shared → Prop} {s : Shared} {Q : Unit → Shared → Prop} {fs : List Addr} {ea T L : Addr} {cls fl hd : Value} {od : Option Addr} {base : Heap} {env : Env} {outer : List Env}
end
section
variable {P : Program} {w : World} {K : PySem.W.Frag} {mg : Str → Option Value} {base : Heap} {N : List Str} {qual : Str} {scope : Scope} {f : Addr} {cd : Value} {A : Around} {outer : List Env} {s : Shared} {H : Hp} {E : XK}
end
section
variable {X : Cx} {Nc : List Str} {own : Nat} {js : List Nat} {scope : Scope} {cl : List (Str × Addr)}
end
section
variable {X : Cx} {Nc : List Str} {own : Nat} {js : List Nat} {scope : Scope} {cl : List (Str × Addr)}
end
section
variable {X : Cx}
theorem call_isXK (K : PySem.W.Frag) (h : X.K = K) : CallR X (.builtin "isinstance") (rIsX K) := by subst h; exact call_isX
end
end L2
set_option Elab.async false
set_option linter.all false
set_option maxRecDepth 100000
namespace L2
open PySem PySem.Spec PyProof.Rows
section
variable {prog : Program} {w : World} {A : Around} {E : Value → Shared → Prop} {h : Heap} {g : Array GenState} {d : Drawn} {t : Nat} {os : OsState}
variable {nm q : Str} {C N : Addr} {bs bm bmB : List Value} {hdct : Bool} {sn : List Str} {sub : List Value} {ab : Bool} {col : Option Bool} {dd : Option Addr} {k0 k1 k2 k3 k5 : Option Value} {B newId initId : String}
theorem type_call_initT (F : ExcBaseFacts B newId initId bmB) (T : OwnTail h bmB bm) {mN : Str → Option Value} {rest : List Value} {fI : Addr} {oI : Obj} {Q : Fin → Shared → Prop}
    (hC : h.get? C = some (excClassObj nm q C N bs bm hdct sn sub ab col dd k0 k1 k2 k3 k5 newId)) (hn : h.Ns N mN) (hi : mN "__init__" = some (.ref fI)) (hfI : h.get? fI = some oI) (hfc : oI.cls = .type "function")
    (hq : ∀ h' e, Heap.MadeExcOf h h' e (.ref C) rest → wpAny (model prog w) A (call (.ref fI) (.ref e :: rest)) (fun r s' => r = .none ∧ Q (.done (.ret (.ref e))) s') E ⟨h', g, d, t, os⟩) (hrest : rest.length ≤ sizeLine) :
    wpAny (model prog w) A (Builtin.«type.__call__» ⟨.ref C :: rest, []⟩) Q E ⟨h, g, d, t, os⟩ := by
  repeat (first | with_reducible refine wpAny_loadPart_at hC ?_ | with_reducible refine wpAny_madeBy_exc hC ?_ | wp_step)
  refine codeAny_call_builtin_code (Code.quiet_builtin _ F.quiet) (wpAny_check_new_subT F T hC ?_)
  refine codeAny_exc_new_subT F T hC ?_ hrest
  show wpAny _ _ _ _ _ _
  have up : ∀ b o, h.get? b = some o → ((h.push { cls := .type "tuple", data := .seq rest.toArray }).push { cls := .ref C, data := .fields #[.ref h.objs.size, .none, .none, .none, .bool false, .none] }).get? b = some o := fun b o e => Heap.get?_push_of_some _ (Heap.get?_push_of_some _ e)
  have hC1 := up _ _ hC
  have hf1 := up _ _ hfI
  have hn1 := hn.keeps up
  have T1 := T.keeps up
  have hget : ((h.push { cls := .type "tuple", data := .seq rest.toArray }).push { cls := .ref C, data := .fields #[.ref h.objs.size, .none, .none, .none, .bool false, .none] }).get? (h.objs.size + 1) = some { cls := .ref C, data := .fields #[.ref h.objs.size, .none, .none, .none, .bool false, .none] } := by heap_get
  have hcC : (Value.ref C :: bm).contains (.ref C) = true := by simp
  unfold isInstance
  repeat (first | with_reducible refine wpAny_loadPart_at hget ?_ | (with_reducible refine wpAny_isSubtype_exc hC1 ?_; rw [hcC]) | wp_step)
  show wpAny _ _ (typeLookup (.ref C) _) _ _ _
  refine wpAny_typeLookup_tail hC1 hn1 T1 F.mroIs F.init.lookup ?_
  rw [hi]
  refine wpAny_holding (wpAny_bind ?_)
  unfold bindSpecial
  refine wpAny_bind (wpAny_typeOf (T := "function") ⟨_, hf1, hfc⟩ ?_)
  rw [if_pos (by decide)]
  refine wpAny_pure (wpAny_bind (wpAny_mono (hq _ (h.objs.size + 1) ⟨up, Heap.get?_none_of_le (Nat.le_succ _), h.objs.size, hget, Heap.get?_none_of_le (Nat.le_refl _), ?_⟩) (fun r s' hr => ?_) fun _ _ x => x))
  · exact Heap.get?_push_of_some _ (Heap.get?_push_at rfl rfl)
  · obtain ⟨rfl, hQ⟩ := hr
    wp_walk
    exact hQ
theorem call_initT (F : ExcBaseFacts B newId initId bmB) (T : OwnTail h bmB bm) {mN : Str → Option Value} {rest : List Value} {fI : Addr} {oI : Obj} {Q : Value → Shared → Prop}
    (hC : h.get? C = some (excClassObj nm q C N bs bm hdct sn sub ab col dd k0 k1 k2 k3 k5 newId)) (hn : h.Ns N mN) (hi : mN "__init__" = some (.ref fI)) (hfI : h.get? fI = some oI) (hfc : oI.cls = .type "function")
    (hq : ∀ h' e, Heap.MadeExcOf h h' e (.ref C) rest → wpAny (model prog w) (A.under (.builtin "type.__call__" ⟨.ref C :: rest, []⟩)) (call (.ref fI) (.ref e :: rest)) (fun r s' => r = .none ∧ Q (.ref e) s') E ⟨h', g, d, t, os⟩) (hrest : rest.length ≤ sizeLine) :
    wpAny (model prog w) A (call (.ref C) rest) Q E ⟨h, g, d, t, os⟩ := by
  have f1 := tc_lookup
  have f2 := tc_bind (.ref C)
  have hT : (⟨h, g, d, t, os⟩ : Shared).TypeIs (.ref C) "type" := ⟨_, hC, rfl⟩
  refine wpAny_call (codeAny_of_tree ?_)
  show wpAny _ _ (callAny (.ref C) _) _ _ _
  repeat (any_goals (first | assumption | with_reducible refine wpAny_loadPart_at hC ?_ | wp_step))
  refine ⟨rfl, ?_⟩
  refine codeAny_call_builtin_at (Code.quiet_builtin _ (by decide +kernel)) entry_typeCall (wpAny_check_type_call_sub hC (type_call_initT F T hC hn hi hfI hfc (fun h' e hm => ?_) hrest))
  exact hq h' e hm
end
section
variable {M : Model} {A : Around} {E : Value → Shared → Prop} {env : Env}
variable {nm q : Str} {C N : Addr} {bs bm : List Value} {hdct : Bool} {sn : List Str} {sub : List Value} {ab : Bool} {col : Option Bool} {dd : Option Addr} {k0 k1 k2 k3 k5 : Option Value} {newId : String}
theorem raise_made {s : Shared} {x : Sem Value} {Q : Flow → Shared → Prop} (hbase : bm.contains (.type "BaseException") = true) (hh : A.handled = none)
    (h : wpAny M A x (fun v s₁ => ∃ e a0 od sl, v = .ref e ∧ s₁.heap.get? C = some (excClassObj nm q C N bs bm hdct sn sub ab col dd k0 k1 k2 k3 k5 newId) ∧
      s₁.heap.get? e = some { cls := .ref C, dict := od, data := .fields #[a0, .none, .none, .none, .bool false, .none], slots := sl } ∧ E (.ref e) s₁) E s) :
    wpAny M A (raiseStmt env (some x) none) Q E s := by
  have hcB : (Value.ref C :: bm).contains (.type "BaseException") = true := by rw [List.contains_cons, hbase, Bool.or_true]
  unfold raiseStmt
  refine wpAny_bind (wpAny_mono h (fun v s₁ h₁ => ?_) fun _ _ x => x)
  obtain ⟨e, a0, od, sl, rfl, hC, he, hE⟩ := h₁
  obtain ⟨hp, g, d, tk, os⟩ := s₁
  repeat (first | with_reducible refine wpAny_loadPart_at he ?_ | with_reducible refine wpAny_loadPart_at hC ?_ | (with_reducible refine wpAny_isSubtype_exc hC ?_; rw [hcB]) | wp_step)
  exact wpAny_raiseNew_none hh hE
end
section
variable {prog : Program} {w : World} {A : Around} {E : Value → Shared → Prop} {s : Shared} {env : Env}
variable {nm q : Str} {C N : Addr} {bs bm bmB : List Value} {hdct : Bool} {sn : List Str} {sub : List Value} {ab : Bool} {col : Option Bool} {dd : Option Addr} {k0 k1 k2 k3 k5 : Option Value} {B newId initId : String}
theorem raise_call_initT (F : ExcBaseFacts B newId initId bmB) {x : Str} {np cpos pos : Pos} {args : List Expr} {Q : Flow → Shared → Prop}
    (hbase : bm.contains (.type "BaseException") = true) (hh : A.handled = none) (hplain : (backTo cpos (starEach args env)).any (·.1) = false)
    (h : wpAny (model prog w) A (eval (.Name x np) env) (fun f s₁ => f = .ref C ∧ wpAny (model prog w) A (evalArgs (.ref C) true (backTo cpos (starEach args env)) [])
      (fun a s₂ => a.kw = [] ∧ a.pos.length ≤ sizeLine ∧ ∃ mN fI oI, s₂.heap.get? C = some (excClassObj nm q C N bs bm hdct sn sub ab col dd k0 k1 k2 k3 k5 newId) ∧ s₂.heap.Ns N mN ∧ OwnTail s₂.heap bmB bm ∧ mN "__init__" = some (.ref fI) ∧ s₂.heap.get? fI = some oI ∧ oI.cls = .type "function" ∧
        ∀ h' e, Heap.MadeExcOf s₂.heap h' e (.ref C) a.pos → wpAny (model prog w) (A.under (.builtin "type.__call__" ⟨.ref C :: a.pos, []⟩)) (call (.ref fI) (.ref e :: a.pos)) (fun r s' => r = .none ∧
          s'.heap.get? C = some (excClassObj nm q C N bs bm hdct sn sub ab col dd k0 k1 k2 k3 k5 newId) ∧ (∃ a0 od sl, s'.heap.get? e = some { cls := .ref C, dict := od, data := .fields #[a0, .none, .none, .none, .bool false, .none], slots := sl }) ∧ E (.ref e) s') E { s₂ with heap := h' }) E s₁) E s) :
    wpAny (model prog w) A (exec (.Raise (some (.Call (.Name x np) args [] cpos)) none pos) env) Q E s := by
  rw [arm_exec_Raise]
  first
    | refine wpAny_bind (wpAny_standAt (raise_made (C := C) (nm := nm) (q := q) (N := N) (bs := bs) (bm := bm) (hdct := hdct) (sn := sn) (sub := sub) (ab := ab) (col := col) (dd := dd) (k0 := k0) (k1 := k1) (k2 := k2) (k3 := k3) (k5 := k5) (newId := newId) hbase hh (wpAny_bind (wpAny_mono (wpAny_Call_ofName (wpAny_mono h (fun f s₁ h₁ => ?_) fun _ _ x => x)) (fun v s₃ h₃ => wpAny_bind (wpAny_standAt (wpAny_pure h₃))) fun _ _ x => x))))
    | (simp only [evalOpt, Option.map]; refine wpAny_bind (wpAny_standAt (raise_made (C := C) (nm := nm) (q := q) (N := N) (bs := bs) (bm := bm) (hdct := hdct) (sn := sn) (sub := sub) (ab := ab) (col := col) (dd := dd) (k0 := k0) (k1 := k1) (k2 := k2) (k3 := k3) (k5 := k5) (newId := newId) hbase hh (wpAny_bind (wpAny_mono (wpAny_Call_ofName (wpAny_mono h (fun f s₁ h₁ => ?_) fun _ _ x => x)) (fun v s₃ h₃ => wpAny_bind (wpAny_standAt (wpAny_pure h₃))) fun _ _ x => x)))))
    | (refine wpAny_bind (wpAny_standAt (raise_made (C := C) (nm := nm) (q := q) (N := N) (bs := bs) (bm := bm) (hdct := hdct) (sn := sn) (sub := sub) (ab := ab) (col := col) (dd := dd) (k0 := k0) (k1 := k1) (k2 := k2) (k3 := k3) (k5 := k5) (newId := newId) hbase hh ?_)); refine wpAny_bind (wpAny_mono (wpAny_Call_ofName (wpAny_mono h (fun f s₁ h₁ => ?_) fun _ _ x => x)) (fun v s₃ h₃ => wpAny_bind (wpAny_standAt (wpAny_pure h₃))) fun _ _ x => x))
  obtain ⟨rfl, h₁⟩ := h₁
  unfold callWith
  refine wpAny_bind (wpAny_holding (wpAny_mono h₁ (fun a s₂ h₂ => wpAny_bind (wpAny_standAt ?_)) fun _ _ x => x))
  obtain ⟨apos, akw⟩ := a
  obtain ⟨hkw, hlen, mN, fI, oI, hC, hn, T, hi, hf, hfc, h₂⟩ := h₂
  obtain rfl : akw = [] := hkw
  obtain ⟨hp, g, d, tk, os⟩ := s₂
  simp only [hplain]
  refine wpAny_bind (wpAny_keeperOf_exc hC ?_)
  refine wpAny_bind (call_initT F T hC hn hi hf hfc (fun h' e hm => wpAny_mono (h₂ h' e hm) (fun r s' hr => ⟨hr.1, wpAny_bind (wpAny_holding (wpAny_point (wpAny_pure ?_)))⟩) fun _ _ y => y) hlen)
  obtain ⟨_, c1, ⟨a0, od, sl, c2⟩, c3⟩ := hr
  exact ⟨e, a0, od, sl, rfl, c1, c2, c3⟩
end
def ExN (ea : Addr) (cls : Value) (od : Option Addr) : HO := .ext fun h => ∃ a0 sl, h.get? ea = some { cls := cls, dict := od, data := .fields #[a0, .none, .none, .none, .bool false, .none], slots := sl }
def del (H : Hp) (a : Addr) : Hp := fun b => if b = a then none else H b
theorem del_ne {H : Hp} {a b : Addr} (h : b ≠ a) : del H a b = H b := if_neg h
theorem del_same {H : Hp} {a : Addr} : del H a a = none := if_pos rfl
section
variable {X : Cx} {pins : List (Addr × Obj)} {σ : St} {H : Hp} {s : Shared}
theorem Inv.trackN {ea : Addr} {cls : Value} {od : Option Addr} (I : Inv X pins σ H s) (l : Loose X pins H ea) (e : ∃ a0 sl, s.heap.get? ea = some { cls := cls, dict := od, data := .fields #[a0, .none, .none, .none, .bool false, .none], slots := sl }) : Inv X pins σ (upd H ea (ExN ea cls od)) s := by
  have ne : ∀ b, b ≠ ea → upd H ea (ExN ea cls od) b = H b := fun b z => upd_ne z
  have nt : ∀ b u, H b = some u → upd H ea (ExN ea cls od) b = some u := fun b u z => by rw [ne b (ne_of_none z l.un)]; exact z
  refine ⟨I.ok, I.os, I.bare, ⟨I.base.keep, I.base.slot, fun b o q n x => ?_, I.base.there, fun b xs q => nt _ _ (I.base.tups b xs q), fun b o u q => nt _ _ (I.base.frzs b o u q), fun b ps q => ?_⟩, I.loc, I.cell, ?_, fun x c q => ?_, fun p hp => ?_, ?_, I.len⟩
  · rw [ne b (by rintro rfl; rw [l.new] at q; cases q)]
    exact I.base.free b o q n x
  · obtain ⟨more, z⟩ := I.base.tbls b ps q
    exact ⟨more, nt _ _ z⟩
  · rw [ne _ (Ne.symm l.loc)]
    exact I.free
  · rw [ne _ (l.cel x c q)]
    exact I.freeC x c q
  · obtain ⟨z1, z2, z3, z4, z5⟩ := I.pin p hp
    exact ⟨z1, by rw [ne _ (l.pin p hp)]; exact z2, z3, z4, z5⟩
  · intro b u q
    by_cases z : b = ea
    · subst z
      rw [upd_same] at q
      cases q
      obtain ⟨a0, sl, h1⟩ := e
      refine ⟨⟨a0, sl, h1⟩, ⟨_, h1⟩, ?_⟩
      rintro g1 g2 ⟨a, l, a1⟩ kk
      exact ⟨a, l, kk _ a1⟩
    · rw [ne b z] at q
      exact (I.hok b u q).stay (fun _ _ _ r => r) (fun c r => nt _ _ r) fun c xs r => nt _ _ r
theorem Inv.untrack {ea : Addr} {φ : Heap → Prop} (I : Inv X pins σ H s) (e : H ea = some (.ext φ)) : Inv X pins σ (del H ea) s := by
  have nt : ∀ b u, H b = some u → b ≠ ea → del H ea b = some u := fun b u z n => by rw [del_ne n]; exact z
  have nn : ∀ b, H b = none → del H ea b = none := fun b z => by
    by_cases q : b = ea
    · rw [q, del_same]
    · rw [del_ne q]; exact z
  refine ⟨I.ok, I.os, I.bare, ⟨I.base.keep, I.base.slot, fun b o q n x => nn _ (I.base.free b o q n x), I.base.there, fun b xs q => ?_, fun b o u q => ?_, fun b ps q => ?_⟩, I.loc, I.cell, nn _ I.free, fun x c q => nn _ (I.freeC x c q), fun p hp => ?_, ?_, I.len⟩
  · have z := I.base.tups b xs q
    exact nt _ _ z (by rintro rfl; rw [e] at z; cases z)
  · have z := I.base.frzs b o u q
    exact nt _ _ z (by rintro rfl; rw [e] at z; cases z)
  · obtain ⟨more, z⟩ := I.base.tbls b ps q
    exact ⟨more, nt _ _ z (by rintro rfl; rw [e] at z; cases z)⟩
  · obtain ⟨z1, z2, z3, z4, z5⟩ := I.pin p hp
    exact ⟨z1, nn _ z2, z3, z4, z5⟩
  · intro b u q
    have nb : b ≠ ea := by rintro rfl; rw [del_same] at q; cases q
    rw [del_ne nb] at q
    exact (I.hok b u q).stay (fun _ _ _ r => r) (fun c r => nt _ _ r (by rintro rfl; rw [e] at r; cases r)) fun c xs r => nt _ _ r (by rintro rfl; rw [e] at r; cases r)
end
def RaisesL (X : Cx) (E : XK) : Prop := ∀ (pins : List (Addr × Obj)) (σ : St) (H : Hp) (s : Shared) (ea : Addr) (cls : Value) (od : Option Addr), Inv X pins σ H s → ErrO s.heap ea cls od .none → Loose X pins H ea → E cls od H → X.xe (.ref ea) s
section
variable {P : Program} {w : World} {K : PySem.W.Frag} {mg : Str → Option Value} {base : Heap} {N : List Str} {qual : Str} {scope : Scope} {f : Addr} {cd : Value} {A : Around} {outer : List Env} {s : Shared} {H : Hp} {E : XK}
theorem raisesL : RaisesL (cxOf (CXe P w) P w K mg base N qual scope f cd A outer s H E) E := by
  intro pins σ H1 s1 ea cls od J er le q
  refine st_leave1 (base := base) J.ok.frames J.stack rfl er fun h2 T' er' k nT => ?_
  have fr : ∀ b ∈ frs (envOfC qual scope s.heap.objs.size f cd :: outer), H1 b = none := J.stkFree
  refine ⟨ea, T', cls, od, H1, rfl, J.os, J.bare, un_leave J k ?_, kept_hok J.hok k fr ?_, le.un, untr J.hok nT, le.new, inv_old J nT, er', q⟩
  · intro b hb
    rw [List.mem_singleton.mp hb]
    exact le.new
  · intro b hb
    rw [List.mem_singleton.mp hb]
    exact le.un
end
theorem ns_some_of {K : PySem.W.Frag} {h : Heap} {N : Addr} {mg : Str → Option Value} {n : Str} {v : Value} (X : K.In h) (G : h.Ns N mg) (e : PySem.W.nsIn K N n = some (some v)) : mg n = some v := by
  obtain ⟨o, es, ep, ho, hd, _, hf⟩ := G
  unfold PySem.W.nsIn at e
  split at e
  · rename_i c d es' n' sl q
    have := X _ _ q
    rw [ho] at this
    cases this
    cases hd
    split at e
    · rename_i en he
      cases e
      rw [← hf]
      unfold nsFind findBy
      rw [← Array.find?_toList, he]
      rfl
    · rename_i he
      split at e <;> cases e
  · cases e
def XObjI (K : PySem.W.Frag) (C fI : Addr) : Prop := ∃ (nm qn : Str) (N : Addr) (bs bm : List Value) (hdct : Bool) (sn : List Str) (sub : List Value) (ab : Bool) (col : Option Bool) (dd : Option Addr) (k0 k1 k2 k3 k5 : Option Value),
    K.lookup C = some (excClassObj nm qn C N bs bm hdct sn sub ab col dd k0 k1 k2 k3 k5 "ValueError.__new__") ∧ PySem.W.nsOkIn K N = true ∧ PySem.W.nsIn K N "__init__" = some (some (.ref fI)) ∧ PySem.W.tailIn K bmV bm = true ∧ PySem.W.isFn K (.ref fI) = true
def tRaiseI (C : Addr) (sp : Sp) (E : XK) (t : TA) : TS := fun _ σ H => t σ H fun vs H1 => vs.length ≤ sizeLine ∧ ∀ ea, H1 ea = none → sp (.ref ea :: vs) (upd H1 ea (ExN ea (.ref C) none)) (fun v H2 => v = .non ∧ ∃ od, H2 ea = some (ExN ea (.ref C) od) ∧ E (.ref C) od (del H2 ea)) fun _ _ _ => False
section
variable {X : Cx} {x : Str} {np cpos pos : Pos} {e0 : Expr} {es : List Expr} {t : TA} {C fI : Addr} {E : XK} {CX : CXT} {k : Nat} {fd : FuncData} {ps : List Str} {sp : Sp}
theorem ps_raiseI (q : XObjI X.K C fI) (F : FnOk X.prog X.w X.K X.mg X.base CX k fI fd ps sp) (hq : Quiet CX) (hr : Room (k + 1) X.A) (hb : Binds X.K fd ps []) (hx : X.ex = []) (hc : X.calm = true) (hR : RaisesL X E) (hg : Gl X x) (hm : X.mg x = some (.ref C)) (ha : PA X (e0 :: es) t) (hdb : (x == ("__debug__" : Str)) = false := by decide)
    (he : starEach (e0 :: es) X.env = (false, eval e0 X.env) :: starEach es X.env := by rfl) (hpl : (backTo cpos (starEach es X.env)).any (·.1) = false := by rfl) : PS X (.Raise (some (.Call (.Name x np) (e0 :: es) [] cpos)) none pos) (tRaiseI C sp E t) := by
  intro pins s σ H D I h
  obtain ⟨nm, qn, N, bs, bm, hdct, sn, sub, ab, col, dd, k0, k1, k2, k3, k5, ho, z5, z6, z4, z7⟩ := q
  have B := I.mod.kin
  have T0 := PySem.W.tail_of_in B z4
  have N0 : X.base.Ns N (X.base.nsMap N) := .of_isNs (PySem.W.isNs_of_in B z5)
  have n0 := ns_some_of B N0 z6
  obtain ⟨oI, lI, cI⟩ : ∃ oI, X.K.lookup fI = some oI ∧ oI.cls = .type "function" := by
    have z := beq_iff_eq.mp z7
    unfold PySem.W.typeIn at z
    exact Option.map_eq_some_iff.mp z
  have hp : (backTo cpos (starEach (e0 :: es) X.env)).any (·.1) = false := by
    rw [he]
    show (false || (backTo cpos (starEach es X.env)).any (·.1)) = false
    rw [hpl]
    rfl
  refine raise_call_initT (C := C) (nm := nm) (q := qn) (N := N) (bs := bs) (bm := bm) (hdct := hdct) (sn := sn) (sub := sub) (ab := ab) (col := col) (dd := dd) (k0 := k0) (k1 := k1) (k2 := k2) (k3 := k3) (k5 := k5) PySem.F.excBase_ValueError
    (T0.hasType (by decide +kernel)) (I.ok.hd hc) hp (ld_glob I hg hm ⟨rfl, ?_⟩ hdb)
  have g := ha cpos pins s σ H _ I h
  rw [he] at g ⊢
  refine Calls.evalArgs_plain (thn g fun us s1 ⟨vs, H1, I1, r1, q1⟩ => ⟨rfl, by show us.length ≤ _; rw [← r1.length]; exact q1.1, X.base.nsMap N, fI, oI, I1.bk _ _ (B _ _ ho), N0.keeps I1.bk, T0.keeps I1.bk, n0, I1.bk _ _ (B _ _ lI), cI, fun h' ea m => ?_⟩)
  obtain ⟨tt, m1, _, _⟩ := m.there
  have le : Loose X pins H1 ea := by
    obtain ⟨a1, a2, a3⟩ := I1.apart m.new
    refine ⟨untr I1.hok m.new, ?_, a1, a2, a3⟩
    rcases I1.young m.new with y | y
    · exact y
    · rw [hx] at y; cases y
  have I2 : Inv X pins σ (upd H1 ea (ExN ea (.ref C) none)) { s1 with heap := h' } := Inv.trackN (I1.kept (t' := s1.toks) m.keeps) le ⟨_, _, m1⟩
  have sp1 := q1.2 ea le.un
  have r2 : Vals (V.ref ea :: vs) (Value.ref ea :: us) := .cons rfl r1
  have hl : (Value.ref ea :: us).length = ps.length := by rw [← r2.length]; exact F.len _ _ _ _ sp1
  refine wpAny_call (codeAny_mono (F.run _ X.stack _ _ ⟨Value.ref ea :: us, []⟩ (Value.ref ea :: us) _ _ _ (hr.make C us []) (I2.env0.make C us []) (by have := hb { s1 with heap := h' } (Value.ref ea :: us) I2.kIn (by rw [List.append_nil]; exact hl); rw [List.append_nil] at this; exact this) r2 sp1) fun r s' hq' => ?_)
  cases r with
  | error e => exact (hq _ _ _ _ _ hq').elim
  | ok fl =>
    cases fl with
    | ret u =>
      obtain ⟨v, H', I3, rv, ev, od, e3, q3⟩ := I2.after hq'
      subst ev
      obtain rfl : u = Value.none := rv
      obtain ⟨⟨a0, sl, e4⟩, _, _⟩ := (show ObjOk X.prog X.w H' s'.heap ea (ExN ea (.ref C) od) from I3.hok ea _ e3)
      refine ⟨rfl, I3.bk _ _ (B _ _ ho), ⟨a0, od, sl, e4⟩, ?_⟩
      refine hR pins σ (del H' ea) s' ea (.ref C) od (I3.untrack e3) ⟨_, _, e4, rfl, rfl, rfl, rfl⟩ ⟨del_same, le.new, le.loc, le.cel, le.pin⟩ q3
    | next => exact False.elim hq'
    | brk => exact False.elim hq'
    | cont => exact False.elim hq'
end
structure BaseIn (K : PySem.W.Frag) (Tl : Addr) : Prop where
  ga : PySem.W.specialIn K (.ref Tl) "__getattribute__" = some (some (.builtin "type.__getattribute__"))
  rd : PySem.W.readsIn K Tl (.type "type") = true
  fd : PySem.W.findCls K (.ref Tl) (.type "type") "__init__" = some (.val (.builtin "ValueError.__init__"))
def tBaseInit (K : PySem.W.Frag) (t : TA) : TE := fun σ H Q => t σ H fun vs H1 => ∃ ea C fI od rest, vs = .ref ea :: rest ∧ rest.length ≤ sizeLine ∧ XObjI K C fI ∧ H1 ea = some (ExN ea (.ref C) od) ∧ Q .non H1
section
variable {X : Cx} {x : Str} {np apos pos : Pos} {e0 : Expr} {es : List Expr} {t : TA} {Tl : Addr} {pl : Sem Bool}
theorem pe_baseInit (b : BaseIn X.K Tl) (hg : Gl X x) (hm : X.mg x = some (.ref Tl)) (ha : PA X (e0 :: es) t) (hdb : (x == ("__debug__" : Str)) = false := by decide)
    (he : starEach (e0 :: es) X.env = (false, eval e0 X.env) :: starEach es X.env := by rfl) (hpl : (backTo pos (starEach es X.env)).any (·.1) = false := by rfl)
    (ht : eval (.Call (.Attribute (.Name x np) "__init__" apos) (e0 :: es) [] pos) X.env = (do
      let ov ← eval (.Name x np) X.env
      standAt apos.atName
      let (f, first) ← holding [ov] (getMethod ov "__init__" pl)
      callWith pos f first (backTo pos (starEach (e0 :: es) X.env)) (backToKw pos (keywordEach [] X.env))) := by rfl) :
    PE X (.Call (.Attribute (.Name x np) "__init__" apos) (e0 :: es) [] pos) (tBaseInit X.K t) := by
  intro pins s σ H Q I h
  refine PySem.W.methodCall_KW (pl := pl) (ld_glob I hg hm ?_ hdb) ht
  refine PySem.W.method_cls I.kIn b.ga (PySem.W.cls_value I.kIn b.rd b.fd (by decide +kernel) ?_)
  have I0 := I.tok (s.toks + 1)
  have g0 := ha pos pins _ σ H _ I0 h
  rw [he] at g0 ⊢
  refine PySem.W.callWith_of (P := fun _ => True) (by show ((false || (backTo pos (starEach es X.env)).any (·.1)) || false) = false; rw [hpl]; rfl) (fun h _ => ⟨.machine, .inr (.inl rfl), .now⟩) (Calls.evalArgs_plain (thn g0 fun us s1 ⟨vs, H1, I1, r1, ea, C, fI, od, rest, ev, hl, q, e1, q1⟩ => ⟨trivial, ?_⟩))
  subst ev
  obtain ⟨u, us', rfl, ru, rr⟩ : ∃ u us', us = u :: us' ∧ RelV (.ref ea) u ∧ Vals rest us' := by cases r1 with | cons a c => exact ⟨_, _, rfl, a, c⟩
  obtain rfl : u = Value.ref ea := ru
  obtain ⟨nm, qn, N, bs, bm, hdct, sn, sub, ab, col, dd, k0, k1, k2, k3, k5, ho, z5, z6, z4, z7⟩ := q
  have B := I.mod.kin
  have T0 := (PySem.W.tail_of_in B z4).keeps I1.bk
  have hC := I1.bk _ _ (B _ _ ho)
  obtain ⟨⟨a0, sl, e4⟩, _, _⟩ := (show ObjOk X.prog X.w H1 s1.heap ea (ExN ea (.ref C) od) from I1.hok ea _ e1)
  have F := PySem.F.excBase_ValueError
  obtain ⟨hp, g, d, tk, os⟩ := s1
  refine wpAny_call (codeAny_call_builtin F.init.plain F.initEntry (wpAny_check_init_subT F T0 hC e4 rfl ?_))
  wp_walk
  have ul : us'.length = rest.length := rr.length.symm
  rw [if_neg (by rw [List.size_toArray]; omega)]
  wp_walk
  have lt : ea < hp.objs.size := Heap.lt_size e4
  have e5 : (hp.push { cls := Value.type "tuple", data := Data.seq us'.toArray }).get? ea = some { cls := .ref C, dict := od, data := .fields #[a0, .none, .none, .none, .bool false, .none], slots := sl } := Heap.get?_push_of_some _ e4
  have fin : EP X pins σ Q .none ⟨(hp.push { cls := Value.type "tuple", data := Data.seq us'.toArray }).update ea (Obj.mapFields fun x => x.setIfInBounds 0 (Value.ref hp.objs.size)), g, d, tk, os⟩ := by
    have e6 := Heap.get?_update_self (Obj.mapFields fun x => x.setIfInBounds 0 (Value.ref hp.objs.size)) e5 rfl
    have I2 := I1.write (x := ea) (e := ea) (o := ExN ea (.ref C) od) (t' := tk) (h' := (hp.push { cls := Value.type "tuple", data := Data.seq us'.toArray }).update ea (Obj.mapFields fun x => x.setIfInBounds 0 (Value.ref hp.objs.size))) (by rw [e1]; trivial) (.inl rfl) (fun b u n z => by rw [Heap.get?_update_other _ _ (Ne.symm n)]; exact Heap.get?_push_of_some _ z) ⟨_, e6⟩
      ⟨⟨_, _, e6⟩, ⟨_, e6⟩, by
        rintro g1 g2 ⟨a, l, a1⟩ kk
        exact ⟨a, l, kk _ a1⟩⟩
    have es : upd H1 ea (ExN ea (.ref C) od) = H1 := by
      funext b
      by_cases z : b = ea
      · rw [z, upd_same, e1]
      · rw [upd_ne z]
    rw [es] at I2
    exact ⟨.non, H1, I2, rfl, q1⟩
  show wpAny _ _ (match a0 with | Value.ref a => letGo [a0] | x => pure ()) _ _ _
  cases a0 with
  | ref a => exact wpAny_letGo (wpAny_pure fin)
  | _ => exact wpAny_pure (wpAny_pure fin)
end
end L2
set_option Elab.async false
set_option linter.all false
set_option maxRecDepth 100000
namespace L2
open PySem PySem.Spec PyProof.Rows PySem.W PySem.Builtin PySem.Builtin.ObjectAttr
theorem refuse_bmV (self : Value) : refuseLoop self "__setattr__" bmV = pure () := by kernel_rfl
section
variable {K : PySem.W.Frag} {prog : Program} {w : World} {A : Around} {s : Shared} {x C Tl : Addr} {R : Result → Shared → Prop}
theorem osa_exc {ox : Obj} {od : Option Obj} {name : Str} {tk : Tok} {v : Value} {cd : ClassData} (X : K.In s.heap) (I : PySem.W.InstAt s.heap x ox C od) (hc : PySem.W.clsIn K C = some cd) (hmro : cd.mro = .ref C :: .ref Tl :: bmV) (ht : PySem.W.takerIn K C name = some none)
    (h : ∀ b, wpAny (model prog w) A.in1 (storeInOwnDict (.ref x) (.ref C) (.str name tk) name v b)
      (fun fin s' => match fin with | .done f => R (.ok f) s' | .again c' => c'.quiet = true ∧ codeAny (model prog w) A c' R s') (fun e s' => R (.error e) s') s) :
    codeAny (model prog w) A (.call (.builtin "object.__setattr__") ⟨[.ref x, .str name tk, v], []⟩) R s := by
  have SF := PySem.F.store_object
  have ne : cd.mro.isEmpty = false := by rw [hmro]; rfl
  have sub : PySem.W.Looks (model prog w) s.heap (isInstance (.ref x) (.type "object")) true := I.type.andThen (PySem.W.looks_mroIn X (by unfold PySem.W.mroIn; rw [hc, Option.bind_some, if_neg (by rw [ne]; decide), hmro]; simp))
  refine codeAny_call_builtin SF.slot.plain SF.entry (@check_slot (model prog w) _ _ s "object.__setattr__" "object" "__setattr__" (.ref x) [.str name tk, v] [] _ SF.kind SF.split sub (SF.args (.ref x) (.str name tk) v) ?_)
  obtain ⟨attr, ha, hr⟩ := Option.bind_eq_some_iff.mp ht
  have hm : PySem.W.Looks (model prog w) s.heap (mroOf (.ref C)) cd.mro := (PySem.W.looks_clsIn X hc).andThen .now
  have L3 : PySem.W.Looks (model prog w) s.heap (storeTaker? attr) none := by
    cases attr with
    | none => exact .now
    | some a =>
      obtain ⟨b, hb, z⟩ := Option.map_eq_some_iff.mp hr
      refine (PySem.W.looks_takesIn X hb).andThen ?_
      cases b
      · exact .now
      · cases z
  rw [PySem.W.osa_eq, refuse_eq]
  refine wpAny_bind (wpAny_bind (I.type.here (wpAny_bind (hm.here ?_))))
  rw [hmro, refuseLoop_ref, refuseLoop_ref, refuse_bmV]
  refine wpAny_pure (wpAny_bind (I.type.here (wpAny_bind ((PySem.W.looks_findIn X ha).here (wpAny_bind (L3.here ?_))))))
  exact h _
theorem store_exc {name : Str} {tk : Tok} {v : Value} {b : Bool} {oe : Obj} {vs : Array Value} {cd : ClassData} {Q : Fin → Shared → Prop} {E : Value → Shared → Prop} (X : K.In s.heap) (he : s.heap.get? x = some oe) (h1 : oe.cls = .ref C) (h2 : oe.dict = none) (h3 : oe.data = .fields vs) (hc : PySem.W.clsIn K C = some cd) (hh : cd.hasDict = true)
    (h : ∀ h' dx, s.heap.get? dx = none → h'.get? x = some { oe with dict := some dx } → h'.Ns1 dx (fun y => if y = name then some v else none) → (∀ c o, c ≠ x → s.heap.get? c = some o → h'.get? c = some o) → Q (.done (.ret .none)) { s with heap := h', toks := s.toks + 1 }) :
    wpAny (model prog w) A (storeInOwnDict (.ref x) (.ref C) (.str name tk) name v b) Q E s := by
  obtain ⟨hp, g, d, t, os⟩ := s
  have L := PySem.W.looks_clsIn (M := model prog w) X hc
  unfold storeInOwnDict ownDictForStores instanceDict
  refine wpAny_bind (wpAny_pure ?_)
  simp only [show (Value.ref C == Value.type "module") = false from rfl, Bool.false_eq_true, if_false]
  refine wpAny_bind (wpAny_bind (wpAny_loadPart_at he ?_))
  rw [h1]
  refine wpAny_bind (L.at ?_)
  rw [hh, h2, h3]
  show wpAny _ _ (do let d ← alloc { cls := Value.type "dict", data := Data.dict #[] }; update x fun o => { cls := o.cls, dict := some d, data := o.data, slots := o.slots }; dictMade (Value.ref C) x d) _ _ _
  have ex := Heap.get?_push_of_some { cls := Value.type "dict", data := Data.dict #[] } he
  have lt : x < hp.objs.size := Heap.lt_size he
  refine wpAny_bind (wpAny_alloc' (wpAny_bind (wpAny_update' (o := oe) ex ?_)))
  show wpAny _ _ (pure (some hp.objs.size)) _ _ _
  refine wpAny_pure ?_
  show wpAny _ _ (storeInDict hp.objs.size (Value.str name tk) name v) _ _ _
  unfold storeInDict
  refine wpAny_bind (wpAny_pure (wpAny_bind ?_))
  have ed : ((hp.push { cls := Value.type "dict", data := Data.dict #[] }).update x fun o => { cls := o.cls, dict := some hp.objs.size, data := o.data, slots := o.slots }).get? hp.objs.size = some { cls := Value.type "dict", data := Data.dict #[] } := by
    rw [Heap.get?_update_other _ _ (Nat.ne_of_lt lt)]
    exact Heap.get?_push_size _ rfl
  have ns : ((hp.push { cls := Value.type "dict", data := Data.dict #[] }).update x fun o => { cls := o.cls, dict := some hp.objs.size, data := o.data, slots := o.slots }).Ns1 hp.objs.size (fun _ => none) := by
    refine ⟨_, #[], _, ed, rfl, ?_, ?_, fun _ => rfl⟩
    · intro e he; simp at he
    · first | exact uniqKeys_empty | (unfold UniqKeys; simp) | (intro i j; simp) | decide
  refine wpAny_nsSet1 (s := ⟨_, g, d, t, os⟩) ns fun h' hn2 hs2 => ?_
  obtain ⟨oD, esD, epD, hoD, hdD, hcD⟩ := hn2.count (PySem.Within.cons name v (ns := []) (fun _ z => (z rfl).elim))
  refine wpAny_bind (wpAny_lookBehind hoD (by rw [hdD]; exact pastItsLine_dict (Nat.le_trans hcD (by show 1 ≤ sizeLine + 1; omega))) ?_)
  refine wpAny_pure (h h' hp.objs.size (Heap.get?_none_of_le (Nat.le_refl _)) ?_ hn2 fun c o nc e => ?_)
  · rw [hs2.2 _ (Nat.ne_of_lt lt), Heap.get?_update_self _ ex (Obj.isFreed_of_fields h3)]
  · have lc := Heap.lt_size e
    rw [hs2.2 _ (Nat.ne_of_lt lc), Heap.get?_update_other _ _ (Ne.symm nc)]
    exact Heap.get?_push_of_some _ e
end
section
variable {X : Cx} {pins : List (Addr × Obj)} {σ : St} {H : Hp} {s : Shared}
theorem Inv.trackO {a : Addr} {o : HO} (I : Inv X pins σ H s) (l : Loose X pins H a) (ok : ObjOk X.prog X.w (upd H a o) s.heap a o) : Inv X pins σ (upd H a o) s := by
  have ne : ∀ b, b ≠ a → upd H a o b = H b := fun b z => upd_ne z
  have nt : ∀ b u, H b = some u → upd H a o b = some u := fun b u z => by rw [ne b (ne_of_none z l.un)]; exact z
  refine ⟨I.ok, I.os, I.bare, ⟨I.base.keep, I.base.slot, fun b o q n x => ?_, I.base.there, fun b xs q => nt _ _ (I.base.tups b xs q), fun b o u q => nt _ _ (I.base.frzs b o u q), fun b ps q => ?_⟩, I.loc, I.cell, ?_, fun x c q => ?_, fun p hp => ?_, ?_, I.len⟩
  · rw [ne b (by rintro rfl; rw [l.new] at q; cases q)]
    exact I.base.free b o q n x
  · obtain ⟨more, z⟩ := I.base.tbls b ps q
    exact ⟨more, nt _ _ z⟩
  · rw [ne _ (Ne.symm l.loc)]
    exact I.free
  · rw [ne _ (l.cel x c q)]
    exact I.freeC x c q
  · obtain ⟨z1, z2, z3, z4, z5⟩ := I.pin p hp
    exact ⟨z1, by rw [ne _ (l.pin p hp)]; exact z2, z3, z4, z5⟩
  · intro b u q
    by_cases z : b = a
    · subst z
      rw [upd_same] at q
      cases q
      exact ok
    · rw [ne b z] at q
      exact (I.hok b u q).stay (fun _ _ _ r => r) (fun c r => nt _ _ r) fun c xs r => nt _ _ r
end
structure XSet (K : PySem.W.Frag) (C Tl : Addr) (f : Str) : Prop where
  sa : PySem.W.findIn K (.ref C) "__setattr__" = some (some (.builtin "object.__setattr__"))
  cd : ∃ cd, PySem.W.clsIn K C = some cd ∧ cd.mro = .ref C :: .ref Tl :: bmV ∧ cd.hasDict = true
  tk : PySem.W.takerIn K C f = some none
section
variable {X : Cx} {pins : List (Addr × Obj)} {σ : St} {H : Hp} {s : Shared} {A : Around} {E : Value → Shared → Prop} {ea C Tl : Addr} {f : Str}
theorem setx_ok {y : V} {u : Value} {Q : Unit → Shared → Prop} (h0 : X.ex = []) (I : Inv X pins σ H s) (e : H ea = some (ExN ea (.ref C) none)) (c : XSet X.K C Tl f) (ry : RelV y u)
    (h : ∀ s' dx, H dx = none → dx ≠ ea → Inv X pins σ (upd (upd H ea (ExN ea (.ref C) (some dx))) dx (.xd [(f, y)])) s' → Q () s') : wpAny (model X.prog X.w) A (setAttr (.ref ea) f u) Q E s := by
  obtain ⟨⟨a0, sl, e4⟩, _, _⟩ := (show ObjOk X.prog X.w H s.heap ea (ExN ea (.ref C) none) from I.hok ea _ e)
  obtain ⟨cd, hc, hm, hd⟩ := c.cd
  have J : PySem.W.InstAt s.heap ea _ C none := ⟨e4, rfl, rfl, trivial⟩
  refine PySem.W.set_plain I.kIn J c.sa (osa_exc (s := { s with toks := s.toks + 1 }) (Tl := Tl) I.kIn J hc hm c.tk fun b => store_exc (s := { s with toks := s.toks + 1 }) I.kIn e4 rfl rfl rfl hc hd fun h' dx nd hx hn kp => ?_)
  have ne : dx ≠ ea := fun z => by rw [z] at nd; rw [show s.heap.get? ea = none from nd] at e4; cases e4
  have hu := untr I.hok nd
  have I2 := I.write (x := ea) (e := ea) (o := ExN ea (.ref C) (some dx)) (t' := s.toks + 1 + 1) (h' := h') (by rw [e]; trivial) (.inl rfl) (fun b u n z => kp b u n z) ⟨_, hx⟩
    ⟨⟨_, _, hx⟩, ⟨_, hx⟩, by
      rintro g1 g2 ⟨a, l, a1⟩ kk
      exact ⟨a, l, kk _ a1⟩⟩
  have l2 : Loose X pins (upd H ea (ExN ea (.ref C) (some dx))) dx := by
    obtain ⟨a1, a2, a3⟩ := I.apart nd
    refine ⟨by rw [upd_ne ne]; exact hu, ?_, a1, a2, a3⟩
    rcases I.young nd with z | z
    · exact z
    · rw [h0] at z; cases z
  refine h _ dx hu ne (I2.trackO l2 ⟨_, hn, fun g => ?_⟩)
  show RelO (List.lookup g [(f, y)]) (if g = f then some u else none)
  by_cases q : g = f
  · rw [if_pos q, q, List.lookup_cons_self]; exact ry
  · rw [if_neg q, List.lookup_cons, show (g == f) = false from by simpa using q]; trivial
end
def sFldX (K : PySem.W.Frag) (ta tv : TE) (f : Str) : TS := fun D σ H => tv σ H fun y H1 => ta σ H1 fun x H2 => ∃ ea C Tl, x = .ref ea ∧ H2 ea = some (ExN ea (.ref C) none) ∧ XSet K C Tl f ∧ ∀ dx, H2 dx = none → dx ≠ ea → D.nx σ (upd (upd H2 ea (ExN ea (.ref C) (some dx))) dx (.xd [(f, y)]))
section
variable {X : Cx} {o value : Expr} {ta tv : TE} {f : Str} {pos pos' : Pos}
theorem ps_fldX (h0 : X.ex = []) (ha : PE X o ta) (hv : PE X value tv) (hs : swapsWith value (some (.Attribute o f pos')) pos.line X.env = pure false) : PS X (.Assign [.Attribute o f pos'] value pos) (sFldX X.K ta tv f) := by
  intro pins s σ H D I h
  refine plainObj_wpAny_Assign_Attribute (thnE (hv pins s σ H _ I h) fun u s1 y H1 I1 ry q => thnE (ha pins s1 σ H1 _ I1 q) fun ov s2 x H2 I2 rx ⟨ea, C, Tl, ex, e2, c, q2⟩ => ?_) hs
  subst ex
  obtain rfl : ov = Value.ref ea := rx
  exact setx_ok h0 I2 e2 c ry fun s3 dx n1 n2 I3 => ⟨σ, _, I3, q2 dx n1 n2⟩
end
section
variable {prog : Program} {w : World} {A : Around} {E : Value → Shared → Prop} {s : Shared} {K : PySem.W.Frag} {x C : Addr} {ox : Obj} {od : Obj}
theorem exc_get {name : Str} {v : Value} {expr : Bool} {Q : Value → Shared → Prop} (X : K.In s.heap) (I : PySem.W.InstAt s.heap x ox C (some od)) (c : XCls K C) (ha : PySem.W.findIn K (.ref C) name = some none) (hl : PySem.W.lookIn name od = some (some v)) (hv : PySem.W.handedIn v = true)
    (h : Q v { s with toks := s.toks + 1 }) : wpAny (model prog w) A (getAttr (.ref x) name expr) Q E s := by
  obtain ⟨hh, g, dr, t, os⟩ := s
  have L0 := I.type (M := model prog w)
  have L1 := PySem.W.looks_findIn (M := model prog w) X c.ga
  have L2 := PySem.W.looks_findIn (M := model prog w) X c.gt
  have L3 := PySem.W.looks_find (M := model prog w) X I (PySem.W.findObj_own c.hd ha rfl hl)
  have n2 : (Value.builtin "BaseException.__getattribute__" == Value.builtin "object.__getattribute__") = false := by decide +kernel
  have n1 : (onTheHeap (Value.ref C) && Value.builtin "BaseException.__getattribute__" == Value.builtin "object.__getattribute__") = false := by rw [n2]; rfl
  have b1 := F.excAttr_ValueError.ga.bind (.ref x)
  refine wpAny_bind (wpAny_mkText (wpAny_holding (wpAny_bind (L0.at (wpAny_bind (L1.at ?_))))))
  dsimp only
  rw [n1]
  simp only [Bool.false_eq_true, if_false]
  unfold getAttrByItsOwn hookBefore callGetattribute boundAndCalled
  simp only [onTheHeap, Bool.and_false, Bool.false_eq_true, if_false, if_true]
  refine wpAny_bind (L2.at (wpAny_bind (wpAny_attempt (wpAny_holding (wpAny_bind (wpAny_of_eq b1 ?_))))))
  refine wpAny_call (codeAny_call_builtin F.excAttr_ValueError.ga.plain F.entry_bexc_ga (exc_check X I c ?_))
  unfold Builtin.«object.__getattribute__»
  repeat lk
  show wpAny _ _ (handedOut v) _ _ _
  exact PySem.W.handed_on hv h
end
def rFldX (K : PySem.W.Frag) (f : Str) (x : V) (H : Hp) (Q : VK) : Prop := ∃ ea C dx fs v, x = .ref ea ∧ H ea = some (ExO ea (.ref C) (some dx)) ∧ XCls K C ∧ PySem.W.findIn K (.ref C) f = some none ∧ H dx = some (.xd fs) ∧ fs.lookup f = some v ∧ Q v H
section
variable {X : Cx} {o : Expr} {ta : TE} {f : Str} {pos : Pos}
theorem getx_ok {pins : List (Addr × Obj)} {σ : St} {H : Hp} {s : Shared} {x : V} {ov : Value} {Q : VK} {b : Bool} (I : Inv X pins σ H s) (rx : RelV x ov) (h : rFldX X.K f x H Q) : wpAny (model X.prog X.w) X.A (getAttr ov f b) (EP X pins σ Q) X.xe s := by
  obtain ⟨ea, C, dx, fs, v, rfl, he, c, hn, hd, hl, q⟩ := h
  obtain rfl : ov = Value.ref ea := rx
  obtain ⟨⟨oe, vs, h1, h2, h3, h4⟩, _, _⟩ := (show ObjOk X.prog X.w H s.heap ea (ExO ea (.ref C) (some dx)) from I.hok ea _ he)
  obtain ⟨mA, ns, rl⟩ := (show ObjOk X.prog X.w H s.heap dx (.xd fs) from I.hok dx _ hd)
  obtain ⟨od, ho, lk⟩ := lookIn_ns ns
  obtain ⟨u, hu, ru⟩ := RelO.some_of (v := v) (o := mA f) (by rw [← hl]; exact rl f)
  have J : PySem.W.InstAt s.heap ea oe C (some od) := ⟨h1, h2, by unfold PySem.W.notCls; rw [h4], by rw [h3]; exact ho⟩
  exact exc_get I.kIn J c hn (by rw [lk, hu]) (handed_of ru) ⟨v, H, I.tok _, ru, q⟩
theorem pe_fldX (K : PySem.W.Frag) (hK : X.K = K) (he : PE X o ta) (hb : attributeBase o f X.env (eval o X.env) = eval o X.env) : PE X (.Attribute o f pos) (fun σ H Q => ta σ H fun x H1 => rFldX K f x H1 Q) := by
  subst hK
  intro pins s σ H Q I h
  exact attr_of hb (thnE (he pins s σ H _ I h) fun u s1 x H1 I1 rx q => getx_ok I1 rx q)
end
theorem xset_mk {K : PySem.W.Frag} {C Tl : Addr} {f : Str} {c0 : Value} {dd : Option Addr} {cd : ClassData} {sl : Array (Option Value)} (l : K.lookup C = some ⟨c0, dd, .cls cd, sl⟩) (m : cd.mro = .ref C :: .ref Tl :: bmV) (h : PySem.W.hasDictIn K C = true)
    (s : PySem.W.findIn K (.ref C) "__setattr__" = some (some (.builtin "object.__setattr__"))) (a : PySem.W.findIn K (.ref C) f = some none) : XSet K C Tl f := by
  obtain ⟨cd', e, hd⟩ := PySem.W.any_some h
  have e2 : PySem.W.clsIn K C = some cd := by unfold PySem.W.clsIn; rw [l]
  rw [e2] at e
  cases e
  exact ⟨s, ⟨cd, e2, m, hd⟩, by unfold PySem.W.takerIn; rw [a]; rfl⟩
theorem xobjI_mk {K : PySem.W.Frag} {C fI : Addr} {o : Obj} (nm qn : Str) (N : Addr) (bs bm : List Value) (hdct : Bool) (sn : List Str) (sub : List Value) (ab : Bool) (col : Option Bool) (dd : Option Addr) (k0 k1 k2 k3 k5 : Option Value) (l : K.lookup C = some o)
    (e : o = excClassObj nm qn C N bs bm hdct sn sub ab col dd k0 k1 k2 k3 k5 "ValueError.__new__") (a : PySem.W.nsOkIn K N = true) (b : PySem.W.nsIn K N "__init__" = some (some (.ref fI))) (c : PySem.W.tailIn K bmV bm = true) (d : PySem.W.isFn K (.ref fI) = true) : XObjI K C fI := by
  subst e
  exact ⟨_, _, _, _, _, _, _, _, _, _, _, _, _, _, _, _, l, a, b, c, d⟩
end L2
set_option Elab.async false
set_option linter.all false
set_option maxRecDepth 100000
set_option maxHeartbeats 4000000
namespace Pk
open PySem L2 Pb
seal L2.PSs L2.PS L2.PE L2.PT L2.PW L2.PA L2.PG L2.PGs L2.PI L2.PTs L2.PC L2.PPs L2.PO
abbrev top (i : Nat) : Stmt := Hd.top i
local macro_rules | `(tactic| walk_at "rd") => `(tactic| ((try dsimp only [tYes, tIsN, tNotN, Ends.less, tRaise_eq, tTry_eq, tHand_eq, tFor_eq, tForD, iStr, tJoinR, tComp_eq', iTup, iList, iAny, iRng1, iRng2, iRng3, iEnum, iRev, iZip, cxOf_K, tNever_eq, tListR, tRet, tRetN, tSeq, tNext, tAsg, gName, gTup, gCons, gNil, gSub, tPar3, tAugS, tAug, tMinD, tNotT, ipI, tIfS, tDrop, tTest, tB, tChain, tC, tVar, tOp, tUn, rI0, rI, rU, rEq, rNe, tCall, tMake, tCons, tNil, tTup, tLst, tCB, tBM, tBM0, tFld, sFld, tDIn, tDInN, tDNotIn, sDPut, tDGet, tDisp, tDispT, tPairs, tDNewK, tDNewT, tAnd, tOr, tNot, tAndV, tOrV, tNotV, tIf, List.nil_append, List.append_nil, List.set_cons_zero, List.set_cons_succ, List.getElem?_cons_zero, List.getElem?_cons_succ]); (try simp only [tYes, tIsN, tNotN, Ends.less, tRaise_eq, tTry_eq, tHand_eq, tFor_eq, tForD, iStr, tJoinR, tComp_eq', iTup, iList, iAny, iRng1, iRng2, iRng3, iEnum, iRev, iZip, cxOf_K, tNever_eq, tListR, tRet, tRetN, tSeq, tNext, tAsg, gName, gTup, gCons, gNil, gSub, tPar3, tAugS, tAug, tMinD, tNotT, ipI, tIfS, tDrop, tTest, tB, tChain, tC, tVar, tOp, tUn, rI0, rI, rU, rEq, rNe, scal_ii, scal_bb, scal_in, scal_ni, scal_nn, scal_ss, tCall, tMake, tCons, tNil, tTup, tLst, tCB, tBM, tBM0, tFld, sFld, tDIn, tDInN, tDNotIn, sDPut, tDGet, tDisp, tDispT, tPairs, tDNewK, tDNewT, tAnd, tOr, tNot, tAndV, tOrV, tNotV, tIf, List.nil_append, List.append_nil, List.set_cons_zero, List.set_cons_succ, List.getElem?_cons_zero, List.getElem?_cons_succ, Option.some.injEq, V.int.injEq, V.bl.injEq, V.ref.injEq, List.cons.injEq, exists_eq_left, exists_eq_left', exists_and_left, exists_const, and_true, true_and, decide_eq_true_eq, Bool.not_eq_true', decide_eq_false_iff_not, Bool.true_eq_false, Bool.false_eq_true, if_true, if_false])))
set_option genSizeOf false in
set_option genInjectivity false in
structure Txt (K : PySem.W.Frag) (mg : Str → Option Value) where
  TollError : Addr
  m_TollError : mg "TollError" = some (.ref TollError)
  BadWeb : Addr
  m_BadWeb : mg "BadWeb" = some (.ref BadWeb)
  NoPlace : Addr
  m_NoPlace : mg "NoPlace" = some (.ref NoPlace)
  NoRoad : Addr
  m_NoRoad : mg "NoRoad" = some (.ref NoRoad)
  BadLaying : Addr
  m_BadLaying : mg "BadLaying" = some (.ref BadLaying)
  BadWish : Addr
  m_BadWish : mg "BadWish" = some (.ref BadWish)
  TooMany : Addr
  m_TooMany : mg "TooMany" = some (.ref TooMany)
  NoNumber : Addr
  m_NoNumber : mg "NoNumber" = some (.ref NoNumber)
  NoWorst : Addr
  m_NoWorst : mg "NoWorst" = some (.ref NoWorst)
  NoDeed : Addr
  m_NoDeed : mg "NoDeed" = some (.ref NoDeed)
  BadStep : Addr
  m_BadStep : mg "BadStep" = some (.ref BadStep)
  BadText : Addr
  m_BadText : mg "BadText" = some (.ref BadText)
  x_TollError : XTop K TollError
  x_BadWeb : XErr K TollError BadWeb
  e_BadWeb : XObj K BadWeb
  x_NoPlace : XErr K TollError NoPlace
  e_NoPlace : XObj K NoPlace
  x_NoRoad : XErr K TollError NoRoad
  e_NoRoad : XObj K NoRoad
  x_BadLaying : XErr K TollError BadLaying
  e_BadLaying : XObj K BadLaying
  x_BadWish : XErr K TollError BadWish
  e_BadWish : XObj K BadWish
  x_TooMany : XErr K TollError TooMany
  e_TooMany : XObj K TooMany
  x_NoNumber : XErr K TollError NoNumber
  e_NoNumber : XObj K NoNumber
  x_NoWorst : XErr K TollError NoWorst
  e_NoWorst : XObj K NoWorst
  x_NoDeed : XErr K TollError NoDeed
  e_NoDeed : XObj K NoDeed
  x_BadStep : XErr K TollError BadStep
  x_BadText : XErr K TollError BadText
  b_TollError : BaseIn K TollError
  s_BadStep : XSet K BadStep TollError "at"
  a_BadStep : PySem.W.findIn K (.ref BadStep) "at" = some none
  s_BadText : XSet K BadText TollError "at"
  a_BadText : PySem.W.findIn K (.ref BadText) "at" = some none
  ndx : [TollError, BadWeb, NoPlace, NoRoad, BadLaying, BadWish, TooMany, NoNumber, NoWorst, NoDeed, BadStep, BadText].Nodup
  range : mg "range" = none
  isinstance : mg "isinstance" = none
  int : mg "int" = none
  bool : mg "bool" = none
  list : mg "list" = none
  ValueError : mg "ValueError" = none
section
variable {P : Program} {w : World} {K : PySem.W.Frag} {mg : Str → Option Value} {base : Heap} {CX : CXT}
/-! #### _law_marks -/
/-- what _law_marks tells of an error of the class at C -/
def marksOf (T : Txt K mg) (C : Addr) : List Bool := [decide (T.NoPlace = C), decide (T.NoRoad = C), decide (T.BadWeb = C), decide (T.BadLaying = C), decide (T.BadWish = C), decide (T.BadStep = C), decide (T.TooMany = C), decide (T.NoNumber = C), decide (T.NoWorst = C), decide (T.NoDeed = C), decide (T.BadText = C), true]
/-- the row of marks of the refusal with the number n -/
def dueRow (n : Int) : List Bool := (List.range 12).map fun (k : Nat) => decide ((k : Int) = n) || decide ((k : Int) = 11)
theorem marks_NoPlace (T : Txt K mg) : marksOf T T.NoPlace = dueRow 0 := by
  have nd := T.ndx
  rw [show dueRow 0 = [true, false, false, false, false, false, false, false, false, false, false, true] from by decide]
  simp only [List.nodup_cons, List.mem_cons, not_or, List.not_mem_nil, not_false_iff, and_true] at nd
  simp [marksOf, nd, Ne.symm, eq_comm]
theorem marks_NoRoad (T : Txt K mg) : marksOf T T.NoRoad = dueRow 1 := by
  have nd := T.ndx
  rw [show dueRow 1 = [false, true, false, false, false, false, false, false, false, false, false, true] from by decide]
  simp only [List.nodup_cons, List.mem_cons, not_or, List.not_mem_nil, not_false_iff, and_true] at nd
  simp [marksOf, nd, Ne.symm, eq_comm]
def sp_law_marks (T : Txt K mg) : Sp := fun vs H Q _ => ∃ (ea C : Addr) (od : Option Addr), vs = [.ref ea] ∧ H ea = some (ExO ea (.ref C) od) ∧ XDict H od ∧ XErr K T.TollError C ∧ ∀ l H', H l = none → Same H H' → H' l = some (.lst ((marksOf T C).map V.bl)) → Q (.ref l) H'
abbrev s_law_marks : Stmt := top 15
theorem sc_law_marks : FnScope ["e", "marks"] ["e"] (defScope s_law_marks) := FnScope.of (by kernel_rfl)
theorem n_law_marks__e : NmL (defScope s_law_marks) "e" := .of (by kernel_rfl)
theorem n_law_marks__marks : NmL (defScope s_law_marks) "marks" := .of (by kernel_rfl)
theorem n_law_marks__isinstance : NmG (defScope s_law_marks) "isinstance" := .of (by kernel_rfl)
theorem n_law_marks__NoPlace : NmG (defScope s_law_marks) "NoPlace" := .of (by kernel_rfl)
theorem n_law_marks__NoRoad : NmG (defScope s_law_marks) "NoRoad" := .of (by kernel_rfl)
theorem n_law_marks__BadWeb : NmG (defScope s_law_marks) "BadWeb" := .of (by kernel_rfl)
theorem n_law_marks__BadLaying : NmG (defScope s_law_marks) "BadLaying" := .of (by kernel_rfl)
theorem n_law_marks__BadWish : NmG (defScope s_law_marks) "BadWish" := .of (by kernel_rfl)
theorem n_law_marks__BadStep : NmG (defScope s_law_marks) "BadStep" := .of (by kernel_rfl)
theorem n_law_marks__TooMany : NmG (defScope s_law_marks) "TooMany" := .of (by kernel_rfl)
theorem n_law_marks__NoNumber : NmG (defScope s_law_marks) "NoNumber" := .of (by kernel_rfl)
theorem n_law_marks__NoWorst : NmG (defScope s_law_marks) "NoWorst" := .of (by kernel_rfl)
theorem n_law_marks__NoDeed : NmG (defScope s_law_marks) "NoDeed" := .of (by kernel_rfl)
theorem n_law_marks__BadText : NmG (defScope s_law_marks) "BadText" := .of (by kernel_rfl)
theorem n_law_marks__ValueError : NmG (defScope s_law_marks) "ValueError" := .of (by kernel_rfl)

theorem ok_law_marks (T : Txt K mg) (hq : Quiet (CXe P w)) {f : Addr} {fd : FuncData} (D : Df K mg "_law_marks" s_law_marks ["e"] f fd) : FnOkH P w K mg base 1 f fd ["e"] (sp_law_marks T) := by
  refine D.F.okH sc_law_marks (fun vs H Q E h => ?_) (fun cdv A outer s H vs Q E hr h => ?_)
  · obtain ⟨ea, C, od, rfl, _⟩ := h
    rfl
  · obtain ⟨ea, C, od, rfl, he, hd, xe, k⟩ := h
    refine ⟨_, (pss_cons (ps_set (i := 1) sc_law_marks.nd rfl (Or.inl n_law_marks__marks.l) (pe_lst (pa_cons (pe_callB call_isX n_law_marks__isinstance.g T.isinstance pb_isinstance (pa_cons (pvl 0 n_law_marks__e) (pa_cons (pe_glob (v := .ref T.NoPlace) n_law_marks__NoPlace.g T.m_NoPlace rfl) pa_nil)) (hn := n_law_marks__isinstance.n) (hdb := n_law_marks__isinstance.d)) (pa_cons (pe_callB call_isX n_law_marks__isinstance.g T.isinstance pb_isinstance (pa_cons (pvl 0 n_law_marks__e) (pa_cons (pe_glob (v := .ref T.NoRoad) n_law_marks__NoRoad.g T.m_NoRoad rfl) pa_nil)) (hn := n_law_marks__isinstance.n) (hdb := n_law_marks__isinstance.d)) (pa_cons (pe_callB call_isX n_law_marks__isinstance.g T.isinstance pb_isinstance (pa_cons (pvl 0 n_law_marks__e) (pa_cons (pe_glob (v := .ref T.BadWeb) n_law_marks__BadWeb.g T.m_BadWeb rfl) pa_nil)) (hn := n_law_marks__isinstance.n) (hdb := n_law_marks__isinstance.d)) (pa_cons (pe_callB call_isX n_law_marks__isinstance.g T.isinstance pb_isinstance (pa_cons (pvl 0 n_law_marks__e) (pa_cons (pe_glob (v := .ref T.BadLaying) n_law_marks__BadLaying.g T.m_BadLaying rfl) pa_nil)) (hn := n_law_marks__isinstance.n) (hdb := n_law_marks__isinstance.d)) pa_nil)))))) (pss_cons (ps_set (i := 1) sc_law_marks.nd rfl (Or.inl n_law_marks__marks.l) (pe_op op_cat (pvl 1 n_law_marks__marks) (pe_lst (pa_cons (pe_callB call_isX n_law_marks__isinstance.g T.isinstance pb_isinstance (pa_cons (pvl 0 n_law_marks__e) (pa_cons (pe_glob (v := .ref T.BadWish) n_law_marks__BadWish.g T.m_BadWish rfl) pa_nil)) (hn := n_law_marks__isinstance.n) (hdb := n_law_marks__isinstance.d)) (pa_cons (pe_callB call_isX n_law_marks__isinstance.g T.isinstance pb_isinstance (pa_cons (pvl 0 n_law_marks__e) (pa_cons (pe_glob (v := .ref T.BadStep) n_law_marks__BadStep.g T.m_BadStep rfl) pa_nil)) (hn := n_law_marks__isinstance.n) (hdb := n_law_marks__isinstance.d)) (pa_cons (pe_callB call_isX n_law_marks__isinstance.g T.isinstance pb_isinstance (pa_cons (pvl 0 n_law_marks__e) (pa_cons (pe_glob (v := .ref T.TooMany) n_law_marks__TooMany.g T.m_TooMany rfl) pa_nil)) (hn := n_law_marks__isinstance.n) (hdb := n_law_marks__isinstance.d)) (pa_cons (pe_callB call_isX n_law_marks__isinstance.g T.isinstance pb_isinstance (pa_cons (pvl 0 n_law_marks__e) (pa_cons (pe_glob (v := .ref T.NoNumber) n_law_marks__NoNumber.g T.m_NoNumber rfl) pa_nil)) (hn := n_law_marks__isinstance.n) (hdb := n_law_marks__isinstance.d)) pa_nil))))))) (pss_one (ps_ret (pe_op op_cat (pvl 1 n_law_marks__marks) (pe_lst (pa_cons (pe_callB call_isX n_law_marks__isinstance.g T.isinstance pb_isinstance (pa_cons (pvl 0 n_law_marks__e) (pa_cons (pe_glob (v := .ref T.NoWorst) n_law_marks__NoWorst.g T.m_NoWorst rfl) pa_nil)) (hn := n_law_marks__isinstance.n) (hdb := n_law_marks__isinstance.d)) (pa_cons (pe_callB call_isX n_law_marks__isinstance.g T.isinstance pb_isinstance (pa_cons (pvl 0 n_law_marks__e) (pa_cons (pe_glob (v := .ref T.NoDeed) n_law_marks__NoDeed.g T.m_NoDeed rfl) pa_nil)) (hn := n_law_marks__isinstance.n) (hdb := n_law_marks__isinstance.d)) (pa_cons (pe_callB call_isX n_law_marks__isinstance.g T.isinstance pb_isinstance (pa_cons (pvl 0 n_law_marks__e) (pa_cons (pe_glob (v := .ref T.BadText) n_law_marks__BadText.g T.m_BadText rfl) pa_nil)) (hn := n_law_marks__isinstance.n) (hdb := n_law_marks__isinstance.d)) (pa_cons (pe_callB call_isX n_law_marks__isinstance.g T.isinstance pb_isinstance (pa_cons (pvl 0 n_law_marks__e) (pa_cons (pe_bltn (v := .ty "ValueError") n_law_marks__ValueError.g T.ValueError pb_ValueError rfl (hn := n_law_marks__ValueError.n) (hd := n_law_marks__ValueError.d)) pa_nil)) (hn := n_law_marks__isinstance.n) (hdb := n_law_marks__isinstance.d)) pa_nil)))))))))), ?_⟩
    rw [show L2.start ["e", "marks"] [V.ref ea] = [some (V.ref ea), none] from rfl]
    walk_at "rd"
    have ne : ∀ {C : Addr}, C ∈ [T.NoPlace, T.NoRoad, T.BadWeb, T.BadLaying, T.BadWish, T.BadStep, T.TooMany, T.NoNumber, T.NoWorst, T.NoDeed, T.BadText] → C ≠ T.TollError := fun {C} h z => by
      have nd := T.ndx
      rw [z] at h
      simp only [List.nodup_cons] at nd
      refine nd.1 ?_
      simp only [List.mem_cons, List.not_mem_nil, or_false] at h ⊢
      rcases h with h | h | h | h | h | h | h | h | h | h | h <;> simp [h]
    refine isX_own he hd xe T.x_NoPlace (ne (by simp)) (isX_own he hd xe T.x_NoRoad (ne (by simp)) (isX_own he hd xe T.x_BadWeb (ne (by simp)) (isX_own he hd xe T.x_BadLaying (ne (by simp)) ⟨smallE (by simp), fun p1 n1 => ?_⟩)))
    have s1 := Same.new (.lst [V.bl (decide (T.NoPlace = C)), V.bl (decide (T.NoRoad = C)), V.bl (decide (T.BadWeb = C)), V.bl (decide (T.BadLaying = C))]) n1
    refine isX_own (s1 _ _ he) (hd.same s1) xe T.x_BadWish (ne (by simp)) (isX_own (s1 _ _ he) (hd.same s1) xe T.x_BadStep (ne (by simp)) (isX_own (s1 _ _ he) (hd.same s1) xe T.x_TooMany (ne (by simp)) (isX_own (s1 _ _ he) (hd.same s1) xe T.x_NoNumber (ne (by simp)) ⟨smallE (by simp), fun p2 n2 => ?_⟩)))
    have s2 := s1.trans (Same.new (.lst [V.bl (decide (T.BadWish = C)), V.bl (decide (T.BadStep = C)), V.bl (decide (T.TooMany = C)), V.bl (decide (T.NoNumber = C))]) n2)
    refine catR (Same.new _ n2 _ _ upd_same) upd_same (smallE (by simp)) fun p3 n3 => ?_
    walk_at "rd"
    have s3 := s2.trans (Same.new (.lst ([V.bl (decide (T.NoPlace = C)), V.bl (decide (T.NoRoad = C)), V.bl (decide (T.BadWeb = C)), V.bl (decide (T.BadLaying = C))] ++ [V.bl (decide (T.BadWish = C)), V.bl (decide (T.BadStep = C)), V.bl (decide (T.TooMany = C)), V.bl (decide (T.NoNumber = C))])) n3)
    refine isX_own (s3 _ _ he) (hd.same s3) xe T.x_NoWorst (ne (by simp)) (isX_own (s3 _ _ he) (hd.same s3) xe T.x_NoDeed (ne (by simp)) (isX_own (s3 _ _ he) (hd.same s3) xe T.x_BadText (ne (by simp)) (isX_val (s3 _ _ he) (hd.same s3) xe ⟨smallE (by simp), fun p4 n4 => ?_⟩)))
    refine catR (Same.new _ n4 _ _ upd_same) upd_same (smallE (by simp)) fun p5 n5 => ?_
    exact k p5 _ ((s3.trans (Same.new _ n4)).free n5) ((s3.trans (Same.new _ n4)).trans (Same.new _ n5)) upd_same
/-! #### BadStep.__init__ -/
def sp_BadStep___init__ (T : Txt K mg) : Sp := fun vs H Q _ => ∃ (ea fI : Addr) (n : Int), vs = [.ref ea, .int n] ∧ H ea = some (ExN ea (.ref T.BadStep) none) ∧ XObjI K T.BadStep fI ∧ ∀ dx, H dx = none → dx ≠ ea → Q .non (upd (upd H ea (ExN ea (.ref T.BadStep) (some dx))) dx (.xd [("at", .int n)]))
abbrev s_BadStep___init__ : Stmt := inClass (top 11) 0
theorem sc_BadStep___init__ : FnScope ["self", "at"] ["self", "at"] (defScope s_BadStep___init__) := FnScope.of (by kernel_rfl)
theorem n_BadStep___init____self : NmL (defScope s_BadStep___init__) "self" := .of (by kernel_rfl)
theorem n_BadStep___init____at : NmL (defScope s_BadStep___init__) "at" := .of (by kernel_rfl)
theorem n_BadStep___init____TollError : NmG (defScope s_BadStep___init__) "TollError" := .of (by kernel_rfl)

theorem ok_BadStep___init__ (T : Txt K mg) (hq : Quiet (CXe P w)) {f : Addr} {fd : FuncData} (F : Fun K "__init__" "BadStep.__init__" s_BadStep___init__ f fd) : FnOk P w K mg base (CXe P w) 1 f fd ["self", "at"] (sp_BadStep___init__ T) := by
  refine F.okC sc_BadStep___init__ (fun vs H Q E h => ?_) (fun cdv A outer s H vs Q E hr h => ?_)
  · obtain ⟨ea, fI, n, rfl, _⟩ := h
    rfl
  · obtain ⟨ea, fI, n, rfl, he, xo, k⟩ := h
    refine ⟨_, (pss_cons (ps_expr (pe_baseInit T.b_TollError n_BadStep___init____TollError.g T.m_TollError (pa_cons (pvl 0 n_BadStep___init____self) (pa_cons (pvl 1 n_BadStep___init____at) pa_nil)) (hdb := n_BadStep___init____TollError.d))) (pss_one (ps_fldX rfl (pvl 0 n_BadStep___init____self) (pvl 1 n_BadStep___init____at) rfl))), ?_⟩
    rw [show L2.start ["self", "at"] [V.ref ea, V.int n] = [some (V.ref ea), some (V.int n)] from rfl]
    show ∃ v, _
    refine ⟨V.ref ea, rfl, V.int n, rfl, ?_⟩
    refine ⟨ea, T.BadStep, fI, none, [V.int n], rfl, smallE (by simp), xo, he, ?_⟩
    show ∃ v, _
    refine ⟨V.int n, rfl, V.ref ea, rfl, ?_⟩
    exact ⟨ea, T.BadStep, T.TollError, rfl, he, T.s_BadStep, k⟩
/-! #### BadText.__init__ -/
def sp_BadText___init__ (T : Txt K mg) : Sp := fun vs H Q _ => ∃ (ea fI : Addr) (n : Int), vs = [.ref ea, .int n] ∧ H ea = some (ExN ea (.ref T.BadText) none) ∧ XObjI K T.BadText fI ∧ ∀ dx, H dx = none → dx ≠ ea → Q .non (upd (upd H ea (ExN ea (.ref T.BadText) (some dx))) dx (.xd [("at", .int n)]))
abbrev s_BadText___init__ : Stmt := inClass (top 12) 0
theorem sc_BadText___init__ : FnScope ["self", "at"] ["self", "at"] (defScope s_BadText___init__) := FnScope.of (by kernel_rfl)
theorem n_BadText___init____self : NmL (defScope s_BadText___init__) "self" := .of (by kernel_rfl)
theorem n_BadText___init____at : NmL (defScope s_BadText___init__) "at" := .of (by kernel_rfl)
theorem n_BadText___init____TollError : NmG (defScope s_BadText___init__) "TollError" := .of (by kernel_rfl)

theorem ok_BadText___init__ (T : Txt K mg) (hq : Quiet (CXe P w)) {f : Addr} {fd : FuncData} (F : Fun K "__init__" "BadText.__init__" s_BadText___init__ f fd) : FnOk P w K mg base (CXe P w) 1 f fd ["self", "at"] (sp_BadText___init__ T) := by
  refine F.okC sc_BadText___init__ (fun vs H Q E h => ?_) (fun cdv A outer s H vs Q E hr h => ?_)
  · obtain ⟨ea, fI, n, rfl, _⟩ := h
    rfl
  · obtain ⟨ea, fI, n, rfl, he, xo, k⟩ := h
    refine ⟨_, (pss_cons (ps_expr (pe_baseInit T.b_TollError n_BadText___init____TollError.g T.m_TollError (pa_cons (pvl 0 n_BadText___init____self) (pa_cons (pvl 1 n_BadText___init____at) pa_nil)) (hdb := n_BadText___init____TollError.d))) (pss_one (ps_fldX rfl (pvl 0 n_BadText___init____self) (pvl 1 n_BadText___init____at) rfl))), ?_⟩
    rw [show L2.start ["self", "at"] [V.ref ea, V.int n] = [some (V.ref ea), some (V.int n)] from rfl]
    show ∃ v, _
    refine ⟨V.ref ea, rfl, V.int n, rfl, ?_⟩
    refine ⟨ea, T.BadText, fI, none, [V.int n], rfl, smallE (by simp), xo, he, ?_⟩
    show ∃ v, _
    refine ⟨V.int n, rfl, V.ref ea, rfl, ?_⟩
    exact ⟨ea, T.BadText, T.TollError, rfl, he, T.s_BadText, k⟩
/-! #### _law_raised -/
theorem same_del {H : Hp} {ea dx : Addr} {a b c : HO} (ne : H ea = none) (nd : upd H ea a dx = none) (nde : dx ≠ ea) : Same H (del (upd (upd (upd H ea a) ea b) dx c) ea) := fun q o e => by
  have n1 : q ≠ ea := ne_of_none e ne
  have n2 : q ≠ dx := fun z => by rw [z] at e; rw [upd_ne nde, e] at nd; cases nd
  rw [del_ne n1, upd_ne n2, upd_ne n1, upd_ne n1]
  exact e
def sp_law_raised (T : Txt K mg) : Sp := fun vs H _ E => ∃ (wh n : Int), vs = [.int wh, .int n] ∧ (0 ≤ wh ∧ wh ≤ 10) ∧
  (∀ C, (wh = 0 ∧ C = T.NoPlace ∨ wh = 1 ∧ C = T.NoRoad ∨ wh = 2 ∧ C = T.BadWeb ∨ wh = 3 ∧ C = T.BadLaying ∨ wh = 4 ∧ C = T.BadWish ∨ wh = 6 ∧ C = T.TooMany ∨ wh = 7 ∧ C = T.NoNumber ∨ wh = 8 ∧ C = T.NoWorst ∨ wh = 9 ∧ C = T.NoDeed) → E (.ref C) none H) ∧
  ∀ C dx H', (wh = 5 ∧ C = T.BadStep ∨ wh = 10 ∧ C = T.BadText) → Same H H' → H' dx = some (.xd [("at", .int n)]) → E (.ref C) (some dx) H'
abbrev s_law_raised : Stmt := top 16
theorem sc_law_raised : FnScope ["which", "number"] ["which", "number"] (defScope s_law_raised) := FnScope.of (by kernel_rfl)
theorem n_law_raised__which : NmL (defScope s_law_raised) "which" := .of (by kernel_rfl)
theorem n_law_raised__number : NmL (defScope s_law_raised) "number" := .of (by kernel_rfl)
theorem n_law_raised__NoPlace : NmG (defScope s_law_raised) "NoPlace" := .of (by kernel_rfl)
theorem n_law_raised__NoRoad : NmG (defScope s_law_raised) "NoRoad" := .of (by kernel_rfl)
theorem n_law_raised__BadWeb : NmG (defScope s_law_raised) "BadWeb" := .of (by kernel_rfl)
theorem n_law_raised__BadLaying : NmG (defScope s_law_raised) "BadLaying" := .of (by kernel_rfl)
theorem n_law_raised__BadWish : NmG (defScope s_law_raised) "BadWish" := .of (by kernel_rfl)
theorem n_law_raised__BadStep : NmG (defScope s_law_raised) "BadStep" := .of (by kernel_rfl)
theorem n_law_raised__TooMany : NmG (defScope s_law_raised) "TooMany" := .of (by kernel_rfl)
theorem n_law_raised__NoNumber : NmG (defScope s_law_raised) "NoNumber" := .of (by kernel_rfl)
theorem n_law_raised__NoWorst : NmG (defScope s_law_raised) "NoWorst" := .of (by kernel_rfl)
theorem n_law_raised__NoDeed : NmG (defScope s_law_raised) "NoDeed" := .of (by kernel_rfl)
theorem n_law_raised__BadText : NmG (defScope s_law_raised) "BadText" := .of (by kernel_rfl)

theorem ok_law_raised (T : Txt K mg) (hq : Quiet (CXe P w)) {f : Addr} {fd : FuncData} (D : Df K mg "_law_raised" s_law_raised ["which", "number"] f fd) {f_BadStep___init__ : Addr} {fd_BadStep___init__ : FuncData} (F_BadStep___init__ : Fun K "__init__" "BadStep.__init__" s_BadStep___init__ f_BadStep___init__ fd_BadStep___init__) (b_BadStep : Binds K fd_BadStep___init__ ["self", "at"] []) (M_BadStep : XObjI K T.BadStep f_BadStep___init__) (G_BadStep_init : FnOk P w K mg base (CXe P w) 1 f_BadStep___init__ fd_BadStep___init__ ["self", "at"] (sp_BadStep___init__ T)) {f_BadText___init__ : Addr} {fd_BadText___init__ : FuncData} (F_BadText___init__ : Fun K "__init__" "BadText.__init__" s_BadText___init__ f_BadText___init__ fd_BadText___init__) (b_BadText : Binds K fd_BadText___init__ ["self", "at"] []) (M_BadText : XObjI K T.BadText f_BadText___init__) (G_BadText_init : FnOk P w K mg base (CXe P w) 1 f_BadText___init__ fd_BadText___init__ ["self", "at"] (sp_BadText___init__ T)) : FnOk P w K mg base (CXe P w) 3 f fd ["which", "number"] (sp_law_raised T) := by
  refine D.F.okX sc_law_raised (fun vs H Q E h => ?_) (fun cdv A outer s H vs Q E hr h => ?_)
  · obtain ⟨wh, n, rfl, _⟩ := h
    rfl
  · obtain ⟨wh, n, rfl, hw, k1, k2⟩ := h
    refine ⟨_, (pss_cons (ps_if (pt_cmpR op_eq (pvl 0 n_law_raised__which) pe_int (nomark _)) (pss_one (ps_raise T.e_NoPlace rfl raisesX n_law_raised__NoPlace.g T.m_NoPlace (pa_cons pe_str pa_nil) (hdb := n_law_raised__NoPlace.d))) pss_nil) (pss_cons (ps_if (pt_cmpR op_eq (pvl 0 n_law_raised__which) pe_int (nomark _)) (pss_one (ps_raise T.e_NoRoad rfl raisesX n_law_raised__NoRoad.g T.m_NoRoad (pa_cons pe_str pa_nil) (hdb := n_law_raised__NoRoad.d))) pss_nil) (pss_cons (ps_if (pt_cmpR op_eq (pvl 0 n_law_raised__which) pe_int (nomark _)) (pss_one (ps_raise T.e_BadWeb rfl raisesX n_law_raised__BadWeb.g T.m_BadWeb (pa_cons pe_str pa_nil) (hdb := n_law_raised__BadWeb.d))) pss_nil) (pss_cons (ps_if (pt_cmpR op_eq (pvl 0 n_law_raised__which) pe_int (nomark _)) (pss_one (ps_raise T.e_BadLaying rfl raisesX n_law_raised__BadLaying.g T.m_BadLaying (pa_cons pe_str pa_nil) (hdb := n_law_raised__BadLaying.d))) pss_nil) (pss_cons (ps_if (pt_cmpR op_eq (pvl 0 n_law_raised__which) pe_int (nomark _)) (pss_one (ps_raise T.e_BadWish rfl raisesX n_law_raised__BadWish.g T.m_BadWish (pa_cons pe_str pa_nil) (hdb := n_law_raised__BadWish.d))) pss_nil) (pss_cons (ps_if (pt_cmpR op_eq (pvl 0 n_law_raised__which) pe_int (nomark _)) (pss_one (ps_raiseI M_BadStep G_BadStep_init hq (hr.mono (by decide)) b_BadStep rfl rfl raisesL n_law_raised__BadStep.g T.m_BadStep (pa_cons (pvl 1 n_law_raised__number) pa_nil) (hdb := n_law_raised__BadStep.d))) pss_nil) (pss_cons (ps_if (pt_cmpR op_eq (pvl 0 n_law_raised__which) pe_int (nomark _)) (pss_one (ps_raise T.e_TooMany rfl raisesX n_law_raised__TooMany.g T.m_TooMany (pa_cons pe_str pa_nil) (hdb := n_law_raised__TooMany.d))) pss_nil) (pss_cons (ps_if (pt_cmpR op_eq (pvl 0 n_law_raised__which) pe_int (nomark _)) (pss_one (ps_raise T.e_NoNumber rfl raisesX n_law_raised__NoNumber.g T.m_NoNumber (pa_cons pe_str pa_nil) (hdb := n_law_raised__NoNumber.d))) pss_nil) (pss_cons (ps_if (pt_cmpR op_eq (pvl 0 n_law_raised__which) pe_int (nomark _)) (pss_one (ps_raise T.e_NoWorst rfl raisesX n_law_raised__NoWorst.g T.m_NoWorst (pa_cons pe_str pa_nil) (hdb := n_law_raised__NoWorst.d))) pss_nil) (pss_cons (ps_if (pt_cmpR op_eq (pvl 0 n_law_raised__which) pe_int (nomark _)) (pss_one (ps_raise T.e_NoDeed rfl raisesX n_law_raised__NoDeed.g T.m_NoDeed (pa_cons pe_str pa_nil) (hdb := n_law_raised__NoDeed.d))) pss_nil) (pss_one (ps_raiseI M_BadText G_BadText_init hq (hr.mono (by decide)) b_BadText rfl rfl raisesL n_law_raised__BadText.g T.m_BadText (pa_cons (pvl 1 n_law_raised__number) pa_nil) (hdb := n_law_raised__BadText.d))))))))))))), ?_⟩
    rw [show L2.start ["which", "number"] [V.int wh, V.int n] = [some (V.int wh), some (V.int n)] from rfl]
    walk_at "rd"
    by_cases z0 : wh = 0
    · rw [if_pos z0]; exact ⟨smallE (by simp), k1 _ (by simp [z0])⟩
    rw [if_neg z0]
    by_cases z1 : wh = 1
    · rw [if_pos z1]; exact ⟨smallE (by simp), k1 _ (by simp [z1])⟩
    rw [if_neg z1]
    by_cases z2 : wh = 2
    · rw [if_pos z2]; exact ⟨smallE (by simp), k1 _ (by simp [z2])⟩
    rw [if_neg z2]
    by_cases z3 : wh = 3
    · rw [if_pos z3]; exact ⟨smallE (by simp), k1 _ (by simp [z3])⟩
    rw [if_neg z3]
    by_cases z4 : wh = 4
    · rw [if_pos z4]; exact ⟨smallE (by simp), k1 _ (by simp [z4])⟩
    rw [if_neg z4]
    by_cases z5 : wh = 5
    · rw [if_pos z5]
      refine ⟨V.int n, rfl, smallE (by simp), fun ea ne => ⟨ea, f_BadStep___init__, n, rfl, upd_same, M_BadStep, fun dx nd nde => ⟨rfl, some dx, ?_, ?_⟩⟩⟩
      · rw [upd_ne (Ne.symm nde), upd_same]
      · exact k2 _ dx _ (.inl ⟨z5, rfl⟩) (same_del ne nd nde) (by rw [del_ne nde, upd_same])
    rw [if_neg z5]
    by_cases z6 : wh = 6
    · rw [if_pos z6]; exact ⟨smallE (by simp), k1 _ (by simp [z6])⟩
    rw [if_neg z6]
    by_cases z7 : wh = 7
    · rw [if_pos z7]; exact ⟨smallE (by simp), k1 _ (by simp [z7])⟩
    rw [if_neg z7]
    by_cases z8 : wh = 8
    · rw [if_pos z8]; exact ⟨smallE (by simp), k1 _ (by simp [z8])⟩
    rw [if_neg z8]
    by_cases z9 : wh = 9
    · rw [if_pos z9]; exact ⟨smallE (by simp), k1 _ (by simp [z9])⟩
    rw [if_neg z9]
    refine ⟨V.int n, rfl, smallE (by simp), fun ea ne => ⟨ea, f_BadText___init__, n, rfl, upd_same, M_BadText, fun dx nd nde => ⟨rfl, some dx, ?_, ?_⟩⟩⟩
    · rw [upd_ne (Ne.symm nde), upd_same]
    · exact k2 _ dx _ (.inr ⟨by omega, rfl⟩) (same_del ne nd nde) (by rw [del_ne nde, upd_same])
/-! #### _law_caught -/
theorem marks_BadWeb (T : Txt K mg) : marksOf T T.BadWeb = dueRow 2 := by
  have nd := T.ndx
  rw [show dueRow 2 = [false, false, true, false, false, false, false, false, false, false, false, true] from by decide]
  simp only [List.nodup_cons, List.mem_cons, not_or, List.not_mem_nil, not_false_iff, and_true] at nd
  simp [marksOf, nd, Ne.symm, eq_comm]
theorem marks_BadLaying (T : Txt K mg) : marksOf T T.BadLaying = dueRow 3 := by
  have nd := T.ndx
  rw [show dueRow 3 = [false, false, false, true, false, false, false, false, false, false, false, true] from by decide]
  simp only [List.nodup_cons, List.mem_cons, not_or, List.not_mem_nil, not_false_iff, and_true] at nd
  simp [marksOf, nd, Ne.symm, eq_comm]
theorem marks_BadWish (T : Txt K mg) : marksOf T T.BadWish = dueRow 4 := by
  have nd := T.ndx
  rw [show dueRow 4 = [false, false, false, false, true, false, false, false, false, false, false, true] from by decide]
  simp only [List.nodup_cons, List.mem_cons, not_or, List.not_mem_nil, not_false_iff, and_true] at nd
  simp [marksOf, nd, Ne.symm, eq_comm]
theorem marks_BadStep (T : Txt K mg) : marksOf T T.BadStep = dueRow 5 := by
  have nd := T.ndx
  rw [show dueRow 5 = [false, false, false, false, false, true, false, false, false, false, false, true] from by decide]
  simp only [List.nodup_cons, List.mem_cons, not_or, List.not_mem_nil, not_false_iff, and_true] at nd
  simp [marksOf, nd, Ne.symm, eq_comm]
theorem marks_TooMany (T : Txt K mg) : marksOf T T.TooMany = dueRow 6 := by
  have nd := T.ndx
  rw [show dueRow 6 = [false, false, false, false, false, false, true, false, false, false, false, true] from by decide]
  simp only [List.nodup_cons, List.mem_cons, not_or, List.not_mem_nil, not_false_iff, and_true] at nd
  simp [marksOf, nd, Ne.symm, eq_comm]
theorem marks_NoNumber (T : Txt K mg) : marksOf T T.NoNumber = dueRow 7 := by
  have nd := T.ndx
  rw [show dueRow 7 = [false, false, false, false, false, false, false, true, false, false, false, true] from by decide]
  simp only [List.nodup_cons, List.mem_cons, not_or, List.not_mem_nil, not_false_iff, and_true] at nd
  simp [marksOf, nd, Ne.symm, eq_comm]
theorem marks_NoWorst (T : Txt K mg) : marksOf T T.NoWorst = dueRow 8 := by
  have nd := T.ndx
  rw [show dueRow 8 = [false, false, false, false, false, false, false, false, true, false, false, true] from by decide]
  simp only [List.nodup_cons, List.mem_cons, not_or, List.not_mem_nil, not_false_iff, and_true] at nd
  simp [marksOf, nd, Ne.symm, eq_comm]
theorem marks_NoDeed (T : Txt K mg) : marksOf T T.NoDeed = dueRow 9 := by
  have nd := T.ndx
  rw [show dueRow 9 = [false, false, false, false, false, false, false, false, false, true, false, true] from by decide]
  simp only [List.nodup_cons, List.mem_cons, not_or, List.not_mem_nil, not_false_iff, and_true] at nd
  simp [marksOf, nd, Ne.symm, eq_comm]
theorem marks_BadText (T : Txt K mg) : marksOf T T.BadText = dueRow 10 := by
  have nd := T.ndx
  rw [show dueRow 10 = [false, false, false, false, false, false, false, false, false, false, true, true] from by decide]
  simp only [List.nodup_cons, List.mem_cons, not_or, List.not_mem_nil, not_false_iff, and_true] at nd
  simp [marksOf, nd, Ne.symm, eq_comm]
def sp_law_caught (T : Txt K mg) : Sp := fun vs H Q _ => ∃ (wh n : Int), vs = [.int wh, .int n] ∧ (0 ≤ wh ∧ wh ≤ 10) ∧ ∀ l lm H', Same H H' → H' l = some (.lst [.ref lm, .bl true, .int n]) → H' lm = some (.lst ((dueRow wh).map V.bl)) → Q (.ref l) H'
abbrev s_law_caught : Stmt := top 17
theorem sc_law_caught : FnScope ["which", "number", "kept", "e"] ["which", "number"] (defScope s_law_caught) := FnScope.of (by kernel_rfl)
theorem n_law_caught__which : NmL (defScope s_law_caught) "which" := .of (by kernel_rfl)
theorem n_law_caught__number : NmL (defScope s_law_caught) "number" := .of (by kernel_rfl)
theorem n_law_caught__kept : NmL (defScope s_law_caught) "kept" := .of (by kernel_rfl)
theorem n_law_caught__e : NmL (defScope s_law_caught) "e" := .of (by kernel_rfl)
theorem n_law_caught__law_raised : NmG (defScope s_law_caught) "_law_raised" := .of (by kernel_rfl)
theorem n_law_caught__BadStep : NmG (defScope s_law_caught) "BadStep" := .of (by kernel_rfl)
theorem n_law_caught__law_marks : NmG (defScope s_law_caught) "_law_marks" := .of (by kernel_rfl)
theorem n_law_caught__isinstance : NmG (defScope s_law_caught) "isinstance" := .of (by kernel_rfl)
theorem n_law_caught__TollError : NmG (defScope s_law_caught) "TollError" := .of (by kernel_rfl)
theorem n_law_caught__BadText : NmG (defScope s_law_caught) "BadText" := .of (by kernel_rfl)

theorem ok_law_caught (T : Txt K mg) (hq : Quiet (CXe P w)) {f : Addr} {fd : FuncData} (D : Df K mg "_law_caught" s_law_caught ["which", "number"] f fd) {f_law_marks : Addr} {fd_law_marks : FuncData} (D_law_marks : Df K mg "_law_marks" s_law_marks ["e"] f_law_marks fd_law_marks) (G_law_marks : FnOkH P w K mg base 1 f_law_marks fd_law_marks ["e"] (sp_law_marks T)) {f_law_raised : Addr} {fd_law_raised : FuncData} (D_law_raised : Df K mg "_law_raised" s_law_raised ["which", "number"] f_law_raised fd_law_raised) (G_law_raised : FnOk P w K mg base (CXe P w) 3 f_law_raised fd_law_raised ["which", "number"] (sp_law_raised T)) : FnOk P w K mg base (CXe P w) 4 f fd ["which", "number"] (sp_law_caught T) := by
  refine D.F.okC sc_law_caught (fun vs H Q E h => ?_) (fun cdv A outer s H vs Q E hr h => ?_)
  · obtain ⟨wh, n, rfl, _⟩ := h
    rfl
  · obtain ⟨wh, n, rfl, hw, k⟩ := h
    refine ⟨_, (pss_cons (ps_set (i := 2) sc_law_caught.nd rfl (Or.inl n_law_caught__kept.l) (pe_lst pa_nil)) (pss_cons (ps_try rfl rfl rfl (pssx_one (psx_expr (pex_call G_law_raised (hr.mono (by decide)) n_law_caught__law_raised.g D_law_raised.m D_law_raised.F.kp D_law_raised.b .nil (pa_cons (pvl 0 n_law_caught__which) (pa_cons (pvl 1 n_law_caught__number) pa_nil)) (hdb := n_law_caught__law_raised.d)))) (ph_as (i := 3) T.x_BadStep.x n_law_caught__BadStep.g T.m_BadStep sc_law_caught.nd rfl n_law_caught__e.l (fun _ => (pss_one (ps_set (i := 2) sc_law_caught.nd rfl (Or.inl n_law_caught__kept.l) (pe_lst (pa_cons (pe_callH G_law_marks (RoomH.mark (Room.h (hr.mono (by decide))) _) n_law_caught__law_marks.g D_law_marks.m D_law_marks.F.kp D_law_marks.b (pa_cons (pvl 3 n_law_caught__e) pa_nil) (hdb := n_law_caught__law_marks.d)) (pa_cons (pe_callB (call_isXK K rfl) n_law_caught__isinstance.g T.isinstance pb_isinstance (pa_cons (pvl 3 n_law_caught__e) (pa_cons (pe_glob (v := .ref T.TollError) n_law_caught__TollError.g T.m_TollError rfl) pa_nil)) (hn := n_law_caught__isinstance.n) (hdb := n_law_caught__isinstance.d)) (pa_cons (pe_fldX K rfl (pvl 3 n_law_caught__e) rfl) pa_nil))))))) (ph_as (i := 3) T.x_BadText.x n_law_caught__BadText.g T.m_BadText sc_law_caught.nd rfl n_law_caught__e.l (fun _ => (pss_one (ps_set (i := 2) sc_law_caught.nd rfl (Or.inl n_law_caught__kept.l) (pe_lst (pa_cons (pe_callH G_law_marks (RoomH.mark (Room.h (hr.mono (by decide))) _) n_law_caught__law_marks.g D_law_marks.m D_law_marks.F.kp D_law_marks.b (pa_cons (pvl 3 n_law_caught__e) pa_nil) (hdb := n_law_caught__law_marks.d)) (pa_cons (pe_callB (call_isXK K rfl) n_law_caught__isinstance.g T.isinstance pb_isinstance (pa_cons (pvl 3 n_law_caught__e) (pa_cons (pe_glob (v := .ref T.TollError) n_law_caught__TollError.g T.m_TollError rfl) pa_nil)) (hn := n_law_caught__isinstance.n) (hdb := n_law_caught__isinstance.d)) (pa_cons (pe_fldX K rfl (pvl 3 n_law_caught__e) rfl) pa_nil))))))) (ph_as (i := 3) T.x_TollError.x n_law_caught__TollError.g T.m_TollError sc_law_caught.nd rfl n_law_caught__e.l (fun _ => (pss_one (ps_set (i := 2) sc_law_caught.nd rfl (Or.inl n_law_caught__kept.l) (pe_lst (pa_cons (pe_callH G_law_marks (RoomH.mark (Room.h (hr.mono (by decide))) _) n_law_caught__law_marks.g D_law_marks.m D_law_marks.F.kp D_law_marks.b (pa_cons (pvl 3 n_law_caught__e) pa_nil) (hdb := n_law_caught__law_marks.d)) (pa_cons pe_bl (pa_cons (pvl 1 n_law_caught__number) pa_nil))))))) ph_nil (hdb := n_law_caught__TollError.d)) (hdb := n_law_caught__BadText.d)) (hdb := n_law_caught__BadStep.d))) (pss_one (ps_ret (pvl 2 n_law_caught__kept))))), ?_⟩
    rw [show L2.start ["which", "number", "kept", "e"] [V.int wh, V.int n] = [some (V.int wh), some (V.int n), none, none] from rfl]
    walk_at "rd"
    have t_BadStep : T.BadStep ≠ T.TollError := (nth_ne T.ndx 10 0 rfl rfl (by decide))
    have t_BadText : T.BadText ≠ T.TollError := (nth_ne T.ndx 11 0 rfl rfl (by decide))
    refine ⟨by decide, fun p np => ⟨wh, n, rfl, hw, fun C hC => ?_, fun C dx H' hC s' hd => ?_⟩⟩
    · obtain ⟨xe, nb, nt, me⟩ : XErr K T.TollError C ∧ T.BadStep ≠ C ∧ T.BadText ≠ C ∧ marksOf T C = dueRow wh := by
        rcases hC with ⟨rfl, rfl⟩ | ⟨rfl, rfl⟩ | ⟨rfl, rfl⟩ | ⟨rfl, rfl⟩ | ⟨rfl, rfl⟩ | ⟨rfl, rfl⟩ | ⟨rfl, rfl⟩ | ⟨rfl, rfl⟩ | ⟨rfl, rfl⟩
        · exact ⟨T.x_NoPlace, (nth_ne T.ndx 10 2 rfl rfl (by decide)), (nth_ne T.ndx 11 2 rfl rfl (by decide)), marks_NoPlace T⟩
        · exact ⟨T.x_NoRoad, (nth_ne T.ndx 10 3 rfl rfl (by decide)), (nth_ne T.ndx 11 3 rfl rfl (by decide)), marks_NoRoad T⟩
        · exact ⟨T.x_BadWeb, (nth_ne T.ndx 10 1 rfl rfl (by decide)), (nth_ne T.ndx 11 1 rfl rfl (by decide)), marks_BadWeb T⟩
        · exact ⟨T.x_BadLaying, (nth_ne T.ndx 10 4 rfl rfl (by decide)), (nth_ne T.ndx 11 4 rfl rfl (by decide)), marks_BadLaying T⟩
        · exact ⟨T.x_BadWish, (nth_ne T.ndx 10 5 rfl rfl (by decide)), (nth_ne T.ndx 11 5 rfl rfl (by decide)), marks_BadWish T⟩
        · exact ⟨T.x_TooMany, (nth_ne T.ndx 10 6 rfl rfl (by decide)), (nth_ne T.ndx 11 6 rfl rfl (by decide)), marks_TooMany T⟩
        · exact ⟨T.x_NoNumber, (nth_ne T.ndx 10 7 rfl rfl (by decide)), (nth_ne T.ndx 11 7 rfl rfl (by decide)), marks_NoNumber T⟩
        · exact ⟨T.x_NoWorst, (nth_ne T.ndx 10 8 rfl rfl (by decide)), (nth_ne T.ndx 11 8 rfl rfl (by decide)), marks_NoWorst T⟩
        · exact ⟨T.x_NoDeed, (nth_ne T.ndx 10 9 rfl rfl (by decide)), (nth_ne T.ndx 11 9 rfl rfl (by decide)), marks_NoDeed T⟩
      have s0 := Same.new (.lst []) np
      refine ⟨C, rfl, false, by rw [xe.mr, decide_eq_false nb, decide_eq_false t_BadStep]; rfl, ?_⟩
      rw [if_neg (by decide)]
      refine ⟨C, rfl, false, by rw [xe.mr, decide_eq_false nt, decide_eq_false t_BadText]; rfl, ?_⟩
      rw [if_neg (by decide)]
      refine ⟨C, rfl, true, by rw [xe.mr]; simp, ?_⟩
      rw [if_pos rfl]
      intro ea ne
      have s1 := Same.new (ExO ea (.ref C) none) ne
      refine ⟨ea, C, none, rfl, upd_same, trivial, xe, fun l1 H2 n1 s3 h1 => ⟨smallE (by simp), fun l2 n2 => ?_⟩⟩
      rw [me] at h1
      have s4 := Same.new (.lst [V.ref l1, V.bl true, V.int n]) n2
      exact k l2 l1 _ (s0.trans (s1.trans (s3.trans s4))) upd_same (s4 _ _ h1)
    · have s0 := (Same.new (.lst []) np).trans s'
      rcases hC with ⟨rfl, rfl⟩ | ⟨rfl, rfl⟩
      · have xe := T.x_BadStep
        refine ⟨T.BadStep, rfl, true, by rw [xe.mr]; simp, ?_⟩
        rw [if_pos rfl]
        intro ea ne
        have s1 := Same.new (ExO ea (.ref T.BadStep) (some dx)) ne
        have he : upd H' ea (ExO ea (.ref T.BadStep) (some dx)) ea = some (ExO ea (.ref T.BadStep) (some dx)) := upd_same
        refine ⟨ea, T.BadStep, some dx, rfl, he, ⟨_, s1 _ _ hd⟩, xe, fun l1 H2 n1 s3 h1 => ?_⟩
        rw [marks_BadStep T] at h1
        refine ⟨ea, T.BadStep, some dx, .ref T.TollError, true, rfl, s3 _ _ he, ⟨_, s3 _ _ (s1 _ _ hd)⟩, xe.x, ⟨T.x_TollError.x, by rw [xe.mr]; simp⟩, ?_⟩
        refine ⟨ea, T.BadStep, dx, _, .int n, rfl, s3 _ _ he, xe.x, T.a_BadStep, s3 _ _ (s1 _ _ hd), rfl, smallE (by simp), fun l2 n2 => ?_⟩
        have s4 := Same.new (.lst [V.ref l1, V.bl true, V.int n]) n2
        exact k l2 l1 _ (s0.trans (s1.trans (s3.trans s4))) upd_same (s4 _ _ h1)
      · have xe := T.x_BadText
        have nb : T.BadStep ≠ T.BadText := (nth_ne T.ndx 10 11 rfl rfl (by decide))
        refine ⟨T.BadText, rfl, false, by rw [xe.mr, decide_eq_false nb, decide_eq_false t_BadStep]; rfl, ?_⟩
        rw [if_neg (by decide)]
        refine ⟨T.BadText, rfl, true, by rw [xe.mr]; simp, ?_⟩
        rw [if_pos rfl]
        intro ea ne
        have s1 := Same.new (ExO ea (.ref T.BadText) (some dx)) ne
        have he : upd H' ea (ExO ea (.ref T.BadText) (some dx)) ea = some (ExO ea (.ref T.BadText) (some dx)) := upd_same
        refine ⟨ea, T.BadText, some dx, rfl, he, ⟨_, s1 _ _ hd⟩, xe, fun l1 H2 n1 s3 h1 => ?_⟩
        rw [marks_BadText T] at h1
        refine ⟨ea, T.BadText, some dx, .ref T.TollError, true, rfl, s3 _ _ he, ⟨_, s3 _ _ (s1 _ _ hd)⟩, xe.x, ⟨T.x_TollError.x, by rw [xe.mr]; simp⟩, ?_⟩
        refine ⟨ea, T.BadText, dx, _, .int n, rfl, s3 _ _ he, xe.x, T.a_BadText, s3 _ _ (s1 _ _ hd), rfl, smallE (by simp), fun l2 n2 => ?_⟩
        have s4 := Same.new (.lst [V.ref l1, V.bl true, V.int n]) n2
        exact k l2 l1 _ (s0.trans (s1.trans (s3.trans s4))) upd_same (s4 _ _ h1)
/-! #### _law_whole -/
def sp_law_whole (T : Txt K mg) : Sp := fun vs H Q _ => ∃ i : Int, vs = [.int i] ∧ Q (.bl true) H
abbrev s_law_whole : Stmt := top 14
theorem sc_law_whole : FnScope ["found"] ["found"] (defScope s_law_whole) := FnScope.of (by kernel_rfl)
theorem n_law_whole__found : NmL (defScope s_law_whole) "found" := .of (by kernel_rfl)
theorem n_law_whole__isinstance : NmG (defScope s_law_whole) "isinstance" := .of (by kernel_rfl)
theorem n_law_whole__int : NmG (defScope s_law_whole) "int" := .of (by kernel_rfl)
theorem n_law_whole__bool : NmG (defScope s_law_whole) "bool" := .of (by kernel_rfl)

theorem ok_law_whole (T : Txt K mg) (hq : Quiet (CXe P w)) {f : Addr} {fd : FuncData} (D : Df K mg "_law_whole" s_law_whole ["found"] f fd) : FnOk P w K mg base (CXe P w) 1 f fd ["found"] (sp_law_whole T) := by
  refine D.F.okC sc_law_whole (fun vs H Q E h => ?_) (fun cdv A outer s H vs Q E hr h => ?_)
  · obtain ⟨i, rfl, _⟩ := h
    rfl
  · obtain ⟨i, rfl, k⟩ := h
    refine ⟨_, (pss_one (ps_ret (pe_and (pe_callB call_isinst n_law_whole__isinstance.g T.isinstance pb_isinstance (pa_cons (pvl 0 n_law_whole__found) (pa_cons (pe_bltn (v := .ty "int") n_law_whole__int.g T.int pb_int rfl (hn := n_law_whole__int.n) (hd := n_law_whole__int.d)) pa_nil)) (hn := n_law_whole__isinstance.n) (hdb := n_law_whole__isinstance.d)) (pe_one (pe_not (pe_callB call_isinst n_law_whole__isinstance.g T.isinstance pb_isinstance (pa_cons (pvl 0 n_law_whole__found) (pa_cons (pe_bltn (v := .ty "bool") n_law_whole__bool.g T.bool pb_bool rfl (hn := n_law_whole__bool.n) (hd := n_law_whole__bool.d)) pa_nil)) (hn := n_law_whole__isinstance.n) (hdb := n_law_whole__isinstance.d))))))), ?_⟩
    rw [show L2.start ["found"] [V.int i] = [some (V.int i)] from rfl]
    walk_at "rd"
    refine ⟨_, _, _, true, rfl, .int i, fun cv h => by cases h; rfl, _, rfl, ?_⟩
    rw [if_pos rfl]
    refine ⟨_, _, _, false, rfl, .int i, fun cv h => by cases h; rfl, _, rfl, ?_⟩
    exact k
/-! #### law -/
theorem deep_bls {H : Hp} : ∀ bs : List Bool, DeepAll K H (bs.map V.bl) (bs.map PyData.bool)
  | [] => .nil
  | b :: bs => .cons (.bl b) (deep_bls bs)
theorem eqv_bls : ∀ bs cs : List Bool, PyData.eqvAll (bs.map PyData.bool) (cs.map PyData.bool) = decide (bs = cs)
  | [], [] => by simp [PyData.eqvAll]
  | [], c :: cs => by simp [PyData.eqvAll]
  | b :: bs, [] => by simp [PyData.eqvAll]
  | b :: bs, c :: cs => by
    simp only [List.map_cons, PyData.eqvAll]
    rw [eqv_bls bs cs]
    cases b <;> cases c <;> simp [PyData.eqv]
theorem depth_bls : ∀ bs : List Bool, PyData.depthAll (bs.map PyData.bool) ≤ 1
  | [] => by simp [PyData.depthAll]
  | b :: bs => by
    simp only [List.map_cons, PyData.depthAll]
    have := depth_bls bs
    have : (PyData.bool b).depth ≤ 1 := by simp [PyData.depth]
    omega
def spLaw (K : PySem.W.Frag) : Sp := fun vs H Q _ => ∃ (a : Addr) (ns : List Int), vs = [.ref a] ∧ SqL K H a (ns.map V.int) ∧ ns.length ≤ 63 ∧ ∀ H', Q (.bl true) H'
def sp_law (T : Txt K mg) : Sp := spLaw K
abbrev s_law : Stmt := top 18
theorem sc_law : FnScope ["script", "cell", "number", "which", "found", "due"] ["script"] (defScope s_law) := FnScope.of (by kernel_rfl)
theorem n_law__script : NmL (defScope s_law) "script" := .of (by kernel_rfl)
theorem n_law__cell : NmL (defScope s_law) "cell" := .of (by kernel_rfl)
theorem n_law__number : NmL (defScope s_law) "number" := .of (by kernel_rfl)
theorem n_law__which : NmC (defScope s_law) "which" := .of (by kernel_rfl)
theorem n_law__found : NmL (defScope s_law) "found" := .of (by kernel_rfl)
theorem n_law__due : NmL (defScope s_law) "due" := .of (by kernel_rfl)
theorem n_law__range : NmG (defScope s_law) "range" := .of (by kernel_rfl)
theorem n_law__law_caught : NmG (defScope s_law) "_law_caught" := .of (by kernel_rfl)
theorem n_law__law_whole : NmG (defScope s_law) "_law_whole" := .of (by kernel_rfl)

theorem ok_law (T : Txt K mg) (hq : Quiet (CXe P w)) {f : Addr} {fd : FuncData} (D : Df K mg "law" s_law ["script"] f fd) {f_law_caught : Addr} {fd_law_caught : FuncData} (D_law_caught : Df K mg "_law_caught" s_law_caught ["which", "number"] f_law_caught fd_law_caught) (G_law_caught : FnOk P w K mg base (CXe P w) 4 f_law_caught fd_law_caught ["which", "number"] (sp_law_caught T)) {f_law_whole : Addr} {fd_law_whole : FuncData} (D_law_whole : Df K mg "_law_whole" s_law_whole ["found"] f_law_whole fd_law_whole) (G_law_whole : FnOk P w K mg base (CXe P w) 1 f_law_whole fd_law_whole ["found"] (sp_law_whole T)) : FnOk P w K mg base (CXe P w) 5 f fd ["script"] (sp_law T) := by
  refine D.F.okC sc_law (fun vs H Q E h => ?_) (fun cdv A outer s H vs Q E hr h => ?_)
  · obtain ⟨a, ns, rfl, _⟩ := h
    rfl
  · obtain ⟨a, ns, rfl, ha, hn, k⟩ := h
    have hv := hr.units
    refine ⟨_, (pss_cons (ps_for PassesOwn.never rfl (pi_list (pe_op op_cat (pe_lst (pa_cons pe_int pa_nil)) (pe_slice sl_list (pvl 0 n_law__script) po_none (po_some pe_int)))) (pg_name (i := 1) sc_law.nd rfl (Or.inl n_law__cell.l)) (pss_cons (ps_set (i := 2) sc_law.nd rfl (Or.inl n_law__number.l) (pe_op op_mod (pe_op op_fdiv (pvl 1 n_law__cell) pe_int) (pe_op op_pow pe_int pe_int))) (pss_cons (ps_if (pt_cmpR op_eq (pe_op op_mod (pvl 1 n_law__cell) pe_int) pe_int (nomark _)) (pss_one (ps_set (i := 2) sc_law.nd rfl (Or.inl n_law__number.l) (pe_op op_sub pe_int (pvl 2 n_law__number)))) pss_nil) (pss_one (ps_for PassesOwn.never rfl (pi_range1 n_law__range.g T.range (pa_cons pe_int pa_nil)) (pg_name (i := 3) sc_law.nd rfl (Or.inr n_law__which.l)) (pss_cons (ps_set (i := 4) sc_law.nd rfl (Or.inl n_law__found.l) (pe_call G_law_caught (hr.mono (by decide)) n_law__law_caught.g D_law_caught.m D_law_caught.F.kp D_law_caught.b .nil (passQ hq) (pa_cons (pvc 3 n_law__which) (pa_cons (pvl 2 n_law__number) pa_nil)) (hdb := n_law__law_caught.d))) (pss_cons (ps_setComp (i := 5) sc_law.nd rfl n_law__due.l rfl (ct_clos (Nc := ["k", "which"]) 1 [3] (by decide +kernel) rfl (by decide +kernel) rfl (by show ∀ (y : Str × NameKind), y ∈ _ → y.2 = NameKind.free → (defScope s_law).names.lookup y.1 = some NameKind.cell; decide +kernel) rfl (fun _ h => cell_has h) (fun i hi => match i, hi with | 0, _ => ⟨"which", 3, rfl, rfl, rfl, by decide +kernel⟩ | i + 1, hi => absurd hi (by show ¬ i + 1 < 1; omega))) (pi_range1 n_law__range.g T.range (pa_cons pe_int pa_nil)) (fun _ _ _ _ => (pg_name (i := 0) (show (["k", "which"] : List Str).Nodup from by decide +kernel) rfl (Or.inl rfl))) (fun _ _ _ _ => pts_nil) (fun _ _ _ _ => (pe_or (pe_cmpR op_eq (pv 0) (pv 1) (nomark _)) (pe_one (pe_cmpR op_eq (pv 0) pe_int (nomark _)))))) (pss_one (ps_if (PW.pt (pw_or (pt_cmpR (op_neD hv) (pvl 4 n_law__found) (pe_lst (pa_cons (pvl 5 n_law__due) (pa_cons pe_bl (pa_cons (pvl 2 n_law__number) pa_nil)))) (nomark _)) (pw_or1 (pt_not (pt_val (pe_call G_law_whole (hr.mono (by decide)) n_law__law_whole.g D_law_whole.m D_law_whole.F.kp D_law_whole.b .nil (passQ hq) (pa_cons (pe_ix ix_list (pvl 4 n_law__found) pe_int (fun _ _ => rfl)) pa_nil) (hdb := n_law__law_whole.d))))))) (pss_one (ps_ret pe_bl)) pss_nil))))))))) (pss_one (ps_ret pe_bl))), ?_⟩
    rw [show L2.start ["script", "cell", "number", "which", "found", "due"] [V.ref a] = [some (V.ref a), none, none, none, none, none] from rfl]
    unfold tSl tPart tNoPart
    walk_at "rd"
    refine ⟨smallE (by simp), fun q0 n0 => ?_⟩
    have t1 := (Same.new (.lst [V.int 0]) n0)
    refine ⟨a, _, rfl, Same.seq t1 ha, fun q1 n1 => ?_⟩
    rw [cut_hi _ (by decide), ← List.map_take]
    have u0 := Same.new (.lst [V.int 0]) n0
    have u1 := Same.new (.lst ((ns.take (Int.toNat 20)).map V.int)) n1
    refine ⟨q0, q1, _, _, rfl, rfl, u1 _ _ upd_same, upd_same, smallE (by simp; omega), fun l nl => ?_⟩
    rw [show [V.int 0] ++ (ns.take (Int.toNat 20)).map V.int = ((0 : Int) :: ns.take (Int.toNat 20)).map V.int from rfl]
    have el : upd (upd (upd H q0 (.lst [V.int 0])) q1 (.lst ((ns.take (Int.toNat 20)).map V.int))) l (.lst (((0 : Int) :: ns.take (Int.toNat 20)).map V.int)) l = some (.lst (((0 : Int) :: ns.take (Int.toNat 20)).map V.int)) := upd_same
    generalize upd (upd (upd H q0 (.lst [V.int 0])) q1 (.lst ((ns.take (Int.toNat 20)).map V.int))) l (.lst (((0 : Int) :: ns.take (Int.toNat 20)).map V.int)) = H1 at el ⊢
    generalize (0 : Int) :: ns.take (Int.toNat 20) = cs at el ⊢
    clear t1 u0 u1 n0 n1 nl
    refine ⟨l, rfl, ⟨_, SqL.of el⟩, ?_⟩
    refine for_listH (K := K) (xs := cs.map V.int) (fun i σ H2 => Same H1 H2 ∧ ∃ (v1 v2 v3 v4 v5 : Option V), σ = [some (V.ref a), v1, v2, v3, v4, v5]) ⟨Same.refl _, _, _, _, _, _, rfl⟩ (fun i σ H2 _ z => SqL.of (z.1 _ _ el)) ?_ ?_
    · rintro i' x σ H2 N BB hBB hN hx ⟨s2, v1, v2, v3, v4, v5, rfl⟩
      rw [List.getElem?_map] at hx
      obtain ⟨c, gc, rfl⟩ := Option.map_eq_some_iff.mp hx
      refine hBB _ _ ?_
      refine cutS fun M1 k1 => ?_
      walk_at "rd"
      refine ⟨⟨by decide, by decide⟩, ⟨by decide, by decide, by decide⟩, by decide, k1 _ _ ?_⟩
      generalize c / 2 % 10 ^ Int.toNat 60 = n0
      refine cutS fun M2 k2 => ?_
      have fin : ∀ n : Int, M2 [some (V.ref a), some (V.int c), some (V.int n), v3, v4, v5] H2 := by
        intro n
        refine k2 _ _ ?_
        walk_at "rd"
        refine ⟨by decide, by decide, ?_⟩
        refine for_rangeN (fun w σ H3 => Same H1 H3 ∧ ∃ v3 v4 v5, σ = [some (V.ref a), some (V.int c), some (V.int n), v3, v4, v5]) ⟨s2, _, _, _, rfl⟩ ?_ ?_
        · rintro w σ H3 N' hN' hw ⟨s3, v3, v4, v5, rfl⟩
          rw [Int.zero_add]
          replace hw : w < 11 := hw
          refine cutS fun L1 g1 => ?_
          walk_at "rd"
          refine ⟨(w : Int), n, rfl, ⟨by omega, by omega⟩, fun lf lm H4 s4 ef em => g1 _ _ (cutS fun L2 g2 => ?_)⟩
          have s34 := s3.trans s4
          walk_at "rd"
          refine ⟨by decide, by decide, fun ld nd => ?_⟩
          refine comp_range (lo := 0) (n := Int.toNat 12) (fun i bs σ H5 => H5 = upd H4 ld (.lst bs) ∧ bs = ((List.range i).map fun (k : Nat) => decide ((k : Int) = (w : Int)) || decide ((k : Int) = 11)).map V.bl ∧ ∃ v, σ = [v, some (V.int (w : Int))]) ⟨rfl, rfl, _, rfl⟩ ?_ ?_
          · rintro i bs σ H5 N2 hN2 hi ⟨rfl, rfl, v, rfl⟩
            have hi' : i < 12 := hi
            walk_at "rd"
            have ez : (0 : Int) + (i : Int) = (i : Int) := by omega
            have er : ((List.range (i + 1)).map fun (k : Nat) => decide ((k : Int) = (w : Int)) || decide ((k : Int) = 11)).map V.bl = ((List.range i).map fun (k : Nat) => decide ((k : Int) = (w : Int)) || decide ((k : Int) = 11)).map V.bl ++ [V.bl (decide ((i : Int) = (w : Int)) || decide ((i : Int) = 11))] := by
              rw [List.range_succ, List.map_append, List.map_append]
              rfl
            rw [ez]
            by_cases c : (i : Int) = (w : Int)
            · rw [if_pos c]
              exact ⟨upd_same, small (by simp; omega), hN2 _ _ _ ⟨by rw [upd_upd], by rw [er, decide_eq_true c]; rfl, _, rfl⟩⟩
            · rw [if_neg c]
              exact ⟨upd_same, small (by simp; omega), hN2 _ _ _ ⟨by rw [upd_upd], by rw [er, decide_eq_false c]; rfl, _, rfl⟩⟩
          · rintro bs σ H5 ⟨rfl, rfl, v, rfl⟩
            rw [show ((List.range (Int.toNat 12)).map fun (k : Nat) => decide ((k : Int) = (w : Int)) || decide ((k : Int) = 11)) = dueRow (w : Int) from rfl]
            refine g2 _ _ ?_
            have s5 := Same.new (.lst ((dueRow (w : Int)).map V.bl)) nd
            walk_at "rd"
            refine ⟨smallE (by simp), fun p np => ?_⟩
            have s6 := Same.new (.lst [V.ref ld, V.bl true, V.int n]) np
            have sf := s5.trans s6
            have ef' := sf _ _ ef
            have em' := sf _ _ em
            have ed := s6 _ _ (upd_same (H := H4) (a := ld) (o := .lst ((dueRow (w : Int)).map V.bl)))
            refine ⟨_, _, .lst (SqL.of ef') (.cons (.lst (SqL.of em') (deep_bls _)) (.cons (.bl true) (.cons (.int n) .nil))), .lst (SqL.of upd_same) (.cons (.lst (SqL.of ed) (deep_bls _)) (.cons (.bl true) (.cons (.int n) .nil))), ?_, ?_⟩
            · have := depth_bls (dueRow (w : Int))
              simp only [PyData.depth, PyData.depthAll]
              omega
            · have ee : PyData.eqv (PyData.list [PyData.list ((dueRow (w : Int)).map PyData.bool), PyData.bool true, PyData.int n]) (PyData.list [PyData.list ((dueRow (w : Int)).map PyData.bool), PyData.bool true, PyData.int n]) = true := by
                simp [PyData.eqv, PyData.eqvAll, eqv_bls]
              rw [ee]
              refine ⟨false, rfl, ?_⟩
              rw [if_neg (by decide)]
              refine ixL ef' rfl ⟨n, rfl, true, rfl, ?_⟩
              rw [if_neg (by decide)]
              exact hN' _ _ ⟨s34.trans sf, _, _, _, rfl⟩
        · rintro σ H3 ⟨s3, v3, v4, v5, rfl⟩
          exact hN _ _ ⟨s3, _, _, _, _, _, rfl⟩
      walk_at "rd"
      refine ⟨by decide, ?_⟩
      split <;> exact fin _
    · rintro BB σ H2 hBB ⟨s2, v1, v2, v3, v4, v5, rfl⟩
      refine hBB _ _ ?_
      walk_at "rd"
      exact k _
end
theorem quiet0 : Quiet CX0 := fun _ _ _ _ _ h => h
theorem all_mk {l : PySem.W.OpenLaw} {w : World} {K : PySem.W.Frag} {h : Heap} {mg : Str → Option Value} {fa : Addr} {C_TollError : Addr} {C_BadWeb : Addr} {C_NoPlace : Addr} {C_NoRoad : Addr} {C_BadLaying : Addr} {C_BadWish : Addr} {C_TooMany : Addr} {C_NoNumber : Addr} {C_NoWorst : Addr} {C_NoDeed : Addr} {C_BadStep : Addr} {C_BadText : Addr} {xc_TollError : Value} {xd_TollError : Option Addr} {xk_TollError : ClassData} {xs_TollError : Array (Option Value)} {xc_BadWeb : Value} {xd_BadWeb : Option Addr} {xk_BadWeb : ClassData} {xs_BadWeb : Array (Option Value)} {qn_BadWeb qq_BadWeb : Str} {qN_BadWeb : Addr} {qb_BadWeb qm_BadWeb : List Value} {qh_BadWeb : Bool} {qs_BadWeb : List Str} {qu_BadWeb : List Value} {qa_BadWeb : Bool} {qc_BadWeb : Option Bool} {qd_BadWeb : Option Addr} {q0_BadWeb q1_BadWeb q2_BadWeb q3_BadWeb q5_BadWeb : Option Value} {xc_NoPlace : Value} {xd_NoPlace : Option Addr} {xk_NoPlace : ClassData} {xs_NoPlace : Array (Option Value)} {qn_NoPlace qq_NoPlace : Str} {qN_NoPlace : Addr} {qb_NoPlace qm_NoPlace : List Value} {qh_NoPlace : Bool} {qs_NoPlace : List Str} {qu_NoPlace : List Value} {qa_NoPlace : Bool} {qc_NoPlace : Option Bool} {qd_NoPlace : Option Addr} {q0_NoPlace q1_NoPlace q2_NoPlace q3_NoPlace q5_NoPlace : Option Value} {xc_NoRoad : Value} {xd_NoRoad : Option Addr} {xk_NoRoad : ClassData} {xs_NoRoad : Array (Option Value)} {qn_NoRoad qq_NoRoad : Str} {qN_NoRoad : Addr} {qb_NoRoad qm_NoRoad : List Value} {qh_NoRoad : Bool} {qs_NoRoad : List Str} {qu_NoRoad : List Value} {qa_NoRoad : Bool} {qc_NoRoad : Option Bool} {qd_NoRoad : Option Addr} {q0_NoRoad q1_NoRoad q2_NoRoad q3_NoRoad q5_NoRoad : Option Value} {xc_BadLaying : Value} {xd_BadLaying : Option Addr} {xk_BadLaying : ClassData} {xs_BadLaying : Array (Option Value)} {qn_BadLaying qq_BadLaying : Str} {qN_BadLaying : Addr} {qb_BadLaying qm_BadLaying : List Value} {qh_BadLaying : Bool} {qs_BadLaying : List Str} {qu_BadLaying : List Value} {qa_BadLaying : Bool} {qc_BadLaying : Option Bool} {qd_BadLaying : Option Addr} {q0_BadLaying q1_BadLaying q2_BadLaying q3_BadLaying q5_BadLaying : Option Value} {xc_BadWish : Value} {xd_BadWish : Option Addr} {xk_BadWish : ClassData} {xs_BadWish : Array (Option Value)} {qn_BadWish qq_BadWish : Str} {qN_BadWish : Addr} {qb_BadWish qm_BadWish : List Value} {qh_BadWish : Bool} {qs_BadWish : List Str} {qu_BadWish : List Value} {qa_BadWish : Bool} {qc_BadWish : Option Bool} {qd_BadWish : Option Addr} {q0_BadWish q1_BadWish q2_BadWish q3_BadWish q5_BadWish : Option Value} {xc_TooMany : Value} {xd_TooMany : Option Addr} {xk_TooMany : ClassData} {xs_TooMany : Array (Option Value)} {qn_TooMany qq_TooMany : Str} {qN_TooMany : Addr} {qb_TooMany qm_TooMany : List Value} {qh_TooMany : Bool} {qs_TooMany : List Str} {qu_TooMany : List Value} {qa_TooMany : Bool} {qc_TooMany : Option Bool} {qd_TooMany : Option Addr} {q0_TooMany q1_TooMany q2_TooMany q3_TooMany q5_TooMany : Option Value} {xc_NoNumber : Value} {xd_NoNumber : Option Addr} {xk_NoNumber : ClassData} {xs_NoNumber : Array (Option Value)} {qn_NoNumber qq_NoNumber : Str} {qN_NoNumber : Addr} {qb_NoNumber qm_NoNumber : List Value} {qh_NoNumber : Bool} {qs_NoNumber : List Str} {qu_NoNumber : List Value} {qa_NoNumber : Bool} {qc_NoNumber : Option Bool} {qd_NoNumber : Option Addr} {q0_NoNumber q1_NoNumber q2_NoNumber q3_NoNumber q5_NoNumber : Option Value} {xc_NoWorst : Value} {xd_NoWorst : Option Addr} {xk_NoWorst : ClassData} {xs_NoWorst : Array (Option Value)} {qn_NoWorst qq_NoWorst : Str} {qN_NoWorst : Addr} {qb_NoWorst qm_NoWorst : List Value} {qh_NoWorst : Bool} {qs_NoWorst : List Str} {qu_NoWorst : List Value} {qa_NoWorst : Bool} {qc_NoWorst : Option Bool} {qd_NoWorst : Option Addr} {q0_NoWorst q1_NoWorst q2_NoWorst q3_NoWorst q5_NoWorst : Option Value} {xc_NoDeed : Value} {xd_NoDeed : Option Addr} {xk_NoDeed : ClassData} {xs_NoDeed : Array (Option Value)} {qn_NoDeed qq_NoDeed : Str} {qN_NoDeed : Addr} {qb_NoDeed qm_NoDeed : List Value} {qh_NoDeed : Bool} {qs_NoDeed : List Str} {qu_NoDeed : List Value} {qa_NoDeed : Bool} {qc_NoDeed : Option Bool} {qd_NoDeed : Option Addr} {q0_NoDeed q1_NoDeed q2_NoDeed q3_NoDeed q5_NoDeed : Option Value} {xc_BadStep : Value} {xd_BadStep : Option Addr} {xk_BadStep : ClassData} {xs_BadStep : Array (Option Value)} {qn_BadStep qq_BadStep : Str} {qN_BadStep : Addr} {qb_BadStep qm_BadStep : List Value} {qh_BadStep : Bool} {qs_BadStep : List Str} {qu_BadStep : List Value} {qa_BadStep : Bool} {qc_BadStep : Option Bool} {qd_BadStep : Option Addr} {q0_BadStep q1_BadStep q2_BadStep q3_BadStep q5_BadStep : Option Value} {xc_BadText : Value} {xd_BadText : Option Addr} {xk_BadText : ClassData} {xs_BadText : Array (Option Value)} {qn_BadText qq_BadText : Str} {qN_BadText : Addr} {qb_BadText qm_BadText : List Value} {qh_BadText : Bool} {qs_BadText : List Str} {qu_BadText : List Value} {qa_BadText : Bool} {qc_BadText : Option Bool} {qd_BadText : Option Addr} {q0_BadText q1_BadText q2_BadText q3_BadText q5_BadText : Option Value} {f_law_marks : Addr} {od_law_marks an_law_marks : Option Addr} {sl_law_marks : Array (Option Value)} {oc_law_marks kV_law_marks dc_law_marks pm_law_marks cd_law_marks ct_law_marks : Value} {f_BadStep___init__ : Addr} {od_BadStep___init__ an_BadStep___init__ : Option Addr} {sl_BadStep___init__ : Array (Option Value)} {oc_BadStep___init__ kV_BadStep___init__ dc_BadStep___init__ pm_BadStep___init__ cd_BadStep___init__ ct_BadStep___init__ : Value} {f_BadText___init__ : Addr} {od_BadText___init__ an_BadText___init__ : Option Addr} {sl_BadText___init__ : Array (Option Value)} {oc_BadText___init__ kV_BadText___init__ dc_BadText___init__ pm_BadText___init__ cd_BadText___init__ ct_BadText___init__ : Value} {f_law_raised : Addr} {od_law_raised an_law_raised : Option Addr} {sl_law_raised : Array (Option Value)} {oc_law_raised kV_law_raised dc_law_raised pm_law_raised cd_law_raised ct_law_raised : Value} {f_law_caught : Addr} {od_law_caught an_law_caught : Option Addr} {sl_law_caught : Array (Option Value)} {oc_law_caught kV_law_caught dc_law_caught pm_law_caught cd_law_caught ct_law_caught : Value} {f_law_whole : Addr} {od_law_whole an_law_whole : Option Addr} {sl_law_whole : Array (Option Value)} {oc_law_whole kV_law_whole dc_law_whole pm_law_whole cd_law_whole ct_law_whole : Value} {f_law : Addr} {od_law an_law : Option Addr} {sl_law : Array (Option Value)} {oc_law kV_law dc_law pm_law cd_law ct_law : Value} (X : K.In h) (G : h.Ns mainGlobals mg) (hfa : mg "law" = some (.ref fa))
    (ac_TollError : PySem.W.nsIn K mainGlobals "TollError" = some (some (.ref C_TollError)))
    (ac_BadWeb : PySem.W.nsIn K mainGlobals "BadWeb" = some (some (.ref C_BadWeb)))
    (ac_NoPlace : PySem.W.nsIn K mainGlobals "NoPlace" = some (some (.ref C_NoPlace)))
    (ac_NoRoad : PySem.W.nsIn K mainGlobals "NoRoad" = some (some (.ref C_NoRoad)))
    (ac_BadLaying : PySem.W.nsIn K mainGlobals "BadLaying" = some (some (.ref C_BadLaying)))
    (ac_BadWish : PySem.W.nsIn K mainGlobals "BadWish" = some (some (.ref C_BadWish)))
    (ac_TooMany : PySem.W.nsIn K mainGlobals "TooMany" = some (some (.ref C_TooMany)))
    (ac_NoNumber : PySem.W.nsIn K mainGlobals "NoNumber" = some (some (.ref C_NoNumber)))
    (ac_NoWorst : PySem.W.nsIn K mainGlobals "NoWorst" = some (some (.ref C_NoWorst)))
    (ac_NoDeed : PySem.W.nsIn K mainGlobals "NoDeed" = some (some (.ref C_NoDeed)))
    (ac_BadStep : PySem.W.nsIn K mainGlobals "BadStep" = some (some (.ref C_BadStep)))
    (ac_BadText : PySem.W.nsIn K mainGlobals "BadText" = some (some (.ref C_BadText)))
    (xl_TollError : K.lookup C_TollError = some ⟨xc_TollError, xd_TollError, .cls xk_TollError, xs_TollError⟩)
    (xm_TollError : xk_TollError.mro = .ref C_TollError :: bmV)
    (xt_TollError : PySem.W.typeIn K (.ref C_TollError) = some (.type "type"))
    (xg_TollError : PySem.W.findIn K (.ref C_TollError) "__getattribute__" = some (some (.builtin "BaseException.__getattribute__")))
    (xh_TollError : PySem.W.findIn K (.ref C_TollError) "__getattr__" = some none)
    (xo_TollError : PySem.W.findIn K (.ref C_TollError) "__class__" = some (some (.builtin "object.__class__")))
    (xi_TollError : PySem.W.hasDictIn K C_TollError = true)
    (xl_BadWeb : K.lookup C_BadWeb = some ⟨xc_BadWeb, xd_BadWeb, .cls xk_BadWeb, xs_BadWeb⟩)
    (xm_BadWeb : xk_BadWeb.mro = .ref C_BadWeb :: .ref C_TollError :: bmV)
    (xt_BadWeb : PySem.W.typeIn K (.ref C_BadWeb) = some (.type "type"))
    (xg_BadWeb : PySem.W.findIn K (.ref C_BadWeb) "__getattribute__" = some (some (.builtin "BaseException.__getattribute__")))
    (xh_BadWeb : PySem.W.findIn K (.ref C_BadWeb) "__getattr__" = some none)
    (xo_BadWeb : PySem.W.findIn K (.ref C_BadWeb) "__class__" = some (some (.builtin "object.__class__")))
    (xi_BadWeb : PySem.W.hasDictIn K C_BadWeb = true)
    (xe_BadWeb : (⟨xc_BadWeb, xd_BadWeb, .cls xk_BadWeb, xs_BadWeb⟩ : Obj) = excClassObj qn_BadWeb qq_BadWeb C_BadWeb qN_BadWeb qb_BadWeb qm_BadWeb qh_BadWeb qs_BadWeb qu_BadWeb qa_BadWeb qc_BadWeb qd_BadWeb q0_BadWeb q1_BadWeb q2_BadWeb q3_BadWeb q5_BadWeb "ValueError.__new__")
    (xf_BadWeb : PySem.W.nsOkIn K qN_BadWeb = true)
    (xj_BadWeb : PySem.W.nsIn K qN_BadWeb "__init__" = some none)
    (xp_BadWeb : PySem.W.tailIn K bmV qm_BadWeb = true)
    (xl_NoPlace : K.lookup C_NoPlace = some ⟨xc_NoPlace, xd_NoPlace, .cls xk_NoPlace, xs_NoPlace⟩)
    (xm_NoPlace : xk_NoPlace.mro = .ref C_NoPlace :: .ref C_TollError :: bmV)
    (xt_NoPlace : PySem.W.typeIn K (.ref C_NoPlace) = some (.type "type"))
    (xg_NoPlace : PySem.W.findIn K (.ref C_NoPlace) "__getattribute__" = some (some (.builtin "BaseException.__getattribute__")))
    (xh_NoPlace : PySem.W.findIn K (.ref C_NoPlace) "__getattr__" = some none)
    (xo_NoPlace : PySem.W.findIn K (.ref C_NoPlace) "__class__" = some (some (.builtin "object.__class__")))
    (xi_NoPlace : PySem.W.hasDictIn K C_NoPlace = true)
    (xe_NoPlace : (⟨xc_NoPlace, xd_NoPlace, .cls xk_NoPlace, xs_NoPlace⟩ : Obj) = excClassObj qn_NoPlace qq_NoPlace C_NoPlace qN_NoPlace qb_NoPlace qm_NoPlace qh_NoPlace qs_NoPlace qu_NoPlace qa_NoPlace qc_NoPlace qd_NoPlace q0_NoPlace q1_NoPlace q2_NoPlace q3_NoPlace q5_NoPlace "ValueError.__new__")
    (xf_NoPlace : PySem.W.nsOkIn K qN_NoPlace = true)
    (xj_NoPlace : PySem.W.nsIn K qN_NoPlace "__init__" = some none)
    (xp_NoPlace : PySem.W.tailIn K bmV qm_NoPlace = true)
    (xl_NoRoad : K.lookup C_NoRoad = some ⟨xc_NoRoad, xd_NoRoad, .cls xk_NoRoad, xs_NoRoad⟩)
    (xm_NoRoad : xk_NoRoad.mro = .ref C_NoRoad :: .ref C_TollError :: bmV)
    (xt_NoRoad : PySem.W.typeIn K (.ref C_NoRoad) = some (.type "type"))
    (xg_NoRoad : PySem.W.findIn K (.ref C_NoRoad) "__getattribute__" = some (some (.builtin "BaseException.__getattribute__")))
    (xh_NoRoad : PySem.W.findIn K (.ref C_NoRoad) "__getattr__" = some none)
    (xo_NoRoad : PySem.W.findIn K (.ref C_NoRoad) "__class__" = some (some (.builtin "object.__class__")))
    (xi_NoRoad : PySem.W.hasDictIn K C_NoRoad = true)
    (xe_NoRoad : (⟨xc_NoRoad, xd_NoRoad, .cls xk_NoRoad, xs_NoRoad⟩ : Obj) = excClassObj qn_NoRoad qq_NoRoad C_NoRoad qN_NoRoad qb_NoRoad qm_NoRoad qh_NoRoad qs_NoRoad qu_NoRoad qa_NoRoad qc_NoRoad qd_NoRoad q0_NoRoad q1_NoRoad q2_NoRoad q3_NoRoad q5_NoRoad "ValueError.__new__")
    (xf_NoRoad : PySem.W.nsOkIn K qN_NoRoad = true)
    (xj_NoRoad : PySem.W.nsIn K qN_NoRoad "__init__" = some none)
    (xp_NoRoad : PySem.W.tailIn K bmV qm_NoRoad = true)
    (xl_BadLaying : K.lookup C_BadLaying = some ⟨xc_BadLaying, xd_BadLaying, .cls xk_BadLaying, xs_BadLaying⟩)
    (xm_BadLaying : xk_BadLaying.mro = .ref C_BadLaying :: .ref C_TollError :: bmV)
    (xt_BadLaying : PySem.W.typeIn K (.ref C_BadLaying) = some (.type "type"))
    (xg_BadLaying : PySem.W.findIn K (.ref C_BadLaying) "__getattribute__" = some (some (.builtin "BaseException.__getattribute__")))
    (xh_BadLaying : PySem.W.findIn K (.ref C_BadLaying) "__getattr__" = some none)
    (xo_BadLaying : PySem.W.findIn K (.ref C_BadLaying) "__class__" = some (some (.builtin "object.__class__")))
    (xi_BadLaying : PySem.W.hasDictIn K C_BadLaying = true)
    (xe_BadLaying : (⟨xc_BadLaying, xd_BadLaying, .cls xk_BadLaying, xs_BadLaying⟩ : Obj) = excClassObj qn_BadLaying qq_BadLaying C_BadLaying qN_BadLaying qb_BadLaying qm_BadLaying qh_BadLaying qs_BadLaying qu_BadLaying qa_BadLaying qc_BadLaying qd_BadLaying q0_BadLaying q1_BadLaying q2_BadLaying q3_BadLaying q5_BadLaying "ValueError.__new__")
    (xf_BadLaying : PySem.W.nsOkIn K qN_BadLaying = true)
    (xj_BadLaying : PySem.W.nsIn K qN_BadLaying "__init__" = some none)
    (xp_BadLaying : PySem.W.tailIn K bmV qm_BadLaying = true)
    (xl_BadWish : K.lookup C_BadWish = some ⟨xc_BadWish, xd_BadWish, .cls xk_BadWish, xs_BadWish⟩)
    (xm_BadWish : xk_BadWish.mro = .ref C_BadWish :: .ref C_TollError :: bmV)
    (xt_BadWish : PySem.W.typeIn K (.ref C_BadWish) = some (.type "type"))
    (xg_BadWish : PySem.W.findIn K (.ref C_BadWish) "__getattribute__" = some (some (.builtin "BaseException.__getattribute__")))
    (xh_BadWish : PySem.W.findIn K (.ref C_BadWish) "__getattr__" = some none)
    (xo_BadWish : PySem.W.findIn K (.ref C_BadWish) "__class__" = some (some (.builtin "object.__class__")))
    (xi_BadWish : PySem.W.hasDictIn K C_BadWish = true)
    (xe_BadWish : (⟨xc_BadWish, xd_BadWish, .cls xk_BadWish, xs_BadWish⟩ : Obj) = excClassObj qn_BadWish qq_BadWish C_BadWish qN_BadWish qb_BadWish qm_BadWish qh_BadWish qs_BadWish qu_BadWish qa_BadWish qc_BadWish qd_BadWish q0_BadWish q1_BadWish q2_BadWish q3_BadWish q5_BadWish "ValueError.__new__")
    (xf_BadWish : PySem.W.nsOkIn K qN_BadWish = true)
    (xj_BadWish : PySem.W.nsIn K qN_BadWish "__init__" = some none)
    (xp_BadWish : PySem.W.tailIn K bmV qm_BadWish = true)
    (xl_TooMany : K.lookup C_TooMany = some ⟨xc_TooMany, xd_TooMany, .cls xk_TooMany, xs_TooMany⟩)
    (xm_TooMany : xk_TooMany.mro = .ref C_TooMany :: .ref C_TollError :: bmV)
    (xt_TooMany : PySem.W.typeIn K (.ref C_TooMany) = some (.type "type"))
    (xg_TooMany : PySem.W.findIn K (.ref C_TooMany) "__getattribute__" = some (some (.builtin "BaseException.__getattribute__")))
    (xh_TooMany : PySem.W.findIn K (.ref C_TooMany) "__getattr__" = some none)
    (xo_TooMany : PySem.W.findIn K (.ref C_TooMany) "__class__" = some (some (.builtin "object.__class__")))
    (xi_TooMany : PySem.W.hasDictIn K C_TooMany = true)
    (xe_TooMany : (⟨xc_TooMany, xd_TooMany, .cls xk_TooMany, xs_TooMany⟩ : Obj) = excClassObj qn_TooMany qq_TooMany C_TooMany qN_TooMany qb_TooMany qm_TooMany qh_TooMany qs_TooMany qu_TooMany qa_TooMany qc_TooMany qd_TooMany q0_TooMany q1_TooMany q2_TooMany q3_TooMany q5_TooMany "ValueError.__new__")
    (xf_TooMany : PySem.W.nsOkIn K qN_TooMany = true)
    (xj_TooMany : PySem.W.nsIn K qN_TooMany "__init__" = some none)
    (xp_TooMany : PySem.W.tailIn K bmV qm_TooMany = true)
    (xl_NoNumber : K.lookup C_NoNumber = some ⟨xc_NoNumber, xd_NoNumber, .cls xk_NoNumber, xs_NoNumber⟩)
    (xm_NoNumber : xk_NoNumber.mro = .ref C_NoNumber :: .ref C_TollError :: bmV)
    (xt_NoNumber : PySem.W.typeIn K (.ref C_NoNumber) = some (.type "type"))
    (xg_NoNumber : PySem.W.findIn K (.ref C_NoNumber) "__getattribute__" = some (some (.builtin "BaseException.__getattribute__")))
    (xh_NoNumber : PySem.W.findIn K (.ref C_NoNumber) "__getattr__" = some none)
    (xo_NoNumber : PySem.W.findIn K (.ref C_NoNumber) "__class__" = some (some (.builtin "object.__class__")))
    (xi_NoNumber : PySem.W.hasDictIn K C_NoNumber = true)
    (xe_NoNumber : (⟨xc_NoNumber, xd_NoNumber, .cls xk_NoNumber, xs_NoNumber⟩ : Obj) = excClassObj qn_NoNumber qq_NoNumber C_NoNumber qN_NoNumber qb_NoNumber qm_NoNumber qh_NoNumber qs_NoNumber qu_NoNumber qa_NoNumber qc_NoNumber qd_NoNumber q0_NoNumber q1_NoNumber q2_NoNumber q3_NoNumber q5_NoNumber "ValueError.__new__")
    (xf_NoNumber : PySem.W.nsOkIn K qN_NoNumber = true)
    (xj_NoNumber : PySem.W.nsIn K qN_NoNumber "__init__" = some none)
    (xp_NoNumber : PySem.W.tailIn K bmV qm_NoNumber = true)
    (xl_NoWorst : K.lookup C_NoWorst = some ⟨xc_NoWorst, xd_NoWorst, .cls xk_NoWorst, xs_NoWorst⟩)
    (xm_NoWorst : xk_NoWorst.mro = .ref C_NoWorst :: .ref C_TollError :: bmV)
    (xt_NoWorst : PySem.W.typeIn K (.ref C_NoWorst) = some (.type "type"))
    (xg_NoWorst : PySem.W.findIn K (.ref C_NoWorst) "__getattribute__" = some (some (.builtin "BaseException.__getattribute__")))
    (xh_NoWorst : PySem.W.findIn K (.ref C_NoWorst) "__getattr__" = some none)
    (xo_NoWorst : PySem.W.findIn K (.ref C_NoWorst) "__class__" = some (some (.builtin "object.__class__")))
    (xi_NoWorst : PySem.W.hasDictIn K C_NoWorst = true)
    (xe_NoWorst : (⟨xc_NoWorst, xd_NoWorst, .cls xk_NoWorst, xs_NoWorst⟩ : Obj) = excClassObj qn_NoWorst qq_NoWorst C_NoWorst qN_NoWorst qb_NoWorst qm_NoWorst qh_NoWorst qs_NoWorst qu_NoWorst qa_NoWorst qc_NoWorst qd_NoWorst q0_NoWorst q1_NoWorst q2_NoWorst q3_NoWorst q5_NoWorst "ValueError.__new__")
    (xf_NoWorst : PySem.W.nsOkIn K qN_NoWorst = true)
    (xj_NoWorst : PySem.W.nsIn K qN_NoWorst "__init__" = some none)
    (xp_NoWorst : PySem.W.tailIn K bmV qm_NoWorst = true)
    (xl_NoDeed : K.lookup C_NoDeed = some ⟨xc_NoDeed, xd_NoDeed, .cls xk_NoDeed, xs_NoDeed⟩)
    (xm_NoDeed : xk_NoDeed.mro = .ref C_NoDeed :: .ref C_TollError :: bmV)
    (xt_NoDeed : PySem.W.typeIn K (.ref C_NoDeed) = some (.type "type"))
    (xg_NoDeed : PySem.W.findIn K (.ref C_NoDeed) "__getattribute__" = some (some (.builtin "BaseException.__getattribute__")))
    (xh_NoDeed : PySem.W.findIn K (.ref C_NoDeed) "__getattr__" = some none)
    (xo_NoDeed : PySem.W.findIn K (.ref C_NoDeed) "__class__" = some (some (.builtin "object.__class__")))
    (xi_NoDeed : PySem.W.hasDictIn K C_NoDeed = true)
    (xe_NoDeed : (⟨xc_NoDeed, xd_NoDeed, .cls xk_NoDeed, xs_NoDeed⟩ : Obj) = excClassObj qn_NoDeed qq_NoDeed C_NoDeed qN_NoDeed qb_NoDeed qm_NoDeed qh_NoDeed qs_NoDeed qu_NoDeed qa_NoDeed qc_NoDeed qd_NoDeed q0_NoDeed q1_NoDeed q2_NoDeed q3_NoDeed q5_NoDeed "ValueError.__new__")
    (xf_NoDeed : PySem.W.nsOkIn K qN_NoDeed = true)
    (xj_NoDeed : PySem.W.nsIn K qN_NoDeed "__init__" = some none)
    (xp_NoDeed : PySem.W.tailIn K bmV qm_NoDeed = true)
    (xl_BadStep : K.lookup C_BadStep = some ⟨xc_BadStep, xd_BadStep, .cls xk_BadStep, xs_BadStep⟩)
    (xm_BadStep : xk_BadStep.mro = .ref C_BadStep :: .ref C_TollError :: bmV)
    (xt_BadStep : PySem.W.typeIn K (.ref C_BadStep) = some (.type "type"))
    (xg_BadStep : PySem.W.findIn K (.ref C_BadStep) "__getattribute__" = some (some (.builtin "BaseException.__getattribute__")))
    (xh_BadStep : PySem.W.findIn K (.ref C_BadStep) "__getattr__" = some none)
    (xo_BadStep : PySem.W.findIn K (.ref C_BadStep) "__class__" = some (some (.builtin "object.__class__")))
    (xi_BadStep : PySem.W.hasDictIn K C_BadStep = true)
    (xe_BadStep : (⟨xc_BadStep, xd_BadStep, .cls xk_BadStep, xs_BadStep⟩ : Obj) = excClassObj qn_BadStep qq_BadStep C_BadStep qN_BadStep qb_BadStep qm_BadStep qh_BadStep qs_BadStep qu_BadStep qa_BadStep qc_BadStep qd_BadStep q0_BadStep q1_BadStep q2_BadStep q3_BadStep q5_BadStep "ValueError.__new__")
    (xf_BadStep : PySem.W.nsOkIn K qN_BadStep = true)
    (xj_BadStep : PySem.W.nsIn K qN_BadStep "__init__" = some (some (.ref f_BadStep___init__)))
    (xp_BadStep : PySem.W.tailIn K bmV qm_BadStep = true)
    (xl_BadText : K.lookup C_BadText = some ⟨xc_BadText, xd_BadText, .cls xk_BadText, xs_BadText⟩)
    (xm_BadText : xk_BadText.mro = .ref C_BadText :: .ref C_TollError :: bmV)
    (xt_BadText : PySem.W.typeIn K (.ref C_BadText) = some (.type "type"))
    (xg_BadText : PySem.W.findIn K (.ref C_BadText) "__getattribute__" = some (some (.builtin "BaseException.__getattribute__")))
    (xh_BadText : PySem.W.findIn K (.ref C_BadText) "__getattr__" = some none)
    (xo_BadText : PySem.W.findIn K (.ref C_BadText) "__class__" = some (some (.builtin "object.__class__")))
    (xi_BadText : PySem.W.hasDictIn K C_BadText = true)
    (xe_BadText : (⟨xc_BadText, xd_BadText, .cls xk_BadText, xs_BadText⟩ : Obj) = excClassObj qn_BadText qq_BadText C_BadText qN_BadText qb_BadText qm_BadText qh_BadText qs_BadText qu_BadText qa_BadText qc_BadText qd_BadText q0_BadText q1_BadText q2_BadText q3_BadText q5_BadText "ValueError.__new__")
    (xf_BadText : PySem.W.nsOkIn K qN_BadText = true)
    (xj_BadText : PySem.W.nsIn K qN_BadText "__init__" = some (some (.ref f_BadText___init__)))
    (xp_BadText : PySem.W.tailIn K bmV qm_BadText = true)
    (bg_TollError : PySem.W.specialIn K (.ref C_TollError) "__getattribute__" = some (some (.builtin "type.__getattribute__")))
    (br_TollError : PySem.W.readsIn K C_TollError (.type "type") = true)
    (bf_TollError : PySem.W.findCls K (.ref C_TollError) (.type "type") "__init__" = some (.val (.builtin "ValueError.__init__")))
    (ss_BadStep : PySem.W.findIn K (.ref C_BadStep) "__setattr__" = some (some (.builtin "object.__setattr__")))
    (st_BadStep : PySem.W.findIn K (.ref C_BadStep) "at" = some none)
    (ss_BadText : PySem.W.findIn K (.ref C_BadText) "__setattr__" = some (some (.builtin "object.__setattr__")))
    (st_BadText : PySem.W.findIn K (.ref C_BadText) "at" = some none)
    (xgs : PySem.W.specialIn K (.builtin "object.__class__") "__get__" = some (some (.builtin "getset_descriptor.__get__")))
    (xtk : PySem.W.takesIn K (.builtin "object.__class__") = some true)
    (xnd : [C_TollError, C_BadWeb, C_NoPlace, C_NoRoad, C_BadLaying, C_BadWish, C_TooMany, C_NoNumber, C_NoWorst, C_NoDeed, C_BadStep, C_BadText].Nodup)
    (a_law_marks : PySem.W.nsIn K mainGlobals "_law_marks" = some (some (.ref f_law_marks)))
    (l_law_marks : K.lookup f_law_marks = some ⟨oc_law_marks, od_law_marks, .func (PySem.W.fnOf "_law_marks" "_law_marks" (defArgs s_law_marks) (defBody s_law_marks) (defScope s_law_marks) .none kV_law_marks dc_law_marks pm_law_marks an_law_marks cd_law_marks ct_law_marks), sl_law_marks⟩)
    (c_law_marks : PySem.W.codeIn K cd_law_marks "_law_marks" = true)
    (k_law_marks : PySem.W.keepIn K (.ref f_law_marks) = true)
    (a_BadStep___init__ : PySem.W.findIn K (.ref C_BadStep) "__init__" = some (some (.ref f_BadStep___init__)))
    (i_BadStep___init__ : PySem.W.isFn K (.ref f_BadStep___init__) = true)
    (l_BadStep___init__ : K.lookup f_BadStep___init__ = some ⟨oc_BadStep___init__, od_BadStep___init__, .func (PySem.W.fnOf "__init__" "BadStep.__init__" (defArgs s_BadStep___init__) (defBody s_BadStep___init__) (defScope s_BadStep___init__) .none kV_BadStep___init__ dc_BadStep___init__ pm_BadStep___init__ an_BadStep___init__ cd_BadStep___init__ ct_BadStep___init__), sl_BadStep___init__⟩)
    (c_BadStep___init__ : PySem.W.codeIn K cd_BadStep___init__ "BadStep.__init__" = true)
    (k_BadStep___init__ : PySem.W.keepIn K (.ref f_BadStep___init__) = true)
    (a_BadText___init__ : PySem.W.findIn K (.ref C_BadText) "__init__" = some (some (.ref f_BadText___init__)))
    (i_BadText___init__ : PySem.W.isFn K (.ref f_BadText___init__) = true)
    (l_BadText___init__ : K.lookup f_BadText___init__ = some ⟨oc_BadText___init__, od_BadText___init__, .func (PySem.W.fnOf "__init__" "BadText.__init__" (defArgs s_BadText___init__) (defBody s_BadText___init__) (defScope s_BadText___init__) .none kV_BadText___init__ dc_BadText___init__ pm_BadText___init__ an_BadText___init__ cd_BadText___init__ ct_BadText___init__), sl_BadText___init__⟩)
    (c_BadText___init__ : PySem.W.codeIn K cd_BadText___init__ "BadText.__init__" = true)
    (k_BadText___init__ : PySem.W.keepIn K (.ref f_BadText___init__) = true)
    (a_law_raised : PySem.W.nsIn K mainGlobals "_law_raised" = some (some (.ref f_law_raised)))
    (l_law_raised : K.lookup f_law_raised = some ⟨oc_law_raised, od_law_raised, .func (PySem.W.fnOf "_law_raised" "_law_raised" (defArgs s_law_raised) (defBody s_law_raised) (defScope s_law_raised) .none kV_law_raised dc_law_raised pm_law_raised an_law_raised cd_law_raised ct_law_raised), sl_law_raised⟩)
    (c_law_raised : PySem.W.codeIn K cd_law_raised "_law_raised" = true)
    (k_law_raised : PySem.W.keepIn K (.ref f_law_raised) = true)
    (a_law_caught : PySem.W.nsIn K mainGlobals "_law_caught" = some (some (.ref f_law_caught)))
    (l_law_caught : K.lookup f_law_caught = some ⟨oc_law_caught, od_law_caught, .func (PySem.W.fnOf "_law_caught" "_law_caught" (defArgs s_law_caught) (defBody s_law_caught) (defScope s_law_caught) .none kV_law_caught dc_law_caught pm_law_caught an_law_caught cd_law_caught ct_law_caught), sl_law_caught⟩)
    (c_law_caught : PySem.W.codeIn K cd_law_caught "_law_caught" = true)
    (k_law_caught : PySem.W.keepIn K (.ref f_law_caught) = true)
    (a_law_whole : PySem.W.nsIn K mainGlobals "_law_whole" = some (some (.ref f_law_whole)))
    (l_law_whole : K.lookup f_law_whole = some ⟨oc_law_whole, od_law_whole, .func (PySem.W.fnOf "_law_whole" "_law_whole" (defArgs s_law_whole) (defBody s_law_whole) (defScope s_law_whole) .none kV_law_whole dc_law_whole pm_law_whole an_law_whole cd_law_whole ct_law_whole), sl_law_whole⟩)
    (c_law_whole : PySem.W.codeIn K cd_law_whole "_law_whole" = true)
    (k_law_whole : PySem.W.keepIn K (.ref f_law_whole) = true)
    (a_law : PySem.W.nsIn K mainGlobals "law" = some (some (.ref f_law)))
    (l_law : K.lookup f_law = some ⟨oc_law, od_law, .func (PySem.W.fnOf "law" "law" (defArgs s_law) (defBody s_law) (defScope s_law) .none kV_law dc_law pm_law an_law cd_law ct_law), sl_law⟩)
    (c_law : PySem.W.codeIn K cd_law "law" = true)
    (k_law : PySem.W.keepIn K (.ref f_law) = true)
    (z_range : PySem.W.nsIn K mainGlobals "range" = some none)
    (z_isinstance : PySem.W.nsIn K mainGlobals "isinstance" = some none)
    (z_int : PySem.W.nsIn K mainGlobals "int" = some none)
    (z_bool : PySem.W.nsIn K mainGlobals "bool" = some none)
    (z_list : PySem.W.nsIn K mainGlobals "list" = some none)
    (z_ValueError : PySem.W.nsIn K mainGlobals "ValueError" = some none) :
    ∃ fd : FuncData, (∀ (s : Shared) (v : Value), BindsTo s fd ⟨[v], []⟩ [("script", v)]) ∧ ∀ base : Heap, K.In base → base.Ns mainGlobals mg → FnOk l.prog w K mg base (CXe l.prog w) 5 fa fd ["script"] (spLaw K) := by
  have e := hfa.symm.trans (PySem.W.mg_of X G a_law)
  cases e
  let T : Txt K mg := ⟨C_TollError, PySem.W.mg_of X G ac_TollError, C_BadWeb, PySem.W.mg_of X G ac_BadWeb, C_NoPlace, PySem.W.mg_of X G ac_NoPlace, C_NoRoad, PySem.W.mg_of X G ac_NoRoad, C_BadLaying, PySem.W.mg_of X G ac_BadLaying, C_BadWish, PySem.W.mg_of X G ac_BadWish, C_TooMany, PySem.W.mg_of X G ac_TooMany, C_NoNumber, PySem.W.mg_of X G ac_NoNumber, C_NoWorst, PySem.W.mg_of X G ac_NoWorst, C_NoDeed, PySem.W.mg_of X G ac_NoDeed, C_BadStep, PySem.W.mg_of X G ac_BadStep, C_BadText, PySem.W.mg_of X G ac_BadText, xtop_of xt_TollError xg_TollError xh_TollError xo_TollError xgs xtk xi_TollError xl_TollError xm_TollError, xerr_mk xt_BadWeb xg_BadWeb xh_BadWeb xo_BadWeb xgs xtk xi_BadWeb xl_BadWeb xm_BadWeb, xobj_mk _ _ _ _ _ _ _ _ _ _ _ _ _ _ _ _ xl_BadWeb xe_BadWeb xf_BadWeb xj_BadWeb xp_BadWeb, xerr_mk xt_NoPlace xg_NoPlace xh_NoPlace xo_NoPlace xgs xtk xi_NoPlace xl_NoPlace xm_NoPlace, xobj_mk _ _ _ _ _ _ _ _ _ _ _ _ _ _ _ _ xl_NoPlace xe_NoPlace xf_NoPlace xj_NoPlace xp_NoPlace, xerr_mk xt_NoRoad xg_NoRoad xh_NoRoad xo_NoRoad xgs xtk xi_NoRoad xl_NoRoad xm_NoRoad, xobj_mk _ _ _ _ _ _ _ _ _ _ _ _ _ _ _ _ xl_NoRoad xe_NoRoad xf_NoRoad xj_NoRoad xp_NoRoad, xerr_mk xt_BadLaying xg_BadLaying xh_BadLaying xo_BadLaying xgs xtk xi_BadLaying xl_BadLaying xm_BadLaying, xobj_mk _ _ _ _ _ _ _ _ _ _ _ _ _ _ _ _ xl_BadLaying xe_BadLaying xf_BadLaying xj_BadLaying xp_BadLaying, xerr_mk xt_BadWish xg_BadWish xh_BadWish xo_BadWish xgs xtk xi_BadWish xl_BadWish xm_BadWish, xobj_mk _ _ _ _ _ _ _ _ _ _ _ _ _ _ _ _ xl_BadWish xe_BadWish xf_BadWish xj_BadWish xp_BadWish, xerr_mk xt_TooMany xg_TooMany xh_TooMany xo_TooMany xgs xtk xi_TooMany xl_TooMany xm_TooMany, xobj_mk _ _ _ _ _ _ _ _ _ _ _ _ _ _ _ _ xl_TooMany xe_TooMany xf_TooMany xj_TooMany xp_TooMany, xerr_mk xt_NoNumber xg_NoNumber xh_NoNumber xo_NoNumber xgs xtk xi_NoNumber xl_NoNumber xm_NoNumber, xobj_mk _ _ _ _ _ _ _ _ _ _ _ _ _ _ _ _ xl_NoNumber xe_NoNumber xf_NoNumber xj_NoNumber xp_NoNumber, xerr_mk xt_NoWorst xg_NoWorst xh_NoWorst xo_NoWorst xgs xtk xi_NoWorst xl_NoWorst xm_NoWorst, xobj_mk _ _ _ _ _ _ _ _ _ _ _ _ _ _ _ _ xl_NoWorst xe_NoWorst xf_NoWorst xj_NoWorst xp_NoWorst, xerr_mk xt_NoDeed xg_NoDeed xh_NoDeed xo_NoDeed xgs xtk xi_NoDeed xl_NoDeed xm_NoDeed, xobj_mk _ _ _ _ _ _ _ _ _ _ _ _ _ _ _ _ xl_NoDeed xe_NoDeed xf_NoDeed xj_NoDeed xp_NoDeed, xerr_mk xt_BadStep xg_BadStep xh_BadStep xo_BadStep xgs xtk xi_BadStep xl_BadStep xm_BadStep, xerr_mk xt_BadText xg_BadText xh_BadText xo_BadText xgs xtk xi_BadText xl_BadText xm_BadText, ⟨bg_TollError, br_TollError, bf_TollError⟩, xset_mk xl_BadStep xm_BadStep xi_BadStep ss_BadStep st_BadStep, st_BadStep, xset_mk xl_BadText xm_BadText xi_BadText ss_BadText st_BadText, st_BadText, xnd, PySem.W.mg_none_of X G z_range, PySem.W.mg_none_of X G z_isinstance, PySem.W.mg_none_of X G z_int, PySem.W.mg_none_of X G z_bool, PySem.W.mg_none_of X G z_list, PySem.W.mg_none_of X G z_ValueError⟩
  have F_law_marks := fun_mk (st := s_law_marks) l_law_marks c_law_marks k_law_marks
  have b_law_marks := F_law_marks.binds (ps := ["e"]) fun _ _ _ _ _ _ us hl => by obtain ⟨u0, rfl⟩ := us1 hl; rfl
  have D_law_marks : Df K mg "_law_marks" s_law_marks ["e"] f_law_marks _ := ⟨F_law_marks, PySem.W.mg_of X G a_law_marks, b_law_marks⟩
  have F_BadStep___init__ := fun_mk (st := s_BadStep___init__) l_BadStep___init__ c_BadStep___init__ k_BadStep___init__
  have b_BadStep := F_BadStep___init__.binds (ps := ["self", "at"]) fun _ _ _ _ _ _ us hl => by obtain ⟨u0, u1, rfl⟩ := us2 hl; rfl
  have F_BadText___init__ := fun_mk (st := s_BadText___init__) l_BadText___init__ c_BadText___init__ k_BadText___init__
  have b_BadText := F_BadText___init__.binds (ps := ["self", "at"]) fun _ _ _ _ _ _ us hl => by obtain ⟨u0, u1, rfl⟩ := us2 hl; rfl
  have F_law_raised := fun_mk (st := s_law_raised) l_law_raised c_law_raised k_law_raised
  have b_law_raised := F_law_raised.binds (ps := ["which", "number"]) fun _ _ _ _ _ _ us hl => by obtain ⟨u0, u1, rfl⟩ := us2 hl; rfl
  have D_law_raised : Df K mg "_law_raised" s_law_raised ["which", "number"] f_law_raised _ := ⟨F_law_raised, PySem.W.mg_of X G a_law_raised, b_law_raised⟩
  have F_law_caught := fun_mk (st := s_law_caught) l_law_caught c_law_caught k_law_caught
  have b_law_caught := F_law_caught.binds (ps := ["which", "number"]) fun _ _ _ _ _ _ us hl => by obtain ⟨u0, u1, rfl⟩ := us2 hl; rfl
  have D_law_caught : Df K mg "_law_caught" s_law_caught ["which", "number"] f_law_caught _ := ⟨F_law_caught, PySem.W.mg_of X G a_law_caught, b_law_caught⟩
  have F_law_whole := fun_mk (st := s_law_whole) l_law_whole c_law_whole k_law_whole
  have b_law_whole := F_law_whole.binds (ps := ["found"]) fun _ _ _ _ _ _ us hl => by obtain ⟨u0, rfl⟩ := us1 hl; rfl
  have D_law_whole : Df K mg "_law_whole" s_law_whole ["found"] f_law_whole _ := ⟨F_law_whole, PySem.W.mg_of X G a_law_whole, b_law_whole⟩
  have F_law := fun_mk (st := s_law) l_law c_law k_law
  have b_law := F_law.binds (ps := ["script"]) fun _ _ _ _ _ _ us hl => by obtain ⟨u0, rfl⟩ := us1 hl; rfl
  have D_law : Df K mg "law" s_law ["script"] fa _ := ⟨F_law, PySem.W.mg_of X G a_law, b_law⟩
  refine ⟨PySem.W.fnOf "law" "law" (defArgs s_law) (defBody s_law) (defScope s_law) .none kV_law dc_law pm_law an_law cd_law ct_law, fun s v => .of_eq rfl, fun base _ _ => ?_⟩
  have M_BadStep : XObjI K T.BadStep f_BadStep___init__ := xobjI_mk _ _ _ _ _ _ _ _ _ _ _ _ _ _ _ _ xl_BadStep xe_BadStep xf_BadStep xj_BadStep xp_BadStep i_BadStep___init__
  have M_BadText : XObjI K T.BadText f_BadText___init__ := xobjI_mk _ _ _ _ _ _ _ _ _ _ _ _ _ _ _ _ xl_BadText xe_BadText xf_BadText xj_BadText xp_BadText i_BadText___init__
  have G_law_marks := ok_law_marks (P := l.prog) (w := w) (base := base) T quietE D_law_marks
  have G_BadStep_init := ok_BadStep___init__ (P := l.prog) (w := w) (base := base) T quietE F_BadStep___init__
  have G_BadText_init := ok_BadText___init__ (P := l.prog) (w := w) (base := base) T quietE F_BadText___init__
  have G_law_raised := ok_law_raised (P := l.prog) (w := w) (base := base) T quietE D_law_raised F_BadStep___init__ b_BadStep M_BadStep G_BadStep_init F_BadText___init__ b_BadText M_BadText G_BadText_init
  have G_law_caught := ok_law_caught (P := l.prog) (w := w) (base := base) T quietE D_law_caught D_law_marks G_law_marks D_law_raised G_law_raised
  have G_law_whole := ok_law_whole (P := l.prog) (w := w) (base := base) T quietE D_law_whole
  have G_law := ok_law (P := l.prog) (w := w) (base := base) T quietE D_law D_law_caught G_law_caught D_law_whole G_law_whole
  exact G_law
theorem walk {l : PySem.W.OpenLaw} {q : Program} {loose : List Str} {XP : (Str → Option Value) → Heap → Prop} {YP : World → Heap → Prop} {d : DefRec} {K : Params → PySem.W.Frag} (hn : l.most = some 63) (hdf : d.params.defaults = [])
    (hY : ∀ (w : World) (h : Heap), YP w h → (K w.params).In h)
    (F : ∀ (w : World) (mg : Str → Option Value) (fa : Addr) (h : Heap), (K w.params).In h → h.Ns mainGlobals mg → mg d.name = some (.ref fa) →
      ∃ fd : FuncData, (∀ (s : Shared) (u : Value), BindsTo s fd ⟨[u], []⟩ [("script", u)]) ∧ ∀ base : Heap, (K w.params).In base → base.Ns mainGlobals mg → FnOk l.prog w (K w.params) mg base (CXe l.prog w) 5 fa fd ["script"] (spLaw (K w.params))) :
    PySem.W.WalkO q loose XP YP l.row.toRowW d [] (fun f vs => PySem.call f vs) :=
  L2.walk_of (n := 63) (k := 5) (x := "script") (CX := fun w => (CXe l.prog w)) (sp := fun w => spLaw (K w.params)) hn (by decide) hdf ⟨rfl, by decide, by decide⟩ hY F (fun _ _ a ns hl _ hS => ⟨a, ns, rfl, hS, hl, fun _ => rfl⟩) fun _ _ _ _ _ z => quietE _ _ _ _ _ z
end Pk
open PySem PySem.W PyProof.Rows
set_option maxRecDepth 100000 in
set_option maxHeartbeats 0 in
theorem PySem.Challenge.cw_pebbletoll_k01_errors_apart_holds : PySem.Challenge.rw_pebbletoll_k01_errors_apart.Holds := by
  w_on; o_law
  refine PySem.W.holds_open (q := Hd.qq) (loose := []) (Xt := (fun s => PySem.W.xlAt Hd.qq [] s && PySem.W.recOk (PySem.W.RowW.records (PySem.W.OpenRow.toRowW (PySem.Challenge.rw_pebbletoll_k01_errors_apart).row)) s)) (XP := PySem.W.XL Hd.qq []) (Yf := PySem.W.Hook.obs (PySem.W.kHook Hd.KK Hd.asK Hd.asK_eq)) (Ya := PySem.W.Hook.val (PySem.W.kHook Hd.KK Hd.asK Hd.asK_eq)) (YP := PySem.W.Hook.says (PySem.W.kHook Hd.KK Hd.asK Hd.asK_eq)) (N := 5642) Hd.left (PySem.W.Hook.of (PySem.W.kHook Hd.KK Hd.asK Hd.asK_eq)) (PySem.W.Hook.keeps (PySem.W.kHook Hd.KK Hd.asK Hd.asK_eq)) (fun s e => PySem.W.xl_of s (Bool.and_eq_true_iff.mp e).1) PySem.W.XL.keeps (by rfl) (by rfl) (by rfl) (fun s e => PySem.W.recFacts_of (Bool.and_eq_true_iff.mp e).2) (by rfl) (by assumption) (by decide +kernel) ⟨rfl, rfl, rfl, rfl, rfl, by decide +kernel⟩ ?hw ?hc
  (case hw => w_witness2)
  k_fill
  refine Pk.walk (l := PySem.Challenge.rw_pebbletoll_k01_errors_apart) rfl rfl (fun w h Y => PySem.W.kIn_of Y) ?F
  case F =>
    intro w mg fa h KX G hmg
    refine' Pk.all_mk KX G hmg ?ac_TollError ?ac_BadWeb ?ac_NoPlace ?ac_NoRoad ?ac_BadLaying ?ac_BadWish ?ac_TooMany ?ac_NoNumber ?ac_NoWorst ?ac_NoDeed ?ac_BadStep ?ac_BadText ?xl_TollError ?xm_TollError ?xt_TollError ?xg_TollError ?xh_TollError ?xo_TollError ?xi_TollError ?xl_BadWeb ?xm_BadWeb ?xt_BadWeb ?xg_BadWeb ?xh_BadWeb ?xo_BadWeb ?xi_BadWeb ?xe_BadWeb ?xf_BadWeb ?xj_BadWeb ?xp_BadWeb ?xl_NoPlace ?xm_NoPlace ?xt_NoPlace ?xg_NoPlace ?xh_NoPlace ?xo_NoPlace ?xi_NoPlace ?xe_NoPlace ?xf_NoPlace ?xj_NoPlace ?xp_NoPlace ?xl_NoRoad ?xm_NoRoad ?xt_NoRoad ?xg_NoRoad ?xh_NoRoad ?xo_NoRoad ?xi_NoRoad ?xe_NoRoad ?xf_NoRoad ?xj_NoRoad ?xp_NoRoad ?xl_BadLaying ?xm_BadLaying ?xt_BadLaying ?xg_BadLaying ?xh_BadLaying ?xo_BadLaying ?xi_BadLaying ?xe_BadLaying ?xf_BadLaying ?xj_BadLaying ?xp_BadLaying ?xl_BadWish ?xm_BadWish ?xt_BadWish ?xg_BadWish ?xh_BadWish ?xo_BadWish ?xi_BadWish ?xe_BadWish ?xf_BadWish ?xj_BadWish ?xp_BadWish ?xl_TooMany ?xm_TooMany ?xt_TooMany ?xg_TooMany ?xh_TooMany ?xo_TooMany ?xi_TooMany ?xe_TooMany ?xf_TooMany ?xj_TooMany ?xp_TooMany ?xl_NoNumber ?xm_NoNumber ?xt_NoNumber ?xg_NoNumber ?xh_NoNumber ?xo_NoNumber ?xi_NoNumber ?xe_NoNumber ?xf_NoNumber ?xj_NoNumber ?xp_NoNumber ?xl_NoWorst ?xm_NoWorst ?xt_NoWorst ?xg_NoWorst ?xh_NoWorst ?xo_NoWorst ?xi_NoWorst ?xe_NoWorst ?xf_NoWorst ?xj_NoWorst ?xp_NoWorst ?xl_NoDeed ?xm_NoDeed ?xt_NoDeed ?xg_NoDeed ?xh_NoDeed ?xo_NoDeed ?xi_NoDeed ?xe_NoDeed ?xf_NoDeed ?xj_NoDeed ?xp_NoDeed ?xl_BadStep ?xm_BadStep ?xt_BadStep ?xg_BadStep ?xh_BadStep ?xo_BadStep ?xi_BadStep ?xe_BadStep ?xf_BadStep ?xj_BadStep ?xp_BadStep ?xl_BadText ?xm_BadText ?xt_BadText ?xg_BadText ?xh_BadText ?xo_BadText ?xi_BadText ?xe_BadText ?xf_BadText ?xj_BadText ?xp_BadText ?bg_TollError ?br_TollError ?bf_TollError ?ss_BadStep ?st_BadStep ?ss_BadText ?st_BadText ?xgs ?xtk ?xnd ?a_law_marks ?l_law_marks ?c_law_marks ?k_law_marks ?a_BadStep___init__ ?i_BadStep___init__ ?l_BadStep___init__ ?c_BadStep___init__ ?k_BadStep___init__ ?a_BadText___init__ ?i_BadText___init__ ?l_BadText___init__ ?c_BadText___init__ ?k_BadText___init__ ?a_law_raised ?l_law_raised ?c_law_raised ?k_law_raised ?a_law_caught ?l_law_caught ?c_law_caught ?k_law_caught ?a_law_whole ?l_law_whole ?c_law_whole ?k_law_whole ?a_law ?l_law ?c_law ?k_law ?z_range ?z_isinstance ?z_int ?z_bool ?z_list ?z_ValueError
    (case ac_TollError => k_is)
    (case ac_BadWeb => k_is)
    (case ac_NoPlace => k_is)
    (case ac_NoRoad => k_is)
    (case ac_BadLaying => k_is)
    (case ac_BadWish => k_is)
    (case ac_TooMany => k_is)
    (case ac_NoNumber => k_is)
    (case ac_NoWorst => k_is)
    (case ac_NoDeed => k_is)
    (case ac_BadStep => k_is)
    (case ac_BadText => k_is)
    (case xl_TollError => k_is)
    (case xm_TollError => rfl)
    (case xt_TollError => k_is)
    (case xg_TollError => k_is)
    (case xh_TollError => k_is)
    (case xo_TollError => k_is)
    (case xi_TollError => k_is)
    (case xl_BadWeb => k_is)
    (case xm_BadWeb => rfl)
    (case xt_BadWeb => k_is)
    (case xg_BadWeb => k_is)
    (case xh_BadWeb => k_is)
    (case xo_BadWeb => k_is)
    (case xi_BadWeb => k_is)
    (case xe_BadWeb => rfl)
    (case xf_BadWeb => kernel_rfl)
    (case xj_BadWeb => k_is)
    (case xp_BadWeb => kernel_rfl)
    (case xl_NoPlace => k_is)
    (case xm_NoPlace => rfl)
    (case xt_NoPlace => k_is)
    (case xg_NoPlace => k_is)
    (case xh_NoPlace => k_is)
    (case xo_NoPlace => k_is)
    (case xi_NoPlace => k_is)
    (case xe_NoPlace => rfl)
    (case xf_NoPlace => kernel_rfl)
    (case xj_NoPlace => k_is)
    (case xp_NoPlace => kernel_rfl)
    (case xl_NoRoad => k_is)
    (case xm_NoRoad => rfl)
    (case xt_NoRoad => k_is)
    (case xg_NoRoad => k_is)
    (case xh_NoRoad => k_is)
    (case xo_NoRoad => k_is)
    (case xi_NoRoad => k_is)
    (case xe_NoRoad => rfl)
    (case xf_NoRoad => kernel_rfl)
    (case xj_NoRoad => k_is)
    (case xp_NoRoad => kernel_rfl)
    (case xl_BadLaying => k_is)
    (case xm_BadLaying => rfl)
    (case xt_BadLaying => k_is)
    (case xg_BadLaying => k_is)
    (case xh_BadLaying => k_is)
    (case xo_BadLaying => k_is)
    (case xi_BadLaying => k_is)
    (case xe_BadLaying => rfl)
    (case xf_BadLaying => kernel_rfl)
    (case xj_BadLaying => k_is)
    (case xp_BadLaying => kernel_rfl)
    (case xl_BadWish => k_is)
    (case xm_BadWish => rfl)
    (case xt_BadWish => k_is)
    (case xg_BadWish => k_is)
    (case xh_BadWish => k_is)
    (case xo_BadWish => k_is)
    (case xi_BadWish => k_is)
    (case xe_BadWish => rfl)
    (case xf_BadWish => kernel_rfl)
    (case xj_BadWish => k_is)
    (case xp_BadWish => kernel_rfl)
    (case xl_TooMany => k_is)
    (case xm_TooMany => rfl)
    (case xt_TooMany => k_is)
    (case xg_TooMany => k_is)
    (case xh_TooMany => k_is)
    (case xo_TooMany => k_is)
    (case xi_TooMany => k_is)
    (case xe_TooMany => rfl)
    (case xf_TooMany => kernel_rfl)
    (case xj_TooMany => k_is)
    (case xp_TooMany => kernel_rfl)
    (case xl_NoNumber => k_is)
    (case xm_NoNumber => rfl)
    (case xt_NoNumber => k_is)
    (case xg_NoNumber => k_is)
    (case xh_NoNumber => k_is)
    (case xo_NoNumber => k_is)
    (case xi_NoNumber => k_is)
    (case xe_NoNumber => rfl)
    (case xf_NoNumber => kernel_rfl)
    (case xj_NoNumber => k_is)
    (case xp_NoNumber => kernel_rfl)
    (case xl_NoWorst => k_is)
    (case xm_NoWorst => rfl)
    (case xt_NoWorst => k_is)
    (case xg_NoWorst => k_is)
    (case xh_NoWorst => k_is)
    (case xo_NoWorst => k_is)
    (case xi_NoWorst => k_is)
    (case xe_NoWorst => rfl)
    (case xf_NoWorst => kernel_rfl)
    (case xj_NoWorst => k_is)
    (case xp_NoWorst => kernel_rfl)
    (case xl_NoDeed => k_is)
    (case xm_NoDeed => rfl)
    (case xt_NoDeed => k_is)
    (case xg_NoDeed => k_is)
    (case xh_NoDeed => k_is)
    (case xo_NoDeed => k_is)
    (case xi_NoDeed => k_is)
    (case xe_NoDeed => rfl)
    (case xf_NoDeed => kernel_rfl)
    (case xj_NoDeed => k_is)
    (case xp_NoDeed => kernel_rfl)
    (case xl_BadStep => k_is)
    (case xm_BadStep => rfl)
    (case xt_BadStep => k_is)
    (case xg_BadStep => k_is)
    (case xh_BadStep => k_is)
    (case xo_BadStep => k_is)
    (case xi_BadStep => k_is)
    (case xe_BadStep => rfl)
    (case xf_BadStep => kernel_rfl)
    (case xj_BadStep => k_is)
    (case xp_BadStep => kernel_rfl)
    (case xl_BadText => k_is)
    (case xm_BadText => rfl)
    (case xt_BadText => k_is)
    (case xg_BadText => k_is)
    (case xh_BadText => k_is)
    (case xo_BadText => k_is)
    (case xi_BadText => k_is)
    (case xe_BadText => rfl)
    (case xf_BadText => kernel_rfl)
    (case xj_BadText => k_is)
    (case xp_BadText => kernel_rfl)
    (case bg_TollError => k_is)
    (case br_TollError => k_is)
    (case bf_TollError => k_is)
    (case ss_BadStep => k_is)
    (case st_BadStep => k_is)
    (case ss_BadText => k_is)
    (case st_BadText => k_is)
    (case xgs => k_is)
    (case xtk => k_is)
    (case xnd => decide)
    (case a_law_marks => k_is)
    (case l_law_marks => k_is)
    (case c_law_marks => k_is)
    (case k_law_marks => k_is)
    (case a_BadStep___init__ => k_is)
    (case i_BadStep___init__ => k_is)
    (case l_BadStep___init__ => k_is)
    (case c_BadStep___init__ => k_is)
    (case k_BadStep___init__ => k_is)
    (case a_BadText___init__ => k_is)
    (case i_BadText___init__ => k_is)
    (case l_BadText___init__ => k_is)
    (case c_BadText___init__ => k_is)
    (case k_BadText___init__ => k_is)
    (case a_law_raised => k_is)
    (case l_law_raised => k_is)
    (case c_law_raised => k_is)
    (case k_law_raised => k_is)
    (case a_law_caught => k_is)
    (case l_law_caught => k_is)
    (case c_law_caught => k_is)
    (case k_law_caught => k_is)
    (case a_law_whole => k_is)
    (case l_law_whole => k_is)
    (case c_law_whole => k_is)
    (case k_law_whole => k_is)
    (case a_law => k_is)
    (case l_law => k_is)
    (case c_law => k_is)
    (case k_law => k_is)
    (case z_range => k_is)
    (case z_isinstance => k_is)
    (case z_int => k_is)
    (case z_bool => k_is)
    (case z_list => k_is)
    (case z_ValueError => k_is)
#print axioms PySem.Challenge.cw_pebbletoll_k01_errors_apart_holds
