import PyProof.Rows.All
import Wide.All
import OpenK.AllK
import Wide.FinOn
import Lean
import PyProof.EqAt
import PyProof.EqKinds
import PyProof.TupleCall
import PyProof.P3Eq
import PyProof.NeData
import PyProof.FitsBits
import PyProof.ZipIter
import PyProof.TupleIter
import KE.KRevIter
import PyProof.TupleOfGen
import PyProof.ListRange
import KE.KIsAll
import PyProof.ExcArgsOwn
import OpenK.KDescr
import PyProof.StationsW
import PyProof.ExcBaseAll.ValueError
import OpenK.KOwn
import PyProof.RulesAs
import PyProof.RulesDel
import PyProof.Rows.SortWalk
import PyProof.CompUse
import KE.KDictSum
import PyProof.WalkInts
import KE.KSortTup
import PyProof.Rows.TupDisplay
import KE.KIntText
import PyProof.JoinWalk
import PyProof.ExcInit
import PyProof.ExcClass2
import PySem.Challenge.RW_pebbletoll_k15_the_first_bad_step
set_option Elab.async false
set_option linter.all false
set_option maxRecDepth 100000
namespace Hd
open PySem
def top (i : Nat) : Stmt := PySem.Challenge.pw_pebbletoll_k15_the_first_bad_step.main.body.getD i (.Pass ⟨0, 0, 0, 0⟩)
def inC (s : Stmt) (j : Nat) : Stmt := match s with
  | .ClassDef _ _ _ b _ _ _ _ _ _ _ => b.getD j (.Pass ⟨0, 0, 0, 0⟩)
  | _ => .Pass ⟨0, 0, 0, 0⟩
def kA (s : Stmt) : Arguments := match s with
  | .FunctionDef _ a _ _ _ _ _ _ _ _ => a
  | _ => { posonlyargs := [], args := [], vararg := none, kwonlyargs := [], kw_defaults := [], kwarg := none, defaults := [] }
def kB (s : Stmt) : List Stmt := match s with
  | .FunctionDef _ _ b _ _ _ _ _ _ _ => b
  | _ => []
def kS (s : Stmt) : Scope := match s with
  | .FunctionDef _ _ _ _ _ _ sc _ _ _ => sc
  | _ => { kind := .function, names := [], isGenerator := false, isCoroutine := false }
open PySem.W PySem.Calls PyProof.Rows
def en (P : Params) (s : Str) (t : Tok) (v : Value) : DictEntry := .mk (PyData.keyHash P s) (.str s t) v
def cO (a b : Str) (t1 t2 t3 : Tok) (i1 i2 i3 i4 i5 : Int) (r1 : Value) (b1 : Bool) (i6 : Int) (r2 v1 v2 v3 r3 : Value) (i7 i8 : Int) (t4 : Tok) : Obj := .mk (.type "code") none (.fields #[.str a t1, .str b t2, .str "/claim/cut.py" t3, .int i1 0, .int i2 0, .int i3 0, .int i4 0, .int i5 0, r1, .bool b1, .int i6 0, r2, v1, v2, v3, r3, .int i7 0, .int i8 0, .str "/claim/cut.py" t4]) #[]
def fR (a b : Str) (s : Stmt) : Obj := .mk .none none (.func (.mk a b (kA s) (.stmts (kB s)) (kS s) 0 [] .none .none .none .none none .none .none 0)) #[]
def fO (a b : Str) (s : Stmt) (pm cd : Value) : Obj := .mk (.type "function") none (.func (PySem.W.fnOf a b (kA s) (kB s) (kS s) .none .none .none pm none cd .none)) #[]
def tO (xs : Array Value) : Obj := .mk (.type "tuple") none (.seq xs 0) #[]
def x0 : Obj := (tO #[])
def x1 : Obj := (.mk .none none (.fields #[]) #[])
def x2 : Obj := (cO "<module>" "<module>" 182 183 184 1 0 0 0 0 (.ref 11) false 181 (.ref 12) .none .none .none .none 185 1 186)
def x3 : Obj := (.mk (.type "frame") none .plain #[(some (.ref 13)), (some (.ref 3)), (some (.ref 3)), none, (some (.str "__main__" 164)), none, (some (.ref 0))])
noncomputable def ha (P : Params) : Heap := .mk (.mk (boot_o_0 P :: boot_o_1 P :: boot_o_2 P :: boot_o_3 P :: boot_o_4 P :: boot_o_5 P :: boot_o_6 P :: boot_o_7 P :: boot_o_8 P :: boot_o_9 P :: boot_o_10 P :: x0 :: x1 :: x2 :: x3 :: [])) (.mk [] [] [] 0 [] [] false #[] [] 0 false false false 0 [2000, 10, 10] false 0 true [] [] 0 false)
noncomputable def hb (P : Params) : Heap := .mk (.mk (boot_o_0 P :: boot_o_1 P :: boot_o_2 P :: boot_o_3 P :: boot_o_4 P :: boot_o_5 P :: boot_o_6 P :: boot_o_7 P :: boot_o_8 P :: boot_o_9 P :: boot_o_10 P :: x0 :: x1 :: x2 :: x3 :: [])) (.mk [] [] [] 0 [] [] false #[] [] 0 false false false 0 [2000, 10, 10] false 0 true [] [] 0 false)
abbrev st0 : List Stmt := [top 0, top 1, top 2, top 3, top 4, top 5, top 6, top 7, top 8, top 9, top 10, top 11, top 12, top 13]
abbrev st1 : List Stmt := [top 14, top 15, top 16, top 17, top 18, top 19, top 20, top 21, top 22, top 23, top 24, top 25, top 26, top 27, top 28, top 29, top 30, top 31, top 32, top 33, top 34, top 35, top 36, top 37, top 38, top 39, top 40, top 41, top 42, top 43, top 44, top 45, top 46, top 47, top 48]
abbrev bb : List Stmt := st0 ++ (st1 ++ ([]))
def env : Env := { scope := PySem.Challenge.pw_pebbletoll_k15_the_first_bad_step.main.scope, locals := mainNs, globals := mainNs, cells := [], code := (.ref 13), frame := some 14 }
abbrev cE : Code := .body bb env
theorem runa (w : World) (os : OsState) : topGo treeTable PySem.Challenge.pw_pebbletoll_k15_the_first_bad_step w 11 (some (.ref 6)) 12 (Shared.mk (boot_heap w.params) (.mk []) boot_drawn boot_toks os) (topStub PySem.Challenge.pw_pebbletoll_k15_the_first_bad_step) = some ((Shared.mk (ha w.params) (.mk []) (.mk 0 0 0 0) 187 os), Thread.mk (denote treeTable cE) cE (.mk 0 0 0 0) [topFrame (.mk 0 0 0 0)]) := by kernel_rfl
theorem runb (w : World) (os : OsState) : segRun treeTable PySem.Challenge.pw_pebbletoll_k15_the_first_bad_step w 11 (some (.ref 6)) 1 1 (Shared.mk (ha w.params) (.mk []) (.mk 0 0 0 0) 187 os) (blockOf bb env cE (.mk 0 0 0 0) [topFrame (.mk 0 0 0 0)]) = some (.next, (Shared.mk (hb w.params) (.mk []) (.mk 0 0 0 0) 187 os), cE, (.mk 0 0 0 0)) := by kernel_rfl
def x4 (P : Params) : Obj := (.mk (.type "dict") none (.dict #[(en P "__name__" 165 (.str "pebbletoll.webs" 344)), (en P "__doc__" 166 .none), (en P "__package__" 167 .none), (en P "__loader__" 168 (.builtin "__main__.__loader__#opaque")), (en P "__spec__" 169 .none), (en P "__annotations__" 170 (.ref 6)), (en P "__builtins__" 171 (.ref 4)), (en P "__file__" 173 (.str "/claim/cut.py" 172)), (en P "__cached__" 174 .none), (en P "TollError" 206 (.ref 24)), (en P "BadWeb" 222 (.ref 37)), (en P "NoPlace" 238 (.ref 49)), (en P "NoRoad" 254 (.ref 61)), (en P "BadLaying" 270 (.ref 73)), (en P "BadWish" 286 (.ref 85)), (en P "TooMany" 302 (.ref 97)), (en P "NoNumber" 318 (.ref 109)), (en P "BadStep" 343 (.ref 128)), (en P "MOST_PLACES" 347 (.int 24 346)), (en P "LEAST_TOLL" 349 (.int 2 348)), (en P "MOST_TOLL" 351 (.int 1000000 350))] 21) #[])
def x5 : Obj := (.mk .none none (.fields #[(.int 2 0), (.int 0 0), (.ref 20), (.int 4 0), (.int 0 0), (.ref 33), (.int 6 0), (.int 0 0), (.ref 45), (.int 8 0), (.int 0 0), (.ref 57), (.int 10 0), (.int 0 0), (.ref 69), (.int 12 0), (.int 0 0), (.ref 81), (.int 14 0), (.int 0 0), (.ref 93), (.int 16 0), (.int 0 0), (.ref 105), (.int 18 0), (.int 0 0), (.ref 117)]) #[])
def x6 : Obj := (tO #[(.type "ValueError")])
def x7 : Obj := (.mk (.type "builtin_function_or_method") none (.fields #[(.builtin "type.__prepare__"), (.type "type")]) #[])
def x8 (P : Params) : Obj := (.mk (.type "dict") none (.dict #[(en P "__module__" 196 (.str "pebbletoll.errors" 187)), (en P "__qualname__" 198 (.str "TollError" 197)), (en P "__firstlineno__" 200 (.int 2 199)), (en P "__static_attributes__" 201 (.ref 22))] 4) #[])
def x9 : Obj := (cO "TollError" "TollError" 191 192 193 2 0 0 0 0 (.ref 18) false 181 (.ref 19) .none .none .none .none 194 2 195)
def x10 : Obj := (.mk (.type "frame") none .plain #[(some (.ref 20)), (some (.ref 3)), (some (.ref 17)), none, (some (.str "pebbletoll.errors" 187)), none, (some (.ref 0))])
def x11 (P : Params) : Obj := (.mk (.type "dict") none (.dict #[(en P "__module__" 196 (.str "pebbletoll.errors" 187)), (en P "__firstlineno__" 200 (.int 2 199)), (en P "__static_attributes__" 201 (.ref 22)), (en P "__weakref__" 203 (.ref 25)), (en P "__doc__" 204 .none)] 3) #[])
def x12 : Obj := (.mk (.type "type") none (.cls (.mk "TollError" [(.type "ValueError")] [(.ref 24), (.type "ValueError"), (.type "Exception"), (.type "BaseException"), (.type "object")] 23 "TollError" true [] [(.ref 37), (.ref 49), (.ref 61), (.ref 73), (.ref 85), (.ref 97), (.ref 109), (.ref 128)] false none false)) #[(some (.ref 15)), none, (some (.str "TollError" 189)), (some (.str "TollError" 197)), (some (.builtin "ValueError.__new__")), (some (.bool true))])
def x13 : Obj := (.mk (.type "getset_descriptor") none (.fields #[(.str "__weakref__" 202), (.ref 24), (.builtin "ExceptionGroup.__weakref__"), .none]) #[])
def x14 : Obj := (.mk (.type "super") none (.fields #[(.ref 24), (.ref 24), (.ref 24)]) #[])
def x15 : Obj := (.mk (.type "builtin_function_or_method") none (.fields #[(.builtin "object.__init_subclass__"), (.ref 24)]) #[])
def x16 : Obj := (tO #[(.ref 24)])
def x17 (P : Params) : Obj := (.mk (.type "dict") none (.dict #[(en P "__module__" 214 (.str "pebbletoll.errors" 187)), (en P "__qualname__" 216 (.str "BadWeb" 215)), (en P "__firstlineno__" 218 (.int 4 217)), (en P "__static_attributes__" 219 (.ref 35))] 4) #[])
def x18 : Obj := (cO "BadWeb" "BadWeb" 209 210 211 4 0 0 0 0 (.ref 31) false 181 (.ref 32) .none .none .none .none 212 4 213)
def x19 : Obj := (.mk (.type "frame") none .plain #[(some (.ref 33)), (some (.ref 3)), (some (.ref 30)), none, (some (.str "pebbletoll.errors" 187)), none, (some (.ref 0))])
def x20 (P : Params) : Obj := (.mk (.type "dict") none (.dict #[(en P "__module__" 214 (.str "pebbletoll.errors" 187)), (en P "__firstlineno__" 218 (.int 4 217)), (en P "__static_attributes__" 219 (.ref 35)), (en P "__doc__" 220 .none)] 2) #[])
def x21 : Obj := (.mk (.type "type") none (.cls (.mk "BadWeb" [(.ref 24)] [(.ref 37), (.ref 24), (.type "ValueError"), (.type "Exception"), (.type "BaseException"), (.type "object")] 36 "BadWeb" true [] [] false none false)) #[(some (.ref 28)), none, (some (.str "BadWeb" 207)), (some (.str "BadWeb" 215)), (some (.builtin "ValueError.__new__")), (some (.bool true))])
def x22 : Obj := (.mk (.type "super") none (.fields #[(.ref 37), (.ref 37), (.ref 37)]) #[])
def x23 : Obj := (.mk (.type "builtin_function_or_method") none (.fields #[(.builtin "object.__init_subclass__"), (.ref 37)]) #[])
def x24 (P : Params) : Obj := (.mk (.type "dict") none (.dict #[(en P "__module__" 230 (.str "pebbletoll.errors" 187)), (en P "__qualname__" 232 (.str "NoPlace" 231)), (en P "__firstlineno__" 234 (.int 6 233)), (en P "__static_attributes__" 235 (.ref 47))] 4) #[])
def x25 : Obj := (cO "NoPlace" "NoPlace" 225 226 227 6 0 0 0 0 (.ref 43) false 181 (.ref 44) .none .none .none .none 228 6 229)
def x26 : Obj := (.mk (.type "frame") none .plain #[(some (.ref 45)), (some (.ref 3)), (some (.ref 42)), none, (some (.str "pebbletoll.errors" 187)), none, (some (.ref 0))])
def x27 (P : Params) : Obj := (.mk (.type "dict") none (.dict #[(en P "__module__" 230 (.str "pebbletoll.errors" 187)), (en P "__firstlineno__" 234 (.int 6 233)), (en P "__static_attributes__" 235 (.ref 47)), (en P "__doc__" 236 .none)] 2) #[])
def x28 : Obj := (.mk (.type "type") none (.cls (.mk "NoPlace" [(.ref 24)] [(.ref 49), (.ref 24), (.type "ValueError"), (.type "Exception"), (.type "BaseException"), (.type "object")] 48 "NoPlace" true [] [] false none false)) #[(some (.ref 40)), none, (some (.str "NoPlace" 223)), (some (.str "NoPlace" 231)), (some (.builtin "ValueError.__new__")), (some (.bool true))])
def x29 : Obj := (.mk (.type "super") none (.fields #[(.ref 49), (.ref 49), (.ref 49)]) #[])
def x30 : Obj := (.mk (.type "builtin_function_or_method") none (.fields #[(.builtin "object.__init_subclass__"), (.ref 49)]) #[])
def x31 (P : Params) : Obj := (.mk (.type "dict") none (.dict #[(en P "__module__" 246 (.str "pebbletoll.errors" 187)), (en P "__qualname__" 248 (.str "NoRoad" 247)), (en P "__firstlineno__" 250 (.int 8 249)), (en P "__static_attributes__" 251 (.ref 59))] 4) #[])
def x32 : Obj := (cO "NoRoad" "NoRoad" 241 242 243 8 0 0 0 0 (.ref 55) false 181 (.ref 56) .none .none .none .none 244 8 245)
def x33 : Obj := (.mk (.type "frame") none .plain #[(some (.ref 57)), (some (.ref 3)), (some (.ref 54)), none, (some (.str "pebbletoll.errors" 187)), none, (some (.ref 0))])
def x34 (P : Params) : Obj := (.mk (.type "dict") none (.dict #[(en P "__module__" 246 (.str "pebbletoll.errors" 187)), (en P "__firstlineno__" 250 (.int 8 249)), (en P "__static_attributes__" 251 (.ref 59)), (en P "__doc__" 252 .none)] 2) #[])
def x35 : Obj := (.mk (.type "type") none (.cls (.mk "NoRoad" [(.ref 24)] [(.ref 61), (.ref 24), (.type "ValueError"), (.type "Exception"), (.type "BaseException"), (.type "object")] 60 "NoRoad" true [] [] false none false)) #[(some (.ref 52)), none, (some (.str "NoRoad" 239)), (some (.str "NoRoad" 247)), (some (.builtin "ValueError.__new__")), (some (.bool true))])
def x36 : Obj := (.mk (.type "super") none (.fields #[(.ref 61), (.ref 61), (.ref 61)]) #[])
def x37 : Obj := (.mk (.type "builtin_function_or_method") none (.fields #[(.builtin "object.__init_subclass__"), (.ref 61)]) #[])
def x38 (P : Params) : Obj := (.mk (.type "dict") none (.dict #[(en P "__module__" 262 (.str "pebbletoll.errors" 187)), (en P "__qualname__" 264 (.str "BadLaying" 263)), (en P "__firstlineno__" 266 (.int 10 265)), (en P "__static_attributes__" 267 (.ref 71))] 4) #[])
def x39 : Obj := (cO "BadLaying" "BadLaying" 257 258 259 10 0 0 0 0 (.ref 67) false 181 (.ref 68) .none .none .none .none 260 10 261)
def x40 : Obj := (.mk (.type "frame") none .plain #[(some (.ref 69)), (some (.ref 3)), (some (.ref 66)), none, (some (.str "pebbletoll.errors" 187)), none, (some (.ref 0))])
def x41 (P : Params) : Obj := (.mk (.type "dict") none (.dict #[(en P "__module__" 262 (.str "pebbletoll.errors" 187)), (en P "__firstlineno__" 266 (.int 10 265)), (en P "__static_attributes__" 267 (.ref 71)), (en P "__doc__" 268 .none)] 2) #[])
def x42 : Obj := (.mk (.type "type") none (.cls (.mk "BadLaying" [(.ref 24)] [(.ref 73), (.ref 24), (.type "ValueError"), (.type "Exception"), (.type "BaseException"), (.type "object")] 72 "BadLaying" true [] [] false none false)) #[(some (.ref 64)), none, (some (.str "BadLaying" 255)), (some (.str "BadLaying" 263)), (some (.builtin "ValueError.__new__")), (some (.bool true))])
def x43 : Obj := (.mk (.type "super") none (.fields #[(.ref 73), (.ref 73), (.ref 73)]) #[])
def x44 : Obj := (.mk (.type "builtin_function_or_method") none (.fields #[(.builtin "object.__init_subclass__"), (.ref 73)]) #[])
def x45 (P : Params) : Obj := (.mk (.type "dict") none (.dict #[(en P "__module__" 278 (.str "pebbletoll.errors" 187)), (en P "__qualname__" 280 (.str "BadWish" 279)), (en P "__firstlineno__" 282 (.int 12 281)), (en P "__static_attributes__" 283 (.ref 83))] 4) #[])
def x46 : Obj := (cO "BadWish" "BadWish" 273 274 275 12 0 0 0 0 (.ref 79) false 181 (.ref 80) .none .none .none .none 276 12 277)
def x47 : Obj := (.mk (.type "frame") none .plain #[(some (.ref 81)), (some (.ref 3)), (some (.ref 78)), none, (some (.str "pebbletoll.errors" 187)), none, (some (.ref 0))])
def x48 (P : Params) : Obj := (.mk (.type "dict") none (.dict #[(en P "__module__" 278 (.str "pebbletoll.errors" 187)), (en P "__firstlineno__" 282 (.int 12 281)), (en P "__static_attributes__" 283 (.ref 83)), (en P "__doc__" 284 .none)] 2) #[])
def x49 : Obj := (.mk (.type "type") none (.cls (.mk "BadWish" [(.ref 24)] [(.ref 85), (.ref 24), (.type "ValueError"), (.type "Exception"), (.type "BaseException"), (.type "object")] 84 "BadWish" true [] [] false none false)) #[(some (.ref 76)), none, (some (.str "BadWish" 271)), (some (.str "BadWish" 279)), (some (.builtin "ValueError.__new__")), (some (.bool true))])
def x50 : Obj := (.mk (.type "super") none (.fields #[(.ref 85), (.ref 85), (.ref 85)]) #[])
def x51 : Obj := (.mk (.type "builtin_function_or_method") none (.fields #[(.builtin "object.__init_subclass__"), (.ref 85)]) #[])
def x52 (P : Params) : Obj := (.mk (.type "dict") none (.dict #[(en P "__module__" 294 (.str "pebbletoll.errors" 187)), (en P "__qualname__" 296 (.str "TooMany" 295)), (en P "__firstlineno__" 298 (.int 14 297)), (en P "__static_attributes__" 299 (.ref 95))] 4) #[])
def x53 : Obj := (cO "TooMany" "TooMany" 289 290 291 14 0 0 0 0 (.ref 91) false 181 (.ref 92) .none .none .none .none 292 14 293)
def x54 : Obj := (.mk (.type "frame") none .plain #[(some (.ref 93)), (some (.ref 3)), (some (.ref 90)), none, (some (.str "pebbletoll.errors" 187)), none, (some (.ref 0))])
def x55 (P : Params) : Obj := (.mk (.type "dict") none (.dict #[(en P "__module__" 294 (.str "pebbletoll.errors" 187)), (en P "__firstlineno__" 298 (.int 14 297)), (en P "__static_attributes__" 299 (.ref 95)), (en P "__doc__" 300 .none)] 2) #[])
def x56 : Obj := (.mk (.type "type") none (.cls (.mk "TooMany" [(.ref 24)] [(.ref 97), (.ref 24), (.type "ValueError"), (.type "Exception"), (.type "BaseException"), (.type "object")] 96 "TooMany" true [] [] false none false)) #[(some (.ref 88)), none, (some (.str "TooMany" 287)), (some (.str "TooMany" 295)), (some (.builtin "ValueError.__new__")), (some (.bool true))])
def x57 : Obj := (.mk (.type "super") none (.fields #[(.ref 97), (.ref 97), (.ref 97)]) #[])
def x58 : Obj := (.mk (.type "builtin_function_or_method") none (.fields #[(.builtin "object.__init_subclass__"), (.ref 97)]) #[])
def x59 (P : Params) : Obj := (.mk (.type "dict") none (.dict #[(en P "__module__" 310 (.str "pebbletoll.errors" 187)), (en P "__qualname__" 312 (.str "NoNumber" 311)), (en P "__firstlineno__" 314 (.int 16 313)), (en P "__static_attributes__" 315 (.ref 107))] 4) #[])
def x60 : Obj := (cO "NoNumber" "NoNumber" 305 306 307 16 0 0 0 0 (.ref 103) false 181 (.ref 104) .none .none .none .none 308 16 309)
def x61 : Obj := (.mk (.type "frame") none .plain #[(some (.ref 105)), (some (.ref 3)), (some (.ref 102)), none, (some (.str "pebbletoll.errors" 187)), none, (some (.ref 0))])
def x62 (P : Params) : Obj := (.mk (.type "dict") none (.dict #[(en P "__module__" 310 (.str "pebbletoll.errors" 187)), (en P "__firstlineno__" 314 (.int 16 313)), (en P "__static_attributes__" 315 (.ref 107)), (en P "__doc__" 316 .none)] 2) #[])
def x63 : Obj := (.mk (.type "type") none (.cls (.mk "NoNumber" [(.ref 24)] [(.ref 109), (.ref 24), (.type "ValueError"), (.type "Exception"), (.type "BaseException"), (.type "object")] 108 "NoNumber" true [] [] false none false)) #[(some (.ref 100)), none, (some (.str "NoNumber" 303)), (some (.str "NoNumber" 311)), (some (.builtin "ValueError.__new__")), (some (.bool true))])
def x64 : Obj := (.mk (.type "super") none (.fields #[(.ref 109), (.ref 109), (.ref 109)]) #[])
def x65 : Obj := (.mk (.type "builtin_function_or_method") none (.fields #[(.builtin "object.__init_subclass__"), (.ref 109)]) #[])
def x66 (P : Params) : Obj := (.mk (.type "dict") none (.dict #[(en P "__module__" 326 (.str "pebbletoll.errors" 187)), (en P "__qualname__" 328 (.str "BadStep" 327)), (en P "__firstlineno__" 330 (.int 18 329)), (en P "__init__" 338 (.ref 125)), (en P "__static_attributes__" 340 (.ref 126))] 5) #[])
def x67 : Obj := (.mk .none none (.fields #[(.int 20 0), (.int 4 0), (.ref 124)]) #[])
def x68 : Obj := (cO "BadStep" "BadStep" 321 322 323 18 0 0 0 0 (.ref 115) false 181 (.ref 116) .none .none .none .none 324 18 325)
def x69 : Obj := (.mk (.type "frame") none .plain #[(some (.ref 117)), (some (.ref 3)), (some (.ref 114)), none, (some (.str "pebbletoll.errors" 187)), none, (some (.ref 0))])
def x70 : Obj := (tO #[(.str "self" 334), (.str "at" 335)])
def x71 : Obj := (fR "__init__" "BadStep.__init__" (inC (top 9) 0))
def x72 : Obj := (cO "__init__" "BadStep.__init__" 331 332 333 20 2 0 0 3 (.ref 119) true 181 (.ref 120) .none (.ref 121) (.ref 122) (.ref 123) 336 20 337)
def x73 : Obj := (fO "__init__" "BadStep.__init__" (inC (top 9) 0) (.str "pebbletoll.errors" 187) (.ref 124))
def x74 : Obj := (tO #[(.str "at" 339)])
def x75 (P : Params) : Obj := (.mk (.type "dict") none (.dict #[(en P "__module__" 326 (.str "pebbletoll.errors" 187)), (en P "__firstlineno__" 330 (.int 18 329)), (en P "__init__" 338 (.ref 125)), (en P "__static_attributes__" 340 (.ref 126)), (en P "__doc__" 341 .none)] 2) #[])
def x76 : Obj := (.mk (.type "type") none (.cls (.mk "BadStep" [(.ref 24)] [(.ref 128), (.ref 24), (.type "ValueError"), (.type "Exception"), (.type "BaseException"), (.type "object")] 127 "BadStep" true [] [] false none false)) #[(some (.ref 112)), none, (some (.str "BadStep" 319)), (some (.str "BadStep" 327)), (some (.builtin "ValueError.__new__")), (some (.bool true))])
def x77 : Obj := (.mk (.type "super") none (.fields #[(.ref 128), (.ref 128), (.ref 128)]) #[])
def x78 : Obj := (.mk (.type "builtin_function_or_method") none (.fields #[(.builtin "object.__init_subclass__"), (.ref 128)]) #[])
noncomputable def h0 (P : Params) : Heap := .mk (.mk (boot_o_0 P :: boot_o_1 P :: boot_o_2 P :: x4 P :: boot_o_4 P :: boot_o_5 P :: boot_o_6 P :: boot_o_7 P :: boot_o_8 P :: boot_o_9 P :: boot_o_10 P :: x0 :: x5 :: x2 :: x3 :: x6 :: x7 :: x8 P :: x0 :: x1 :: x9 :: x10 :: x0 :: x11 P :: x12 :: x13 :: x14 :: x15 :: x16 :: x7 :: x17 P :: x0 :: x1 :: x18 :: x19 :: x0 :: x20 P :: x21 :: x22 :: x23 :: x16 :: x7 :: x24 P :: x0 :: x1 :: x25 :: x26 :: x0 :: x27 P :: x28 :: x29 :: x30 :: x16 :: x7 :: x31 P :: x0 :: x1 :: x32 :: x33 :: x0 :: x34 P :: x35 :: x36 :: x37 :: x16 :: x7 :: x38 P :: x0 :: x1 :: x39 :: x40 :: x0 :: x41 P :: x42 :: x43 :: x44 :: x16 :: x7 :: x45 P :: x0 :: x1 :: x46 :: x47 :: x0 :: x48 P :: x49 :: x50 :: x51 :: x16 :: x7 :: x52 P :: x0 :: x1 :: x53 :: x54 :: x0 :: x55 P :: x56 :: x57 :: x58 :: x16 :: x7 :: x59 P :: x0 :: x1 :: x60 :: x61 :: x0 :: x62 P :: x63 :: x64 :: x65 :: x16 :: x7 :: x66 P :: x0 :: x67 :: x68 :: x69 :: x0 :: x1 :: x70 :: x0 :: x71 :: x72 :: x73 :: x74 :: x75 P :: x76 :: x77 :: x78 :: [])) (.mk [] [] [] 0 [] [] false #[] [] 0 false false false 0 [2000, 10, 10] false 0 true [] [] 0 false)
theorem run0 (w : World) (os : OsState) : segRun treeTable PySem.Challenge.pw_pebbletoll_k15_the_first_bad_step w 11 (some (.ref 6)) 1 1968 (Shared.mk (hb w.params) (.mk []) (.mk 0 0 0 0) 187 os) (piecesOf st0 env cE (.mk 0 0 0 0) [topFrame (.mk 0 0 0 0)]) = some (.next, (Shared.mk (h0 w.params) (.mk []) (.mk 0 0 0 0) 352 os), cE, (.mk 26 0 26 9)) := by kernel_rfl
def x79 (P : Params) : Obj := (.mk (.type "dict") none (.dict #[(en P "__name__" 165 (.str "law_pebbletoll_k15_the_first_bad_step" 537)), (en P "__doc__" 166 .none), (en P "__package__" 167 .none), (en P "__loader__" 168 (.builtin "__main__.__loader__#opaque")), (en P "__spec__" 169 .none), (en P "__annotations__" 170 (.ref 6)), (en P "__builtins__" 171 (.ref 4)), (en P "__file__" 173 (.str "/claim/cut.py" 172)), (en P "__cached__" 174 .none), (en P "TollError" 206 (.ref 24)), (en P "BadWeb" 222 (.ref 37)), (en P "NoPlace" 238 (.ref 49)), (en P "NoRoad" 254 (.ref 61)), (en P "BadLaying" 270 (.ref 73)), (en P "BadWish" 286 (.ref 85)), (en P "TooMany" 302 (.ref 97)), (en P "NoNumber" 318 (.ref 109)), (en P "BadStep" 343 (.ref 128)), (en P "MOST_PLACES" 347 (.int 24 346)), (en P "LEAST_TOLL" 349 (.int 2 348)), (en P "MOST_TOLL" 351 (.int 1000000 350)), (en P "Web" 379 (.ref 145)), (en P "toll" 392 (.ref 156)), (en P "neighbours" 400 (.ref 163)), (en P "check_place" 408 (.ref 170)), (en P "is_place" 416 (.ref 177)), (en P "check_counts" 424 (.ref 184)), (en P "check_ends" 432 (.ref 191)), (en P "check_tolls" 440 (.ref 198)), (en P "check_joined" 452 (.ref 205)), (en P "other_ends" 462 (.ref 212)), (en P "laying_of" 472 (.ref 219)), (en P "is_filled" 478 (.ref 224)), (en P "walked" 489 (.ref 231)), (en P "layings" 501 (.ref 238)), (en P "can_be_done" 510 (.ref 245)), (en P "is_step" 518 (.ref 252)), (en P "taken" 526 (.ref 259)), (en P "behind" 536 (.ref 266)), (en P "_law_cell" 546 (.ref 273)), (en P "_law_last" 553 (.ref 280)), (en P "_law_row" 567 (.ref 287)), (en P "_law_tolls" 576 (.ref 294)), (en P "_law_roads" 595 (.ref 301)), (en P "_law_amounts" 606 (.ref 308)), (en P "_law_price" 619 (.ref 315)), (en P "_law_whole" 626 (.ref 322)), (en P "_law_kind" 634 (.ref 329)), (en P "_law_told" 646 (.ref 336)), (en P "_law_odd" 663 (.ref 343)), (en P "_law_can" 676 (.ref 350)), (en P "_law_steps" 699 (.ref 357)), (en P "law" 718 (.ref 364))] 53) #[])
def x80 : Obj := (.mk .none none (.fields #[(.int 2 0), (.int 0 0), (.ref 20), (.int 4 0), (.int 0 0), (.ref 33), (.int 6 0), (.int 0 0), (.ref 45), (.int 8 0), (.int 0 0), (.ref 57), (.int 10 0), (.int 0 0), (.ref 69), (.int 12 0), (.int 0 0), (.ref 81), (.int 14 0), (.int 0 0), (.ref 93), (.int 16 0), (.int 0 0), (.ref 105), (.int 18 0), (.int 0 0), (.ref 117), (.int 27 0), (.int 0 0), (.ref 136), (.int 38 0), (.int 0 0), (.ref 155), (.int 47 0), (.int 0 0), (.ref 162), (.int 50 0), (.int 0 0), (.ref 169), (.int 53 0), (.int 0 0), (.ref 176), (.int 55 0), (.int 0 0), (.ref 183), (.int 60 0), (.int 0 0), (.ref 190), (.int 65 0), (.int 0 0), (.ref 197), (.int 69 0), (.int 0 0), (.ref 204), (.int 80 0), (.int 0 0), (.ref 211), (.int 89 0), (.int 0 0), (.ref 218), (.int 93 0), (.int 0 0), (.ref 223), (.int 96 0), (.int 0 0), (.ref 230), (.int 98 0), (.int 0 0), (.ref 237), (.int 105 0), (.int 0 0), (.ref 244), (.int 107 0), (.int 0 0), (.ref 251), (.int 109 0), (.int 0 0), (.ref 258), (.int 111 0), (.int 0 0), (.ref 265), (.int 117 0), (.int 0 0), (.ref 272), (.int 121 0), (.int 0 0), (.ref 279), (.int 125 0), (.int 0 0), (.ref 286), (.int 137 0), (.int 0 0), (.ref 293), (.int 146 0), (.int 0 0), (.ref 300), (.int 164 0), (.int 0 0), (.ref 307), (.int 172 0), (.int 0 0), (.ref 314), (.int 179 0), (.int 0 0), (.ref 321), (.int 181 0), (.int 0 0), (.ref 328), (.int 188 0), (.int 0 0), (.ref 335), (.int 200 0), (.int 0 0), (.ref 342), (.int 219 0), (.int 0 0), (.ref 349), (.int 223 0), (.int 0 0), (.ref 356), (.int 247 0), (.int 0 0), (.ref 363)]) #[])
def x81 (P : Params) : Obj := (.mk (.type "dict") none (.dict #[(en P "__module__" 359 (.str "pebbletoll.webs" 344)), (en P "__qualname__" 361 (.str "Web" 360)), (en P "__firstlineno__" 363 (.int 27 362)), (en P "__init__" 369 (.ref 142)), (en P "__static_attributes__" 372 (.ref 143))] 5) #[])
def x82 : Obj := (.mk .none none (.fields #[(.int 29 0), (.int 4 0), (.ref 141)]) #[])
def x83 : Obj := (cO "Web" "Web" 354 355 356 27 0 0 0 0 (.ref 134) false 181 (.ref 135) .none .none .none .none 357 27 358)
def x84 : Obj := (.mk (.type "frame") none .plain #[(some (.ref 136)), (some (.ref 3)), (some (.ref 133)), none, (some (.str "pebbletoll.webs" 344)), none, (some (.ref 0))])
def x85 : Obj := (fR "__init__" "Web.__init__" (inC (top 14) 0))
def x86 : Obj := (cO "__init__" "Web.__init__" 364 365 366 29 3 0 0 3 (.ref 138) true 181 (.ref 139) .none .none .none (.ref 140) 367 29 368)
def x87 : Obj := (fO "__init__" "Web.__init__" (inC (top 14) 0) (.str "pebbletoll.webs" 344) (.ref 141))
def x88 : Obj := (tO #[(.str "many" 370), (.str "roads" 371)])
def x89 (P : Params) : Obj := (.mk (.type "dict") none (.dict #[(en P "__module__" 359 (.str "pebbletoll.webs" 344)), (en P "__firstlineno__" 363 (.int 27 362)), (en P "__init__" 369 (.ref 142)), (en P "__static_attributes__" 372 (.ref 143)), (en P "__dict__" 374 (.ref 146)), (en P "__weakref__" 376 (.ref 147)), (en P "__doc__" 377 .none)] 4) #[])
def x90 : Obj := (.mk (.type "type") none (.cls (.mk "Web" [(.type "object")] [(.ref 145), (.type "object")] 144 "Web" true [] [] false none false)) #[none, none, (some (.str "Web" 352)), (some (.str "Web" 360)), (some (.builtin "object.__new__")), (some (.bool true))])
def x91 : Obj := (.mk (.type "getset_descriptor") none (.fields #[(.str "__dict__" 373), (.ref 145), (.builtin "function.__dict__"), (.builtin "function.__dict__#set")]) #[])
def x92 : Obj := (.mk (.type "getset_descriptor") none (.fields #[(.str "__weakref__" 375), (.ref 145), (.builtin "ExceptionGroup.__weakref__"), .none]) #[])
def x93 : Obj := (.mk (.type "super") none (.fields #[(.ref 145), (.ref 145), (.ref 145)]) #[])
def x94 : Obj := (.mk (.type "builtin_function_or_method") none (.fields #[(.builtin "object.__init_subclass__"), (.ref 145)]) #[])
def x95 : Obj := (tO #[(.str "web" 383), (.str "a" 384), (.str "b" 385), (.str "one" 386), (.str "other" 387), (.str "there" 388), (.str "back" 389)])
def x96 : Obj := (fR "toll" "toll" (top 15))
def x97 : Obj := (cO "toll" "toll" 380 381 382 38 3 0 0 3 (.ref 150) true 181 (.ref 151) .none (.ref 152) (.ref 153) (.ref 154) 390 38 391)
def x98 : Obj := (fO "toll" "toll" (top 15) (.str "pebbletoll.webs" 344) (.ref 155))
def x99 : Obj := (tO #[(.str "web" 396), (.str "a" 397)])
def x100 : Obj := (fR "neighbours" "neighbours" (top 16))
def x101 : Obj := (cO "neighbours" "neighbours" 393 394 395 47 2 0 0 3 (.ref 157) true 181 (.ref 158) .none (.ref 159) (.ref 160) (.ref 161) 398 47 399)
def x102 : Obj := (fO "neighbours" "neighbours" (top 16) (.str "pebbletoll.webs" 344) (.ref 162))
def x103 : Obj := (tO #[(.str "web" 404), (.str "number" 405)])
def x104 : Obj := (fR "check_place" "check_place" (top 17))
def x105 : Obj := (cO "check_place" "check_place" 401 402 403 50 2 0 0 3 (.ref 164) true 181 (.ref 165) .none (.ref 166) (.ref 167) (.ref 168) 406 50 407)
def x106 : Obj := (fO "check_place" "check_place" (top 17) (.str "pebbletoll.webs" 344) (.ref 169))
def x107 : Obj := (tO #[(.str "many" 412), (.str "number" 413)])
def x108 : Obj := (fR "is_place" "is_place" (top 18))
def x109 : Obj := (cO "is_place" "is_place" 409 410 411 53 2 0 0 3 (.ref 171) true 181 (.ref 172) .none (.ref 173) (.ref 174) (.ref 175) 414 53 415)
def x110 : Obj := (fO "is_place" "is_place" (top 18) (.str "pebbletoll.webs" 344) (.ref 176))
def x111 : Obj := (tO #[(.str "many" 420), (.str "roads" 421)])
def x112 : Obj := (fR "check_counts" "check_counts" (top 19))
def x113 : Obj := (cO "check_counts" "check_counts" 417 418 419 55 2 0 0 3 (.ref 178) true 181 (.ref 179) .none (.ref 180) (.ref 181) (.ref 182) 422 55 423)
def x114 : Obj := (fO "check_counts" "check_counts" (top 19) (.str "pebbletoll.webs" 344) (.ref 183))
def x115 : Obj := (tO #[(.str "many" 428), (.str "road" 429)])
def x116 : Obj := (fR "check_ends" "check_ends" (top 20))
def x117 : Obj := (cO "check_ends" "check_ends" 425 426 427 60 2 0 0 3 (.ref 185) true 181 (.ref 186) .none (.ref 187) (.ref 188) (.ref 189) 430 60 431)
def x118 : Obj := (fO "check_ends" "check_ends" (top 20) (.str "pebbletoll.webs" 344) (.ref 190))
def x119 : Obj := (tO #[(.str "road" 436), (.str "number" 437)])
def x120 : Obj := (fR "check_tolls" "check_tolls" (top 21))
def x121 : Obj := (cO "check_tolls" "check_tolls" 433 434 435 65 1 0 0 3 (.ref 192) true 181 (.ref 193) .none (.ref 194) (.ref 195) (.ref 196) 438 65 439)
def x122 : Obj := (fO "check_tolls" "check_tolls" (top 21) (.str "pebbletoll.webs" 344) (.ref 197))
def x123 : Obj := (tO #[(.str "many" 444), (.str "roads" 445), (.str "reached" 446), (.str "waiting" 447), (.str "place" 448), (.str "end" 449)])
def x124 : Obj := (fR "check_joined" "check_joined" (top 22))
def x125 : Obj := (cO "check_joined" "check_joined" 441 442 443 69 2 0 0 3 (.ref 199) true 181 (.ref 200) .none (.ref 201) (.ref 202) (.ref 203) 450 69 451)
def x126 : Obj := (fO "check_joined" "check_joined" (top 22) (.str "pebbletoll.webs" 344) (.ref 204))
def x127 : Obj := (tO #[(.str "roads" 456), (.str "place" 457), (.str "ends" 458), (.str "road" 459)])
def x128 : Obj := (fR "other_ends" "other_ends" (top 23))
def x129 : Obj := (cO "other_ends" "other_ends" 453 454 455 80 2 0 0 3 (.ref 206) true 181 (.ref 207) .none (.ref 208) (.ref 209) (.ref 210) 460 80 461)
def x130 : Obj := (fO "other_ends" "other_ends" (top 23) (.str "pebbletoll.webs" 344) (.ref 211))
def x131 : Obj := (tO #[(.str "web" 468), (.str "numbers" 469)])
def x132 : Obj := (fR "laying_of" "laying_of" (top 25))
def x133 : Obj := (cO "laying_of" "laying_of" 465 466 467 89 2 0 0 3 (.ref 213) true 181 (.ref 214) .none (.ref 215) (.ref 216) (.ref 217) 470 89 471)
def x134 : Obj := (fO "laying_of" "laying_of" (top 25) (.str "pebbletoll.layings" 463) (.ref 218))
def x135 : Obj := (fR "is_filled" "is_filled" (top 26))
def x136 : Obj := (cO "is_filled" "is_filled" 473 474 475 93 2 0 0 3 (.ref 220) true 181 (.ref 221) .none .none .none (.ref 222) 476 93 477)
def x137 : Obj := (fO "is_filled" "is_filled" (top 26) (.str "pebbletoll.layings" 463) (.ref 223))
def x138 : Obj := (tO #[(.str "web" 484), (.str "laying" 485), (.str "steps" 486)])
def x139 : Obj := (fR "walked" "walked" (top 28))
def x140 : Obj := (cO "walked" "walked" 481 482 483 96 3 0 0 3 (.ref 225) true 181 (.ref 226) .none (.ref 227) (.ref 228) (.ref 229) 487 96 488)
def x141 : Obj := (fO "walked" "walked" (top 28) (.str "pebbletoll.steps" 479) (.ref 230))
def x142 : Obj := (tO #[(.str "web" 493), (.str "laying" 494), (.str "steps" 495), (.str "passed" 496), (.str "at" 497), (.str "step" 498)])
def x143 : Obj := (fR "layings" "layings" (top 29))
def x144 : Obj := (cO "layings" "layings" 490 491 492 98 3 0 0 3 (.ref 232) true 181 (.ref 233) .none (.ref 234) (.ref 235) (.ref 236) 499 98 500)
def x145 : Obj := (fO "layings" "layings" (top 29) (.str "pebbletoll.steps" 479) (.ref 237))
def x146 : Obj := (tO #[(.str "web" 505), (.str "laying" 506), (.str "step" 507)])
def x147 : Obj := (fR "can_be_done" "can_be_done" (top 30))
def x148 : Obj := (cO "can_be_done" "can_be_done" 502 503 504 105 3 0 0 3 (.ref 239) true 181 (.ref 240) .none (.ref 241) (.ref 242) (.ref 243) 508 105 509)
def x149 : Obj := (fO "can_be_done" "can_be_done" (top 30) (.str "pebbletoll.steps" 479) (.ref 244))
def x150 : Obj := (tO #[(.str "web" 514), (.str "step" 515)])
def x151 : Obj := (fR "is_step" "is_step" (top 31))
def x152 : Obj := (cO "is_step" "is_step" 511 512 513 107 2 0 0 3 (.ref 246) true 181 (.ref 247) .none (.ref 248) (.ref 249) (.ref 250) 516 107 517)
def x153 : Obj := (fO "is_step" "is_step" (top 31) (.str "pebbletoll.steps" 479) (.ref 251))
def x154 : Obj := (tO #[(.str "web" 522), (.str "step" 523)])
def x155 : Obj := (fR "taken" "taken" (top 32))
def x156 : Obj := (cO "taken" "taken" 519 520 521 109 2 0 0 3 (.ref 253) true 181 (.ref 254) .none (.ref 255) (.ref 256) (.ref 257) 524 109 525)
def x157 : Obj := (fO "taken" "taken" (top 32) (.str "pebbletoll.steps" 479) (.ref 258))
def x158 : Obj := (tO #[(.str "web" 530), (.str "laying" 531), (.str "step" 532), (.str "counts" 533)])
def x159 : Obj := (fR "behind" "behind" (top 33))
def x160 : Obj := (cO "behind" "behind" 527 528 529 111 3 0 0 3 (.ref 260) true 181 (.ref 261) .none (.ref 262) (.ref 263) (.ref 264) 534 111 535)
def x161 : Obj := (fO "behind" "behind" (top 33) (.str "pebbletoll.steps" 479) (.ref 265))
def x162 : Obj := (tO #[(.str "script" 542), (.str "k" 543)])
def x163 : Obj := (fR "_law_cell" "_law_cell" (top 35))
def x164 : Obj := (cO "_law_cell" "_law_cell" 539 540 541 117 2 0 0 3 (.ref 267) true 181 (.ref 268) .none (.ref 269) (.ref 270) (.ref 271) 544 117 545)
def x165 : Obj := (fO "_law_cell" "_law_cell" (top 35) (.str "law_pebbletoll_k15_the_first_bad_step" 537) (.ref 272))
def x166 : Obj := (tO #[(.str "script" 550)])
def x167 : Obj := (fR "_law_last" "_law_last" (top 36))
def x168 : Obj := (cO "_law_last" "_law_last" 547 548 549 121 1 0 0 3 (.ref 274) true 181 (.ref 275) .none (.ref 276) (.ref 277) (.ref 278) 551 121 552)
def x169 : Obj := (fO "_law_last" "_law_last" (top 36) (.str "law_pebbletoll_k15_the_first_bad_step" 537) (.ref 279))
def x170 : Obj := (tO #[(.str "cell" 557), (.str "mode" 558), (.str "many" 559), (.str "base" 560), (.str "found" 561), (.str "rest" 562), (.str "k" 563), (.str "m" 564)])
def x171 : Obj := (fR "_law_row" "_law_row" (top 37))
def x172 : Obj := (cO "_law_row" "_law_row" 554 555 556 125 4 0 0 3 (.ref 281) true 181 (.ref 282) .none (.ref 283) (.ref 284) (.ref 285) 565 125 566)
def x173 : Obj := (fO "_law_row" "_law_row" (top 37) (.str "law_pebbletoll_k15_the_first_bad_step" 537) (.ref 286))
def x174 : Obj := (tO #[(.str "t" 571), (.str "there" 572), (.str "back" 573)])
def x175 : Obj := (fR "_law_tolls" "_law_tolls" (top 38))
def x176 : Obj := (cO "_law_tolls" "_law_tolls" 568 569 570 137 1 0 0 3 (.ref 288) true 181 (.ref 289) .none (.ref 290) (.ref 291) (.ref 292) 574 137 575)
def x177 : Obj := (fO "_law_tolls" "_law_tolls" (top 38) (.str "law_pebbletoll_k15_the_first_bad_step" 537) (.ref 293))
def x178 : Obj := (tO #[(.str "script" 580), (.str "mode" 581), (.str "shape" 582), (.str "tolls" 583), (.str "many" 584), (.str "roads" 585), (.str "k" 586), (.str "hang" 587), (.str "one" 588), (.str "other" 589), (.str "there" 590), (.str "back" 591), (.str "road" 592)])
def x179 : Obj := (fR "_law_roads" "_law_roads" (top 39))
def x180 : Obj := (cO "_law_roads" "_law_roads" 577 578 579 146 1 0 0 3 (.ref 295) true 181 (.ref 296) .none (.ref 297) (.ref 298) (.ref 299) 593 146 594)
def x181 : Obj := (fO "_law_roads" "_law_roads" (top 39) (.str "law_pebbletoll_k15_the_first_bad_step" 537) (.ref 300))
def x182 : Obj := (tO #[(.str "script" 599), (.str "many" 600), (.str "held" 601), (.str "k" 602), (.str "more" 603)])
def x183 : Obj := (fR "_law_amounts" "_law_amounts" (top 40))
def x184 : Obj := (cO "_law_amounts" "_law_amounts" 596 597 598 164 2 0 0 3 (.ref 302) true 181 (.ref 303) .none (.ref 304) (.ref 305) (.ref 306) 604 164 605)
def x185 : Obj := (fO "_law_amounts" "_law_amounts" (top 40) (.str "law_pebbletoll_k15_the_first_bad_step" 537) (.ref 307))
def x186 : Obj := (tO #[(.str "roads" 610), (.str "a" 611), (.str "b" 612), (.str "one" 613), (.str "other" 614), (.str "there" 615), (.str "back" 616)])
def x187 : Obj := (fR "_law_price" "_law_price" (top 41))
def x188 : Obj := (cO "_law_price" "_law_price" 607 608 609 172 3 0 0 3 (.ref 309) true 181 (.ref 310) .none (.ref 311) (.ref 312) (.ref 313) 617 172 618)
def x189 : Obj := (fO "_law_price" "_law_price" (top 41) (.str "law_pebbletoll_k15_the_first_bad_step" 537) (.ref 314))
def x190 : Obj := (tO #[(.str "found" 623)])
def x191 : Obj := (fR "_law_whole" "_law_whole" (top 42))
def x192 : Obj := (cO "_law_whole" "_law_whole" 620 621 622 179 1 0 0 3 (.ref 316) true 181 (.ref 317) .none (.ref 318) (.ref 319) (.ref 320) 624 179 625)
def x193 : Obj := (fO "_law_whole" "_law_whole" (top 42) (.str "law_pebbletoll_k15_the_first_bad_step" 537) (.ref 321))
def x194 : Obj := (tO #[(.str "e" 630), (.str "kinds" 631)])
def x195 : Obj := (fR "_law_kind" "_law_kind" (top 43))
def x196 : Obj := (cO "_law_kind" "_law_kind" 627 628 629 181 1 0 0 3 (.ref 323) true 181 (.ref 324) .none (.ref 325) (.ref 326) (.ref 327) 632 181 633)
def x197 : Obj := (fO "_law_kind" "_law_kind" (top 43) (.str "law_pebbletoll_k15_the_first_bad_step" 537) (.ref 328))
def x198 : Obj := (tO #[(.str "which" 638), (.str "web" 639), (.str "laying" 640), (.str "steps" 641), (.str "told" 642), (.str "e" 643)])
def x199 : Obj := (fR "_law_told" "_law_told" (top 44))
def x200 : Obj := (cO "_law_told" "_law_told" 635 636 637 188 4 0 0 3 (.ref 330) true 181 (.ref 331) .none (.ref 332) (.ref 333) (.ref 334) 644 188 645)
def x201 : Obj := (fO "_law_told" "_law_told" (top 44) (.str "law_pebbletoll_k15_the_first_bad_step" 537) (.ref 335))
def x202 : Obj := (tO #[(.str "cell" 650), (.str "many" 651), (.str "roads" 652), (.str "held" 653), (.str "a" 654), (.str "b" 655), (.str "mode" 656), (.str "one" 657), (.str "other" 658), (.str "there" 659), (.str "back" 660)])
def x203 : Obj := (fR "_law_odd" "_law_odd" (top 45))
def x204 : Obj := (cO "_law_odd" "_law_odd" 647 648 649 200 4 0 0 3 (.ref 337) true 181 (.ref 338) .none (.ref 339) (.ref 340) (.ref 341) 661 200 662)
def x205 : Obj := (fO "_law_odd" "_law_odd" (top 45) (.str "law_pebbletoll_k15_the_first_bad_step" 537) (.ref 342))
def x206 : Obj := (tO #[(.str "roads" 667), (.str "held" 668), (.str "step" 669), (.str "a" 670), (.str "b" 671), (.str "often" 672), (.str "each" 673)])
def x207 : Obj := (fR "_law_can" "_law_can" (top 46))
def x208 : Obj := (cO "_law_can" "_law_can" 664 665 666 219 3 0 0 3 (.ref 344) true 181 (.ref 345) .none (.ref 346) (.ref 347) (.ref 348) 674 219 675)
def x209 : Obj := (fO "_law_can" "_law_can" (top 46) (.str "law_pebbletoll_k15_the_first_bad_step" 537) (.ref 349))
def x210 : Obj := (tO #[(.str "script" 680), (.str "many" 681), (.str "roads" 682), (.str "held" 683), (.str "odd" 684), (.str "now" 685), (.str "steps" 686), (.str "first" 687), (.str "k" 688), (.str "step" 689), (.str "at" 690), (.str "one" 691), (.str "other" 692), (.str "there" 693), (.str "back" 694), (.str "can" 695), (.str "each" 696)])
def x211 : Obj := (fR "_law_steps" "_law_steps" (top 47))
def x212 : Obj := (cO "_law_steps" "_law_steps" 677 678 679 223 5 0 0 3 (.ref 351) true 181 (.ref 352) .none (.ref 353) (.ref 354) (.ref 355) 697 223 698)
def x213 : Obj := (fO "_law_steps" "_law_steps" (top 47) (.str "law_pebbletoll_k15_the_first_bad_step" 537) (.ref 356))
def x214 : Obj := (tO #[(.str "script" 703), (.str "many" 704), (.str "roads" 705), (.str "web" 706), (.str "numbers" 707), (.str "last" 708), (.str "size" 709), (.str "odd" 710), (.str "steps" 711), (.str "first" 712), (.str "due" 713), (.str "which" 714), (.str "found" 715)])
def x215 : Obj := (fR "law" "law" (top 48))
def x216 : Obj := (cO "law" "law" 700 701 702 247 1 0 0 3 (.ref 358) true 181 (.ref 359) .none (.ref 360) (.ref 361) (.ref 362) 716 247 717)
def x217 : Obj := (fO "law" "law" (top 48) (.str "law_pebbletoll_k15_the_first_bad_step" 537) (.ref 363))
noncomputable def h1 (P : Params) : Heap := .mk (.mk (boot_o_0 P :: boot_o_1 P :: boot_o_2 P :: x79 P :: boot_o_4 P :: boot_o_5 P :: boot_o_6 P :: boot_o_7 P :: boot_o_8 P :: boot_o_9 P :: boot_o_10 P :: x0 :: x80 :: x2 :: x3 :: x6 :: x7 :: x8 P :: x0 :: x1 :: x9 :: x10 :: x0 :: x11 P :: x12 :: x13 :: x14 :: x15 :: x16 :: x7 :: x17 P :: x0 :: x1 :: x18 :: x19 :: x0 :: x20 P :: x21 :: x22 :: x23 :: x16 :: x7 :: x24 P :: x0 :: x1 :: x25 :: x26 :: x0 :: x27 P :: x28 :: x29 :: x30 :: x16 :: x7 :: x31 P :: x0 :: x1 :: x32 :: x33 :: x0 :: x34 P :: x35 :: x36 :: x37 :: x16 :: x7 :: x38 P :: x0 :: x1 :: x39 :: x40 :: x0 :: x41 P :: x42 :: x43 :: x44 :: x16 :: x7 :: x45 P :: x0 :: x1 :: x46 :: x47 :: x0 :: x48 P :: x49 :: x50 :: x51 :: x16 :: x7 :: x52 P :: x0 :: x1 :: x53 :: x54 :: x0 :: x55 P :: x56 :: x57 :: x58 :: x16 :: x7 :: x59 P :: x0 :: x1 :: x60 :: x61 :: x0 :: x62 P :: x63 :: x64 :: x65 :: x16 :: x7 :: x66 P :: x0 :: x67 :: x68 :: x69 :: x0 :: x1 :: x70 :: x0 :: x71 :: x72 :: x73 :: x74 :: x75 P :: x76 :: x77 :: x78 :: x0 :: x7 :: x81 P :: x0 :: x82 :: x83 :: x84 :: x0 :: x1 :: x85 :: x86 :: x87 :: x88 :: x89 P :: x90 :: x91 :: x92 :: x93 :: x94 :: x0 :: x1 :: x95 :: x0 :: x96 :: x97 :: x98 :: x0 :: x1 :: x99 :: x0 :: x100 :: x101 :: x102 :: x0 :: x1 :: x103 :: x0 :: x104 :: x105 :: x106 :: x0 :: x1 :: x107 :: x0 :: x108 :: x109 :: x110 :: x0 :: x1 :: x111 :: x0 :: x112 :: x113 :: x114 :: x0 :: x1 :: x115 :: x0 :: x116 :: x117 :: x118 :: x0 :: x1 :: x119 :: x0 :: x120 :: x121 :: x122 :: x0 :: x1 :: x123 :: x0 :: x124 :: x125 :: x126 :: x0 :: x1 :: x127 :: x0 :: x128 :: x129 :: x130 :: x0 :: x1 :: x131 :: x0 :: x132 :: x133 :: x134 :: x0 :: x1 :: x135 :: x136 :: x137 :: x0 :: x1 :: x138 :: x0 :: x139 :: x140 :: x141 :: x0 :: x1 :: x142 :: x0 :: x143 :: x144 :: x145 :: x0 :: x1 :: x146 :: x0 :: x147 :: x148 :: x149 :: x0 :: x1 :: x150 :: x0 :: x151 :: x152 :: x153 :: x0 :: x1 :: x154 :: x0 :: x155 :: x156 :: x157 :: x0 :: x1 :: x158 :: x0 :: x159 :: x160 :: x161 :: x0 :: x1 :: x162 :: x0 :: x163 :: x164 :: x165 :: x0 :: x1 :: x166 :: x0 :: x167 :: x168 :: x169 :: x0 :: x1 :: x170 :: x0 :: x171 :: x172 :: x173 :: x0 :: x1 :: x174 :: x0 :: x175 :: x176 :: x177 :: x0 :: x1 :: x178 :: x0 :: x179 :: x180 :: x181 :: x0 :: x1 :: x182 :: x0 :: x183 :: x184 :: x185 :: x0 :: x1 :: x186 :: x0 :: x187 :: x188 :: x189 :: x0 :: x1 :: x190 :: x0 :: x191 :: x192 :: x193 :: x0 :: x1 :: x194 :: x0 :: x195 :: x196 :: x197 :: x0 :: x1 :: x198 :: x0 :: x199 :: x200 :: x201 :: x0 :: x1 :: x202 :: x0 :: x203 :: x204 :: x205 :: x0 :: x1 :: x206 :: x0 :: x207 :: x208 :: x209 :: x0 :: x1 :: x210 :: x0 :: x211 :: x212 :: x213 :: x0 :: x1 :: x214 :: x0 :: x215 :: x216 :: x217 :: [])) (.mk [] [] [] 0 [] [] false #[] [] 0 false false false 0 [2000, 10, 10] false 0 true [] [] 0 false)
theorem run1 (w : World) (os : OsState) : segRun treeTable PySem.Challenge.pw_pebbletoll_k15_the_first_bad_step w 11 (some (.ref 6)) 1 1260 (Shared.mk (h0 w.params) (.mk []) (.mk 0 0 0 0) 352 os) (piecesOf st1 env cE (.mk 26 0 26 9) [topFrame (.mk 0 0 0 0)]) = some (.next, (Shared.mk (h1 w.params) (.mk []) (.mk 0 0 0 0) 719 os), cE, (.mk 247 0 266 15)) := by kernel_rfl
noncomputable def hf (P : Params) : Heap := .mk (.mk (boot_o_0 P :: boot_o_1 P :: boot_o_2 P :: x79 P :: boot_o_4 P :: boot_o_5 P :: boot_o_6 P :: boot_o_7 P :: boot_o_8 P :: boot_o_9 P :: boot_o_10 P :: x0 :: x80 :: x2 :: x3 :: x6 :: x7 :: x8 P :: x0 :: x1 :: x9 :: x10 :: x0 :: x11 P :: x12 :: x13 :: x14 :: x15 :: x16 :: x7 :: x17 P :: x0 :: x1 :: x18 :: x19 :: x0 :: x20 P :: x21 :: x22 :: x23 :: x16 :: x7 :: x24 P :: x0 :: x1 :: x25 :: x26 :: x0 :: x27 P :: x28 :: x29 :: x30 :: x16 :: x7 :: x31 P :: x0 :: x1 :: x32 :: x33 :: x0 :: x34 P :: x35 :: x36 :: x37 :: x16 :: x7 :: x38 P :: x0 :: x1 :: x39 :: x40 :: x0 :: x41 P :: x42 :: x43 :: x44 :: x16 :: x7 :: x45 P :: x0 :: x1 :: x46 :: x47 :: x0 :: x48 P :: x49 :: x50 :: x51 :: x16 :: x7 :: x52 P :: x0 :: x1 :: x53 :: x54 :: x0 :: x55 P :: x56 :: x57 :: x58 :: x16 :: x7 :: x59 P :: x0 :: x1 :: x60 :: x61 :: x0 :: x62 P :: x63 :: x64 :: x65 :: x16 :: x7 :: x66 P :: x0 :: x67 :: x68 :: x69 :: x0 :: x1 :: x70 :: x0 :: x71 :: x72 :: x73 :: x74 :: x75 P :: x76 :: x77 :: x78 :: x0 :: x7 :: x81 P :: x0 :: x82 :: x83 :: x84 :: x0 :: x1 :: x85 :: x86 :: x87 :: x88 :: x89 P :: x90 :: x91 :: x92 :: x93 :: x94 :: x0 :: x1 :: x95 :: x0 :: x96 :: x97 :: x98 :: x0 :: x1 :: x99 :: x0 :: x100 :: x101 :: x102 :: x0 :: x1 :: x103 :: x0 :: x104 :: x105 :: x106 :: x0 :: x1 :: x107 :: x0 :: x108 :: x109 :: x110 :: x0 :: x1 :: x111 :: x0 :: x112 :: x113 :: x114 :: x0 :: x1 :: x115 :: x0 :: x116 :: x117 :: x118 :: x0 :: x1 :: x119 :: x0 :: x120 :: x121 :: x122 :: x0 :: x1 :: x123 :: x0 :: x124 :: x125 :: x126 :: x0 :: x1 :: x127 :: x0 :: x128 :: x129 :: x130 :: x0 :: x1 :: x131 :: x0 :: x132 :: x133 :: x134 :: x0 :: x1 :: x135 :: x136 :: x137 :: x0 :: x1 :: x138 :: x0 :: x139 :: x140 :: x141 :: x0 :: x1 :: x142 :: x0 :: x143 :: x144 :: x145 :: x0 :: x1 :: x146 :: x0 :: x147 :: x148 :: x149 :: x0 :: x1 :: x150 :: x0 :: x151 :: x152 :: x153 :: x0 :: x1 :: x154 :: x0 :: x155 :: x156 :: x157 :: x0 :: x1 :: x158 :: x0 :: x159 :: x160 :: x161 :: x0 :: x1 :: x162 :: x0 :: x163 :: x164 :: x165 :: x0 :: x1 :: x166 :: x0 :: x167 :: x168 :: x169 :: x0 :: x1 :: x170 :: x0 :: x171 :: x172 :: x173 :: x0 :: x1 :: x174 :: x0 :: x175 :: x176 :: x177 :: x0 :: x1 :: x178 :: x0 :: x179 :: x180 :: x181 :: x0 :: x1 :: x182 :: x0 :: x183 :: x184 :: x185 :: x0 :: x1 :: x186 :: x0 :: x187 :: x188 :: x189 :: x0 :: x1 :: x190 :: x0 :: x191 :: x192 :: x193 :: x0 :: x1 :: x194 :: x0 :: x195 :: x196 :: x197 :: x0 :: x1 :: x198 :: x0 :: x199 :: x200 :: x201 :: x0 :: x1 :: x202 :: x0 :: x203 :: x204 :: x205 :: x0 :: x1 :: x206 :: x0 :: x207 :: x208 :: x209 :: x0 :: x1 :: x210 :: x0 :: x211 :: x212 :: x213 :: x0 :: x1 :: x214 :: x0 :: x215 :: x216 :: x217 :: [])) (.mk [] [] [] 0 [] [] false #[] [] 0 false false false 0 [2000, 10, 10] false 0 true [] [] 0 false)
theorem runf (w : World) (os : OsState) : topRun treeTable PySem.Challenge.pw_pebbletoll_k15_the_first_bad_step w 11 (some (.ref 6)) 2 (Shared.mk (h1 w.params) (.mk []) (.mk 0 0 0 0) 719 os) (restOf [] env cE (.mk 247 0 266 15) [topFrame (.mk 0 0 0 0)]) = some (Shared.mk (hf w.params) (.mk []) (.mk 0 0 0 0) 719 os) := by kernel_rfl
theorem run (w : World) (os : OsState) : topRun treeTable PySem.Challenge.pw_pebbletoll_k15_the_first_bad_step w 11 (some (.ref 6)) (12 + (1 + (1968 + (1260 + (2))))) (Shared.mk (boot_heap w.params) (.mk []) boot_drawn boot_toks os) (topStub PySem.Challenge.pw_pebbletoll_k15_the_first_bad_step) = some (Shared.mk (hf w.params) (.mk []) (.mk 0 0 0 0) 719 os) := go_top (runa w os) (piece_block (runb w os) (piece_app (run0 w os) (piece_app (run1 w os) (runf w os))))
theorem opn : ∀ w : World, (fencedOpening treeTable PySem.Challenge.pw_pebbletoll_k15_the_first_bad_step w 6578).map (fun s => (s.heap, s.gens, s.drawn, s.toks)) = some (boot_heap w.params, Array.mk [], boot_drawn, boot_toks) := boot_open (by kernel_rfl) (by decide) fun s => by kernel_rfl
theorem siz (w : World) : ((boot_heap w.params).isNs mainGlobals && (Array.mk ([] : List GenState)).size == 0, (boot_heap w.params).objs.size, (boot_heap w.params).nsMap mainGlobals "__annotations__") = (true, 11, (some (.ref 6))) := by kernel_rfl
noncomputable def KK : Params → Frag := fun P =>
  (nat_lit 2, boot_o_2 P) ::
  (nat_lit 3, x79 P) ::
  (nat_lit 15, x6) ::
  (nat_lit 22, x0) ::
  (nat_lit 23, x11 P) ::
  (nat_lit 24, x12) ::
  (nat_lit 25, x13) ::
  (nat_lit 28, x16) ::
  (nat_lit 35, x0) ::
  (nat_lit 36, x20 P) ::
  (nat_lit 37, x21) ::
  (nat_lit 40, x16) ::
  (nat_lit 47, x0) ::
  (nat_lit 48, x27 P) ::
  (nat_lit 49, x28) ::
  (nat_lit 52, x16) ::
  (nat_lit 59, x0) ::
  (nat_lit 60, x34 P) ::
  (nat_lit 61, x35) ::
  (nat_lit 64, x16) ::
  (nat_lit 71, x0) ::
  (nat_lit 72, x41 P) ::
  (nat_lit 73, x42) ::
  (nat_lit 76, x16) ::
  (nat_lit 83, x0) ::
  (nat_lit 84, x48 P) ::
  (nat_lit 85, x49) ::
  (nat_lit 88, x16) ::
  (nat_lit 95, x0) ::
  (nat_lit 96, x55 P) ::
  (nat_lit 97, x56) ::
  (nat_lit 100, x16) ::
  (nat_lit 107, x0) ::
  (nat_lit 108, x62 P) ::
  (nat_lit 109, x63) ::
  (nat_lit 112, x16) ::
  (nat_lit 119, x0) ::
  (nat_lit 121, x70) ::
  (nat_lit 122, x0) ::
  (nat_lit 124, x72) ::
  (nat_lit 125, x73) ::
  (nat_lit 126, x74) ::
  (nat_lit 127, x75 P) ::
  (nat_lit 128, x76) ::
  (nat_lit 138, x0) ::
  (nat_lit 141, x86) ::
  (nat_lit 142, x87) ::
  (nat_lit 143, x88) ::
  (nat_lit 144, x89 P) ::
  (nat_lit 145, x90) ::
  (nat_lit 146, x91) ::
  (nat_lit 147, x92) ::
  (nat_lit 150, x0) ::
  (nat_lit 152, x95) ::
  (nat_lit 153, x0) ::
  (nat_lit 155, x97) ::
  (nat_lit 156, x98) ::
  (nat_lit 157, x0) ::
  (nat_lit 159, x99) ::
  (nat_lit 160, x0) ::
  (nat_lit 162, x101) ::
  (nat_lit 163, x102) ::
  (nat_lit 164, x0) ::
  (nat_lit 166, x103) ::
  (nat_lit 167, x0) ::
  (nat_lit 169, x105) ::
  (nat_lit 170, x106) ::
  (nat_lit 171, x0) ::
  (nat_lit 173, x107) ::
  (nat_lit 174, x0) ::
  (nat_lit 176, x109) ::
  (nat_lit 177, x110) ::
  (nat_lit 178, x0) ::
  (nat_lit 180, x111) ::
  (nat_lit 181, x0) ::
  (nat_lit 183, x113) ::
  (nat_lit 184, x114) ::
  (nat_lit 185, x0) ::
  (nat_lit 187, x115) ::
  (nat_lit 188, x0) ::
  (nat_lit 190, x117) ::
  (nat_lit 191, x118) ::
  (nat_lit 192, x0) ::
  (nat_lit 194, x119) ::
  (nat_lit 195, x0) ::
  (nat_lit 197, x121) ::
  (nat_lit 198, x122) ::
  (nat_lit 199, x0) ::
  (nat_lit 201, x123) ::
  (nat_lit 202, x0) ::
  (nat_lit 204, x125) ::
  (nat_lit 205, x126) ::
  (nat_lit 206, x0) ::
  (nat_lit 208, x127) ::
  (nat_lit 209, x0) ::
  (nat_lit 211, x129) ::
  (nat_lit 212, x130) ::
  (nat_lit 213, x0) ::
  (nat_lit 215, x131) ::
  (nat_lit 216, x0) ::
  (nat_lit 218, x133) ::
  (nat_lit 219, x134) ::
  (nat_lit 220, x0) ::
  (nat_lit 223, x136) ::
  (nat_lit 224, x137) ::
  (nat_lit 225, x0) ::
  (nat_lit 227, x138) ::
  (nat_lit 228, x0) ::
  (nat_lit 230, x140) ::
  (nat_lit 231, x141) ::
  (nat_lit 232, x0) ::
  (nat_lit 234, x142) ::
  (nat_lit 235, x0) ::
  (nat_lit 237, x144) ::
  (nat_lit 238, x145) ::
  (nat_lit 239, x0) ::
  (nat_lit 241, x146) ::
  (nat_lit 242, x0) ::
  (nat_lit 244, x148) ::
  (nat_lit 245, x149) ::
  (nat_lit 246, x0) ::
  (nat_lit 248, x150) ::
  (nat_lit 249, x0) ::
  (nat_lit 251, x152) ::
  (nat_lit 252, x153) ::
  (nat_lit 253, x0) ::
  (nat_lit 255, x154) ::
  (nat_lit 256, x0) ::
  (nat_lit 258, x156) ::
  (nat_lit 259, x157) ::
  (nat_lit 260, x0) ::
  (nat_lit 262, x158) ::
  (nat_lit 263, x0) ::
  (nat_lit 265, x160) ::
  (nat_lit 266, x161) ::
  (nat_lit 267, x0) ::
  (nat_lit 269, x162) ::
  (nat_lit 270, x0) ::
  (nat_lit 272, x164) ::
  (nat_lit 273, x165) ::
  (nat_lit 274, x0) ::
  (nat_lit 276, x166) ::
  (nat_lit 277, x0) ::
  (nat_lit 279, x168) ::
  (nat_lit 280, x169) ::
  (nat_lit 281, x0) ::
  (nat_lit 283, x170) ::
  (nat_lit 284, x0) ::
  (nat_lit 286, x172) ::
  (nat_lit 287, x173) ::
  (nat_lit 288, x0) ::
  (nat_lit 290, x174) ::
  (nat_lit 291, x0) ::
  (nat_lit 293, x176) ::
  (nat_lit 294, x177) ::
  (nat_lit 295, x0) ::
  (nat_lit 297, x178) ::
  (nat_lit 298, x0) ::
  (nat_lit 300, x180) ::
  (nat_lit 301, x181) ::
  (nat_lit 302, x0) ::
  (nat_lit 304, x182) ::
  (nat_lit 305, x0) ::
  (nat_lit 307, x184) ::
  (nat_lit 308, x185) ::
  (nat_lit 309, x0) ::
  (nat_lit 311, x186) ::
  (nat_lit 312, x0) ::
  (nat_lit 314, x188) ::
  (nat_lit 315, x189) ::
  (nat_lit 316, x0) ::
  (nat_lit 318, x190) ::
  (nat_lit 319, x0) ::
  (nat_lit 321, x192) ::
  (nat_lit 322, x193) ::
  (nat_lit 323, x0) ::
  (nat_lit 325, x194) ::
  (nat_lit 326, x0) ::
  (nat_lit 328, x196) ::
  (nat_lit 329, x197) ::
  (nat_lit 330, x0) ::
  (nat_lit 332, x198) ::
  (nat_lit 333, x0) ::
  (nat_lit 335, x200) ::
  (nat_lit 336, x201) ::
  (nat_lit 337, x0) ::
  (nat_lit 339, x202) ::
  (nat_lit 340, x0) ::
  (nat_lit 342, x204) ::
  (nat_lit 343, x205) ::
  (nat_lit 344, x0) ::
  (nat_lit 346, x206) ::
  (nat_lit 347, x0) ::
  (nat_lit 349, x208) ::
  (nat_lit 350, x209) ::
  (nat_lit 351, x0) ::
  (nat_lit 353, x210) ::
  (nat_lit 354, x0) ::
  (nat_lit 356, x212) ::
  (nat_lit 357, x213) ::
  (nat_lit 358, x0) ::
  (nat_lit 360, x214) ::
  (nat_lit 361, x0) ::
  (nat_lit 363, x216) ::
  (nat_lit 364, x217) :: []
abbrev qq : Program := PySem.W.view PySem.Challenge.pw_pebbletoll_k15_the_first_bad_step [1, 2, 3, 4, 5, 6, 7, 8, 9, 11, 12, 13, 14, 15, 16, 17, 18, 19, 20, 21, 22, 23, 25, 26, 28, 29, 30, 31, 32, 33, 35, 36, 37, 38, 39, 40, 41, 42, 43, 44, 45, 46, 47, 48]
abbrev asK : List Addr := [2, 3, 15, 22, 23, 24, 25, 28, 35, 36, 37, 40, 47, 48, 49, 52, 59, 60, 61, 64, 71, 72, 73, 76, 83, 84, 85, 88, 95, 96, 97, 100, 107, 108, 109, 112, 119, 121, 122, 124, 125, 126, 127, 128, 138, 141, 142, 143, 144, 145, 146, 147, 150, 152, 153, 155, 156, 157, 159, 160, 162, 163, 164, 166, 167, 169, 170, 171, 173, 174, 176, 177, 178, 180, 181, 183, 184, 185, 187, 188, 190, 191, 192, 194, 195, 197, 198, 199, 201, 202, 204, 205, 206, 208, 209, 211, 212, 213, 215, 216, 218, 219, 220, 223, 224, 225, 227, 228, 230, 231, 232, 234, 235, 237, 238, 239, 241, 242, 244, 245, 246, 248, 249, 251, 252, 253, 255, 256, 258, 259, 260, 262, 263, 265, 266, 267, 269, 270, 272, 273, 274, 276, 277, 279, 280, 281, 283, 284, 286, 287, 288, 290, 291, 293, 294, 295, 297, 298, 300, 301, 302, 304, 305, 307, 308, 309, 311, 312, 314, 315, 316, 318, 319, 321, 322, 323, 325, 326, 328, 329, 330, 332, 333, 335, 336, 337, 339, 340, 342, 343, 344, 346, 347, 349, 350, 351, 353, 354, 356, 357, 358, 360, 361, 363, 364]
theorem asK_eq : ∀ P, asK = (KK P).map (·.1) := fun _ => by kernel_rfl
theorem looks (w : World) : (fun os => ((staticsOk (importedModules PySem.Challenge.pw_pebbletoll_k15_the_first_bad_step.main.body) (boot_heap w.params) (hf w.params) && namesBound PySem.Challenge.pw_pebbletoll_k15_the_first_bad_step (hf w.params) && gensDone (Shared.mk (Hd.hf w.params) (.mk []) (.mk 0 0 0 0) 719 os) && laidKept (boot_heap w.params) (hf w.params)), openSeen qq [] (importedModules PySem.Challenge.pw_pebbletoll_k15_the_first_bad_step.main.body) (fun s => PySem.W.xlAt Hd.qq [] s && PySem.W.recOk (PySem.W.RowW.records (PySem.W.OpenRow.toRowW (PySem.Challenge.rw_pebbletoll_k15_the_first_bad_step).row)) s) true (Shared.mk (Hd.hf w.params) (.mk []) (.mk 0 0 0 0) 719 os), Hook.obs (PySem.W.kHook Hd.KK Hd.asK Hd.asK_eq) (Shared.mk (Hd.hf w.params) (.mk []) (.mk 0 0 0 0) 719 os))) = fun _ => (true, openGood qq [], Hook.val (PySem.W.kHook Hd.KK Hd.asK Hd.asK_eq) w) := by kernel_rfl
theorem left : PySem.W.LeftO (PySem.Challenge.rw_pebbletoll_k15_the_first_bad_step).row.prog qq [] (fun s => PySem.W.xlAt Hd.qq [] s && PySem.W.recOk (PySem.W.RowW.records (PySem.W.OpenRow.toRowW (PySem.Challenge.rw_pebbletoll_k15_the_first_bad_step).row)) s) (PySem.W.Hook.obs (PySem.W.kHook Hd.KK Hd.asK Hd.asK_eq)) (PySem.W.Hook.val (PySem.W.kHook Hd.KK Hd.asK Hd.asK_eq)) 6578 := LeftO.of_pieces opn siz run (by decide) looks
end Hd
set_option Elab.async false
set_option linter.all false
set_option maxRecDepth 100000
namespace L2
open PySem PySem.Spec PyProof.Rows
abbrev Key := Sum Int Str
def keyIs : Key → Value → Bool
  | .inl k, v => Value.isInt k v
  | .inr x, v => Value.isStrOf x v
def keyH (w : World) : Key → Int
  | .inl k => hashInt k
  | .inr x => hashStr w x
theorem keyIs_shape : ∀ {k : Key} {v : Value}, keyIs k v = true → (∃ i t, k = Sum.inl i ∧ v = Value.int i t) ∨ (∃ x t, k = Sum.inr x ∧ v = Value.str x t)
  | .inl i, v, h => by
    obtain ⟨t, e⟩ := Value.isInt_shape (k := i) (v := v) h
    exact .inl ⟨i, t, rfl, e⟩
  | .inr x, v, h => by
    obtain ⟨t, e⟩ := Value.isStrOf_shape (x := x) (v := v) h
    exact .inr ⟨x, t, rfl, e⟩
theorem keyIs_int (i : Int) (t : Tok) : keyIs (.inl i) (.int i t) = true := by simp [keyIs, Value.isInt]
theorem keyIs_str (x : Str) (t : Tok) : keyIs (.inr x) (.str x t) = true := by simp [keyIs, Value.isStrOf]
theorem key_ll (a b : Int) : decide ((Sum.inl a : Key) = Sum.inl b) = (a == b) := by
  by_cases e : a = b
  · subst e; simp
  · have h : ¬ (Sum.inl a : Key) = Sum.inl b := fun q => e (Sum.inl.inj q)
    rw [decide_eq_false h]
    exact (beq_eq_false_iff_ne.mpr e).symm
theorem key_rr (a b : Str) : decide ((Sum.inr a : Key) = Sum.inr b) = decide (a = b) := by
  by_cases e : a = b
  · subst e; simp
  · have h : ¬ (Sum.inr a : Key) = Sum.inr b := fun q => e (Sum.inr.inj q)
    rw [decide_eq_false h, decide_eq_false e]
theorem key_lr (a : Int) (b : Str) : decide ((Sum.inl a : Key) = Sum.inr b) = false := decide_eq_false (fun q => nomatch q)
theorem key_rl (a : Str) (b : Int) : decide ((Sum.inr a : Key) = Sum.inl b) = false := decide_eq_false (fun q => nomatch q)
def mixKind (prog : Program) (w : World) : PySem.KeyKind prog w Key where
  is := keyIs
  hash := keyH w
  inj := fun v a b ha hb => by
    rcases keyIs_shape ha with ⟨i, t, rfl, rfl⟩ | ⟨x, t, rfl, rfl⟩
    · rcases keyIs_shape hb with ⟨j, u, rfl, e⟩ | ⟨y, u, rfl, e⟩
      · injection e with e1 _; rw [e1]
      · exact nomatch e
    · rcases keyIs_shape hb with ⟨j, u, rfl, e⟩ | ⟨y, u, rfl, e⟩
      · exact nomatch e
      · injection e with e1 _; rw [e1]
  byValue := fun k v h => by
    rcases keyIs_shape h with ⟨i, t, rfl, rfl⟩ | ⟨x, t, rfl, rfl⟩ <;> rfl
  pyHash := fun hv h => by
    rcases keyIs_shape hv with ⟨i, t, rfl, rfl⟩ | ⟨x, t, rfl, rfl⟩
    · exact wpAny_pyHash_int h
    · exact wpAny_pyHash_str h
  eqBool := fun hu hv h => by
    rcases keyIs_shape hu with ⟨i, t, rfl, rfl⟩ | ⟨x, t, rfl, rfl⟩
    · rcases keyIs_shape hv with ⟨j, u, rfl, rfl⟩ | ⟨y, u, rfl, rfl⟩
      · rw [key_ll] at h; exact wpAny_eqBool_int h
      · rw [key_lr] at h; exact SeqAt.EqAt.int_str i t y u _ _ _ _ h
    · rcases keyIs_shape hv with ⟨j, u, rfl, rfl⟩ | ⟨y, u, rfl, rfl⟩
      · rw [key_rl] at h; exact SeqAt.EqAt.str_int x t j u _ _ _ _ h
      · rw [key_rr] at h; exact wpAny_eqBool_str h
  «strs» := fun k x t v h => by
    rcases keyIs_shape h with ⟨i, u, rfl, e⟩ | ⟨y, u, rfl, e⟩
    · exact nomatch e
    · injection e with e1 _
      subst e1
      cases v <;> rfl
theorem mixKind_int (prog : Program) (w : World) (i : Int) (t : Tok) : (mixKind prog w).is (.inl i) (.int i t) = true := keyIs_int i t
theorem mixKind_str (prog : Program) (w : World) (x : Str) (t : Tok) : (mixKind prog w).is (.inr x) (.str x t) = true := keyIs_str x t
end L2
namespace L2
open PySem PySem.Spec PyProof.Rows
inductive V where
  | non | bl (b : Bool) | int (i : Int) | str (x : Str) | byt (b : Array UInt8) | flt (b : UInt64) | ref (a : Addr) | ty (n : String)
  deriving DecidableEq
def RelV : V → Value → Prop
  | .non, u => u = Value.none
  | .bl b, u => u = Value.bool b
  | .int i, u => ∃ t, u = Value.int i t
  | .str x, u => ∃ t, u = Value.str x t
  | .byt b, u => ∃ t, u = Value.bytes b t
  | .flt b, u => ∃ t, u = Value.float b t
  | .ref a, u => u = Value.ref a
  | .ty n, u => u = Value.type n
abbrev Vals : List V → List Value → Prop := Paired RelV
theorem Vals.length {xs : List V} {us : List Value} (r : Vals xs us) : xs.length = us.length := Paired.length r
theorem Vals.get : ∀ {xs : List V} {us : List Value} {i : Nat} {x : V}, Vals xs us → xs[i]? = some x → ∃ u, us[i]? = some u ∧ RelV x u
  | _, _, _, _, .nil, e => by simp at e
  | _, _, 0, _, .cons r _, e => by simp at e; subst e; exact ⟨_, rfl, r⟩
  | _, _, i + 1, x, .cons _ t, e => by
    obtain ⟨u, h1, h2⟩ := Vals.get (i := i) (x := x) t (by simpa using e)
    exact ⟨u, by simpa using h1, h2⟩
theorem Vals.set {x : V} {u : Value} (r : RelV x u) : ∀ {xs : List V} {us : List Value} (i : Nat), Vals xs us → Vals (xs.set i x) (us.set i u)
  | _, _, _, .nil => .nil
  | _, _, 0, .cons _ t => .cons r t
  | _, _, i + 1, .cons q t => .cons q (Vals.set r i t)
theorem Vals.append : ∀ {xs ys : List V} {us ws : List Value}, Vals xs us → Vals ys ws → Vals (xs ++ ys) (us ++ ws)
  | _, _, _, _, .nil, s => s
  | _, _, _, _, .cons r t, s => .cons r (Vals.append t s)
theorem Vals.take : ∀ {xs : List V} {us : List Value} (n : Nat), Vals xs us → Vals (xs.take n) (us.take n)
  | _, _, 0, _ => .nil
  | _, _, _ + 1, .nil => .nil
  | _, _, n + 1, .cons r t => .cons r (Vals.take n t)
theorem Vals.drop : ∀ {xs : List V} {us : List Value} (n : Nat), Vals xs us → Vals (xs.drop n) (us.drop n)
  | _, _, 0, r => r
  | _, _, _ + 1, .nil => .nil
  | _, _, n + 1, .cons _ t => Vals.drop n t
def RelO : Option V → Option Value → Prop
  | some v, some u => RelV v u
  | none, none => True
  | _, _ => False
def KV {κ : Type} : List (κ × V) → List (κ × Value) → Prop := Paired fun (p : κ × V) (q : κ × Value) => p.1 = q.1 ∧ RelV p.2 q.2
def kV : Key → V
  | .inl i => .int i
  | .inr x => .str x
inductive HO where
  /-- a list -/
  | lst (xs : List V)
  /-- a tuple (never changes) -/
  | tup (xs : List V)
  /-- a dict whose keys are ints and texts; one whose keys are tuples of ints and texts (the empty one is both) -/
  | dK (kvs : List (Key × V)) | dT (kvs : List (List Key × V))
  /-- a set of ints: its members, its size -/
  | set (S : Int → Bool) (n : Nat)
  /-- an instance of the class at C, its dict at dx, its attributes -/
  | ins (C dx : Addr) (fs : List (Str × V))
  /-- the dict of the instance at x -/
  | own (x : Addr)
  /-- the dict of an exception -/
  | xd (fs : List (Str × V))
  /-- a bound method, f of x -/
  | met (f x : Addr)
  /-- a range object lo, lo + 1, .. below hi -/
  | rng (lo hi : Int)
  /-- a thing that is known to the object (the script; a dict while a loop walks it): read, never written while it is so -/
  | frz (o : Obj) (u : HO)
  /-- a code object's table -/
  | tbl (ps : Array Value)
  /-- any other thing, by what is true of its one object (a def of one's own: SetO a S n := HO.ext fun h => ..) -/
  | ext (φ : Heap → Prop)
abbrev Hp := Addr → Option HO
def upd (H : Hp) (a : Addr) (o : HO) : Hp := fun b => if b = a then some o else H b
theorem upd_same {H : Hp} {a : Addr} {o : HO} : upd H a o a = some o := by unfold upd; rw [if_pos rfl]
theorem upd_ne {H : Hp} {a b : Addr} {o : HO} (h : b ≠ a) : upd H a o b = H b := by unfold upd; rw [if_neg h]
theorem upd_upd {H : Hp} {a : Addr} {o u : HO} : upd (upd H a o) a u = upd H a u := by
  funext b; unfold upd; split <;> rfl
theorem ne_of {H : Hp} {a b : Addr} {o u : HO} (h : H a = some o) (h' : H b = some u) (d : o ≠ u) : a ≠ b := by
  intro e; subst e; rw [h] at h'; exact d (Option.some.inj h')
theorem ne_of_none {H : Hp} {a b : Addr} {o : HO} (h : H a = some o) (h' : H b = none) : a ≠ b := by
  intro e; subst e; rw [h] at h'; cases h'
section
variable (P : Program) (w : World)
def ObjOk (H : Hp) (h : Heap) (a : Addr) : HO → Prop
  | .lst xs => xs.length ≤ sizeLine ∧ ∃ (its : List Value) (n : Nat), Vals xs its ∧ h.get? a = some { cls := .type "list", data := .seq its.toArray n }
  | .tup xs => xs.length ≤ sizeLine ∧ ∃ its : List Value, Vals xs its ∧ IsTup h a its.toArray
  | .dK kvs => kvs.length ≤ sizeLine ∧ (a == sysModules) = false ∧ ∃ vs, KV kvs vs ∧ h.DictOf (mixKind P w) a vs
  | .dT kvs => kvs.length ≤ sizeLine ∧ (a == sysModules) = false ∧ ∃ xs : List (List Key × Addr × Value),
      Paired (fun (p : List Key × V) (q : List Key × Addr × Value) => p.1 = q.1 ∧ H q.2.1 = some (.tup (p.1.map kV)) ∧ RelV p.2 q.2.2) kvs xs ∧
      ∃ o es ep, h.get? a = some o ∧ o.ExactDict ∧ o.data = .dict es ep ∧ es.toList = xs.map (entryOfKey (tupleKind (mixKind P w))) ∧ (xs.map (·.1)).Nodup
  | .set S n => h.SetOf (intKind P w) a S n
  | .ins C dx fs => H dx = some (.own a) ∧ fs.length ≤ 1000 ∧ dx ≠ a ∧ h.get? a = some (PySem.W.instObj C dx) ∧
      ∃ mA, h.Ns1 dx mA ∧ (∀ f, RelO (fs.lookup f) (mA f)) ∧ PySem.Within mA (fs.map (·.1))
  | .own _ => ∃ o, h.get? a = some o
  | .xd fs => ∃ mA, h.Ns1 a mA ∧ ∀ f, RelO (fs.lookup f) (mA f)
  | .rng lo hi => ∃ t u v, h.get? a = some { cls := .type "range", data := .fields #[.int lo t, .int hi u, .int 1 v] }
  | .frz o u => h.get? a = some o ∧ ObjOk H h a u
  | .tbl ps => h.get? a = some { cls := .none, data := .fields ps }
  | .met f x => h.get? a = some (PySem.W.methodObj (.ref f) (.ref x))
  | .ext φ => φ h ∧ (∃ o, h.get? a = some o) ∧ ∀ h1 h2 : Heap, φ h1 → (∀ o, h1.get? a = some o → h2.get? a = some o) → φ h2
def HOk (H : Hp) (h : Heap) : Prop := ∀ a o, H a = some o → ObjOk P w H h a o
end
section
variable {P : Program} {w : World} {H H' : Hp} {h h' : Heap} {a : Addr} {o : HO}
theorem ObjOk.lt (x : ObjOk P w H h a o) : a < h.objs.size := by
  cases o with
  | lst xs => obtain ⟨_, _, _, _, e⟩ := x; exact Heap.lt_size e
  | tup xs => obtain ⟨_, _, _, p⟩ := x; exact p.lt
  | dK kvs => obtain ⟨_, _, _, _, o, _, _, e, _⟩ := x; exact Heap.lt_size e
  | dT kvs => obtain ⟨_, _, _, _, o, _, _, e, _⟩ := x; exact Heap.lt_size e
  | set S n => obtain ⟨o, _, _, _, e, _⟩ := x; exact Heap.lt_size e
  | ins C dx fs => obtain ⟨_, _, _, e, _⟩ := x; exact Heap.lt_size e
  | own y => obtain ⟨_, e⟩ := x; exact Heap.lt_size e
  | xd fs => obtain ⟨_, ⟨_, _, _, e, _⟩, _⟩ := x; exact Heap.lt_size e
  | rng lo hi => obtain ⟨_, _, _, e⟩ := x; exact Heap.lt_size e
  | frz ob u => obtain ⟨e, _⟩ := x; exact Heap.lt_size e
  | tbl ps => exact Heap.lt_size (show h.get? a = some _ from x)
  | met f y => exact Heap.lt_size (show h.get? a = some _ from x)
  | ext φ => obtain ⟨_, ⟨_, e⟩, _⟩ := x; exact Heap.lt_size e
theorem Paired.mapP {α β : Type} {F G : α → β → Prop} : ∀ {l₁ : List α} {l₂ : List β}, Paired F l₁ l₂ → (∀ a b, F a b → G a b) → Paired G l₁ l₂
  | _, _, .nil, _ => .nil
  | _, _, .cons r t, f => .cons (f _ _ r) (Paired.mapP t f)
theorem Paired.imp' {α β : Type} {F G : α → β → Prop} (f : ∀ a b, F a b → G a b) {l₁ : List α} {l₂ : List β} (r : Paired F l₁ l₂) : Paired G l₁ l₂ := Paired.mapP r f
theorem ObjOk.stay (x : ObjOk P w H h a o) (k : ∀ b u, (b = a ∨ H b = some (.own a)) → h.get? b = some u → h'.get? b = some u)
    (ho : ∀ b, H b = some (.own a) → H' b = some (.own a)) (ht : ∀ b xs, H b = some (.tup xs) → H' b = some (.tup xs)) : ObjOk P w H' h' a o := by
  induction o with
  | lst xs => obtain ⟨z, its, n, r, e⟩ := x; exact ⟨z, its, n, r, k _ _ (.inl rfl) e⟩
  | tup xs => obtain ⟨z, its, r, ob, e, c⟩ := x; exact ⟨z, its, r, ob, k _ _ (.inl rfl) e, c⟩
  | dK kvs => obtain ⟨z, y, vs, r, ob, es, ep, e, c⟩ := x; exact ⟨z, y, vs, r, ob, es, ep, k _ _ (.inl rfl) e, c⟩
  | dT kvs =>
    obtain ⟨z, y, xs, r, ob, es, ep, e, c⟩ := x
    exact ⟨z, y, xs, Paired.mapP r fun p q z => ⟨z.1, ht _ _ z.2.1, z.2.2⟩, ob, es, ep, k _ _ (.inl rfl) e, c⟩
  | set S n => obtain ⟨ob, es, ep, t, e, c⟩ := x; exact ⟨ob, es, ep, t, k _ _ (.inl rfl) e, c⟩
  | ins C dx fs =>
    obtain ⟨d, z, ne, e, mA, ⟨od, es, ep, e2, c⟩, r⟩ := x
    exact ⟨ho _ d, z, ne, k _ _ (.inl rfl) e, mA, ⟨od, es, ep, k _ _ (.inr d) e2, c⟩, r⟩
  | own y => obtain ⟨ob, e⟩ := x; exact ⟨ob, k _ _ (.inl rfl) e⟩
  | xd fs => obtain ⟨mA, ⟨od, es, ep, e, c⟩, r⟩ := x; exact ⟨mA, ⟨od, es, ep, k _ _ (.inl rfl) e, c⟩, r⟩
  | rng lo hi => obtain ⟨t, u, v, e⟩ := x; exact ⟨t, u, v, k _ _ (.inl rfl) e⟩
  | frz ob u ih => obtain ⟨e, q⟩ := x; exact ⟨k _ _ (.inl rfl) e, ih q⟩
  | tbl ps =>
    have e : h.get? a = some { cls := .none, data := .fields ps } := x
    show h'.get? a = some { cls := .none, data := .fields ps }
    exact k a _ (.inl rfl) e
  | met f y =>
    have e : h.get? a = some (PySem.W.methodObj (.ref f) (.ref y)) := x
    show h'.get? a = some (PySem.W.methodObj (.ref f) (.ref y))
    exact k a _ (.inl rfl) e
  | ext φ => obtain ⟨p, ⟨o, e⟩, st⟩ := x; exact ⟨st _ _ p fun o q => k _ _ (.inl rfl) q, ⟨o, k _ _ (.inl rfl) e⟩, st⟩
theorem HOk.lt (x : HOk P w H h) (e : H a = some o) : a < h.objs.size := (x a o e).lt
theorem HOk.fresh (x : HOk P w H h) (e : h.objs.size ≤ a) : H a = none := by
  cases q : H a with
  | none => rfl
  | some u => exact absurd (Nat.lt_of_lt_of_le (x.lt q) e) (Nat.lt_irrefl _)
theorem HOk.kept (x : HOk P w H h) (k : ∀ b u, h.get? b = some u → h'.get? b = some u) : HOk P w H h' := fun a o e =>
  (x a o e).stay (fun b u _ q => k b u q) (fun _ q => q) fun _ _ q => q
theorem HOk.laid (x : HOk P w H h) (k : ∀ b u, h.get? b = some u → h'.get? b = some u) (hp : h.objs.size ≤ a) (new : ObjOk P w (upd H a o) h' a o) : HOk P w (upd H a o) h' := fun b u e => by
  have hn := x.fresh hp
  by_cases hb : b = a
  · subst hb; rw [upd_same] at e; cases e; exact new
  · rw [upd_ne hb] at e
    exact (x b u e).stay (fun c v _ q => k c v q) (fun c q => by rw [upd_ne (ne_of_none q hn)]; exact q) fun c xs q => by rw [upd_ne (ne_of_none q hn)]; exact q
end
def Rd (H : Hp) (a : Addr) (u : HO) : Prop := H a = some u ∨ ∃ o, H a = some (.frz o u)
theorem Rd.ok {P : Program} {w : World} {H : Hp} {h : Heap} {a : Addr} {u : HO} (r : Rd H a u) (x : HOk P w H h) : ObjOk P w H h a u := by
  rcases r with r | ⟨o, r⟩
  · exact x a u r
  · obtain ⟨_, q⟩ := x a _ r
    exact q
def Mut : Option HO → Prop
  | some (.lst _) => True
  | some (.dK _) => True
  | some (.dT _) => True
  | some (.set _ _) => True
  | some (.ins _ _ _) => True
  | some (.ext _) => True
  | _ => False
section
variable {P : Program} {w : World} {H : Hp} {h h' : Heap} {x e : Addr} {o' : HO}
theorem HOk.write (ok : HOk P w H h) (mu : Mut (H x)) (he : e = x ∨ H e = some (.own x)) (k : ∀ b u, b ≠ e → h.get? b = some u → h'.get? b = some u) (heo : ∃ u, h'.get? e = some u)
    (new : ObjOk P w (upd H x o') h' x o') : HOk P w (upd H x o') h' := fun b u q => by
  have nown : ∀ c y, H c = some (.own y) → c ≠ x := fun c y r z => by subst z; rw [r] at mu; exact mu
  have ntup : ∀ c xs, H c = some (.tup xs) → c ≠ x := fun c xs r z => by subst z; rw [r] at mu; exact mu
  by_cases hb : b = x
  · subst hb; rw [upd_same] at q; cases q; exact new
  · rw [upd_ne hb] at q
    by_cases hbe : b = e
    · have q' : H b = some (.own x) := by
        rcases he with z | z
        · exact absurd (hbe.trans z) hb
        · rw [hbe]; exact z
      rw [q] at q'; cases q'
      obtain ⟨v, hv⟩ := heo
      exact ⟨v, by rw [hbe]; exact hv⟩
    · refine (ok b u q).stay (fun c v hc r => k c v ?_ r) (fun c r => by rw [upd_ne (nown c b r)]; exact r) fun c xs r => by rw [upd_ne (ntup c xs r)]; exact r
      rcases hc with rfl | hc
      · exact hbe
      · rintro rfl
        rcases he with z | z
        · exact nown c b hc z
        · rw [hc] at z; cases z; exact hb rfl
end
structure Un (fs ex : List Addr) (H H' : Hp) (h h' : Heap) : Prop where
  keep : ∀ b o, h.get? b = some o → H b = none → b ∉ fs → b ∉ ex → h'.get? b = some o
  slot : ∀ b o, h.get? b = some o → H b = none → b ∈ fs → b ∉ ex → ∃ sl, h'.get? b = some { o with slots := sl }
  free : ∀ b o, h.get? b = some o → H b = none → b ∉ ex → H' b = none
  there : ∀ b o, h.get? b = some o → b ∉ ex → ∃ o', h'.get? b = some o'
  tups : ∀ b xs, H b = some (.tup xs) → H' b = some (.tup xs)
  frzs : ∀ b o u, H b = some (.frz o u) → H' b = some (.frz o u)
  tbls : ∀ b ps, H b = some (.tbl ps) → ∃ more, H' b = some (.tbl (ps ++ more))
section
variable {fs fs' ex ex' : List Addr} {H H1 H2 : Hp} {h h1 h2 h' : Heap} {a x e : Addr} {o : HO}
theorem Un.any (u : Un fs ex H H1 h h1) {b : Addr} {ob : Obj} (q : h.get? b = some ob) (n : H b = none) (hx : b ∉ ex) : ∃ sl, h1.get? b = some { ob with slots := sl } := by
  by_cases hb : b ∈ fs
  · exact u.slot b ob q n hb hx
  · exact ⟨ob.slots, u.keep b ob q n hb hx⟩
theorem Un.kept (k : ∀ b u, h.get? b = some u → h'.get? b = some u) : Un fs ex H H h h' :=
  ⟨fun b ob q _ _ _ => k b ob q, fun b ob q _ _ _ => ⟨ob.slots, k b ob q⟩, fun _ _ _ n _ => n, fun b ob q _ => ⟨ob, k b ob q⟩, fun _ _ q => q, fun _ _ _ q => q, fun _ ps q => ⟨#[], by rw [q]; simp⟩⟩
theorem Un.refl : Un fs ex H H h h := Un.kept fun _ _ q => q
theorem Un.laid (k : ∀ b u, h.get? b = some u → h'.get? b = some u) (hp : h.objs.size ≤ a) (hn : H a = none) : Un fs ex H (upd H a o) h h' where
  keep := fun b u q _ _ _ => k b u q
  slot := fun b u q _ _ _ => ⟨u.slots, k b u q⟩
  free := fun b u q n _ => by rw [upd_ne (Nat.ne_of_lt (Nat.lt_of_lt_of_le (Heap.lt_size q) hp))]; exact n
  there := fun b u q _ => ⟨u, k b u q⟩
  tups := fun b xs q => by rw [upd_ne (ne_of_none q hn)]; exact q
  frzs := fun b u xs q => by rw [upd_ne (ne_of_none q hn)]; exact q
  tbls := fun b ps q => ⟨#[], by rw [upd_ne (ne_of_none q hn), q]; simp⟩
theorem Un.write (mu : Mut (H x)) (he : e = x ∨ H e = some (.own x)) (k : ∀ b u, b ≠ e → h.get? b = some u → h'.get? b = some u) (heo : ∃ u, h'.get? e = some u) : Un fs ex H (upd H x o) h h' := by
  have hx : ∀ b, H b = none → b ≠ x := fun b n z => by subst z; rw [n] at mu; exact mu
  have hb : ∀ b, H b = none → b ≠ e := fun b n z => by
    subst z
    rcases he with r | r
    · exact hx b n r
    · rw [n] at r; cases r
  have hm : ∀ b u, H b = some u → ¬ Mut (some u) → b ≠ x := fun b u q nm z => by subst z; rw [q] at mu; exact nm mu
  refine ⟨fun b u q n _ _ => k b u (hb b n) q, fun b u q n _ _ => ⟨u.slots, k b u (hb b n) q⟩, fun b u q n _ => by rw [upd_ne (hx b n)]; exact n, fun b u q _ => ?_,
    fun b xs q => by rw [upd_ne (hm b _ q fun z => z)]; exact q, fun b u xs q => by rw [upd_ne (hm b _ q fun z => z)]; exact q, fun b ps q => ⟨#[], by rw [upd_ne (hm b _ q fun z => z), q]; simp⟩⟩
  by_cases hbe : b = e
  · subst hbe; exact heo
  · exact ⟨u, k b u hbe q⟩
end
def trk (h : Heap) (H : Hp) : List Addr := (List.range h.objs.size).filter fun a => (H a).isSome
def hidT (h : Heap) (H : Hp) : Heap := PySem.W.hideAll h (trk h H)
theorem hidT_size (h : Heap) (H : Hp) : (hidT h H).objs.size = h.objs.size := PySem.W.hideAll_size _ _
theorem hidT_get {h : Heap} {H : Hp} {b : Addr} {o : Obj} (e : h.get? b = some o) (n : H b = none) : (hidT h H).get? b = some o :=
  PySem.W.hideAll_get _ e fun hm => by
    have q : (H b).isSome = true := (List.mem_filter.mp hm).2
    rw [n] at q; simp at q
theorem of_hidT {h : Heap} {H : Hp} {b : Addr} {o : Obj} (e : (hidT h H).get? b = some o) : h.get? b = some o ∧ H b = none := by
  have e' : h.get? b = some o := PySem.W.of_hideAll (trk h H) e
  refine ⟨e', ?_⟩
  cases q : H b with
  | none => rfl
  | some x =>
    have hm : b ∈ trk h H := List.mem_filter.mpr ⟨List.mem_range.mpr (Heap.lt_size e'), by simp [q]⟩
    have z : (hidT h H).get? b = none := PySem.W.hideAll_none (trk h H) hm
    rw [z] at e; cases e
def allNews (g h : Heap) (L : Addr) : List (Addr × Obj) := (List.range h.objs.size).filterMap fun a => if a = L ∨ (g.get? a).isSome = true then none else (h.get? a).map fun o => (a, o)
def rest (g h : Heap) (L d : Addr) : List (Addr × Obj) := (allNews g h L).filter fun p => decide (p.1 ≠ d)
end L2
namespace L2
open PySem PySem.Spec PyProof.Rows
structure Mod (K : PySem.W.Frag) (mg : Str → Option Value) (base : Heap) : Prop where
  kin : K.In base
  glob : base.Ns mainGlobals mg
  blt : ∃ mb, base.Ns builtinsNs mb ∧ ∀ x : Str, x ≠ "__name__" → mb x = bootBuiltins x
  nolimit : base.NoLimit
structure Cx where
  prog : Program
  w : World
  K : PySem.W.Frag
  mg : Str → Option Value
  base : Heap
  A : Around
  N : List Str
  s₀ : Shared
  H₀ : Hp
  env : Env
  outer : List Env
  stack : List Env
  ex : List Addr
  fn : Str → Bool
  calm : Bool
  pn : List (Addr × Obj)
  xe : Value → Shared → Prop
def frs (l : List Env) : List Addr := l.filterMap (·.frame)
abbrev Cx.fs (X : Cx) : List Addr := frs X.outer
def Vis (sc : Scope) (x : Str) : Prop := sc.names.lookup x = some .local ∨ sc.names.lookup x = some .cell ∨ sc.names.lookup x = some .free
def Loc (sc : Scope) (x : Str) : Prop := sc.names.lookup x = some .local ∨ sc.names.lookup x = some .cell
def Look (env : Env) (h : Heap) (m : Str → Option Value) (x : Str) (u : Value) : Prop :=
  (env.kindOf x = some .local ∧ m x = some u) ∨ ((env.kindOf x = some .cell ∨ env.kindOf x = some .free) ∧ ∃ c, env.cells.lookup x = some c ∧ h.IsCell c (some u))
structure Cx.Ok (X : Cx) : Prop where
  mod : Mod X.K X.mg X.base
  kind : X.env.scope.kind = .function
  glob : X.env.globals = mainGlobals
  blt : X.env.builtins = builtinsNs
  above : X.s₀.heap.objs.size ≤ X.env.locals
  inj : ∀ x y c, X.env.cells.lookup x = some c → X.env.cells.lookup y = some c → x = y
  has : ∀ x, (X.env.kindOf x = some .cell ∨ X.env.kindOf x = some .free) → ∃ c, X.env.cells.lookup x = some c
  cab : ∀ x c, X.fn x = true → X.env.cells.lookup x = some c → X.s₀.heap.objs.size ≤ c
  hd : X.calm = true → X.A.handled = none
  frames : X.A.frames = some X.stack
  stk : X.stack = X.outer ∨ (X.stack = X.env :: X.outer ∧ X.env.frame = some X.env.locals)
  exf : ∀ b ∈ X.ex, b ≠ X.env.locals ∧ ∀ x c, X.env.cells.lookup x = some c → c ≠ b
  bs : ∀ b o, X.base.get? b = some o → X.s₀.heap.get? b = some o ∧ X.H₀ b = none
  bsz : X.base.objs.size ≤ X.s₀.heap.objs.size
  noex : ∀ b o, X.base.get? b = some o → b ∉ X.ex
  exfs : ∀ b ∈ X.ex, b ∉ X.fs
  funs : X.s₀.heap.FunFrames X.base X.outer
  frf : ∀ b ∈ X.fs, X.H₀ b = none
structure Inv (X : Cx) (pins : List (Addr × Obj)) (σ : List (Option V)) (H : Hp) (s : Shared) : Prop where
  ok : X.Ok
  os : s.os = X.s₀.os
  bare : AllBare s.gens
  base : Un X.fs X.ex X.H₀ H X.s₀.heap s.heap
  loc : ∃ m, s.heap.Ns X.env.locals m ∧ ∀ (i : Nat) (x : Str) (v : V), X.N[i]? = some x → σ[i]? = some (some v) → Vis X.env.scope x → ∃ u, RelV v u ∧ Look X.env s.heap m x u
  cell : ∀ x c, X.env.cells.lookup x = some c → ∃ v, s.heap.IsCell c v
  free : H X.env.locals = none
  freeC : ∀ x c, X.env.cells.lookup x = some c → H c = none
  pin : ∀ p ∈ X.pn ++ pins, s.heap.get? p.1 = some p.2 ∧ H p.1 = none ∧ p.1 ≠ X.env.locals ∧ p.1 ∉ X.fs ∧ ∀ v, p.2.data ≠ .cell v
  hok : HOk X.prog X.w H s.heap
  len : σ.length = X.N.length
section
variable {X : Cx} {pins : List (Addr × Obj)} {σ : List (Option V)} {H H' : Hp} {s : Shared} {h' : Heap}
theorem Cx.Ok.nofr (ok : X.Ok) {b : Addr} {o : Obj} (e : X.base.get? b = some o) : b ∉ X.fs := fun hb => by
  have := (ok.funs.mem hb).1
  rw [e] at this; cases this
theorem Inv.bs (I : Inv X pins σ H s) : ∀ b o, X.base.get? b = some o → s.heap.get? b = some o ∧ H b = none := fun b o e =>
  ⟨I.base.keep b o (I.ok.bs b o e).1 (I.ok.bs b o e).2 (I.ok.nofr e) (I.ok.noex b o e), I.base.free b o (I.ok.bs b o e).1 (I.ok.bs b o e).2 (I.ok.noex b o e)⟩
theorem Inv.bk (I : Inv X pins σ H s) : ∀ b o, X.base.get? b = some o → s.heap.get? b = some o := fun b o e => (I.bs b o e).1
theorem Inv.mod (I : Inv X pins σ H s) : Mod X.K X.mg X.base := I.ok.mod
theorem Inv.kIn (I : Inv X pins σ H s) : X.K.In s.heap := I.ok.mod.kin.keeps I.bk
theorem Inv.lt (I : Inv X pins σ H s) : X.env.locals < s.heap.objs.size := let ⟨_, hn, _⟩ := I.loc; hn.lt
theorem Inv.sz (I : Inv X pins σ H s) : X.s₀.heap.objs.size ≤ s.heap.objs.size := Nat.le_trans I.ok.above (Nat.le_of_lt I.lt)
theorem Inv.nofs (I : Inv X pins σ H s) {a : Addr} (h : s.heap.objs.size ≤ a) : a ∉ X.fs := fun hb => by
  obtain ⟨_, o, ho, _⟩ := I.ok.funs.mem hb
  exact absurd (Nat.lt_of_lt_of_le (Heap.lt_size ho) (Nat.le_trans I.sz h)) (Nat.lt_irrefl _)
theorem Inv.cne (I : Inv X pins σ H s) : ∀ x c, X.env.cells.lookup x = some c → c ≠ X.env.locals := fun x c e z => by
  obtain ⟨v, o, ho, hd⟩ := I.cell x c e
  obtain ⟨m, ⟨o', es, ep, ho', hd', _⟩, _⟩ := I.loc
  rw [z, ho'] at ho; cases ho; rw [hd'] at hd; cases hd
theorem Inv.funs (I : Inv X pins σ H s) : s.heap.FunFrames X.base X.outer := by
  have all : ∀ (l : List Env), (∀ b ∈ frs l, b ∈ X.fs) → X.s₀.heap.FunFrames X.base l → s.heap.FunFrames X.base l := by
    intro l
    induction l with
    | nil => intro _ _; trivial
    | cons env r ih =>
      intro hs hl
      obtain ⟨hk, ⟨L, o, hf, hn, ho, hd⟩, hr⟩ := hl
      have hL : L ∈ X.fs := hs L (by unfold frs; rw [List.filterMap_cons, hf]; exact List.mem_cons_self)
      obtain ⟨sl, e⟩ := I.base.slot L o ho (I.ok.frf L hL) hL fun z => I.ok.exfs L z hL
      exact ⟨hk, ⟨L, _, hf, hn, e, hd⟩, ih (fun b hb => hs b (by unfold frs; rw [List.filterMap_cons, hf]; exact List.mem_cons_of_mem _ hb)) hr⟩
  exact all X.outer (fun _ hb => hb) I.ok.funs
theorem Inv.stack (I : Inv X pins σ H s) : s.heap.FunFrames X.base X.stack := by
  rcases I.ok.stk with e | ⟨e, hf⟩
  · rw [e]; exact I.funs
  · rw [e]
    obtain ⟨m, hn, _⟩ := I.loc
    refine .cons (by rw [I.ok.kind]; decide) hf hn ?_ I.funs
    exact Heap.get?_none_of_le (Nat.le_trans I.ok.bsz I.ok.above)
theorem Inv.stkSub (I : Inv X pins σ H s) : ∀ b ∈ frs X.stack, b ∈ X.env.locals :: X.fs := fun b hb => by
  rcases I.ok.stk with e | ⟨e, hf⟩
  · rw [e] at hb; exact List.mem_cons_of_mem _ hb
  · rw [e] at hb
    unfold frs at hb
    rw [List.filterMap_cons, hf] at hb
    exact hb
theorem Inv.stkFree (I : Inv X pins σ H s) : ∀ b ∈ frs X.stack, H b = none := fun b hb => by
  rcases List.mem_cons.mp (I.stkSub b hb) with e | hb
  · rw [e]; exact I.free
  · obtain ⟨_, o, ho, _⟩ := I.ok.funs.mem hb
    exact I.base.free b o ho (I.ok.frf b hb) fun z => I.ok.exfs b z hb
theorem Inv.step {g' : Array GenState} {t' : Nat} {d' : Drawn} {ch : List Addr} (I : Inv X pins σ H s)
    (hch : ∀ b ∈ ch, (b ∈ X.ex ∨ X.s₀.heap.objs.size ≤ b) ∧ b ≠ X.env.locals ∧ (∀ x c, X.env.cells.lookup x = some c → c ≠ b) ∧ ∀ p ∈ X.pn ++ pins, p.1 ≠ b)
    (keep : ∀ b o, b ≠ X.env.locals → b ∉ X.fs → b ∉ ch → s.heap.get? b = some o → H b = none → h'.get? b = some o)
    (slot : ∀ b o, b ≠ X.env.locals → b ∈ X.fs → b ∉ ch → s.heap.get? b = some o → H b = none → ∃ sl, h'.get? b = some { o with slots := sl }) (free : ∀ b o, b ∉ ch → s.heap.get? b = some o → H b = none → H' b = none)
    (there : ∀ b o, b ∉ ch → s.heap.get? b = some o → ∃ o', h'.get? b = some o')
    (tups : ∀ b xs, H b = some (.tup xs) → H' b = some (.tup xs)) (frzs : ∀ b o u, H b = some (.frz o u) → H' b = some (.frz o u)) (tbls : ∀ b ps, H b = some (.tbl ps) → ∃ more, H' b = some (.tbl (ps ++ more)))
    (ns : ∀ m, s.heap.Ns X.env.locals m → h'.Ns X.env.locals m) (hok : HOk X.prog X.w H' h') (hg : AllBare g') :
    Inv X pins σ H' { s with heap := h', gens := g', drawn := d', toks := t' } := by
  have neL : ∀ b o, X.s₀.heap.get? b = some o → b ≠ X.env.locals := fun b o e => Nat.ne_of_lt (Nat.lt_of_lt_of_le (Heap.lt_size e) I.ok.above)
  have neC : ∀ b o, X.s₀.heap.get? b = some o → b ∉ X.ex → b ∉ ch := fun b o e hx hb => by
    rcases (hch b hb).1 with z | z
    · exact hx z
    · exact absurd (Nat.lt_of_lt_of_le (Heap.lt_size e) z) (Nat.lt_irrefl _)
  have cellK : ∀ x c, X.env.cells.lookup x = some c → ∀ v, s.heap.IsCell c v → h'.IsCell c v := fun x c e v ⟨o, ho, hd⟩ => by
    have nch : c ∉ ch := fun z => (hch c z).2.2.1 x c e rfl
    by_cases hc : c ∈ X.fs
    · obtain ⟨sl, q⟩ := slot c o (I.cne x c e) hc nch ho (I.freeC x c e)
      exact ⟨_, q, hd⟩
    · exact ⟨o, keep c o (I.cne x c e) hc nch ho (I.freeC x c e), hd⟩
  refine ⟨I.ok, I.os, hg, ⟨fun b o e n hb hx => ?_, fun b o e n hb hx => ?_, fun b o e n hx => ?_, fun b o e hx => ?_, fun b xs e => tups b xs (I.base.tups b xs e), fun b o xs e => frzs b o xs (I.base.frzs b o xs e), fun b ps e => ?_⟩, ?_, fun x c e => ?_, ?_, fun x c e => ?_, fun p hp => ?_, hok, I.len⟩
  · exact keep b o (neL b o e) hb (neC b o e hx) (I.base.keep b o e n hb hx) (I.base.free b o e n hx)
  · obtain ⟨sl, e1⟩ := I.base.slot b o e n hb hx
    obtain ⟨sl', e2⟩ := slot b _ (neL b o e) hb (neC b o e hx) e1 (I.base.free b o e n hx)
    exact ⟨sl', e2⟩
  · obtain ⟨o', e1⟩ := I.base.there b o e hx
    exact free b o' (neC b o e hx) e1 (I.base.free b o e n hx)
  · obtain ⟨o', e1⟩ := I.base.there b o e hx
    exact there b o' (neC b o e hx) e1
  · obtain ⟨m1, e1⟩ := I.base.tbls b ps e
    obtain ⟨m2, e2⟩ := tbls b _ e1
    exact ⟨m1 ++ m2, by rw [e2, Array.append_assoc]⟩
  · obtain ⟨m, hn, hl⟩ := I.loc
    refine ⟨m, ns m hn, fun i x v e1 e2 e3 => ?_⟩
    obtain ⟨u, r, l⟩ := hl i x v e1 e2 e3
    refine ⟨u, r, ?_⟩
    rcases l with l | ⟨k, c, e, z⟩
    · exact .inl l
    · exact .inr ⟨k, c, e, cellK x c e _ z⟩
  · obtain ⟨v, z⟩ := I.cell x c e
    exact ⟨v, cellK x c e v z⟩
  · obtain ⟨m, ⟨o, _, _, ho, _⟩, _⟩ := I.loc
    exact free _ o (fun z => (hch _ z).2.1 rfl) ho I.free
  · obtain ⟨v, o, ho, hd⟩ := I.cell x c e
    exact free c o (fun z => (hch c z).2.2.1 x c e rfl) ho (I.freeC x c e)
  · obtain ⟨e, n, ne, nf, d⟩ := I.pin p hp
    have nch : p.1 ∉ ch := fun z => (hch p.1 z).2.2.2 p hp rfl
    exact ⟨keep p.1 p.2 ne nf nch e n, free p.1 p.2 nch e n, ne, nf, d⟩
theorem Inv.un {t' : Nat} (I : Inv X pins σ H s) (u : Un X.fs [] H H' s.heap h') (hok : HOk X.prog X.w H' h') : Inv X pins σ H' { s with heap := h', toks := t' } := by
  obtain ⟨m, ⟨o, es, ep, ho, r⟩, _⟩ := id I.loc
  obtain ⟨sl, hL⟩ := u.any ho I.free (by simp)
  exact I.step (g' := s.gens) (d' := s.drawn) (ch := []) (fun _ z => nomatch z) (fun b o _ hb _ e n => u.keep b o e n hb (by simp)) (fun b o _ hb _ e n => u.slot b o e n hb (by simp)) (fun b o _ e n => u.free b o e n (by simp)) (fun b o _ e => u.there b o e (by simp)) u.tups u.frzs u.tbls (fun m' hm => by
    obtain ⟨o', es', ep', ho', r'⟩ := hm
    rw [ho] at ho'; cases ho'
    exact ⟨_, es', ep', hL, r'⟩) hok I.bare
theorem Inv.call {g' : Array GenState} {t' : Nat} {d' : Drawn} {ch : List Addr} (I : Inv X pins σ H s) (u : Un (frs X.stack) ch H H' s.heap h') (hok : HOk X.prog X.w H' h') (hg : AllBare g')
    (hch : ∀ b ∈ ch, (b ∈ X.ex ∨ X.s₀.heap.objs.size ≤ b) ∧ b ≠ X.env.locals ∧ (∀ x c, X.env.cells.lookup x = some c → c ≠ b) ∧ ∀ p ∈ X.pn ++ pins, p.1 ≠ b) :
    Inv X pins σ H' { s with heap := h', gens := g', drawn := d', toks := t' } := by
  obtain ⟨m, ⟨o, es, ep, ho, r⟩, _⟩ := id I.loc
  obtain ⟨sl, hL⟩ := u.any ho I.free fun z => (hch _ z).2.1 rfl
  exact I.step (ch := ch) hch (fun b o hL hb hc e n => u.keep b o e n (fun z => (List.mem_cons.mp (I.stkSub b z)).elim hL hb) hc) (fun b o _ _ hc e n => u.any e n hc) (fun b o hc e n => u.free b o e n hc) (fun b o hc e => u.there b o e hc) u.tups u.frzs u.tbls (fun m' hm => by
    obtain ⟨o', es', ep', ho', r'⟩ := hm
    rw [ho] at ho'; cases ho'
    exact ⟨_, es', ep', hL, r'⟩) hok hg
theorem Inv.turned {t' : Nat} {it : Addr} (I : Inv X pins σ H s) (k : ∀ b o, b ≠ it → s.heap.get? b = some o → h'.get? b = some o) (hn : H it = none) (hL : it ≠ X.env.locals)
    (h1 : it ∈ X.ex ∨ X.s₀.heap.objs.size ≤ it) (h2 : ∀ x c, X.env.cells.lookup x = some c → c ≠ it) (h3 : ∀ p ∈ X.pn ++ pins, p.1 ≠ it) : Inv X pins σ H { s with heap := h', toks := t' } := by
  have nit : ∀ b u, H b = some u → b ≠ it := fun b u e z => by rw [z, hn] at e; cases e
  refine I.step (g' := s.gens) (d' := s.drawn) (ch := [it]) (fun b hb => ?_) (fun b o _ _ hc e _ => k b o (fun z => hc (by simp [z])) e) (fun b o _ _ hc e _ => ⟨o.slots, k b o (fun z => hc (by simp [z])) e⟩) (fun _ _ _ _ n => n)
    (fun b o hc e => ⟨o, k b o (fun z => hc (by simp [z])) e⟩) (fun _ _ e => e) (fun _ _ _ e => e) (fun b ps e => ⟨#[], by rw [e]; simp⟩) (fun m hm => ?_) (fun b u e => ?_) I.bare
  · have e : b = it := by simpa using hb
    subst e
    exact ⟨h1, hL, h2, h3⟩
  · obtain ⟨o, es, ep, ho, r⟩ := hm
    exact ⟨o, es, ep, k _ o (Ne.symm hL) ho, r⟩
  · refine (I.hok b u e).stay (fun c v hc q => k c v ?_ q) (fun _ q => q) fun _ _ q => q
    rcases hc with z | z
    · rw [z]; exact nit b u e
    · exact nit c _ z
theorem Inv.tok (I : Inv X pins σ H s) (t : Nat) : Inv X pins σ H { s with toks := t } := I.un (h' := s.heap) (t' := t) Un.refl I.hok
theorem Inv.kept {t' : Nat} (I : Inv X pins σ H s) (k : ∀ b u, s.heap.get? b = some u → h'.get? b = some u) : Inv X pins σ H { s with heap := h', toks := t' } := I.un (Un.kept k) (I.hok.kept k)
theorem Inv.laid {a : Addr} {o : HO} {t' : Nat} (I : Inv X pins σ H s) (k : ∀ b u, s.heap.get? b = some u → h'.get? b = some u) (hp : s.heap.objs.size ≤ a) (new : ObjOk X.prog X.w (upd H a o) h' a o) :
    Inv X pins σ (upd H a o) { s with heap := h', toks := t' } := I.un (Un.laid k hp (I.hok.fresh hp)) (I.hok.laid k hp new)
theorem Inv.write {x e : Addr} {o : HO} {t' : Nat} (I : Inv X pins σ H s) (mu : Mut (H x)) (he : e = x ∨ H e = some (.own x)) (k : ∀ b u, b ≠ e → s.heap.get? b = some u → h'.get? b = some u) (heo : ∃ u, h'.get? e = some u)
    (new : ObjOk X.prog X.w (upd H x o) h' x o) : Inv X pins σ (upd H x o) { s with heap := h', toks := t' } := I.un (Un.write mu he k heo) (I.hok.write mu he k heo new)
theorem Inv.pins_of {pins' : List (Addr × Obj)} (I : Inv X pins σ H s) (h : ∀ p ∈ pins', s.heap.get? p.1 = some p.2 ∧ H p.1 = none ∧ p.1 ≠ X.env.locals ∧ p.1 ∉ X.fs ∧ ∀ v, p.2.data ≠ .cell v) : Inv X pins' σ H s :=
  ⟨I.ok, I.os, I.bare, I.base, I.loc, I.cell, I.free, I.freeC, fun p hp => (List.mem_append.mp hp).elim (fun z => I.pin p (List.mem_append_left _ z)) (h p), I.hok, I.len⟩
theorem nodup_ix {N : List Str} (hN : N.Nodup) {i j : Nat} {x : Str} (a : N[i]? = some x) (b : N[j]? = some x) : i = j := by
  obtain ⟨h1, e1⟩ := List.getElem?_eq_some_iff.mp a
  obtain ⟨h2, e2⟩ := List.getElem?_eq_some_iff.mp b
  exact (List.getElem_inj hN).mp (e1.trans e2.symm)
theorem store_ok2 {M : Model} {A : Around} {E : Value → Shared → Prop} {i : Nat} {x : Str} {v : V} {u : Value} {Q : Unit → Shared → Prop} (I : Inv X pins σ H s) (hN : X.N.Nodup) (hi : X.N[i]? = some x) (hx : Loc X.env.scope x) (r : RelV v u)
    (h : ∀ s', Inv X pins (σ.set i (some v)) H s' → (∃ a, Heap.SameBut a s.heap s'.heap ∧ (a = X.env.locals ∨ X.env.cells.lookup x = some a)) → Q () s') (hf : X.fn x = true ∨ X.env.scope.names.lookup x = some .local := by first | exact .inl rfl | exact .inr rfl | assumption) : wpAny M A (storeName X.env x u) Q E s := by
  obtain ⟨m, hn, hl⟩ := id I.loc
  have hcls : (X.env.scope.kind == .class || (X.env.scope.kind == .module && X.env.locals != X.env.globals)) = false := by rw [I.ok.kind]; rfl
  have hiσ : i < σ.length := by rw [I.len]; exact (List.getElem?_eq_some_iff.mp hi).1
  have cne := I.cne
  have tracked : ∀ {a : Addr} {h' : Heap}, (∃ o, s.heap.get? a = some o ∧ H a = none) → Heap.SameBut a s.heap h' → HOk X.prog X.w H h' := fun {a h'} ha hs b ob e => by
    obtain ⟨_, _, hfree⟩ := ha
    refine (I.hok b ob e).stay (fun c w' hc q => (hs.2 c ?_).trans q) (fun _ q => q) fun _ _ q => q
    rintro rfl
    rcases hc with rfl | hc
    · rw [hfree] at e; cases e
    · rw [hfree] at hc; cases hc
  rcases hx with hk | hk
  · refine wpAny_storeName_local hk hn (fun h' hn' hs => ?_) hcls
    obtain ⟨oL, _, _, hoL, _⟩ := id hn
    refine h _ ⟨I.ok, I.os, I.bare, ⟨fun b o e n hb hx => ?_, fun b o e n hb hx => ?_, I.base.free, fun b o e hx => ?_, I.base.tups, I.base.frzs, I.base.tbls⟩, ⟨_, hn', fun j y v' e1 e2 e3 => ?_⟩, fun y c e => ?_, I.free, I.freeC, fun p hp => ?_, tracked ⟨oL, hoL, I.free⟩ hs, by simpa using I.len⟩ ⟨_, hs, .inl rfl⟩
    · exact (hs.2 b (Nat.ne_of_lt (Nat.lt_of_lt_of_le (Heap.lt_size e) I.ok.above))).trans (I.base.keep b o e n hb hx)
    · obtain ⟨sl, e1⟩ := I.base.slot b o e n hb hx
      exact ⟨sl, (hs.2 b (Nat.ne_of_lt (Nat.lt_of_lt_of_le (Heap.lt_size e) I.ok.above))).trans e1⟩
    · obtain ⟨o', e1⟩ := I.base.there b o e hx
      exact ⟨o', (hs.2 b (Nat.ne_of_lt (Nat.lt_of_lt_of_le (Heap.lt_size e) I.ok.above))).trans e1⟩
    · by_cases hj : j = i
      · subst hj
        rw [hi] at e1; cases e1
        rw [List.getElem?_set_self hiσ] at e2
        cases e2
        exact ⟨u, r, .inl ⟨hk, by simp⟩⟩
      · rw [List.getElem?_set_ne (Ne.symm hj)] at e2
        obtain ⟨u', r', q⟩ := hl j y v' e1 e2 e3
        refine ⟨u', r', ?_⟩
        rcases q with ⟨k, e⟩ | ⟨k, c, e, z⟩
        · refine .inl ⟨k, ?_⟩
          have : y ≠ x := fun e => hj (nodup_ix hN e1 (e ▸ hi))
          simp [this, e]
        · exact .inr ⟨k, c, e, z.sameBut hs (cne y c e)⟩
    · obtain ⟨w', z⟩ := I.cell y c e
      exact ⟨w', z.sameBut hs (cne y c e)⟩
    · obtain ⟨e, n, ne, nf, d⟩ := I.pin p hp
      exact ⟨(hs.2 p.1 ne).trans e, n, ne, nf, d⟩
  · have hfn : X.fn x = true := by
      rcases hf with z | z
      · exact z
      · rw [z] at hk; cases hk
    obtain ⟨c, hc⟩ := I.ok.has x (.inl hk)
    obtain ⟨w', z⟩ := I.cell x c hc
    refine wpAny_storeName_cell I.ok.kind hk hc z (fun h' hc' hs => ?_)
    obtain ⟨oc, hoc, hocd⟩ := id z
    refine h { s with heap := h' } ⟨I.ok, I.os, I.bare, ⟨fun b o e n hb hx => ?_, fun b o e n hb hx => ?_, I.base.free, fun b o e hx => ?_, I.base.tups, I.base.frzs, I.base.tbls⟩, ⟨m, hn.sameBut hs (Ne.symm (cne x c hc)), fun j y v' e1 e2 e3 => ?_⟩, fun y c' e => ?_, I.free, I.freeC, fun p hp => ?_, tracked ⟨oc, hoc, I.freeC x c hc⟩ hs, by simpa using I.len⟩ ⟨c, hs, .inr hc⟩
    · exact (hs.2 b (Nat.ne_of_lt (Nat.lt_of_lt_of_le (Heap.lt_size e) (I.ok.cab x c hfn hc)))).trans (I.base.keep b o e n hb hx)
    · obtain ⟨sl, e1⟩ := I.base.slot b o e n hb hx
      exact ⟨sl, (hs.2 b (Nat.ne_of_lt (Nat.lt_of_lt_of_le (Heap.lt_size e) (I.ok.cab x c hfn hc)))).trans e1⟩
    · obtain ⟨o', e1⟩ := I.base.there b o e hx
      exact ⟨o', (hs.2 b (Nat.ne_of_lt (Nat.lt_of_lt_of_le (Heap.lt_size e) (I.ok.cab x c hfn hc)))).trans e1⟩
    · by_cases hj : j = i
      · subst hj
        rw [hi] at e1; cases e1
        rw [List.getElem?_set_self hiσ] at e2
        cases e2
        exact ⟨u, r, .inr ⟨.inl hk, c, hc, hc'⟩⟩
      · rw [List.getElem?_set_ne (Ne.symm hj)] at e2
        obtain ⟨u', r', q⟩ := hl j y v' e1 e2 e3
        refine ⟨u', r', ?_⟩
        rcases q with q | ⟨k, c', e, z'⟩
        · exact .inl q
        · refine .inr ⟨k, c', e, z'.sameBut hs ?_⟩
          rintro rfl
          exact hj (nodup_ix hN e1 (I.ok.inj _ _ _ e hc ▸ hi))
    · by_cases hcc : c' = c
      · subst hcc; exact ⟨_, hc'⟩
      · obtain ⟨w2, z2⟩ := I.cell y c' e
        exact ⟨w2, z2.sameBut hs hcc⟩
    · obtain ⟨e, n, ne, nf, d⟩ := I.pin p hp
      refine ⟨(hs.2 p.1 ?_).trans e, n, ne, nf, d⟩
      intro q
      rw [q, hoc] at e
      have q' : oc = p.2 := Option.some.inj e
      exact d w' (by rw [← q']; exact hocd)
theorem store_ok {M : Model} {A : Around} {E : Value → Shared → Prop} {i : Nat} {x : Str} {v : V} {u : Value} {Q : Unit → Shared → Prop} (I : Inv X pins σ H s) (hN : X.N.Nodup) (hi : X.N[i]? = some x) (hx : Loc X.env.scope x) (r : RelV v u)
    (h : ∀ s', Inv X pins (σ.set i (some v)) H s' → Q () s') (hf : X.fn x = true ∨ X.env.scope.names.lookup x = some .local := by first | exact .inl rfl | exact .inr rfl | assumption) : wpAny M A (storeName X.env x u) Q E s :=
  store_ok2 I hN hi hx r (fun s' I' _ => h s' I') hf
theorem Inv.call' {s' : Shared} {ch : List Addr} (I : Inv X pins σ H s) (ho : s'.os = s.os) (u : Un (frs X.stack) ch H H' s.heap s'.heap) (hok : HOk X.prog X.w H' s'.heap) (hg : AllBare s'.gens)
    (hch : ∀ b ∈ ch, (b ∈ X.ex ∨ X.s₀.heap.objs.size ≤ b) ∧ b ≠ X.env.locals ∧ (∀ x c, X.env.cells.lookup x = some c → c ≠ b) ∧ ∀ p ∈ X.pn ++ pins, p.1 ≠ b) : Inv X pins σ H' s' := by
  obtain ⟨h', g', d', t', o'⟩ := s'
  have e : o' = s.os := ho
  subst e
  exact I.call (g' := g') (t' := t') (d' := d') u hok hg hch
end
abbrev XK := Value → Option Addr → Hp → Prop
abbrev St := List (Option V)
abbrev VK := V → Hp → Prop
abbrev TE := St → Hp → VK → Prop
abbrev TT := St → Hp → (Bool → Hp → Prop) → Prop
abbrev TA := St → Hp → (List V → Hp → Prop) → Prop
structure Ends where
  nx : St → Hp → Prop
  rt : VK
  bk : St → Hp → Prop := fun _ _ => False
  ct : St → Hp → Prop := fun _ _ => False
abbrev TS := Ends → St → Hp → Prop
def EP (X : Cx) (pins : List (Addr × Obj)) (σ : St) (Q : VK) (u : Value) (s' : Shared) : Prop := ∃ v H', Inv X pins σ H' s' ∧ RelV v u ∧ Q v H'
def TP (X : Cx) (pins : List (Addr × Obj)) (σ : St) (Q : Bool → Hp → Prop) (b : Bool) (s' : Shared) : Prop := ∃ H', Inv X pins σ H' s' ∧ Q b H'
def AP (X : Cx) (pins : List (Addr × Obj)) (σ : St) (Q : List V → Hp → Prop) (us : List Value) (s' : Shared) : Prop := ∃ vs H', Inv X pins σ H' s' ∧ Vals vs us ∧ Q vs H'
def SP (X : Cx) (pins : List (Addr × Obj)) (D : Ends) (f : Flow) (s' : Shared) : Prop :=
  match f with
  | .next => ∃ σ' H', Inv X pins σ' H' s' ∧ D.nx σ' H'
  | .brk => ∃ σ' H', Inv X pins σ' H' s' ∧ D.bk σ' H'
  | .cont => ∃ σ' H', Inv X pins σ' H' s' ∧ D.ct σ' H'
  | .ret u => ∃ v σ' H', Inv X pins σ' H' s' ∧ RelV v u ∧ D.rt v H'
def PE (X : Cx) (e : Expr) (t : TE) : Prop :=
  ∀ (pins : List (Addr × Obj)) (s : Shared) (σ : St) (H : Hp) (Q : VK), Inv X pins σ H s → t σ H Q → wpAny (model X.prog X.w) X.A (eval e X.env) (EP X pins σ Q) X.xe s
def PT (X : Cx) (e : Expr) (t : TT) : Prop :=
  ∀ (pins : List (Addr × Obj)) (s : Shared) (σ : St) (H : Hp) (Q : Bool → Hp → Prop), Inv X pins σ H s → t σ H Q → wpAny (model X.prog X.w) X.A (isTrue e X.env (eval e X.env)) (TP X pins σ Q) X.xe s
def PW (X : Cx) (e : Expr) (t : TT) : Prop :=
  ∀ (whole : Sem Value) (pins : List (Addr × Obj)) (s : Shared) (σ : St) (H : Hp) (Q : Bool → Hp → Prop), Inv X pins σ H s → t σ H Q → wpAny (model X.prog X.w) X.A (isTrue e X.env whole) (TP X pins σ Q) X.xe s
theorem PW.pt {X : Cx} {e : Expr} {t : TT} (h : PW X e t) : PT X e t := h _
def PA (X : Cx) (es : List Expr) (t : TA) : Prop :=
  ∀ (pos : Pos) (pins : List (Addr × Obj)) (s : Shared) (σ : St) (H : Hp) (Q : List V → Hp → Prop), Inv X pins σ H s → t σ H Q → wpAny (model X.prog X.w) X.A (spliced (backTo pos (starEach es X.env))) (AP X pins σ Q) X.xe s
def PS (X : Cx) (st : Stmt) (t : TS) : Prop :=
  ∀ (pins : List (Addr × Obj)) (s : Shared) (σ : St) (H : Hp) (D : Ends), Inv X pins σ H s → t D σ H → wpAny (model X.prog X.w) X.A (exec st X.env) (SP X pins D) X.xe s
def PSs (X : Cx) (st : List Stmt) (t : TS) : Prop :=
  ∀ (pins : List (Addr × Obj)) (s : Shared) (σ : St) (H : Hp) (D : Ends), Inv X pins σ H s → t D σ H → wpAny (model X.prog X.w) X.A (execs st X.env) (SP X pins D) X.xe s
theorem thn {α : Type} {t : Sem α} {Q Q' : α → Shared → Prop} {M : Model} {A : Around} {E : Value → Shared → Prop} {s : Shared} (h : wpAny M A t Q E s) (hQ : ∀ a s, Q a s → Q' a s) : wpAny M A t Q' E s := wpAny_mono h hQ fun _ _ x => x
theorem thnE {t : Sem Value} {X : Cx} {pins : List (Addr × Obj)} {σ : St} {Q : VK} {Q' : Value → Shared → Prop} {M : Model} {A : Around} {E : Value → Shared → Prop} {s : Shared} (h : wpAny M A t (EP X pins σ Q) E s) (hQ : ∀ u s v H, Inv X pins σ H s → RelV v u → Q v H → Q' u s) : wpAny M A t Q' E s := thn h fun u s ⟨v, H, I, r, q⟩ => hQ u s v H I r q
theorem thnA {t : Sem (List Value)} {X : Cx} {pins : List (Addr × Obj)} {σ : St} {Q : List V → Hp → Prop} {Q' : List Value → Shared → Prop} {M : Model} {A : Around} {E : Value → Shared → Prop} {s : Shared} (h : wpAny M A t (AP X pins σ Q) E s) (hQ : ∀ u s v H, Inv X pins σ H s → Vals v u → Q v H → Q' u s) : wpAny M A t Q' E s := thn h fun u s ⟨v, H, I, r, q⟩ => hQ u s v H I r q
theorem thnT {t : Sem Bool} {X : Cx} {pins : List (Addr × Obj)} {σ : St} {Q : Bool → Hp → Prop} {Q' : Bool → Shared → Prop} {M : Model} {A : Around} {E : Value → Shared → Prop} {s : Shared} (h : wpAny M A t (TP X pins σ Q) E s) (hQ : ∀ u s H, Inv X pins σ H s → Q u H → Q' u s) : wpAny M A t Q' E s := thn h fun u s ⟨H, I, q⟩ => hQ u s H I q
end L2
namespace L2
open PySem PySem.Spec PyProof.Rows
section
variable {X : Cx}
def tVar (i : Nat) : TE := fun σ H Q => ∃ v, σ[i]? = some (some v) ∧ Q v H
def tC (v : V) : TE := fun _ H Q => Q v H
theorem pe_var {i : Nat} {x : Str} {pos : Pos} (hN : X.N[i]? = some x) (hv : Vis X.env.scope x) (hd : (x == ("__debug__" : Str)) = false := by decide) (hcd : (x == ("__classdict__" : Str)) = false := by decide) : PE X (.Name x pos) (tVar i) := by
  intro pins s σ H Q I h
  obtain ⟨v, e, h⟩ := h
  obtain ⟨m, hn, hl⟩ := I.loc
  obtain ⟨u, r, l⟩ := hl i x v hN e hv
  have fin : EP X pins σ Q u s := ⟨v, H, I, r, h⟩
  rcases l with ⟨hk, hm⟩ | ⟨hk, c, hc, hcell⟩
  · exact wpAny_Name (wpAny_loadName_local I.ok.kind hk hn hm fin) hd
  · rcases hk with hk | hk
    · exact wpAny_Name (wpAny_loadName_cell I.ok.kind hk hc hcell fin) hd
    · exact wpAny_Name (wpAny_loadName_free I.ok.kind hk hc hcell fin hcd) hd
theorem pe_int {i j pos} : PE X (.Constant (.int i) j pos) (tC (.int i)) := fun _ _ _ H _ I h => wpAny_Constant_int ⟨.int i, H, I.tok _, ⟨_, rfl⟩, h⟩
theorem pe_bl {b j pos} : PE X (.Constant (.bool b) j pos) (tC (.bl b)) := fun _ _ _ H _ I h => Constant_bool ⟨.bl b, H, I, rfl, h⟩
theorem pe_non {j pos} : PE X (.Constant .none j pos) (tC .non) := fun _ _ _ H _ I h => Constant_none ⟨.non, H, I, rfl, h⟩
theorem pe_str {x j pos} : PE X (.Constant (.str x) j pos) (tC (.str x)) := fun _ _ _ H _ I h => Calls.Constant_str ⟨.str x, H, I.tok _, ⟨_, rfl⟩, h⟩
def Gl (X : Cx) (x : Str) : Prop := X.env.kindOf x = some .globalImplicit
theorem ld_glob {E : Value → Shared → Prop} {pins : List (Addr × Obj)} {s : Shared} {σ : St} {H : Hp} {x : Str} {u : Value} {pos : Pos} {Q : Value → Shared → Prop} (I : Inv X pins σ H s) (hg : Gl X x) (hm : X.mg x = some u) (h : Q u s)
    (hd : (x == ("__debug__" : Str)) = false := by decide) : wpAny (model X.prog X.w) X.A (eval (.Name x pos) X.env) Q E s :=
  Calls.Name_function_global I.ok.kind hg (Calls.loadGlobal_global (by rw [I.ok.glob]; exact I.mod.glob.keeps I.bk) hm h) hd
theorem ld_blt {E : Value → Shared → Prop} {pins : List (Addr × Obj)} {s : Shared} {σ : St} {H : Hp} {x : Str} {u : Value} {pos : Pos} {Q : Value → Shared → Prop} (I : Inv X pins σ H s) (hg : Gl X x) (hm : X.mg x = none) (hv : bootBuiltins x = some u) (h : Q u s)
    (hn : x ≠ "__name__" := by decide) (hd : (x == ("__debug__" : Str)) = false := by decide) : wpAny (model X.prog X.w) X.A (eval (.Name x pos) X.env) Q E s := by
  obtain ⟨mb, h1, h2⟩ := I.mod.blt
  exact Calls.Name_function_global I.ok.kind hg (Calls.loadGlobal_builtin (by rw [I.ok.glob]; exact I.mod.glob.keeps I.bk) hm (by rw [I.ok.blt]; exact h1.keeps I.bk) ((h2 x hn).trans hv) h) hd
theorem pe_glob {x : Str} {v : V} {u : Value} {pos : Pos} (hg : Gl X x) (hm : X.mg x = some u) (r : RelV v u) (hd : (x == ("__debug__" : Str)) = false := by decide) : PE X (.Name x pos) (tC v) :=
  fun _ _ _ H _ I h => ld_glob I hg hm ⟨v, H, I, r, h⟩ hd
theorem pe_bltn {x : Str} {v : V} {u : Value} {pos : Pos} (hg : Gl X x) (hm : X.mg x = none) (hv : bootBuiltins x = some u) (r : RelV v u) (hn : x ≠ "__name__" := by decide) (hd : (x == ("__debug__" : Str)) = false := by decide) : PE X (.Name x pos) (tC v) :=
  fun _ _ _ H _ I h => ld_blt I hg hm hv ⟨v, H, I, r, h⟩ hn hd
variable {a b : Expr} {ta tb : TE} {pos : Pos}
def PC (X : Cx) (op : CmpOp) (a b : Expr) (t : TE) : Prop :=
  ∀ (pins : List (Addr × Obj)) (s : Shared) (σ : St) (H : Hp) (Q : VK), Inv X pins σ H s → t σ H Q →
    wpAny (model X.prog X.w) X.A (eval a X.env) (fun v s₁ => wpAny (model X.prog X.w) X.A (eval b X.env) (fun u s₂ => wpAny (model X.prog X.w) X.A (compareOp op v u) (EP X pins σ Q) X.xe s₂) X.xe s₁) X.xe s
theorem nobehind (b : Expr) {op : CmpOp} (h : op ≠ .In) (h2 : op ≠ .NotIn) : behindInMarks op b = false := by
  have e1 : (op == CmpOp.In) = false := by cases op <;> first | rfl | exact absurd rfl h
  have e2 : (op == CmpOp.NotIn) = false := by cases op <;> first | rfl | exact absurd rfl h2
  cases b <;> simp [behindInMarks, e1, e2]
def tIsN (ta : TE) : TE := fun σ H Q => ta σ H fun x H1 => Q (.bl (decide (x = .non))) H1
def tNotN (ta : TE) : TE := fun σ H Q => ta σ H fun x H1 => Q (.bl (!decide (x = .non))) H1
theorem RelV.none_iff {x : V} {v : Value} (r : RelV x v) : (v == Value.none) = decide (x = .non) := by
  cases x with
  | non => cases r; rfl
  | bl _ => cases r; rfl
  | int _ => obtain ⟨t, rfl⟩ := r; rfl
  | str _ => obtain ⟨t, rfl⟩ := r; rfl
  | byt _ => obtain ⟨t, rfl⟩ := r; rfl
  | flt _ => obtain ⟨t, rfl⟩ := r; rfl
  | ref _ => cases r; rfl
  | ty _ => cases r; rfl
theorem pc_notN {j pos'} (ha : PE X a ta) : PC X .IsNot a (.Constant .none j pos') (tNotN ta) := by
  intro pins s σ H Q I h
  refine thnE (ha pins s σ H _ I h) fun v s1 x H1 I1 r1 q1 => ?_
  exact Constant_none (isnot_none_gen ⟨.bl _, H1, I1, by rw [r1.none_iff]; rfl, q1⟩)
def tB (t : TE) : TT := fun σ H Q => t σ H fun x H1 => ∃ c, x = .bl c ∧ Q c H1
theorem pe_cmp {op : CmpOp} {t : TE} (h : PC X op a b t) (h1 : behindInMarks op b = false := by first | exact nobehind _ (by decide) (by decide) | rfl) : PE X (.Compare a [op] [b] pos) t := fun pins s σ H Q I hw => wpAny_Compare1 (h pins s σ H Q I hw) h1
theorem pt_cmp {op : CmpOp} {t : TE} (h : PC X op a b t) (h1 : behindInMarks op b = false := by first | exact nobehind _ (by decide) (by decide) | rfl) : PT X (.Compare a [op] [b] pos) (tB t) := by
  intro pins s σ H Q I hw
  refine wpAny_isTrue_Compare1 (thn (h pins s σ H _ I hw) fun v s1 h1 => thn h1 fun u s2 h2 => thn h2 fun c s3 ⟨x, H1, I1, r1, q1⟩ => ?_) h1
  obtain ⟨d, rfl, q⟩ := q1
  cases r1
  exact wpAny_truthy_bool ⟨H1, I1, q⟩
theorem pt_val {e : Expr} {t : TE} (h : PE X e t) (he : ∀ whole, isTrue e X.env whole = (do let v ← whole; standAt e.pos; holding [v] (truthy v)) := by intro _; rfl) : PT X e (tB t) := by
  intro pins s σ H Q I hw
  refine isTrue_plain (thnE (h pins s σ H _ I hw) fun v s1 x H1 I1 r1 q1 => ?_) (he _)
  obtain ⟨d, rfl, q⟩ := q1
  cases r1
  exact wpAny_truthy_bool ⟨H1, I1, q⟩
variable {tA tB' : TT} {rest : List Expr}
def tAnd (t u : TT) : TT := fun σ H Q => t σ H fun c H1 => if c = true then u σ H1 Q else Q false H1
def tOr (t u : TT) : TT := fun σ H Q => t σ H fun c H1 => if c = true then Q true H1 else u σ H1 Q
def tNot (t : TT) : TT := fun σ H Q => t σ H fun c H1 => Q (!c) H1
theorem pw_and1 (ha : PT X a tA) : PW X (.BoolOp .And [a] pos) tA := by
  intro wh pins s σ H Q I h
  refine isTrue_and (thn (ha pins s σ H Q I h) fun c s1 e => ?_)
  cases c with
  | true => exact isTrue_and_nil e
  | false => exact e
theorem pw_or1 (ha : PT X a tA) : PW X (.BoolOp .Or [a] pos) tA := by
  intro wh pins s σ H Q I h
  refine isTrue_or (thn (ha pins s σ H Q I h) fun c s1 e => ?_)
  cases c with
  | false => exact isTrue_or_nil e
  | true => exact e
theorem pw_and (ha : PT X a tA) (hb : PW X (.BoolOp .And (b :: rest) pos) tB') : PW X (.BoolOp .And (a :: b :: rest) pos) (tAnd tA tB') := by
  intro wh pins s σ H Q I h
  refine isTrue_and (thnT (ha pins s σ H _ I h) fun c s1 H1 I1 q1 => ?_)
  cases c with
  | true => exact hb wh pins s1 σ H1 Q I1 q1
  | false => exact ⟨H1, I1, q1⟩
theorem pw_or (ha : PT X a tA) (hb : PW X (.BoolOp .Or (b :: rest) pos) tB') : PW X (.BoolOp .Or (a :: b :: rest) pos) (tOr tA tB') := by
  intro wh pins s σ H Q I h
  refine isTrue_or (thnT (ha pins s σ H _ I h) fun c s1 H1 I1 q1 => ?_)
  cases c with
  | true => exact ⟨H1, I1, q1⟩
  | false => exact hb wh pins s1 σ H1 Q I1 q1
theorem pt_not (ha : PT X a tA) : PT X (.UnaryOp .Not a pos) (tNot tA) := by
  intro pins s σ H Q I h
  exact isTrue_not (ha pins s σ H (fun c H1 => Q (!c) H1) I h)
def tAndV (ta tb : TE) : TE := fun σ H Q => ta σ H fun x H1 => ∃ c, x = .bl c ∧ if c = true then tb σ H1 Q else Q (.bl false) H1
def tOrV (ta tb : TE) : TE := fun σ H Q => ta σ H fun x H1 => ∃ c, x = .bl c ∧ if c = true then Q (.bl true) H1 else tb σ H1 Q
def tNotV (ta : TE) : TE := fun σ H Q => ta σ H fun x H1 => ∃ c, x = .bl c ∧ Q (.bl (!c)) H1
theorem pe_one {op} {t : TE} (h : PE X a t) : PE X (.BoolOp op [a] pos) t := fun pins s σ H Q I hw => BoolOp_one (h pins s σ H Q I hw)
theorem pe_and (ha : PE X a ta) (hb : PE X (.BoolOp .And (b :: rest) pos) tb) : PE X (.BoolOp .And (a :: b :: rest) pos) (tAndV ta tb) := by
  intro pins s σ H Q I h
  refine BoolOp_and (thnE (ha pins s σ H _ I h) fun v s1 x H1 I1 r1 q1 => ?_)
  obtain ⟨c, rfl, q1⟩ := q1
  cases r1
  refine wpAny_truthy_bool ?_
  cases c with
  | true => exact hb pins s1 σ H1 Q I1 q1
  | false => exact ⟨.bl false, H1, I1, rfl, q1⟩
theorem pe_not (ha : PE X a ta) : PE X (.UnaryOp .Not a pos) (tNotV ta) := by
  intro pins s σ H Q I h
  refine UnaryOp_ (thnE (ha pins s σ H _ I h) fun v s1 x H1 I1 r1 q1 => ?_)
  obtain ⟨c, rfl, q1⟩ := q1
  cases r1
  exact not_of (wpAny_truthy_bool ⟨.bl (!c), H1, I1, rfl, q1⟩)
def tIf (t : TT) (ta tb : TE) : TE := fun σ H Q => t σ H fun c H1 => if c = true then ta σ H1 Q else tb σ H1 Q
end
end L2
namespace L2
open PySem PySem.Spec PyProof.Rows
def SqL (K : PySem.W.Frag) (H : Hp) (a : Addr) (xs : List V) : Prop :=
  Rd H a (.lst xs) ∨
    ∃ (o : Obj) (its : Array Value) (n : Nat), K.lookup a = some o ∧ o.cls = .type "list" ∧ o.dict = none ∧ o.data = .seq its n ∧ its.size ≤ sizeLine ∧ Vals xs its.toList
def SqT (K : PySem.W.Frag) (H : Hp) (a : Addr) (xs : List V) : Prop :=
  Rd H a (.tup xs) ∨
    ∃ (o : Obj) (its : Array Value) (n : Nat), K.lookup a = some o ∧ o.cls = .type "tuple" ∧ o.data = .seq its n ∧ its.size ≤ sizeLine ∧ Vals xs its.toList
def absV : Value → Option V
  | .none => some .non
  | .bool b => some (.bl b)
  | .int i _ => some (.int i)
  | .str x _ => some (.str x)
  | .bytes b _ => some (.byt b)
  | .float b _ => some (.flt b)
  | .ref a => some (.ref a)
  | .type n => some (.ty n)
  | _ => none
theorem RelV.abs {x : V} {u : Value} (r : RelV x u) : absV u = some x := by
  cases x with
  | non => cases r; rfl
  | bl _ => cases r; rfl
  | int _ => obtain ⟨t, rfl⟩ := r; rfl
  | str _ => obtain ⟨t, rfl⟩ := r; rfl
  | byt _ => obtain ⟨t, rfl⟩ := r; rfl
  | flt _ => obtain ⟨t, rfl⟩ := r; rfl
  | ref _ => cases r; rfl
  | ty _ => cases r; rfl
theorem RelV.inj {x y : V} {u : Value} (r : RelV x u) (q : RelV y u) : x = y := Option.some.inj (r.abs.symm.trans q.abs)
theorem Vals.inj {xs ys : List V} {us : List Value} (h : Vals xs us) (h2 : Vals ys us) : xs = ys := by
  induction h generalizing ys with
  | nil => cases h2; rfl
  | cons r _ ih => cases h2 with | cons r2 t2 => rw [r.inj r2, ih t2]
section
variable {X : Cx} {pins : List (Addr × Obj)} {σ : St} {H : Hp} {s : Shared} {a : Addr} {xs ys : List V}
theorem SqL.of {K : PySem.W.Frag} (h : H a = some (.lst xs)) : SqL K H a xs := .inl (.inl h)
theorem SqT.of {K : PySem.W.Frag} (h : H a = some (.tup xs)) : SqT K H a xs := .inl (.inl h)
theorem Inv.list (I : Inv X pins σ H s) (h : SqL X.K H a xs) : ∃ its : List Value, Vals xs its ∧ PlainL s.heap a its.toArray ∧ xs.length ≤ sizeLine := by
  rcases h with h | ⟨o, its, n, hk, hc, hd, hs, hz, r⟩
  · obtain ⟨z, its, n, r, e⟩ := h.ok I.hok
    exact ⟨its, r, ⟨_, n, e, rfl, rfl, rfl⟩, z⟩
  · refine ⟨its.toList, r, ⟨o, n, I.kIn a o hk, hc, hd, by simpa using hs⟩, ?_⟩
    have e := r.length
    simp only [Array.length_toList] at e
    omega
theorem Inv.tuple (I : Inv X pins σ H s) (h : SqT X.K H a xs) : ∃ its : List Value, Vals xs its ∧ IsTup s.heap a its.toArray ∧ xs.length ≤ sizeLine := by
  rcases h with h | ⟨o, its, n, hk, hc, hs, hz, r⟩
  · obtain ⟨z, its, r, p⟩ := h.ok I.hok
    exact ⟨its, r, p, z⟩
  · refine ⟨its.toList, r, ⟨o, I.kIn a o hk, hc, n, by simpa using hs⟩, ?_⟩
    have e := r.length
    simp only [Array.length_toList] at e
    omega
theorem Inv.list_inj (I : Inv X pins σ H s) (h : SqL X.K H a xs) (h' : SqL X.K H a ys) : xs = ys := by
  obtain ⟨its, r, ⟨o, n, e, _, _, d⟩, _⟩ := I.list h
  obtain ⟨its', r', ⟨o', n', e', _, _, d'⟩, _⟩ := I.list h'
  rw [e] at e'; cases e'
  rw [d] at d'
  injection d' with d1 _
  have : its = its' := by simpa using congrArg Array.toList d1
  subst this
  exact r.inj r'
theorem Inv.tuple_inj (I : Inv X pins σ H s) (h : SqT X.K H a xs) (h' : SqT X.K H a ys) : xs = ys := by
  obtain ⟨its, r, ⟨o, e, _, n, d⟩, _⟩ := I.tuple h
  obtain ⟨its', r', ⟨o', e', _, n', d'⟩, _⟩ := I.tuple h'
  rw [e] at e'; cases e'
  rw [d] at d'
  injection d' with d1 _
  have : its = its' := by simpa using congrArg Array.toList d1
  subst this
  exact r.inj r'
end
abbrev Cx.wish (X : Cx) (E : Value → Shared → Prop) : Cx := { X with xe := E }
abbrev Cx.nox (X : Cx) : Cx := X.wish fun _ _ => False
theorem Cx.Ok.wish {X : Cx} (ok : X.Ok) (E : Value → Shared → Prop) : (X.wish E).Ok :=
  ⟨ok.mod, ok.kind, ok.glob, ok.blt, ok.above, ok.inj, ok.has, ok.cab, ok.hd, ok.frames, ok.stk, ok.exf, ok.bs, ok.bsz, ok.noex, ok.exfs, ok.funs, ok.frf⟩
theorem Cx.Ok.unwish {X : Cx} {E : Value → Shared → Prop} (ok : (X.wish E).Ok) : X.Ok :=
  ⟨ok.mod, ok.kind, ok.glob, ok.blt, ok.above, ok.inj, ok.has, ok.cab, ok.hd, ok.frames, ok.stk, ok.exf, ok.bs, ok.bsz, ok.noex, ok.exfs, ok.funs, ok.frf⟩
section
variable {X : Cx} {pins : List (Addr × Obj)} {σ : St} {H : Hp} {s : Shared} {E : Value → Shared → Prop}
theorem Inv.wish (I : Inv X pins σ H s) (E : Value → Shared → Prop) : Inv (X.wish E) pins σ H s := ⟨I.ok.wish E, I.os, I.bare, I.base, I.loc, I.cell, I.free, I.freeC, I.pin, I.hok, I.len⟩
theorem Inv.unwish (I : Inv (X.wish E) pins σ H s) : Inv X pins σ H s := ⟨I.ok.unwish, I.os, I.bare, I.base, I.loc, I.cell, I.free, I.freeC, I.pin, I.hok, I.len⟩
theorem SP.unwish {D : Ends} {f : Flow} {s' : Shared} (h : SP (X.wish E) pins D f s') : SP X pins D f s' := by
  cases f with
  | next => obtain ⟨σ', H', I, q⟩ := h; exact ⟨σ', H', I.unwish, q⟩
  | brk => obtain ⟨σ', H', I, q⟩ := h; exact ⟨σ', H', I.unwish, q⟩
  | cont => obtain ⟨σ', H', I, q⟩ := h; exact ⟨σ', H', I.unwish, q⟩
  | ret u => obtain ⟨v, σ', H', I, r, q⟩ := h; exact ⟨v, σ', H', I.unwish, r, q⟩
theorem PSs.nox {st : List Stmt} {t : TS} (h : PSs X.nox st t) : PSs X st t := fun pins s σ H D I hw =>
  wpAny_mono (h pins s σ H D (I.wish _) hw) (fun _ _ q => q.unwish) fun _ _ z => False.elim z
end
section
variable {X : Cx} {st : Stmt} {rest : List Stmt} {t u : TS} {e : Expr} {te : TE} {pos : Pos}
def tNext : TS := fun D σ H => D.nx σ H
def tSeq (t u : TS) : TS := fun D σ H => t { D with nx := u D } σ H
theorem pss_nil : PSs X [] tNext := fun _ _ σ H _ I h => wpAny_execs_nil ⟨σ, H, I, h⟩
theorem pss_cons (h1 : PS X st t) (h2 : PSs X rest u) : PSs X (st :: rest) (tSeq t u) := by
  intro pins s σ H D I h
  refine wpAny_execs_cons (thn (h1 pins s σ H { D with nx := u D } I h) fun f s1 q => ?_)
  cases f with
  | next =>
    obtain ⟨σ', H', I', q⟩ := q
    exact h2 pins s1 σ' H' D I' q
  | ret v => exact q
  | brk => exact q
  | cont => exact q
theorem pss_one (h1 : PS X st t) : PSs X [st] t := by
  intro pins s σ H D I h
  refine wpAny_execs_cons (thn (h1 pins s σ H D I h) fun f s1 q => ?_)
  cases f with
  | next => exact wpAny_execs_nil q
  | ret v => exact q
  | brk => exact q
  | cont => exact q
theorem Inv.quiet {pins : List (Addr × Obj)} {σ : St} {H : Hp} {s : Shared} (I : Inv X pins σ H s) : interactive X.env = false := by simp [interactive, I.ok.kind]
def tDrop (te : TE) : TS := fun D σ H => te σ H fun _ H1 => D.nx σ H1
theorem ps_expr (he : PE X e te) (hs : swapsWith e none pos.line X.env = pure false := by rfl) : PS X (.Expr e pos) (tDrop te) := by
  intro pins s σ H D I h
  exact wpAny_Expr_any (thnE (he pins s σ H _ I h) fun v s1 x H1 I1 r1 q1 => ⟨σ, H1, I1, q1⟩) I.quiet hs
def tRet (te : TE) : TS := fun D σ H => te σ H D.rt
theorem ps_ret (he : PE X e te) : PS X (.Return (some e) pos) (tRet te) := by
  intro pins s σ H D I h
  exact wpAny_Return_some (thnE (he pins s σ H _ I h) fun v s1 x H1 I1 r1 q1 => ⟨x, σ, H1, I1, r1, q1⟩)
def tRetN : TS := fun D _ H => D.rt .non H
def tIfS (c : TT) (t u : TS) : TS := fun D σ H => c σ H fun b H1 => if b = true then t D σ H1 else u D σ H1
theorem ps_if {c : Expr} {a b : List Stmt} {tc : TT} (hc : PT X c tc) (ha : PSs X a t) (hb : PSs X b u) : PS X (.If c a b pos) (tIfS tc t u) := by
  intro pins s σ H D I h
  refine wpAny_If (thnT (hc pins s σ H _ I h) fun d s1 H1 I1 q1 => ?_)
  cases d with
  | true => exact ha pins s1 σ H1 D I1 q1
  | false => exact hb pins s1 σ H1 D I1 q1
def tNever : TS := fun _ _ _ => False
theorem ps_never : PS X st tNever := fun _ _ _ _ _ _ h => h.elim
end
abbrev TG := V → St → Hp → (St → Hp → Prop) → Prop
abbrev TGs := List V → St → Hp → (St → Hp → Prop) → Prop
def PG (X : Cx) (target : Expr) (t : TG) : Prop :=
  ∀ (pins : List (Addr × Obj)) (s : Shared) (σ : St) (H : Hp) (v : V) (u : Value) (Q : St → Hp → Prop), Inv X pins σ H s → RelV v u → t v σ H Q →
    wpAny (model X.prog X.w) X.A (assign target X.env u) (fun _ s' => ∃ σ' H', Inv X pins σ' H' s' ∧ Q σ' H') X.xe s
def PGs (X : Cx) (ts : List Expr) (t : TGs) : Prop :=
  ∀ (pins : List (Addr × Obj)) (s : Shared) (σ : St) (H : Hp) (vs : List V) (us : List Value) (Q : St → Hp → Prop), Inv X pins σ H s → Vals vs us → t vs σ H Q →
    wpAny (model X.prog X.w) X.A (assignInOrder ((assignEach ts X.env).map (·.2)) us) (fun _ s' => ∃ σ' H', Inv X pins σ' H' s' ∧ Q σ' H') X.xe s
abbrev TSet := V → V → V → Hp → (Hp → Prop) → Prop
def PSet (X : Cx) (t : TSet) : Prop :=
  ∀ (pins : List (Addr × Obj)) (s : Shared) (σ : St) (H : Hp) (o i v : V) (ov iv u : Value) (Q : Hp → Prop), Inv X pins σ H s → RelV o ov → RelV i iv → RelV v u → t o i v H Q →
    wpAny (model X.prog X.w) X.A (setItem ov iv u) (fun _ s' => ∃ H', Inv X pins σ H' s' ∧ Q H') X.xe s
abbrev TIp := V → V → Hp → VK → Prop
def PIp (X : Cx) (op : Operator) (t : TIp) : Prop :=
  ∀ (pins : List (Addr × Obj)) (s : Shared) (σ : St) (H : Hp) (x y : V) (v u : Value) (Q : VK), Inv X pins σ H s → RelV x v → RelV y u → t x y H Q →
    wpAny (model X.prog X.w) X.A (inplaceOp op v u) (EP X pins σ Q) X.xe s
section
variable {X : Cx} {pos : Pos}
def gName (i : Nat) : TG := fun v σ H Q => Q (σ.set i (some v)) H
theorem pg_name {i : Nat} {x : Str} (hN : X.N.Nodup) (hi : X.N[i]? = some x) (hx : Loc X.env.scope x) (hf : X.fn x = true ∨ X.env.scope.names.lookup x = some .local := by first | exact .inl rfl | exact .inr rfl | assumption) : PG X (.Name x pos) (gName i) := by
  intro pins s σ H v u Q I r h
  exact wpAny_assign_Name (store_ok I hN hi hx r (fun s' I' => ⟨_, H, I', h⟩) hf)
def gNil : TGs := fun vs σ H Q => vs = [] ∧ Q σ H
def gCons (t : TG) (u : TGs) : TGs := fun vs σ H Q => ∃ v r, vs = v :: r ∧ t v σ H fun σ' H' => u r σ' H' Q
theorem pgs_nil : PGs X [] gNil := by
  intro pins s σ H vs us Q I r h
  obtain ⟨e, h⟩ := h
  subst e
  cases r
  exact assignInOrder_nil ⟨σ, H, I, h⟩
theorem pgs_cons {e : Expr} {es : List Expr} {t : TG} {u : TGs} (h1 : PG X e t) (h2 : PGs X es u)
    (hs : (assignEach (e :: es) X.env).map (·.2) = assign e X.env :: (assignEach es X.env).map (·.2) := by rfl) : PGs X (e :: es) (gCons t u) := by
  intro pins s σ H vs us Q I r h
  obtain ⟨v, vr, e1, h⟩ := h
  subst e1
  cases r with
  | cons r rr =>
    rw [hs]
    refine assignInOrder_cons (thn (h1 pins s σ H _ _ _ I r h) fun _ s1 ⟨σ1, H1, I1, q1⟩ => ?_)
    exact h2 pins s1 σ1 H1 _ _ Q I1 rr q1
def gTup (K : PySem.W.Frag) (n : Nat) (t : TGs) : TG := fun v σ H Q => ∃ a xs, v = .ref a ∧ SqT K H a xs ∧ xs.length = n ∧ t xs σ H Q
theorem pg_tup {es : List Expr} {k : Nat} {t : TGs} {n : Nat} (hc : X.calm = true) (h : PGs X es t)
    (hn : (assignEach es X.env).length = n := by rfl) (hst : (assignEach es X.env).findIdx? (·.1) = none := by rfl) : PG X (.Tuple es k pos) (gTup X.K n t) := by
  intro pins s σ H v u Q I r hw
  obtain ⟨a, xs, e1, hq, hl, hw⟩ := hw
  subst e1
  cases r
  obtain ⟨its, rv, ht, hz⟩ := I.tuple hq
  refine assign_Tuple_tuple (I.ok.hd hc) ht (by simp [hn, ← hl, rv.length]) hst fun h' hx => ?_
  have I1 : Inv X pins σ H { s with heap := h' } := I.kept (t' := s.toks) fun b o e => hx b o (Nat.ne_of_lt (Heap.lt_size e)) e
  exact h pins _ σ H xs _ Q I1 (by simpa using rv) hw
def gSub (to ti : TE) (t : TSet) : TG := fun v σ H Q => to σ H fun o H1 => ti σ H1 fun i H2 => t o i v H2 fun H3 => Q σ H3
theorem pg_sub {o i : Expr} {to ti : TE} {t : TSet} (ho : PE X o to) (hi : PE X i ti) (hs : PSet X t)
    (ha : ∀ v, assign (.Subscript o i pos) X.env v = (do
      let ov ← holding [v] (eval o X.env)
      let iv ← holding [v, ov] (eval i X.env)
      standAt pos
      holding [v, ov, iv] (setItem ov iv v)
      release [v, ov, iv] []) := by intro _; rfl) : PG X (.Subscript o i pos) (gSub to ti t) := by
  intro pins s σ H v u Q I r h
  rw [ha]
  refine wpAny_bind (wpAny_holding (thnE (ho pins s σ H _ I h) fun ov s1 x H1 I1 r1 q1 => ?_))
  refine wpAny_bind (wpAny_holding (thnE (hi pins s1 σ H1 _ I1 q1) fun iv s2 y H2 I2 r2 q2 => ?_))
  refine wpAny_bind (wpAny_standAt (wpAny_bind (wpAny_holding (thn (hs pins s2 σ H2 x y v ov iv u _ I2 r1 r2 r q2) fun _ s3 ⟨H3, I3, q3⟩ => ?_))))
  exact wpAny_release ⟨σ, H3, I3, q3⟩
def tAsg (te : TE) (g : TG) : TS := fun D σ H => te σ H fun x H1 => g x σ H1 D.nx
theorem ps_asg {tg e : Expr} {te : TE} {g : TG} (he : PE X e te) (hg : PG X tg g) (hs : swapsWithSole [tg] e pos.line X.env = pure false := by rfl) (hw : swappedStores [tg] e X.env = pure none := by rfl)
    (h1 : (assignEach [tg] X.env).map (·.2) = [assign tg X.env] := by rfl) : PS X (.Assign [tg] e pos) (tAsg te g) := by
  intro pins s σ H D I h
  refine wpAny_Assign_stores (thnE (he pins s σ H _ I h) fun v s1 x H1 I1 r1 q1 => ?_) hs hw
  rw [h1]
  exact thn (hg pins s1 σ H1 x v _ I1 r1 q1) fun _ s2 q => q
theorem ps_set {i : Nat} {x : Str} {e : Expr} {te : TE} {pos' : Pos} (hN : X.N.Nodup) (hi : X.N[i]? = some x) (hx : Loc X.env.scope x) (he : PE X e te) (hs : swapsWith e (some (.Name x pos')) pos.line X.env = pure false := by rfl) (hf : X.fn x = true ∨ X.env.scope.names.lookup x = some .local := by first | exact .inl rfl | exact .inr rfl | assumption) :
    PS X (.Assign [.Name x pos'] e pos) (tAsg te (gName i)) := by
  intro pins s σ H D I h
  refine wpAny_Assign_Name (thnE (he pins s σ H _ I h) fun v s1 y H1 I1 r1 q1 => ?_) hs
  exact store_ok I1 hN hi hx r1 (fun s2 I2 => ⟨_, H1, I2, q1⟩) hf
def tAug (i : Nat) (te : TE) (ti : TIp) : TS := fun D σ H => ∃ x, σ[i]? = some (some x) ∧ te σ H fun y H1 => ti x y H1 fun z H2 => D.nx (σ.set i (some z)) H2
def tAugS (to ti te : TE) (tget : V → V → Hp → VK → Prop) (tip : TIp) (tset : TSet) : TS := fun D σ H => to σ H fun o H1 => ti σ H1 fun i H2 => tget o i H2 fun x H3 => te σ H3 fun y H4 => tip x y H4 fun z H5 => tset o i z H5 fun H6 => D.nx σ H6
def PGet (X : Cx) (t : V → V → Hp → VK → Prop) : Prop :=
  ∀ (pins : List (Addr × Obj)) (s : Shared) (σ : St) (H : Hp) (o i : V) (ov iv : Value) (Q : VK), Inv X pins σ H s → RelV o ov → RelV i iv → t o i H Q →
    wpAny (model X.prog X.w) X.A (getItem ov iv) (EP X pins σ Q) X.xe s
theorem ps_augS {o i e : Expr} {to ti te : TE} {tget : V → V → Hp → VK → Prop} {tip : TIp} {tset : TSet} {op : Operator} {tpos : Pos} (ho : PE X o to) (hi : PE X i ti) (hg : PGet X tget) (he : PE X e te) (hp : PIp X op tip) (hs : PSet X tset)
    (ha : ∀ ov iv new, augStore i ov iv new = (do holding [new, ov, iv] (setItem ov iv new); release [new, ov, iv] []; pure .next) := by intros; rfl) : PS X (.AugAssign (.Subscript o i tpos) op e pos) (tAugS to ti te tget tip tset) := by
  intro pins s σ H D I h
  refine wpAny_AugAssign_SubscriptAny (thnE (ho pins s σ H _ I h) fun ov s1 x1 H1 I1 r1 q1 => ?_) ha
  refine thnE (hi pins s1 σ H1 _ I1 q1) fun iv s2 x2 H2 I2 r2 q2 => ?_
  refine thn (hg pins s2 σ H2 x1 x2 ov iv _ I2 r1 r2 q2) fun old s3 ⟨x3, H3, I3, r3, q3⟩ => ?_
  refine thnE (he pins s3 σ H3 _ I3 q3) fun v s4 x4 H4 I4 r4 q4 => ?_
  refine thn (hp pins s4 σ H4 x3 x4 old v _ I4 r3 r4 q4) fun new s5 ⟨x5, H5, I5, r5, q5⟩ => ?_
  exact thn (hs pins s5 σ H5 x1 x2 x5 ov iv new _ I5 r1 r2 r5 q5) fun _ s6 ⟨H6, I6, q6⟩ => ⟨σ, H6, I6, q6⟩
def ipI (f : Int → Int → Int) : TIp := fun x y H Q => ∃ i j, x = .int i ∧ y = .int j ∧ Q (.int (f i j)) H
theorem ip_add : PIp X .Add (ipI fun i j => i + j) := by
  intro pins s σ H x y v u Q I r1 r2 h
  obtain ⟨i, j, e1, e2, q⟩ := h
  subst e1; subst e2
  obtain ⟨t, rfl⟩ := r1
  obtain ⟨t', rfl⟩ := r2
  exact iadd_int ⟨.int _, H, I.tok _, ⟨_, rfl⟩, q⟩
theorem ip_sub : PIp X .Sub (ipI fun i j => i - j) := by
  intro pins s σ H x y v u Q I r1 r2 h
  obtain ⟨i, j, e1, e2, q⟩ := h
  subst e1; subst e2
  obtain ⟨t, rfl⟩ := r1
  obtain ⟨t', rfl⟩ := r2
  exact isub_int ⟨.int _, H, I.tok _, ⟨_, rfl⟩, q⟩
end
section
variable {X : Cx} {pos : Pos}
def tWhile (c : TT) (tb : TS) : TS := fun D σ H => ∃ W : Nat → St → Hp → Prop, (∃ m, W m σ H) ∧ ∀ m σ H, W m σ H →
  c σ H fun b H1 => if b = true then ∃ N : St → Hp → Prop, (∀ σ' H', N σ' H' → ∃ m', m' < m ∧ W m' σ' H') ∧ tb { D with nx := N, ct := N, bk := D.nx } σ H1 else D.nx σ H1
theorem ps_while {c : Expr} {body : List Stmt} {tc : TT} {tb : TS} (hp : PassesOwn (model X.prog X.w) X.A X.env X.xe) (hc : PT X c tc) (hb : PSs X body tb) : PS X (.While c body [] pos) (tWhile tc tb) := by
  intro pins s σ H D I h
  obtain ⟨W, ⟨m0, w0⟩, turn⟩ := h
  refine wpAny_While (codeAny_whileLoop (fun n s' => ∃ σ' H', Inv X pins σ' H' s' ∧ W n σ' H') ?_ m0 ⟨σ, H, I, w0⟩)
  rintro n s1 ⟨σ1, H1, I1, w1⟩
  refine wpAny_passesOwn hp (thnT (hc pins s1 σ1 H1 _ I1 (turn n σ1 H1 w1)) fun b s2 H2 I2 q2 => ?_)
  cases b with
  | true =>
    obtain ⟨N, hN, q2⟩ := q2
    rw [if_pos rfl]
    refine wpAny_passesOwn hp (thn (hb pins s2 σ1 H2 _ I2 q2) fun f s3 q3 => ?_)
    cases f with
    | next =>
      obtain ⟨σ3, H3, I3, n3⟩ := q3
      obtain ⟨m', hm, w3⟩ := hN σ3 H3 n3
      exact ⟨m', hm, σ3, H3, I3, w3⟩
    | cont =>
      obtain ⟨σ3, H3, I3, n3⟩ := q3
      obtain ⟨m', hm, w3⟩ := hN σ3 H3 n3
      exact ⟨m', hm, σ3, H3, I3, w3⟩
    | brk => exact q3
    | ret v => exact q3
  | false =>
    rw [if_neg Bool.false_ne_true]
    exact wpAny_execs_nil ⟨σ1, H2, I2, q2⟩
end
structure It where
  go : Nat → Hp → Prop
  yld : Nat → Hp → V → Hp → Prop
  stop : Nat → Hp → Prop
def FpOk (X : Cx) (pins : List (Addr × Obj)) (H : Hp) (b : Addr) : Prop :=
  H b = none ∧ b ≠ X.env.locals ∧ b ∉ X.fs ∧ (b ∈ X.ex ∨ X.s₀.heap.objs.size ≤ b) ∧ (∀ x c, X.env.cells.lookup x = some c → c ≠ b) ∧ ∀ p ∈ X.pn ++ pins, p.1 ≠ b
theorem Inv.fpOk {X : Cx} {pins : List (Addr × Obj)} {σ : St} {H H' : Hp} {s : Shared} {b : Addr} (I : Inv X pins σ H s) (hb : s.heap.objs.size ≤ b) (hn : H' b = none) : FpOk X pins H' b := by
  refine ⟨hn, Nat.ne_of_gt (Nat.lt_of_lt_of_le I.lt hb), I.nofs hb, .inr (Nat.le_trans I.sz hb), fun x c e z => ?_, fun p hp z => ?_⟩
  · obtain ⟨v, q⟩ := I.cell x c e
    exact absurd (Nat.lt_of_lt_of_le q.lt (by rw [z]; exact hb)) (Nat.lt_irrefl _)
  · exact absurd (Nat.lt_of_lt_of_le (Heap.lt_size (I.pin p hp).1) (by rw [z]; exact hb)) (Nat.lt_irrefl _)
structure Turn (P : Program) (w : World) (K : PySem.W.Frag) (tg : Expr) (J : It) (fp : List Addr) (it : Addr) (tn : Nat → Heap → Prop) : Prop where
  mem : it ∈ fp
  obj : ∀ i h, tn i h → ∀ b ∈ fp, ∃ o, h.get? b = some o ∧ ∀ v, o.data ≠ .cell v
  keep : ∀ i h h', tn i h → (∀ b ∈ fp, ∀ o, h.get? b = some o → h'.get? b = some o) → tn i h'
  item : ∀ (X : Cx), X.prog = P → X.w = w → X.K = K → X.calm = true → ∀ (i : Nat) (pins : List (Addr × Obj)) (s : Shared) (σ : St) (H : Hp) (E : Value → Shared → Prop), Inv X pins σ H s → (∀ b ∈ fp, FpOk X pins H b) → tn i s.heap → J.go i H →
    wpAny (model P w) X.A (pyNext (.ref it)) (fun r s1 => ∃ u, r = some u ∧
      wpAny (model P w) X.A (letOwnedTupleGo tg (.ref it) u) (fun _ s2 => ∃ x H', Inv X pins σ H' s2 ∧ RelV x u ∧ J.yld i H x H' ∧ tn (i + 1) s2.heap ∧ ∀ b ∈ fp, H' b = none) E s1) E s
  done : ∀ (X : Cx), X.prog = P → X.w = w → X.K = K → X.calm = true → ∀ (i : Nat) (pins : List (Addr × Obj)) (s : Shared) (σ : St) (H : Hp) (E : Value → Shared → Prop), Inv X pins σ H s → (∀ b ∈ fp, FpOk X pins H b) → tn i s.heap → J.stop i H →
    wpAny (model P w) X.A (pyNext (.ref it)) (fun r s1 => r = none ∧ Inv X pins σ H s1) E s
  self : ∀ (A : Around) (i : Nat) (s : Shared) (Q : Value → Shared → Prop) (E : Value → Shared → Prop), tn i s.heap → Q (.ref it) s → wpAny (model P w) A (pyIter (.ref it)) Q E s
abbrev TI := St → Hp → (It → Hp → Prop) → Prop
def PIE (X : Cx) (pins : List (Addr × Obj)) (σ : St) (tg : Expr) (R : It → Hp → Prop) (itv : Value) (s2 : Shared) : Prop :=
  ∃ (it : Addr) (fp : List Addr) (tn : Nat → Heap → Prop) (J : It) (H' : Hp), itv = .ref it ∧ Inv X pins σ H' s2 ∧ Turn X.prog X.w X.K tg J fp it tn ∧ tn 0 s2.heap ∧ (∀ b ∈ fp, FpOk X pins H' b) ∧ R J H'
def PI (X : Cx) (tg iter : Expr) (wi : TI) : Prop :=
  ∀ (pins : List (Addr × Obj)) (s : Shared) (σ : St) (H : Hp) (R : It → Hp → Prop), Inv X pins σ H s → wi σ H R →
    wpAny (model X.prog X.w) X.A (eval iter X.env) (fun v s1 => wpAny (model X.prog X.w) X.A (pyIter v) (PIE X pins σ tg R) X.xe s1) X.xe s
theorem go_of {M : Model} {A : Around} {E : Value → Shared → Prop} {s : Shared} {tg : Expr} {it : Addr} {u : Value} {o : Obj} {n : String} {vs : Array Value} {Q : Unit → Shared → Prop} (ho : s.heap.get? it = some o) (hc : o.cls = .type n) (hd : o.data = .fields vs)
    (hn : ["enumerate", "zip", "dict_itemiterator", "dict_reverseitemiterator", "odict_iterator", "itertools.zip_longest", "itertools.pairwise"].contains n = false) (hQ : Q () s) : wpAny M A (letOwnedTupleGo tg (.ref it) u) Q E s := by
  unfold letOwnedTupleGo
  cases tg <;> first
    | exact wpAny_pure hQ
    | (cases u <;> first
        | exact wpAny_pure hQ
        | (refine wpAny_bind (wpAny_load ho ?_)
           rw [hc, hd]
           show wpAny M A (if (["enumerate", "zip", "dict_itemiterator", "dict_reverseitemiterator", "odict_iterator", "itertools.zip_longest", "itertools.pairwise"].contains n && vs[0]? == some (rawInt _)) = true then _ else _) Q E s
           rw [if_neg (by intro h; rw [hn, Bool.false_and] at h; cases h)]
           exact wpAny_pure hQ))
def Itl (K : PySem.W.Frag) (a : Addr) : It :=
  ⟨fun i H => ∃ xs x, SqL K H a xs ∧ xs[i]? = some x, fun i H x H' => H' = H ∧ ∀ xs, SqL K H a xs → xs[i]? = some x, fun i H => ∃ xs, SqL K H a xs ∧ xs.length ≤ i⟩
def Itt (K : PySem.W.Frag) (a : Addr) : It :=
  ⟨fun i H => ∃ xs x, SqT K H a xs ∧ xs[i]? = some x, fun i H x H' => H' = H ∧ ∀ xs, SqT K H a xs → xs[i]? = some x, fun i H => ∃ xs, SqT K H a xs ∧ xs.length ≤ i⟩
def Itr (lo : Int) (n : Nat) : It := ⟨fun i _ => i < n, fun i H x H' => H' = H ∧ x = .int (lo + i), fun i _ => n ≤ i⟩
theorem turn_list {P : Program} {w : World} {K : PySem.W.Frag} {tg : Expr} (a it : Addr) : Turn P w K tg (Itl K a) [it] it (fun i h => h.IsListIter it a i) where
  mem := by simp
  obj := fun i h st b hb => by
    have e : b = it := by simpa using hb
    subst e
    obtain ⟨o, e, c, d⟩ := st
    exact ⟨o, e, fun v z => by rw [d] at z; cases z⟩
  keep := fun i h h' st k => st.at fun o e => k it (by simp) o e
  item := by
    intro X hP hw hK hc i pins s σ H E I hf st hg
    subst hP hw hK
    obtain ⟨xs, x, hq, hx⟩ := hg
    obtain ⟨its, rv, p, hz⟩ := I.list hq
    obtain ⟨u, hu, ru⟩ := rv.get hx
    obtain ⟨f0, f1, f2, f3, f4, f5⟩ := hf it (by simp)
    refine wpAny_pyNext_list_item st p.isList (x := u) (by simpa using hu) fun h' st' sb => ?_
    have I1 : Inv X pins σ H { s with heap := h' } := I.turned (t' := s.toks) (fun b o hb e => (sb.2 b hb).trans e) f0 f1 f3 f4 f5
    obtain ⟨o, e, c, d⟩ := id st'
    exact ⟨u, rfl, go_of (s := { s with heap := h' }) e c d (by decide) ⟨x, H, I1, ru, ⟨rfl, fun ys hy => by rw [I.list_inj hy hq]; exact hx⟩, st', fun b hb => (hf b hb).1⟩⟩
  done := by
    intro X hP hw hK hc i pins s σ H E I hf st hg
    subst hP hw hK
    obtain ⟨xs, hq, hx⟩ := hg
    obtain ⟨its, rv, p, hz⟩ := I.list hq
    obtain ⟨f0, f1, f2, f3, f4, f5⟩ := hf it (by simp)
    have hl := rv.length
    exact wpAny_pyNext_list_end (I.ok.hd hc) st p.isList (by simp; omega) fun h' eb => ⟨rfl, I.turned (t' := s.toks) (fun b o hb e => eb b o hb e) f0 f1 f3 f4 f5⟩
  self := fun _ _ _ _ _ st h => wpAny_pyIter_listiter st h
theorem turn_tuple {P : Program} {w : World} {K : PySem.W.Frag} {tg : Expr} (a it : Addr) : Turn P w K tg (Itt K a) [it] it (fun i h => h.IsTupleIter it a i) where
  mem := by simp
  obj := fun i h st b hb => by
    have e : b = it := by simpa using hb
    subst e
    obtain ⟨o, e, c, d⟩ := st
    exact ⟨o, e, fun v z => by rw [d] at z; cases z⟩
  keep := fun i h h' st k => st.at fun o e => k it (by simp) o e
  item := by
    intro X hP hw hK hc i pins s σ H E I hf st hg
    subst hP hw hK
    obtain ⟨xs, x, hq, hx⟩ := hg
    obtain ⟨its, rv, p, hz⟩ := I.tuple hq
    obtain ⟨u, hu, ru⟩ := rv.get hx
    obtain ⟨f0, f1, f2, f3, f4, f5⟩ := hf it (by simp)
    refine wpAny_pyNext_tuple_item st (show s.heap.IsTuple a its.toArray from p) (x := u) (by simpa using hu) fun h' st' sb => ?_
    have I1 : Inv X pins σ H { s with heap := h' } := I.turned (t' := s.toks) (fun b o hb e => (sb.2 b hb).trans e) f0 f1 f3 f4 f5
    obtain ⟨o, e, c, d⟩ := id st'
    exact ⟨u, rfl, go_of (s := { s with heap := h' }) e c d (by decide) ⟨x, H, I1, ru, ⟨rfl, fun ys hy => by rw [I.tuple_inj hy hq]; exact hx⟩, st', fun b hb => (hf b hb).1⟩⟩
  done := by
    intro X hP hw hK hc i pins s σ H E I hf st hg
    subst hP hw hK
    obtain ⟨xs, hq, hx⟩ := hg
    obtain ⟨its, rv, p, hz⟩ := I.tuple hq
    obtain ⟨f0, f1, f2, f3, f4, f5⟩ := hf it (by simp)
    have hl := rv.length
    exact wpAny_pyNext_tuple_end (I.ok.hd hc) st (show s.heap.IsTuple a its.toArray from p) (by simp; omega) fun h' eb => ⟨rfl, I.turned (t' := s.toks) (fun b o hb e => eb b o hb e) f0 f1 f3 f4 f5⟩
  self := fun _ _ _ _ _ st h => wpAny_pyIter_tupleiter st h
theorem turn_range {P : Program} {w : World} {K : PySem.W.Frag} {tg : Expr} (it : Addr) (lo : Int) (n : Nat) : Turn P w K tg (Itr lo n) [it] it (fun i h => IsRangeIter h it (lo + (i : Nat) * 1) ((n : Int) - (i : Nat)) 1) where
  mem := by simp
  obj := fun i h st b hb => by
    have e : b = it := by simpa using hb
    subst e
    exact ⟨_, st, fun v z => by
      have z' : Data.fields _ = Data.cell v := z
      cases z'⟩
  keep := fun i h h' st k => k it (by simp) _ st
  item := by
    intro X hP hw hK hc i pins s σ H E I hf st hg
    subst hP hw hK
    obtain ⟨f0, f1, f2, f3, f4, f5⟩ := hf it (by simp)
    have W := Walks.range (prog := X.prog) (w := X.w) (I.ok.hd hc) it lo 1 n
    refine W.item i s _ _ hg st fun v h' tk hv st' kk => ?_
    obtain ⟨t, rfl⟩ := hv
    have I1 : Inv X pins σ H { s with heap := h', toks := tk } := I.turned (fun b o hb e => kk b o (by simpa using hb) e) f0 f1 f3 f4 f5
    refine ⟨_, rfl, go_of (s := { s with heap := h', toks := tk }) (n := "range_iterator") st' rfl rfl (by decide) ⟨.int (lo + i), H, I1, ⟨t, ?_⟩, ⟨rfl, rfl⟩, st', fun b hb => (hf b hb).1⟩⟩
    rw [Int.mul_one]
  done := by
    intro X hP hw hK hc i pins s σ H E I hf st hg
    subst hP hw hK
    obtain ⟨f0, f1, f2, f3, f4, f5⟩ := hf it (by simp)
    exact wpAny_pyNext_range_end (I.ok.hd hc) st (by have : n ≤ i := hg; omega) fun h' eb => ⟨rfl, I.turned (t' := s.toks) (fun b o hb e => eb b o hb e) f0 f1 f3 f4 f5⟩
  self := fun _ _ _ _ _ st h => wpAny_pyIter_rangeiter st h
end L2
namespace L2
open PySem PySem.Spec PyProof.Rows
section
variable {X : Cx} {tg : Expr}
def iList (K : PySem.W.Frag) (tl : TE) : TI := fun σ H R => tl σ H fun x H1 => ∃ a, x = .ref a ∧ (∃ xs, SqL K H1 a xs) ∧ R (Itl K a) H1
def iTup (K : PySem.W.Frag) (tl : TE) : TI := fun σ H R => tl σ H fun x H1 => ∃ a, x = .ref a ∧ (∃ xs, SqT K H1 a xs) ∧ R (Itt K a) H1
theorem pi_list {l : Expr} {tl : TE} (hl : PE X l tl) : PI X tg l (iList X.K tl) := by
  intro pins s σ H R I h
  refine thnE (hl pins s σ H _ I h) fun v s1 x H1 I1 r1 q1 => ?_
  obtain ⟨a, e, ⟨xs, hq⟩, q⟩ := q1
  subst e
  cases r1
  obtain ⟨its, rv, p, hz⟩ := I1.list hq
  refine wpAny_pyIter_list p.isList ?_
  refine ⟨s1.heap.objs.size, [s1.heap.objs.size], _, _, H1, rfl, I1.kept (t' := s1.toks) fun b o e => Heap.get?_push_of_some _ e, turn_list a _, ⟨_, Heap.get?_push_size _ rfl, rfl, rfl⟩, fun b hb => ?_, q⟩
  have e : b = s1.heap.objs.size := by simpa using hb
  subst e
  exact I1.fpOk (Nat.le_refl _) (I1.hok.fresh (Nat.le_refl _))
theorem pi_tup {l : Expr} {tl : TE} (hl : PE X l tl) : PI X tg l (iTup X.K tl) := by
  intro pins s σ H R I h
  refine thnE (hl pins s σ H _ I h) fun v s1 x H1 I1 r1 q1 => ?_
  obtain ⟨a, e, ⟨xs, hq⟩, q⟩ := q1
  subst e
  cases r1
  obtain ⟨its, rv, p, hz⟩ := I1.tuple hq
  refine wpAny_pyIter_tuple (show s1.heap.IsTuple a its.toArray from p) ?_
  refine ⟨s1.heap.objs.size, [s1.heap.objs.size], _, _, H1, rfl, I1.kept (t' := s1.toks) fun b o e => Heap.get?_push_of_some _ e, turn_tuple a _, ⟨_, Heap.get?_push_size _ rfl, rfl, rfl⟩, fun b hb => ?_, q⟩
  have e : b = s1.heap.objs.size := by simpa using hb
  subst e
  exact I1.fpOk (Nat.le_refl _) (I1.hok.fresh (Nat.le_refl _))
theorem range_it {pins : List (Addr × Obj)} {σ : St} {H : Hp} {s : Shared} {R : It → Hp → Prop} {E : Value → Shared → Prop} {lo hi : Int} {t u v : Tok} {tk : Nat} (I : Inv X pins σ H s) (h1 : -(2 ^ 62) ≤ lo) (h2 : lo < 2 ^ 62) (h3 : -(2 ^ 62) ≤ hi) (h4 : hi < 2 ^ 62)
    (q : R (Itr lo (hi - lo).toNat) H) : wpAny (model X.prog X.w) X.A (pyIter (.ref s.heap.objs.size)) (PIE X pins σ tg R) E { s with heap := s.heap.push { cls := .type "range", data := .fields #[.int lo t, .int hi u, .int 1 v] }, toks := tk } := by
  refine wpAny_pyIter_range (IsRange.new ..) (small_one h1 h2 h3 h4) ?_
  have I1 : Inv X pins σ H { s with heap := s.heap.push { cls := .type "range", data := .fields #[.int lo t, .int hi u, .int 1 v] }, toks := tk } := I.kept fun b o e => Heap.get?_push_of_some _ e
  refine ⟨(s.heap.push { cls := .type "range", data := .fields #[.int lo t, .int hi u, .int 1 v] }).objs.size, [(s.heap.push { cls := .type "range", data := .fields #[.int lo t, .int hi u, .int 1 v] }).objs.size], _, _, H, rfl,
    I1.kept (t' := tk) fun b o e => Heap.get?_push_of_some _ e, turn_range _ lo (hi - lo).toNat, ?_, fun b hb => ?_, q⟩
  · have e1 : lo + ((0 : Nat) : Int) * 1 = lo := by simp
    have e2 : (((hi - lo).toNat : Nat) : Int) - ((0 : Nat) : Int) = Builtin.Range.rangeSize lo hi 1 := by rw [rangeSize_one]; split <;> omega
    show IsRangeIter _ _ (lo + ((0 : Nat) : Int) * 1) ((((hi - lo).toNat : Nat) : Int) - ((0 : Nat) : Int)) 1
    rw [e1, e2]
    exact Heap.get?_push_size _ rfl
  · have e : b = (s.heap.push { cls := .type "range", data := .fields #[.int lo t, .int hi u, .int 1 v] }).objs.size := by simpa using hb
    subst e
    exact I1.fpOk (Nat.le_refl _) (I1.hok.fresh (Nat.le_refl _))
def iRng1 (ta : TA) : TI := fun σ H R => ta σ H fun vs H1 => ∃ j : Int, vs = [.int j] ∧ -(2 ^ 62) ≤ j ∧ j < 2 ^ 62 ∧ R (Itr 0 j.toNat) H1
def iRng2 (ta : TA) : TI := fun σ H R => ta σ H fun vs H1 => ∃ i j : Int, vs = [.int i, .int j] ∧ (-(2 ^ 62) ≤ i ∧ i < 2 ^ 62 ∧ -(2 ^ 62) ≤ j ∧ j < 2 ^ 62) ∧ R (Itr i (j - i).toNat) H1
theorem pi_range1 {a : Expr} {ta : TA} {p pos : Pos} (hg : Gl X "range") (hm : X.mg "range" = none) (ha : PA X [a] ta) (hs : starEach [a] X.env = [(false, eval a X.env)] := by rfl) : PI X tg (.Call (.Name "range" p) [a] [] pos) (iRng1 ta) := by
  intro pins s σ H R I h
  refine Call_ (ld_blt I hg hm boot_range (PyProof.Rows.callWith_type1 (thnA (ha pos pins s σ H _ I h) fun us s1 vs H1 I1 r1 q1 => ?_) hs rfl))
  obtain ⟨j, e, q1, q2, q⟩ := q1
  subst e
  cases r1 with
  | cons r rr =>
    cases rr
    obtain ⟨t, rfl⟩ := r
    exact call_range_1 (range_it I1 (by omega) (by omega) q1 q2 (by simpa using q))
theorem pi_range2 {a b : Expr} {ta : TA} {p pos : Pos} (hg : Gl X "range") (hm : X.mg "range" = none) (ha : PA X [a, b] ta) (hs : starEach [a, b] X.env = [(false, eval a X.env), (false, eval b X.env)] := by rfl) (hs2 : starEach [b] X.env = [(false, eval b X.env)] := by rfl) :
    PI X tg (.Call (.Name "range" p) [a, b] [] pos) (iRng2 ta) := by
  intro pins s σ H R I h
  refine Call_ (ld_blt I hg hm boot_range (PyProof.Rows.callWith_type1 (thnA (ha pos pins s σ H _ I h) fun us s1 vs H1 I1 r1 q1 => ?_) (by rw [hs, hs2]) (by rw [hs2]; rfl)))
  obtain ⟨i, j, e, ⟨q1, q2, q3, q4⟩, q⟩ := q1
  subst e
  cases r1 with
  | cons r rr =>
    cases rr with
    | cons r' rr =>
      cases rr
      obtain ⟨t, rfl⟩ := r
      obtain ⟨t', rfl⟩ := r'
      exact call_range_2 (range_it I1 q1 q2 q3 q4 q)
def tFor (wi : TI) (g : TG) (tb : TS) : TS := fun D σ H => wi σ H fun J H1 => ∃ W : Nat → Nat → St → Hp → Prop, (∃ m, W 0 m σ H1) ∧ ∀ i m σ H, W i m σ H →
  (J.stop i H ∧ D.nx σ H) ∨ (J.go i H ∧ ∃ N : St → Hp → Prop, (∀ σ' H', N σ' H' → ∃ m', m' < m ∧ W (i + 1) m' σ' H') ∧ ∀ x H', J.yld i H x H' → g x σ H' fun σ2 H2 => tb { D with nx := N, ct := N, bk := D.nx } σ2 H2)
def pinsAt (fp : List Addr) (h : Heap) : List (Addr × Obj) := fp.filterMap fun b => (h.get? b).map fun o => (b, o)
theorem mem_pinsAt {fp : List Addr} {h : Heap} {b : Addr} {o : Obj} (hb : b ∈ fp) (e : h.get? b = some o) : (b, o) ∈ pinsAt fp h := List.mem_filterMap.mpr ⟨b, hb, by rw [e]; rfl⟩
theorem of_pinsAt {fp : List Addr} {h : Heap} {p : Addr × Obj} (hp : p ∈ pinsAt fp h) : p.1 ∈ fp ∧ h.get? p.1 = some p.2 := by
  obtain ⟨b, hb, e⟩ := List.mem_filterMap.mp hp
  cases q : h.get? b with
  | none => rw [q] at e; cases e
  | some o =>
    rw [q] at e
    have e' : (b, o) = p := Option.some.inj e
    subst e'
    exact ⟨hb, q⟩
theorem Inv.pinned {pins : List (Addr × Obj)} {σ : St} {H : Hp} {s : Shared} {fp : List Addr} (I : Inv X pins σ H s) (hf : ∀ b ∈ fp, FpOk X pins H b) (ho : ∀ b ∈ fp, ∃ o, s.heap.get? b = some o ∧ ∀ v, o.data ≠ .cell v) : Inv X (pins ++ pinsAt fp s.heap) σ H s :=
  I.pins_of fun p hp => (List.mem_append.mp hp).elim (fun z => I.pin p (List.mem_append_right _ z)) fun z => by
    obtain ⟨hb, e⟩ := of_pinsAt z
    obtain ⟨f0, f1, f2, _⟩ := hf p.1 hb
    obtain ⟨o, e', d⟩ := ho p.1 hb
    rw [e] at e'; cases e'
    exact ⟨e, f0, f1, f2, d⟩
theorem Inv.unpinned {pins pl : List (Addr × Obj)} {σ : St} {H : Hp} {s : Shared} (I : Inv X (pins ++ pl) σ H s) : Inv X pins σ H s := I.pins_of fun p hp => I.pin p (List.mem_append_right _ (List.mem_append_left _ hp))
theorem ps_for {iter : Expr} {body : List Stmt} {wi : TI} {g : TG} {tb : TS} {pos : Pos} (hp : PassesOwn (model X.prog X.w) X.A X.env X.xe) (hc : X.calm = true) (hi : PI X tg iter wi) (hg : PG X tg g) (hb : PSs X body tb)
    (hs : ∀ x, foldedSetIterable iter X.env x = pure x := by intro _; rfl) : PS X (.For tg iter body [] pos) (tFor wi g tb) := by
  intro pins s σ H D I h
  refine wpAny_For (thn (hi pins s σ H _ I h) fun v s1 h1 => thn h1 fun itv s2 h2 => ?_) hs
  obtain ⟨it, fp, tn, J, H2, e, I2, T, st2, f2, W, ⟨m0, w0⟩, turn⟩ := h2
  subst e
  -- what stays true of the iterator's objects through the loop
  have stat : ∀ {H' : Hp}, (∀ b ∈ fp, H' b = none) → ∀ b ∈ fp, FpOk X pins H' b := fun hn b hb => ⟨hn b hb, (f2 b hb).2⟩
  refine codeAny_forLoop_any (fun n s' => ∃ i σ' H', Inv X pins σ' H' s' ∧ tn i s'.heap ∧ (∀ b ∈ fp, H' b = none) ∧ W i n σ' H') ?_ m0 ⟨0, σ, H2, I2, st2, fun b hb => (f2 b hb).1, w0⟩
  rintro n s3 ⟨i, σ3, H3, I3, st3, fr3, w3⟩
  rcases turn i n σ3 H3 w3 with ⟨stop, qn⟩ | ⟨go, N, hN, step⟩
  · refine wpAny_passesOwn hp (thn (T.done X rfl rfl rfl hc i pins s3 σ3 H3 X.xe I3 (stat fr3) st3 stop) fun r s4 ⟨hr, I4⟩ => ?_)
    subst hr
    exact wpAny_execs_nil ⟨σ3, H3, I4, qn⟩
  · refine wpAny_passesOwn hp (thn (T.item X rfl rfl rfl hc i pins s3 σ3 H3 X.xe I3 (stat fr3) st3 go) fun r s4 ⟨u, hr, h4⟩ => ?_)
    subst hr
    refine wpAny_passesOwn hp (thn h4 fun _ s5 ⟨x, H5, I5, r5, y5, st5, fr5⟩ => ?_)
    have I5' := I5.pinned (stat fr5) (T.obj _ _ st5)
    refine wpAny_passesOwn hp (thn (hg _ s5 σ3 H5 x u _ I5' r5 (step x H5 y5)) fun _ s6 ⟨σ6, H6, I6, q6⟩ => ?_)
    refine wpAny_passesOwn hp (thn (hb _ s6 σ6 H6 _ I6 q6) fun f s7 q7 => ?_)
    have again : ∀ {σ7 : St} {H7 : Hp}, Inv X (pins ++ pinsAt fp s5.heap) σ7 H7 s7 → N σ7 H7 → ∃ m, m < n ∧ ∃ i σ' H', Inv X pins σ' H' s7 ∧ tn i s7.heap ∧ (∀ b ∈ fp, H' b = none) ∧ W i m σ' H' := fun {σ7 H7} I7 n7 => by
      obtain ⟨m', hm, w7⟩ := hN σ7 H7 n7
      refine ⟨m', hm, i + 1, σ7, H7, I7.unpinned, T.keep _ _ _ st5 fun b hb o e => (I7.pin (b, o) (List.mem_append_right _ (List.mem_append_right _ (mem_pinsAt hb e)))).1, fun b hb => ?_, w7⟩
      obtain ⟨o, e, d⟩ := T.obj _ _ st5 b hb
      exact (I7.pin (b, o) (List.mem_append_right _ (List.mem_append_right _ (mem_pinsAt hb e)))).2.1
    cases f with
    | next => obtain ⟨σ7, H7, I7, n7⟩ := q7; exact again I7 n7
    | cont => obtain ⟨σ7, H7, I7, n7⟩ := q7; exact again I7 n7
    | brk => obtain ⟨σ7, H7, I7, q7⟩ := q7; exact ⟨σ7, H7, I7.unpinned, q7⟩
    | ret v => obtain ⟨x7, σ7, H7, I7, r7, q7⟩ := q7; exact ⟨x7, σ7, H7, I7.unpinned, r7, q7⟩
end
theorem for_list {K : PySem.W.Frag} {a : Addr} {xs : List V} {g : TG} {tb : TS} {D : Ends} {σ : St} {H : Hp} (Pv : Nat → St → Hp → Prop) (h0 : Pv 0 σ H) (hl : ∀ i σ H, i ≤ xs.length → Pv i σ H → SqL K H a xs)
    (hs : ∀ i x σ H, xs[i]? = some x → Pv i σ H → g x σ H fun σ2 H2 => tb { D with nx := Pv (i + 1), ct := Pv (i + 1), bk := D.nx } σ2 H2) (hd : ∀ σ H, Pv xs.length σ H → D.nx σ H) :
    ∃ W : Nat → Nat → St → Hp → Prop, (∃ m, W 0 m σ H) ∧ ∀ i m σ H, W i m σ H →
      ((Itl K a).stop i H ∧ D.nx σ H) ∨ ((Itl K a).go i H ∧ ∃ N : St → Hp → Prop, (∀ σ' H', N σ' H' → ∃ m', m' < m ∧ W (i + 1) m' σ' H') ∧ ∀ x H', (Itl K a).yld i H x H' → g x σ H' fun σ2 H2 => tb { D with nx := N, ct := N, bk := D.nx } σ2 H2) := by
  refine ⟨fun i m σ H => m = xs.length - i ∧ i ≤ xs.length ∧ Pv i σ H, ⟨xs.length, by simp, Nat.zero_le _, h0⟩, ?_⟩
  rintro i m σ H ⟨rfl, hi, p⟩
  have q := hl i σ H hi p
  by_cases hlt : i < xs.length
  · refine .inr ⟨⟨xs, xs[i], q, by simp [hlt]⟩, Pv (i + 1), fun σ' H' p' => ⟨xs.length - (i + 1), by omega, rfl, hlt, p'⟩, fun x H' y => ?_⟩
    obtain ⟨e, y⟩ := y
    subst e
    exact hs i x σ _ (y xs q) p
  · have e : i = xs.length := by omega
    subst e
    exact .inl ⟨⟨xs, q, Nat.le_refl _⟩, hd σ H p⟩
theorem for_tup {K : PySem.W.Frag} {a : Addr} {xs : List V} {g : TG} {tb : TS} {D : Ends} {σ : St} {H : Hp} (Pv : Nat → St → Hp → Prop) (h0 : Pv 0 σ H) (hl : ∀ i σ H, i ≤ xs.length → Pv i σ H → SqT K H a xs)
    (hs : ∀ i x σ H, xs[i]? = some x → Pv i σ H → g x σ H fun σ2 H2 => tb { D with nx := Pv (i + 1), ct := Pv (i + 1), bk := D.nx } σ2 H2) (hd : ∀ σ H, Pv xs.length σ H → D.nx σ H) :
    ∃ W : Nat → Nat → St → Hp → Prop, (∃ m, W 0 m σ H) ∧ ∀ i m σ H, W i m σ H →
      ((Itt K a).stop i H ∧ D.nx σ H) ∨ ((Itt K a).go i H ∧ ∃ N : St → Hp → Prop, (∀ σ' H', N σ' H' → ∃ m', m' < m ∧ W (i + 1) m' σ' H') ∧ ∀ x H', (Itt K a).yld i H x H' → g x σ H' fun σ2 H2 => tb { D with nx := N, ct := N, bk := D.nx } σ2 H2) := by
  refine ⟨fun i m σ H => m = xs.length - i ∧ i ≤ xs.length ∧ Pv i σ H, ⟨xs.length, by simp, Nat.zero_le _, h0⟩, ?_⟩
  rintro i m σ H ⟨rfl, hi, p⟩
  have q := hl i σ H hi p
  by_cases hlt : i < xs.length
  · refine .inr ⟨⟨xs, xs[i], q, by simp [hlt]⟩, Pv (i + 1), fun σ' H' p' => ⟨xs.length - (i + 1), by omega, rfl, hlt, p'⟩, fun x H' y => ?_⟩
    obtain ⟨e, y⟩ := y
    subst e
    exact hs i x σ _ (y xs q) p
  · have e : i = xs.length := by omega
    subst e
    exact .inl ⟨⟨xs, q, Nat.le_refl _⟩, hd σ H p⟩
theorem for_range {lo : Int} {n : Nat} {g : TG} {tb : TS} {D : Ends} {σ : St} {H : Hp} (Pv : Nat → St → Hp → Prop) (h0 : Pv 0 σ H)
    (hs : ∀ i σ H, i < n → Pv i σ H → g (.int (lo + i)) σ H fun σ2 H2 => tb { D with nx := Pv (i + 1), ct := Pv (i + 1), bk := D.nx } σ2 H2) (hd : ∀ σ H, Pv n σ H → D.nx σ H) :
    ∃ W : Nat → Nat → St → Hp → Prop, (∃ m, W 0 m σ H) ∧ ∀ i m σ H, W i m σ H →
      ((Itr lo n).stop i H ∧ D.nx σ H) ∨ ((Itr lo n).go i H ∧ ∃ N : St → Hp → Prop, (∀ σ' H', N σ' H' → ∃ m', m' < m ∧ W (i + 1) m' σ' H') ∧ ∀ x H', (Itr lo n).yld i H x H' → g x σ H' fun σ2 H2 => tb { D with nx := N, ct := N, bk := D.nx } σ2 H2) := by
  refine ⟨fun i m σ H => m = n - i ∧ i ≤ n ∧ Pv i σ H, ⟨n, by simp, Nat.zero_le _, h0⟩, ?_⟩
  rintro i m σ H ⟨rfl, hi, p⟩
  by_cases hlt : i < n
  · refine .inr ⟨hlt, Pv (i + 1), fun σ' H' p' => ⟨n - (i + 1), by omega, rfl, hlt, p'⟩, fun x H' y => ?_⟩
    obtain ⟨e, y⟩ := y
    subst e y
    exact hs i σ _ hlt p
  · have e : i = n := by omega
    subst e
    exact .inl ⟨Nat.le_refl _, hd σ H p⟩
end L2
namespace L2
open PySem PySem.Spec PyProof.Rows
abbrev R2 := V → V → Hp → VK → Prop
def OpR (X : Cx) (f : Value → Value → Sem Value) (r : R2) : Prop :=
  ∀ (pins : List (Addr × Obj)) (s : Shared) (σ : St) (H : Hp) (x y : V) (v u : Value) (Q : VK), Inv X pins σ H s → RelV x v → RelV y u → r x y H Q →
    wpAny (model X.prog X.w) X.A (f v u) (EP X pins σ Q) X.xe s
def UnR (X : Cx) (f : Value → Sem Value) (r : V → Hp → VK → Prop) : Prop :=
  ∀ (pins : List (Addr × Obj)) (s : Shared) (σ : St) (H : Hp) (x : V) (v : Value) (Q : VK), Inv X pins σ H s → RelV x v → r x H Q →
    wpAny (model X.prog X.w) X.A (f v) (EP X pins σ Q) X.xe s
def CallR (X : Cx) (f : Value) (r : List V → Hp → VK → Prop) : Prop :=
  ∀ (pins : List (Addr × Obj)) (s : Shared) (σ : St) (H : Hp) (xs : List V) (us : List Value) (Q : VK), Inv X pins σ H s → Vals xs us → r xs H Q →
    wpAny (model X.prog X.w) X.A (call f us) (EP X pins σ Q) X.xe s
def TruR (X : Cx) (r : V → Hp → (Bool → Hp → Prop) → Prop) : Prop :=
  ∀ (pins : List (Addr × Obj)) (s : Shared) (σ : St) (H : Hp) (x : V) (v : Value) (Q : Bool → Hp → Prop), Inv X pins σ H s → RelV x v → r x H Q →
    wpAny (model X.prog X.w) X.A (truthy v) (TP X pins σ Q) X.xe s
def tOp (r : R2) (ta tb : TE) : TE := fun σ H Q => ta σ H fun x H1 => tb σ H1 fun y H2 => r x y H2 Q
def tUn (r : V → Hp → VK → Prop) (ta : TE) : TE := fun σ H Q => ta σ H fun x H1 => r x H1 Q
def rI (C : Int → Int → Prop) (g : Int → Int → V) : R2 := fun x y H Q => ∃ i j, x = .int i ∧ y = .int j ∧ C i j ∧ Q (g i j) H
def rI0 (g : Int → Int → V) : R2 := fun x y H Q => ∃ i j, x = .int i ∧ y = .int j ∧ Q (g i j) H
def rU (g : Int → V) : V → Hp → VK → Prop := fun x H Q => ∃ i, x = .int i ∧ Q (g i) H
section
variable {X : Cx} {a b c : Expr} {ta tb tc : TE} {pos : Pos}
theorem binT (ha : PE X a ta) (hb : PE X b tb) {pins : List (Addr × Obj)} {s : Shared} {σ : St} {H : Hp} {R : V → V → Hp → Prop} (I : Inv X pins σ H s)
    (h : ta σ H fun x H1 => tb σ H1 fun y H2 => R x y H2) {Q : Value → Shared → Prop} {f : Value → Value → Sem Value}
    (hf : ∀ v u s2 x y H2, Inv X pins σ H2 s2 → RelV x v → RelV y u → R x y H2 → wpAny (model X.prog X.w) X.A (f v u) Q X.xe s2) :
    wpAny (model X.prog X.w) X.A (eval a X.env) (fun v s₁ => wpAny (model X.prog X.w) X.A (eval b X.env) (fun u s₂ => wpAny (model X.prog X.w) X.A (f v u) Q X.xe s₂) X.xe s₁) X.xe s := by
  refine thnE (ha pins s σ H _ I h) fun v s1 x H1 I1 r1 q1 => ?_
  refine thnE (hb pins s1 σ H1 _ I1 q1) fun u s2 y H2 I2 r2 q2 => ?_
  exact hf v u s2 x y H2 I2 r1 r2 q2
theorem pe_op {op : Operator} {r : R2} (ho : OpR X (binaryOp op) r) (ha : PE X a ta) (hb : PE X b tb) : PE X (.BinOp a op b pos) (tOp r ta tb) := by
  intro pins s σ H Q I h
  exact wpAny_BinOp (binT ha hb I h fun v u s2 x y H2 I2 rx ry q => ho pins s2 σ H2 x y v u Q I2 rx ry q)
theorem pe_un {op : UnaryOp} {r : V → Hp → VK → Prop} (ho : UnR X (unaryOp op) r) (ha : PE X a ta) : PE X (.UnaryOp op a pos) (tUn r ta) := by
  intro pins s σ H Q I h
  exact UnaryOp_ (thnE (ha pins s σ H _ I h) fun v s1 x H1 I1 r1 q1 => ho pins s1 σ H1 x v Q I1 r1 q1)
theorem opI {f : Value → Value → Sem Value} {C : Int → Int → Prop} {g : Int → Int → Int}
    (rule : ∀ (i j : Int) (t u : Tok) (s : Shared) (Q : Value → Shared → Prop) (E : Value → Shared → Prop), C i j → Q (.int (g i j) s.toks) { s with toks := s.toks + 1 } → wpAny (model X.prog X.w) X.A (f (.int i t) (.int j u)) Q E s) :
    OpR X f (rI C fun i j => .int (g i j)) := by
  intro pins s σ H x y v u Q I rx ry h
  obtain ⟨i, j, rfl, rfl, hc, q⟩ := h
  obtain ⟨t, rfl⟩ := rx
  obtain ⟨t', rfl⟩ := ry
  exact rule i j t t' s _ _ hc ⟨.int (g i j), H, I.tok _, ⟨_, rfl⟩, q⟩
theorem opI0 {f : Value → Value → Sem Value} {g : Int → Int → Int}
    (rule : ∀ (i j : Int) (t u : Tok) (s : Shared) (Q : Value → Shared → Prop) (E : Value → Shared → Prop), Q (.int (g i j) s.toks) { s with toks := s.toks + 1 } → wpAny (model X.prog X.w) X.A (f (.int i t) (.int j u)) Q E s) :
    OpR X f (rI0 fun i j => .int (g i j)) := by
  intro pins s σ H x y v u Q I rx ry h
  obtain ⟨i, j, rfl, rfl, q⟩ := h
  obtain ⟨t, rfl⟩ := rx
  obtain ⟨t', rfl⟩ := ry
  exact rule i j t t' s _ _ ⟨.int (g i j), H, I.tok _, ⟨_, rfl⟩, q⟩
theorem opB0 {f : Value → Value → Sem Value} {g : Int → Int → Bool}
    (rule : ∀ (i j : Int) (t u : Tok) (s : Shared) (Q : Value → Shared → Prop) (E : Value → Shared → Prop), Q (.bool (g i j)) s → wpAny (model X.prog X.w) X.A (f (.int i t) (.int j u)) Q E s) :
    OpR X f (rI0 fun i j => .bl (g i j)) := by
  intro pins s σ H x y v u Q I rx ry h
  obtain ⟨i, j, rfl, rfl, q⟩ := h
  obtain ⟨t, rfl⟩ := rx
  obtain ⟨t', rfl⟩ := ry
  exact rule i j t t' s _ _ ⟨.bl (g i j), H, I, rfl, q⟩
def CDiv (i j : Int) : Prop := 0 < j ∧ j < 1073741824
def CPow (i j : Int) : Prop := 0 ≤ j ∧ j ≤ 1000000 ∧ i.natAbs < 2 ^ 64
def CMul (i j : Int) : Prop := (-(2 ^ 64) < i ∧ i < 2 ^ 64) ∨ (-(2 ^ 64) < j ∧ j < 2 ^ 64)
theorem CMul.ok {i j : Int} (h : CMul i j) : IntMulOk i j := by
  rcases h with ⟨h1, h2⟩ | ⟨h1, h2⟩
  · exact .of_left (intBits_le_64 h1 h2)
  · exact .of_right (intBits_le_64 h1 h2)
theorem op_add : OpR X (binaryOp .Add) (rI0 fun i j => .int (i + j)) := opI0 fun _ _ _ _ _ _ _ q => add_int q
theorem op_sub : OpR X (binaryOp .Sub) (rI0 fun i j => .int (i - j)) := opI0 fun _ _ _ _ _ _ _ q => sub_int q
theorem op_mul : OpR X (binaryOp .Mult) (rI CMul fun i j => .int (i * j)) := opI fun _ _ _ _ _ _ _ hc q => mul_int q hc.ok
theorem op_fdiv : OpR X (binaryOp .FloorDiv) (rI CDiv fun i j => .int (i / j)) := opI fun i j _ _ _ _ _ hc q => by
  have h1 : (0 : Int) < j := hc.1
  have h2 : j < 1073741824 := hc.2
  exact floordiv_int (by omega) (by rw [Int.fdiv_eq_ediv_of_nonneg i (by omega)]; exact q) (.inl (PyProof.noPylong_small (by omega)))
theorem op_mod : OpR X (binaryOp .Mod) (rI (fun _ j => 0 < j) fun i j => .int (i % j)) := opI fun i j _ _ _ _ _ hc q => by
  have h1 : (0 : Int) < j := hc
  exact mod_int' (by omega) (by rw [Int.fmod_eq_emod_of_nonneg i (by omega)]; exact q)
theorem op_pow : OpR X (binaryOp .Pow) (rI CPow fun i j => .int (i ^ j.toNat)) := opI fun _ _ _ _ _ _ _ hc q => pow_int_small hc.1 hc.2.1 hc.2.2 q
theorem unI {f : Value → Sem Value} {g : Int → Int}
    (rule : ∀ (i : Int) (t : Tok) (s : Shared) (Q : Value → Shared → Prop) (E : Value → Shared → Prop), Q (.int (g i) s.toks) { s with toks := s.toks + 1 } → wpAny (model X.prog X.w) X.A (f (.int i t)) Q E s) :
    UnR X f (rU fun i => .int (g i)) := by
  intro pins s σ H x v Q I rx h
  obtain ⟨i, rfl, q⟩ := h
  obtain ⟨t, rfl⟩ := rx
  exact rule i t s _ _ ⟨.int (g i), H, I.tok _, ⟨_, rfl⟩, q⟩
theorem un_neg : UnR X (unaryOp .USub) (rU fun i => .int (-i)) := unI fun _ _ _ _ _ q => neg_int q
end
def scal : V → V → Bool
  | .non, .non => true | .non, .int _ => true | .int _, .non => true | .non, .bl _ => true | .bl _, .non => true | .non, .str _ => true | .str _, .non => true
  | .int _, .int _ => true | .bl _, .bl _ => true | .str _, .str _ => true | .byt _, .byt _ => true
  | .int _, .str _ => true | .str _, .int _ => true | .bl _, .str _ => true | .str _, .bl _ => true
  | _, _ => false
def rEq : R2 := fun x y H Q => scal x y = true ∧ Q (.bl (decide (x = y))) H
def rNe : R2 := fun x y H Q => scal x y = true ∧ Q (.bl (!decide (x = y))) H
theorem dec_int {i j : Int} : decide (V.int i = V.int j) = (i == j) := by
  rw [Bool.eq_iff_iff]
  simp
theorem dec_bl {i j : Bool} : decide (V.bl i = V.bl j) = (i == j) := by
  rw [Bool.eq_iff_iff]
  simp
theorem dec_str {i j : Str} : decide (V.str i = V.str j) = (i == j) := by
  rw [Bool.eq_iff_iff]
  simp
theorem dec_byt {i j : Array UInt8} : decide (V.byt i = V.byt j) = (i.toList == j.toList) := by
  rw [Bool.eq_iff_iff]
  cases i
  cases j
  simp
section
variable {X : Cx} {a b c : Expr} {ta tb tc : TE} {pos : Pos}
theorem fin_bl {pins : List (Addr × Obj)} {σ : St} {H : Hp} {s : Shared} {Q : VK} {k k' : Bool} (I : Inv X pins σ H s) (q : Q (.bl k) H) (e : k = k') : EP X pins σ Q (.bool k') s := by
  subst e
  exact ⟨.bl k, H, I, rfl, q⟩
theorem op_eq : OpR X (compareOp .Eq) rEq := by
  intro pins s σ H x y v u Q I rx ry h
  obtain ⟨hs, q⟩ := h
  cases x with
  | non =>
    cases rx
    cases y with
    | non => cases ry; exact PySem.EqNone.eq_none_none (fin_bl I q (by simp))
    | bl j => cases ry; exact PySem.EqNone.eq_none_bool (fin_bl I q (by simp))
    | int j => obtain ⟨t', rfl⟩ := ry; exact PySem.EqNone.eq_none_int (fin_bl I q (by simp))
    | str j => obtain ⟨t', rfl⟩ := ry; exact PySem.EqNone.eq_none_str (fin_bl I q (by simp))
    | _ => exact absurd (show false = true from hs) Bool.false_ne_true
  | bl i =>
    cases rx
    cases y with
    | non => cases ry; exact PySem.EqNone.eq_bool_none (fin_bl I q (by simp))
    | bl j => cases ry; exact eq_bool (fin_bl I q dec_bl)
    | str j => obtain ⟨t', rfl⟩ := ry; exact PySem.EqMixed.eq_bool_str (fin_bl I q (by simp))
    | _ => exact absurd (show false = true from hs) Bool.false_ne_true
  | int i =>
    obtain ⟨t, rfl⟩ := rx
    cases y with
    | non => cases ry; exact PySem.EqNone.eq_int_none (fin_bl I q (by simp))
    | int j => obtain ⟨t', rfl⟩ := ry; exact eq_int (fin_bl I q dec_int)
    | str j => obtain ⟨t', rfl⟩ := ry; exact PySem.EqMixed.eq_int_str (fin_bl I q (by simp))
    | _ => exact absurd (show false = true from hs) Bool.false_ne_true
  | str i =>
    obtain ⟨t, rfl⟩ := rx
    cases y with
    | non => cases ry; exact PySem.EqNone.eq_str_none (fin_bl I q (by simp))
    | bl j => cases ry; exact PySem.EqMixed.eq_str_bool (fin_bl I q (by simp))
    | int j => obtain ⟨t', rfl⟩ := ry; exact PySem.EqMixed.eq_str_int (fin_bl I q (by simp))
    | str j => obtain ⟨t', rfl⟩ := ry; exact eq_str (fin_bl I q dec_str)
    | _ => exact absurd (show false = true from hs) Bool.false_ne_true
  | byt i =>
    obtain ⟨t, rfl⟩ := rx
    cases y with
    | byt j => obtain ⟨t', rfl⟩ := ry; exact PySem.W.eq_bytes (fin_bl I q dec_byt)
    | _ => exact absurd (show false = true from hs) Bool.false_ne_true
  | _ => cases y <;> exact absurd (show false = true from hs) Bool.false_ne_true
theorem op_ne : OpR X (compareOp .NotEq) rNe := by
  intro pins s σ H x y v u Q I rx ry h
  obtain ⟨hs, q⟩ := h
  cases x with
  | non =>
    cases rx
    cases y with
    | non => cases ry; exact PySem.EqNone.ne_none_none (fin_bl I q (by simp))
    | bl j => cases ry; exact PySem.EqNone.ne_none_bool (fin_bl I q (by simp))
    | int j => obtain ⟨t', rfl⟩ := ry; exact PySem.EqNone.ne_none_int (fin_bl I q (by simp))
    | str j => obtain ⟨t', rfl⟩ := ry; exact PySem.EqNone.ne_none_str (fin_bl I q (by simp))
    | _ => exact absurd (show false = true from hs) Bool.false_ne_true
  | bl i =>
    cases rx
    cases y with
    | non => cases ry; exact PySem.EqNone.ne_bool_none (fin_bl I q (by simp))
    | bl j => cases ry; exact ne_bool (fin_bl I q (congrArg not dec_bl))
    | str j => obtain ⟨t', rfl⟩ := ry; exact PySem.EqMixed.ne_bool_str (fin_bl I q (by simp))
    | _ => exact absurd (show false = true from hs) Bool.false_ne_true
  | int i =>
    obtain ⟨t, rfl⟩ := rx
    cases y with
    | non => cases ry; exact PySem.EqNone.ne_int_none (fin_bl I q (by simp))
    | int j => obtain ⟨t', rfl⟩ := ry; exact ne_int (fin_bl I q (congrArg not dec_int))
    | str j => obtain ⟨t', rfl⟩ := ry; exact PySem.EqMixed.ne_int_str (fin_bl I q (by simp))
    | _ => exact absurd (show false = true from hs) Bool.false_ne_true
  | str i =>
    obtain ⟨t, rfl⟩ := rx
    cases y with
    | non => cases ry; exact PySem.EqNone.ne_str_none (fin_bl I q (by simp))
    | bl j => cases ry; exact PySem.EqMixed.ne_str_bool (fin_bl I q (by simp))
    | int j => obtain ⟨t', rfl⟩ := ry; exact PySem.EqMixed.ne_str_int (fin_bl I q (by simp))
    | str j => obtain ⟨t', rfl⟩ := ry; exact ne_str (fin_bl I q (congrArg not dec_str))
    | _ => exact absurd (show false = true from hs) Bool.false_ne_true
  | byt i =>
    obtain ⟨t, rfl⟩ := rx
    cases y with
    | byt j => obtain ⟨t', rfl⟩ := ry; exact PySem.W.ne_bytes (fin_bl I q (congrArg not dec_byt))
    | _ => exact absurd (show false = true from hs) Bool.false_ne_true
  | _ => cases y <;> exact absurd (show false = true from hs) Bool.false_ne_true
theorem op_lt : OpR X (compareOp .Lt) (rI0 fun i j => .bl (decide (i < j))) := opB0 fun _ _ _ _ _ _ _ q => lt_int q
theorem op_le : OpR X (compareOp .LtE) (rI0 fun i j => .bl (decide (i ≤ j))) := opB0 fun _ _ _ _ _ _ _ q => le_int q
theorem op_gt : OpR X (compareOp .Gt) (rI0 fun i j => .bl (decide (j < i))) := opB0 fun _ _ _ _ _ _ _ q => gt_int q
theorem op_ge : OpR X (compareOp .GtE) (rI0 fun i j => .bl (decide (j ≤ i))) := opB0 fun _ _ _ _ _ _ _ q => ge_int q
theorem nomark (b : Expr) {op : CmpOp} (h : op ≠ .In := by decide) (h2 : op ≠ .NotIn := by decide) : behindInMarks op b = false := by
  have e1 : (op == CmpOp.In) = false := by cases op <;> first | rfl | exact absurd rfl h
  have e2 : (op == CmpOp.NotIn) = false := by cases op <;> first | rfl | exact absurd rfl h2
  cases b <;> simp [behindInMarks, e1, e2]
theorem pe_cmpR {op : CmpOp} {r : R2} (ho : OpR X (compareOp op) r) (ha : PE X a ta) (hb : PE X b tb) (hm : behindInMarks op b = false) : PE X (.Compare a [op] [b] pos) (tOp r ta tb) := by
  intro pins s σ H Q I h
  exact wpAny_Compare1 (binT ha hb I h fun v u s2 x y H2 I2 rx ry q => ho pins s2 σ H2 x y v u Q I2 rx ry q) hm
def tTest (t : TE) : TT := fun σ H Q => t σ H fun x H' => ∃ k, x = .bl k ∧ Q k H'
theorem pt_cmpR {op : CmpOp} {r : R2} (ho : OpR X (compareOp op) r) (ha : PE X a ta) (hb : PE X b tb) (hm : behindInMarks op b = false) : PT X (.Compare a [op] [b] pos) (tTest (tOp r ta tb)) := by
  intro pins s σ H Q I h
  refine wpAny_isTrue_Compare1 (thnE (ha pins s σ H _ I h) fun v s1 x H1 I1 r1 q1 => thnE (hb pins s1 σ H1 _ I1 q1) fun u s2 y H2 I2 r2 q2 =>
    thnE (ho pins s2 σ H2 x y v u _ I2 r1 r2 q2) fun c s3 z H3 I3 r3 ⟨k, e, q3⟩ => ?_) hm
  subst e
  cases r3
  exact wpAny_truthy_bool ⟨H3, I3, q3⟩
def tChain (r r' : R2) (ta tb tc : TE) : TE := fun σ H Q => ta σ H fun x H1 => tb σ H1 fun y H2 => r x y H2 fun z H3 => ∃ k, z = .bl k ∧
  (if k = true then tc σ H3 fun w' H4 => r' y w' H4 Q else Q (.bl false) H3)
theorem pe_chain {op op' : CmpOp} {r r' : R2} (ho : OpR X (compareOp op) r) (ho' : OpR X (compareOp op') r') (ha : PE X a ta) (hb : PE X b tb) (hc : PE X c tc)
    (hm : lastMarks [op, op'] [b, c] = false := by with_unfolding_all rfl) : PE X (.Compare a [op, op'] [b, c] pos) (tChain r r' ta tb tc) := by
  intro pins s σ H Q I h
  refine Compare_chain (thnE (ha pins s σ H _ I h) fun v s1 x H1 I1 r1 q1 => chain_link (thnE (hb pins s1 σ H1 _ I1 q1) fun u s2 y H2 I2 r2 q2 =>
    thnE (ho pins s2 σ H2 x y v u _ I2 r1 r2 q2) fun d s3 z H3 I3 r3 ⟨k, e, q3⟩ => ?_)) hm
  subst e
  cases r3
  refine wpAny_truthy_bool ?_
  cases k with
  | false => exact ite_ff ⟨.bl false, H3, I3, rfl, q3⟩
  | true => exact ite_tt (chain_last (thn (hc pins s3 σ H3 _ I3 q3) fun w' s4 ⟨z', H4, I4, r4, q4⟩ => ho' pins s4 σ H4 y z' u w' Q I4 r2 r4 q4))
theorem pt_chain {op op' : CmpOp} {r r' : R2} (ho : OpR X (compareOp op) r) (ho' : OpR X (compareOp op') r') (ha : PE X a ta) (hb : PE X b tb) (hc : PE X c tc)
    (hm : lastMarks [op, op'] [b, c] = false := by with_unfolding_all rfl) : PT X (.Compare a [op, op'] [b, c] pos) (tTest (tChain r r' ta tb tc)) := by
  intro pins s σ H Q I h
  refine isTrue_chain (thnE (ha pins s σ H _ I h) fun v s1 x H1 I1 r1 q1 => test_link (thnE (hb pins s1 σ H1 _ I1 q1) fun u s2 y H2 I2 r2 q2 =>
    thnE (ho pins s2 σ H2 x y v u _ I2 r1 r2 q2) fun d s3 z H3 I3 r3 ⟨k, e, q3⟩ => ?_)) hm
  subst e
  cases r3
  refine wpAny_truthy_bool ?_
  cases k with
  | false =>
    obtain ⟨k', e', q'⟩ := q3
    cases e'
    exact ite_ff ⟨H3, I3, q'⟩
  | true =>
    refine ite_tt (test_last (thn (hc pins s3 σ H3 _ I3 q3) fun w' s4 ⟨z', H4, I4, r4, q4⟩ => thn (ho' pins s4 σ H4 y z' u w' _ I4 r2 r4 q4) fun d' s5 ⟨z2, H5, I5, r5, k2, e2, q5⟩ => ?_))
    subst e2
    cases r5
    exact wpAny_truthy_bool ⟨H5, I5, q5⟩
def TruV (K : PySem.W.Frag) (x : V) (H : Hp) (k : Bool) : Prop :=
  match x with
  | .non => k = false
  | .bl b => k = b
  | .int i => k = (i != 0)
  | .str y => y.length ≤ sizeLine ∧ k = ((y.length : Int) != 0)
  | .byt y => y.size ≤ sizeLine ∧ k = ((y.size : Int) != 0)
  | .ref p => (∃ xs, SqL K H p xs ∧ k = !xs.isEmpty) ∨ (∃ xs, SqT K H p xs ∧ k = !xs.isEmpty) ∨ ∃ kvs, H p = some (.dK kvs) ∧ k = !kvs.isEmpty
  | _ => False
theorem isEmpty_kv {κ : Type} {kvs : List (κ × V)} {vs : List (κ × Value)} (r : KV kvs vs) : (!vs.isEmpty) = !kvs.isEmpty := by
  cases r <;> rfl
theorem isEmpty_of {xs : List V} {its : List Value} (r : Vals xs its) : (!its.toArray.isEmpty) = !xs.isEmpty := by
  cases r <;> simp
theorem line63 : (sizeLine : Nat) < 2 ^ 63 := by rw [sizeLine_eq]; decide
theorem tru_ok : TruR X (fun x H Q => ∃ k, TruV X.K x H k ∧ Q k H) := by
  intro pins s σ H x v Q I rx h
  obtain ⟨k, e, q⟩ := h
  have hl := line63
  have hs : sizeLine = 16777216 := sizeLine_eq
  cases x with
  | non =>
    cases rx
    have e' : k = false := e
    subst e'
    exact truthy_none ⟨H, I, q⟩
  | bl b =>
    cases rx
    have e' : k = b := e
    subst e'
    exact wpAny_truthy_bool ⟨H, I, q⟩
  | int i =>
    obtain ⟨t, rfl⟩ := rx
    have e' : k = (i != 0) := e
    subst e'
    exact PySem.P.truthy_int ⟨H, I, q⟩
  | str y =>
    obtain ⟨t, rfl⟩ := rx
    obtain ⟨hy, e'⟩ : y.length ≤ sizeLine ∧ k = ((y.length : Int) != 0) := e
    subst e'
    exact PySem.P.truthy_str (by omega) ⟨H, I.tok _, q⟩
  | byt y =>
    obtain ⟨t, rfl⟩ := rx
    obtain ⟨hy, e'⟩ : y.size ≤ sizeLine ∧ k = ((y.size : Int) != 0) := e
    subst e'
    exact PySem.W.truthy_bytes (by omega) ⟨H, I.tok _, q⟩
  | ref p =>
    cases rx
    have e' : (∃ xs, SqL X.K H p xs ∧ k = !xs.isEmpty) ∨ (∃ xs, SqT X.K H p xs ∧ k = !xs.isEmpty) ∨ ∃ kvs, H p = some (.dK kvs) ∧ k = !kvs.isEmpty := e
    rcases e' with ⟨xs, hx, e'⟩ | ⟨xs, hx, e'⟩ | ⟨kvs, hx, e'⟩
    · subst e'
      obtain ⟨its, r, pl, hz⟩ := I.list hx
      have hlen := r.length
      exact wpAny_truthy_list pl.isList (by simp only [List.size_toArray]; omega) ⟨H, I.tok _, by rw [isEmpty_of r]; exact q⟩
    · subst e'
      obtain ⟨its, r, pl, hz⟩ := I.tuple hx
      have hlen := r.length
      exact truthy_tuple pl (by simp only [List.size_toArray]; omega) ⟨H, I.tok _, by rw [isEmpty_of r]; exact q⟩
    · subst e'
      obtain ⟨hz, hS, vs, r, m⟩ : kvs.length ≤ sizeLine ∧ (p == sysModules) = false ∧ ∃ vs, KV kvs vs ∧ s.heap.DictOf (mixKind X.prog X.w) p vs := I.hok p _ hx
      have hlen : kvs.length = vs.length := Paired.length r
      exact wpAny_truthy_dict hS m (by omega) ⟨H, I.tok _, by rw [isEmpty_kv r]; exact q⟩
  | _ => exact (show False from e).elim
theorem pt_truth (ha : PE X a ta) (he : ∀ whole, isTrue a X.env whole = (do let v ← whole; standAt a.pos; holding [v] (truthy v))) :
    PT X a (fun σ H Q => ta σ H fun x H' => ∃ k, TruV X.K x H' k ∧ Q k H') := by
  intro pins s σ H Q I h
  exact isTrue_plain (thnE (ha pins s σ H _ I h) fun v s1 x H1 I1 r1 q1 => tru_ok pins s1 σ H1 x v Q I1 r1 q1) (he _)
theorem vals1 {x : V} {us : List Value} (r : Vals [x] us) : ∃ u, us = [u] ∧ RelV x u := by
  cases r with
  | cons r1 r2 => cases r2; exact ⟨_, rfl, r1⟩
theorem vals2 {x y : V} {us : List Value} (r : Vals [x, y] us) : ∃ u w', us = [u, w'] ∧ RelV x u ∧ RelV y w' := by
  cases r with
  | cons r1 r2 =>
    cases r2 with
    | cons r3 r4 => cases r4; exact ⟨_, _, rfl, r1, r3⟩
theorem call_max2 (hc : X.calm = true) : CallR X (.builtin "max") (fun xs H Q => ∃ i j, xs = [.int i, .int j] ∧ Q (.int (if j > i then j else i)) H) := by
  intro pins s σ H xs us Q I r h
  obtain ⟨i, j, rfl, q⟩ := h
  obtain ⟨u, w', rfl, ⟨t, rfl⟩, ⟨t', rfl⟩⟩ := vals2 r
  refine max_two_ints (I.ok.hd hc) fun h' tk k => ⟨_, H, I.kept k, ?_, q⟩
  by_cases hj : j > i
  · rw [if_pos hj, if_pos hj]; exact ⟨_, rfl⟩
  · rw [if_neg hj, if_neg hj]; exact ⟨_, rfl⟩
end
end L2
namespace L2
open PySem PySem.Spec PyProof.Rows
structure ObjM (h : Heap) (x dx C : Addr) (mA : Str → Option Value) : Prop where
  obj : h.get? x = some (PySem.W.instObj C dx)
  ns : h.Ns1 dx mA
  ne : dx ≠ x
theorem lookIn_ns {h : Heap} {dx : Addr} {mA : Str → Option Value} (n : h.Ns1 dx mA) : ∃ od, h.get? dx = some od ∧ ∀ name, PySem.W.lookIn name od = some (mA name) := by
  obtain ⟨o, es, ep, ho, hd, hk, _, hm⟩ := n
  refine ⟨o, ho, fun name => ?_⟩
  have e := hm name
  unfold nsFind findBy at e
  rw [← Array.find?_toList] at e
  unfold PySem.W.lookIn
  rw [hd]
  dsimp only
  split
  · rename_i y q
    rw [q] at e
    exact congrArg some e
  · rename_i q
    rw [q] at e
    have a : es.toList.any (·.refKey) = false := by
      rw [List.any_eq_false]
      intro y hy
      obtain ⟨z, t, hkey⟩ := hk y (Array.mem_toList_iff.mp hy)
      simp [DictEntry.refKey, hkey]
    have a' : ¬ es.toList.any (·.refKey) = true := by rw [a]; exact Bool.false_ne_true
    rw [if_neg a']
    exact congrArg some e
theorem ObjM.look {h : Heap} {x dx C : Addr} {mA : Str → Option Value} (I : ObjM h x dx C mA) : ∃ od, PySem.W.InstAt h x (PySem.W.instObj C dx) C (some od) ∧ ∀ name, PySem.W.lookIn name od = some (mA name) :=
  let ⟨od, ho, hl⟩ := lookIn_ns I.ns
  ⟨od, ⟨I.obj, rfl, rfl, ho⟩, hl⟩
section
variable {prog : Program} {w : World} {A : Around} {E : Value → Shared → Prop} {s : Shared} {K : PySem.W.Frag} {x dx C f : Addr} {mA : Str → Option Value} {name : Str} {v : Value}
theorem get_map {expr : Bool} {Q : Value → Shared → Prop} (X : K.In s.heap) (I : ObjM s.heap x dx C mA) (hg : PySem.W.plainGet K C name = true) (hh : PySem.W.hasDictIn K C = true)
    (ha : PySem.W.findIn K (.ref C) name = some none) (hv : mA name = some v) (hv' : PySem.W.handedIn v = true) (h : Q v { s with toks := s.toks + 1 }) :
    wpAny (model prog w) A (getAttr (.ref x) name expr) Q E s := by
  obtain ⟨od, J, hl⟩ := I.look
  exact PySem.W.get_value X J (PySem.W.plainGet_of hg).1 (PySem.W.findObj_own hh ha rfl (by rw [hl, hv])) hv' h
theorem set_map {ns : List Str} {Q : Unit → Shared → Prop} (X : K.In s.heap) (I : ObjM s.heap x dx C mA)
    (hs : PySem.W.findIn K (.ref C) "__setattr__" = some (some (.builtin "object.__setattr__"))) (hp : PySem.W.plainOver K C = true) (ht : PySem.W.takerIn K C name = some none) (hh : PySem.W.hasDictIn K C = true)
    (hw : PySem.Within mA ns) (hsz : ns.length ≤ sizeLine)
    (h : ∀ h', ObjM h' x dx C (fun y => if y = name then some v else mA y) → Heap.SameBut dx s.heap h' → Q () { s with heap := h', toks := s.toks + 2 }) :
    wpAny (model prog w) A (setAttr (.ref x) name v) Q E s := by
  obtain ⟨od, J, hl⟩ := I.look
  refine PySem.W.set_plain X J hs (PySem.W.osa_open (s := { s with toks := s.toks + 1 }) (r := none) X J hp ht fun b => ?_)
  obtain ⟨cd, hc, hd'⟩ := PySem.W.any_some hh
  have hx : s.heap.get? x = some ⟨.ref C, some dx, .plain, #[]⟩ := I.obj
  refine wpAny_bind (wpAny_pure (wpAny_bind (wpAny_bind (wpAny_loadPart hx (wpAny_bind (PySem.W.Looks.here (s := { s with toks := s.toks + 1 }) (PySem.W.looks_clsIn X hc) ?_))))))
  rw [hd']
  refine wpAny_pure (a := some dx) (wpAny_bind (wpAny_pure (wpAny_bind ?_)))
  refine wpAny_nsSet1 (s := { s with toks := s.toks + 1 }) I.ns fun h' hn2 hs2 => ?_
  obtain ⟨oD, esD, epD, hoD, hdD, hcD⟩ := hn2.count (PySem.Within.cons name v hw)
  refine wpAny_bind (wpAny_lookBehind hoD (by rw [hdD]; exact pastItsLine_dict (Nat.le_trans hcD (by rw [List.length_cons]; omega))) ?_)
  exact wpAny_pure (h _ ⟨(hs2.2 _ (Ne.symm I.ne)).trans I.obj, hn2, I.ne⟩ hs2)
theorem make_map {R : Result → Shared → Prop} {vs : List Value} {kw : List (Str × Value)} (X : K.In s.heap) (hm : PySem.W.makesIn K C = true)
    (hi : PySem.W.findIn K (.ref C) "__init__" = some (some (.ref f))) (hf : PySem.W.typeIn K (.ref f) = some (.type "function"))
    (h : codeAny (model prog w) (A.under (.builtin "type.__call__" ⟨.ref C :: vs, kw⟩)) (.call (.ref f) ⟨.ref (s.heap.objs.size + 1) :: vs, kw⟩) (PySem.W.InitBack (s.heap.objs.size + 1) R)
      { s with heap := (s.heap.push PySem.W.emptyDict).push (PySem.W.instObj C s.heap.objs.size) }) :
    codeAny (model prog w) A (.call (.ref C) ⟨vs, kw⟩) R s := by
  obtain ⟨hh, g, d, t, os⟩ := s
  exact PySem.W.make_core (PySem.W.makes_of X hm) (PySem.W.looks_findIn X hi) (fun self => PySem.W.bind_fn X self hf) (.inl rfl) h
end
def putF (f : Str) (v : V) : List (Str × V) → List (Str × V)
  | [] => [(f, v)]
  | (g, x) :: r => if g = f then (g, v) :: r else (g, x) :: putF f v r
theorem lookup_putF (f g : Str) (v : V) : ∀ fs : List (Str × V), (putF f v fs).lookup g = if g = f then some v else fs.lookup g
  | [] => by
    show List.lookup g [(f, v)] = _
    by_cases h : g = f
    · have hb : (g == f) = true := beq_iff_eq.mpr h
      simp only [List.lookup, hb, if_pos h]
    · have hb : (g == f) = false := beq_eq_false_iff_ne.mpr h
      simp only [List.lookup, hb, if_neg h]
  | (k, x) :: r => by
    have ih := lookup_putF f g v r
    rw [show putF f v ((k, x) :: r) = (if k = f then (k, v) :: r else (k, x) :: putF f v r) from rfl]
    by_cases hk : k = f
    · rw [if_pos hk]
      by_cases h : g = k
      · have hb : (g == k) = true := beq_iff_eq.mpr h
        simp only [List.lookup, hb, if_pos (h.trans hk)]
      · have hb : (g == k) = false := beq_eq_false_iff_ne.mpr h
        simp only [List.lookup, hb, if_neg (fun e : g = f => h (e.trans hk.symm))]
    · rw [if_neg hk]
      by_cases h : g = k
      · have hb : (g == k) = true := beq_iff_eq.mpr h
        simp only [List.lookup, hb, if_neg (fun e : g = f => hk (h.symm.trans e))]
      · have hb : (g == k) = false := beq_eq_false_iff_ne.mpr h
        simp only [List.lookup, hb]
        exact ih
theorem keys_putF (f : Str) (v : V) : ∀ fs : List (Str × V), f ∈ (putF f v fs).map (·.1) ∧ ∀ g, g ∈ fs.map (·.1) → g ∈ (putF f v fs).map (·.1)
  | [] => ⟨by simp [putF], fun g h => by simp at h⟩
  | (k, x) :: r => by
    obtain ⟨i1, i2⟩ := keys_putF f v r
    rw [show putF f v ((k, x) :: r) = (if k = f then (k, v) :: r else (k, x) :: putF f v r) from rfl]
    by_cases hk : k = f
    · rw [if_pos hk]
      subst hk
      exact ⟨by simp, fun g h => by simpa using h⟩
    · rw [if_neg hk]
      refine ⟨?_, fun g h => ?_⟩
      · rw [List.map_cons]
        exact List.mem_cons_of_mem _ i1
      · rw [List.map_cons] at h ⊢
        rcases List.mem_cons.mp h with e | e
        · exact List.mem_cons.mpr (.inl e)
        · exact List.mem_cons_of_mem _ (i2 g e)
theorem length_putF (f : Str) (v : V) : ∀ fs : List (Str × V), (putF f v fs).length ≤ fs.length + 1
  | [] => by simp [putF]
  | (k, x) :: r => by
    have ih := length_putF f v r
    rw [show putF f v ((k, x) :: r) = (if k = f then (k, v) :: r else (k, x) :: putF f v r) from rfl]
    by_cases hk : k = f
    · rw [if_pos hk, List.length_cons, List.length_cons]; omega
    · rw [if_neg hk, List.length_cons, List.length_cons]; omega
theorem RelO.some_of {v : V} {o : Option Value} (r : RelO (some v) o) : ∃ u, o = some u ∧ RelV v u := by
  cases o with
  | none => exact (show False from r).elim
  | some u => exact ⟨u, rfl, r⟩
theorem handed_of {v : V} {u : Value} (r : RelV v u) : PySem.W.handedIn u = true := by
  cases v with
  | non => cases (show u = Value.none from r); rfl
  | bl b => cases (show u = Value.bool b from r); rfl
  | int i => obtain ⟨t, e⟩ := (show ∃ t, u = Value.int i t from r); cases e; rfl
  | str x => obtain ⟨t, e⟩ := (show ∃ t, u = Value.str x t from r); cases e; rfl
  | byt b => obtain ⟨t, e⟩ := (show ∃ t, u = Value.bytes b t from r); cases e; rfl
  | flt b => obtain ⟨t, e⟩ := (show ∃ t, u = Value.float b t from r); cases e; rfl
  | ref a => cases (show u = Value.ref a from r); rfl
  | ty n => cases (show u = Value.type n from r); rfl
section
variable {P : Program} {w : World} {H H' : Hp} {h h' : Heap} {a C dx : Addr} {fs fs' : List (Str × V)}
theorem ins_get (hok : HOk P w H h) (e : H a = some (.ins C dx fs)) : ∃ mA, ObjM h a dx C mA ∧ (∀ f, RelO (fs.lookup f) (mA f)) ∧ PySem.Within mA (fs.map (·.1)) ∧ fs.length ≤ 1000 ∧ H dx = some (.own a) := by
  obtain ⟨d, z, ne, ob, mA, n, r, q⟩ := (show ObjOk P w H h a (.ins C dx fs) from hok a _ e)
  exact ⟨mA, ⟨ob, n, ne⟩, r, q, z, d⟩
end
structure Cls (K : PySem.W.Frag) (C : Addr) : Prop where
  pg : PySem.W.plainGet K C Str.empty = true
  hd : PySem.W.hasDictIn K C = true
  po : PySem.W.plainOver K C = true
  sa : PySem.W.findIn K (.ref C) "__setattr__" = some (some (.builtin "object.__setattr__"))
theorem Cls.get {K : PySem.W.Frag} {C : Addr} (c : Cls K C) (f : Str) : PySem.W.plainGet K C f = true := c.pg
def NoAttr (K : PySem.W.Frag) (C : Addr) (f : Str) : Prop := PySem.W.findIn K (.ref C) f = some none
theorem NoAttr.taker {K : PySem.W.Frag} {C : Addr} {f : Str} (n : NoAttr K C f) : PySem.W.takerIn K C f = some none := by
  unfold PySem.W.takerIn
  rw [show PySem.W.findIn K (.ref C) f = some none from n]
  rfl
section
variable {X : Cx} {pins : List (Addr × Obj)} {σ : St} {H : Hp} {s : Shared} {a C dx : Addr} {fs : List (Str × V)} {f : Str} {v : V} {A : Around} {E : Value → Shared → Prop}
theorem getattr_ok {b : Bool} {Q : Value → Shared → Prop} (I : Inv X pins σ H s) (e : H a = some (.ins C dx fs)) (c : Cls X.K C) (n : NoAttr X.K C f) (l : fs.lookup f = some v)
    (h : ∀ u s', Inv X pins σ H s' → RelV v u → Q u s') : wpAny (model X.prog X.w) A (getAttr (.ref a) f b) Q E s := by
  obtain ⟨mA, O, r, _, _, _⟩ := ins_get I.hok e
  obtain ⟨u, hu, ru⟩ := RelO.some_of (v := v) (o := mA f) (by rw [← l]; exact r f)
  exact get_map I.kIn O (c.get f) c.hd n hu (handed_of ru) (h u _ (I.tok _) ru)
theorem setattr_ok {y : V} {u : Value} {Q : Unit → Shared → Prop} (I : Inv X pins σ H s) (e : H a = some (.ins C dx fs)) (c : Cls X.K C) (n : NoAttr X.K C f) (hl : fs.length < 1000) (ry : RelV y u)
    (h : ∀ s', Inv X pins σ (upd H a (.ins C dx (putF f y fs))) s' → Q () s') : wpAny (model X.prog X.w) A (setAttr (.ref a) f u) Q E s := by
  obtain ⟨mA, O, r, wi, _, ho⟩ := ins_get I.hok e
  have hz : (fs.map (·.1)).length ≤ sizeLine := by rw [List.length_map, sizeLine_eq]; omega
  refine set_map I.kIn O c.sa c.po n.taker c.hd wi hz fun h' O' sb => h _ ?_
  have hd : ∃ o, h'.get? dx = some o := let ⟨o, _, _, e', _⟩ := O'.ns; ⟨o, e'⟩
  refine I.write (x := a) (e := dx) (by rw [e]; exact True.intro) (.inr ho) (fun b q hb z => (sb.2 b hb).trans z) hd ?_
  refine ⟨by rw [upd_ne O.ne]; exact ho, ?_, O.ne, O'.obj, _, O'.ns, fun g => ?_, fun g hg => ?_⟩
  · have := length_putF f y fs; omega
  · show RelO ((putF f y fs).lookup g) (if g = f then some u else mA g)
    rw [lookup_putF]
    by_cases q : g = f
    · rw [if_pos q, if_pos q]; exact ry
    · rw [if_neg q, if_neg q]; exact r g
  · by_cases q : g = f
    · rw [q]; exact (keys_putF f y fs).1
    · refine (keys_putF f y fs).2 g (wi g fun z => hg ?_)
      show (if g = f then some u else mA g) = none
      rw [if_neg q]; exact z
theorem Inv.made (I : Inv X pins σ H s) : Inv X pins σ (upd (upd H s.heap.objs.size (.own (s.heap.objs.size + 1))) (s.heap.objs.size + 1) (.ins C s.heap.objs.size []))
    { s with heap := (s.heap.push PySem.W.emptyDict).push (PySem.W.instObj C s.heap.objs.size) } := by
  have e1 : (s.heap.push PySem.W.emptyDict).get? s.heap.objs.size = some PySem.W.emptyDict := Heap.get?_push_size s.heap rfl
  have e2 : ((s.heap.push PySem.W.emptyDict).push (PySem.W.instObj C s.heap.objs.size)).get? (s.heap.objs.size + 1) = some (PySem.W.instObj C s.heap.objs.size) := by
    have := Heap.get?_push_size (s.heap.push PySem.W.emptyDict) (o := PySem.W.instObj C s.heap.objs.size) rfl
    rwa [Heap.size_push] at this
  have e3 : (s.heap.push PySem.W.emptyDict).Ns s.heap.objs.size (fun _ => none) := ⟨PySem.W.emptyDict, #[], _, e1, rfl, (fun e he => absurd he (by simp)), fun _ => rfl⟩
  have I1 := I.laid (a := s.heap.objs.size) (o := .own (s.heap.objs.size + 1)) (h' := s.heap.push PySem.W.emptyDict) (t' := s.toks) (fun b u q => Heap.get?_push_of_some _ q) (Nat.le_refl _) ⟨_, e1⟩
  refine I1.laid (a := s.heap.objs.size + 1) (o := .ins C s.heap.objs.size []) (t' := s.toks) (fun b u q => Heap.get?_push_of_some _ q) (Nat.le_of_eq (Heap.size_push _ _)) ?_
  have ne : s.heap.objs.size ≠ s.heap.objs.size + 1 := Nat.ne_of_lt (Nat.lt_succ_self _)
  refine ⟨by rw [upd_ne ne, upd_same], Nat.zero_le _, ne, e2, fun _ => none, (Heap.Ns1.of_empty e3).at fun o q => Heap.get?_push_of_some _ q, fun _ => True.intro, fun y hy => absurd rfl hy⟩
theorem attr_of {prog : Program} {w : World} {env : Env} {e : Expr} {f : Str} {pos : Pos} {s : Shared} {Q : Value → Shared → Prop} (hb : attributeBase e f env (eval e env) = eval e env)
    (h : wpAny (model prog w) A (eval e env) (fun o s₁ => wpAny (model prog w) A (getAttr o f true) Q E s₁) E s) : wpAny (model prog w) A (eval (.Attribute e f pos) env) Q E s :=
  Attribute_any_ h (by rw [arm_eval_Attribute, hb])
end
def tFld (K : PySem.W.Frag) (ta : TE) (f : Str) : TE := fun σ H Q => ta σ H fun x H1 => ∃ a C dx fs v, x = .ref a ∧ H1 a = some (.ins C dx fs) ∧ Cls K C ∧ NoAttr K C f ∧ fs.lookup f = some v ∧ Q v H1
def sFld (K : PySem.W.Frag) (ta tv : TE) (f : Str) : TS := fun D σ H => tv σ H fun y H1 => ta σ H1 fun x H2 => ∃ a C dx fs, x = .ref a ∧ H2 a = some (.ins C dx fs) ∧ Cls K C ∧ NoAttr K C f ∧ fs.length < 1000 ∧
  D.nx σ (upd H2 a (.ins C dx (putF f y fs)))
section
variable {X : Cx} {o e value : Expr} {f : Str} {pos pos' tpos : Pos} {ta tv : TE}
theorem pe_fld (he : PE X e ta) (hb : attributeBase e f X.env (eval e X.env) = eval e X.env) : PE X (.Attribute e f pos) (tFld X.K ta f) := by
  intro pins s σ H Q I h
  refine attr_of hb (thnE (he pins s σ H _ I h) fun u s1 x H1 I1 rx ⟨a, C, dx, fs, v, ex, ea, c, n, l, q⟩ => ?_)
  subst ex
  obtain rfl : u = Value.ref a := rx
  exact getattr_ok I1 ea c n l fun u' s2 I2 ru => ⟨v, H1, I2, ru, q⟩
theorem ps_fld (ha : PE X o ta) (hv : PE X value tv) (hs : swapsWith value (some (.Attribute o f pos')) pos.line X.env = pure false) : PS X (.Assign [.Attribute o f pos'] value pos) (sFld X.K ta tv f) := by
  intro pins s σ H D I h
  refine plainObj_wpAny_Assign_Attribute (thnE (hv pins s σ H _ I h) fun u s1 y H1 I1 ry q => thnE (ha pins s1 σ H1 _ I1 q) fun ov s2 x H2 I2 rx ⟨a, C, dx, fs, ex, ea, c, n, l, q2⟩ => ?_) hs
  subst ex
  obtain rfl : ov = Value.ref a := rx
  exact setattr_ok I2 ea c n l ry fun s3 I3 => ⟨σ, _, I3, q2⟩
end
section
variable {X : Cx} {pins : List (Addr × Obj)} {σ : St} {H : Hp} {s : Shared} {A : Around} {E : Value → Shared → Prop} {Q : Value → Shared → Prop} {c : Value} {b : Bool}
inductive TyOf (K : PySem.W.Frag) (H : Hp) : V → Value → Prop where
  | non : TyOf K H .non (.type "NoneType")
  | bl (x : Bool) : TyOf K H (.bl x) (.type "bool")
  | int (i : Int) : TyOf K H (.int i) (.type "int")
  | str (x : Str) : TyOf K H (.str x) (.type "str")
  | flt (x : UInt64) : TyOf K H (.flt x) (.type "float")
  | lst {a : Addr} {xs : List V} (e : H a = some (.lst xs)) : TyOf K H (.ref a) (.type "list")
  | frz {a : Addr} {o : Obj} {xs : List V} (e : H a = some (.frz o (.lst xs))) : TyOf K H (.ref a) (.type "list")
  | tup {a : Addr} {xs : List V} (e : H a = some (.tup xs)) : TyOf K H (.ref a) (.type "tuple")
  | dK {a : Addr} {kvs : List (Key × V)} (e : H a = some (.dK kvs)) : TyOf K H (.ref a) (.type "dict")
  | dT {a : Addr} {kvs : List (List Key × V)} (e : H a = some (.dT kvs)) : TyOf K H (.ref a) (.type "dict")
  | ins {a C dx : Addr} {fs : List (Str × V)} (e : H a = some (.ins C dx fs)) (cl : Cls K C) (ha : PySem.W.findIn K (.ref C) "__class__" = some (some (.builtin "object.__class__")))
      (hn : PySem.W.specialIn K (.builtin "object.__class__") "__get__" = some (some (.builtin "getset_descriptor.__get__"))) (htk : PySem.W.takesIn K (.builtin "object.__class__") = some true)
      (hm : PySem.W.mroIn K C (.type "object") = some true) : TyOf K H (.ref a) (.ref C)
theorem isinst_ok {x : V} {u t : Value} (I : Inv X pins σ H s) (rx : RelV x u) (ty : TyOf X.K H x t) (e : PySem.W.kitOne X.K t c = some b) (h : ∀ tk, Q (.bool b) { s with toks := tk }) :
    wpAny (model X.prog X.w) A (call (.builtin "isinstance") [u, c]) Q E s := by
  cases ty with
  | non => cases (show u = Value.none from rx); exact PySem.W.kia_one PySem.W.kitx_none I.kIn True.intro e (fun z => nomatch z) h
  | bl y => cases (show u = Value.bool y from rx); exact PySem.W.kia_one PySem.W.kitx_bool I.kIn True.intro e (fun z => nomatch z) h
  | int i => obtain ⟨t, q⟩ := (show ∃ t, u = Value.int i t from rx); cases q; exact PySem.W.kia_one PySem.W.kitx_int I.kIn True.intro e (fun z => nomatch z) h
  | str y => obtain ⟨t, q⟩ := (show ∃ t, u = Value.str y t from rx); cases q; exact PySem.W.kia_one PySem.W.kitx_str I.kIn True.intro e (fun z => nomatch z) h
  | flt y => obtain ⟨t, q⟩ := (show ∃ t, u = Value.float y t from rx); cases q; exact PySem.W.kia_one PySem.W.kitx_float I.kIn True.intro e (fun z => nomatch z) h
  | @lst a xs ea =>
    cases (show u = Value.ref a from rx)
    obtain ⟨_, _, n, _, h1⟩ := (show ObjOk X.prog X.w H s.heap a (.lst xs) from I.hok a _ ea)
    exact PySem.W.kia_one PySem.W.kitx_list I.kIn ⟨_, h1, rfl⟩ e (fun z => nomatch z) h
  | @frz a ob xs ea =>
    cases (show u = Value.ref a from rx)
    obtain ⟨_, _, _, n, _, h1⟩ := (show ObjOk X.prog X.w H s.heap a (.frz ob (.lst xs)) from I.hok a _ ea)
    exact PySem.W.kia_one PySem.W.kitx_list I.kIn ⟨_, h1, rfl⟩ e (fun z => nomatch z) h
  | @tup a xs ea =>
    cases (show u = Value.ref a from rx)
    obtain ⟨_, _, _, p⟩ := (show ObjOk X.prog X.w H s.heap a (.tup xs) from I.hok a _ ea)
    obtain ⟨o, h1, h2, _⟩ := p
    exact PySem.W.kia_one PySem.W.kitx_tuple I.kIn ⟨o, h1, h2⟩ e (fun z => nomatch z) h
  | @dK a kvs ea =>
    cases (show u = Value.ref a from rx)
    obtain ⟨_, _, vs, _, p⟩ := (show ObjOk X.prog X.w H s.heap a (.dK kvs) from I.hok a _ ea)
    obtain ⟨o, es, ep, h1, h2, _⟩ := p
    exact PySem.W.kia_one PySem.W.kitx_dict I.kIn ⟨o, h1, h2.1⟩ e (fun z => nomatch z) h
  | @dT a kvs ea =>
    cases (show u = Value.ref a from rx)
    obtain ⟨_, _, xs, _, o, es, ep, h1, h2, _⟩ := (show ObjOk X.prog X.w H s.heap a (.dT kvs) from I.hok a _ ea)
    exact PySem.W.kia_one PySem.W.kitx_dict I.kIn ⟨o, h1, h2.1⟩ e (fun z => nomatch z) h
  | @ins a C dx fs ea cl ha hn htk hm =>
    cases (show u = Value.ref a from rx)
    obtain ⟨mA, O, _⟩ := ins_get I.hok ea
    obtain ⟨od, J, _⟩ := O.look
    exact PySem.W.kia_one (PySem.W.kitx_own (cl.get _) cl.hd ha hn htk hm) I.kIn J e (fun z => nomatch z) h
end
end L2
namespace L2
open PySem PySem.Spec PyProof.Rows
structure Room (k : Nat) (A : Around) : Prop where
  hd : A.handled = none
  dp : A.depth + 3 * k + 5 < recursionLimit
  un : A.units + 16 * k + 200 < cLine
theorem Room.mono {j k : Nat} {A : Around} (r : Room k A) (h : j ≤ k) : Room j A := ⟨r.hd, by have := r.dp; omega, by have := r.un; omega⟩
theorem Room.deeper {k : Nat} {A : Around} (r : Room (k + 1) A) (env : Env) : Room k (A.deeper env) :=
  ⟨r.hd, by have := r.dp; show A.depth + 1 + 3 * k + 5 < _; omega, by have := r.un; show A.units + 3 + 16 * k + 200 < _; omega⟩
theorem make_depth {A : Around} {C : Addr} {us : List Value} {kw : List (Str × Value)} : (A.under (.builtin "type.__call__" ⟨.ref C :: us, kw⟩)).depth = A.depth + 1 := by
  first | rfl | simp [Around.under, Code.weight, Code.isCreation, Code.isGuard, Code.isCaller, Code.frames, Code.isFrame, guardIds]
theorem make_units {A : Around} {C : Addr} {us : List Value} {kw : List (Str × Value)} : (A.under (.builtin "type.__call__" ⟨.ref C :: us, kw⟩)).units = A.units + 1 := by
  first | rfl | simp [Around.under, Code.cUnits, Code.frames, Code.isFrame]
theorem Room.make {k : Nat} {A : Around} (r : Room (k + 1) A) (C : Addr) (us : List Value) (kw : List (Str × Value)) : Room k (A.under (.builtin "type.__call__" ⟨.ref C :: us, kw⟩)) :=
  ⟨r.hd, by have := r.dp; rw [make_depth]; omega, by have := r.un; rw [make_units]; omega⟩
theorem Room.depth {k : Nat} {A : Around} (r : Room k A) : A.depth < recursionLimit := by have := r.dp; omega
theorem Room.units {k : Nat} {A : Around} (r : Room k A) : A.units + 64 < cLine := by have := r.un; omega
def tNil : TA := fun _ H Q => Q [] H
def tCons (ta : TE) (tr : TA) : TA := fun σ H Q => ta σ H fun x H1 => tr σ H1 fun xs H2 => Q (x :: xs) H2
section
variable {X : Cx} {e : Expr} {es : List Expr} {te : TE} {t : TA} {pos : Pos}
theorem pa_nil : PA X [] tNil := fun _ _ _ _ H Q I h => Calls.spliced_nil ⟨[], H, I, .nil, h⟩
theorem pa_cons (ha : PE X e te) (hr : PA X es t) (hs : starEach (e :: es) X.env = (false, eval e X.env) :: starEach es X.env := by rfl) : PA X (e :: es) (tCons te t) := by
  intro pos pins s σ H Q I h
  rw [hs]
  show wpAny _ _ (spliced ((false, eval e X.env) :: backTo pos (starEach es X.env))) _ _ s
  refine Calls.spliced_cons (thnE (ha pins s σ H _ I h) fun u s1 x H1 I1 r1 q1 => ?_)
  exact thnA (hr pos pins s1 σ H1 _ I1 q1) fun us s2 xs H2 I2 r2 q2 => ⟨x :: xs, H2, I2, .cons r1 r2, q2⟩
def tTup (t : TA) : TE := fun σ H Q => t σ H fun xs H1 => xs.length ≤ sizeLine ∧ ∀ p, H1 p = none → Q (.ref p) (upd H1 p (.tup xs))
def tLst (t : TA) : TE := fun σ H Q => t σ H fun xs H1 => xs.length ≤ sizeLine ∧ ∀ p, H1 p = none → Q (.ref p) (upd H1 p (.lst xs))
theorem pe_tup {x1} (h : PA X es t) : PE X (.Tuple es x1 pos) (tTup t) := by
  intro pins s σ H Q I hq
  refine wpAny_Tuple_spliced (thnA (h pos pins s σ H _ I hq) fun us s1 xs H1 I1 r ⟨z, q⟩ => ⟨by rw [← r.length]; exact z, ?_⟩)
  have hf : H1 s1.heap.objs.size = none := I1.hok.fresh (Nat.le_refl _)
  refine ⟨.ref s1.heap.objs.size, upd H1 s1.heap.objs.size (.tup xs), I1.laid (t' := s1.toks) (fun b u e => Heap.get?_push_of_some _ e) (Nat.le_refl _) ?_, rfl, q _ hf⟩
  exact ⟨z, us, r, ⟨_, Heap.get?_push_size _ rfl, rfl, _, rfl⟩⟩
theorem pe_lst (h : PA X es t) : PE X (.List es pos) (tLst t) := by
  intro pins s σ H Q I hq
  refine wpAny_List_spliced (thnA (h pos pins s σ H _ I hq) fun us s1 xs H1 I1 r ⟨z, q⟩ => ⟨by rw [← r.length]; exact z, ?_⟩)
  have hf : H1 s1.heap.objs.size = none := I1.hok.fresh (Nat.le_refl _)
  refine ⟨.ref s1.heap.objs.size, upd H1 s1.heap.objs.size (.lst xs), I1.laid (t' := s1.toks) (fun b u e => Heap.get?_push_of_some _ e) (Nat.le_refl _) ?_, rfl, q _ hf⟩
  exact ⟨z, us, 0, r, Heap.get?_push_size _ rfl⟩
end
abbrev Sp := List V → Hp → VK → XK → Prop
abbrev CXT := List Env → Hp → Shared → XK → Value → Shared → Prop
structure Env0 (P : Program) (w : World) (K : PySem.W.Frag) (mg : Str → Option Value) (base : Heap) (A : Around) (outer : List Env) (s : Shared) (H : Hp) : Prop where
  frames : A.frames = some outer
  mod : Mod K mg base
  bs : ∀ b o, base.get? b = some o → s.heap.get? b = some o ∧ H b = none
  bsz : base.objs.size ≤ s.heap.objs.size
  funs : s.heap.FunFrames base outer
  frf : ∀ b ∈ frs outer, H b = none
  hok : HOk P w H s.heap
  bare : AllBare s.gens
def CE (outer : List Env) (P : Program) (w : World) (H : Hp) (s : Shared) (Q : VK) (u : Value) (s' : Shared) : Prop :=
  ∃ v H', s'.os = s.os ∧ AllBare s'.gens ∧ Un (frs outer) [] H H' s.heap s'.heap ∧ HOk P w H' s'.heap ∧ RelV v u ∧ Q v H'
def CR (CX : CXT) (outer : List Env) (P : Program) (w : World) (H : Hp) (s : Shared) (Q : VK) (E : XK) (r : Result) (s' : Shared) : Prop :=
  match r with
  | .ok (.ret u) => CE outer P w H s Q u s'
  | .ok _ => False
  | .error e => CX outer H s E e s'
structure FnOk (P : Program) (w : World) (K : PySem.W.Frag) (mg : Str → Option Value) (base : Heap) (CX : CXT) (k : Nat) (f : Addr) (fd : FuncData) (ps : List Str) (sp : Sp) : Prop where
  len : ∀ vs H Q E, sp vs H Q E → vs.length = ps.length
  run : ∀ (A : Around) (outer : List Env) (s : Shared) (H : Hp) (args : Args) (us : List Value) (vs : List V) (Q : VK) (E : XK), Room k A → Env0 P w K mg base A outer s H → BindsTo s fd args (ps.zip us) → Vals vs us → sp vs H Q E →
    codeAny (model P w) A (.call (.ref f) args) (CR CX outer P w H s Q E) s
theorem Env0.make {P : Program} {w : World} {K : PySem.W.Frag} {mg : Str → Option Value} {base : Heap} {A : Around} {outer : List Env} {s : Shared} {H : Hp} (e : Env0 P w K mg base A outer s H) (C : Addr) (us : List Value) (kw : List (Str × Value)) :
    Env0 P w K mg base (A.under (.builtin "type.__call__" ⟨.ref C :: us, kw⟩)) outer s H := ⟨by first | exact e.frames | (simpa [Around.under, Code.envs, Code.isFrame, pushEnvs] using e.frames), e.mod, e.bs, e.bsz, e.funs, e.frf, e.hok, e.bare⟩
section
variable {X : Cx} {pins : List (Addr × Obj)} {σ : St} {H : Hp} {s s' : Shared}
theorem Inv.env0 (I : Inv X pins σ H s) : Env0 X.prog X.w X.K X.mg X.base X.A X.stack s H :=
  ⟨I.ok.frames, I.ok.mod, I.bs, Nat.le_trans I.ok.bsz I.sz, I.stack, I.stkFree, I.hok, I.bare⟩
theorem Inv.after {Q : VK} {u : Value} (I : Inv X pins σ H s) (h : CE X.stack X.prog X.w H s Q u s') : EP X pins σ Q u s' := by
  obtain ⟨v, H', os, bare, un, hok, r, q⟩ := h
  obtain ⟨hh, g, d, t, os'⟩ := s'
  obtain rfl : os' = s.os := os
  exact ⟨v, H', I.call (h' := hh) (g' := g) (d' := d) (t' := t) (ch := []) un hok bare (fun b z => absurd z (by simp)), r, q⟩
end
def tCall (sp : Sp) (dvs : List V) (E : XK) (t : TA) : TE := fun σ H Q => t σ H fun vs H1 => sp (vs ++ dvs) H1 Q E
def tMake (C : Addr) (sp : Sp) (dvs : List V) (E : XK) (t : TA) : TE := fun σ H Q => t σ H fun vs H1 => ∀ x dx, H1 x = none → H1 dx = none → dx ≠ x →
  sp (.ref x :: (vs ++ dvs)) (upd (upd H1 dx (.own x)) x (.ins C dx [])) (fun v H2 => v = .non ∧ Q (.ref x) H2) E
def Binds (K : PySem.W.Frag) (fd : FuncData) (ps : List Str) (ds : List Value) : Prop :=
  ∀ (s : Shared) (us : List Value), K.In s.heap → (us ++ ds).length = ps.length → BindsTo s fd ⟨us, []⟩ (ps.zip (us ++ ds))
theorem Binds.all {K : PySem.W.Frag} {fd : FuncData} {ps : List Str} (h : ∀ us : List Value, us.length = ps.length → bindArgs fd ⟨us, []⟩ = pure (ps.zip us)) : Binds K fd ps [] := fun s us _ hl => by
  rw [List.append_nil] at hl ⊢
  exact .of_eq (h us hl)
def Passes (CX : CXT) (X : Cx) (E : XK) : Prop := ∀ (pins : List (Addr × Obj)) (σ : St) (H : Hp) (s : Shared) (e : Value) (s' : Shared), Inv X pins σ H s → CX X.stack H s E e s' → X.xe e s'
section
variable {X : Cx} {CX : CXT} {k : Nat} {f C : Addr} {fd : FuncData} {ps : List Str} {sp : Sp} {dvs : List V} {ds : List Value} {E : XK} {x m : Str} {p pos apos : Pos} {e o : Expr} {es : List Expr} {ta : TE} {t : TA}
theorem run_fn {pins : List (Addr × Obj)} {σ : St} {H : Hp} {s : Shared} {Q : VK} {us : List Value} {vs : List V} (F : FnOk X.prog X.w X.K X.mg X.base CX k f fd ps sp) (hr : Room k X.A) (hb : Binds X.K fd ps ds) (hd : Vals dvs ds) (hx : Passes CX X E)
    (I : Inv X pins σ H s) (r : Vals vs us) (h : sp (vs ++ dvs) H Q E) : wpAny (model X.prog X.w) X.A (call (.ref f) us) (EP X pins σ Q) X.xe s := by
  have r2 : Vals (vs ++ dvs) (us ++ ds) := r.append hd
  have hl : (us ++ ds).length = ps.length := by rw [← r2.length]; exact F.len _ _ _ _ h
  refine wpAny_call (codeAny_mono (F.run X.A X.stack s H ⟨us, []⟩ (us ++ ds) (vs ++ dvs) Q E hr I.env0 (hb s us I.kIn hl) r2 h) fun r s' hq => ?_)
  cases r with
  | error e => exact hx pins σ H s e s' I hq
  | ok fl =>
    cases fl with
    | ret u => exact I.after hq
    | next => exact False.elim hq
    | brk => exact False.elim hq
    | cont => exact False.elim hq
theorem pe_call (F : FnOk X.prog X.w X.K X.mg X.base CX k f fd ps sp) (hr : Room k X.A) (hg : Gl X x) (hm : X.mg x = some (.ref f)) (hk : PySem.W.keepIn X.K (.ref f) = true) (hb : Binds X.K fd ps ds) (hd : Vals dvs ds) (hx : Passes CX X E)
    (ha : PA X (e :: es) t) (hdb : (x == ("__debug__" : Str)) = false := by decide) (he : starEach (e :: es) X.env = (false, eval e X.env) :: starEach es X.env := by rfl) (hpl : (backTo pos (starEach es X.env)).any (·.1) = false := by rfl) :
    PE X (.Call (.Name x p) (e :: es) [] pos) (tCall sp dvs E t) := by
  intro pins s σ H Q I h
  refine wpAny_Call_Name_kw (ld_glob I hg hm ?_ hdb)
  refine PySem.W.callWith_K (h₀ := X.base) I.ok.mod.kin hk (thnA (ha pos pins s σ H _ I h) fun us s1 vs H1 I1 r q => ⟨I1.kIn, ?_⟩) he hpl
  exact run_fn F hr hb hd hx I1 r q
structure Mk (K : PySem.W.Frag) (C f : Addr) : Prop where
  makes : PySem.W.makesIn K C = true
  init : PySem.W.findIn K (.ref C) "__init__" = some (some (.ref f))
  fn : PySem.W.isFn K (.ref f) = true
  kp : PySem.W.keepIn K (.ref C) = true
theorem run_make {pins : List (Addr × Obj)} {σ : St} {H : Hp} {s : Shared} {Q : VK} {us : List Value} {vs : List V} (M : Mk X.K C f) (F : FnOk X.prog X.w X.K X.mg X.base CX k f fd ps sp) (hr : Room (k + 1) X.A) (hb : Binds X.K fd ps ds) (hd : Vals dvs ds)
    (hx : Passes CX X E) (I : Inv X pins σ H s) (r : Vals vs us)
    (h : ∀ x dx, H x = none → H dx = none → dx ≠ x → sp (.ref x :: (vs ++ dvs)) (upd (upd H dx (.own x)) x (.ins C dx [])) (fun v H2 => v = .non ∧ Q (.ref x) H2) E) :
    wpAny (model X.prog X.w) X.A (call (.ref C) us) (EP X pins σ Q) X.xe s := by
  have hq := h (s.heap.objs.size + 1) s.heap.objs.size (I.hok.fresh (Nat.le_succ _)) (I.hok.fresh (Nat.le_refl _)) (Nat.ne_of_lt (Nat.lt_succ_self _))
  have I2 := Inv.made (C := C) I
  have r2 : Vals (V.ref (s.heap.objs.size + 1) :: (vs ++ dvs)) (Value.ref (s.heap.objs.size + 1) :: (us ++ ds)) := .cons rfl (r.append hd)
  have hl : (Value.ref (s.heap.objs.size + 1) :: us ++ ds).length = ps.length := by
    have e := r2.length
    rw [F.len _ _ _ _ hq] at e
    exact e.symm
  refine wpAny_call (make_map (f := f) I.kIn M.makes M.init (beq_iff_eq.mp M.fn) (codeAny_mono (F.run _ X.stack _ _ ⟨Value.ref (s.heap.objs.size + 1) :: us, []⟩ (Value.ref (s.heap.objs.size + 1) :: (us ++ ds)) _ _ E (hr.make C us [])
    (I2.env0.make C us []) (hb _ (Value.ref (s.heap.objs.size + 1) :: us) I2.kIn hl) r2 hq) fun r s' hq' => ?_))
  cases r with
  | error e => exact hx pins σ _ _ e s' I2 hq'
  | ok fl =>
    cases fl with
    | ret u =>
      obtain ⟨v, H', I3, rv, ev, q3⟩ := I2.after hq'
      subst ev
      exact ⟨rv, ⟨V.ref (s.heap.objs.size + 1), H', I3, rfl, q3⟩⟩
    | next => exact False.elim hq'
    | brk => exact False.elim hq'
    | cont => exact False.elim hq'
theorem pe_make (M : Mk X.K C f) (F : FnOk X.prog X.w X.K X.mg X.base CX k f fd ps sp) (hr : Room (k + 1) X.A) (hg : Gl X x) (hm : X.mg x = some (.ref C)) (hb : Binds X.K fd ps ds) (hd : Vals dvs ds) (hx : Passes CX X E)
    (ha : PA X (e :: es) t) (hdb : (x == ("__debug__" : Str)) = false := by decide) (he : starEach (e :: es) X.env = (false, eval e X.env) :: starEach es X.env := by rfl) (hpl : (backTo pos (starEach es X.env)).any (·.1) = false := by rfl) :
    PE X (.Call (.Name x p) (e :: es) [] pos) (tMake C sp dvs E t) := by
  intro pins s σ H Q I h
  refine wpAny_Call_Name_kw (ld_glob I hg hm ?_ hdb)
  refine PySem.W.callWith_K (h₀ := X.base) I.ok.mod.kin M.kp (thnA (ha pos pins s σ H _ I h) fun us s1 vs H1 I1 r q => ⟨I1.kIn, ?_⟩) he hpl
  exact run_make M F hr hb hd hx I1 r q
end
section
variable {X : Cx} {CX : CXT} {k : Nat} {f C : Addr} {fd : FuncData} {ps ks : List Str} {sp : Sp} {E : XK} {x m : Str} {p pos apos kpos : Pos} {e o : Expr} {es : List Expr} {kws : List Keyword} {te ta : TE} {t tk : TA} {nm : Option Str}
variable {g : List Value → List Value → List Value} {gV : List V → List V → List V}
end
structure FnScope (N P : List Str) (sc : Scope) : Prop where
  kind : sc.kind = .function
  co : sc.isCoroutine = false
  gen : sc.isGenerator = false
  nd : N.Nodup
  pre : N.take P.length = P
  par : ∀ x ∈ P, sc.names.lookup x = some .local ∨ sc.names.lookup x = some .cell
  nofree : ∀ y ∈ sc.names, y.2 ≠ .free
theorem bindL_out {kindOf : Str → Option NameKind} {x : Str} : ∀ {binds : List (Str × Value)} {m : Str → Option Value}, (∀ v, (x, v) ∉ binds) → bindL kindOf binds m x = m x
  | [], _, _ => rfl
  | (n, v) :: r, m, h => by
    unfold bindL
    rw [bindL_out fun w hw => h w (List.mem_cons_of_mem _ hw)]
    split
    · have : x ≠ n := by rintro rfl; exact h v List.mem_cons_self
      simp [this]
    · rfl
theorem bindC_out {kindOf : Str → Option NameKind} {x : Str} : ∀ {binds : List (Str × Value)} {m : Str → Option Value}, (∀ v, (x, v) ∉ binds) → bindC kindOf binds m x = m x
  | [], _, _ => rfl
  | (n, v) :: r, m, h => by
    unfold bindC
    rw [bindC_out fun w hw => h w (List.mem_cons_of_mem _ hw)]
    split
    · rfl
    · have : x ≠ n := by rintro rfl; exact h v List.mem_cons_self
      simp [this]
theorem bindL_get {kindOf : Str → Option NameKind} {x : Str} {v : Value} : ∀ {P : List Str} {vs : List Value} {i : Nat} {m : Str → Option Value}, P.Nodup → P[i]? = some x → vs[i]? = some v → kindOf x = some .local →
    bindL kindOf (P.zip vs) m x = some v
  | [], _, _, _, _, h, _, _ => by simp at h
  | _ :: _, [], _, _, _, _, h, _ => by simp at h
  | p :: P, w :: vs, 0, m, nd, h1, h2, hk => by
    simp at h1 h2; subst h1; subst h2
    show bindL kindOf ((p, w) :: P.zip vs) m p = _
    unfold bindL
    rw [bindL_out fun v hv => (List.nodup_cons.mp nd).1 (List.of_mem_zip hv).1, if_pos hk]
    simp
  | p :: P, w :: vs, i + 1, m, nd, h1, h2, hk => by
    show bindL kindOf ((p, w) :: P.zip vs) m x = _
    unfold bindL
    exact bindL_get (i := i) (List.nodup_cons.mp nd).2 (by simpa using h1) (by simpa using h2) hk
theorem bindC_get {kindOf : Str → Option NameKind} {x : Str} {v : Value} : ∀ {P : List Str} {vs : List Value} {i : Nat} {m : Str → Option Value}, P.Nodup → P[i]? = some x → vs[i]? = some v → kindOf x ≠ some .local →
    bindC kindOf (P.zip vs) m x = some v
  | [], _, _, _, _, h, _, _ => by simp at h
  | _ :: _, [], _, _, _, _, h, _ => by simp at h
  | p :: P, w :: vs, 0, m, nd, h1, h2, hk => by
    simp at h1 h2; subst h1; subst h2
    show bindC kindOf ((p, w) :: P.zip vs) m p = _
    unfold bindC
    rw [bindC_out fun v hv => (List.nodup_cons.mp nd).1 (List.of_mem_zip hv).1, if_neg hk]
    simp
  | p :: P, w :: vs, i + 1, m, nd, h1, h2, hk => by
    show bindC kindOf ((p, w) :: P.zip vs) m x = _
    unfold bindC
    exact bindC_get (i := i) (List.nodup_cons.mp nd).2 (by simpa using h1) (by simpa using h2) hk
def start (N : List Str) (vs : List V) : St := vs.map some ++ List.replicate (N.length - vs.length) none
def cxOf (CX : CXT) (P : Program) (w : World) (K : PySem.W.Frag) (mg : Str → Option Value) (base : Heap) (N : List Str) (qual : Str) (scope : Scope) (f : Addr) (cd : Value) (A : Around) (outer : List Env) (s : Shared) (H : Hp) (E : XK) : Cx where
  prog := P
  w := w
  K := K
  mg := mg
  base := base
  A := A.deeper (envOfC qual scope s.heap.objs.size f cd)
  N := N
  s₀ := s
  H₀ := H
  env := envOfC qual scope s.heap.objs.size f cd
  outer := outer
  stack := envOfC qual scope s.heap.objs.size f cd :: outer
  ex := []
  calm := true
  fn := fun _ => true
  pn := []
  xe := fun e s' => wpAny (model P w) (A.deeper (envOfC qual scope s.heap.objs.size f cd)) (leaving (envOfC qual scope s.heap.objs.size f cd) e) (fun _ s'' => CX outer H s E e s'') (fun e' s'' => CX outer H s E e' s'') s'
theorem cell_has {sc : Scope} {n : Nat} {x : Str} (h : sc.names.lookup x = some .cell) : ∃ c, (cellsFrom n sc.names []).lookup x = some c := by
  have q := PySem.W.cellsFrom_some sc.names n [] (.inl h)
  exact Option.isSome_iff_exists.mp q
theorem inv_start {CX : CXT} {P : Program} {w : World} {K : PySem.W.Frag} {mg : Str → Option Value} {base : Heap} {N ps : List Str} {qual : Str} {scope : Scope} {f : Addr} {cd : Value} {A : Around} {outer : List Env} {s s1 : Shared} {H : Hp} {E : XK} {us : List Value} {vs : List V}
    (S : FnScope N ps scope) (hd : A.handled = none) (e0 : Env0 P w K mg base A outer s H) (hl : vs.length = ps.length) (r : Vals vs us)
    (x : InCallC s s.heap.objs.size (bindL (envOfC qual scope s.heap.objs.size f cd).kindOf (ps.zip us) fun _ => none) (cellsFrom (s.heap.objs.size + 1) scope.names []) (bindC (envOfC qual scope s.heap.objs.size f cd).kindOf (ps.zip us) fun _ => none) s1) :
    Inv (cxOf CX P w K mg base N qual scope f cd A outer s H E) [] (start N vs) H s1 := by
  have hpl : ps.length ≤ N.length := by have := congrArg List.length S.pre; rw [List.length_take] at this; omega
  obtain ⟨h1, tk, rfl, hk⟩ := x.done
  have noA : ∀ b : Addr, b ∉ (cxOf CX P w K mg base N qual scope f cd A outer s H E).ex := fun b z => absurd (show b ∈ ([] : List Addr) from z) (by simp)
  refine ⟨⟨e0.mod, S.kind, rfl, rfl, Nat.le_refl _, fun y z c h1 h2 => ?_, fun y hy => ?_, fun y c _ h => ?_, fun _ => hd, Around.frames_deeper e0.frames, .inr ⟨rfl, rfl⟩, fun b z => absurd z (noA b), e0.bs, e0.bsz, fun b _ _ => noA b, fun b z => absurd z (noA b), e0.funs, e0.frf⟩,
    rfl, e0.bare, Un.kept hk, ⟨_, x.toInCall.ns, fun i y v h1 h2 h3 => ?_⟩, fun y c h => ⟨_, x.cell y c h⟩, e0.hok.fresh (Nat.le_refl _), fun y c h => ?_, fun p hp => absurd (show p ∈ ([] : List (Addr × Obj)) from hp) (by simp), e0.hok.kept hk, ?_⟩
  · exact name_of_addr x.apart (PySem.mem_of_lookup h1) (PySem.mem_of_lookup h2)
  · have hy : scope.names.lookup y = some .cell ∨ scope.names.lookup y = some .free := hy
    rcases hy with hy | hy
    · exact cell_has hy
    · exact absurd rfl (S.nofree _ (PySem.mem_of_lookup hy))
  · exact Nat.le_of_lt (x.above y c (PySem.mem_of_lookup h))
  · have hi : i < vs.length := by
      unfold start at h2
      by_cases hi : i < vs.length
      · exact hi
      · rw [List.getElem?_append_right (by simpa using hi)] at h2
        rw [List.getElem?_replicate] at h2
        split at h2 <;> cases h2
    have ha : vs[i]? = some v := by
      unfold start at h2
      rw [List.getElem?_append_left (by simpa using hi), List.getElem?_map] at h2
      cases e : vs[i]? with
      | none => rw [e] at h2; cases h2
      | some a => rw [e] at h2; cases h2; rfl
    obtain ⟨u, hu, rv⟩ := r.get ha
    have hp : ps[i]? = some y := by
      rw [← S.pre, List.getElem?_take_of_lt (by omega)]; exact h1
    have ndP : ps.Nodup := by rw [← S.pre]; exact S.nd.sublist (List.take_sublist _ _)
    refine ⟨u, rv, ?_⟩
    rcases S.par y (List.mem_of_getElem? hp) with k | k
    · exact .inl ⟨k, bindL_get ndP hp hu k⟩
    · obtain ⟨c, e⟩ := cell_has (n := s.heap.objs.size + 1) k
      refine .inr ⟨.inl k, c, e, ?_⟩
      have q := x.cell y c e
      rw [bindC_get ndP hp hu (by show scope.names.lookup y ≠ _; rw [k]; decide)] at q
      exact q
  · exact e0.hok.fresh (Nat.le_of_lt (x.above y c (PySem.mem_of_lookup h)))
  · unfold start
    show _ = N.length
    rw [List.length_append, List.length_map, List.length_replicate]
    omega
theorem fn_of {CX : CXT} {P : Program} {w : World} {K : PySem.W.Frag} {mg : Str → Option Value} {base : Heap} {k : Nat} {f : Addr} {name qual : Str} {params : Arguments} {body : List Stmt} {scope : Scope} {dV kV doc pm cdv ct oc : Value} {an od : Option Addr}
    {osl : Array (Option Value)} {N ps : List Str} {sp : Sp} (lk : K.lookup f = some ⟨oc, od, .func (PySem.W.fnOf name qual params body scope dV kV doc pm an cdv ct), osl⟩) (hcd : PySem.W.codeIn K cdv qual = true) (S : FnScope N ps scope)
    (len : ∀ vs H Q E, sp vs H Q E → vs.length = ps.length)
    (hbody : ∀ (A : Around) (outer : List Env) (s : Shared) (H : Hp) (vs : List V) (Q : VK) (E : XK), Room k (A.deeper (envOfC qual scope s.heap.objs.size f cdv)) → sp vs H Q E →
      ∃ t, PSs (cxOf CX P w K mg base N qual scope f cdv A outer s H E) body t ∧ t { nx := fun _ H' => Q .non H', rt := Q } (start N vs) H) :
    FnOk P w K mg base CX (k + 1) f (PySem.W.fnOf name qual params body scope dV kV doc pm an cdv ct) ps sp := by
  refine ⟨len, fun A outer s H args us vs Q E hr e0 hb r hsp => ?_⟩
  have hl := len _ _ _ _ hsp
  have KX : K.In s.heap := e0.mod.kin.keeps fun b o e => (e0.bs b o e).1
  have lim : s.heap.NoLimit := e0.mod.nolimit.keeps fun b o e => (e0.bs b o e).1
  have hkind : ∀ y ∈ ps.zip us, scope.names.lookup y.1 = some .local ∨ (scope.names.lookup y.1 = some .cell ∧ ((cellsFrom (s.heap.objs.size + 1) scope.names []).lookup y.1).isSome = true) := fun ⟨n, v⟩ hy => by
    rcases S.par n (List.of_mem_zip hy).1 with q | q
    · exact .inl q
    · exact .inr ⟨q, PySem.W.cellsFrom_some _ _ _ (.inl q)⟩
  refine codeAny_call_function hr.depth (KX _ _ lk) rfl S.co S.gen rfl (PySem.W.codeRec_of KX hcd) (hb _ _ _ _ ?_)
  refine wpAny_newFunctionEnv_cells S.kind hkind fun env he s1 x => ?_
  subst he
  refine ⟨lim.keeps x.toInCall.keep, codeAny_func ?_⟩
  obtain ⟨t, ht, hq⟩ := hbody A outer s H vs Q E (hr.deeper _) hsp
  have I : Inv (cxOf CX P w K mg base N qual scope f cdv A outer s H E) [] (start N vs) H s1 := inv_start S hr.hd e0 hl r x
  refine wpAny_mono (ht [] s1 (start N vs) H _ I hq) (fun fl s' hs => ?_) fun e s' hs => hs
  have fin : ∀ {σ' : St} {H' : Hp} {v : V} {u : Value}, Inv (cxOf CX P w K mg base N qual scope f cdv A outer s H E) [] σ' H' s' → RelV v u → Q v H' → CE outer P w H s Q u s' :=
    fun {σ' H' v u} J rv q => ⟨v, H', J.os, J.bare, J.base, J.hok, rv, q⟩
  cases fl with
  | ret u =>
    obtain ⟨v, σ', H', J, rv, q⟩ := hs
    exact fin J rv q
  | next =>
    obtain ⟨σ', H', J, q⟩ := hs
    exact fin (v := V.non) (u := Value.none) J rfl q
  | brk =>
    obtain ⟨_, _, _, q⟩ := hs
    exact False.elim q
  | cont =>
    obtain ⟨_, _, _, q⟩ := hs
    exact False.elim q
end L2
namespace L2
open PySem PySem.Spec PyProof.Rows
section
variable {X : Cx} {x : Str} {p pos : Pos} {e : Expr} {es : List Expr} {t : TA} {id T : String} {r : List V → Hp → VK → Prop}
def tCB (r : List V → Hp → VK → Prop) (t : TA) : TE := fun σ H Q => t σ H fun vs H1 => r vs H1 Q
theorem pe_callB (hc : CallR X (.builtin id) r) (hg : Gl X x) (hm : X.mg x = none) (hv : bootBuiltins x = some (.builtin id)) (ha : PA X (e :: es) t) (hn : x ≠ "__name__" := by decide) (hdb : (x == ("__debug__" : Str)) = false := by decide)
    (he : starEach (e :: es) X.env = (false, eval e X.env) :: starEach es X.env := by rfl) (hpl : (backTo pos (starEach es X.env)).any (·.1) = false := by rfl) : PE X (.Call (.Name x p) (e :: es) [] pos) (tCB r t) := by
  intro pins s σ H Q I h
  refine wpAny_Call_Name_kw (ld_blt I hg hm hv ?_ hn hdb)
  exact PyProof.Rows.callWith_builtin1 (thnA (ha pos pins s σ H _ I h) fun us s1 vs H1 I1 r1 q1 => hc pins s1 σ H1 vs us Q I1 r1 q1) he hpl
theorem pe_callTy (hc : CallR X (.type T) r) (hg : Gl X x) (hm : X.mg x = none) (hv : bootBuiltins x = some (.type T)) (ha : PA X (e :: es) t) (hn : x ≠ "__name__" := by decide) (hdb : (x == ("__debug__" : Str)) = false := by decide)
    (he : starEach (e :: es) X.env = (false, eval e X.env) :: starEach es X.env := by rfl) (hpl : (backTo pos (starEach es X.env)).any (·.1) = false := by rfl) : PE X (.Call (.Name x p) (e :: es) [] pos) (tCB r t) := by
  intro pins s σ H Q I h
  refine wpAny_Call_Name_kw (ld_blt I hg hm hv ?_ hn hdb)
  exact PyProof.Rows.callWith_type1 (thnA (ha pos pins s σ H _ I h) fun us s1 vs H1 I1 r1 q1 => hc pins s1 σ H1 vs us Q I1 r1 q1) he hpl
end
end L2
namespace HT
open PySem PyProof.Rows
section
open PySem.SeqAt
open PySem.AutoSeq1 (wpAny_loadPart')
open PySem.MeetsSeq PySem.MeetsSeq2 PySem.MeetsSeq3
end
section
variable {prog : Program} {w : World} {A : Around} {E : Value → Shared → Prop} {s : Shared}
def sIx (n d : Nat) : Option Int → Nat
  | none => d
  | some v => if v < 0 then (v + (n : Int)).toNat else min v.toNat n
end
end HT
namespace L2
open PySem PySem.Spec PyProof.Rows
abbrev TO := St → Hp → (Option Int → Hp → Prop) → Prop
def PO (X : Cx) (e : Option Expr) (t : TO) : Prop :=
  ∀ (pins : List (Addr × Obj)) (s : Shared) (σ : St) (H : Hp) (Q : Option Int → Hp → Prop), Inv X pins σ H s → t σ H Q →
    wpAny (model X.prog X.w) X.A (evalPart e X.env) (fun u s' => ∃ o H', Inv X pins σ H' s' ∧ IsPart u o ∧ Q o H') X.xe s
def tNoPart : TO := fun _ H Q => Q none H
def tPart (t : TE) : TO := fun σ H Q => t σ H fun x H1 => ∃ i, x = .int i ∧ Q (some i) H1
section
variable {X : Cx} {e : Expr} {te : TE} {lo hi : Option Expr} {tl th : TO} {pos p2 : Pos}
theorem po_none : PO X none tNoPart := by
  intro pins s σ H Q I h
  rw [evalPart_none]
  exact wpAny_pure ⟨none, H, I, .none, h⟩
theorem po_some (h : PE X e te) : PO X (some e) (tPart te) := by
  intro pins s σ H Q I hw
  rw [evalPart_some]
  refine thnE (h pins s σ H _ I hw) fun u s1 x H1 I1 r1 q1 => ?_
  obtain ⟨i, rfl, q⟩ := q1
  obtain ⟨t, rfl⟩ := r1
  exact ⟨some i, H1, I1, .int i t, q⟩
def SlR (X : Cx) (r : V → Option Int → Option Int → Hp → VK → Prop) : Prop :=
  ∀ (pins : List (Addr × Obj)) (s : Shared) (σ : St) (H : Hp) (x : V) (v vl vu : Value) (lo hi : Option Int) (sl : Addr) (Q : VK), Inv X pins σ H s → RelV x v → s.heap.IsSliceOf sl vl vu .none → IsPart vl lo → IsPart vu hi → r x lo hi H Q →
    ∃ T id, typeLookup (.type T) "__getitem__" = pure (some (.builtin id)) ∧ s.TypeIs v T ∧ wpAny (model X.prog X.w) X.A (getItem v (.ref sl)) (EP X pins σ Q) X.xe s
def tSl (r : V → Option Int → Option Int → Hp → VK → Prop) (te : TE) (tl th : TO) : TE := fun σ H Q => te σ H fun x H1 => tl σ H1 fun l H2 => th σ H2 fun u H3 => r x l u H3 Q
theorem pe_slice {r : V → Option Int → Option Int → Hp → VK → Prop} (hr : SlR X r) (he : PE X e te) (hl : PO X lo tl) (hu : PO X hi th) : PE X (.Subscript e (.Slice lo hi none p2) pos) (tSl r te tl th) := by
  intro pins s σ H Q I h
  refine Subscript_ (thnE (he pins s σ H _ I h) fun v s1 x H1 I1 r1 q1 => ?_)
  refine wpAny_Slice (thn (hl pins s1 σ H1 _ I1 q1) fun vl s2 ⟨l, H2, I2, pl, q2⟩ => thn (hu pins s2 σ H2 _ I2 q2) fun vu s3 ⟨u, H3, I3, pu, q3⟩ => ?_)
  rw [evalPart_none]
  refine wpAny_pure ?_
  have I4 : Inv X pins σ H3 { s3 with heap := s3.heap.push { cls := .type "slice", data := .fields #[vl, vu, .none] } } := I3.kept (t' := s3.toks) fun b ob q => Heap.get?_push_of_some _ q
  obtain ⟨T, id, hT, ht, hg⟩ := hr pins { s3 with heap := s3.heap.push { cls := .type "slice", data := .fields #[vl, vu, .none] } } σ H3 x v vl vu l u s3.heap.objs.size Q I4 r1 (Heap.IsSliceOf.new ..) pl pu q3
  show wpAny (model X.prog X.w) X.A (subscriptTail e (.Slice lo hi none p2) v (.ref s3.heap.objs.size)) (EP X pins σ Q) X.xe { s3 with heap := s3.heap.push { cls := .type "slice", data := .fields #[vl, vu, .none] } }
  exact tail_any (ops := [.ref s3.heap.objs.size, v]) ht hT hg (by with_unfolding_all rfl)
def cutV (xs : List V) (lo hi : Option Int) : List V := (xs.drop (HT.sIx xs.length 0 lo)).take (HT.sIx xs.length xs.length hi - HT.sIx xs.length 0 lo)
theorem cutV_length (xs : List V) (lo hi : Option Int) : (cutV xs lo hi).length ≤ xs.length := by
  unfold cutV
  rw [List.length_take, List.length_drop]
  omega
end
end L2
namespace L2
open PySem PySem.Spec PyProof.Rows
def ixN (n : Nat) (i : Int) : Option Nat := if 0 ≤ i then (if i < n then some i.toNat else none) else if -(n : Int) ≤ i then some (i + n).toNat else none
def atI {α : Type} (xs : List α) (i : Int) : Option α := (ixN xs.length i).bind fun j => xs[j]?
theorem ixN_seq {n : Nat} {i : Int} {j : Nat} (h : ixN n i = some j) : seqIndex? i n = some j ∧ j < n ∧ -(n : Int) ≤ i ∧ i < n := by
  unfold ixN at h
  by_cases h0 : 0 ≤ i
  · rw [if_pos h0] at h
    by_cases h1 : i < n
    · rw [if_pos h1] at h
      have e : i.toNat = j := Option.some.inj h
      exact ⟨by rw [seqIndex_of h0 h1, e], by omega, by omega, h1⟩
    · rw [if_neg h1] at h; cases h
  · rw [if_neg h0] at h
    by_cases h1 : -(n : Int) ≤ i
    · rw [if_pos h1] at h
      have e : (i + n).toNat = j := Option.some.inj h
      exact ⟨by rw [seqIndex_neg (by omega) h1, e], by omega, h1, by omega⟩
    · rw [if_neg h1] at h; cases h
theorem atI_get {α : Type} {xs : List α} {i : Int} {v : α} (h : atI xs i = some v) : ∃ j, seqIndex? i xs.length = some j ∧ xs[j]? = some v ∧ j < xs.length ∧ -(xs.length : Int) ≤ i ∧ i < xs.length := by
  unfold atI at h
  cases e : ixN xs.length i with
  | none => rw [e] at h; cases h
  | some j =>
    rw [e] at h
    obtain ⟨h1, h2, h3, h4⟩ := ixN_seq e
    exact ⟨j, h1, h, h2, h3, h4⟩
theorem atI_nat {α : Type} {xs : List α} {j : Nat} {v : α} (h : xs[j]? = some v) : atI xs (j : Int) = some v := by
  have hj : j < xs.length := (List.getElem?_eq_some_iff.mp h).1
  have e : ixN xs.length (j : Int) = some j := by
    unfold ixN
    rw [if_pos (by omega), if_pos (by omega)]; simp
  unfold atI; rw [e]; exact h
theorem atI_last {α : Type} (xs : List α) (v : α) : atI (xs ++ [v]) (-1) = some v := by
  have hl : (xs ++ [v]).length = xs.length + 1 := by simp
  have e : ixN (xs ++ [v]).length (-1) = some xs.length := by
    unfold ixN
    rw [hl, if_neg (by decide), if_pos (by omega)]
    congr 1
    omega
  unfold atI
  rw [e]
  show (xs ++ [v])[xs.length]? = some v
  simp
def PlainIx (b : Expr) : Prop := ∀ o i, subscripted b false o i = operate [o, i] (getItem o i)
def IxR (X : Cx) (r : R2) : Prop :=
  ∀ (value slice : Expr) (pins : List (Addr × Obj)) (s : Shared) (σ : St) (H : Hp) (x y : V) (v u : Value) (Q : VK), Inv X pins σ H s → RelV x v → RelV y u → r x y H Q →
    subscripted slice false v u = operate [v, u] (getItem v u) → wpAny (model X.prog X.w) X.A (subscriptTail value slice v u) (EP X pins σ Q) X.xe s
def MtR (X : Cx) (id : String) (r : V → List V → Hp → VK → Prop) : Prop :=
  ∀ (pins : List (Addr × Obj)) (s : Shared) (σ : St) (H : Hp) (x : V) (xs : List V) (v : Value) (us : List Value) (Q : VK), Inv X pins σ H s → RelV x v → Vals xs us → r x xs H Q →
    wpAny (model X.prog X.w) X.A (call (.builtin id) (v :: us)) (EP X pins σ Q) X.xe s
section
variable {X : Cx} {a b : Expr} {ta tb : TE} {pos : Pos}
theorem pe_ix {r : R2} (hr : IxR X r) (ha : PE X a ta) (hb : PE X b tb) (hs : PlainIx b) : PE X (.Subscript a b pos) (tOp r ta tb) := by
  intro pins s σ H Q I h
  exact Subscript_ (binT ha hb I h fun v u s2 x y H2 I2 rx ry q => hr a b pins s2 σ H2 x y v u Q I2 rx ry q (hs _ _))
def rIxL (K : PySem.W.Frag) : R2 := fun x y H Q => ∃ p xs i v, x = .ref p ∧ y = .int i ∧ SqL K H p xs ∧ atI xs i = some v ∧ Q v H
def rIxT (K : PySem.W.Frag) : R2 := fun x y H Q => ∃ p xs i v, x = .ref p ∧ y = .int i ∧ SqT K H p xs ∧ atI xs i = some v ∧ Q v H
theorem ix_list : IxR X (rIxL X.K) := by
  intro value slice pins s σ H x y v u Q I rx ry h hs
  obtain ⟨p, xs, i, z, rfl, rfl, hq, he, q⟩ := h
  cases rx
  obtain ⟨t, rfl⟩ := ry
  obtain ⟨its, r, pl, hz⟩ := I.list hq
  obtain ⟨j, h1, h2, h3, h4, h5⟩ := atI_get he
  obtain ⟨w, ew, rw'⟩ := r.get h2
  have hl := r.length
  have hn := line63
  have fin : EP X pins σ Q w s := ⟨z, H, I, rw', q⟩
  by_cases h0 : 0 ≤ i
  · have hj : i.toNat = j := by
      rw [seqIndex_of h0 h5] at h1
      exact Option.some.inj h1
    exact item_listR pl.isList h0 (by omega) (by rw [hj]; simpa using ew) fin hs
  · have hj : (i + (its.toArray.size : Int)).toNat = j := by
      rw [seqIndex_neg (by omega) h4] at h1
      rw [List.size_toArray, ← hl]
      exact Option.some.inj h1
    exact subscriptTail_builtinR (x := w) pl.isList.typeIs slot_list_getitem.lookup
      (wpAny_getItem_list_neg (Q := fun r s' => r = w ∧ EP X pins σ Q r s') pl.isList (by omega) (by rw [List.size_toArray] <;> omega) (by omega) (by rw [hj]; simpa using ew) ⟨rfl, fin⟩) hs
theorem ix_tup : IxR X (rIxT X.K) := by
  intro value slice pins s σ H x y v u Q I rx ry h hs
  obtain ⟨p, xs, i, z, rfl, rfl, hq, he, q⟩ := h
  cases rx
  obtain ⟨t, rfl⟩ := ry
  obtain ⟨its, r, pl, hz⟩ := I.tuple hq
  obtain ⟨j, h1, h2, h3, h4, h5⟩ := atI_get he
  obtain ⟨w, ew, rw'⟩ := r.get h2
  have hl := r.length
  have hn := line63
  have fin : EP X pins σ Q w s := ⟨z, H, I, rw', q⟩
  exact subscriptTail_builtinR (x := w) pl.typeIs slot_tuple_getitem.lookup
    (getItem_tuple (j := j) (Q := fun r s' => r = w ∧ EP X pins σ Q r s') pl (by omega) (by omega) (by rw [List.size_toArray, ← hl]; exact h1) (by simpa using ew) ⟨rfl, fin⟩) hs
theorem mapSeq_set (its : List Value) (n j : Nat) (u : Value) : Obj.mapSeq (·.setIfInBounds j u) { cls := .type "list", data := .seq its.toArray n } = { cls := .type "list", data := .seq (its.set j u).toArray n } := by
  simp [Obj.mapSeq]
theorem Inv.lst {pins : List (Addr × Obj)} {σ : St} {H : Hp} {s : Shared} {p : Addr} {xs : List V} (I : Inv X pins σ H s) (h : H p = some (.lst xs)) :
    ∃ (its : List Value) (n : Nat), Vals xs its ∧ s.heap.get? p = some { cls := .type "list", data := .seq its.toArray n } ∧ xs.length ≤ sizeLine := by
  obtain ⟨z, its, n, r, e⟩ := I.hok p _ h
  exact ⟨its, n, r, e, z⟩
theorem Inv.lstUpd {pins : List (Addr × Obj)} {σ : St} {H : Hp} {s : Shared} {p : Addr} {xs ys : List V} {its its' : List Value} {n n' : Nat} {f : Obj → Obj} (I : Inv X pins σ H s) (h : H p = some (.lst xs))
    (ho : s.heap.get? p = some { cls := .type "list", data := .seq its.toArray n }) (hf : f { cls := .type "list", data := .seq its.toArray n } = { cls := .type "list", data := .seq its'.toArray n' }) (r : Vals ys its') (hz : ys.length ≤ sizeLine) (t : Nat) :
    Inv X pins σ (upd H p (.lst ys)) { s with heap := s.heap.update p f, toks := t } := by
  have e : (s.heap.update p f).get? p = some { cls := .type "list", data := .seq its'.toArray n' } := by
    rw [Heap.get?_update_self f ho (by rw [hf] <;> rfl), hf]
  refine I.write (x := p) (e := p) (by rw [h]; trivial) (.inl rfl) (fun b u hb q => (Heap.get?_update_other _ _ (Ne.symm hb)).trans q) ⟨_, e⟩ ?_
  exact ⟨hz, its', n', r, e⟩
def rSetL : V → V → V → Hp → (Hp → Prop) → Prop := fun o i v H Q => ∃ p xs k j, o = .ref p ∧ i = .int k ∧ H p = some (.lst xs) ∧ ixN xs.length k = some j ∧ Q (upd H p (.lst (xs.set j v)))
theorem set_list : PSet X rSetL := by
  intro pins s σ H o i v ov iv u Q I ro ri rv h
  obtain ⟨p, xs, k, j, rfl, rfl, hp, hj, q⟩ := h
  cases ro
  obtain ⟨t, rfl⟩ := ri
  obtain ⟨its, n, r, ho, hz⟩ := I.lst hp
  obtain ⟨h1, h2, h3, h4⟩ := ixN_seq hj
  have hl := r.length
  have hn := line63
  have I' : Inv X pins σ (upd H p (.lst (xs.set j v))) { s with heap := s.heap.update p (Obj.mapSeq (·.setIfInBounds j u)) } :=
    I.lstUpd hp ho (mapSeq_set its n j u) (r.set rv j) (by rw [List.length_set]; exact hz) s.toks
  by_cases h0 : 0 ≤ k
  · have hk : k.toNat = j := by
      rw [seqIndex_of h0 h4] at h1
      exact Option.some.inj h1
    exact PySem.W.ki_setAt ho h0 (by omega) (by rw [List.size_toArray, ← hl]; exact h4) (by rw [hk]; exact ⟨_, I', q⟩)
  · have hk : (k + (its.toArray.size : Int)).toNat = j := by
      rw [seqIndex_neg (by omega) h3] at h1
      rw [List.size_toArray, ← hl]
      exact Option.some.inj h1
    exact PySem.W.ki_setBack ho (by omega) (by rw [List.size_toArray, ← hl]; exact h3) (by omega) (by rw [hk]; exact ⟨_, I', q⟩)
theorem slice_bounds (lo hi : Option Int) (n : Nat) : (sliceBounds lo hi none n).1 = ((HT.sIx n 0 lo : Nat) : Int) ∧ (sliceBounds lo hi none n).2.1 = ((HT.sIx n n hi : Nat) : Int) ∧ (sliceBounds lo hi none n).2.2 = 1 := by
  refine ⟨?_, ?_, rfl⟩
  · cases lo with
    | none => simp [sliceBounds, HT.sIx]
    | some i =>
      simp only [sliceBounds, HT.sIx, Option.getD_none, show (1 : Int) > 0 by decide, if_true]
      by_cases h : i < 0
      · simp only [h, if_true] <;> omega
      · simp only [h, if_false] <;> omega
  · cases hi with
    | none => simp [sliceBounds, HT.sIx]
    | some i =>
      simp only [sliceBounds, HT.sIx, Option.getD_none, show (1 : Int) > 0 by decide, if_true]
      by_cases h : i < 0
      · simp only [h, if_true] <;> omega
      · simp only [h, if_false] <;> omega
theorem slicePick_cut (its : List Value) (lo hi : Option Int) : slicePick its.toArray lo hi none = ((its.drop (HT.sIx its.length 0 lo)).take (HT.sIx its.length its.length hi - HT.sIx its.length 0 lo)).toArray := by
  obtain ⟨h1, h2, h3⟩ := slice_bounds lo hi its.toArray.size
  unfold slicePick
  rw [h1, h2, h3]
  simp only [sliceRange_one, pick_run, List.size_toArray] <;> rfl
def rSlL (K : PySem.W.Frag) : V → Option Int → Option Int → Hp → VK → Prop := fun x lo hi H Q => ∃ a xs, x = .ref a ∧ SqL K H a xs ∧ ∀ p, H p = none → Q (.ref p) (upd H p (.lst (cutV xs lo hi)))
theorem sl_list : SlR X (rSlL X.K) := by
  intro pins s σ H x v vl vu lo hi sl Q I rx hs pl pu h
  obtain ⟨a, xs, rfl, hx, q⟩ := h
  cases rx
  obtain ⟨its, r, ht, hz⟩ := I.list hx
  have hlen := r.length
  refine ⟨"list", _, slot_list_getitem.lookup, ht.isList.typeIs, ?_⟩
  refine wpAny_getItem_list_slice ht.isList hs pl pu .none (by simp) ?_ (by rw [List.size_toArray] <;> omega)
  rw [slicePick_cut, ← hlen]
  refine ⟨.ref s.heap.objs.size, _, I.laid (t' := s.toks) (o := .lst (cutV xs lo hi)) (fun b ob q => Heap.get?_push_of_some _ q) (Nat.le_refl _) ?_, rfl, q _ (I.hok.fresh (Nat.le_refl _))⟩
  exact ⟨Nat.le_trans (cutV_length xs lo hi) hz, _, 0, (r.drop (HT.sIx xs.length 0 lo)).take (HT.sIx xs.length xs.length hi - HT.sIx xs.length 0 lo), Heap.get?_push_size _ rfl⟩
def flatV : V → Bool
  | .non => true
  | .bl _ => true
  | .int _ => true
  | .str _ => true
  | _ => false
def eqV : V → V → Bool
  | .non, .non => true
  | .bl a, .bl b => a == b
  | .bl a, .int b => (if a then 1 else 0) == b
  | .int a, .bl b => a == (if b then 1 else 0)
  | .int a, .int b => a == b
  | .str a, .str b => a == b
  | _, _ => false
theorem eqAt_V {A : Around} {s : Shared} {y x : V} {u v : Value} (ry : RelV y u) (rx : RelV x v) (fy : flatV y = true) (fx : flatV x = true) : SeqAt.EqAt A s u v (eqV y x) := by
  cases y with
  | non =>
    cases ry
    cases x with
    | non => cases rx; exact SeqAt.EqAt.same _
    | bl b => cases rx; exact SeqAt.EqAt.none_bool b
    | int b => obtain ⟨t, rfl⟩ := rx; exact SeqAt.EqAt.none_int b t
    | str b => obtain ⟨t, rfl⟩ := rx; exact SeqAt.EqAt.none_str b t
    | _ => exact absurd (show false = true from fx) Bool.false_ne_true
  | bl a =>
    cases ry
    cases x with
    | non => cases rx; exact SeqAt.EqAt.bool_none a
    | bl b => cases rx; exact SeqAt.EqAt.bool_bool a b
    | int b => obtain ⟨t, rfl⟩ := rx; exact SeqAt.EqAt.bool_int a b t
    | str b => obtain ⟨t, rfl⟩ := rx; exact SeqAt.EqAt.bool_str a b t
    | _ => exact absurd (show false = true from fx) Bool.false_ne_true
  | int a =>
    obtain ⟨t', rfl⟩ := ry
    cases x with
    | non => cases rx; exact SeqAt.EqAt.int_none a t'
    | bl b => cases rx; exact SeqAt.EqAt.int_bool a t' b
    | int b => obtain ⟨t, rfl⟩ := rx; exact SeqAt.EqAt.int_int a t' b t
    | str b => obtain ⟨t, rfl⟩ := rx; exact SeqAt.EqAt.int_str a t' b t
    | _ => exact absurd (show false = true from fx) Bool.false_ne_true
  | str a =>
    obtain ⟨t', rfl⟩ := ry
    cases x with
    | non => cases rx; exact SeqAt.EqAt.str_none a t'
    | bl b => cases rx; exact SeqAt.EqAt.str_bool a t' b
    | int b => obtain ⟨t, rfl⟩ := rx; exact SeqAt.EqAt.str_int a t' b t
    | str b => obtain ⟨t, rfl⟩ := rx; exact SeqAt.EqAt.str_str a t' b t
    | _ => exact absurd (show false = true from fx) Bool.false_ne_true
  | _ => exact absurd (show false = true from fy) Bool.false_ne_true
def eqU (x : V) (u : Value) : Bool := match u with
  | .none => eqV .non x
  | .bool b => eqV (.bl b) x
  | .int i _ => eqV (.int i) x
  | .str z _ => eqV (.str z) x
  | _ => false
theorem eqU_of {x y : V} {u : Value} (r : RelV y u) (f : flatV y = true) : eqU x u = eqV y x := by
  cases y with
  | non => cases r; rfl
  | bl b => cases r; rfl
  | int i => obtain ⟨t, rfl⟩ := r; rfl
  | str z => obtain ⟨t, rfl⟩ := r; rfl
  | _ => exact absurd (show false = true from f) Bool.false_ne_true
theorem any_eqU {x : V} : ∀ {xs : List V} {us : List Value}, Vals xs us → xs.all flatV = true → us.any (eqU x) = xs.any fun y => eqV y x
  | _, _, .nil, _ => rfl
  | y :: xs, u :: us, .cons r t, f => by
    rw [List.all_cons, Bool.and_eq_true] at f
    rw [List.any_cons, List.any_cons, eqU_of r f.1, any_eqU t f.2]
theorem mem_eqAt {A : Around} {s : Shared} {x : V} {v : Value} (rx : RelV x v) (fx : flatV x = true) : ∀ {xs : List V} {us : List Value}, Vals xs us → xs.all flatV = true → ∀ u ∈ us, SeqAt.EqAt A s u v (eqU x u)
  | _, _, .nil, _ => fun u hu => by cases hu
  | y :: xs, u :: us, .cons r t, f => fun u' hu => by
    rw [List.all_cons, Bool.and_eq_true] at f
    rcases List.mem_cons.mp hu with rfl | hu
    · rw [eqU_of r f.1]; exact eqAt_V r rx f.1 fx
    · exact mem_eqAt rx fx t f.2 u' hu
def inV (x : V) (xs : List V) : Bool := xs.any fun y => eqV y x
def rIn (K : PySem.W.Frag) (neg : Bool) : R2 := fun x y H Q => ∃ p xs, y = .ref p ∧ (SqL K H p xs ∨ SqT K H p xs) ∧ flatV x = true ∧ xs.all flatV = true ∧ Q (.bl (if neg then !inV x xs else inV x xs)) H
theorem op_in_seq : OpR X (compareOp .In) (rIn X.K false) := by
  intro pins s σ H x y v u Q I rx ry h
  obtain ⟨p, xs, rfl, hq, fx, fs, q⟩ := h
  cases ry
  rcases hq with hq | hq
  · obtain ⟨its, r, pl, hz⟩ := I.list hq
    refine SeqAt.in_listAt (eqU x) pl.isList (fun w hw => mem_eqAt rx fx r fs w (by simpa using hw)) ⟨.bl _, H, I, rfl, ?_⟩
    rw [show its.toArray.any (eqU x) = its.any (eqU x) by simp, any_eqU r fs]
    exact q
  · obtain ⟨its, r, pl, hz⟩ := I.tuple hq
    refine SeqAt.in_tupleAt (eqU x) pl (fun w hw => mem_eqAt rx fx r fs w (by simpa using hw)) ⟨.bl _, H, I, rfl, ?_⟩
    rw [show its.toArray.any (eqU x) = its.any (eqU x) by simp, any_eqU r fs]
    exact q
theorem call_len_seq : CallR X (.builtin "len") (fun xs H Q => ∃ p ys, xs = [.ref p] ∧ (SqL X.K H p ys ∨ SqT X.K H p ys) ∧ Q (.int ys.length) H) := by
  intro pins s σ H xs us Q I r h
  obtain ⟨p, ys, rfl, hq, q⟩ := h
  obtain ⟨u, rfl, rx⟩ := vals1 r
  cases rx
  have hn := line63
  rcases hq with hq | hq
  · obtain ⟨its, r', pl, hz⟩ := I.list hq
    have hlen := r'.length
    exact Calls.call_len_list pl.isList (by simp only [List.size_toArray] <;> omega) ⟨.int ys.length, H, I.tok _, ⟨s.toks + 1, by rw [List.size_toArray, hlen]⟩, q⟩
  · obtain ⟨its, r', pl, hz⟩ := I.tuple hq
    have hlen := r'.length
    exact len_tuple pl (by simp only [List.size_toArray] <;> omega) ⟨.int ys.length, H, I.tok _, ⟨s.toks + 1, by rw [List.size_toArray, hlen]⟩, q⟩
theorem call_list_of : CallR X (.type "list") (fun xs H Q => ∃ p ys, xs = [.ref p] ∧ (SqL X.K H p ys ∨ SqT X.K H p ys) ∧ ∀ l, H l = none → Q (.ref l) (upd H l (.lst ys))) := by
  intro pins s σ H xs us Q I r h
  obtain ⟨p, ys, rfl, hq, q⟩ := h
  obtain ⟨u, rfl, rx⟩ := vals1 r
  cases rx
  have fin : ∀ (its : List Value), Vals ys its → ys.length ≤ sizeLine → ∀ (h' : Heap) (c' : Nat), (∀ b o', s.heap.get? b = some o' → h'.get? b = some o') →
      h'.get? s.heap.objs.size = some { cls := .type "list", dict := none, data := .seq its.toArray c', slots := #[] } → EP X pins σ Q (.ref s.heap.objs.size) { s with heap := h' } := fun its r' hz h' c' kp e =>
    ⟨.ref s.heap.objs.size, _, I.laid (t' := s.toks) kp (Nat.le_refl _) (show ObjOk X.prog X.w _ h' _ (.lst ys) from ⟨hz, its, c', r', e⟩), rfl, q _ (I.hok.fresh (Nat.le_refl _))⟩
  rcases hq with hq | hq
  · obtain ⟨its, r', pl, hz⟩ := I.list hq
    have hlen := r'.length
    obtain ⟨o, ho, hc, n, hd⟩ := pl.isList
    exact call_list_seq p (.inl rfl) ho hc hd (fun h' c' kp e => fin its r' hz h' c' kp e) (by simp only [List.size_toArray] <;> omega)
  · obtain ⟨its, r', pl, hz⟩ := I.tuple hq
    have hlen := r'.length
    obtain ⟨o, ho, hc, n, hd⟩ := pl
    exact call_list_seq p (.inr rfl) ho hc hd (fun h' c' kp e => fin its r' hz h' c' kp e) (by simp only [List.size_toArray] <;> omega)
theorem call_tuple_of : CallR X (.type "tuple") (fun xs H Q => ∃ p ys, xs = [.ref p] ∧ ((SqL X.K H p ys ∧ ∀ l, H l = none → Q (.ref l) (upd H l (.tup ys))) ∨ (SqT X.K H p ys ∧ Q (.ref p) H))) := by
  intro pins s σ H xs us Q I r h
  obtain ⟨p, ys, rfl, h⟩ := h
  obtain ⟨u, rfl, rx⟩ := vals1 r
  cases rx
  rcases h with ⟨hq, q⟩ | ⟨hq, q⟩
  · obtain ⟨its, r', pl, hz⟩ := I.list hq
    have hlen := r'.length
    refine call_tuple_list pl.isList (fun h' kp => ?_) (by simp only [List.size_toArray] <;> omega)
    have I1 : Inv X pins σ H { s with heap := h' } := I.kept (t' := s.toks) kp
    have I2 : Inv X pins σ (upd H h'.objs.size (.tup ys)) { s with heap := h'.push { cls := .type "tuple", data := .seq its.toArray } } :=
      I1.laid (t' := s.toks) (fun b o e => Heap.get?_push_of_some _ e) (Nat.le_refl _) (show ObjOk X.prog X.w _ _ _ (.tup ys) from ⟨hz, its, r', IsTup.new _ _⟩)
    exact ⟨.ref h'.objs.size, _, I2, rfl, q _ (I1.hok.fresh (Nat.le_refl _))⟩
  · obtain ⟨its, r', pl, hz⟩ := I.tuple hq
    exact call_tuple_same pl ⟨.ref p, H, I, rfl, q⟩
def tyV (K : PySem.W.Frag) (T : String) (x : V) (H : Hp) : Prop := match x with
  | .str _ => T = "str"
  | .int _ => T = "int"
  | .ref p => (T = "list" ∧ ∃ xs, SqL K H p xs) ∨ (T = "tuple" ∧ ∃ o, K.lookup p = some o ∧ o.cls = .type "tuple" ∧ o.dict = none) ∨
      (T = "dict" ∧ ((∃ kvs, H p = some (.dK kvs)) ∨ ∃ kvs, H p = some (.dT kvs))) ∨ (T = "set" ∧ ∃ S n, H p = some (.set S n))
  | _ => False
theorem tyV_is {pins : List (Addr × Obj)} {σ : St} {H : Hp} {s : Shared} {T : String} {x : V} {v : Value} (I : Inv X pins σ H s) (r : RelV x v) (ty : tyV X.K T x H) :
    s.TypeIs v T ∧ ∀ a, v = .ref a → ∃ ob, s.heap.get? a = some ob ∧ ob.dict = none := by
  cases x with
  | str z =>
    obtain ⟨t, rfl⟩ := r
    cases (show T = "str" from ty)
    exact ⟨typeIs_str s z t, fun _ e => nomatch e⟩
  | int i =>
    obtain ⟨t, rfl⟩ := r
    cases (show T = "int" from ty)
    exact ⟨typeIs_int s i t, fun _ e => nomatch e⟩
  | ref p =>
    cases r
    rcases ty with ⟨rfl, xs, hq⟩ | ⟨rfl, o, hk, hc, hd⟩ | ⟨rfl, hk⟩ | ⟨rfl, S, n, hk⟩
    · obtain ⟨its, _, pl, _⟩ := I.list hq
      refine ⟨pl.isList.typeIs, fun a e => ?_⟩
      cases e
      obtain ⟨o, n, e, c, hd, _⟩ := pl
      exact ⟨o, e, hd⟩
    · refine ⟨⟨o, I.kIn p o hk, hc⟩, fun a e => ?_⟩
      cases e
      exact ⟨o, I.kIn _ o hk, hd⟩
    · have z : ∃ o, s.heap.get? p = some o ∧ o.ExactDict := by
        rcases hk with ⟨kvs, hk⟩ | ⟨kvs, hk⟩
        · obtain ⟨_, _, _, _, o, _, _, e, ex, _⟩ := I.hok p _ hk
          exact ⟨o, e, ex⟩
        · obtain ⟨_, _, _, _, o, _, _, e, ex, _⟩ := I.hok p _ hk
          exact ⟨o, e, ex⟩
      obtain ⟨o, e, ex⟩ := z
      refine ⟨⟨o, e, ex.1⟩, fun a e2 => ?_⟩
      cases e2
      exact ⟨o, e, ex.2.1⟩
    · obtain ⟨o, _, _, _, e, ex, _⟩ := I.hok p _ hk
      refine ⟨⟨o, e, ex.1⟩, fun a e2 => ?_⟩
      cases e2
      exact ⟨o, e, ex.2.1⟩
  | _ => exact False.elim ty
def tBM0 (K : PySem.W.Frag) (T : String) (r : V → List V → Hp → VK → Prop) (to : TE) : TE := fun σ H Q => to σ H fun x H1 => tyV K T x H1 ∧ r x [] H1 Q
def tBM (K : PySem.W.Frag) (T : String) (r : V → List V → Hp → VK → Prop) (to : TE) (t : TA) : TE := fun σ H Q => to σ H fun x H1 => tyV K T x H1 ∧ t σ H1 fun xs H2 => r x xs H2 Q
variable {o e : Expr} {es : List Expr} {to : TE} {t : TA} {name : Str} {apos cpos : Pos} {T id : String} {r : V → List V → Hp → VK → Prop}
theorem pe_bm0 (pa : PlainAttrs T) (slot : Slot T name id) (hty : typeOf (.builtin id) = pure (.type "method_descriptor")) (hm : MtR X id r) (ho : PE X o to)
    (hbase : attributeBase o name X.env (eval o X.env) = eval o X.env := by rfl) (hline : (apos.endLine == cpos.line) = true := by rfl) : PE X (.Call (.Attribute o name apos) [] [] cpos) (tBM0 X.K T r to) := by
  intro pins s σ H Q I h
  refine wpAny_Call_method0_late hbase hline (thnE (ho pins s σ H _ I h) fun v s1 x H1 I1 r1 ⟨ty, q1⟩ => ?_)
  obtain ⟨h1, h2⟩ := tyV_is I1 r1 ty
  exact ⟨T, id, pa, slot, hty, h1, h2, Calls.callWith_builtin rfl (PySem.evalArgs_none (hm pins s1 σ H1 x [] v [] Q I1 r1 .nil q1))⟩
theorem pe_bm (pa : PlainAttrs T) (slot : Slot T name id) (hty : typeOf (.builtin id) = pure (.type "method_descriptor")) (hm : MtR X id r) (ho : PE X o to) (ha : PA X (e :: es) t)
    (hbase : attributeBase o name X.env (eval o X.env) = eval o X.env := by rfl)
    (hfew : ((backTo cpos (starEach (e :: es) X.env)).all (fun x => !x.1) && (backToKw cpos (keywordEach [] X.env)).all (fun x => x.1.isSome)
      && decide ((e :: es).length + ([] : List Keyword).length + (if ([] : List Keyword).isEmpty then 0 else 1) < 30)) = true := by rfl)
    (hline : (apos.endLine == cpos.line) = true := by rfl) (hs : starEach (e :: es) X.env = (false, eval e X.env) :: starEach es X.env := by rfl) (hplain : (backTo cpos (starEach es X.env)).any (·.1) = false := by rfl) :
    PE X (.Call (.Attribute o name apos) (e :: es) [] cpos) (tBM X.K T r to t) := by
  intro pins s σ H Q I h
  refine wpAny_Call_method_late hbase hfew hline rfl (thnE (ho pins s σ H _ I h) fun v s1 x H1 I1 r1 ⟨ty, q1⟩ => ?_)
  obtain ⟨h1, h2⟩ := tyV_is I1 r1 ty
  refine ⟨T, id, pa, slot, hty, h1, h2, ?_⟩
  have hA := ha cpos pins s1 σ H1 _ I1 q1
  rw [hs] at hA ⊢
  refine Calls.callWith_builtin (by show (false || (backTo cpos (starEach es X.env)).any (·.1)) = false; rw [hplain] <;> rfl) (Calls.evalArgs_plain ?_)
  exact thn hA fun us s2 ⟨vs, H2, I2, r2, q2⟩ => hm pins s2 σ H2 x vs v us Q I2 r1 r2 q2
end
end L2
namespace L2
open PySem PySem.Spec PyProof.Rows
def MtM (X : Cx) (id : String) (r : V → List V → Hp → VK → Prop) : Prop :=
  ∀ (pins : List (Addr × Obj)) (s : Shared) (σ : St) (H : Hp) (x : V) (xs : List V) (v : Value) (us : List Value) (Q : VK), Inv X pins σ H s → RelV x v → Vals xs us → r x xs H Q →
    wpAny (model X.prog X.w) X.A (call (.builtin id) (v :: us)) (EP X pins σ Q) X.xe s
theorem Vals.one {x : V} {us : List Value} (h : Vals [x] us) : ∃ u, us = [u] ∧ RelV x u := by
  cases h with
  | cons r t => cases t; exact ⟨_, rfl, r⟩
theorem Vals.two {x y : V} {us : List Value} (h : Vals [x, y] us) : ∃ u v, us = [u, v] ∧ RelV x u ∧ RelV y v := by
  cases h with
  | cons r t =>
    obtain ⟨v, e, q⟩ := Vals.one t
    subst e
    exact ⟨_, v, rfl, r, q⟩
theorem Vals.zero : ∀ {us : List Value}, Vals [] us → us = []
  | _, .nil => rfl
theorem Vals.dropLast {xs : List V} {us : List Value} (h : Vals xs us) : Vals xs.dropLast us.dropLast := by
  induction h with
  | nil => exact .nil
  | cons r t ih =>
    cases t with
    | nil => exact .nil
    | cons q t' => exact .cons r ih
theorem Vals.rep {xs : List V} {us : List Value} (h : Vals xs us) : ∀ k : Nat, Vals (List.replicate k xs).flatten (List.replicate k us).flatten
  | 0 => .nil
  | k + 1 => by
    rw [List.replicate_succ, List.replicate_succ, List.flatten_cons, List.flatten_cons]
    exact Vals.append h (Vals.rep h k)
theorem erase_last {α : Type} (l : List α) : l.eraseIdx (l.length - 1) = l.dropLast := by
  induction l with
  | nil => rfl
  | cons a r ih =>
    cases r with
    | nil => rfl
    | cons b r =>
      have e : (a :: b :: r).length - 1 = ((b :: r).length - 1) + 1 := by
        have h1 : (a :: b :: r).length = r.length + 2 := rfl
        have h2 : (b :: r).length = r.length + 1 := rfl
        omega
      rw [e, List.eraseIdx_cons_succ, ih]
      all_goals rfl
theorem foldl_rep (its : List Value) : ∀ (k : Nat) (acc : List Value),
    List.foldl (fun x1 x2 => x1 ++ x2) acc.toArray (List.replicate k its.toArray) = (acc ++ (List.replicate k its).flatten).toArray
  | 0, acc => by simp
  | k + 1, acc => by
    have e : acc.toArray ++ its.toArray = (acc ++ its).toArray := by simp
    have e2 : (acc ++ its) ++ (List.replicate k its).flatten = acc ++ (List.replicate (k + 1) its).flatten := by
      rw [List.replicate_succ, List.flatten_cons, List.append_assoc]
    rw [← e2, ← foldl_rep its k (acc ++ its), ← e, List.replicate_succ, List.foldl_cons]
section
variable {X : Cx} {pins : List (Addr × Obj)} {σ : St} {H : Hp} {s : Shared} {l b : Addr} {xs ys zs : List V}
theorem Inv.lset {its its' : List Value} {n : Nat} {f : Array Value → Array Value} {t' : Nat} (I : Inv X pins σ H s) (hH : H l = some (.lst xs))
    (e : s.heap.get? l = some { cls := .type "list", data := .seq its.toArray n }) (hf : f its.toArray = its'.toArray) (hv : Vals ys its') (hz : ys.length ≤ sizeLine) :
    Inv X pins σ (upd H l (.lst ys)) { s with heap := s.heap.update l (Obj.mapSeq f), toks := t' } := by
  have q := PySem.IsL.update e f
  rw [hf] at q
  refine I.write (x := l) (e := l) (by rw [hH]; exact trivial) (.inl rfl) (fun b' u hb hu => (Heap.get?_update_other s.heap (Obj.mapSeq f) (Ne.symm hb)).trans hu) ⟨_, q⟩ ?_
  exact ⟨hz, its', _, hv, q⟩
theorem Inv.lnew {its : List Value} {t' : Nat} (I : Inv X pins σ H s) (hv : Vals ys its) (hz : ys.length ≤ sizeLine) :
    Inv X pins σ (upd H s.heap.objs.size (.lst ys)) { s with heap := s.heap.push { cls := .type "list", data := .seq its.toArray }, toks := t' } :=
  I.laid (fun _ _ q => Heap.get?_push_of_some _ q) (Nat.le_refl _) ⟨hz, its, 0, hv, Heap.get?_push_size _ rfl⟩
theorem Inv.fresh (I : Inv X pins σ H s) : H s.heap.objs.size = none := I.hok.fresh (Nat.le_refl _)
theorem Inv.lstM (I : Inv X pins σ H s) (hH : H l = some (.lst xs)) : xs.length ≤ sizeLine ∧ ∃ (its : List Value) (n : Nat), Vals xs its ∧ xs.length = its.length ∧ s.heap.get? l = some { cls := .type "list", data := .seq its.toArray n } := by
  obtain ⟨z, its, n, r, e⟩ := I.hok l _ hH
  exact ⟨z, its, n, r, r.length, e⟩
theorem notLongL {n : Nat} (h : n ≤ sizeLine) : Builtin.List.listTooLong n = false := by
  unfold Builtin.List.listTooLong
  exact decide_eq_false (by omega)
end
section
variable {X : Cx}
def rAppend : V → List V → Hp → VK → Prop := fun x vs H Q => ∃ l xs y, x = .ref l ∧ vs = [y] ∧ H l = some (.lst xs) ∧ xs.length < sizeLine ∧ Q .non (upd H l (.lst (xs ++ [y])))
theorem mt_append : MtM X "list.append" rAppend := by
  intro pins s σ H x vs v us Q I rx rv h
  obtain ⟨l, xs, y, rfl, rfl, hH, hz, q⟩ := h
  cases rx
  obtain ⟨u, rfl, ru⟩ := rv.one
  obtain ⟨z, its, n, r, hl, e⟩ := I.lstM hH
  refine call_meets F.slot_list_append ⟨_, e, rfl⟩ F.entry_list_append (F.args_list_append_2 _ _) (PySem.list_append l its.toArray n u (by rw [List.size_toArray]; omega)) ⟨e, ?_⟩
  refine ⟨.non, _, I.lset (its' := its ++ [u]) hH e (by simp) (r.append (.cons ru .nil)) ?_, rfl, q⟩
  rw [List.length_append, List.length_singleton]
  omega
def rPop : V → List V → Hp → VK → Prop := fun x vs H Q => ∃ l xs y, x = .ref l ∧ vs = [] ∧ H l = some (.lst xs) ∧ xs[xs.length - 1]? = some y ∧ Q y (upd H l (.lst xs.dropLast))
theorem mt_pop : MtM X "list.pop" rPop := by
  intro pins s σ H x vs v us Q I rx rv h
  obtain ⟨l, xs, y, rfl, rfl, hH, hy, q⟩ := h
  cases rx
  have hus := rv.zero
  subst hus
  obtain ⟨z, its, n, r, hl, e⟩ := I.lstM hH
  obtain ⟨u, hu, ru⟩ := r.get hy
  have hy' : its.toArray[its.toArray.size - 1]? = some u := by
    show its.toArray[its.length - 1]? = some u
    rw [← Array.getElem?_toList, ← hl]
    exact hu
  refine call_meets F.slot_list_pop ⟨_, e, rfl⟩ F.entry_list_pop (F.args_list_pop_1 _) (MeetsSeq.list_pop_last l its.toArray n u hy' (by rw [List.size_toArray]; omega)) ⟨e, ?_⟩
  refine ⟨y, _, I.lset (its' := its.dropLast) hH e ?_ r.dropLast ?_, ru, q⟩
  · show its.toArray.eraseIdxIfInBounds (its.toArray.size - 1) = its.dropLast.toArray
    rw [List.size_toArray, List.eraseIdxIfInBounds_toArray, erase_last]
  · rw [List.length_dropLast]
    omega
def rCat : R2 := fun x y H Q => ∃ l b xs zs, x = .ref l ∧ y = .ref b ∧ H l = some (.lst xs) ∧ H b = some (.lst zs) ∧ xs.length + zs.length ≤ sizeLine ∧ ∀ p, H p = none → Q (.ref p) (upd H p (.lst (xs ++ zs)))
theorem op_cat : OpR X (binaryOp .Add) rCat := by
  intro pins s σ H x y v u Q I rx ry h
  obtain ⟨l, b, xs, zs, rfl, rfl, hH, hB, hz, q⟩ := h
  cases rx
  cases ry
  obtain ⟨z, its, n, r, hl, e⟩ := I.lstM hH
  obtain ⟨z2, its2, n2, r2, hl2, e2⟩ := I.lstM hB
  refine PySem.P.add_list e e2 ?_ (by rw [List.size_toArray, List.size_toArray]; omega)
  have ea : its.toArray ++ its2.toArray = (its ++ its2).toArray := by simp
  rw [ea]
  exact ⟨.ref _, _, I.lnew (t' := s.toks) (r.append r2) (by rw [List.length_append]; omega), rfl, q _ I.fresh⟩
def rRep : R2 := fun x y H Q => ∃ l k xs, x = .ref l ∧ y = .int k ∧ H l = some (.lst xs) ∧ -(2 ^ 63) ≤ k ∧ k < 2 ^ 63 ∧ xs.length * k.toNat ≤ sizeLine ∧
  ∀ p, H p = none → Q (.ref p) (upd H p (.lst (List.replicate k.toNat xs).flatten))
theorem len_rep {α : Type} (xs : List α) (k : Nat) : (List.replicate k xs).flatten.length = k * xs.length := by
  induction k with
  | zero => simp
  | succ k ih => rw [List.replicate_succ, List.flatten_cons, List.length_append, ih, Nat.succ_mul, Nat.add_comm]
theorem op_rep : OpR X (binaryOp .Mult) rRep := by
  intro pins s σ H x y v u Q I rx ry h
  obtain ⟨l, k, xs, rfl, rfl, hH, h1, h2, hz, q⟩ := h
  cases rx
  obtain ⟨t, rfl⟩ := ry
  obtain ⟨z, its, n, r, hl, e⟩ := I.lstM hH
  have hlen : its.toArray.size * k.toNat ≤ sizeLine := by rw [List.size_toArray, ← hl]; exact hz
  have hcap : ¬ its.toArray.size * k.toNat > (2 ^ 63 - 1) / 8 := by
    have : (sizeLine : Nat) ≤ (2 ^ 63 - 1) / 8 := by decide
    omega
  have hfit : ¬ (!Builtin.List.listFitsIndex k) = true := by
    rw [fitsIndex_both h1 h2]
    exact Bool.false_ne_true
  have hlong : ¬ Builtin.List.listTooLong (its.toArray.size * k.toNat) = true := by
    rw [notLongL hlen]
    exact Bool.false_ne_true
  have hnew : List.foldl (fun x1 x2 => x1 ++ x2) #[] (List.replicate (if its.toArray.isEmpty = true then 0 else k.toNat) its.toArray) = (List.replicate k.toNat its).flatten.toArray := by
    have f0 : ∀ m : Nat, List.foldl (fun x1 x2 => x1 ++ x2) #[] (List.replicate m its.toArray) = (List.replicate m its).flatten.toArray := fun m => by
      have := foldl_rep its m []
      rw [List.nil_append] at this
      exact this
    rw [f0]
    cases its with
    | nil => simp
    | cons a r' => rw [if_neg (by simp)]
  refine wpAny_binaryOp_repeat_ref (T := "list") (U := "int") (by decide) ⟨_, e, rfl⟩ (fun s' => typeIs_int s' k t) noFill_list_mul F.fills_int_mul F.slot_int_rmul repeat_list F.slot_int_index.lookup
    (call_meets F.slot_int_rmul (typeIs_int s k t) F.entry_int_rmul (F.args_int_rmul_2 _ _) (int___rmul___int_list k t l its.toArray n)
      ⟨e, rfl, ⟨_, e, rfl⟩, call_meets F.slot_list_mul ⟨_, e, rfl⟩ F.entry_list_mul (F.args_list_mul_2 _ _) (AutoListH.list___mul___list_int_3 l its.toArray n k t hfit hcap hlong) ⟨e, ?_⟩⟩)
  rw [hnew]
  exact ⟨.ref _, _, I.lnew (t' := s.toks) (r.rep k.toNat) (by rw [len_rep, Nat.mul_comm]; exact hz), rfl, q _ I.fresh⟩
end
section
variable {prog : Program} {w : World} {A : Around} {E : Value → Shared → Prop} {s : Shared}
set_option maxRecDepth 100000 in
end
section
variable {X : Cx}
end
end L2
namespace L2
open PySem PySem.Spec PyProof.Rows
section
variable {κ : Type} [DecidableEq κ]
def valV (kvs : List (κ × V)) (k : κ) : Option V := (kvs.find? fun kv => decide (kv.1 = k)).map (·.2)
def putK (kvs : List (κ × V)) (k : κ) (v : V) : List (κ × V) :=
  if (kvs.any fun kv => decide (kv.1 = k)) = true then kvs.map (fun kv => if kv.1 = k then (kv.1, v) else kv) else kvs ++ [(k, v)]
theorem valV_pos {p : κ × V} {r : List (κ × V)} {k : κ} (e : p.1 = k) : valV (p :: r) k = some p.2 := by simp [valV, List.find?_cons, e]
theorem valV_neg {p : κ × V} {r : List (κ × V)} {k : κ} (e : ¬ p.1 = k) : valV (p :: r) k = valV r k := by simp [valV, List.find?_cons, e]
theorem valV_any (k : κ) : ∀ kvs : List (κ × V), (kvs.any fun kv => decide (kv.1 = k)) = (valV kvs k).isSome
  | [] => rfl
  | p :: r => by
    rw [List.any_cons]
    by_cases e : p.1 = k
    · simp only [valV_pos e, decide_eq_true e, Bool.true_or, Option.isSome_some]
    · rw [valV_neg e, decide_eq_false e, Bool.false_or]; exact valV_any k r
theorem length_putK (kvs : List (κ × V)) (k : κ) (v : V) : (putK kvs k v).length ≤ kvs.length + 1 := by
  unfold putK
  split
  · rw [List.length_map]; omega
  · rw [List.length_append, List.length_cons, List.length_nil]; omega
theorem putK_new {kvs : List (κ × V)} {k : κ} (v : V) (h : valV kvs k = none) : putK kvs k v = kvs ++ [(k, v)] := by
  unfold putK
  rw [valV_any, h]
  exact if_neg (by decide)
theorem RelO.isSome_eq {o : Option V} {u : Option Value} (r : RelO o u) : o.isSome = u.isSome := by
  cases o with
  | none => cases u with
    | none => rfl
    | some _ => exact (show False from r).elim
  | some _ => cases u with
    | none => exact (show False from r).elim
    | some _ => rfl
theorem KV.val {kvs : List (κ × V)} {vs : List (κ × Value)} (r : KV kvs vs) (k : κ) : RelO (valV kvs k) (valueAt vs k) := by
  unfold KV at r
  induction r with
  | nil => exact True.intro
  | @cons p q ps qs h t ih =>
    obtain ⟨h1, h2⟩ := h
    by_cases e : p.1 = k
    · have e' : q.1 = k := h1.symm.trans e
      have b : valueAt (q :: qs) k = some q.2 := by simp [valueAt, List.find?_cons, e']
      rw [valV_pos e, b]; exact h2
    · have e' : ¬ q.1 = k := fun z => e (h1.trans z)
      have b : valueAt (q :: qs) k = valueAt qs k := by simp [valueAt, List.find?_cons, e']
      rw [valV_neg e, b]; exact ih
theorem KV.any {kvs : List (κ × V)} {vs : List (κ × Value)} (r : KV kvs vs) (k : κ) : (kvs.any fun kv => decide (kv.1 = k)) = vs.any fun kv => decide (kv.1 = k) := by
  unfold KV at r
  induction r with
  | nil => rfl
  | cons h t ih => rw [List.any_cons, List.any_cons, ih, h.1]
theorem KV.repl {kvs : List (κ × V)} {vs : List (κ × Value)} (r : KV kvs vs) (k : κ) {y : V} {u : Value} (ry : RelV y u) :
    KV (kvs.map fun kv => if kv.1 = k then (kv.1, y) else kv) (vs.map fun kv => if kv.1 = k then (kv.1, u) else kv) := by
  unfold KV at r ⊢
  induction r with
  | nil => exact .nil
  | @cons p q ps qs h t ih =>
    rw [List.map_cons, List.map_cons]
    refine .cons ?_ ih
    obtain ⟨h1, h2⟩ := h
    by_cases e : p.1 = k
    · rw [if_pos e, if_pos (h1.symm.trans e)]; exact ⟨h1, ry⟩
    · rw [if_neg e, if_neg (fun z => e (h1.trans z))]; exact ⟨h1, h2⟩
theorem KV.put {kvs : List (κ × V)} {vs : List (κ × Value)} (r : KV kvs vs) (k : κ) {y : V} {u : Value} (ry : RelV y u) : KV (putK kvs k y) (stored vs k u) := by
  unfold putK stored
  rw [r.any k]
  by_cases e : (vs.any fun kv => decide (kv.1 = k)) = true
  · rw [if_pos e, if_pos e]; exact r.repl k ry
  · rw [if_neg e, if_neg e]; exact Paired.snoc r ⟨rfl, ry⟩
theorem KV.length {kvs : List (κ × V)} {vs : List (κ × Value)} (r : KV kvs vs) : kvs.length = vs.length := Paired.length r
end
theorem kV_is {P : Program} {w : World} {k : Key} {u : Value} (r : RelV (kV k) u) : (mixKind P w).is k u = true := by
  cases k with
  | inl i => obtain ⟨t, e⟩ := (show ∃ t, u = Value.int i t from r); subst e; exact mixKind_int P w i t
  | inr x => obtain ⟨t, e⟩ := (show ∃ t, u = Value.str x t from r); subst e; exact mixKind_str P w x t
theorem items_are {P : Program} {w : World} : ∀ {ks : List Key} {us : List Value}, Vals (ks.map kV) us → ItemsAre (mixKind P w) ks us
  | [], _, r => by rw [List.map_nil] at r; cases r; exact .nil
  | k :: ks, _, r => by
    rw [List.map_cons] at r
    cases r with
    | cons h t => exact .cons (kV_is h) (items_are t)
abbrev KT (H : Hp) : List (List Key × V) → List (List Key × Addr × Value) → Prop := Paired fun p q => p.1 = q.1 ∧ H q.2.1 = some (.tup (p.1.map kV)) ∧ RelV p.2 q.2.2
theorem KT.val {H : Hp} {kvs : List (List Key × V)} {xs : List (List Key × Addr × Value)} (r : KT H kvs xs) (k : List Key) : RelO (valV kvs k) ((atKey xs k).map (·.2)) := by
  induction r with
  | nil => exact True.intro
  | @cons p q ps qs h t ih =>
    obtain ⟨h1, _, h2⟩ := h
    by_cases e : p.1 = k
    · have e' : q.1 = k := h1.symm.trans e
      have b : atKey (q :: qs) k = some q.2 := by simp [atKey, List.find?_cons, e']
      rw [valV_pos e, b]; exact h2
    · have e' : ¬ q.1 = k := fun z => e (h1.trans z)
      have b : atKey (q :: qs) k = atKey qs k := by simp [atKey, List.find?_cons, e']
      rw [valV_neg e, b]; exact ih
theorem KT.repl {H : Hp} {kvs : List (List Key × V)} {xs : List (List Key × Addr × Value)} (r : KT H kvs xs) (k : List Key) {y : V} {u : Value} (ry : RelV y u) :
    KT H (kvs.map fun kv => if kv.1 = k then (kv.1, y) else kv) (xs.map (putAt k u)) := by
  induction r with
  | nil => exact .nil
  | @cons p q ps qs h t ih =>
    rw [List.map_cons, List.map_cons]
    refine .cons ?_ ih
    obtain ⟨h1, h2, h3⟩ := h
    unfold putAt
    by_cases e : p.1 = k
    · rw [if_pos e, if_pos (h1.symm.trans e)]; exact ⟨h1, h2, ry⟩
    · rw [if_neg e, if_neg (fun z => e (h1.trans z))]; exact ⟨h1, h2, h3⟩
theorem KT.put {H : Hp} {kvs : List (List Key × V)} {xs : List (List Key × Addr × Value)} (r : KT H kvs xs) (k : List Key) {b : Addr} {y : V} {u : Value} (hb : H b = some (.tup (k.map kV))) (ry : RelV y u) :
    KT H (putK kvs k y) (storedH xs k b u) := by
  have e : (kvs.any fun kv => decide (kv.1 = k)) = (atKey xs k).isSome := by
    rw [valV_any, (r.val k).isSome_eq, Option.isSome_map]
  unfold putK storedH
  rw [e]
  by_cases q : (atKey xs k).isSome = true
  · rw [if_pos q, if_pos q]; exact r.repl k ry
  · rw [if_neg q, if_neg q]; exact Paired.snoc r ⟨rfl, hb, ry⟩
theorem KT.keeps {H H' : Hp} {kvs : List (List Key × V)} {xs : List (List Key × Addr × Value)} (r : KT H kvs xs) (ht : ∀ b ys, H b = some (.tup ys) → H' b = some (.tup ys)) : KT H' kvs xs :=
  Paired.mapP r fun _ _ z => ⟨z.1, ht _ _ z.2.1, z.2.2⟩
section
variable {P : Program} {w : World} {H : Hp} {h : Heap} {a : Addr}
theorem rd_of {u : HO} (ok : HOk P w H h) (e : Rd H a u) : ObjOk P w H h a u := e.ok ok
theorem dk_rd {kvs : List (Key × V)} (ok : HOk P w H h) (e : Rd H a (.dK kvs)) : kvs.length ≤ sizeLine ∧ (a == sysModules) = false ∧ ∃ vs, KV kvs vs ∧ h.DictOf (mixKind P w) a vs :=
  show ObjOk P w H h a (.dK kvs) from rd_of ok e
theorem dk_of {kvs : List (Key × V)} (ok : HOk P w H h) (e : H a = some (.dK kvs)) : kvs.length ≤ sizeLine ∧ (a == sysModules) = false ∧ ∃ vs, KV kvs vs ∧ h.DictOf (mixKind P w) a vs := dk_rd ok (.inl e)
theorem key_of {ks : List Key} (ok : HOk P w H h) (e : H a = some (.tup (ks.map kV))) : (tupleKind (mixKind P w)).is h ks a := by
  obtain ⟨_, its, r, o, h1, h2, n, h3⟩ := (show ObjOk P w H h a (.tup (ks.map kV)) from ok a _ e)
  exact ⟨o, its.toArray, n, h1, h2, h3, by simpa using items_are r⟩
theorem dt_rd {kvs : List (List Key × V)} (ok : HOk P w H h) (e : Rd H a (.dT kvs)) : kvs.length ≤ sizeLine ∧ (a == sysModules) = false ∧
    ∃ xs, KT H kvs xs ∧ h.DictOfH (tupleKind (mixKind P w)) a xs := by
  obtain ⟨z, y, xs, r, o, es, ep, h1, h2, h3, h4, h5⟩ := (show ObjOk P w H h a (.dT kvs) from rd_of ok e)
  refine ⟨z, y, xs, r, o, es, ep, h1, h2, h3, h4, fun x hx => ?_, h5⟩
  have all : ∀ {l : List (List Key × V)} {m : List (List Key × Addr × Value)}, KT H l m → ∀ x ∈ m, (tupleKind (mixKind P w)).is h x.1 x.2.1 := by
    intro l m q
    induction q with
    | nil => intro x hx; exact nomatch hx
    | @cons p q ps qs hq t ih =>
      intro x hx
      rcases List.mem_cons.mp hx with e | hx
      · subst e
        exact key_of ok (by rw [← hq.1]; exact hq.2.1)
      · exact ih x hx
  exact all r x hx
theorem dt_of {kvs : List (List Key × V)} (ok : HOk P w H h) (e : H a = some (.dT kvs)) : kvs.length ≤ sizeLine ∧ (a == sysModules) = false ∧
    ∃ xs, KT H kvs xs ∧ h.DictOfH (tupleKind (mixKind P w)) a xs := dt_rd ok (.inl e)
end
def DGet (H : Hp) (a : Addr) (y : V) (r : Option V) : Prop :=
  (∃ kvs k, Rd H a (.dK kvs) ∧ y = kV k ∧ r = valV kvs k) ∨ ∃ kvs k b, Rd H a (.dT kvs) ∧ y = .ref b ∧ H b = some (.tup (k.map kV)) ∧ r = valV kvs k
def DPut (H : Hp) (a : Addr) (y v : V) (H' : Hp) : Prop :=
  (∃ kvs k, H a = some (.dK kvs) ∧ y = kV k ∧ kvs.length < sizeLine ∧ H' = upd H a (.dK (putK kvs k v))) ∨
  ∃ kvs k b, H a = some (.dT kvs) ∧ y = .ref b ∧ H b = some (.tup (k.map kV)) ∧ kvs.length < sizeLine ∧ H' = upd H a (.dT (putK kvs k v))
theorem DGet.k {H : Hp} {a : Addr} {kvs : List (Key × V)} {k : Key} (e : H a = some (.dK kvs)) : DGet H a (kV k) (valV kvs k) := .inl ⟨kvs, k, .inl e, rfl, rfl⟩
theorem DPut.k {H : Hp} {a : Addr} {kvs : List (Key × V)} {k : Key} {v : V} (e : H a = some (.dK kvs)) (hl : kvs.length < sizeLine) : DPut H a (kV k) v (upd H a (.dK (putK kvs k v))) := .inl ⟨kvs, k, e, rfl, hl, rfl⟩
section
variable {X : Cx} {pins : List (Addr × Obj)} {σ : St} {H : Hp} {s : Shared} {a : Addr} {y v : V} {u r : Value} {o : Option V} {A : Around} {E : Value → Shared → Prop}
theorem Inv.big (I : Inv X pins σ H s) : sysModules < s.heap.objs.size := by
  have h : mainGlobals < s.heap.objs.size := (I.mod.glob.keeps I.bk).lt
  exact Nat.lt_trans (by decide) h
theorem d_notIn {Q : Value → Shared → Prop} (hu : A.units + 1 < cLine) (I : Inv X pins σ H s) (g : DGet H a y o) (ry : RelV y u) (h : ∀ s', Inv X pins σ H s' → Q (.bool (!o.isSome)) s') :
    wpAny (model X.prog X.w) A (compareOp .NotIn u (.ref a)) Q E s := by
  rcases g with ⟨kvs, k, e, ey, l⟩ | ⟨kvs, k, b, e, ey, eb, l⟩
  · subst ey
    obtain ⟨z, hd, vs, rel, dd⟩ := dk_rd I.hok e
    refine wpAny_notIn_of (kV_is ry) hd dd.mapOf ?_
    rw [← (rel.val k).isSome_eq, ← l]
    exact h _ (I.tok _)
  · subst ey
    cases (show u = Value.ref b from ry)
    obtain ⟨z, hd, xs, rel, dd⟩ := dt_rd I.hok e
    refine wpAny_notIn_heap (tupleKind_room_in1 hu) (key_of I.hok eb) hd dd ?_
    have q := (rel.val k).isSome_eq
    rw [Option.isSome_map] at q
    rw [← q, ← l]
    exact h _ (I.tok _)
theorem d_write {h' : Heap} {t' : Nat} {ob : HO} (I : Inv X pins σ H s) (mu : Mut (H a)) (hs : Heap.SameBut a s.heap h') (he : ∃ q, h'.get? a = some q) (new : ObjOk X.prog X.w (upd H a ob) h' a ob) :
    Inv X pins σ (upd H a ob) { s with heap := h', toks := t' } :=
  I.write (x := a) (e := a) mu (.inl rfl) (fun b q hb z => (hs.2 b hb).trans z) he new
theorem dk_new {P : Program} {w : World} {H' : Hp} {h' : Heap} {kvs : List (Key × V)} {vs : List (Key × Value)} (z : kvs.length ≤ sizeLine) (hd : (a == sysModules) = false) (rel : KV kvs vs) (dd : h'.DictOf (mixKind P w) a vs) :
    ObjOk P w H' h' a (.dK kvs) := ⟨z, hd, vs, rel, dd⟩
theorem d_setItem {H' : Hp} {Q : Unit → Shared → Prop} (hu : A.units + 1 < cLine) (I : Inv X pins σ H s) (g : DPut H a y v H') (ry : RelV y u) (rv : RelV v r) (h : ∀ s', Inv X pins σ H' s' → Q () s') :
    wpAny (model X.prog X.w) A (setItem (.ref a) u r) Q E s := by
  rcases g with ⟨kvs, k, e, ey, l, eH⟩ | ⟨kvs, k, b, e, ey, eb, l, eH⟩
  · subst ey eH
    obtain ⟨z, hd, vs, rel, dd⟩ := dk_of I.hok e
    have hz : vs.length ≤ sizeLine := by rw [← rel.length]; exact z
    have hl : (putK kvs k v).length ≤ sizeLine := by have := length_putK kvs k v; omega
    refine wpAny_setItem_pairs (hsz := hz) (kV_is ry) dd fun h' dd' hs => h _ ?_
    have he : ∃ q, h'.get? a = some q := let ⟨q, _, _, hq, _⟩ := dd'; ⟨q, hq⟩
    exact d_write I (by rw [e]; exact True.intro) hs he (dk_new hl hd (rel.put k rv) dd')
  · subst ey eH
    cases (show u = Value.ref b from ry)
    obtain ⟨z, hd, xs, rel, dd⟩ := dt_of I.hok e
    have hz : xs.length ≤ sizeLine := by rw [← Paired.length rel]; exact z
    have hl : (putK kvs k v).length ≤ sizeLine := by have := length_putK kvs k v; omega
    refine wpAny_setItem_heap (hsz := hz) (tupleKind_room_in1 hu) (key_of I.hok eb) dd fun h' dd' hs => h _ ?_
    obtain ⟨q, es, ep, hq, h2, h3, h4, _, h5⟩ := dd'
    refine d_write I (by rw [e]; exact True.intro) hs ⟨q, hq⟩ ⟨hl, hd, _, (rel.put k eb rv).keeps fun c ys ec => ?_, q, es, ep, hq, h2, h3, h4, h5⟩
    rw [upd_ne (ne_of ec e (fun z => nomatch z))]
    exact ec
end
section
variable {X : Cx} {pins : List (Addr × Obj)} {σ : St} {H : Hp} {s : Shared} {a : Addr} {kvs : List (Key × V)} {k : Key} {u : Value} {A : Around} {E : Value → Shared → Prop}
theorem d_len {Q : Value → Shared → Prop} (I : Inv X pins σ H s) (e : Rd H a (.dK kvs)) (h : ∀ t s', Inv X pins σ H s' → Q (.int kvs.length t) s') : wpAny (model X.prog X.w) A (call (.builtin "len") [.ref a]) Q E s := by
  obtain ⟨z, hd, vs, rel, dd⟩ := dk_rd I.hok e
  refine call_len_dict hd dd (by rw [← rel.length]; rw [sizeLine_eq] at z; omega) ?_
  rw [← rel.length]
  exact h _ _ (I.tok _)
end
def tDGet (td ty : TE) : TE := fun σ H Q => td σ H fun x H1 => ty σ H1 fun y H2 => ∃ a v, x = .ref a ∧ DGet H2 a y (some v) ∧ Q v H2
def tDIn (ty td : TE) : TE := fun σ H Q => ty σ H fun y H1 => td σ H1 fun x H2 => ∃ a o, x = .ref a ∧ DGet H2 a y o ∧ Q (.bl o.isSome) H2
def tDNotIn (ty td : TE) : TE := fun σ H Q => ty σ H fun y H1 => td σ H1 fun x H2 => ∃ a o, x = .ref a ∧ DGet H2 a y o ∧ Q (.bl (!o.isSome)) H2
def sDPut (td ty tv : TE) : TS := fun D σ H => tv σ H fun v H1 => td σ H1 fun x H2 => ty σ H2 fun y H3 => ∃ a H4, x = .ref a ∧ DPut H3 a y v H4 ∧ D.nx σ H4
section
variable {X : Cx} {o i e value : Expr} {pos pos' tpos : Pos} {td ty tv : TE}
theorem pc_dnotin (hu : X.A.units + 1 < cLine) (hi : PE X i ty) (ho : PE X o td) : PC X .NotIn i o (tDNotIn ty td) := by
  intro pins s σ H Q I h
  refine thnE (hi pins s σ H _ I h) fun iv s1 y H1 I1 ry q1 => thnE (ho pins s1 σ H1 _ I1 q1) fun u s2 x H2 I2 rx ⟨a, ov, ex, g, q2⟩ => ?_
  subst ex
  obtain rfl : u = Value.ref a := rx
  exact d_notIn hu I2 g ry fun s3 I3 => ⟨.bl (!ov.isSome), H2, I3, rfl, q2⟩
theorem ps_dput (hu : X.A.units + 1 < cLine) (ho : PE X o td) (hi : PE X i ty) (hv : PE X value tv) (hs : swapsWith value (some (.Subscript o i pos')) pos.line X.env = pure false) :
    PS X (.Assign [.Subscript o i pos'] value pos) (sDPut td ty tv) := by
  intro pins s σ H D I h
  refine wpAny_Assign_Subscript (thnE (hv pins s σ H _ I h) fun r s1 v H1 I1 rv q1 => thnE (ho pins s1 σ H1 _ I1 q1) fun u s2 x H2 I2 rx q2 => thnE (hi pins s2 σ H2 _ I2 q2) fun iv s3 y H3 I3 ry ⟨a, H4, ex, g, q3⟩ => ?_) hs
  subst ex
  obtain rfl : u = Value.ref a := rx
  exact d_setItem hu I3 g ry rv fun s4 I4 => ⟨σ, H4, I4, q3⟩
end
theorem dk_empty {P : Program} {w : World} {H : Hp} (h : Heap) (hb : sysModules < h.objs.size) : ObjOk P w H (h.push { cls := .type "dict", data := .dict #[] }) h.objs.size (.dK []) :=
  ⟨Nat.zero_le _, beq_eq_false_iff_ne.mpr (Ne.symm (Nat.ne_of_lt hb)), [], .nil, Heap.DictOf.new h⟩
def tDNewK : TE := fun _ H Q => ∀ p, H p = none → Q (.ref p) (upd H p (.dK []))
def tDNewT : TE := fun _ H Q => ∀ p, H p = none → Q (.ref p) (upd H p (.dT []))
section
variable {X : Cx} {pos : Pos}
end
def tPairs : List (TE × TE) → St → Hp → (List (V × V) → Hp → Prop) → Prop
  | [], _, H, Q => Q [] H
  | (tk, tv) :: r, σ, H, Q => tk σ H fun x H1 => tv σ H1 fun y H2 => tPairs r σ H2 fun ps H3 => Q ((x, y) :: ps) H3
abbrev VV : List (V × V) → List (Value × Value) → Prop := Paired fun p q => RelV p.1 q.1 ∧ RelV p.2 q.2
def PPs (X : Cx) (pos : Pos) (keys : List (Option Expr)) (values : List Expr) (trs : List (TE × TE)) : Prop :=
  ∀ (pins : List (Addr × Obj)) (s : Shared) (σ : St) (H : Hp) (Q : List (V × V) → Hp → Prop), Inv X pins σ H s → tPairs trs σ H Q →
    wpAny (model X.prog X.w) X.A (evalPairs (pairTrees keys values X.env pos)) (fun vs s' => ∃ ps H', Inv X pins σ H' s' ∧ VV ps vs ∧ Q ps H') X.xe s
theorem pps_nil {X : Cx} {pos : Pos} : PPs X pos [] [] [] := fun pins s σ H Q I h => pairTrees_nil_walk ⟨[], H, I, .nil, h⟩
theorem pps_cons {X : Cx} {pos : Pos} {k v : Expr} {ks : List (Option Expr)} {vs : List Expr} {tk tv : TE} {trs : List (TE × TE)} (hk : PE X k tk) (hv : PE X v tv) (hr : PPs X pos ks vs trs) :
    PPs X pos (some k :: ks) (v :: vs) ((tk, tv) :: trs) := fun pins s σ H Q I h =>
  pairTrees_cons_walk (thnE (hk pins s σ H _ I h) fun u s1 x H1 I1 rx q1 => thnE (hv pins s1 σ H1 _ I1 q1) fun w2 s2 y H2 I2 ry q2 =>
    thn (hr pins s2 σ H2 _ I2 q2) fun ws s3 ⟨ps, H3, I3, rel, q3⟩ => ⟨(x, y) :: ps, H3, I3, .cons ⟨rx, ry⟩ rel, q3⟩)
def mergeK (kvs more : List (Key × V)) : List (Key × V) := more.foldl (fun acc kv => putK acc kv.1 kv.2) kvs
theorem KV.merge : ∀ {more : List (Key × V)} {rs : List (Key × Value)} {kvs : List (Key × V)} {vs : List (Key × Value)}, KV more rs → KV kvs vs → KV (mergeK kvs more) (merged vs rs) := by
  intro more rs kvs vs r
  unfold KV at r
  induction r generalizing kvs vs with
  | nil => intro q; exact q
  | @cons p q ps qs h t ih =>
    intro r0
    have e : KV (putK kvs p.1 p.2) (stored vs q.1 q.2) := by
      have := r0.put p.1 h.2
      rw [← h.1]; exact this
    exact ih e
theorem length_mergeK : ∀ (more kvs : List (Key × V)), (mergeK kvs more).length ≤ kvs.length + more.length
  | [], kvs => by show kvs.length ≤ kvs.length + 0; omega
  | p :: r, kvs => by
    have h1 := length_mergeK r (putK kvs p.1 p.2)
    have h2 := length_putK kvs p.1 p.2
    show (mergeK (putK kvs p.1 p.2) r).length ≤ _
    rw [List.length_cons]; omega
theorem carries_of {P : Program} {w : World} : ∀ {kvs : List (Key × V)} {ws : List (Value × Value)}, VV (kvs.map fun kv => (kV kv.1, kv.2)) ws → ∃ rs, Carries (mixKind P w) ws rs ∧ KV kvs rs
  | [], _, r => by rw [List.map_nil] at r; cases r; exact ⟨[], True.intro, .nil⟩
  | p :: kvs, _, r => by
    rw [List.map_cons] at r
    cases r with
    | @cons a b as bs h t =>
      obtain ⟨rs, c, q⟩ := carries_of (P := P) (w := w) t
      obtain ⟨b1, b2⟩ := b
      exact ⟨(p.1, b2) :: rs, ⟨kV_is h.1, rfl, c⟩, .cons ⟨rfl, h.2⟩ q⟩
def tDisp (trs : List (TE × TE)) : TE := fun σ H Q => ∀ p, H p = none → tPairs trs σ (upd H p (.dK [])) fun ps H2 => H2 p = some (.dK []) ∧ ∃ kvs : List (Key × V), ps = kvs.map (fun kv => (kV kv.1, kv.2)) ∧ kvs.length ≤ 15 ∧ Q (.ref p) (upd H2 p (.dK (mergeK [] kvs)))
theorem pe_disp {X : Cx} {pos : Pos} {keys : List (Option Expr)} {values : List Expr} {trs : List (TE × TE)} (h : PPs X pos keys values trs) (hall : keys.all (·.isSome) = true) (hl : keys.length = values.length) (h0 : keys ≠ [])
    (h15 : keys.length ≤ 15) : PE X (.Dict keys values pos) (tDisp trs) := by
  intro pins s σ H Q I q
  have hn := I.hok.fresh (Nat.le_refl s.heap.objs.size)
  have I1 := I.laid (a := s.heap.objs.size) (o := .dK []) (h' := s.heap.push { cls := .type "dict", data := .dict #[] }) (t' := s.toks) (fun _ _ q => Heap.get?_push_of_some _ q) (Nat.le_refl _) (dk_empty s.heap I.big)
  refine wpAny_Dict_walk (knd := mixKind X.prog X.w) hall hl h0 h15 (thn (h pins _ σ _ _ I1 (q _ hn)) fun ws s2 ⟨ps, H2, I2, rel, e, kvs, ep, lk, q2⟩ => ?_)
  subst ep
  obtain ⟨rs, c, rk⟩ := carries_of (P := X.prog) (w := X.w) rel
  obtain ⟨z, hd, vs0, r0, dd⟩ := dk_of I2.hok e
  cases r0
  refine ⟨rs, c, dd, fun h' dd' hs => ⟨.ref s.heap.objs.size, _, ?_, rfl, q2⟩⟩
  have hz : (mergeK [] kvs).length ≤ sizeLine := by
    have h1 := length_mergeK kvs []
    rw [List.length_nil] at h1
    rw [sizeLine_eq]; omega
  have he : ∃ q, h'.get? s.heap.objs.size = some q := let ⟨q, _, _, hq, _⟩ := dd'; ⟨q, hq⟩
  exact d_write I2 (by rw [e]; exact True.intro) hs he (dk_new hz hd (rk.merge .nil) dd')
section
variable {X : Cx} {pins : List (Addr × Obj)} {σ : St} {H : Hp} {s : Shared} {a : Addr} {y d : V} {u r : Value} {o : Option V} {A : Around} {E : Value → Shared → Prop}
end
section
variable {X : Cx} {o e f : Expr} {apos cpos : Pos} {td ty tx : TE}
end
section
variable {X : Cx} {pins : List (Addr × Obj)} {σ : St} {H : Hp} {s : Shared} {a : Addr} {kvs : List (Key × V)} {A : Around} {E : Value → Shared → Prop}
end
section
variable {X : Cx} {pins : List (Addr × Obj)} {σ : St} {H : Hp} {s : Shared} {a : Addr} {y : V} {u : Value} {A : Around} {E : Value → Shared → Prop}
end
end L2
namespace Att
open PySem PySem.W PySem.Calls PyProof.Rows
theorem ints_of_wellAll {P : Params} {h : Heap} : ∀ (ns : List Int) (vs : List Value), WellAll P h vs (ns.map WData.int) → IntsAre vs ns := by
  intro ns
  induction ns with
  | nil =>
    intro vs w
    rw [List.map_nil] at w
    cases w
    exact .nil
  | cons n ns ih =>
    intro vs w
    rw [List.map_cons] at w
    cases w with
    | cons a b =>
      cases a
      exact .cons _ _ (ih _ b)
theorem script_of {l : OpenLaw} {n : Nat} (hn : l.most = some n) {P : Params} {h : Heap} {args : List WData} {vals : List Value}
    (hpre : l.row.toRowW.claim.pre args = true) (hwl : WellAll P h vals args) :
    ∃ a vs ns, vals = [Value.ref a] ∧ args = [WData.list (ns.map WData.int)] ∧ h.get? a = some { cls := .type "list", data := .seq vs.toArray } ∧ IntsAre vs ns ∧ ns.length ≤ n := by
  have hsh : WShape.hasAll [] args [.list .int] = true := (pre_splitW hpre).1
  have hc : l.pre.holds [] { args := args } = true := (pre_splitW hpre).2
  obtain ⟨d, r, rfl, h1, h2⟩ := hasAllW_cons hsh
  obtain rfl := hasAllW_nil h2
  obtain ⟨xs, rfl, h3⟩ := hasW_list h1
  obtain ⟨ns, rfl⟩ := items_int h3
  have hlen : ns.length ≤ n := by
    unfold OpenLaw.pre at hc
    have h4 : (WTm.not (.lt (.lit (.int (n : Int))) (.len (.arg 0)))).holds [] { args := [.list (ns.map .int)] } = true := by
      have h4 := (holds_andW hc).1
      rw [hn] at h4
      exact h4
    have h5 := condW_of h4 (w_not (w_lt w_lit (w_len_list (w_arg rfl))))
    rw [List.length_map] at h5
    refine Nat.le_of_not_lt fun q => ?_
    have q' : (n : Int) < ((ns.length : Nat) : Int) := by omega
    first
      | (rw [decide_eq_true q'] at h5; exact absurd h5 (by decide))
      | (simp at h5; omega)
  cases hwl with
  | cons w1 w2 =>
    cases w2
    cases w1 with
    | list ho hall => exact ⟨_, _, ns, rfl, rfl, ho, ints_of_wellAll ns _ hall, hlen⟩
theorem post_true (l : OpenLaw) (args : List WData) : l.row.toRowW.claim.post args (.bool true) args = true :=
  postW_of (r := l.row.toRowW) (X := (true == true))
    (show WShape.has [] (.bool true) .bool = true by first | rfl | decide | simp [WShape.has, WShape.arms, WShape.armsAll])
    (show (WTm.eq .res (.lit (.bool true))).value [] { args := args, res := some (.bool true), after := args } = some (.bool (true == true)) from w_eq_bool (w_res rfl) w_lit) rfl
theorem attach_call {l : OpenLaw} {n : Nat} {q : Program} {loose : List Str} {XP : (Str → Option Value) → Heap → Prop} {YP : World → Heap → Prop} {d : DefRec}
    (hn : l.most = some n) (hdf : d.params.defaults = [])
    (call : ∀ (w : World) (s₀ s₁ : Shared) (mg mb : Str → Option Value) (fa : Addr) (o : Obj) (pm cd doc : Value) (a : Addr) (vs : List Value) (ns : List Int),
      Ground q loose [] XP w s₀ mg mb s₁.heap → YP w s₁.heap →
      s₁.heap.get? fa = some o → o.data = .func (docDef d.name d.params d.body d.scope pm cd doc) → s₁.heap.CodeRec cd d.name → mg d.name = some (.ref fa) →
      s₁.heap.get? a = some { cls := .type "list", data := .seq vs.toArray } → IntsAre vs ns → ns.length ≤ n → s₁.gens = #[] →
      codeAny (model l.prog w) callerA (.call (.ref fa) ⟨[.ref a], []⟩) (fun r s' => r = .ok (.ret (.bool true)) ∧ OldK s₁.heap s'.heap ∧ s'.os = s₁.os ∧ AllBare s'.gens) s₁) :
    WalkO q loose XP YP l.row.toRowW d [] (fun f vs => PySem.call f vs) := by
  intro w s₀ s₁ mg mb G Y fa o pm cd doc dV kV ho hd hcd hD hmg hg args vals as hpre hlay hrd hwl hlo
  obtain rfl : dV = .none := Dflts.none hD hdf
  obtain rfl : kV = .none := Dflts.noKw hD
  obtain ⟨a, vs, ns, rfl, rfl, hobj, hints, hlen⟩ := script_of hn hpre hwl
  refine enter_call (codeAny_mono (call w s₀ s₁ mg mb fa o pm cd doc a vs ns G Y ho (fd_plain hd) hcd hmg hobj hints hlen hg) fun r s' hq => ?_)
  obtain ⟨rfl, h2, h3, h4⟩ := hq
  exact ⟨.inl ⟨.bool true, .bool true, [], rfl, fun _ => rfl, .bool true, post_true l _, fun _ => ⟨List.Pairwise.nil, fun _ hm => (nomatch hm)⟩⟩, h2, h3, h4⟩
section
variable {prog : Program} {w : World} {A : Around} {E : Value → Shared → Prop} {s : Shared} {K : Frag}
end
end Att
namespace L2
open PySem PySem.Spec PyProof.Rows
theorem vals_ints : ∀ {vs : List Value} {ns : List Int}, IntsAre vs ns → Vals (ns.map V.int) vs
  | _, _, .nil => .nil
  | _, _, .cons n t h => .cons ⟨t, rfl⟩ (vals_ints h)
def Only (H : Hp) : Prop := ∀ b, H b = none ∨ ∃ o xs, H b = some (.frz o (.lst xs))
theorem law_call {P : Program} {w : World} {K : PySem.W.Frag} {mg mb : Str → Option Value} {CX : CXT} {k : Nat} {fa a : Addr} {fd : FuncData} {x : Str} {sp : Sp} {s₁ : Shared} {vs : List Value} {ns : List Int}
    (KX : K.In s₁.heap) (hns : s₁.heap.Ns mainGlobals mg) (hb : s₁.heap.Ns builtinsNs mb) (hbb : ∀ x : Str, x ≠ "__name__" → mb x = bootBuiltins x) (hlim : s₁.heap.NoLimit) (hg : s₁.gens = #[])
    (ha : s₁.heap.get? a = some { cls := .type "list", data := .seq vs.toArray }) (hi : IntsAre vs ns) (hl : ns.length ≤ sizeLine) (hr : Room k callerA)
    (F : ∀ base : Heap, K.In base → base.Ns mainGlobals mg → FnOk P w K mg base CX k fa fd [x] sp) (hbind : ∀ (s : Shared) (u : Value), BindsTo s fd ⟨[u], []⟩ [(x, u)])
    (hsp : ∀ H : Hp, Only H → SqL K H a (ns.map V.int) → sp [.ref a] H (fun v _ => v = .bl true) fun _ _ _ => False)
    (hCX : ∀ H e s', CX [] H s₁ (fun _ _ _ => False) e s' → False) :
    codeAny (model P w) callerA (.call (.ref fa) ⟨[.ref a], []⟩) (fun r s' => r = .ok (.ret (.bool true)) ∧ OldK s₁.heap s'.heap ∧ s'.os = s₁.os ∧ AllBare s'.gens) s₁ := by
  have rv := vals_ints hi
  have lenV := hi.length
  -- from an abstract heap in which nothing but the script may be tracked
  have core : ∀ H : Hp, Only H → SqL K H a (ns.map V.int) → HOk P w H s₁.heap → (∀ b, H b ≠ none → b = a) → (H a ≠ none → K.lookup a = none) →
      codeAny (model P w) callerA (.call (.ref fa) ⟨[.ref a], []⟩) (fun r s' => r = .ok (.ret (.bool true)) ∧ OldK s₁.heap s'.heap ∧ s'.os = s₁.os ∧ AllBare s'.gens) s₁ := by
    intro H hO hS hok hA hK
    have base_of : ∀ {b : Addr} {o : Obj}, s₁.heap.get? b = some o → H b = none → (hidT s₁.heap H).get? b = some o := fun e n => hidT_get e n
    have noA : ∀ {b : Addr} {o : Obj} {es : Array DictEntry} {ep : Nat}, s₁.heap.get? b = some o → o.data = .dict es ep → H b = none := fun {b o es ep} e d => by
      cases q : H b with
      | none => rfl
      | some u =>
        have e' : b = a := hA b (by rw [q]; simp)
        subst e'
        rw [ha] at e; cases e
        have d' : Data.seq vs.toArray _ = Data.dict es ep := d
        cases d'
    have nsK : ∀ {b : Addr} {m : Str → Option Value}, s₁.heap.Ns b m → (hidT s₁.heap H).Ns b m := fun {b m} ⟨o, es, ep, e, d, r⟩ => ⟨o, es, ep, base_of e (noA e d), d, r⟩
    have hKb : K.In (hidT s₁.heap H) := fun b o e => base_of (KX b o e) (by
      cases q : H b with
      | none => rfl
      | some u =>
        have e' : b = a := hA b (by rw [q]; simp)
        subst e'
        rw [hK (by rw [q]; simp)] at e; cases e)
    have hM : Mod K mg (hidT s₁.heap H) := ⟨hKb, nsK hns, ⟨mb, nsK hb, hbb⟩, let ⟨mc, h1, h2⟩ := hlim; ⟨mc, nsK h1, h2⟩⟩
    have e0 : Env0 P w K mg (hidT s₁.heap H) callerA [] s₁ H := ⟨rfl, hM, fun b o e => of_hidT e, Nat.le_of_eq (hidT_size _ _), trivial, fun b hb => absurd (show b ∈ ([] : List Addr) from hb) (by simp), hok, .of_eq hg⟩
    refine codeAny_mono ((F _ hKb (nsK hns)).run callerA [] s₁ H ⟨[.ref a], []⟩ [.ref a] [.ref a] _ _ hr e0 (hbind s₁ (.ref a)) (.cons rfl .nil) (hsp H hO hS)) fun r s' h => ?_
    cases r with
    | error e => exact (hCX H e s' h).elim
    | ok fl =>
      cases fl with
      | next => exact False.elim h
      | brk => exact False.elim h
      | cont => exact False.elim h
      | ret u =>
        obtain ⟨v, H', os, bare, un, hok', r', q⟩ := h
        have q' : v = .bl true := q
        subst q'
        obtain rfl : u = Value.bool true := r'
        refine ⟨rfl, OldK.of_keep fun b o e => ?_, os, bare⟩
        cases q : H b with
        | none => exact un.keep b o e q (by intro z; exact absurd (show b ∈ ([] : List Addr) from z) (by simp)) (by simp)
        | some u =>
          rcases hO b with z | ⟨ob, xs, z⟩
          · rw [q] at z; cases z
          · have z2 := un.frzs b ob _ z
            obtain ⟨e1, _⟩ := hok b _ z
            obtain ⟨e2, _⟩ := hok' b _ z2
            rw [e] at e1; cases e1
            exact e2
  cases hk : K.lookup a with
  | some o =>
    -- the script is one of the module's own objects
    have e := KX a o hk
    rw [ha] at e
    cases e
    refine core (fun _ => none) (fun _ => .inl rfl) (.inr ⟨_, vs.toArray, _, hk, rfl, rfl, rfl, by rw [List.size_toArray, lenV]; exact hl, by simpa using rv⟩) (fun b u z => by have z' : (none : Option HO) = some u := z; cases z') (fun b z => absurd rfl z) fun z => absurd rfl z
  | none =>
    refine core (fun b => if b = a then some (.frz { cls := .type "list", data := .seq vs.toArray } (.lst (ns.map V.int))) else none) (fun b => ?_) (.inl (.inr ⟨{ cls := .type "list", data := .seq vs.toArray }, if_pos rfl⟩)) (fun b u z => ?_) (fun b z => ?_) fun _ => hk
    · by_cases hb : b = a
      · exact .inr ⟨_, _, if_pos hb⟩
      · exact .inl (if_neg hb)
    · by_cases hb : b = a
      · have z' := (if_pos hb).symm.trans z
        cases z'
        subst hb
        exact ⟨ha, by rw [List.length_map]; exact hl, vs, _, rv, ha⟩
      · have z' := (if_neg hb).symm.trans z
        cases z'
    · by_cases hb : b = a
      · exact hb
      · exact absurd (if_neg hb) z
end L2
namespace L2
open PySem PySem.Spec PyProof.Rows
theorem walk_of {l : PySem.W.OpenLaw} {n k : Nat} {q : Program} {loose : List Str} {XP : (Str → Option Value) → Heap → Prop} {YP : World → Heap → Prop} {d : DefRec} {K : Params → PySem.W.Frag} {CX : World → CXT} {sp : World → Sp} {x : Str}
    (hn : l.most = some n) (hn2 : n ≤ sizeLine) (hdf : d.params.defaults = []) (hr : Room k callerA)
    (hY : ∀ (w : World) (h : Heap), YP w h → (K w.params).In h)
    (F : ∀ (w : World) (mg : Str → Option Value) (fa : Addr) (h : Heap), (K w.params).In h → h.Ns mainGlobals mg → mg d.name = some (.ref fa) →
      ∃ fd : FuncData, (∀ (s : Shared) (u : Value), BindsTo s fd ⟨[u], []⟩ [(x, u)]) ∧
        ∀ base : Heap, (K w.params).In base → base.Ns mainGlobals mg → FnOk l.prog w (K w.params) mg base (CX w) k fa fd [x] (sp w))
    (hsp : ∀ (w : World) (H : Hp) (a : Addr) (ns : List Int), ns.length ≤ n → Only H → SqL (K w.params) H a (ns.map V.int) → sp w [.ref a] H (fun v _ => v = .bl true) fun _ _ _ => False)
    (hCX : ∀ (w : World) (H : Hp) (s : Shared) (e : Value) (s' : Shared), CX w [] H s (fun _ _ _ => False) e s' → False) :
    PySem.W.WalkO q loose XP YP l.row.toRowW d [] (fun f vs => PySem.call f vs) := by
  refine Att.attach_call hn hdf fun w s₀ s₁ mg mb fa o pm cd doc a vs ns G Y ho hd hcd hmg hobj hints hlen hg => ?_
  have KX := hY w _ Y
  obtain ⟨fd, hb, hF⟩ := F w mg fa _ KX G.T.g hmg
  exact law_call KX G.T.g G.T.b G.T.builtins G.T.nolimit hg hobj hints (Nat.le_trans hlen hn2) hr hF hb (fun H hO hS => hsp w H a ns hlen hO hS) fun H e s' => hCX w H s₁ e s'
end L2
namespace L2
open PySem PySem.Spec PyProof.Rows
def inClass (s : Stmt) (j : Nat) : Stmt := match s with
  | .ClassDef _ _ _ body _ _ _ _ _ _ _ => body.getD j (.Pass ⟨0, 0, 0, 0⟩)
  | _ => .Pass ⟨0, 0, 0, 0⟩
def defArgs (s : Stmt) : Arguments := match s with
  | .FunctionDef _ a _ _ _ _ _ _ _ _ => a
  | _ => { posonlyargs := [], args := [], vararg := none, kwonlyargs := [], kw_defaults := [], kwarg := none, defaults := [] }
def defBody (s : Stmt) : List Stmt := match s with
  | .FunctionDef _ _ b _ _ _ _ _ _ _ => b
  | _ => []
def defScope (s : Stmt) : Scope := match s with
  | .FunctionDef _ _ _ _ _ _ sc _ _ _ => sc
  | _ => { kind := .function, names := [], isGenerator := false, isCoroutine := false }
abbrev CX0 : CXT := fun _ _ _ _ _ _ => False
abbrev E0 : XK := fun _ _ _ => False
structure Fun (K : PySem.W.Frag) (x qual : Str) (st : Stmt) (f : Addr) (fd : FuncData) : Prop where
  ex : ∃ (oc : Value) (od : Option Addr) (kV doc pm : Value) (an : Option Addr) (cdv ct : Value) (osl : Array (Option Value)),
    fd = PySem.W.fnOf x qual (defArgs st) (defBody st) (defScope st) .none kV doc pm an cdv ct ∧ K.lookup f = some ⟨oc, od, .func fd, osl⟩ ∧ PySem.W.codeIn K cdv qual = true
  kp : PySem.W.keepIn K (.ref f) = true
section
variable {P : Program} {w : World} {K : PySem.W.Frag} {mg : Str → Option Value} {base : Heap}
theorem Fun.binds {x qual : Str} {st : Stmt} {f : Addr} {fd : FuncData} {ps : List Str} (F : Fun K x qual st f fd)
    (h : ∀ (kV doc pm : Value) (an : Option Addr) (cdv ct : Value) (us : List Value), us.length = ps.length → bindArgs (PySem.W.fnOf x qual (defArgs st) (defBody st) (defScope st) .none kV doc pm an cdv ct) ⟨us, []⟩ = pure (ps.zip us)) : Binds K fd ps [] := by
  obtain ⟨oc, od, kV, doc, pm, an, cdv, ct, osl, rfl, lk, hcd⟩ := F.ex
  exact .all (h kV doc pm an cdv ct)
theorem fun_mk {x qual : Str} {st : Stmt} {f : Addr} {oc : Value} {od an : Option Addr} {osl : Array (Option Value)} {kV doc pm cdv ct : Value} (l : K.lookup f = some ⟨oc, od, .func (PySem.W.fnOf x qual (defArgs st) (defBody st) (defScope st) .none kV doc pm an cdv ct), osl⟩)
    (c : PySem.W.codeIn K cdv qual = true) (k : PySem.W.keepIn K (.ref f) = true) : Fun K x qual st f (PySem.W.fnOf x qual (defArgs st) (defBody st) (defScope st) .none kV doc pm an cdv ct) := ⟨⟨oc, od, kV, doc, pm, an, cdv, ct, osl, rfl, l, c⟩, k⟩
end
theorem hu_of {A : Around} {k : Nat} (hr : Room k A) : A.units + 1 < cLine := Nat.lt_of_le_of_lt (Nat.add_le_add_left (by decide : 1 ≤ 64) _) hr.units
section
variable {X : Cx}
theorem pv (i : Nat) {x : Str} {pos : Pos} (hN : X.N[i]? = some x := by rfl) (hv : Vis X.env.scope x := by first | exact Or.inl rfl | exact Or.inr (Or.inl rfl) | exact Or.inr (Or.inr rfl)) (hd : (x == ("__debug__" : Str)) = false := by decide)
    (hcd : (x == ("__classdict__" : Str)) = false := by decide) : PE X (.Name x pos) (tVar i) := pe_var hN hv hd hcd
end
theorem iteF {A B : Prop} (h : B) : if false = true then A else B := by
  rw [if_neg Bool.false_ne_true]
  exact h
theorem iteT {A B : Prop} (h : A) : if true = true then A else B := by
  rw [if_pos rfl]
  exact h
def Same (H H' : Hp) : Prop := ∀ b o, H b = some o → H' b = some o
theorem Same.refl (H : Hp) : Same H H := fun _ _ h => h
theorem Same.trans {H H1 H2 : Hp} (a : Same H H1) (b : Same H1 H2) : Same H H2 := fun c o h => b c o (a c o h)
theorem Same.free {H H' : Hp} (e : Same H H') {l : Addr} (h : H' l = Option.none) : H l = Option.none := by
  cases q : H l with
  | none => rfl
  | some o =>
    rw [e l o q] at h
    cases h
theorem Same.seq {K : PySem.W.Frag} {H H' : Hp} {a : Addr} {xs : List V} (e : Same H H') (h : SqL K H a xs) : SqL K H' a xs := by
  rcases h with (h | ⟨o, h⟩) | h
  · exact .inl (.inl (e _ _ h))
  · exact .inl (.inr ⟨o, e _ _ h⟩)
  · exact .inr h
end L2
namespace L2
open PySem PySem.Spec PyProof.Rows
section
variable {X : Cx}
theorem call_lenD : CallR X (.builtin "len") (fun xs H Q => ∃ a kvs, xs = [V.ref a] ∧ H a = some (.dK kvs) ∧ Q (.int kvs.length) H) := by
  intro pins s σ H xs us Q I r h
  obtain ⟨a, kvs, rfl, ha, q⟩ := h
  obtain ⟨u, rfl, ru⟩ := vals1 r
  cases ru
  exact d_len I (.inl ha) fun t s' I' => ⟨.int kvs.length, H, I', ⟨t, rfl⟩, q⟩
end
section
variable {κ : Type} [DecidableEq κ]
end
end L2
set_option Elab.async false
set_option linter.all false
set_option maxRecDepth 100000
namespace L2
open PySem PySem.Spec PyProof.Rows
def Cx.comp (X : Cx) (Nc : List Str) (scope : Scope) (cl : List (Str × Addr)) (C : Addr) (s₂ : Shared) (H₁ : Hp) (fp : List Addr) : Cx where
  prog := X.prog
  w := X.w
  K := X.K
  mg := X.mg
  base := X.base
  A := X.A
  N := Nc
  s₀ := s₂
  H₀ := H₁
  env := compEnvC scope cl C X.env
  outer := X.stack
  stack := X.stack
  ex := fp
  fn := fun _ => false
  calm := X.calm
  pn := []
  xe := fun _ _ => False
structure CompTxt (X : Cx) (Nc : List Str) (own : Nat) (js : List Nat) (scope : Scope) (cl : List (Str × Addr)) : Prop where
  clos : closureFor scope X.env = pure cl
  kind : scope.kind = .function
  nocell : ∀ y ∈ scope.names, y.2 ≠ .cell
  names : ∀ y ∈ scope.names, y.2 = .local → scope.names.lookup y.1 = some .local
  cells : ∀ x c, cl.lookup x = some c → X.env.cells.lookup x = some c
  has : ∀ x, ((relabel scope X.env).names.lookup x = some .cell ∨ (relabel scope X.env).names.lookup x = some .free) → ∃ c, cl.lookup x = some c
  len : Nc.length = own + js.length
  outer : ∀ i x, Nc[own + i]? = some x → ∃ j, js[i]? = some j ∧ X.N[j]? = some x ∧ X.env.scope.names.lookup x = some .cell ∧ (relabel scope X.env).names.lookup x = some .cell
def compStart0 (own : Nat) (js : List Nat) (σ : St) : St := List.replicate own none ++ js.map fun j => (σ[j]?).getD none
def tComp (own : Nat) (js : List Nat) (wi : TI) (g : TG) (tc : TT) (te : TE) : TE := fun σ H Q => wi σ H fun J H1 => ∀ p, H1 p = none →
  ∃ W : Nat → Nat → List V → St → Hp → Prop, (∃ m, W 0 m [] (compStart0 own js σ) (upd H1 p (.lst []))) ∧ ∀ i m ys σc Hc, W i m ys σc Hc →
    (J.stop i Hc ∧ Q (.ref p) Hc) ∨ (J.go i Hc ∧ ∀ x H', J.yld i Hc x H' → g x σc H' fun σ2 H2 => tc σ2 H2 fun b H3 =>
      if b = true then te σ2 H3 fun y H4 => H4 p = some (.lst ys) ∧ ys.length < sizeLine ∧ ∃ m', m' < m ∧ W (i + 1) m' (ys ++ [y]) σ2 (upd H4 p (.lst (ys ++ [y])))
      else ∃ m', m' < m ∧ W (i + 1) m' ys σ2 H3)
def PTs (X : Cx) (ifs : List Expr) (t : TT) : Prop :=
  ∀ (pins : List (Addr × Obj)) (s : Shared) (σ : St) (H : Hp) (Q : Bool → Hp → Prop), Inv X pins σ H s → t σ H Q →
    wpAny (model X.prog X.w) X.A (forIn ifs true fun c r => if r = true then do let ok ← isTrue c X.env (eval c X.env); pure (ForInStep.yield ok) else pure (ForInStep.yield r)) (TP X pins σ Q) X.xe s
def tYes : TT := fun _ H Q => Q true H
theorem pts_nil {X : Cx} : PTs X [] tYes := fun pins s σ H Q I h => wpAny_tests_nil ⟨H, I, h⟩
section
variable {prog : Program} {w : World} {A : Around} {E : Value → Shared → Prop} {R : Result → Shared → Prop} {s : Shared}
theorem compLoop_go {elt target iter : Expr} {ifs : List Expr} {scope : Scope} {pos : Pos} {it acc : Value} {env : Env} (I : Nat → Shared → Prop)
    (turn : ∀ n s, I n s → wpAny (model prog w) A (pyNext it) (fun r s₁ => match r with
      | none => R (.ok .next) s₁
      | some v => wpAny (model prog w) A (letOwnedTupleGo target it v) (fun _ s₁' => wpAny (model prog w) A (assign target env v) (fun _ s₂ =>
          wpAny (model prog w) A (forIn ifs true fun c r => if r = true then do let ok ← isTrue c env (eval c env); pure (ForInStep.yield ok) else pure (ForInStep.yield r)) (fun ok s₃ =>
            if ok = true then wpAny (model prog w) A (eval elt env) (fun x s₄ =>
              wpAny (model prog w) A (call (.builtin "list.append") [acc, x]) (fun _ s₅ => ∃ m, m < n ∧ I m s₅) (fun _ _ => False) s₄) (fun _ _ => False) s₃
            else ∃ m, m < n ∧ I m s₃) (fun _ _ => False) s₂) (fun _ _ => False) s₁') (fun _ _ => False) s₁) (fun _ _ => False) s)
    (n : Nat) (h : I n s) :
    codeAny (model prog w) A (.compLoop (.ListComp elt [⟨target, iter, ifs, 0⟩] scope pos) 0 it acc env) R s := by
  refine codeAny_loop rfl I (fun n s hI => ?_) n h
  show wpAny _ A ((compTurn (.ListComp elt [⟨target, iter, ifs, 0⟩] scope pos) 0 it acc env).onRaise (fun x => do noteFrame x env; theTreesLotGoes x)) _ _ s
  refine wpAny_noted ?_
  rw [compTurn_list]
  refine wpAny_bind (wpAny_standAt (wpAny_bind (wpAny_mono (turn n s hI) (fun r s₁ h₁ => ?_) fun _ _ h' => h'.elim)))
  cases r with
  | none => exact wpAny_pure h₁
  | some v =>
    refine wpAny_bind (wpAny_mono h₁ (fun _ s₁' h₁' => ?_) fun _ _ h' => h'.elim)
    refine wpAny_bind (wpAny_mono h₁' (fun _ s₂ h₂ => wpAny_bind (wpAny_mono h₂ (fun ok s₃ h₃ => ?_) fun _ _ h' => h'.elim)) fun _ _ h' => h'.elim)
    cases ok with
    | true =>
      rw [if_pos rfl] at h₃
      simp only [if_true]
      exact wpAny_bind (wpAny_bind (wpAny_mono h₃ (fun x s₄ h₄ => wpAny_bind (wpAny_mono h₄ (fun _ s₅ h₅ => wpAny_pure (wpAny_pure ⟨rfl, h₅⟩)) fun _ _ h' => h'.elim)) fun _ _ h' => h'.elim))
    | false =>
      rw [if_neg Bool.false_ne_true] at h₃
      simp only [Bool.false_eq_true, if_false]
      first
        | exact wpAny_pure ⟨rfl, h₃⟩
        | exact wpAny_bind (wpAny_pure (wpAny_pure ⟨rfl, h₃⟩))
end
end L2
set_option Elab.async false
set_option linter.all false
set_option maxRecDepth 100000
namespace L2
open PySem PySem.Spec PyProof.Rows
section
variable {X : Cx} {Nc : List Str} {own : Nat} {js : List Nat} {scope : Scope} {cl : List (Str × Addr)}
theorem comp_ok {pins : List (Addr × Obj)} {σ : St} {H₁ : Hp} {s₂ : Shared} {C : Addr} {fp : List Addr} (T : CompTxt X Nc own js scope cl) (I : Inv X pins σ H₁ s₂) (hC : s₂.heap.objs.size ≤ C)
    (f1 : ∀ b ∈ fp, FpOk X pins H₁ b) (hlt : ∀ b ∈ fp, b < s₂.heap.objs.size) : (X.comp Nc scope cl C s₂ H₁ fp).Ok where
  mod := I.ok.mod
  kind := by show (relabel scope X.env).kind = _; exact T.kind
  glob := I.ok.glob
  blt := I.ok.blt
  above := hC
  inj := fun x y c h1 h2 => I.ok.inj x y c (T.cells x c h1) (T.cells y c h2)
  has := fun x h => T.has x h
  cab := fun x c h => by cases h
  hd := I.ok.hd
  frames := I.ok.frames
  stk := .inl rfl
  exf := fun b hb => ⟨Nat.ne_of_lt (Nat.lt_of_lt_of_le (hlt b hb) hC), fun x c h => (f1 b hb).2.2.2.2.1 x c (T.cells x c h)⟩
  bs := I.bs
  bsz := Nat.le_trans I.ok.bsz I.sz
  noex := fun b o e hb => by
    rcases (f1 b hb).2.2.2.1 with z | z
    · exact I.ok.noex b o e z
    · exact absurd (Nat.lt_of_lt_of_le (Heap.lt_size (I.ok.bs b o e).1) z) (Nat.lt_irrefl _)
  exfs := fun b hb hs => by
    rcases List.mem_cons.mp (I.stkSub b hs) with z | z
    · exact (f1 b hb).2.1 z
    · exact (f1 b hb).2.2.1 z
  funs := I.stack
  frf := I.stkFree
theorem comp_inv {pins : List (Addr × Obj)} {σ : St} {H₁ : Hp} {s₂ : Shared} {C D : Addr} {fp : List Addr} {h₁ : Heap} {t : Nat} {m : Str → Option Value} (T : CompTxt X Nc own js scope cl) (I : Inv X pins σ H₁ s₂) (hC : s₂.heap.objs.size ≤ C)
    (hD : s₂.heap.objs.size ≤ D) (hDC : D ≠ C) (f1 : ∀ b ∈ fp, FpOk X pins H₁ b) (hlt : ∀ b ∈ fp, b < s₂.heap.objs.size) (old : ∀ b o, s₂.heap.get? b = some o → h₁.get? b = some o) (hns : h₁.Ns C m)
    (hacc : ∃ n, h₁.get? D = some { cls := .type "list", data := .seq ([] : List Value).toArray n }) :
    Inv (X.comp Nc scope cl C s₂ H₁ fp) [] (compStart0 own js σ) (upd H₁ D (.lst [])) { s₂ with heap := h₁, toks := t } := by
  obtain ⟨na, hacc⟩ := hacc
  have cellK : ∀ c v, s₂.heap.IsCell c v → h₁.IsCell c v := fun c v ⟨o, ho, hd⟩ => ⟨o, old c o ho, hd⟩
  refine ⟨comp_ok T I hC f1 hlt, rfl, I.bare, Un.laid old hD (I.hok.fresh hD), ⟨m, hns, fun i x v e1 e2 e3 => ?_⟩, fun x c e => ?_, ?_, fun x c e => ?_, fun p hp => (by cases hp), I.hok.laid old hD ?_, ?_⟩
  · have hN : Nc[i]? = some x := e1
    have hσ : (compStart0 own js σ)[i]? = some (some v) := e2
    unfold compStart0 at hσ
    by_cases hi : i < own
    · rw [List.getElem?_append_left (by simpa using hi), List.getElem?_replicate] at hσ
      simp [hi] at hσ
    · obtain ⟨k, rfl⟩ : ∃ k, i = own + k := ⟨i - own, by omega⟩
      rw [List.getElem?_append_right (by simp)] at hσ
      simp only [List.length_replicate, Nat.add_sub_cancel_left, List.getElem?_map] at hσ
      obtain ⟨j, hj, hx, hk, hr⟩ := T.outer k x hN
      rw [hj] at hσ
      replace hσ : some (σ[j]?.getD none) = some (some v) := hσ
      have hσj : σ[j]? = some (some v) := by
        cases q : σ[j]? with
        | none => rw [q] at hσ; simp at hσ
        | some y => rw [q] at hσ; simpa using hσ
      obtain ⟨m0, hn0, hl0⟩ := I.loc
      obtain ⟨u, ru, lk⟩ := hl0 j x v hx hσj (.inr (.inl hk))
      refine ⟨u, ru, .inr ⟨.inl hr, ?_⟩⟩
      rcases lk with ⟨z, _⟩ | ⟨_, c, hc, hcell⟩
      · have z' : X.env.scope.names.lookup x = some .local := z
        rw [hk] at z'; cases z'
      · obtain ⟨c', hc'⟩ := T.has x (.inl hr)
        have := T.cells x c' hc'
        rw [hc] at this; cases this
        exact ⟨c, hc', cellK c _ hcell⟩
  · obtain ⟨v, z⟩ := I.cell x c (T.cells x c e)
    exact ⟨v, cellK c v z⟩
  · show upd H₁ D (.lst []) C = none
    rw [upd_ne (Ne.symm hDC)]
    exact I.hok.fresh hC
  · have e' := T.cells x c e
    obtain ⟨v, o, ho, _⟩ := I.cell x c e'
    rw [upd_ne (Nat.ne_of_lt (Nat.lt_of_lt_of_le (Heap.lt_size ho) hD))]
    exact I.freeC x c e'
  · exact ⟨Nat.zero_le _, [], na, .nil, hacc⟩
  · show (compStart0 own js σ).length = Nc.length
    rw [T.len]
    simp [compStart0]
theorem comp_back {pins : List (Addr × Obj)} {σ σc : St} {H₁ H' : Hp} {s₂ s' : Shared} {C : Addr} {fp : List Addr} {h' : Heap} (I : Inv X pins σ H₁ s₂) (hC : s₂.heap.objs.size ≤ C)
    (f1 : ∀ b ∈ fp, FpOk X pins H₁ b) (I' : Inv (X.comp Nc scope cl C s₂ H₁ fp) [] σc H' s') (hs : Heap.SameBut C s'.heap h') : Inv X pins σ H' { s' with heap := h' } := by
  have u : Un (frs X.stack) fp H₁ H' s₂.heap s'.heap := I'.base
  have ne : ∀ b o, s₂.heap.get? b = some o → b ≠ C := fun b o e => Nat.ne_of_lt (Nat.lt_of_lt_of_le (Heap.lt_size e) hC)
  have k : ∀ b o, b ≠ C → s'.heap.get? b = some o → h'.get? b = some o := fun b o n e => hs.extBut b o n e
  have u' : Un (frs X.stack) fp H₁ H' s₂.heap h' := ⟨fun b o e n hb hx => k b o (ne b o e) (u.keep b o e n hb hx), fun b o e n hb hx => let ⟨sl, q⟩ := u.slot b o e n hb hx; ⟨sl, k b _ (ne b o e) q⟩,
    u.free, fun b o e hx => let ⟨o', q⟩ := u.there b o e hx; ⟨o', k b o' (ne b o e) q⟩, u.tups, u.frzs, u.tbls⟩
  have hfree : H' C = none := I'.free
  have hok' : HOk X.prog X.w H' h' := fun a o e => (I'.hok a o e).stay (fun b v hb q => k b v (fun z => by
    rcases hb with y | y
    · rw [y] at z; rw [z, hfree] at e; cases e
    · rw [z, hfree] at y; cases y) q) (fun _ q => q) fun _ _ q => q
  exact I.call' (s' := { s' with heap := h' }) (ch := fp) I'.os u' hok' I'.bare fun b hb => ⟨(f1 b hb).2.2.2.1, (f1 b hb).2.1, (f1 b hb).2.2.2.2.1, (f1 b hb).2.2.2.2.2⟩
theorem pe_comp {elt target iter : Expr} {ifs : List Expr} {pos : Pos} {wi : TI} {g : TG} {tc : TT} {te : TE} (hc : X.calm = true) (T : CompTxt X Nc own js scope cl)
    (hi : PI X target iter wi) (hg : ∀ C s₂ H₁ fp, PG (X.comp Nc scope cl C s₂ H₁ fp) target g) (ht : ∀ C s₂ H₁ fp, PTs (X.comp Nc scope cl C s₂ H₁ fp) ifs tc)
    (he : ∀ C s₂ H₁ fp, PE (X.comp Nc scope cl C s₂ H₁ fp) elt te) (hs : ∀ x, foldedSetIterable iter X.env x = pure x := by intro _; rfl) :
    PE X (.ListComp elt [⟨target, iter, ifs, 0⟩] scope pos) (tComp own js wi g tc te) := by
  intro pins s σ H Q I h
  rw [eval_ListComp]
  refine wpAny_comprehension_free (use := none) rfl hs T.clos T.kind T.names (thn (hi pins s σ H _ I h) fun v s1 h1 => thn h1 fun itv s2 h2 => ?_)
  obtain ⟨it, fp, tn, J, H1, rfl, I1, Tn, st, f1, R⟩ := h2
  have hfp : ∀ b ∈ fp, b < s2.heap.objs.size := fun b hb => let ⟨o, e, _⟩ := Tn.obj _ _ st b hb; Heap.lt_size e
  refine wpAny_newObj_type (wpAny_newFunctionEnv T.nocell (by intro y hy; simp at hy) (fun h₁ hns₁ hsb₁ => ?_) T.kind)
  dsimp only at hns₁ hsb₁ ⊢
  generalize hH2 : s2.heap.push { cls := .type "list", dict := none, data := .seq ([] : List Value).toArray } = H2 at hns₁ hsb₁ ⊢
  have hC : H2.objs.size = s2.heap.objs.size + 1 := by rw [← hH2, Heap.size_push]
  have hDC : s2.heap.objs.size ≠ H2.objs.size := by rw [hC]; exact Nat.ne_of_lt (Nat.lt_succ_self _)
  have hCle : s2.heap.objs.size ≤ H2.objs.size := by rw [hC]; exact Nat.le_succ _
  have below : ∀ b, b < s2.heap.objs.size → b ≠ H2.objs.size := fun b hb => by rw [hC]; exact Nat.ne_of_lt (Nat.lt_succ_of_lt hb)
  have old : ∀ b o, s2.heap.get? b = some o → h₁.get? b = some o := fun b o e => hsb₁.extBut b o (below b (Heap.lt_size e)) (Heap.get?_push_of_some _ (hH2 ▸ Heap.get?_push_of_some _ e))
  have hacc : ∃ n, h₁.get? s2.heap.objs.size = some { cls := .type "list", data := .seq ([] : List Value).toArray n } := ⟨_, hsb₁.extBut _ _ hDC (Heap.get?_push_of_some _ (hH2 ▸ Heap.get?_push_size _ rfl))⟩
  have st₁ : tn 0 h₁ := Tn.keep _ _ _ st fun b _ o e => old b o e
  obtain ⟨W, ⟨m0, w0⟩, turn⟩ := R s2.heap.objs.size I1.fresh
  have Ic := comp_inv (t := s2.toks + ([] : List (Str × Value)).length) T I1 hCle (Nat.le_refl _) hDC f1 hfp old hns₁ hacc
  generalize hXc : X.comp Nc scope cl H2.objs.size s2 H1 fp = Xc at Ic
  have stat : ∀ {H' : Hp}, (∀ b ∈ fp, H' b = none) → ∀ b ∈ fp, FpOk Xc [] H' b := fun {H'} hn b hb => by
    subst hXc
    exact ⟨hn b hb, below b (hfp b hb), (comp_ok T I1 hCle f1 hfp).exfs b hb, .inl hb, fun x c e => (f1 b hb).2.2.2.2.1 x c (T.cells x c e), fun p hp => by cases hp⟩
  have fr0 : ∀ b ∈ fp, upd H1 s2.heap.objs.size (.lst []) b = none := fun b hb => by
    rw [upd_ne (Nat.ne_of_lt (hfp b hb))]
    exact (f1 b hb).1
  have calmc : Xc.calm = true := by subst hXc; exact hc
  have loop : ∀ s₃ : Shared, s₃ = { s2 with heap := h₁, toks := s2.toks + ([] : List (Str × Value)).length } →
      codeAny (model X.prog X.w) X.A (.compLoop (.ListComp elt [⟨target, iter, ifs, 0⟩] scope pos) 0 (.ref it) (.ref s2.heap.objs.size) (compEnvC scope cl H2.objs.size X.env))
        (compPost (model X.prog X.w) X.A X.xe none (EP X pins σ Q) (.ref s2.heap.objs.size) H2.objs.size) s₃ := by
    rintro s₃ rfl
    refine compLoop_go (fun n s' => ∃ i ys σ' H', Inv Xc [] σ' H' s' ∧ tn i s'.heap ∧ (∀ b ∈ fp, H' b = none) ∧ W i n ys σ' H') ?_ m0 ⟨0, [], _, _, Ic, st₁, fr0, w0⟩
    rintro n s3 ⟨i, ys, σ3, H3, I3, st3, fr3, w3⟩
    rcases turn i n ys σ3 H3 w3 with ⟨stop, q⟩ | ⟨go, step⟩
    · subst hXc
      refine thn (Tn.done (X.comp Nc scope cl H2.objs.size s2 H1 fp) rfl rfl rfl hc i [] s3 σ3 H3 _ I3 (stat fr3) st3 stop) fun r s4 ⟨hr, I4⟩ => ?_
      subst hr
      obtain ⟨m4, hn4, _⟩ := id I4.loc
      exact ⟨m4, hn4, fun h' hs' => ⟨.ref s2.heap.objs.size, H3, comp_back I1 hCle f1 I4 hs', rfl, q⟩⟩
    · subst hXc
      refine thn (Tn.item (X.comp Nc scope cl H2.objs.size s2 H1 fp) rfl rfl rfl hc i [] s3 σ3 H3 _ I3 (stat fr3) st3 go) fun r s4 ⟨u, hr, h4⟩ => ?_
      subst hr
      refine thn h4 fun _ s5 ⟨x, H5, I5, r5, y5, st5, fr5⟩ => ?_
      have I5' := I5.pinned (stat fr5) (Tn.obj _ _ st5)
      have back : ∀ {σ7 : St} {H7 : Hp} {s7 : Shared}, Inv (X.comp Nc scope cl H2.objs.size s2 H1 fp) ([] ++ pinsAt fp s5.heap) σ7 H7 s7 → Inv (X.comp Nc scope cl H2.objs.size s2 H1 fp) [] σ7 H7 s7 ∧ tn (i + 1) s7.heap ∧ ∀ b ∈ fp, H7 b = none := fun {σ7 H7 s7} I7 => by
        refine ⟨I7.unpinned, Tn.keep _ _ _ st5 fun b hb o e => (I7.pin (b, o) (List.mem_append_right _ (List.mem_append_right _ (mem_pinsAt hb e)))).1, fun b hb => ?_⟩
        obtain ⟨o, e, d⟩ := Tn.obj _ _ st5 b hb
        exact (I7.pin (b, o) (List.mem_append_right _ (List.mem_append_right _ (mem_pinsAt hb e)))).2.1
      refine thn (hg _ _ _ _ _ s5 σ3 H5 x u _ I5' r5 (step x H5 y5)) fun _ s6 ⟨σ6, H6, I6, q6⟩ => ?_
      refine thnT (ht _ _ _ _ _ s6 σ6 H6 _ I6 q6) fun ok s7 H7 I7 q7 => ?_
      cases ok with
      | false =>
        rw [if_neg Bool.false_ne_true] at q7 ⊢
        obtain ⟨m', hm, w7⟩ := q7
        obtain ⟨J1, J2, J3⟩ := back I7
        exact ⟨m', hm, i + 1, ys, σ6, H7, J1, J2, J3, w7⟩
      | true =>
        rw [if_pos rfl] at q7 ⊢
        refine thnE (he _ _ _ _ _ s7 σ6 H7 _ I7 q7) fun y s8 yv H8 I8 r8 ⟨hp8, hl8, m', hm, w8⟩ => ?_
        refine thn (mt_append _ s8 σ6 H8 (.ref s2.heap.objs.size) [yv] _ [y] (fun v' H' => W (i + 1) m' (ys ++ [yv]) σ6 H') I8 rfl (.cons r8 .nil) ⟨_, ys, yv, rfl, rfl, hp8, hl8, w8⟩) fun v9 s9 ⟨_, H9, I9, _, w9⟩ => ?_
        obtain ⟨J1, J2, J3⟩ := back I9
        exact ⟨m', hm, i + 1, ys ++ [yv], σ6, H9, J1, J2, J3, w9⟩
  exact codeAny_compStart_list (loop _ rfl) (Tn.self _ 0 _ _ _ st₁ (loop _ rfl))
end
end L2
set_option Elab.async false
set_option linter.all false
set_option maxRecDepth 100000
namespace L2
open PySem PySem.Spec PyProof.Rows
section
variable {X : Cx}
def rInsert : V → List V → Hp → VK → Prop := fun x vs H Q => ∃ (l : Addr) (xs : List V) (i : Int) (y : V), x = .ref l ∧ vs = [.int i, y] ∧ H l = some (.lst xs) ∧ 0 ≤ i ∧ i ≤ xs.length ∧ xs.length < sizeLine ∧ Q .non (upd H l (.lst (xs.take i.toNat ++ y :: xs.drop i.toNat)))
theorem mt_insert : MtM X "list.insert" rInsert := by
  intro pins s σ H x vs v us Q I rx rv h
  obtain ⟨l, xs, i, y, rfl, rfl, hH, h0, hk, hz, q⟩ := h
  cases rx
  obtain ⟨u1, u2, rfl, ⟨t, rfl⟩, ru⟩ := rv.two
  obtain ⟨z, its, n, r, hl, e⟩ := I.lstM hH
  have hn := line63
  have hf : Builtin.List.listFitsIndex i = true := by
    unfold Builtin.List.listFitsIndex
    rw [Bool.and_eq_true]
    exact ⟨decide_eq_true (by omega), decide_eq_true (by omega)⟩
  have hf' : ¬ (!Builtin.List.listFitsIndex i) = true := by rw [hf]; decide
  have hzz : its.toArray.size ≤ sizeLine := by rw [List.size_toArray, ← hl]; exact z
  refine call_meets PySem.F.slot_list_insert ⟨_, e, rfl⟩ PySem.F.entry_list_insert (PySem.F.args_list_insert_3 _ _ _) (PySem.AutoSeq1.list_insert_list_int_val_1 l its.toArray n i t u2 hf' hzz) ⟨e, ?_⟩
  refine ⟨.non, _, I.lset (its' := its.take i.toNat ++ u2 :: its.drop i.toNat) hH e ?_ ((r.take i.toNat).append (.cons ru (r.drop i.toNat))) ?_, rfl, q⟩
  · show (its.toArray.extract 0 (if i < 0 then (i + (its.toArray.size : Int)).toNat else min i.toNat its.toArray.size)).push u2 ++ its.toArray.extract (if i < 0 then (i + (its.toArray.size : Int)).toNat else min i.toNat its.toArray.size) = _
    have e0 : (if i < 0 then (i + (its.toArray.size : Int)).toNat else min i.toNat its.toArray.size) = i.toNat := by
      rw [if_neg (by omega), List.size_toArray]
      omega
    rw [e0]
    exact PySem.W.kl_ins_eq its i.toNat u2
  · rw [List.length_append, List.length_cons, List.length_take, List.length_drop]
    omega
def rIsinst (K : PySem.W.Frag) : List V → Hp → VK → Prop := fun xs H Q => ∃ x c t b, xs = [x, c] ∧ TyOf K H x t ∧ (∀ cv, RelV c cv → PySem.W.kitOne K t cv = some b) ∧ Q (.bl b) H
theorem call_isinst : CallR X (.builtin "isinstance") (rIsinst X.K) := by
  intro pins s σ H xs us Q I r h
  obtain ⟨x, c, t, b, rfl, ty, hk, q⟩ := h
  obtain ⟨u, cv, rfl, ru, rc⟩ := vals2 r
  exact isinst_ok I ru ty (hk cv rc) fun tk => ⟨.bl b, H, I.tok tk, rfl, q⟩
theorem call_all (hc : X.calm = true) : CallR X (.builtin "all") (fun xs H Q => ∃ (p : Addr) (bs : List Bool), xs = [.ref p] ∧ SqL X.K H p (bs.map V.bl) ∧ Q (.bl (bs.all id)) H) := by
  intro pins s σ H xs us Q I r h
  obtain ⟨p, bs, rfl, hp, q⟩ := h
  obtain ⟨u, rfl, ru⟩ := vals1 r
  cases ru
  obtain ⟨its, rv, pl, hz⟩ := I.list hp
  have hl := pl.isList
  have hlt := pl.lt
  have hh : X.A.in1.handled = none := I.ok.hd hc
  have hlen : its.length = bs.length := by rw [← rv.length, List.length_map]
  refine call_all_walk (wpAny_pyIter_list hl ?_)
  refine ⟨s.heap.objs.size, [s.heap.objs.size, p], [s.heap.objs.size], its.toArray.size, _, _, fun i => (bs[i]?).getD true, rfl, Walks.list (A := X.A.in1) hh _ p (Nat.ne_of_lt hlt) its.toArray,
    ⟨⟨_, Heap.get?_push_size _ rfl, rfl, rfl⟩, hl.push _⟩, fun i v s' Q' E' hP hQ => ?_, fun h' tk hk => ?_⟩
  · have hi : its[i]? = some v := by simpa using hP
    have hib : i < bs.length := by rw [← hlen]; exact (List.getElem?_eq_some_iff.mp hi).1
    obtain ⟨u, hu, ru⟩ := rv.get (i := i) (x := V.bl bs[i]) (by rw [List.getElem?_map, List.getElem?_eq_getElem hib]; rfl)
    rw [hi] at hu; cases hu
    cases ru
    replace hQ : Q' (bs[i]?.getD true) s' := hQ
    rw [List.getElem?_eq_getElem hib] at hQ
    exact wpAny_truthy_bool hQ
  · have e : ((List.range its.toArray.size).all fun i => (bs[i]?).getD true) = bs.all id := by
      rw [List.size_toArray, hlen]
      rw [Bool.eq_iff_iff, List.all_eq_true, List.all_eq_true]
      constructor
      · intro z b hb
        obtain ⟨i, hi, rfl⟩ := List.getElem_of_mem hb
        have := z i (List.mem_range.mpr hi)
        rw [List.getElem?_eq_getElem hi] at this
        exact this
      · intro z i hi
        have hi' := List.mem_range.mp hi
        rw [List.getElem?_eq_getElem hi']
        exact z _ (List.getElem_mem hi')
    have kk : ∀ b o, s.heap.get? b = some o → h'.get? b = some o := fun b o eb => hk b o (fun hm => by rw [List.mem_singleton.mp hm] at eb; exact Nat.lt_irrefl _ (Heap.lt_size eb)) (Heap.get?_push_of_some _ eb)
    rw [e]
    exact ⟨.bl _, H, I.kept (t' := tk) kk, rfl, q⟩
end
mutual
inductive Deep (K : PySem.W.Frag) (H : Hp) : V → PyData → Prop
  | non : Deep K H .non .none
  | bl (b : Bool) : Deep K H (.bl b) (.bool b)
  | int (i : Int) : Deep K H (.int i) (.int i)
  | str {x : Str} : PyData.canLay0 (.str x) = true → Deep K H (.str x) (.str x)
  | lst {a : Addr} {xs : List V} {ds : List PyData} : SqL K H a xs → DeepAll K H xs ds → Deep K H (.ref a) (.list ds)
  | tup {a : Addr} {xs : List V} {ds : List PyData} : SqT K H a xs → DeepAll K H xs ds → Deep K H (.ref a) (.tuple ds)
inductive DeepAll (K : PySem.W.Frag) (H : Hp) : List V → List PyData → Prop
  | nil : DeepAll K H [] []
  | cons {x : V} {d : PyData} {xs : List V} {ds : List PyData} : Deep K H x d → DeepAll K H xs ds → DeepAll K H (x :: xs) (d :: ds)
end
mutual
theorem Deep.reads {X : Cx} {pins : List (Addr × Obj)} {σ : St} {H : Hp} {s : Shared} (I : Inv X pins σ H s) : ∀ {x : V} {d : PyData} {u : Value}, Deep X.K H x d → RelV x u → (∃ as, Reads s.heap u d as) ∧ d.canLay0 = true
  | _, _, _, .non, r => by cases (show _ = Value.none from r); exact ⟨⟨_, .none⟩, by simp [PyData.canLay0]⟩
  | _, _, _, .bl b, r => by cases (show _ = Value.bool b from r); exact ⟨⟨_, .bool b⟩, by simp [PyData.canLay0]⟩
  | _, _, _, .int i, r => by obtain ⟨t, e⟩ := (show ∃ t, _ = Value.int i t from r); cases e; exact ⟨⟨_, .int i t⟩, by simp [PyData.canLay0]⟩
  | _, _, _, .str (x := x) h, r => by obtain ⟨t, e⟩ := (show ∃ t, _ = Value.str x t from r); cases e; exact ⟨⟨_, .str x t⟩, h⟩
  | _, _, _, .lst (a := a) h hs, r => by
    cases (show _ = Value.ref a from r)
    obtain ⟨its, rv, ⟨o, n, e, c, _, dd⟩, hz⟩ := I.list h
    obtain ⟨⟨as, ra⟩, cl⟩ := DeepAll.reads I hs rv
    exact ⟨⟨_, .list e c dd (by simpa using ra)⟩, by simpa [PyData.canLay0] using cl⟩
  | _, _, _, .tup (a := a) h hs, r => by
    cases (show _ = Value.ref a from r)
    obtain ⟨its, rv, ⟨o, e, c, n, dd⟩, hz⟩ := I.tuple h
    obtain ⟨⟨as, ra⟩, cl⟩ := DeepAll.reads I hs rv
    exact ⟨⟨_, .tuple e c dd (by simpa using ra)⟩, by simpa [PyData.canLay0] using cl⟩
theorem DeepAll.reads {X : Cx} {pins : List (Addr × Obj)} {σ : St} {H : Hp} {s : Shared} (I : Inv X pins σ H s) : ∀ {xs : List V} {ds : List PyData} {us : List Value}, DeepAll X.K H xs ds → Vals xs us → (∃ as, ReadsAll s.heap us ds as) ∧ PyData.canLayAll0 ds = true
  | _, _, _, .nil, .nil => ⟨⟨_, .nil⟩, by simp [PyData.canLayAll0]⟩
  | _, _, _, .cons h hs, .cons r rs => by
    obtain ⟨⟨as, ra⟩, c1⟩ := Deep.reads I h r
    obtain ⟨⟨bs, rb⟩, c2⟩ := DeepAll.reads I hs rs
    exact ⟨⟨_, .cons ra rb⟩, by simp [PyData.canLayAll0, c1, c2]⟩
end
section
variable {X : Cx}
def rNeD (K : PySem.W.Frag) : R2 := fun x y H Q => ∃ d e, Deep K H x d ∧ Deep K H y e ∧ d.depth ≤ 40 ∧ Q (.bl (!PyData.eqv d e)) H
theorem op_neD (hu : X.A.units + 64 < cLine) : OpR X (compareOp .NotEq) (rNeD X.K) := by
  intro pins s σ H x y v u Q I rx ry h
  obtain ⟨d, e, hd, he, hp, q⟩ := h
  obtain ⟨⟨as, ra⟩, ca⟩ := hd.reads I rx
  obtain ⟨⟨bs, rb⟩, cb⟩ := he.reads I ry
  exact PySem.SeqAt.compareNe_reads ra rb ca cb (by omega) ⟨.bl _, H, I, rfl, q⟩
end
end L2
set_option Elab.async false
set_option linter.all false
set_option maxRecDepth 100000
namespace L2
open PySem PySem.Spec PyProof.Rows
structure SubF (P : Program) (w : World) (l : Addr) (ob : Obj) (src : Heap → Array Value → Prop) (at' : Addr → Nat → Heap → Prop) : Prop where
  start : ∀ (A : Around) (s : Shared) (vs : Array Value) (Q : Value → Shared → Prop) (E : Value → Shared → Prop), src s.heap vs → Q (.ref s.heap.objs.size) { s with heap := s.heap.push ob } → wpAny (model P w) A (pyIter (.ref l)) Q E s
  first : ∀ it h, h.get? it = some ob → at' it 0 h
  atK : ∀ it i h h', at' it i h → (∀ o, h.get? it = some o → h'.get? it = some o) → at' it i h'
  srcK : ∀ h h' vs, src h vs → (∀ o, h.get? l = some o → h'.get? l = some o) → src h' vs
  obj : ∀ it i h, at' it i h → ∃ o, h.get? it = some o ∧ ∀ v, o.data ≠ .cell v
  item : ∀ (A : Around) (s : Shared) (it : Addr) (i : Nat) (vs : Array Value) (x : Value) (Q : Value → Shared → Prop) (E : Value → Shared → Prop), at' it i s.heap → src s.heap vs → vs[i]? = some x →
    (∀ h', at' it (i + 1) h' → Heap.SameBut it s.heap h' → Q x { s with heap := h' }) → wpAny (model P w) A (Builtin.SmallTypes.nextOf (.ref it)) Q E s
  fin : ∀ (A : Around) (s : Shared) (it : Addr) (i : Nat) (vs : Array Value) (Q : Value → Shared → Prop) (E : Value → Shared → Prop), A.handled = none → at' it i s.heap → src s.heap vs → vs[i]? = none →
    (∀ h' e, Heap.ExtBut it s.heap h' → (∃ o, h'.get? e = some o ∧ o.cls = .type "StopIteration") → E (.ref e) { s with heap := h' }) → wpAny (model P w) A (Builtin.SmallTypes.nextOf (.ref it)) Q E s
theorem subF_list {P : Program} {w : World} (l : Addr) : SubF P w l { cls := .type "list_iterator", data := .fields #[.ref l, .int 0 0] } (fun h vs => h.IsList l vs) (fun it i h => h.IsListIter it l i) where
  start := fun A s vs Q E hl hq => wpAny_pyIter_list hl hq
  first := fun it h e => ⟨_, e, rfl, rfl⟩
  atK := fun it i h h' x k => x.at k
  srcK := fun h h' vs x k => x.at k
  obj := fun it i h x => by
    obtain ⟨o, ho, _, hd⟩ := x
    exact ⟨o, ho, fun v z => by rw [hd] at z; cases z⟩
  item := fun A s it i vs x Q E ha hs hx hq => wpAny_nextOf_list_item ha hs hx hq
  fin := fun A s it i vs Q E hh ha hs hx hq => wpAny_nextOf_list_end hh ha hs hx hq
section
variable {P : Program} {w : World} {A : Around} {E : Value → Shared → Prop} {s : Shared}
theorem nextOf_tuple_item {it t : Addr} {i : Nat} {vs : Array Value} {x : Value} {Q : Value → Shared → Prop} (hi : s.heap.IsTupleIter it t i) (ht : s.heap.IsTuple t vs) (hx : vs[i]? = some x)
    (hq : ∀ h', h'.IsTupleIter it t (i + 1) → Heap.SameBut it s.heap h' → Q x { s with heap := h' }) : wpAny (model P w) A (Builtin.SmallTypes.nextOf (.ref it)) Q E s := by
  obtain ⟨oi, hoi, hci, hdi⟩ := id hi
  obtain ⟨ot, hot, _, nt, hdt⟩ := ht
  unfold Builtin.SmallTypes.nextOf
  refine wpAny_bind (wpAny_callSpecial?_slot (name := Str.ofString "__next__") hi.typeIs F.slot_tuple_iterator_next (wpAny_call_entry F.slot_tuple_iterator_next hi.typeIs F.entry_tuple_iterator_next ?_ (F.args_tuple_iterator_next_1 _)))
  show wpAny (model P w) _ (field (.ref it) 0 >>= _) _ _ s
  refine wpAny_bind (wpAny_field hoi hdi (x := .ref t) rfl ?_)
  show wpAny (model P w) _ (if (Value.ref t == Value.none) = true then _ else _) _ _ s
  rw [if_neg (by exact Bool.false_ne_true)]
  show wpAny (model P w) _ (field (.ref it) 1 >>= _) _ _ s
  refine wpAny_bind (wpAny_field hoi hdi (x := .int i 0) rfl ?_)
  show wpAny (model P w) _ (seqItems? (.ref t) >>= _) _ _ s
  refine wpAny_bind (wpAny_seqItems hot hdt ?_)
  simp only [Int.toNat_natCast, hx]
  refine wpAny_bind (wpAny_setField hoi hdi (by simp) (wpAny_pure ⟨x, rfl, wpAny_pure (hq _ ?_ (Heap.SameBut.update ..))⟩))
  exact ⟨_, Heap.get?_update_self _ hoi (Obj.isFreed_of_fields (Obj.data_mapFields hdi _)), (Obj.cls_mapFields ..).trans hci, by rw [Obj.data_mapFields hdi]; simp [rawInt]⟩
theorem nextOf_tuple_end {it t : Addr} {i : Nat} {vs : Array Value} {Q : Value → Shared → Prop} (hh : A.handled = none) (hi : s.heap.IsTupleIter it t i) (ht : s.heap.IsTuple t vs) (hx : vs[i]? = none)
    (hE : ∀ h' e, Heap.ExtBut it s.heap h' → (∃ o, h'.get? e = some o ∧ o.cls = .type "StopIteration") → E (.ref e) { s with heap := h' }) : wpAny (model P w) A (Builtin.SmallTypes.nextOf (.ref it)) Q E s := by
  obtain ⟨oi, hoi, hci, hdi⟩ := id hi
  obtain ⟨ot, hot, _, nt, hdt⟩ := ht
  unfold Builtin.SmallTypes.nextOf
  refine wpAny_bind (wpAny_callSpecial?_slot (name := Str.ofString "__next__") hi.typeIs F.slot_tuple_iterator_next (wpAny_call_entry F.slot_tuple_iterator_next hi.typeIs F.entry_tuple_iterator_next ?_ (F.args_tuple_iterator_next_1 _)))
  show wpAny (model P w) _ (field (.ref it) 0 >>= _) _ _ s
  refine wpAny_bind (wpAny_field hoi hdi (x := .ref t) rfl ?_)
  show wpAny (model P w) _ (if (Value.ref t == Value.none) = true then _ else _) _ _ s
  rw [if_neg (by exact Bool.false_ne_true)]
  show wpAny (model P w) _ (field (.ref it) 1 >>= _) _ _ s
  refine wpAny_bind (wpAny_field hoi hdi (x := .int i 0) rfl ?_)
  show wpAny (model P w) _ (seqItems? (.ref t) >>= _) _ _ s
  refine wpAny_bind (wpAny_seqItems hot hdt ?_)
  simp only [Int.toNat_natCast, hx]
  refine wpAny_bind (wpAny_rule (wpAny_bind (wpAny_setField hoi hdi (by simp) ?_)))
  show wpAny (model P w) _ (newExc (.type "StopIteration") [] >>= _) _ _ _
  refine wpAny_bind ?_
  simp only [newExc, newTuple]
  refine wpAny_bind (wpAny_newObj_type ?_ (by size_fits))
  refine wpAny_bind (m := firstArgMember _ _) (wpAny_of_eq (a := Value.none) (by first | rfl | (simp only [firstArgMember]; rfl)) ?_)
  refine wpAny_newObj_type ?_ (by size_fits)
  simp only [raiseNew]
  refine wpAny_bind (wpAny_handled ?_)
  first | rw [show A.in1.handled = none from hh] | rw [hh]
  refine wpAny_bind (wpAny_pure (wpAny_throw ?_))
  exact hE _ _ (((Heap.SameBut.update ..).extBut.push _).push _) ⟨_, Heap.get?_push_size _ rfl, rfl⟩
end
theorem subF_tup {P : Program} {w : World} (l : Addr) : SubF P w l { cls := .type "tuple_iterator", data := .fields #[.ref l, .int 0 0] } (fun h vs => h.IsTuple l vs) (fun it i h => h.IsTupleIter it l i) where
  start := fun A s vs Q E hl hq => wpAny_pyIter_tuple hl hq
  first := fun it h e => ⟨_, e, rfl, rfl⟩
  atK := fun it i h h' x k => let ⟨o, ho, r⟩ := x; ⟨o, k o ho, r⟩
  srcK := fun h h' vs x k => let ⟨o, ho, r⟩ := x; ⟨o, k o ho, r⟩
  obj := fun it i h x => by
    obtain ⟨o, ho, _, hd⟩ := x
    exact ⟨o, ho, fun v z => by rw [hd] at z; cases z⟩
  item := fun A s it i vs x Q E ha hs hx hq => nextOf_tuple_item ha hs hx hq
  fin := fun A s it i vs Q E hh ha hs hx hq => nextOf_tuple_end hh ha hs hx hq
end L2
set_option Elab.async false
set_option linter.all false
set_option maxRecDepth 100000
namespace L2
open PySem PySem.Spec PyProof.Rows
section
variable {P : Program} {w : World} {A : Around} {E : Value → Shared → Prop} {s : Shared} {l1 l2 : Addr} {ob1 ob2 : Obj} {src1 src2 : Heap → Array Value → Prop} {at1 at2 : Addr → Nat → Heap → Prop}
end
def SqX (K : PySem.W.Frag) : Bool → Hp → Addr → List V → Prop
  | true, H, a, xs => SqL K H a xs
  | false, H, a, xs => SqT K H a xs
def Itz (K : PySem.W.Frag) (c d : Bool) (a b : Addr) : It :=
  ⟨fun i H => ∃ xs ys x y, SqX K c H a xs ∧ SqX K d H b ys ∧ xs[i]? = some x ∧ ys[i]? = some y,
   fun i H v H' => ∃ p x y, H p = none ∧ v = .ref p ∧ H' = upd H p (.tup [x, y]) ∧ (∀ xs, SqX K c H a xs → xs[i]? = some x) ∧ ∀ ys, SqX K d H b ys → ys[i]? = some y,
   fun i H => ∃ xs ys, SqX K c H a xs ∧ SqX K d H b ys ∧ (xs.length ≤ i ∨ ys.length ≤ i)⟩
def zObj (a : Addr) : Bool → Obj
  | true => { cls := .type "list_iterator", data := .fields #[.ref a, .int 0 0] }
  | false => { cls := .type "tuple_iterator", data := .fields #[.ref a, .int 0 0] }
def zSrc (a : Addr) : Bool → Heap → Array Value → Prop
  | true, h, vs => h.IsList a vs
  | false, h, vs => h.IsTuple a vs
def zAt (a : Addr) : Bool → Addr → Nat → Heap → Prop
  | true, it, i, h => h.IsListIter it a i
  | false, it, i, h => h.IsTupleIter it a i
theorem zSub (a : Addr) (c : Bool) (P : Program) (w : World) : SubF P w a (zObj a c) (zSrc a c) (zAt a c) := by
  cases c
  · exact subF_tup a
  · exact subF_list a
theorem zObj_free (a : Addr) (c : Bool) : (zObj a c).isFreed = false := by cases c <;> rfl
theorem zSrc_there (a : Addr) (c : Bool) (h : Heap) (vs : Array Value) (e : zSrc a c h vs) : ∃ o, h.get? a = some o := by
  cases c
  · obtain ⟨o, ho, _⟩ := e; exact ⟨o, ho⟩
  · obtain ⟨o, ho, _⟩ := e; exact ⟨o, ho⟩
theorem Inv.sqX {X : Cx} {pins : List (Addr × Obj)} {σ : St} {H : Hp} {s : Shared} {c : Bool} {a : Addr} {xs : List V} (I : Inv X pins σ H s) (h : SqX X.K c H a xs) : ∃ its : List Value, Vals xs its ∧ zSrc a c s.heap its.toArray := by
  cases c with
  | true =>
    obtain ⟨its, r, pl, _⟩ := I.list h
    exact ⟨its, r, pl.isList⟩
  | false =>
    obtain ⟨its, r, ⟨o, ho, hc, n, hd⟩, _⟩ := I.tuple h
    exact ⟨its, r, ⟨o, ho, hc, n, hd⟩⟩
theorem Inv.sqX_inj {X : Cx} {pins : List (Addr × Obj)} {σ : St} {H : Hp} {s : Shared} {c : Bool} {a : Addr} {xs ys : List V} (I : Inv X pins σ H s) (h : SqX X.K c H a xs) (h' : SqX X.K c H a ys) : xs = ys := by
  cases c with
  | true => exact I.list_inj h h'
  | false => exact I.tuple_inj h h'
end L2
set_option Elab.async false
set_option linter.all false
set_option maxRecDepth 100000
namespace L2
open PySem PySem.Spec PyProof.Rows
section
variable {X : Cx} {pins : List (Addr × Obj)} {σ : St} {H H2 : Hp} {s s2 : Shared} {a : Addr} {o : HO}
end
section
variable {P : Program} {w : World} {A : Around} {E : Value → Shared → Prop} {s : Shared}
end
end L2
set_option Elab.async false
set_option linter.all false
set_option maxRecDepth 100000
namespace L2
open PySem PySem.Spec PyProof.Rows
section
variable {P : Program} {w : World} {A : Around} {E : Value → Shared → Prop} {s : Shared} {R : Result → Shared → Prop}
end
section
variable {X : Cx} {e : Expr} {te : TE} {p1 p2 pos pos2 : Pos}
end
end L2
set_option Elab.async false
set_option linter.all false
set_option maxRecDepth 100000
namespace L2
open PySem PySem.Spec PyProof.Rows
section
variable {X : Cx}
def iZip (K : PySem.W.Frag) (c d : Bool) (ta : TA) : TI := fun σ H R => ta σ H fun vs H1 => ∃ a b, vs = [.ref a, .ref b] ∧ (∃ xs, SqX K c H1 a xs) ∧ (∃ ys, SqX K d H1 b ys) ∧ R (Itz K c d a b) H1
end
end L2
set_option linter.all false
namespace Pb
structure Road where
  a : Int
  b : Int
  t : Int
  u : Int
  deriving DecidableEq
def Joined (m : Int) (rs : List Road) : Prop := ∀ S : Int → Prop, S 0 → (∀ r ∈ rs, (S r.a ↔ S r.b)) → ∀ v, 0 ≤ v → v < m → S v
structure RoadOk (m : Int) (r : Road) : Prop where
  a0 : 0 ≤ r.a
  a1 : r.a < m
  b0 : 0 ≤ r.b
  b1 : r.b < m
  ne : r.a ≠ r.b
  t0 : 2 ≤ r.t
  t1 : r.t ≤ 1000000
  u0 : 2 ≤ r.u
  u1 : r.u ≤ 1000000
structure Good (m : Int) (rs : List Road) : Prop where
  m1 : 1 ≤ m
  m24 : m ≤ 24
  len : (rs.length : Int) = m - 1
  ok : ∀ r ∈ rs, RoadOk m r
  jn : Joined m rs
theorem nodup_le {α : Type} [DecidableEq α] : ∀ {l l' : List α}, l.Nodup → (∀ x ∈ l, x ∈ l') → l.length ≤ l'.length
  | [], _, _, _ => Nat.zero_le _
  | x :: r, l', hn, hs => by
    obtain ⟨h1, h2⟩ := List.nodup_cons.mp hn
    have hx : x ∈ l' := hs x List.mem_cons_self
    have : r.length ≤ (l'.erase x).length := nodup_le h2 fun y hy => (List.mem_erase_of_ne (fun (e : y = x) => h1 (by rw [← e]; exact hy))).mpr (hs y (List.mem_cons_of_mem _ hy))
    rw [List.length_erase_of_mem hx] at this
    have hp : 0 < l'.length := List.length_pos_of_mem hx
    rw [List.length_cons]
    omega
def below (n : Nat) : List Int := (List.range n).map fun (k : Nat) => (k : Int)
theorem mem_below {n : Nat} {v : Int} : v ∈ below n ↔ 0 ≤ v ∧ v < n := by
  unfold below
  rw [List.mem_map]
  constructor
  · rintro ⟨k, hk, rfl⟩
    have := List.mem_range.mp hk
    omega
  · rintro ⟨h0, h1⟩
    exact ⟨v.toNat, List.mem_range.mpr (by omega), by omega⟩
theorem below_length (n : Nat) : (below n).length = n := by simp [below]
theorem nodup_below (n : Nat) : (below n).Nodup := by
  unfold below
  refine List.Pairwise.map _ (fun a b h => ?_) (List.nodup_range (n := n))
  intro e
  exact h (by omega)
theorem nodup_len {m : Int} {l : List Int} (hm : 0 ≤ m) (hn : l.Nodup) (h : ∀ x ∈ l, 0 ≤ x ∧ x < m) : (l.length : Int) ≤ m := by
  have := nodup_le (l' := below m.toNat) hn fun x hx => mem_below.mpr ⟨(h x hx).1, by have := (h x hx).2; omega⟩
  rw [below_length] at this
  omega
theorem full_len {m : Int} {l : List Int} (hm : 0 ≤ m) (h : ∀ v, 0 ≤ v → v < m → v ∈ l) : m ≤ (l.length : Int) := by
  have := nodup_le (l := below m.toNat) (l' := l) (nodup_below _) fun x hx => by
    obtain ⟨h0, h1⟩ := mem_below.mp hx
    exact h x h0 (by omega)
  rw [below_length] at this
  omega
def ends1 (p : Int) (r : Road) : List Int := (if r.a = p then [r.b] else []) ++ (if r.b = p then [r.a] else [])
def ends (rs : List Road) (p : Int) : List Int := rs.flatMap (ends1 p)
theorem mem_ends {rs : List Road} {p e : Int} : e ∈ ends rs p ↔ ∃ r ∈ rs, (r.a = p ∧ r.b = e) ∨ (r.b = p ∧ r.a = e) := by
  unfold ends ends1
  rw [List.mem_flatMap]
  constructor
  · rintro ⟨r, hr, h⟩
    refine ⟨r, hr, ?_⟩
    rcases List.mem_append.mp h with h | h
    · by_cases c : r.a = p
      · rw [if_pos c] at h
        exact .inl ⟨c, (List.mem_singleton.mp h).symm⟩
      · rw [if_neg c] at h; cases h
    · by_cases c : r.b = p
      · rw [if_pos c] at h
        exact .inr ⟨c, (List.mem_singleton.mp h).symm⟩
      · rw [if_neg c] at h; cases h
  · rintro ⟨r, hr, h⟩
    refine ⟨r, hr, List.mem_append.mpr ?_⟩
    rcases h with ⟨h1, h2⟩ | ⟨h1, h2⟩
    · exact .inl (by rw [if_pos h1, h2]; exact List.mem_singleton.mpr rfl)
    · exact .inr (by rw [if_pos h1, h2]; exact List.mem_singleton.mpr rfl)
theorem ends_len (rs : List Road) (p : Int) : (ends rs p).length ≤ 2 * rs.length := by
  unfold ends
  induction rs with
  | nil => simp
  | cons r rs ih =>
    rw [List.flatMap_cons, List.length_append, List.length_cons]
    have : (ends1 p r).length ≤ 2 := by
      unfold ends1
      rw [List.length_append]
      by_cases c : r.a = p <;> by_cases d : r.b = p <;> simp [c, d]
    omega
theorem ends_snoc (rs : List Road) (r : Road) (p : Int) : ends (rs ++ [r]) p = ends rs p ++ ends1 p r := by
  unfold ends
  rw [List.flatMap_append]
  simp
def jstep (c : List Int × List Int) (e : Int) : List Int × List Int := if e ∈ c.1 then c else (c.1 ++ [e], c.2 ++ [e])
structure JInv (m : Int) (rs : List Road) (ks ws : List Int) : Prop where
  nd : ks.Nodup
  zero : 0 ∈ ks
  rng : ∀ k ∈ ks, 0 ≤ k ∧ k < m
  sub : ∀ w ∈ ws, w ∈ ks
  cl : ∀ k ∈ ks, k ∉ ws → ∀ e ∈ ends rs k, e ∈ ks
  wl : ws.length ≤ ks.length
theorem nodup_snoc {l : List Int} {e : Int} (h : l.Nodup) (he : e ∉ l) : (l ++ [e]).Nodup := by
  rw [List.nodup_append]
  refine ⟨h, by simp, fun a ha b hb => ?_⟩
  rw [List.mem_singleton.mp hb]
  exact fun z => he (z ▸ ha)
structure JMid (m : Int) (rs : List Road) (p : Int) (es ks ws ks0 : List Int) (n0 : Nat) : Prop where
  nd : ks.Nodup
  zero : 0 ∈ ks
  rng : ∀ k ∈ ks, 0 ≤ k ∧ k < m
  sub : ∀ w ∈ ws, w ∈ ks
  cl : ∀ k ∈ ks, k ∉ ws → k = p ∨ ∀ e ∈ ends rs k, e ∈ ks
  seen : ∀ e ∈ es, e ∈ ks
  pin : p ∈ ks
  mu : ks.length + n0 = ks0.length + ws.length
  up : ks0.length ≤ ks.length
  wl : ws.length ≤ ks.length
theorem JMid.start {m : Int} {rs : List Road} {ks ws : List Int} {p : Int} (h : JInv m rs ks (ws ++ [p])) : JMid m rs p [] ks ws ks ws.length where
  nd := h.nd
  zero := h.zero
  rng := h.rng
  sub := fun w hw => h.sub w (List.mem_append_left _ hw)
  cl := fun k hk hw => by
    by_cases e : k = p
    · exact .inl e
    · exact .inr (h.cl k hk fun z => by
        rcases List.mem_append.mp z with z | z
        · exact hw z
        · exact e (List.mem_singleton.mp z))
  seen := fun e he => by cases he
  pin := h.sub p (List.mem_append_right _ (List.mem_singleton.mpr rfl))
  mu := rfl
  up := Nat.le_refl _
  wl := by have := h.wl; rw [List.length_append] at this; simp at this; omega
theorem JMid.step {m : Int} {rs : List Road} {p : Int} {es ks ws ks0 : List Int} {n0 : Nat} {e : Int} (h : JMid m rs p es ks ws ks0 n0) (h0 : 0 ≤ e) (h1 : e < m) :
    JMid m rs p (es ++ [e]) (jstep (ks, ws) e).1 (jstep (ks, ws) e).2 ks0 n0 := by
  unfold jstep
  by_cases c : e ∈ ks
  · rw [if_pos c]
    refine ⟨h.nd, h.zero, h.rng, h.sub, h.cl, fun x hx => ?_, h.pin, h.mu, h.up, h.wl⟩
    rcases List.mem_append.mp hx with z | z
    · exact h.seen x z
    · rw [List.mem_singleton.mp z]; exact c
  · rw [if_neg c]
    dsimp only
    refine ⟨nodup_snoc h.nd c, List.mem_append_left _ h.zero, fun k hk => ?_, fun w hw => ?_, fun k hk hw => ?_, fun x hx => ?_, List.mem_append_left _ h.pin, ?_, by have := h.up; simp; omega, by have := h.wl; simp; exact this⟩
    · rcases List.mem_append.mp hk with z | z
      · exact h.rng k z
      · rw [List.mem_singleton.mp z]; exact ⟨h0, h1⟩
    · rcases List.mem_append.mp hw with z | z
      · exact List.mem_append_left _ (h.sub w z)
      · exact List.mem_append_right _ z
    · rcases List.mem_append.mp hk with z | z
      · rcases h.cl k z fun y => hw (List.mem_append_left _ y) with y | y
        · exact .inl y
        · exact .inr fun x hx => List.mem_append_left _ (y x hx)
      · exact absurd (List.mem_append_right _ z) hw
    · rcases List.mem_append.mp hx with z | z
      · exact List.mem_append_left _ (h.seen x z)
      · exact List.mem_append_right _ z
    · have := h.mu
      simp only [List.length_append, List.length_cons, List.length_nil]
      omega
theorem JMid.done {m : Int} {rs : List Road} {p : Int} {ks ws ks0 : List Int} {n0 : Nat} (h : JMid m rs p (ends rs p) ks ws ks0 n0) : JInv m rs ks ws where
  nd := h.nd
  zero := h.zero
  rng := h.rng
  sub := h.sub
  cl := fun k hk hw => by
    rcases h.cl k hk hw with z | z
    · rw [z]; exact h.seen
    · exact z
  wl := h.wl
theorem JInv.start {m : Int} {rs : List Road} (hm : 1 ≤ m) : JInv m rs [0] [0] where
  nd := by simp
  zero := by simp
  rng := fun k hk => by rw [List.mem_singleton.mp hk]; omega
  sub := fun w hw => hw
  cl := fun k hk hw => absurd hk hw
  wl := by simp
theorem JInv.all {m : Int} {rs : List Road} {ks : List Int} (h : JInv m rs ks []) (hm : 1 ≤ m) (j : Joined m rs) : (ks.length : Int) = m := by
  have up := nodup_len (by omega) h.nd h.rng
  have : ∀ v, 0 ≤ v → v < m → v ∈ ks := j (fun v => v ∈ ks) h.zero fun r hr => by
    constructor
    · intro ha
      exact h.cl r.a ha (by simp) r.b (mem_ends.mpr ⟨r, hr, .inl ⟨rfl, rfl⟩⟩)
    · intro hb
      exact h.cl r.b hb (by simp) r.a (mem_ends.mpr ⟨r, hr, .inr ⟨rfl, rfl⟩⟩)
  have := full_len (by omega) this
  omega
theorem ends_rng {m : Int} {rs : List Road} (h : ∀ r ∈ rs, RoadOk m r) {p e : Int} (he : e ∈ ends rs p) : 0 ≤ e ∧ e < m := by
  obtain ⟨r, hr, z⟩ := mem_ends.mp he
  have k := h r hr
  rcases z with ⟨_, rfl⟩ | ⟨_, rfl⟩
  · exact ⟨k.b0, k.b1⟩
  · exact ⟨k.a0, k.a1⟩
structure Row where
  k : Int
  un : Int
  t : Int
  u : Int
  sw : Int
  sp : Int
structure RowOk (r : Row) : Prop where
  u0 : 0 ≤ r.un
  u1 : r.un < r.k
  t0 : 2 ≤ r.t
  t1 : r.t ≤ 1000000
  v0 : 2 ≤ r.u
  v1 : r.u ≤ 1000000
  s0 : 0 ≤ r.sp
  s1 : r.sp < r.k
structure Rows (n : Nat) (rows : List Row) : Prop where
  len : rows.length = n
  ok : ∀ (i : Nat) (r : Row), rows[i]? = some r → r.k = (i : Int) + 1 ∧ RowOk r
structure Labels (n : Nat) (ls : List Int) : Prop where
  len : ls.length = n
  nd : ls.Nodup
  all : ∀ v : Int, 0 ≤ v → v < n → v ∈ ls
  rng : ∀ v ∈ ls, 0 ≤ v ∧ v < n
theorem mem_insert {α : Type} {l : List α} {k : Nat} {x y : α} : y ∈ l.take k ++ x :: l.drop k ↔ y = x ∨ y ∈ l := by
  rw [List.mem_append, List.mem_cons]
  constructor
  · rintro (h | h | h)
    · exact .inr (List.mem_of_mem_take h)
    · exact .inl h
    · exact .inr (List.mem_of_mem_drop h)
  · rintro (h | h)
    · exact .inr (.inl h)
    · rw [← List.take_append_drop k l] at h
      rcases List.mem_append.mp h with z | z
      · exact .inl z
      · exact .inr (.inr z)
def roadOf (ls : List Int) (r : Row) : Road := if r.sw = 1 then ⟨ls.getD r.un.toNat 0, ls.getD r.k.toNat 0, r.t, r.u⟩ else ⟨ls.getD r.k.toNat 0, ls.getD r.un.toNat 0, r.t, r.u⟩
structure Put (ls : List Int) (rows : List Row) (rs : List Road) : Prop where
  len : rs.length = rows.length
  of : ∀ r ∈ rs, ∃ w ∈ rows, r = roadOf ls w
  to : ∀ w ∈ rows, roadOf ls w ∈ rs
theorem Put.nil (ls : List Int) : Put ls [] [] := ⟨rfl, fun r h => (by cases h), fun r h => (by cases h)⟩
theorem Put.step {ls : List Int} {rows : List Row} {rs : List Road} (h : Put ls rows rs) (w : Row) (k : Nat) : Put ls (rows ++ [w]) (rs.take k ++ roadOf ls w :: rs.drop k) where
  len := by
    rw [List.length_append, List.length_cons, List.length_take, List.length_drop, List.length_append, h.len]
    simp
    omega
  of := fun r hr => by
    rcases mem_insert.mp hr with z | z
    · exact ⟨w, by simp, z⟩
    · obtain ⟨w', hw, e⟩ := h.of r z
      exact ⟨w', List.mem_append_left _ hw, e⟩
  to := fun w' hw => by
    rw [mem_insert]
    rcases List.mem_append.mp hw with z | z
    · exact .inr (h.to w' z)
    · exact .inl (by rw [List.mem_singleton.mp z])
theorem getD_of {ls : List Int} {n : Nat} (h : Labels n ls) {i : Nat} (hi : i < n) : ls[i]? = some (ls.getD i 0) := by
  have : i < ls.length := by rw [h.len]; exact hi
  simp [List.getD, List.getElem?_eq_getElem this]
theorem getD_mem {ls : List Int} {n : Nat} (h : Labels n ls) {i : Nat} (hi : i < n) : ls.getD i 0 ∈ ls := List.mem_of_getElem? (getD_of h hi)
theorem getD_inj {ls : List Int} {n : Nat} (h : Labels n ls) {i j : Nat} (hi : i < n) (hj : j < n) (e : ls.getD i 0 = ls.getD j 0) : i = j := by
  have h1 : i < ls.length := by rw [h.len]; exact hi
  have h2 : j < ls.length := by rw [h.len]; exact hj
  have e1 := getD_of h hi
  have e2 := getD_of h hj
  rw [e] at e1
  have e3 : ls[i]'h1 = ls[j]'h2 := by
    rw [List.getElem?_eq_getElem h1] at e1
    rw [List.getElem?_eq_getElem h2] at e2
    exact Option.some.inj (e1.trans e2.symm)
  have nd := List.pairwise_iff_getElem.mp h.nd
  rcases Nat.lt_trichotomy i j with z | z | z
  · exact absurd e3 (nd i j h1 h2 z)
  · exact z
  · exact absurd e3.symm (nd j i h2 h1 z)
theorem good_of {n : Nat} {ls : List Int} {rows : List Row} {rs : List Road} (h1 : 1 ≤ n) (h24 : n ≤ 24) (L : Labels n ls) (W : Rows (n - 1) rows) (P : Put ls rows rs) : Good n rs where
  m1 := by omega
  m24 := by omega
  len := by rw [P.len, W.len]; omega
  ok := fun r hr => by
    obtain ⟨w, hw, rfl⟩ := P.of r hr
    obtain ⟨i, hi⟩ := List.getElem?_of_mem hw
    obtain ⟨ek, ok⟩ := W.ok i w hi
    have hil : i < rows.length := (List.getElem?_eq_some_iff.mp hi).1
    rw [W.len] at hil
    have hk : w.k.toNat < n := by omega
    have hu : w.un.toNat < n := by have := ok.u0; have := ok.u1; omega
    have r1 := L.rng _ (getD_mem L hk)
    have r2 := L.rng _ (getD_mem L hu)
    have ne : ls.getD w.k.toNat 0 ≠ ls.getD w.un.toNat 0 := fun e => by
      have := getD_inj L hk hu e
      have := ok.u0; have := ok.u1
      omega
    unfold roadOf
    by_cases c : w.sw = 1
    · rw [if_pos c]
      exact ⟨r2.1, r2.2, r1.1, r1.2, ne.symm, ok.t0, ok.t1, ok.v0, ok.v1⟩
    · rw [if_neg c]
      exact ⟨r1.1, r1.2, r2.1, r2.2, ne, ok.t0, ok.t1, ok.v0, ok.v1⟩
  jn := by
    intro S s0 hS
    -- the label of each place is reached just where that of the place 0 of the labels is
    have key : ∀ i : Nat, i < n → (S (ls.getD i 0) ↔ S (ls.getD 0 0)) := by
      intro i
      induction i using Nat.strongRecOn with
      | ind i ih =>
        intro hi
        by_cases z : i = 0
        · rw [z]
        · have hil : i - 1 < rows.length := by rw [W.len]; omega
          obtain ⟨ek, ok⟩ := W.ok (i - 1) rows[i - 1] (List.getElem?_eq_getElem hil)
          have hm := P.to rows[i - 1] (List.getElem_mem hil)
          have hr := hS _ hm
          have hk : (rows[i - 1]).k.toNat = i := by omega
          have hu : (rows[i - 1]).un.toNat < i := by have := ok.u0; have := ok.u1; omega
          have hh := ih _ hu (by omega)
          unfold roadOf at hr
          rw [hk] at hr
          by_cases c : (rows[i - 1]).sw = 1
          · rw [if_pos c] at hr
            exact hr.symm.trans hh
          · rw [if_neg c] at hr
            exact hr.trans hh
    have at_ : ∀ v, 0 ≤ v → v < (n : Int) → ∃ i, i < n ∧ ls.getD i 0 = v := fun v h0 h1 => by
      obtain ⟨i, hi⟩ := List.getElem?_of_mem (L.all v h0 h1)
      have hil : i < n := by have := (List.getElem?_eq_some_iff.mp hi).1; rw [L.len] at this; exact this
      refine ⟨i, hil, ?_⟩
      have := getD_of L hil
      rw [hi] at this
      exact (Option.some.inj this).symm
    intro v h0 hv
    obtain ⟨i, hi, rfl⟩ := at_ v h0 hv
    obtain ⟨j, hj, ej⟩ := at_ 0 (by omega) (by omega)
    refine (key i hi).mpr ((key j hj).mp ?_)
    rw [ej]
    exact s0
end Pb
set_option linter.all false
namespace Pb
def Adj (rs : List Road) (a b : Int) : Prop := ∃ x ∈ rs, (x.a = a ∧ x.b = b) ∨ (x.b = a ∧ x.a = b)
theorem Adj.symm {rs : List Road} {a b : Int} (h : Adj rs a b) : Adj rs b a := by
  obtain ⟨x, hx, h⟩ := h
  rcases h with ⟨h1, h2⟩ | ⟨h1, h2⟩
  · exact ⟨x, hx, .inr ⟨h2, h1⟩⟩
  · exact ⟨x, hx, .inl ⟨h2, h1⟩⟩
theorem adj_ends {rs : List Road} {a b : Int} : b ∈ ends rs a ↔ Adj rs a b := mem_ends
theorem Good.adj {m : Int} {rs : List Road} (g : Good m rs) {a b : Int} (h : Adj rs a b) : (0 ≤ a ∧ a < m) ∧ (0 ≤ b ∧ b < m) ∧ a ≠ b := by
  obtain ⟨x, hx, h⟩ := h
  have k := g.ok x hx
  rcases h with ⟨h1, h2⟩ | ⟨h1, h2⟩
  · subst h1 h2; exact ⟨⟨k.a0, k.a1⟩, ⟨k.b0, k.b1⟩, k.ne⟩
  · subst h1 h2; exact ⟨⟨k.b0, k.b1⟩, ⟨k.a0, k.a1⟩, k.ne.symm⟩
theorem Good.from {m : Int} {rs : List Road} (g : Good m rs) {r : Int} (h0 : 0 ≤ r) (h1 : r < m) (S : Int → Prop) (sr : S r) (hS : ∀ x ∈ rs, (S x.a ↔ S x.b)) : ∀ v, 0 ≤ v → v < m → S v := by
  have key : ∀ v, 0 ≤ v → v < m → (S v ↔ S 0) := g.jn (fun v => S v ↔ S 0) Iff.rfl fun x hx => by
    have := hS x hx
    exact ⟨fun h => this.symm.trans h, fun h => this.trans h⟩
  intro v a b
  exact (key v a b).mpr ((key r h0 h1).mp sr)
inductive Dist (rs : List Road) (r : Int) : Nat → Int → Prop
  | zero : Dist rs r 0 r
  | step {n : Nat} {u v : Int} : Dist rs r n u → Adj rs u v → Dist rs r (n + 1) v
theorem least {P : Nat → Prop} : ∀ n, P n → ∃ k, P k ∧ ∀ j, j < k → ¬ P j := by
  intro n
  induction n using Nat.strongRecOn with
  | ind n ih =>
    intro h
    by_cases z : ∃ j, j < n ∧ P j
    · obtain ⟨j, hj, hp⟩ := z
      exact ih j hj hp
    · exact ⟨n, h, fun j hj hp => z ⟨j, hj, hp⟩⟩
structure Rooted (m : Int) (rs : List Road) (r : Int) (par : Int → Int) (dep : Int → Nat) : Prop where
  root : dep r = 0
  up : ∀ v, 0 ≤ v → v < m → v ≠ r → (0 ≤ par v ∧ par v < m) ∧ Adj rs v (par v) ∧ dep (par v) + 1 = dep v
  road : ∀ x ∈ rs, (x.a ≠ r ∧ par x.a = x.b) ∨ (x.b ≠ r ∧ par x.b = x.a)
  one : (rs.map fun x => if x.a ≠ r ∧ par x.a = x.b then x.a else x.b).Nodup
theorem full_of {n : Nat} {l : List Nat} (hn : l.Nodup) (hl : l.length = n) (hb : ∀ x ∈ l, x < n) : ∀ i, i < n → i ∈ l := by
  intro i hi
  by_cases z : i ∈ l
  · exact z
  · have := nodup_le (l := i :: l) (l' := List.range n) (List.nodup_cons.mpr ⟨z, hn⟩) fun x hx => by
      rcases List.mem_cons.mp hx with rfl | hx
      · exact List.mem_range.mpr hi
      · exact List.mem_range.mpr (hb x hx)
    rw [List.length_cons, List.length_range] at this
    omega
theorem rooted {m : Int} {rs : List Road} (g : Good m rs) {r : Int} (h0 : 0 ≤ r) (h1 : r < m) : ∃ par dep, Rooted m rs r par dep := by
  classical
  have reach : ∀ v, 0 ≤ v → v < m → ∃ n, Dist rs r n v := g.from h0 h1 (fun v => ∃ n, Dist rs r n v) ⟨0, .zero⟩ fun x hx => by
    constructor
    · rintro ⟨n, d⟩; exact ⟨n + 1, d.step ⟨x, hx, .inl ⟨rfl, rfl⟩⟩⟩
    · rintro ⟨n, d⟩; exact ⟨n + 1, d.step ⟨x, hx, .inr ⟨rfl, rfl⟩⟩⟩
  have hd : ∀ v, ∃ k, (0 ≤ v ∧ v < m) → Dist rs r k v ∧ ∀ j, j < k → ¬ Dist rs r j v := fun v => by
    by_cases z : 0 ≤ v ∧ v < m
    · obtain ⟨n, d⟩ := reach v z.1 z.2
      obtain ⟨k, h⟩ := least (P := fun k => Dist rs r k v) n d
      exact ⟨k, fun _ => h⟩
    · exact ⟨0, fun h => absurd h z⟩
  let dep : Int → Nat := fun v => (hd v).choose
  have dspec : ∀ v, 0 ≤ v → v < m → Dist rs r (dep v) v ∧ ∀ j, j < dep v → ¬ Dist rs r j v := fun v a b => (hd v).choose_spec ⟨a, b⟩
  have dr : dep r = 0 := by
    have := (dspec r h0 h1).2 0
    by_cases z : dep r = 0
    · exact z
    · exact absurd Dist.zero (this (by omega))
  have hp : ∀ v, ∃ u, (0 ≤ v ∧ v < m ∧ v ≠ r) → Adj rs v u ∧ dep u + 1 = dep v := fun v => by
    by_cases z : 0 ≤ v ∧ v < m ∧ v ≠ r
    · obtain ⟨a, b, c⟩ := z
      obtain ⟨d, dm⟩ := dspec v a b
      generalize hk : dep v = k at d dm
      cases d with
      | zero => exact absurd rfl c
      | @step n u _ d e =>
        refine ⟨u, fun _ => ⟨e.symm, ?_⟩⟩
        obtain ⟨⟨u0, u1⟩, _⟩ := g.adj e
        have l1 : dep u ≤ n := by
          by_cases w : dep u ≤ n
          · exact w
          · exact absurd d ((dspec u u0 u1).2 n (by omega))
        have l2 : ¬ dep u < n := fun w => dm (dep u + 1) (by omega) ((dspec u u0 u1).1.step e)
        omega
    · exact ⟨0, fun h => absurd h z⟩
  let par : Int → Int := fun v => (hp v).choose
  have pspec : ∀ v, 0 ≤ v → v < m → v ≠ r → Adj rs v (par v) ∧ dep (par v) + 1 = dep v := fun v a b c => (hp v).choose_spec ⟨a, b, c⟩
  -- the road of a place: its index
  have hi : ∀ v, ∃ i : Nat, (0 ≤ v ∧ v < m ∧ v ≠ r) → ∃ x, rs[i]? = some x ∧ ((x.a = v ∧ x.b = par v) ∨ (x.b = v ∧ x.a = par v)) := fun v => by
    by_cases z : 0 ≤ v ∧ v < m ∧ v ≠ r
    · obtain ⟨x, hx, h⟩ := (pspec v z.1 z.2.1 z.2.2).1
      obtain ⟨i, e⟩ := List.getElem?_of_mem hx
      exact ⟨i, fun _ => ⟨x, e, h⟩⟩
    · exact ⟨0, fun h => absurd h z⟩
  let ix : Int → Nat := fun v => (hi v).choose
  have ispec : ∀ v, 0 ≤ v → v < m → v ≠ r → ∃ x, rs[ix v]? = some x ∧ ((x.a = v ∧ x.b = par v) ∨ (x.b = v ∧ x.a = par v)) := fun v a b c => (hi v).choose_spec ⟨a, b, c⟩
  have inj : ∀ v u, 0 ≤ v → v < m → v ≠ r → 0 ≤ u → u < m → u ≠ r → ix v = ix u → v = u := by
    intro v u a b c a' b' c' e
    obtain ⟨x, hx, h⟩ := ispec v a b c
    obtain ⟨y, hy, h'⟩ := ispec u a' b' c'
    rw [e, hy] at hx
    cases hx
    have d1 := (pspec v a b c).2
    have d2 := (pspec u a' b' c').2
    rcases h with ⟨p, q⟩ | ⟨p, q⟩ <;> rcases h' with ⟨p', q'⟩ | ⟨p', q'⟩
    · exact p.symm.trans p'
    · exfalso
      have e1 : v = par u := p.symm.trans q'
      have e2 : u = par v := p'.symm.trans q
      rw [← e1] at d2
      rw [← e2] at d1
      omega
    · exfalso
      have e1 : v = par u := p.symm.trans q'
      have e2 : u = par v := p'.symm.trans q
      rw [← e1] at d2
      rw [← e2] at d1
      omega
    · exact p.symm.trans p'
  let vs : List Int := (below m.toNat).filter fun v => decide (v ≠ r)
  have mv : ∀ v, v ∈ vs ↔ (0 ≤ v ∧ v < m ∧ v ≠ r) := fun v => by
    rw [List.mem_filter, mem_below, decide_eq_true_eq]
    constructor
    · rintro ⟨⟨a, b⟩, c⟩; exact ⟨a, by omega, c⟩
    · rintro ⟨a, b, c⟩; exact ⟨⟨a, by omega⟩, c⟩
  have nv : vs.Nodup := (nodup_below _).filter _
  have lv : vs.length = rs.length := by
    have e1 : (r :: vs).length ≤ (below m.toNat).length := nodup_le (List.nodup_cons.mpr ⟨fun h => ((mv r).mp h).2.2 rfl, nv⟩) fun x hx => by
      rcases List.mem_cons.mp hx with rfl | hx
      · exact mem_below.mpr ⟨h0, by omega⟩
      · have := (mv x).mp hx
        exact mem_below.mpr ⟨this.1, by omega⟩
    have e2 : (below m.toNat).length ≤ (r :: vs).length := nodup_le (nodup_below _) fun x hx => by
      have := mem_below.mp hx
      by_cases z : x = r
      · rw [z]; exact List.mem_cons_self
      · exact List.mem_cons_of_mem _ ((mv x).mpr ⟨this.1, by omega, z⟩)
    rw [below_length, List.length_cons] at e1 e2
    have := g.len
    have := g.m1
    omega
  have il : (vs.map ix).Nodup := by
    have : ∀ (l : List Int), l.Nodup → (∀ v ∈ l, 0 ≤ v ∧ v < m ∧ v ≠ r) → (l.map ix).Nodup := by
      intro l
      induction l with
      | nil => intro _ _; simp
      | cons v l ih =>
        intro hn hm
        obtain ⟨n1, n2⟩ := List.nodup_cons.mp hn
        rw [List.map_cons]
        refine List.nodup_cons.mpr ⟨fun z => ?_, ih n2 fun u hu => hm u (List.mem_cons_of_mem _ hu)⟩
        obtain ⟨u, hu, e⟩ := List.mem_map.mp z
        obtain ⟨a, b, c⟩ := hm v List.mem_cons_self
        obtain ⟨a', b', c'⟩ := hm u (List.mem_cons_of_mem _ hu)
        exact n1 (inj u v a' b' c' a b c e ▸ hu)
    exact this vs nv fun v hv => (mv v).mp hv
  have ib : ∀ i ∈ vs.map ix, i < rs.length := fun i hi' => by
    obtain ⟨v, hv, rfl⟩ := List.mem_map.mp hi'
    obtain ⟨a, b, c⟩ := (mv v).mp hv
    obtain ⟨x, hx, _⟩ := ispec v a b c
    exact (List.getElem?_eq_some_iff.mp hx).1
  have all := full_of il (by rw [List.length_map, lv]) ib
  have back : ∀ i x, rs[i]? = some x → ∃ v, (0 ≤ v ∧ v < m ∧ v ≠ r) ∧ ix v = i ∧ ((x.a = v ∧ x.b = par v) ∨ (x.b = v ∧ x.a = par v)) := fun i x e => by
    obtain ⟨v, hv, rfl⟩ := List.mem_map.mp (all i (List.getElem?_eq_some_iff.mp e).1)
    obtain ⟨a, b, c⟩ := (mv v).mp hv
    obtain ⟨y, hy, h⟩ := ispec v a b c
    rw [e] at hy
    cases hy
    exact ⟨v, ⟨a, b, c⟩, rfl, h⟩
  have noback : ∀ v, 0 ≤ v → v < m → v ≠ r → par v ≠ r → par (par v) ≠ v := fun v a b c c' z => by
    have d1 := pspec v a b c
    obtain ⟨_, ⟨a', b'⟩, _⟩ := g.adj d1.1
    have d2 := pspec (par v) a' b' c'
    rw [z] at d2
    omega
  have kid : ∀ i x, rs[i]? = some x → ∃ v, (0 ≤ v ∧ v < m ∧ v ≠ r) ∧ ix v = i ∧ (if x.a ≠ r ∧ par x.a = x.b then x.a else x.b) = v := fun i x e => by
    obtain ⟨v, ⟨a, b, c⟩, hv, h⟩ := back i x e
    refine ⟨v, ⟨a, b, c⟩, hv, ?_⟩
    rcases h with ⟨p, q⟩ | ⟨p, q⟩
    · rw [if_pos ⟨by rw [p]; exact c, by rw [p]; exact q.symm⟩]
      exact p
    · rw [if_neg]
      · exact p
      · rintro ⟨z1, z2⟩
        rw [q] at z1 z2
        exact noback v a b c z1 (z2.trans p)
  refine ⟨par, dep, dr, fun v a b c => ?_, fun x hx => ?_, ?_⟩
  · obtain ⟨p, q⟩ := pspec v a b c
    obtain ⟨_, w, _⟩ := g.adj p
    exact ⟨w, p, q⟩
  · obtain ⟨i, e⟩ := List.getElem?_of_mem hx
    obtain ⟨v, ⟨a, b, c⟩, _, h⟩ := back i x e
    rcases h with ⟨p, q⟩ | ⟨p, q⟩
    · exact .inl ⟨by rw [p]; exact c, by rw [p]; exact q.symm⟩
    · exact .inr ⟨by rw [p]; exact c, by rw [p]; exact q.symm⟩
  · refine List.pairwise_iff_getElem.mpr fun i j hi' hj' lt => ?_
    rw [List.length_map] at hi' hj'
    rw [List.getElem_map, List.getElem_map]
    intro z
    obtain ⟨v, _, e1, k1⟩ := kid i rs[i] (List.getElem?_eq_getElem hi')
    obtain ⟨u, _, e2, k2⟩ := kid j rs[j] (List.getElem?_eq_getElem hj')
    rw [k1, k2] at z
    rw [z] at e1
    omega
theorem ends_nodup {m : Int} {rs : List Road} (g : Good m rs) {p : Int} (h0 : 0 ≤ p) (h1 : p < m) : (ends rs p).Nodup := by
  obtain ⟨par, dep, R⟩ := rooted g h0 h1
  -- seen from p itself, each road at p is that of its other end
  have one := R.one
  have ok := g.ok
  have road := R.road
  clear R g
  induction rs with
  | nil => simp [ends]
  | cons x l ih =>
    have ox := ok x List.mem_cons_self
    have ol : ∀ y ∈ l, RoadOk m y := fun y hy => ok y (List.mem_cons_of_mem _ hy)
    rw [List.map_cons] at one
    obtain ⟨n1, n2⟩ := List.nodup_cons.mp one
    have il := ih n2 ol fun y hy => road y (List.mem_cons_of_mem _ hy)
    have e : ends (x :: l) p = ends1 p x ++ ends l p := by unfold ends; rw [List.flatMap_cons]
    rw [e]
    -- the kid of a road at p is its other end
    have kid : ∀ y, RoadOk m y → ((y.a ≠ p ∧ par y.a = y.b) ∨ (y.b ≠ p ∧ par y.b = y.a)) → (y.a = p → (if y.a ≠ p ∧ par y.a = y.b then y.a else y.b) = y.b) ∧ (y.b = p → (if y.a ≠ p ∧ par y.a = y.b then y.a else y.b) = y.a) := fun y oy hy => by
      constructor
      · intro z
        rw [if_neg (fun w => w.1 z)]
      · intro z
        rcases hy with hy | hy
        · rw [if_pos hy]
        · exact absurd z hy.1
    have kx := kid x ox (road x List.mem_cons_self)
    have inl : ∀ e ∈ ends l p, e ∈ l.map fun y => if y.a ≠ p ∧ par y.a = y.b then y.a else y.b := fun e he => by
      obtain ⟨y, hy, h⟩ := mem_ends.mp he
      have ky := kid y (ol y hy) (road y (List.mem_cons_of_mem _ hy))
      refine List.mem_map.mpr ⟨y, hy, ?_⟩
      rcases h with ⟨p1, q1⟩ | ⟨p1, q1⟩
      · rw [ky.1 p1]; exact q1
      · rw [ky.2 p1]; exact q1
    unfold ends1
    by_cases c : x.a = p
    · have d : ¬ x.b = p := fun z => ox.ne (c.trans z.symm)
      rw [if_pos c, if_neg d, List.append_nil]
      refine List.nodup_cons.mpr ⟨fun z => n1 ?_, il⟩
      rw [kx.1 c]
      exact inl _ z
    · rw [if_neg c, List.nil_append]
      by_cases d : x.b = p
      · rw [if_pos d]
        refine List.nodup_cons.mpr ⟨fun z => n1 ?_, il⟩
        rw [kx.2 d]
        exact inl _ z
      · rw [if_neg d]
        exact il
def nbrs (m : Int) (rs : List Road) (p : Int) : List Int := (below m.toNat).filter fun q => decide (q ∈ ends rs p)
theorem sorted_eq : ∀ {l l' : List Int}, l.Perm l' → l.Pairwise (· ≤ ·) → l'.Pairwise (· ≤ ·) → l = l'
  | [], l', p, _, _ => (List.Perm.nil_eq p)
  | a :: l, l', p, h, h' => by
    cases l' with
    | nil => exact absurd p.symm.nil_eq (by simp)
    | cons b r =>
      obtain ⟨h1, h2⟩ := List.pairwise_cons.mp h
      obtain ⟨h1', h2'⟩ := List.pairwise_cons.mp h'
      have e : a = b := by
        have ma : a ∈ b :: r := p.subset List.mem_cons_self
        have mb : b ∈ a :: l := p.symm.subset List.mem_cons_self
        rcases List.mem_cons.mp ma with z | z
        · exact z
        · rcases List.mem_cons.mp mb with w | w
          · exact w.symm
          · have := h1 b w
            have := h1' a z
            omega
      subst e
      rw [sorted_eq (List.Perm.cons_inv p) h2 h2']
theorem below_sorted (n : Nat) : (below n).Pairwise (· ≤ ·) := by
  unfold below
  refine List.Pairwise.map _ (fun a b (h : a < b) => ?_) List.pairwise_lt_range
  omega
theorem nbrs_sorted (m : Int) (rs : List Road) (p : Int) : (nbrs m rs p).Pairwise (· ≤ ·) := (below_sorted _).filter _
theorem nbrs_nodup (m : Int) (rs : List Road) (p : Int) : (nbrs m rs p).Nodup := (nodup_below _).filter _
theorem mem_nbrs {m : Int} {rs : List Road} (g : Good m rs) {p q : Int} : q ∈ nbrs m rs p ↔ Adj rs p q := by
  unfold nbrs
  rw [List.mem_filter, decide_eq_true_eq, adj_ends, mem_below]
  constructor
  · exact fun h => h.2
  · intro h
    obtain ⟨_, ⟨a, b⟩, _⟩ := g.adj h
    exact ⟨⟨a, by omega⟩, h⟩
theorem perm_of_nodup : ∀ {l l' : List Int}, l.Nodup → l'.Nodup → (∀ x, x ∈ l ↔ x ∈ l') → l.Perm l'
  | [], l', _, _, h => by
    cases l' with
    | nil => exact .nil
    | cons b r => exact absurd ((h b).mpr List.mem_cons_self) (by simp)
  | a :: l, l', n, n', h => by
    obtain ⟨n1, n2⟩ := List.nodup_cons.mp n
    have ma : a ∈ l' := (h a).mp List.mem_cons_self
    refine List.Perm.trans (List.Perm.cons a ?_) (List.perm_cons_erase ma).symm
    refine perm_of_nodup n2 (n'.erase a) fun x => ?_
    constructor
    · intro hx
      have ne : x ≠ a := fun z => n1 (z ▸ hx)
      exact (List.mem_erase_of_ne ne).mpr ((h x).mp (List.mem_cons_of_mem _ hx))
    · intro hx
      have : x ≠ a := fun z => by
        subst z
        exact (List.Nodup.not_mem_erase n') hx
      rcases List.mem_cons.mp ((h x).mpr (List.mem_of_mem_erase hx)) with z | z
      · exact absurd z this
      · exact z
theorem nbrs_eq {m : Int} {rs : List Road} (g : Good m rs) {p : Int} (h0 : 0 ≤ p) (h1 : p < m) {zs : List Int} (hp : zs.Perm (ends rs p)) (hs : zs.Pairwise (· ≤ ·)) : zs = nbrs m rs p := by
  refine sorted_eq (hp.trans (perm_of_nodup (ends_nodup g h0 h1) (nbrs_nodup m rs p) fun x => ?_)) hs (nbrs_sorted m rs p)
  rw [mem_nbrs g, adj_ends]
def toll1 (a b : Int) (x : Road) : Option Int := if x.a = a ∧ x.b = b then some x.t else if x.a = b ∧ x.b = a then some x.u else none
def tollOf (rs : List Road) (a b : Int) : Option Int := rs.findSome? (toll1 a b)
theorem toll_adj {rs : List Road} {a b : Int} : (tollOf rs a b).isSome = true ↔ Adj rs a b := by
  unfold tollOf
  rw [List.findSome?_isSome_iff]
  constructor
  · rintro ⟨x, hx, h⟩
    unfold toll1 at h
    by_cases c : x.a = a ∧ x.b = b
    · exact ⟨x, hx, .inl c⟩
    · rw [if_neg c] at h
      by_cases d : x.a = b ∧ x.b = a
      · exact ⟨x, hx, .inr ⟨d.2, d.1⟩⟩
      · rw [if_neg d] at h; cases h
  · rintro ⟨x, hx, h⟩
    refine ⟨x, hx, ?_⟩
    unfold toll1
    rcases h with h | h
    · rw [if_pos h]; rfl
    · by_cases c : x.a = a ∧ x.b = b
      · rw [if_pos c]; rfl
      · rw [if_neg c, if_pos ⟨h.2, h.1⟩]; rfl
def Joins (x : Road) (a b : Int) : Prop := (x.a = a ∧ x.b = b) ∨ (x.b = a ∧ x.a = b)
theorem pair_once {m : Int} {rs : List Road} (g : Good m rs) {a b : Int} {i j : Nat} {x y : Road} (hi : rs[i]? = some x) (hj : rs[j]? = some y) (jx : Joins x a b) (jy : Joins y a b) : i = j := by
  obtain ⟨⟨a0, a1⟩, _, _⟩ := g.adj (show Adj rs a b from ⟨x, List.mem_of_getElem? hi, jx⟩)
  obtain ⟨par, dep, R⟩ := rooted g a0 a1
  have kid : ∀ z ∈ rs, Joins z a b → (if z.a ≠ a ∧ par z.a = z.b then z.a else z.b) = b := fun z hz jz => by
    rcases jz with ⟨p, q⟩ | ⟨p, q⟩
    · rw [if_neg (fun w => w.1 p)]
      exact q
    · rcases R.road z hz with w | w
      · rw [if_pos w]
        exact q
      · exact absurd p w.1
  have li := (List.getElem?_eq_some_iff.mp hi)
  have lj := (List.getElem?_eq_some_iff.mp hj)
  obtain ⟨li, ei⟩ := li
  obtain ⟨lj, ej⟩ := lj
  have nd := List.pairwise_iff_getElem.mp R.one
  have vi : (rs.map fun z => if z.a ≠ a ∧ par z.a = z.b then z.a else z.b)[i]'(by rw [List.length_map]; exact li) = b := by
    rw [List.getElem_map]
    exact kid _ (List.getElem_mem li) (ei ▸ jx)
  have vj : (rs.map fun z => if z.a ≠ a ∧ par z.a = z.b then z.a else z.b)[j]'(by rw [List.length_map]; exact lj) = b := by
    rw [List.getElem_map]
    exact kid _ (List.getElem_mem lj) (ej ▸ jy)
  rcases Nat.lt_trichotomy i j with z | z | z
  · exact absurd (vi.trans vj.symm) (nd i j _ _ z)
  · exact z
  · exact absurd (vj.trans vi.symm) (nd j i _ _ z)
theorem toll1_none {a b : Int} {x : Road} (h : ¬ Joins x a b) : toll1 a b x = none := by
  unfold toll1
  rw [if_neg (fun z => h (.inl z)), if_neg (fun z => h (.inr ⟨z.2, z.1⟩))]
theorem tollOf_at {m : Int} {rs : List Road} (g : Good m rs) {a b : Int} {i : Nat} {x : Road} (hi : rs[i]? = some x) (j : Joins x a b) : tollOf rs a b = toll1 a b x := by
  have lt := (List.getElem?_eq_some_iff.mp hi)
  obtain ⟨lt, ex⟩ := lt
  have e : rs = rs.take i ++ x :: rs.drop (i + 1) := by rw [← ex, List.getElem_cons_drop, List.take_append_drop]
  have pre : tollOf (rs.take i) a b = none := by
    unfold tollOf
    rw [List.findSome?_eq_none_iff]
    intro y hy
    refine toll1_none fun jy => ?_
    obtain ⟨k, hk⟩ := List.getElem?_of_mem hy
    have lk := (List.getElem?_eq_some_iff.mp hk).1
    rw [List.length_take] at lk
    rw [List.getElem?_take_of_lt (by omega)] at hk
    have := pair_once g hk hi jy j
    omega
  have hx : (toll1 a b x).isSome = true := by
    unfold toll1
    rcases j with z | z
    · rw [if_pos z]; rfl
    · by_cases c : x.a = a ∧ x.b = b
      · rw [if_pos c]; rfl
      · rw [if_neg c, if_pos ⟨z.2, z.1⟩]; rfl
  obtain ⟨v, hv⟩ := Option.isSome_iff_exists.mp hx
  have : tollOf (rs.take i ++ x :: rs.drop (i + 1)) a b = toll1 a b x := by
    unfold tollOf at pre ⊢
    rw [List.findSome?_append, pre, List.findSome?_cons, hv]
    rfl
  rw [← e] at this
  exact this
section
variable {m : Int} {row : List Int} {rs rs' : List Road}
end
end Pb
set_option Elab.async false
set_option linter.all false
set_option maxRecDepth 100000
namespace L2
open PySem PySem.Spec PyProof.Rows
def Quiet (CX : CXT) : Prop := ∀ outer H s e s', ¬ CX outer H s E0 e s'
theorem passQ {CX : CXT} (q : Quiet CX) {X : Cx} : Passes CX X E0 := fun _ _ _ _ _ _ _ h => (q _ _ _ _ _ h).elim
structure Df (K : PySem.W.Frag) (mg : Str → Option Value) (x : Str) (st : Stmt) (ps : List Str) (f : Addr) (fd : FuncData) : Prop where
  F : Fun K x x st f fd
  m : mg x = some (.ref f)
  b : Binds K fd ps []
section
variable {P : Program} {w : World} {K : PySem.W.Frag} {mg : Str → Option Value} {base : Heap} {CX : CXT}
theorem Fun.okC {x qual : Str} {st : Stmt} {f : Addr} {fd : FuncData} {N ps : List Str} {k : Nat} {sp : Sp} (F : Fun K x qual st f fd) (S : FnScope N ps (defScope st)) (len : ∀ vs H Q E, sp vs H Q E → vs.length = ps.length)
    (hbody : ∀ (cdv : Value) (A : Around) (outer : List Env) (s : Shared) (H : Hp) (vs : List V) (Q : VK) (E : XK), Room k (A.deeper (envOfC qual (defScope st) s.heap.objs.size f cdv)) → sp vs H Q E →
      ∃ t, PSs (cxOf CX P w K mg base N qual (defScope st) f cdv A outer s H E).nox (defBody st) t ∧ t { nx := fun _ H' => Q .non H', rt := Q } (start N vs) H) : FnOk P w K mg base CX (k + 1) f fd ps sp := by
  obtain ⟨oc, od, kV, doc, pm, an, cdv, ct, osl, rfl, lk, hcd⟩ := F.ex
  refine fn_of lk hcd S len fun A outer s H vs Q E hr hsp => ?_
  obtain ⟨t, h, q⟩ := hbody cdv A outer s H vs Q E hr hsp
  exact ⟨t, h.nox, q⟩
end
structure NmL (sc : Scope) (x : Str) : Prop where
  l : sc.names.lookup x = some .local
  d : (x == ("__debug__" : Str)) = false
  c : (x == ("__classdict__" : Str)) = false
structure NmG (sc : Scope) (x : Str) : Prop where
  g : sc.names.lookup x = some .globalImplicit
  d : (x == ("__debug__" : Str)) = false
  n : x ≠ "__name__"
theorem us1 {us : List Value} (h : us.length = 1) : ∃ a0, us = [a0] := List.length_eq_one_iff.mp h
theorem us2 {us : List Value} (h : us.length = 2) : ∃ a0 a1, us = [a0, a1] := by
  cases us with
  | nil => cases h
  | cons a0 t =>
    obtain ⟨a1, e⟩ := us1 (Nat.succ.inj h)
    subst e
    exact ⟨a0, a1, rfl⟩
theorem us3 {us : List Value} (h : us.length = 3) : ∃ a0 a1 a2, us = [a0, a1, a2] := by
  cases us with
  | nil => cases h
  | cons a0 t =>
    obtain ⟨a1, a2, e⟩ := us2 (Nat.succ.inj h)
    subst e
    exact ⟨a0, a1, a2, rfl⟩
theorem us4 {us : List Value} (h : us.length = 4) : ∃ a0 a1 a2 a3, us = [a0, a1, a2, a3] := by
  cases us with
  | nil => cases h
  | cons a0 t =>
    obtain ⟨a1, a2, a3, e⟩ := us3 (Nat.succ.inj h)
    subst e
    exact ⟨a0, a1, a2, a3, rfl⟩
theorem us5 {us : List Value} (h : us.length = 5) : ∃ a0 a1 a2 a3 a4, us = [a0, a1, a2, a3, a4] := by
  cases us with
  | nil => cases h
  | cons a0 t =>
    obtain ⟨a1, a2, a3, a4, e⟩ := us4 (Nat.succ.inj h)
    subst e
    exact ⟨a0, a1, a2, a3, a4, rfl⟩
def nmL (sc : Scope) (x : Str) : Bool := decide (sc.names.lookup x = some .local) && !(x == ("__debug__" : Str)) && !(x == ("__classdict__" : Str))
def nmG (sc : Scope) (x : Str) : Bool := decide (sc.names.lookup x = some .globalImplicit) && !(x == ("__debug__" : Str)) && !decide (x = "__name__")
theorem NmL.of {sc : Scope} {x : Str} (h : nmL sc x = true) : NmL sc x := by
  unfold nmL at h
  simp only [Bool.and_eq_true, decide_eq_true_eq, Bool.not_eq_true'] at h
  exact ⟨h.1.1, h.1.2, h.2⟩
theorem NmG.of {sc : Scope} {x : Str} (h : nmG sc x = true) : NmG sc x := by
  unfold nmG at h
  simp only [Bool.and_eq_true, decide_eq_true_eq, Bool.not_eq_true', decide_eq_false_iff_not] at h
  exact ⟨h.1.1, h.1.2, h.2⟩
def scOk (N ps : List Str) (sc : Scope) : Bool := decide (sc.kind = .function) && !sc.isCoroutine && !sc.isGenerator && decide N.Nodup && decide (N.take ps.length = ps) && (ps.all fun x => decide (sc.names.lookup x = some .local ∨ sc.names.lookup x = some .cell)) && (sc.names.all fun y => decide (y.2 ≠ .free))
theorem FnScope.of {N ps : List Str} {sc : Scope} (h : scOk N ps sc = true) : FnScope N ps sc := by
  unfold scOk at h
  simp only [Bool.and_eq_true, decide_eq_true_eq, Bool.not_eq_true', List.all_eq_true] at h
  obtain ⟨⟨⟨⟨⟨⟨h1, h2⟩, h3⟩, h4⟩, h5⟩, h6⟩, h7⟩ := h
  exact ⟨h1, h2, h3, h4, h5, h6, h7⟩
theorem pvl {X : Cx} (i : Nat) {x : Str} {pos : Pos} (n : NmL X.env.scope x) (hN : X.N[i]? = some x := by rfl) : PE X (.Name x pos) (tVar i) := pe_var hN (.inl n.l) n.d n.c
theorem cxOf_K {CX : CXT} {P : Program} {w : World} {K : PySem.W.Frag} {mg : Str → Option Value} {base : Heap} {N : List Str} {qual : Str} {scope : Scope} {f : Addr} {cd : Value} {A : Around} {outer : List Env} {s : Shared} {H : Hp} {E : XK} :
    (cxOf CX P w K mg base N qual scope f cd A outer s H E).K = K := rfl
theorem tNever_eq (D : Ends) (σ : St) (H : Hp) : tNever D σ H = False := rfl
theorem scal_ii (i j : Int) : scal (.int i) (.int j) = true := rfl
theorem scal_bb (i j : Bool) : scal (.bl i) (.bl j) = true := rfl
theorem scal_in (i : Int) : scal (.int i) .non = true := rfl
theorem scal_ni (i : Int) : scal .non (.int i) = true := rfl
theorem scal_nn : scal .non .non = true := rfl
theorem scal_ss (i j : Str) : scal (.str i) (.str j) = true := rfl
theorem ixT {K : PySem.W.Frag} {H : Hp} {p : Addr} {xs : List V} {i : Int} {v : V} {Q : VK} (h : H p = some (.tup xs)) (e : atI xs i = some v) (q : Q v H) : rIxT K (.ref p) (.int i) H Q := ⟨p, xs, i, v, rfl, rfl, SqT.of h, e, q⟩
theorem ixL {K : PySem.W.Frag} {H : Hp} {p : Addr} {xs : List V} {i : Int} {v : V} {Q : VK} (h : H p = some (.lst xs)) (e : atI xs i = some v) (q : Q v H) : rIxL K (.ref p) (.int i) H Q := ⟨p, xs, i, v, rfl, rfl, SqL.of h, e, q⟩
theorem ixS {K : PySem.W.Frag} {H : Hp} {p : Addr} {xs : List V} {i : Int} {v : V} {Q : VK} (h : SqL K H p xs) (e : atI xs i = some v) (q : Q v H) : rIxL K (.ref p) (.int i) H Q := ⟨p, xs, i, v, rfl, rfl, h, e, q⟩
theorem tyL {K : PySem.W.Frag} {H : Hp} {l : Addr} {xs : List V} (h : H l = some (.lst xs)) : tyV K "list" (.ref l) H := .inl ⟨rfl, _, SqL.of h⟩
theorem appR {H : Hp} {l : Addr} {xs : List V} {y : V} {Q : VK} (h : H l = some (.lst xs)) (hz : xs.length < sizeLine) (q : Q .non (upd H l (.lst (xs ++ [y])))) : rAppend (.ref l) [y] H Q := ⟨l, xs, y, rfl, rfl, h, hz, q⟩
theorem insR {H : Hp} {l : Addr} {xs : List V} {i : Int} {y : V} {Q : VK} (h : H l = some (.lst xs)) (h0 : 0 ≤ i) (h1 : i ≤ xs.length) (hz : xs.length < sizeLine) (q : Q .non (upd H l (.lst (xs.take i.toNat ++ y :: xs.drop i.toNat)))) : rInsert (.ref l) [.int i, y] H Q :=
  ⟨l, xs, i, y, rfl, rfl, h, h0, h1, hz, q⟩
theorem popR {H : Hp} {l : Addr} {xs : List V} {y : V} {Q : VK} (h : H l = some (.lst (xs ++ [y]))) (q : Q y (upd H l (.lst xs))) : rPop (.ref l) [] H Q :=
  ⟨l, xs ++ [y], y, rfl, rfl, h, by simp, by rw [List.dropLast_concat]; exact q⟩
theorem small {n : Nat} (h : n ≤ 100000) : n < sizeLine := Nat.lt_of_le_of_lt h (by decide)
theorem smallE {n : Nat} (h : n ≤ 100000) : n ≤ sizeLine := Nat.le_of_lt (small h)
theorem atI_int {α : Type} {xs : List α} {i : Int} {v : α} (h0 : 0 ≤ i) (h : xs[i.toNat]? = some v) : atI xs i = some v := by
  obtain ⟨n, rfl⟩ : ∃ n : Nat, i = n := ⟨i.toNat, by omega⟩
  exact atI_nat (by simpa using h)
theorem pe_globI {X : Cx} {x : Str} {i : Int} {pos : Pos} (hg : Gl X x) (hm : ∃ t, X.mg x = some (.int i t)) (hd : (x == ("__debug__" : Str)) = false := by decide) : PE X (.Name x pos) (tC (.int i)) := by
  obtain ⟨t, e⟩ := hm
  exact pe_glob hg e ⟨t, rfl⟩ hd
def Itx (K : PySem.W.Frag) : Bool → Addr → It
  | true, a => Itl K a
  | false, a => Itt K a
def iAny (K : PySem.W.Frag) (c : Bool) (tl : TE) : TI := fun σ H R => tl σ H fun x H1 => ∃ a, x = .ref a ∧ (∃ xs, SqX K c H1 a xs) ∧ R (Itx K c a) H1
theorem pi_any {X : Cx} {tg l : Expr} {tl : TE} (c : Bool) (hl : PE X l tl) : PI X tg l (iAny X.K c tl) := by
  cases c
  · exact pi_tup hl
  · exact pi_list hl
def CompGo (J : It) (p : Addr) (Q : VK) (g : TG) (tc : TT) (te : TE) (σ0 : St) (H0 : Hp) : Prop :=
  ∃ W : Nat → Nat → List V → St → Hp → Prop, (∃ m, W 0 m [] σ0 H0) ∧ ∀ i m ys σc Hc, W i m ys σc Hc →
    (J.stop i Hc ∧ Q (.ref p) Hc) ∨ (J.go i Hc ∧ ∀ x H', J.yld i Hc x H' → g x σc H' fun σ2 H2 => tc σ2 H2 fun b H3 =>
      if b = true then te σ2 H3 fun y H4 => H4 p = some (.lst ys) ∧ ys.length < sizeLine ∧ ∃ m', m' < m ∧ W (i + 1) m' (ys ++ [y]) σ2 (upd H4 p (.lst (ys ++ [y])))
      else ∃ m', m' < m ∧ W (i + 1) m' ys σ2 H3)
theorem tComp_eq' {own : Nat} {js : List Nat} {wi : TI} {g : TG} {tc : TT} {te : TE} {σ : St} {H : Hp} {Q : VK} : tComp own js wi g tc te σ H Q = wi σ H fun J H1 => ∀ p, H1 p = none → CompGo J p Q g tc te (compStart0 own js σ) (upd H1 p (.lst [])) := rfl
def ForGo (J : It) (D : Ends) (g : TG) (tb : TS) (σ : St) (H : Hp) : Prop := ∃ W : Nat → Nat → St → Hp → Prop, (∃ m, W 0 m σ H) ∧ ∀ i m σ H, W i m σ H →
  (J.stop i H ∧ D.nx σ H) ∨ (J.go i H ∧ ∃ N : St → Hp → Prop, (∀ σ' H', N σ' H' → ∃ m', m' < m ∧ W (i + 1) m' σ' H') ∧ ∀ x H', J.yld i H x H' → g x σ H' fun σ2 H2 => tb { D with nx := N, ct := N, bk := D.nx } σ2 H2)
theorem tFor_eq {wi : TI} {g : TG} {tb : TS} {D : Ends} {σ : St} {H : Hp} : tFor wi g tb D σ H = wi σ H fun J H1 => ForGo J D g tb σ H1 := rfl
theorem comp_any {K : PySem.W.Frag} {c : Bool} {a p : Addr} {xs : List V} {Q : VK} {g : TG} {tc : TT} {te : TE} {σ0 : St} {H0 : Hp} (Pv : Nat → List V → St → Hp → Prop) (h0 : Pv 0 [] σ0 H0) (hl : ∀ i ys σ H, i ≤ xs.length → Pv i ys σ H → SqX K c H a xs)
    (hs : ∀ (i : Nat) (x : V) (ys : List V) (σ : St) (H : Hp) (N : List V → St → Hp → Prop), (∀ ys' σ' H', Pv (i + 1) ys' σ' H' → N ys' σ' H') → xs[i]? = some x → Pv i ys σ H → g x σ H fun σ2 H2 => tc σ2 H2 fun b H3 =>
      if b = true then te σ2 H3 fun y H4 => H4 p = some (.lst ys) ∧ ys.length < sizeLine ∧ N (ys ++ [y]) σ2 (upd H4 p (.lst (ys ++ [y]))) else N ys σ2 H3)
    (hd : ∀ ys σ H, Pv xs.length ys σ H → Q (.ref p) H) : CompGo (Itx K c a) p Q g tc te σ0 H0 := by
  refine ⟨fun i m ys σ H => m = xs.length - i ∧ i ≤ xs.length ∧ Pv i ys σ H, ⟨xs.length, by simp, Nat.zero_le _, h0⟩, ?_⟩
  rintro i m ys σ H ⟨rfl, hi, pv⟩
  have q := hl i ys σ H hi pv
  by_cases hlt : i < xs.length
  · refine .inr ⟨?_, fun x H' y => ?_⟩
    · cases c
      · exact ⟨xs, xs[i], q, by simp [hlt]⟩
      · exact ⟨xs, xs[i], q, by simp [hlt]⟩
    · have e : H' = H ∧ xs[i]? = some x := by
        cases c
        · exact ⟨y.1, y.2 xs q⟩
        · exact ⟨y.1, y.2 xs q⟩
      obtain ⟨rfl, hx⟩ := e
      exact hs i x ys σ _ (fun ys' σ' H' => ∃ m', m' < xs.length - i ∧ (m' = xs.length - (i + 1) ∧ i + 1 ≤ xs.length ∧ Pv (i + 1) ys' σ' H')) (fun ys' σ' H' pv' => ⟨xs.length - (i + 1), by omega, rfl, hlt, pv'⟩) hx pv
  · have e : i = xs.length := by omega
    subst e
    refine .inl ⟨?_, hd ys σ H pv⟩
    cases c
    · exact ⟨xs, q, Nat.le_refl _⟩
    · exact ⟨xs, q, Nat.le_refl _⟩
theorem pb_len : bootBuiltins "len" = some (.builtin "len") := by decide +kernel
theorem pb_isinstance : bootBuiltins "isinstance" = some (.builtin "isinstance") := by decide +kernel
theorem pb_all : bootBuiltins "all" = some (.builtin "all") := by decide +kernel
theorem pb_max : bootBuiltins "max" = some (.builtin "max") := by decide +kernel
theorem pb_sorted : bootBuiltins "sorted" = some (.builtin "sorted") := by decide +kernel
theorem pb_int : bootBuiltins "int" = some (.type "int") := by decide +kernel
theorem pb_list : bootBuiltins "list" = some (.type "list") := by decide +kernel
theorem pb_tuple : bootBuiltins "tuple" = some (.type "tuple") := by decide +kernel
theorem pb_bool : bootBuiltins "bool" = some (.type "bool") := by decide +kernel
section
variable {X : Cx} {a b o e : Expr} {es : List Expr} {ta tb to : TE} {t : TA} {pos apos cpos : Pos} {f name : Str} {T id : String} {r : V → List V → Hp → VK → Prop}
theorem call_tuple_ofK (K : PySem.W.Frag) (h : X.K = K) : CallR X (.type "tuple") (fun xs H Q => ∃ p ys, xs = [.ref p] ∧ ((SqL K H p ys ∧ ∀ l, H l = none → Q (.ref l) (upd H l (.tup ys))) ∨ (SqT K H p ys ∧ Q (.ref p) H))) := by subst h; exact call_tuple_of
end
theorem lookup_mem {x : Str} {k : NameKind} : ∀ {l : List (Str × NameKind)}, l.lookup x = some k → ∃ y, (y, k) ∈ l
  | [], h => by simp at h
  | (n, j) :: r, h => by
    rw [List.lookup_cons] at h
    cases q : x == n with
    | true =>
      rw [q] at h
      cases h
      exact ⟨n, List.mem_cons_self⟩
    | false =>
      rw [q] at h
      obtain ⟨y, hy⟩ := lookup_mem h
      exact ⟨y, List.mem_cons_of_mem _ hy⟩
theorem ct_plain {X : Cx} {Nc : List Str} {scope : Scope} (own : Nat) (hf : ∀ y ∈ scope.names, y.2 ≠ .free) (hc : ∀ y ∈ scope.names, y.2 ≠ .cell) (hk : scope.kind = .function) (hn : ∀ y ∈ scope.names, y.2 = .local → scope.names.lookup y.1 = some .local)
    (hl : Nc.length = own) : CompTxt X Nc own [] scope [] where
  clos := closureFor_none hf
  kind := hk
  nocell := hc
  names := hn
  cells := fun x c h => by cases h
  has := fun x h => by
    have key : ∀ k, (relabel scope X.env).names.lookup x = some k → k ≠ .cell ∧ k ≠ .free := fun k e => by
      obtain ⟨y, hy⟩ := lookup_mem e
      obtain ⟨⟨n, k0⟩, hm, e2⟩ := List.mem_map.mp hy
      have h1 := hf _ hm
      have h2 := hc _ hm
      have e3 : (k0 == NameKind.free) = false := by simpa using h1
      simp only [e3, Bool.false_and, Bool.false_eq_true, if_false] at e2
      cases e2
      exact ⟨h2, h1⟩
    rcases h with h | h
    · exact absurd rfl (key _ h).1
    · exact absurd rfl (key _ h).2
  len := by simpa using hl
  outer := fun i x h => by
    rw [List.getElem?_eq_none (by omega)] at h
    cases h
theorem for_listN {K : PySem.W.Frag} {a : Addr} {xs : List V} {g : TG} {tb : TS} {D : Ends} {σ : St} {H : Hp} (Pv : Nat → St → Hp → Prop) (h0 : Pv 0 σ H) (hl : ∀ i σ H, i ≤ xs.length → Pv i σ H → SqL K H a xs)
    (hs : ∀ (i : Nat) (x : V) (σ : St) (H : Hp) (N : St → Hp → Prop), (∀ σ' H', Pv (i + 1) σ' H' → N σ' H') → xs[i]? = some x → Pv i σ H → g x σ H fun σ2 H2 => tb { D with nx := N, ct := N, bk := D.nx } σ2 H2) (hd : ∀ σ H, Pv xs.length σ H → D.nx σ H) :
    ForGo (Itl K a) D g tb σ H := for_list Pv h0 hl (fun i x σ H hx p => hs i x σ H (Pv (i + 1)) (fun _ _ z => z) hx p) hd
theorem for_tupN {K : PySem.W.Frag} {a : Addr} {xs : List V} {g : TG} {tb : TS} {D : Ends} {σ : St} {H : Hp} (Pv : Nat → St → Hp → Prop) (h0 : Pv 0 σ H) (hl : ∀ i σ H, i ≤ xs.length → Pv i σ H → SqT K H a xs)
    (hs : ∀ (i : Nat) (x : V) (σ : St) (H : Hp) (N : St → Hp → Prop), (∀ σ' H', Pv (i + 1) σ' H' → N σ' H') → xs[i]? = some x → Pv i σ H → g x σ H fun σ2 H2 => tb { D with nx := N, ct := N, bk := D.nx } σ2 H2) (hd : ∀ σ H, Pv xs.length σ H → D.nx σ H) :
    ForGo (Itt K a) D g tb σ H := for_tup Pv h0 hl (fun i x σ H hx p => hs i x σ H (Pv (i + 1)) (fun _ _ z => z) hx p) hd
theorem for_rangeN {lo : Int} {n : Nat} {g : TG} {tb : TS} {D : Ends} {σ : St} {H : Hp} (Pv : Nat → St → Hp → Prop) (h0 : Pv 0 σ H)
    (hs : ∀ (i : Nat) (σ : St) (H : Hp) (N : St → Hp → Prop), (∀ σ' H', Pv (i + 1) σ' H' → N σ' H') → i < n → Pv i σ H → g (.int (lo + i)) σ H fun σ2 H2 => tb { D with nx := N, ct := N, bk := D.nx } σ2 H2) (hd : ∀ σ H, Pv n σ H → D.nx σ H) :
    ForGo (Itr lo n) D g tb σ H := for_range Pv h0 (fun i σ H hi p => hs i σ H (Pv (i + 1)) (fun _ _ z => z) hi p) hd
theorem while_n {c : TT} {tb : TS} {D : Ends} {σ : St} {H : Hp} (W : Nat → St → Hp → Prop) (n0 : Nat) (h0 : W n0 σ H)
    (hs : ∀ (n : Nat) (σ : St) (H : Hp) (N : St → Hp → Prop), (∀ n' σ' H', n' < n → W n' σ' H' → N σ' H') → (∀ σ' H', N σ' H' → ∃ m', m' < n ∧ W m' σ' H') → W n σ H →
      c σ H fun b H1 => if b = true then ∃ N : St → Hp → Prop, (∀ σ' H', N σ' H' → ∃ m', m' < n ∧ W m' σ' H') ∧ tb { D with nx := N, ct := N, bk := D.nx } σ H1 else D.nx σ H1) : tWhile c tb D σ H :=
  ⟨W, ⟨n0, h0⟩, fun n σ H w => hs n σ H (fun σ' H' => ∃ m', m' < n ∧ W m' σ' H') (fun n' _ _ hn w' => ⟨n', hn, w'⟩) (fun _ _ z => z) w⟩
open Pb
def vRoad (r : Road) : List V := [.int r.a, .int r.b, .int r.t, .int r.u]
abbrev RoadsAt (H : Hp) : List Addr → List Road → Prop := Paired fun p r => H p = some (.tup (vRoad r))
theorem RoadsAt.same {H H' : Hp} (e : Same H H') {ps : List Addr} {rs : List Road} (h : RoadsAt H ps rs) : RoadsAt H' ps rs := Paired.imp' (fun p r q => e p _ q) h
theorem RoadsAt.get {H : Hp} : ∀ {ps : List Addr} {rs : List Road} {i : Nat} {x : V}, RoadsAt H ps rs → (ps.map V.ref)[i]? = some x → ∃ p r, x = .ref p ∧ ps[i]? = some p ∧ rs[i]? = some r ∧ H p = some (.tup (vRoad r))
  | _, _, i, x, .nil, e => by simp at e
  | _, _, 0, x, .cons (a := p) (b := r) h hs, e => ⟨p, r, by simpa using e.symm, by simp, by simp, h⟩
  | a :: l1, _, i + 1, x, .cons h hs, e => by
    have e' : (List.map V.ref l1)[i]? = some x := by simpa using e
    obtain ⟨p, r, h1, h2, h3, h4⟩ := RoadsAt.get hs e'
    exact ⟨p, r, h1, by simpa using h2, by simpa using h3, h4⟩
theorem Same.tup {K : PySem.W.Frag} {H H' : Hp} {a : Addr} {xs : List V} (e : Same H H') (h : SqT K H a xs) : SqT K H' a xs := by
  rcases h with (h | ⟨o, h⟩) | h
  · exact .inl (.inl (e _ _ h))
  · exact .inl (.inr ⟨o, e _ _ h⟩)
  · exact .inr h
theorem Same.sqX {K : PySem.W.Frag} {H H' : Hp} {c : Bool} {a : Addr} {xs : List V} (e : Same H H') (h : SqX K c H a xs) : SqX K c H' a xs := by
  cases c
  · exact Same.tup e h
  · exact Same.seq e h
theorem Same.new {H : Hp} {p : Addr} (o : HO) (h : H p = none) : Same H (upd H p o) := fun b u e => by rw [upd_ne (ne_of_none e h)]; exact e
end L2
set_option Elab.async false
set_option linter.all false
set_option maxRecDepth 100000
namespace L2
open PySem PySem.Spec PyProof.Rows
abbrev bmV : List Value := [.type "ValueError", .type "Exception", .type "BaseException", .type "object"]
structure XCls (K : PySem.W.Frag) (C : Addr) : Prop where
  ty : PySem.W.typeIn K (.ref C) = some (.type "type")
  ga : PySem.W.findIn K (.ref C) "__getattribute__" = some (some (.builtin "BaseException.__getattribute__"))
  gt : PySem.W.findIn K (.ref C) "__getattr__" = some none
  cl : PySem.W.findIn K (.ref C) "__class__" = some (some (.builtin "object.__class__"))
  gs : PySem.W.specialIn K (.builtin "object.__class__") "__get__" = some (some (.builtin "getset_descriptor.__get__"))
  tk : PySem.W.takesIn K (.builtin "object.__class__") = some true
  mo : PySem.W.mroIn K C (.type "object") = some true
  mb : PySem.W.mroIn K C (.type "BaseException") = some true
  hd : PySem.W.hasDictIn K C = true
  sf : PySem.W.mroIn K C (.ref C) = some true
theorem exc_found {K : PySem.W.Frag} {C : Addr} {od : Option Obj} {name : Str} {a g : Value} (hc : (PySem.W.clsIn K C).isSome = true) (ha : PySem.W.findIn K (.ref C) name = some (some a)) (hg : PySem.W.specialIn K a "__get__" = some (some g)) (ht : PySem.W.takesIn K a = some true) :
    PySem.W.findObj K C od name = some (.bind g a) := by
  obtain ⟨cd, hc⟩ := Option.isSome_iff_exists.mp hc
  unfold PySem.W.findObj
  rw [hc, Option.bind_some, ha, Option.bind_some]
  simp [hg, ht]
section
variable {prog : Program} {w : World} {A : Around} {E : Value → Shared → Prop} {s : Shared} {K : PySem.W.Frag} {x C : Addr} {ox : Obj} {od : Option Obj}
theorem exc_check {M : Model} {nv : Value} {Q : Unit → Shared → Prop} (X : K.In s.heap) (I : PySem.W.InstAt s.heap x ox C od) (c : XCls K C) (h : Q () s) : wpAny M A (checkBuiltinCall "BaseException.__getattribute__" ⟨[.ref x, nv], []⟩) Q E s := by
  obtain ⟨hh, g, dr, t, os⟩ := s
  have hk : builtinKind "BaseException.__getattribute__" = some .slot := by decide +kernel
  have hs : splitId "BaseException.__getattribute__" = some ("BaseException", "__getattribute__") := by decide +kernel
  have L0 := I.type (M := M)
  have L1 := PySem.W.looks_mroIn (M := M) X c.mb
  have ha := F.args_bexc_ga (.ref x) nv
  simp only [checkBuiltinCall, hk, hs]
  unfold isInstance
  repeat (first | lk | wp_step)
  exact h
theorem exc_class {Q : Option Value → Shared → Prop} (X : K.In s.heap) (I : PySem.W.InstAt s.heap x ox C od) (c : XCls K C) (h : Q (some (.ref C)) { s with toks := s.toks + 1 }) : wpAny (model prog w) A (getAttr? (.ref x) "__class__") Q E s := by
  obtain ⟨hh, g, dr, t, os⟩ := s
  have hc : (PySem.W.clsIn K C).isSome = true := by
    obtain ⟨cd, e, _⟩ := PySem.W.any_some c.hd
    rw [e]
    rfl
  have L0 := I.type (M := model prog w)
  have L1 := PySem.W.looks_findIn (M := model prog w) X c.ga
  have L2 := PySem.W.looks_findIn (M := model prog w) X c.gt
  have L3 := PySem.W.looks_find (M := model prog w) X I (exc_found (od := od) hc c.cl c.gs c.tk)
  have n2 : (Value.builtin "BaseException.__getattribute__" == Value.builtin "object.__getattribute__") = false := by decide +kernel
  have n1 : (onTheHeap (Value.ref C) && Value.builtin "BaseException.__getattribute__" == Value.builtin "object.__getattribute__") = false := by rw [n2]; rfl
  have b1 := F.excAttr_ValueError.ga.bind (.ref x)
  unfold getAttr? getAttrBy? getAttrBy
  refine wpAny_bind (wpAny_mkText (wpAny_bind (wpAny_attempt (wpAny_holding (wpAny_bind (L0.at (wpAny_bind (L1.at ?_))))))))
  dsimp only
  rw [n1]
  simp only [Bool.false_eq_true, if_false]
  unfold getAttrByItsOwn hookBefore callGetattribute boundAndCalled
  simp only [onTheHeap, Bool.and_false, Bool.false_eq_true, if_false, if_true]
  refine wpAny_bind (L2.at (wpAny_bind (wpAny_attempt (wpAny_holding (wpAny_bind (wpAny_of_eq b1 ?_))))))
  refine wpAny_call (codeAny_call_builtin F.excAttr_ValueError.ga.plain F.entry_bexc_ga (exc_check X I c ?_))
  unfold Builtin.«object.__getattribute__»
  repeat lk
  refine wpAny_run (h := none) (PySem.W.class_get (s := ⟨hh, g, dr, t + 1, os⟩) (ox := ox) (od := od) X I c.mo ?_)
  refine wpAny_pure (wpAny_pure ?_)
  exact PySem.W.handed_on rfl (wpAny_pure h)
theorem kitx_exc (c : XCls K C) : PySem.W.KitX K (.ref x) (.ref C) (fun h => PySem.W.InstAt h x ox C od) where
  ty := fun _ _ _ I => I.type
  it := fun _ _ X _ => by
    obtain ⟨cd, e, _⟩ := PySem.W.any_some c.hd
    unfold PySem.W.clsIn at e
    split at e
    · rename_i ho
      intro A' Q' E' s' k q
      unfold isType loadHead
      exact wpAny_bind (wpAny_loadPart (k _ _ (X _ _ ho)) (wpAny_pure q))
    · cases e
  ne := fun h tp dd its n sl X htp => by
    obtain ⟨cd, e, _⟩ := PySem.W.any_some c.hd
    refine Bool.eq_false_iff.mpr fun q => ?_
    have z : C = tp := Value.ref.inj (beq_iff_eq.mp q)
    subst z
    unfold PySem.W.clsIn at e
    split at e
    · rename_i ho
      cases (X _ _ ho).symm.trans htp
    · cases e
  ca := fun X I k => exc_class X I c k
end
end L2
set_option Elab.async false
set_option linter.all false
set_option maxRecDepth 100000
namespace L2
open PySem PySem.Spec PyProof.Rows
def ErrO (h : Heap) (ea : Addr) (cls : Value) (od : Option Addr) (head : Value) : Prop := ∃ oe vs, h.get? ea = some oe ∧ oe.cls = cls ∧ oe.dict = od ∧ oe.data = .fields vs ∧ vs[1]? = some head
def TbO (h : Heap) (T : Addr) (fl : Value) : Prop := ∃ oT ts, h.get? T = some oT ∧ oT.data = .fields ts ∧ ts[3]? = some fl
structure Err (h : Heap) (ea T : Addr) (cls : Value) (od : Option Addr) (fl : Value) : Prop where
  e : ErrO h ea cls od (.ref T)
  t : TbO h T fl
  ne : T ≠ ea
structure Kept (fs xs : List Addr) (h h' : Heap) : Prop where
  keep : ∀ b o, h.get? b = some o → b ∉ fs → b ∉ xs → h'.get? b = some o
  slot : ∀ b o, h.get? b = some o → b ∈ fs → b ∉ xs → ∃ sl, h'.get? b = some { o with slots := sl }
  there : ∀ b o, h.get? b = some o → ∃ o', h'.get? b = some o'
theorem Kept.mono {fs xs ys : List Addr} {h h' : Heap} (k : Kept fs xs h h') (s : ∀ b ∈ xs, b ∈ ys) : Kept fs ys h h' := ⟨fun b o e f x => k.keep b o e f fun z => x (s b z), fun b o e f x => k.slot b o e f fun z => x (s b z), k.there⟩
theorem Kept.trans {fs xs : List Addr} {h h1 h2 : Heap} (a : Kept fs xs h h1) (b : Kept fs xs h1 h2) : Kept fs xs h h2 where
  keep := fun c o e f x => b.keep c o (a.keep c o e f x) f x
  slot := fun c o e f x => by
    obtain ⟨s1, e1⟩ := a.slot c o e f x
    obtain ⟨s2, e2⟩ := b.slot c _ e1 f x
    exact ⟨s2, e2⟩
  there := fun c o e => by
    obtain ⟨o1, e1⟩ := a.there c o e
    exact b.there c o1 e1
theorem Kept.of_all {fs xs : List Addr} {h h' : Heap} (k : ∀ b o, h.get? b = some o → h'.get? b = some o) : Kept fs xs h h' := ⟨fun b o e _ _ => k b o e, fun b o e _ _ => ⟨o.slots, k b o e⟩, fun b o e => ⟨o, k b o e⟩⟩
theorem kept_set {fs xs : List Addr} {h : Heap} {a : Addr} {oa : Obj} {vs : Array Value} {i : Nat} {v : Value} (ha : h.get? a = some oa) (hd : oa.data = .fields vs) (hx : a ∈ xs) : Kept fs xs h (h.update a (Obj.mapFields (·.setIfInBounds i v))) := by
  have oth : ∀ b o, h.get? b = some o → b ∉ xs → (h.update a (Obj.mapFields (·.setIfInBounds i v))).get? b = some o := fun b o e x => by
    rw [Heap.get?_update_other _ _ (fun (z : a = b) => x (z ▸ hx))]
    exact e
  refine ⟨fun b o e _ x => oth b o e x, fun b o e _ x => ⟨o.slots, oth b o e x⟩, fun b o e => ?_⟩
  by_cases z : b = a
  · subst z
    exact ⟨_, Heap.get?_update_self _ ha (Obj.isFreed_of_fields (Obj.data_mapFields hd _))⟩
  · rw [Heap.get?_update_other _ _ (Ne.symm z)]
    exact ⟨o, e⟩
theorem errO_set {h : Heap} {ea : Addr} {cls hd v : Value} {od : Option Addr} (e : ErrO h ea cls od hd) : ErrO (h.update ea (Obj.mapFields (·.setIfInBounds 1 v))) ea cls od v := by
  obtain ⟨oe, vs, h1, h2, h3, h4, h5⟩ := e
  have sz : 1 < vs.size := (Array.getElem?_eq_some_iff.mp h5).1
  refine ⟨_, _, Heap.get?_update_self _ h1 (Obj.isFreed_of_fields (Obj.data_mapFields h4 _)), ?_, ?_, Obj.data_mapFields h4 _, by simp [sz]⟩
  · rw [← h2]; exact Obj.cls_mapFields _ _
  · rw [← h3]; obtain ⟨c, d, dt, sl⟩ := oe; cases dt <;> rfl
theorem errO_other {h : Heap} {ea a : Addr} {cls hd : Value} {od : Option Addr} {f : Obj → Obj} (e : ErrO h ea cls od hd) (ne : a ≠ ea) : ErrO (h.update a f) ea cls od hd := by
  obtain ⟨oe, vs, h1, h2⟩ := e
  exact ⟨oe, vs, by rw [Heap.get?_update_other _ _ ne]; exact h1, h2⟩
theorem errO_keep {h h' : Heap} {ea : Addr} {cls hd : Value} {od : Option Addr} (e : ErrO h ea cls od hd) (k : ∀ o, h.get? ea = some o → h'.get? ea = some o) : ErrO h' ea cls od hd := by
  obtain ⟨oe, vs, h1, h2⟩ := e
  exact ⟨oe, vs, k _ h1, h2⟩
theorem errO_nofr {h base : Heap} {ea : Addr} {cls hd : Value} {od : Option Addr} {l : List Env} (e : ErrO h ea cls od hd) (f : h.FunFrames base l) : ea ∉ frs l := fun z => by
  obtain ⟨oe, vs, h1, _, _, h4, _⟩ := e
  obtain ⟨_, o, ho, hn⟩ := f.mem z
  rw [h1] at ho
  cases ho
  exact hn vs h4
theorem tbO_nofr {h base : Heap} {T : Addr} {fl : Value} {l : List Env} (e : TbO h T fl) (f : h.FunFrames base l) : T ∉ frs l := fun z => by
  obtain ⟨oe, vs, h1, h4, _⟩ := e
  obtain ⟨_, o, ho, hn⟩ := f.mem z
  rw [h1] at ho
  cases ho
  exact hn vs h4
section
variable {M : Model} {A : Around} {E : Value → Shared → Prop} {s : Shared} {Q : Unit → Shared → Prop} {fs : List Addr} {ea T L : Addr} {cls fl hd : Value} {od : Option Addr} {base : Heap} {env : Env} {outer : List Env}
theorem st_land (r : Err s.heap ea T cls od fl) (h : ∀ h', Err h' ea T cls od .none → Kept fs [T] s.heap h' → Q () { s with heap := h' }) : wpAny M A (setFlight (.ref ea) none) Q E s := by
  obtain ⟨⟨oe, vs, h1, h2, h3, h4, h5⟩, ⟨oT, ts, t1, t2, t3⟩, ne⟩ := r
  have sz : 3 < ts.size := (Array.getElem?_eq_some_iff.mp t3).1
  unfold setFlight
  refine wpAny_bind (wpAny_field h1 h4 h5 ?_)
  rw [if_pos (by simp : (Value.ref T != Value.none) = true)]
  refine wpAny_setField t1 t2 sz (h _ ⟨errO_other ⟨oe, vs, h1, h2, h3, h4, h5⟩ ne, ⟨_, _, Heap.get?_update_self _ t1 (Obj.isFreed_of_fields (Obj.data_mapFields t2 _)), Obj.data_mapFields t2 _, by simp [sz]⟩, ne⟩ (kept_set t1 t2 (by simp)))
theorem st_entry {head : Value} {hadNext : Bool} (hfr : A.frames = some (env :: outer)) (hl : s.heap.FunFrames base (env :: outer)) (hf : env.frame = some L) (r : ErrO s.heap ea cls od hd)
    (h : ∀ h' T', Err h' ea T' cls od (rawInt L) → Kept (frs (env :: outer)) [ea] s.heap h' → s.heap.get? T' = none → Q () { s with heap := h' }) :
    wpAny M A (do let a ← frameOf env; let pl ← entryPlaceOf L hadNext; let b ← EntryCells.newEntry head a .none (rawInt L) .none pl; setField (.ref ea) 1 b) Q E s := by
  have nf := errO_nofr r hl
  refine wpAny_bind (wpAny_frameOf_fun hfr hl hf fun g1 so => wpAny_bind (wpAny_entryPlaceOf fun pl hpl => ?_))
  unfold EntryCells.newEntry newFields
  refine wpAny_bind (wpAny_newObj_type ?_ (hpl.sizeOk5 _ _ _ _ _))
  have r1 : ErrO g1 ea cls od hd := errO_keep r fun o e => (so.2.1 ea nf).trans e
  generalize ht : ({ cls := .type "traceback", dict := none, data := .fields ([head, .ref L, .none, rawInt L, .none] ++ (if pl.isEmpty then List.replicate 6 Value.none else pl)).toArray } : Obj) = tb
  have r2 : ErrO (g1.push tb) ea cls od hd := errO_keep r1 fun o e => Heap.get?_push_of_some _ e
  obtain ⟨oe, vs, e1, e2, e3, e4, e5⟩ := id r2
  have lt : ea < g1.objs.size := by
    obtain ⟨_, _, e, _⟩ := r1
    exact Heap.lt_size e
  have hT : (g1.push tb).get? g1.objs.size = some tb := Heap.get?_push_size g1 (by rw [← ht]; rfl)
  refine wpAny_setField e1 e4 (Array.getElem?_eq_some_iff.mp e5).1 (h _ g1.objs.size ⟨errO_set r2, ⟨tb, ([head, .ref L, .none, rawInt L, .none] ++ (if pl.isEmpty then List.replicate 6 Value.none else pl)).toArray, ?_, by rw [← ht], by simp⟩, Nat.ne_of_gt lt⟩ ?_ ?_)
  · rw [Heap.get?_update_other _ _ (Nat.ne_of_lt lt)]
    exact hT
  · have k1 : Kept (frs (env :: outer)) [ea] s.heap g1 := ⟨fun b o e f _ => (so.2.1 b f).trans e, fun b o e _ _ => so.2.2 b o e, fun b o e => by
      obtain ⟨sl, z⟩ := so.2.2 b o e
      exact ⟨_, z⟩⟩
    exact k1.trans ((Kept.of_all fun b o e => Heap.get?_push_of_some _ e).trans (kept_set e1 e4 (by simp)))
  · exact Heap.get?_none_of_le (by rw [so.1]; exact Nat.le_refl _)
theorem st_first (hfr : A.frames = some (env :: outer)) (hl : s.heap.FunFrames base (env :: outer)) (hf : env.frame = some L) (r : ErrO s.heap ea cls od .none)
    (h : ∀ h' T', Err h' ea T' cls od (rawInt L) → Kept (frs (env :: outer)) [ea] s.heap h' → s.heap.get? T' = none → Q () { s with heap := h' }) : wpAny M A (noteFrame (.ref ea) env) Q E s := by
  obtain ⟨oe, vs, e1, e2, e3, e4, e5⟩ := id r
  unfold noteFrame
  simp only [hf]
  refine wpAny_bind (wpAny_field e1 e4 e5 ?_)
  rw [if_neg (by decide)]
  exact st_entry hfr hl hf r h
theorem st_next (hfr : A.frames = some (env :: outer)) (hl : s.heap.FunFrames base (env :: outer)) (hf : env.frame = some L) (r : Err s.heap ea T cls od .none)
    (h : ∀ h' T', Err h' ea T' cls od (rawInt L) → Kept (frs (env :: outer)) [ea, T] s.heap h' → s.heap.get? T' = none → Q () { s with heap := h' }) : wpAny M A (noteFrame (.ref ea) env) Q E s := by
  have nT := tbO_nofr r.t hl
  obtain ⟨⟨oe, vs, e1, e2, e3, e4, e5⟩, ⟨oT, ts, t1, t2, t3⟩, ne⟩ := id r
  unfold noteFrame
  simp only [hf]
  refine wpAny_bind (wpAny_field e1 e4 e5 ?_)
  rw [if_pos (by simp : (Value.ref T != Value.none) = true)]
  refine wpAny_bind (wpAny_field t1 t2 t3 ?_)
  rw [if_neg (by simp [rawInt])]
  have k1 : Kept (frs (env :: outer)) [ea, T] s.heap (s.heap.update T (Obj.mapFields (·.setIfInBounds 3 Value.none))) := kept_set t1 t2 (by simp)
  refine wpAny_bind (wpAny_setField t1 t2 (Array.getElem?_eq_some_iff.mp t3).1 ?_)
  refine st_entry hfr (hl.of_keeps fun b o e nf => ⟨o, ?_, rfl⟩) hf (errO_other r.e ne) fun h' T' r' k2 n => h h' T' r' (k1.trans (k2.mono (by simp))) ?_
  · by_cases z : b = T
    · subst z
      rw [t1] at e
      cases e
      exact absurd t2 (nf ts)
    · rw [Heap.get?_update_other _ _ (Ne.symm z)]
      exact e
  · cases q : s.heap.get? T' with
    | none => rfl
    | some o =>
      obtain ⟨o', z⟩ := k1.there T' o q
      rw [z] at n
      cases n
theorem st_leave1 (hfr : A.frames = some (env :: outer)) (hl : s.heap.FunFrames base (env :: outer)) (hf : env.frame = some L) (r : ErrO s.heap ea cls od .none)
    (h : ∀ h' T', Err h' ea T' cls od .none → Kept (frs (env :: outer)) [ea] s.heap h' → s.heap.get? T' = none → Q () { s with heap := h' }) : wpAny M A (leaving env (.ref ea)) Q E s := by
  unfold leaving
  refine wpAny_bind (st_first hfr hl hf r fun h1 T1 r1 k1 n1 => st_land (fs := frs (env :: outer)) (s := { s with heap := h1 }) r1 fun h2 r2 k2 => h h2 T1 r2 ⟨fun b o e f x => k2.keep b o (k1.keep b o e f x) f ?_, fun b o e f x => ?_, fun b o e => ?_⟩ n1)
  · simp only [List.mem_singleton]
    rintro rfl
    rw [n1] at e
    cases e
  · obtain ⟨s1, e1⟩ := k1.slot b o e f x
    obtain ⟨s2, e2⟩ := k2.slot b _ e1 f (by
      simp only [List.mem_singleton]
      rintro rfl
      rw [n1] at e
      cases e)
    exact ⟨s2, e2⟩
  · obtain ⟨o1, e1⟩ := k1.there b o e
    exact k2.there b o1 e1
theorem st_leave (hfr : A.frames = some (env :: outer)) (hl : s.heap.FunFrames base (env :: outer)) (hf : env.frame = some L) (r : Err s.heap ea T cls od .none)
    (h : ∀ h' T', Err h' ea T' cls od .none → Kept (frs (env :: outer)) [ea, T] s.heap h' → s.heap.get? T' = none → Q () { s with heap := h' }) : wpAny M A (leaving env (.ref ea)) Q E s := by
  unfold leaving
  refine wpAny_bind (st_next hfr hl hf r fun h1 T1 r1 k1 n1 => st_land (fs := frs (env :: outer)) (s := { s with heap := h1 }) r1 fun h2 r2 k2 => h h2 T1 r2 ⟨fun b o e f x => k2.keep b o (k1.keep b o e f x) f ?_, fun b o e f x => ?_, fun b o e => ?_⟩ n1)
  · simp only [List.mem_singleton]
    rintro rfl
    rw [n1] at e
    cases e
  · obtain ⟨s1, e1⟩ := k1.slot b o e f x
    obtain ⟨s2, e2⟩ := k2.slot b _ e1 f (by
      simp only [List.mem_singleton]
      rintro rfl
      rw [n1] at e
      cases e)
    exact ⟨s2, e2⟩
  · obtain ⟨o1, e1⟩ := k1.there b o e
    exact k2.there b o1 e1
end
def CXe (P : Program) (w : World) : CXT := fun outer H s E e s' => ∃ (ea T : Addr) (cls : Value) (od : Option Addr) (H' : Hp), e = .ref ea ∧ s'.os = s.os ∧ AllBare s'.gens ∧ Un (frs outer) [] H H' s.heap s'.heap ∧ HOk P w H' s'.heap ∧
  H' ea = none ∧ H' T = none ∧ s.heap.get? ea = none ∧ s.heap.get? T = none ∧ Err s'.heap ea T cls od .none ∧ E cls od H'
theorem quietE {P : Program} {w : World} : Quiet (CXe P w) := fun outer H s e s' h => by
  obtain ⟨_, _, _, _, _, _, _, _, _, _, _, _, _, _, _, z⟩ := h
  exact z
theorem kept_hok {P : Program} {w : World} {H : Hp} {h h' : Heap} {fs xs : List Addr} (x : HOk P w H h) (k : Kept fs xs h h') (f : ∀ b ∈ fs, H b = none) (u : ∀ b ∈ xs, H b = none) : HOk P w H h' := fun a o e => by
  refine (x a o e).stay (fun b ob hb q => k.keep b ob q ?_ ?_) (fun _ q => q) fun _ _ q => q
  · intro z
    rcases hb with rfl | hb
    · rw [f _ z] at e; cases e
    · rw [f _ z] at hb; cases hb
  · intro z
    rcases hb with rfl | hb
    · rw [u _ z] at e; cases e
    · rw [u _ z] at hb; cases hb
theorem untr {P : Program} {w : World} {H : Hp} {h : Heap} {b : Addr} (x : HOk P w H h) (n : h.get? b = none) : H b = none := by
  cases q : H b with
  | none => rfl
  | some o =>
    have lt := x.lt q
    cases z : h.get? b with
    | some o' => rw [z] at n; cases n
    | none =>
      exfalso
      have := (x b o q)
      cases o with
      | lst xs => obtain ⟨_, _, _, _, e⟩ := this; rw [n] at e; cases e
      | tup xs => obtain ⟨_, _, _, ob, e, _⟩ := this; rw [n] at e; cases e
      | dK kvs => obtain ⟨_, _, _, _, ob, _, _, e, _⟩ := this; rw [n] at e; cases e
      | dT kvs => obtain ⟨_, _, _, _, ob, _, _, e, _⟩ := this; rw [n] at e; cases e
      | set S m => obtain ⟨ob, _, _, _, e, _⟩ := this; rw [n] at e; cases e
      | ins C dx fs => obtain ⟨_, _, _, e, _⟩ := this; rw [n] at e; cases e
      | own y => obtain ⟨_, e⟩ := this; rw [n] at e; cases e
      | xd fs => obtain ⟨_, ⟨_, _, _, e, _⟩, _⟩ := this; rw [n] at e; cases e
      | rng lo hi => obtain ⟨_, _, _, e⟩ := this; rw [n] at e; cases e
      | frz ob u => obtain ⟨e, _⟩ := this; rw [n] at e; cases e
      | tbl ps => have e : h.get? b = some _ := this; rw [n] at e; cases e
      | met f y => have e : h.get? b = some _ := this; rw [n] at e; cases e
      | ext φ => obtain ⟨_, ⟨_, e⟩, _⟩ := this; rw [n] at e; cases e
section
variable {P : Program} {w : World} {K : PySem.W.Frag} {mg : Str → Option Value} {base : Heap} {N : List Str} {qual : Str} {scope : Scope} {f : Addr} {cd : Value} {A : Around} {outer : List Env} {s : Shared} {H : Hp} {E : XK}
theorem un_leave {CX : CXT} {pins : List (Addr × Obj)} {σ : St} {H' : Hp} {s' : Shared} {h' : Heap} {xs : List Addr} (J : Inv (cxOf CX P w K mg base N qual scope f cd A outer s H E) pins σ H' s') (k : Kept (frs (envOfC qual scope s.heap.objs.size f cd :: outer)) xs s'.heap h') (nx : ∀ b ∈ xs, s.heap.get? b = none) :
    Un (frs outer) [] H H' s.heap h' := by
  have b0 : Un (frs outer) [] H H' s.heap s'.heap := J.base
  have nl : ∀ b o, s.heap.get? b = some o → b ∉ xs := fun b o e z => by rw [nx b z] at e; cases e
  have nf : ∀ b o, s.heap.get? b = some o → b ∉ frs outer → b ∉ frs (envOfC qual scope s.heap.objs.size f cd :: outer) := fun b o e z m => by
    unfold frs at m z
    rw [List.filterMap_cons] at m
    have : (envOfC qual scope s.heap.objs.size f cd).frame = some s.heap.objs.size := rfl
    rw [this] at m
    rcases List.mem_cons.mp m with m | m
    · exact absurd (Heap.lt_size e) (by rw [m]; exact Nat.lt_irrefl _)
    · exact z m
  refine ⟨fun b o e n hf hx => k.keep b o (b0.keep b o e n hf hx) (nf b o e hf) (nl b o e), fun b o e n hf hx => ?_, b0.free, fun b o e hx => ?_, b0.tups, b0.frzs, b0.tbls⟩
  · obtain ⟨sl, e1⟩ := b0.slot b o e n hf hx
    by_cases m : b ∈ frs (envOfC qual scope s.heap.objs.size f cd :: outer)
    · obtain ⟨s2, e2⟩ := k.slot b _ e1 m (nl b o e)
      exact ⟨s2, e2⟩
    · exact ⟨sl, k.keep b _ e1 m (nl b o e)⟩
  · obtain ⟨o1, e1⟩ := b0.there b o e hx
    exact k.there b o1 e1
theorem inv_old {CX : CXT} {pins : List (Addr × Obj)} {σ : St} {H' : Hp} {s' : Shared} (J : Inv (cxOf CX P w K mg base N qual scope f cd A outer s H E) pins σ H' s') {b : Addr} (n : s'.heap.get? b = none) : s.heap.get? b = none := by
  cases q : s.heap.get? b with
  | none => rfl
  | some o =>
    have b0 : Un (frs outer) [] H H' s.heap s'.heap := J.base
    obtain ⟨o', e⟩ := b0.there b o q (by simp)
    rw [n] at e
    cases e
theorem passX : Passes (CXe P w) (cxOf (CXe P w) P w K mg base N qual scope f cd A outer s H E) E := by
  intro pins σ H1 s1 e s' I h
  obtain ⟨ea, T, cls, od, H', rfl, os, bare, un, hok, n1, n2, f1, f2, er, q⟩ := h
  have J := I.call' (ch := []) os un hok bare (by simp)
  refine st_leave (base := base) J.ok.frames J.stack rfl er fun h' T' er' k nT => ?_
  have fr : ∀ b ∈ frs (envOfC qual scope s.heap.objs.size f cd :: outer), H' b = none := J.stkFree
  refine ⟨ea, T', cls, od, H', rfl, J.os, J.bare, un_leave J k ?_, kept_hok hok k fr ?_, n1, untr hok nT, inv_old I f1, inv_old J nT, er', q⟩
  · intro b hb
    simp only [List.mem_cons, List.not_mem_nil, or_false] at hb
    rcases hb with rfl | rfl
    · exact inv_old I f1
    · exact inv_old I f2
  · intro b hb
    simp only [List.mem_cons, List.not_mem_nil, or_false] at hb
    rcases hb with rfl | rfl
    · exact n1
    · exact n2
end
def Raises (X : Cx) (E : XK) : Prop := ∀ (pins : List (Addr × Obj)) (σ : St) (H : Hp) (s : Shared) (ea : Addr) (cls : Value) (od : Option Addr) (h' : Heap) (tk : Nat), Inv X pins σ H s → (∀ b o, s.heap.get? b = some o → h'.get? b = some o) → s.heap.get? ea = none → ErrO h' ea cls od .none → E cls od H →
  X.xe (.ref ea) { s with heap := h', toks := tk }
section
variable {P : Program} {w : World} {K : PySem.W.Frag} {mg : Str → Option Value} {base : Heap} {N : List Str} {qual : Str} {scope : Scope} {f : Addr} {cd : Value} {A : Around} {outer : List Env} {s : Shared} {H : Hp} {E : XK}
theorem raisesX : Raises (cxOf (CXe P w) P w K mg base N qual scope f cd A outer s H E) E := by
  intro pins σ H1 s1 ea cls od h' tk I kp nw er q
  have J := I.kept (t' := tk) kp
  refine st_leave1 (base := base) J.ok.frames J.stack rfl er fun h2 T' er' k nT => ?_
  have fr : ∀ b ∈ frs (envOfC qual scope s.heap.objs.size f cd :: outer), H1 b = none := J.stkFree
  refine ⟨ea, T', cls, od, H1, rfl, J.os, J.bare, un_leave J k ?_, kept_hok J.hok k fr ?_, untr I.hok nw, untr J.hok nT, inv_old I nw, inv_old J nT, er', q⟩
  · intro b hb
    rw [List.mem_singleton.mp hb]
    exact inv_old I nw
  · intro b hb
    rw [List.mem_singleton.mp hb]
    exact untr I.hok nw
end
end L2
set_option Elab.async false
set_option linter.all false
set_option maxRecDepth 100000
namespace L2
open PySem PySem.Spec PyProof.Rows
def XObj (K : PySem.W.Frag) (C : Addr) : Prop := ∃ (nm qn : Str) (N : Addr) (bs bm : List Value) (hdct : Bool) (sn : List Str) (sub : List Value) (ab : Bool) (col : Option Bool) (dd : Option Addr) (k0 k1 k2 k3 k5 : Option Value),
    K.lookup C = some (excClassObj nm qn C N bs bm hdct sn sub ab col dd k0 k1 k2 k3 k5 "ValueError.__new__") ∧ PySem.W.nsOkIn K N = true ∧ PySem.W.nsIn K N "__init__" = some none ∧ PySem.W.tailIn K bmV bm = true
theorem xobj_mk {K : PySem.W.Frag} {C : Addr} {o : Obj} (nm qn : Str) (N : Addr) (bs bm : List Value) (hdct : Bool) (sn : List Str) (sub : List Value) (ab : Bool) (col : Option Bool) (dd : Option Addr) (k0 k1 k2 k3 k5 : Option Value) (l : K.lookup C = some o)
    (e : o = excClassObj nm qn C N bs bm hdct sn sub ab col dd k0 k1 k2 k3 k5 "ValueError.__new__") (a : PySem.W.nsOkIn K N = true) (b : PySem.W.nsIn K N "__init__" = some none) (c : PySem.W.tailIn K bmV bm = true) : XObj K C := by
  subst e
  exact ⟨_, _, _, _, _, _, _, _, _, _, _, _, _, _, _, _, l, a, b, c⟩
def tRaise (C : Addr) (E : XK) (t : TA) : TS := fun _ σ H => t σ H fun vs H1 => vs.length ≤ sizeLine ∧ E (.ref C) none H1
section
variable {X : Cx} {x : Str} {np cpos pos : Pos} {e0 : Expr} {es : List Expr} {t : TA} {C : Addr} {E : XK}
theorem ps_raise (q : XObj X.K C) (hc : X.calm = true) (hR : Raises X E) (hg : Gl X x) (hm : X.mg x = some (.ref C)) (ha : PA X (e0 :: es) t) (hdb : (x == ("__debug__" : Str)) = false := by decide)
    (he : starEach (e0 :: es) X.env = (false, eval e0 X.env) :: starEach es X.env := by rfl) (hpl : (backTo cpos (starEach es X.env)).any (·.1) = false := by rfl) : PS X (.Raise (some (.Call (.Name x np) (e0 :: es) [] cpos)) none pos) (tRaise C E t) := by
  intro pins s σ H D I h
  obtain ⟨nm, qn, N, bs, bm, hdct, sn, sub, ab, col, dd, k0, k1, k2, k3, k5, ho, z5, z6, z4⟩ := q
  have B := I.mod.kin
  have T0 := PySem.W.tail_of_in B z4
  have N0 : X.base.Ns N (X.base.nsMap N) := .of_isNs (PySem.W.isNs_of_in B z5)
  have hp : (backTo cpos (starEach (e0 :: es) X.env)).any (·.1) = false := by
    rw [he]
    show (false || (backTo cpos (starEach es X.env)).any (·.1)) = false
    rw [hpl]
    rfl
  refine wpAny_Raise_call_subT (C := C) (nm := nm) (q := qn) (N := N) (bs := bs) (bm := bm) (hdct := hdct) (sn := sn) (sub := sub) (ab := ab) (col := col) (dd := dd) (k0 := k0) (k1 := k1) (k2 := k2) (k3 := k3) (k5 := k5) PySem.F.excBase_ValueError
    (T0.hasType (by decide +kernel)) (I.ok.hd hc) hp (PySem.W.nsMap_none_of_in B z5 z6) (ld_glob I hg hm ⟨rfl, ?_⟩ hdb)
  have g := ha cpos pins s σ H _ I h
  rw [he] at g ⊢
  refine Calls.evalArgs_plain (thn g fun us s1 ⟨vs, H1, I1, r1, q1⟩ => ⟨rfl, by show us.length ≤ _; rw [← r1.length]; exact q1.1, I1.bk _ _ (B _ _ ho), N0.keeps I1.bk, T0.keeps I1.bk, fun h' ea m => ?_⟩)
  obtain ⟨tt, m1, _, _⟩ := m.there
  exact hR pins σ H1 s1 ea (.ref C) none h' s1.toks I1 m.keeps m.new ⟨_, _, m1, rfl, rfl, rfl, rfl⟩ q1.2
end
def XP (CX : CXT) (X : Cx) (pins : List (Addr × Obj)) (σ : St) (E : XK) (e : Value) (s' : Shared) : Prop := ∃ H s, Inv X pins σ H s ∧ CX X.stack H s E e s'
def PEx (CX : CXT) (X : Cx) (e : Expr) (t : XK → TE) : Prop :=
  ∀ (E : XK) (pins : List (Addr × Obj)) (s : Shared) (σ : St) (H : Hp) (Q : VK), Inv X pins σ H s → t E σ H Q → wpAny (model X.prog X.w) X.A (eval e X.env) (EP X pins σ Q) (XP CX X pins σ E) s
abbrev XS (CX : CXT) (X : Cx) (pins : List (Addr × Obj)) (EK : St → XK) (e : Value) (s' : Shared) : Prop := ∃ σ, XP CX X pins σ (EK σ) e s'
def PSx (CX : CXT) (X : Cx) (st : Stmt) (t : (St → XK) → TS) : Prop :=
  ∀ (EK : St → XK) (pins : List (Addr × Obj)) (s : Shared) (σ : St) (H : Hp) (D : Ends), Inv X pins σ H s → t EK D σ H → wpAny (model X.prog X.w) X.A (exec st X.env) (SP X pins D) (XS CX X pins EK) s
def PSsx (CX : CXT) (X : Cx) (st : List Stmt) (t : (St → XK) → TS) : Prop :=
  ∀ (EK : St → XK) (pins : List (Addr × Obj)) (s : Shared) (σ : St) (H : Hp) (D : Ends), Inv X pins σ H s → t EK D σ H → wpAny (model X.prog X.w) X.A (execs st X.env) (SP X pins D) (XS CX X pins EK) s
section
variable {CX : CXT} {X : Cx} {k : Nat} {f C : Addr} {fd : FuncData} {ps : List Str} {sp : Sp} {dvs : List V} {ds : List Value} {x : Str} {p pos : Pos} {e : Expr} {es : List Expr} {te : TE} {t : TA} {st : Stmt} {sts : List Stmt} {ts : TS} {tx ux : (St → XK) → TS} {ex : XK → TE}
theorem pex_call (F : FnOk X.prog X.w X.K X.mg X.base CX k f fd ps sp) (hr : Room k X.A) (hg : Gl X x) (hm : X.mg x = some (.ref f)) (hk : PySem.W.keepIn X.K (.ref f) = true) (hb : Binds X.K fd ps ds) (hd : Vals dvs ds)
    (ha : PA X.nox (e :: es) t) (hdb : (x == ("__debug__" : Str)) = false := by decide) (he : starEach (e :: es) X.env = (false, eval e X.env) :: starEach es X.env := by rfl) (hpl : (backTo pos (starEach es X.env)).any (·.1) = false := by rfl) :
    PEx CX X (.Call (.Name x p) (e :: es) [] pos) (fun E => tCall sp dvs E t) := by
  intro E pins s σ H Q I h
  refine wpAny_Call_Name_kw (ld_glob I hg hm ?_ hdb)
  refine PySem.W.callWith_K (h₀ := X.base) I.ok.mod.kin hk (wpAny_mono (ha pos pins s σ H _ (I.wish _) h) (fun us s1 ⟨vs, H1, I1, r, q⟩ => ⟨I1.unwish.kIn, ?_⟩) fun _ _ z => False.elim z) he hpl
  have J := I1.unwish
  have r2 : Vals (vs ++ dvs) (us ++ ds) := r.append hd
  have hl : (us ++ ds).length = ps.length := by rw [← r2.length]; exact F.len _ _ _ _ q
  refine wpAny_call (codeAny_mono (F.run X.A X.stack s1 H1 ⟨us, []⟩ (us ++ ds) (vs ++ dvs) Q E hr J.env0 (hb s1 us J.kIn hl) r2 q) fun r s' hq => ?_)
  cases r with
  | error e => exact ⟨H1, s1, J, hq⟩
  | ok fl =>
    cases fl with
    | ret u => exact J.after hq
    | next => exact False.elim hq
    | brk => exact False.elim hq
    | cont => exact False.elim hq
theorem psx_expr (he : PEx CX X e ex) (hs : swapsWith e none pos.line X.env = pure false := by rfl) : PSx CX X (.Expr e pos) (fun EK D σ H => ex (EK σ) σ H fun _ H1 => D.nx σ H1) := by
  intro EK pins s σ H D I h
  exact wpAny_Expr_any (wpAny_mono (he (EK σ) pins s σ H _ I h) (fun v s1 ⟨x, H1, I1, r1, q1⟩ => ⟨σ, H1, I1, q1⟩) fun e s' z => ⟨σ, z⟩) I.quiet hs
theorem psx_if {c : Expr} {a b : List Stmt} {tc : TT} (hc : PT X.nox c tc) (ha : PSsx CX X a tx) (hb : PSsx CX X b ux) : PSx CX X (.If c a b pos) (fun EK => tIfS tc (tx EK) (ux EK)) := by
  intro EK pins s σ H D I h
  refine wpAny_If (wpAny_mono (hc pins s σ H _ (I.wish _) h) (fun d s1 ⟨H1, I1, q1⟩ => ?_) fun _ _ z => False.elim z)
  cases d with
  | true => exact ha EK pins s1 σ H1 D I1.unwish q1
  | false => exact hb EK pins s1 σ H1 D I1.unwish q1
theorem pssx_one (h1 : PSx CX X st tx) : PSsx CX X [st] tx := by
  intro EK pins s σ H D I h
  refine wpAny_execs_cons (thn (h1 EK pins s σ H D I h) fun f s1 q => ?_)
  cases f with
  | next => exact wpAny_execs_nil q
  | ret v => exact q
  | brk => exact q
  | cont => exact q
end
end L2
set_option Elab.async false
set_option linter.all false
set_option maxRecDepth 100000
namespace L2
open PySem PySem.Spec PyProof.Rows
abbrev Cx.held (X : Cx) (e : Value) : Cx := { X with A := X.A.mark (some e), calm := false }
theorem Cx.Ok.held {X : Cx} (ok : X.Ok) (e : Value) : (X.held e).Ok :=
  ⟨ok.mod, ok.kind, ok.glob, ok.blt, ok.above, ok.inj, ok.has, ok.cab, (fun z => nomatch z), ok.frames, ok.stk, ok.exf, ok.bs, ok.bsz, ok.noex, ok.exfs, ok.funs, ok.frf⟩
theorem Cx.Ok.unheld {X : Cx} {e : Value} (ok : (X.held e).Ok) (hd : X.calm = true → X.A.handled = none) : X.Ok :=
  ⟨ok.mod, ok.kind, ok.glob, ok.blt, ok.above, ok.inj, ok.has, ok.cab, hd, ok.frames, ok.stk, ok.exf, ok.bs, ok.bsz, ok.noex, ok.exfs, ok.funs, ok.frf⟩
section
variable {X : Cx} {pins : List (Addr × Obj)} {σ : St} {H : Hp} {s : Shared}
theorem Inv.held (I : Inv X pins σ H s) (e : Value) : Inv (X.held e) pins σ H s := ⟨I.ok.held e, I.os, I.bare, I.base, I.loc, I.cell, I.free, I.freeC, I.pin, I.hok, I.len⟩
theorem Inv.unheld {e : Value} (I : Inv (X.held e) pins σ H s) (hd : X.calm = true → X.A.handled = none) : Inv X pins σ H s := ⟨I.ok.unheld hd, I.os, I.bare, I.base, I.loc, I.cell, I.free, I.freeC, I.pin, I.hok, I.len⟩
theorem Inv.moved {xs : List Addr} {h' : Heap} {tk : Nat} (I : Inv X pins σ H s) (k : Kept (frs X.stack) xs s.heap h') (nx : ∀ b ∈ xs, H b = none ∧ X.s₀.heap.get? b = none ∧ b ≠ X.env.locals ∧ (∀ x c, X.env.cells.lookup x = some c → c ≠ b) ∧ ∀ p ∈ X.pn ++ pins, p.1 ≠ b) :
    Inv X pins σ H { s with heap := h', toks := tk } := by
  have old : ∀ b o, X.s₀.heap.get? b = some o → b ∉ xs := fun b o e z => by rw [(nx b z).2.1] at e; cases e
  have nel : ∀ b o, X.s₀.heap.get? b = some o → b ≠ X.env.locals := fun b o e z => absurd (Nat.lt_of_lt_of_le (Heap.lt_size e) I.ok.above) (by rw [z]; exact Nat.lt_irrefl _)
  have out : ∀ b, b ≠ X.env.locals → b ∉ X.fs → b ∉ frs X.stack := fun b h1 h2 z => (List.mem_cons.mp (I.stkSub b z)).elim h1 h2
  have any : ∀ b o, s.heap.get? b = some o → b ∉ xs → ∃ sl, h'.get? b = some { o with slots := sl } := fun b o e z => by
    by_cases f : b ∈ frs X.stack
    · exact k.slot b o e f z
    · exact ⟨o.slots, k.keep b o e f z⟩
  have cells : ∀ x c v, X.env.cells.lookup x = some c → s.heap.IsCell c v → h'.IsCell c v := fun x c v e ⟨o, ho, hd⟩ => by
    obtain ⟨sl, q⟩ := any c o ho fun z => (nx c z).2.2.2.1 x c e rfl
    exact ⟨_, q, hd⟩
  refine ⟨I.ok, I.os, I.bare, ⟨fun b o e n hf hx => ?_, fun b o e n hf hx => ?_, I.base.free, fun b o e hx => ?_, I.base.tups, I.base.frzs, I.base.tbls⟩, ?_, fun x c e => ?_, I.free, I.freeC, fun p hp => ?_, kept_hok I.hok k I.stkFree fun b hb => (nx b hb).1, I.len⟩
  · exact k.keep b o (I.base.keep b o e n hf hx) (out b (nel b o e) hf) (old b o e)
  · obtain ⟨sl, e1⟩ := I.base.slot b o e n hf hx
    obtain ⟨s2, e2⟩ := any b _ e1 (old b o e)
    exact ⟨s2, e2⟩
  · obtain ⟨o1, e1⟩ := I.base.there b o e hx
    exact k.there b o1 e1
  · obtain ⟨m, ⟨o, es, ep, ho, r⟩, l⟩ := I.loc
    obtain ⟨sl, e1⟩ := any _ o ho fun z => (nx _ z).2.2.1 rfl
    refine ⟨m, ⟨_, es, ep, e1, r⟩, fun i x v h1 h2 h3 => ?_⟩
    obtain ⟨u, r1, l1⟩ := l i x v h1 h2 h3
    refine ⟨u, r1, ?_⟩
    rcases l1 with l1 | ⟨k1, c, e, z⟩
    · exact .inl l1
    · exact .inr ⟨k1, c, e, cells x c _ e z⟩
  · obtain ⟨v, z⟩ := I.cell x c e
    exact ⟨v, cells x c v e z⟩
  · obtain ⟨e, n, ne, nf, d⟩ := I.pin p hp
    exact ⟨k.keep p.1 p.2 e (out p.1 ne nf) fun z => (nx p.1 z).2.2.2.2 p hp rfl, n, ne, nf, d⟩
theorem Inv.young (I : Inv X pins σ H s) {b : Addr} (n : s.heap.get? b = none) : X.s₀.heap.get? b = none ∨ b ∈ X.ex := by
  by_cases z : b ∈ X.ex
  · exact .inr z
  · refine .inl ?_
    cases q : X.s₀.heap.get? b with
    | none => rfl
    | some o =>
      obtain ⟨o', e⟩ := I.base.there b o q z
      rw [n] at e
      cases e
theorem Inv.apart (I : Inv X pins σ H s) {b : Addr} (n : s.heap.get? b = none) : b ≠ X.env.locals ∧ (∀ x c, X.env.cells.lookup x = some c → c ≠ b) ∧ ∀ p ∈ X.pn ++ pins, p.1 ≠ b := by
  refine ⟨?_, fun x c e z => ?_, fun p hp z => ?_⟩
  · rintro rfl
    obtain ⟨m, ⟨o, es, ep, ho, r⟩, _⟩ := I.loc
    rw [n] at ho
    cases ho
  · obtain ⟨v, o, ho, hd⟩ := I.cell x c e
    rw [z, n] at ho
    cases ho
  · obtain ⟨e, _⟩ := I.pin p hp
    rw [z, n] at e
    cases e
end
section
variable {K : PySem.W.Frag} {C C' : Addr} {x : Addr} {ox : Obj} {od : Option Obj} {M : Model} {A : Around} {E : Value → Shared → Prop} {s : Shared} {b : Bool} {Q : Bool → Shared → Prop}
theorem exc_matches (X : K.In s.heap) (hx : ∃ o, s.heap.get? x = some o ∧ o.cls = .ref C) (c' : XCls K C') (m : PySem.W.mroIn K C (.ref C') = some b) (h : Q b s) : wpAny M A (excMatches (.ref x) (.ref C')) Q E s := by
  obtain ⟨o, ho, hc⟩ := hx
  obtain ⟨hh, g, dr, t, os⟩ := s
  have L0 : PySem.W.Looks M hh (typeOf (.ref x)) (.ref C) := hc ▸ (PySem.W.Looks.ld ho).andThen .now
  have L1 := PySem.W.looks_mroIn (M := M) X m
  have L2 := PySem.W.looks_mroIn (M := M) X c'.mb
  have L3 := PySem.W.looks_typeIn (M := M) X c'.ty
  have L4 : PySem.W.Looks M hh (isSubtype (.type "type") (.type "tuple")) false := .of_pure tc_notTuple
  obtain ⟨cd, e, _⟩ := PySem.W.any_some c'.hd
  have L5 : PySem.W.Looks M hh (isType (.ref C')) true := by
    unfold PySem.W.clsIn at e
    split at e
    · rename_i ho'
      intro A' Q' E' s' k q
      unfold isType loadHead
      exact wpAny_bind (wpAny_loadPart (k _ _ (X _ _ ho')) (wpAny_pure q))
    · cases e
  unfold excMatches isInstance isExcClass
  cases b
  all_goals
    repeat lk
    exact h
end
end L2
set_option Elab.async false
set_option linter.all false
set_option maxRecDepth 100000
namespace L2
open PySem PySem.Spec PyProof.Rows
def ExO (ea : Addr) (cls : Value) (od : Option Addr) : HO := .ext fun h => ∃ oe vs, h.get? ea = some oe ∧ oe.cls = cls ∧ oe.dict = od ∧ oe.data = .fields vs
structure Loose (X : Cx) (pins : List (Addr × Obj)) (H : Hp) (b : Addr) : Prop where
  un : H b = none
  new : X.s₀.heap.get? b = none
  loc : b ≠ X.env.locals
  cel : ∀ x c, X.env.cells.lookup x = some c → c ≠ b
  pin : ∀ p ∈ X.pn ++ pins, p.1 ≠ b
theorem Loose.all {X : Cx} {pins : List (Addr × Obj)} {H : Hp} {b : Addr} (l : Loose X pins H b) : H b = none ∧ X.s₀.heap.get? b = none ∧ b ≠ X.env.locals ∧ (∀ x c, X.env.cells.lookup x = some c → c ≠ b) ∧ ∀ p ∈ X.pn ++ pins, p.1 ≠ b := ⟨l.un, l.new, l.loc, l.cel, l.pin⟩
section
variable {X : Cx} {pins : List (Addr × Obj)} {σ : St} {H : Hp} {s : Shared}
theorem Inv.trackX {ea : Addr} {cls hd : Value} {od : Option Addr} (I : Inv X pins σ H s) (l : Loose X pins H ea) (e : ErrO s.heap ea cls od hd) : Inv X pins σ (upd H ea (ExO ea cls od)) s := by
  obtain ⟨oe, vs, h1, h2, h3, h4, h5⟩ := e
  have ne : ∀ b, b ≠ ea → upd H ea (ExO ea cls od) b = H b := fun b z => upd_ne z
  have nt : ∀ b u, H b = some u → upd H ea (ExO ea cls od) b = some u := fun b u z => by rw [ne b (ne_of_none z l.un)]; exact z
  refine ⟨I.ok, I.os, I.bare, ⟨I.base.keep, I.base.slot, fun b o q n x => ?_, I.base.there, fun b xs q => nt _ _ (I.base.tups b xs q), fun b o u q => nt _ _ (I.base.frzs b o u q), fun b ps q => ?_⟩, I.loc, I.cell, ?_, fun x c q => ?_, fun p hp => ?_, ?_, I.len⟩
  · rw [ne b (by rintro rfl; rw [l.new] at q; cases q)]
    exact I.base.free b o q n x
  · obtain ⟨more, z⟩ := I.base.tbls b ps q
    exact ⟨more, nt _ _ z⟩
  · rw [ne _ (Ne.symm l.loc)]
    exact I.free
  · rw [ne _ (l.cel x c q)]
    exact I.freeC x c q
  · obtain ⟨z1, z2, z3, z4, z5⟩ := I.pin p hp
    exact ⟨z1, by rw [ne _ (l.pin p hp)]; exact z2, z3, z4, z5⟩
  · intro b u q
    by_cases z : b = ea
    · subst z
      rw [upd_same] at q
      cases q
      refine ⟨⟨oe, vs, h1, h2, h3, h4⟩, ⟨oe, h1⟩, ?_⟩
      rintro g1 g2 ⟨o, v, a1, a2⟩ kk
      exact ⟨o, v, kk _ a1, a2⟩
    · rw [ne b z] at q
      exact (I.hok b u q).stay (fun _ _ _ r => r) (fun c r => nt _ _ r) fun c xs r => nt _ _ r
theorem name_goes {M : Model} {A : Around} {E : Value → Shared → Prop} {n : Str} {i : Nat} {pos : Pos} {Q : Unit → Shared → Prop} (I : Inv X pins σ H s) (hN : X.N.Nodup) (hi : X.N[i]? = some n) (hl : X.env.scope.names.lookup n = some .local)
    (h : ∀ s', Inv X pins (σ.set i none) H s' → Q () s') : wpAny M A (do bindName X.env n .none; unbindBehindTheSuite X.env n pos) Q E s := by
  have hcls : (X.env.scope.kind == .class || (X.env.scope.kind == .module && X.env.locals != X.env.globals)) = false := by rw [I.ok.kind]; rfl
  have hiσ : i < σ.length := by rw [I.len]; exact (List.getElem?_eq_some_iff.mp hi).1
  refine wpAny_bind (wpAny_bindName (store_ok (v := V.non) I hN hi (.inl hl) rfl (fun s1 I1 => ?_) (.inr hl)))
  obtain ⟨m, hn, l⟩ := id I1.loc
  have hv : m n = some Value.none := by
    obtain ⟨u, r, q⟩ := l i n .non hi (by rw [List.getElem?_set_self hiσ]) (.inl hl)
    cases (show u = Value.none from r)
    rcases q with ⟨_, q⟩ | ⟨q, _⟩
    · exact q
    · rcases q with q | q <;> (have z : X.env.scope.names.lookup n = _ := q; rw [hl] at z; cases z)
  unfold unbindBehindTheSuite
  refine wpAny_onRaise (wpAny_unbindName_local hl hn hv hcls fun h' u hn' hs => h _ ?_)
  have cne := I1.cne
  have far : ∀ b o, X.s₀.heap.get? b = some o → b ≠ X.env.locals := fun b o e => Nat.ne_of_lt (Nat.lt_of_lt_of_le (Heap.lt_size e) I1.ok.above)
  have at_ : ∀ b, b ≠ X.env.locals → h'.get? b = s1.heap.get? b := fun b z => hs.2 b z
  refine ⟨I1.ok, I1.os, I1.bare, ⟨fun b o e n hb hx => ?_, fun b o e n hb hx => ?_, I1.base.free, fun b o e hx => ?_, I1.base.tups, I1.base.frzs, I1.base.tbls⟩, ⟨_, hn', fun j y v e1 e2 e3 => ?_⟩, fun y c e => ?_, I1.free, I1.freeC, fun p hp => ?_, fun b ob e => ?_, by simpa using I.len⟩
  · exact (at_ b (far b o e)).trans (I1.base.keep b o e n hb hx)
  · obtain ⟨sl, q⟩ := I1.base.slot b o e n hb hx
    exact ⟨sl, (at_ b (far b o e)).trans q⟩
  · obtain ⟨o', q⟩ := I1.base.there b o e hx
    exact ⟨o', (at_ b (far b o e)).trans q⟩
  · by_cases hj : j = i
    · subst hj
      rw [List.getElem?_set_self hiσ] at e2
      cases e2
    · have hy : y ≠ n := fun z => hj (nodup_ix hN e1 (z ▸ hi))
      rw [List.getElem?_set_ne (Ne.symm hj)] at e2
      obtain ⟨u', r', q⟩ := l j y v e1 (by rw [List.getElem?_set_ne (Ne.symm hj)]; exact e2) e3
      refine ⟨u', r', ?_⟩
      rcases q with ⟨k, z⟩ | ⟨k, c, z1, z2⟩
      · exact .inl ⟨k, by simp [hy, z]⟩
      · exact .inr ⟨k, c, z1, z2.sameBut hs (cne y c z1)⟩
  · obtain ⟨v, z⟩ := I1.cell y c e
    exact ⟨v, z.sameBut hs (cne y c e)⟩
  · obtain ⟨z1, z2, z3, z4, z5⟩ := I1.pin p hp
    exact ⟨(at_ p.1 z3).trans z1, z2, z3, z4, z5⟩
  · refine (I1.hok b ob e).stay (fun c w hc q => (at_ c ?_).trans q) (fun _ q => q) fun _ _ q => q
    rintro rfl
    rcases hc with rfl | hc
    · rw [I1.free] at e; cases e
    · rw [I1.free] at hc; cases hc
end
abbrev TH := Ends → St → Value → Option Addr → Hp → Prop
def PHs (X : Cx) (hs : List ExceptHandler) (th : TH) : Prop := ∀ (pins : List (Addr × Obj)) (s : Shared) (σ : St) (H : Hp) (D : Ends) (ea T : Addr) (cls : Value) (od : Option Addr), Inv X pins σ H s → Err s.heap ea T cls od .none → Loose X pins H ea → Loose X pins H T →
  th D σ cls od H → wpAny (model X.prog X.w) X.A (handleBy (.ref ea) X.env hs) (SP X pins D) X.xe s
def Ends.less (D : Ends) (i : Nat) : Ends := { nx := fun σ H => D.nx (σ.set i none) H, rt := D.rt, bk := fun σ H => D.bk (σ.set i none) H, ct := fun σ H => D.ct (σ.set i none) H }
def tHand (K : PySem.W.Frag) (C' : Addr) (i : Nat) (ts : TS) (tr : TH) : TH := fun D σ cls od H => ∃ C b, cls = .ref C ∧ PySem.W.mroIn K C (.ref C') = some b ∧
  if b = true then ∀ ea, H ea = none → ts (D.less i) (σ.set i (some (.ref ea))) (upd H ea (ExO ea cls od)) else tr D σ cls od H
def tNoHand : TH := fun _ _ _ _ _ => False
section
variable {X : Cx} {x n : Str} {np pos : Pos} {i : Nat} {C' : Addr} {b0 : Stmt} {suite : List Stmt} {rest : List ExceptHandler} {ts : TS} {tr : TH}
theorem ph_nil : PHs X [] tNoHand := fun _ _ _ _ _ _ _ _ _ _ _ _ _ h => h.elim
theorem ph_as (c' : XCls X.K C') (hg : Gl X x) (hm : X.mg x = some (.ref C')) (hN : X.N.Nodup) (hi : X.N[i]? = some n) (hl : X.env.scope.names.lookup n = some .local) (hb : ∀ e, PSs (X.held e).nox (b0 :: suite) ts) (hr : PHs X rest tr) (hdb : (x == ("__debug__" : Str)) = false := by decide) :
    PHs X (.ExceptHandler (some (.Name x np)) (some n) (b0 :: suite) pos :: rest) (tHand X.K C' i ts tr) := by
  intro pins s σ H D ea T cls od I er le lt h
  obtain ⟨C, b, rfl, m, q⟩ := h
  refine wpAny_handleBy_cons (codeAny_handlers_test (ld_glob (X := X.held (.ref ea)) (I.held _) hg hm ?_ hdb)) (by intro z; cases z)
  obtain ⟨oe, vs, h1, h2, h3, h4, h5⟩ := id er.e
  refine exc_matches I.kIn ⟨oe, h1, h2⟩ c' m ?_
  cases b with
  | false => exact hr pins s σ H D ea T _ od I er le lt (by simpa using q)
  | true =>
    rw [if_pos rfl] at q
    refine codeAny_handlers_suite_as (st_land (fs := frs X.stack) er fun h' er' k => ?_)
    have I1 : Inv X pins σ H { s with heap := h' } := I.moved (tk := s.toks) k fun b hb => by rw [List.mem_singleton.mp hb]; exact lt.all
    have I2 := (I1.trackX le er'.e).held (.ref ea)
    refine store_ok (X := X.held (.ref ea)) (v := V.ref ea) I2 hN hi (.inl hl) rfl (fun s2 I3 => ?_) (.inr hl)
    refine wpAny_mono (hb (.ref ea) pins s2 _ _ _ (I3.wish _) (q ea le.un)) (fun f s3 z => ?_) fun _ _ z => False.elim z
    have back : ∀ {σ' : St} {H' : Hp}, Inv (X.held (.ref ea)).nox pins σ' H' s3 → Inv X pins σ' H' s3 := fun J => J.unwish.unheld I.ok.hd
    dsimp only
    cases f with
    | next =>
      obtain ⟨σ', H', J, z⟩ := z
      exact name_goes (back J) hN hi hl fun s4 J4 => ⟨_, H', J4, z⟩
    | brk =>
      obtain ⟨σ', H', J, z⟩ := z
      exact name_goes (back J) hN hi hl fun s4 J4 => ⟨_, H', J4, z⟩
    | cont =>
      obtain ⟨σ', H', J, z⟩ := z
      exact name_goes (back J) hN hi hl fun s4 J4 => ⟨_, H', J4, z⟩
    | ret u =>
      obtain ⟨v, σ', H', J, rv, z⟩ := z
      exact name_goes (back J) hN hi hl fun s4 J4 => ⟨v, _, H', J4, rv, z⟩
def tTry (tb : (St → XK) → TS) (th : TH) : TS := fun D σ H => tb (fun σ' cls od H' => th D σ' cls od H') D σ H
theorem ps_try {body : List Stmt} {h0 : ExceptHandler} {hs : List ExceptHandler} {tb : (St → XK) → TS} {th : TH} (hx : X.ex = []) (hst : X.stack = X.env :: X.outer) (hf : X.env.frame = some X.env.locals) (hb : PSsx (CXe X.prog X.w) X body tb) (hh : PHs X (h0 :: hs) th) :
    PS X (.Try body (h0 :: hs) [] [] pos) (tTry tb th) := by
  intro pins s σ H D I h
  refine wpAny_Try_except (wpAny_mono (hb _ pins s σ H D I h) (fun f s1 q => ?_) fun e s' z => ?_)
  · cases f with
    | next => exact wpAny_execs_nil q
    | ret v => exact q
    | brk => exact q
    | cont => exact q
  · obtain ⟨σ1, H1, s1, I1, ea, T, cls, od, H', rfl, os, bare, un, hok, n1, n2, f1, f2, er, q⟩ := z
    have J := I1.call' (ch := []) os un hok bare (by simp)
    have fresh : ∀ b, s1.heap.get? b = none → H' b = none → Loose X pins H' b := fun b z u => by
      obtain ⟨a1, a2, a3⟩ := I1.apart z
      refine ⟨u, ?_, a1, a2, a3⟩
      rcases I1.young z with y | y
      · exact y
      · rw [hx] at y; cases y
    have le := fresh ea f1 n1
    have lt := fresh T f2 n2
    have fr := J.ok.frames
    have st := J.stack
    rw [hst] at fr st
    refine st_next fr st hf er fun h2 T2 er2 k2 nT2 => ?_
    rw [← hst] at k2
    have J2 : Inv X pins σ1 H' { s' with heap := h2 } := J.moved (tk := s'.toks) k2 fun b hb => by
      simp only [List.mem_cons, List.not_mem_nil, or_false] at hb
      rcases hb with rfl | rfl
      · exact le.all
      · exact lt.all
    have lt2 : Loose X pins H' T2 := by
      obtain ⟨a1, a2, a3⟩ := J.apart nT2
      refine ⟨untr hok nT2, ?_, a1, a2, a3⟩
      rcases J.young nT2 with y | y
      · exact y
      · rw [hx] at y; cases y
    refine st_land (fs := frs X.stack) (s := { s' with heap := h2 }) er2 fun h3 er3 k3 => ?_
    have J3 : Inv X pins σ1 H' { s' with heap := h3 } := J2.moved (tk := s'.toks) k3 fun b hb => by rw [List.mem_singleton.mp hb]; exact lt2.all
    exact hh pins _ σ1 H' D ea T2 cls od J3 er3 le lt2 q
end
end L2
set_option Elab.async false
set_option linter.all false
set_option maxRecDepth 100000
namespace L2
open PySem PySem.Spec PyProof.Rows
structure RoomH (k : Nat) (A : Around) : Prop where
  dp : A.depth + 3 * k + 5 < recursionLimit
  un : A.units + 16 * k + 200 < cLine
theorem Room.h {k : Nat} {A : Around} (r : Room k A) : RoomH k A := ⟨r.dp, r.un⟩
theorem RoomH.mark {k : Nat} {A : Around} (r : RoomH k A) (e : Option Value) : RoomH k (A.mark e) := ⟨r.dp, r.un⟩
theorem RoomH.deeper {k : Nat} {A : Around} (r : RoomH (k + 1) A) (env : Env) : RoomH k (A.deeper env) :=
  ⟨by have := r.dp; show A.depth + 1 + 3 * k + 5 < _; omega, by have := r.un; show A.units + 3 + 16 * k + 200 < _; omega⟩
structure FnOkH (P : Program) (w : World) (K : PySem.W.Frag) (mg : Str → Option Value) (base : Heap) (k : Nat) (f : Addr) (fd : FuncData) (ps : List Str) (sp : Sp) : Prop where
  len : ∀ vs H Q E, sp vs H Q E → vs.length = ps.length
  run : ∀ (A : Around) (outer : List Env) (s : Shared) (H : Hp) (args : Args) (us : List Value) (vs : List V) (Q : VK) (E : XK), RoomH k A → Env0 P w K mg base A outer s H → BindsTo s fd args (ps.zip us) → Vals vs us → sp vs H Q E →
    codeAny (model P w) A (.call (.ref f) args) (CR CX0 outer P w H s Q E) s
section
variable {P : Program} {w : World} {K : PySem.W.Frag} {mg : Str → Option Value} {base : Heap}
abbrev cxH (P : Program) (w : World) (K : PySem.W.Frag) (mg : Str → Option Value) (base : Heap) (N : List Str) (qual : Str) (scope : Scope) (f : Addr) (cd : Value) (A : Around) (outer : List Env) (s : Shared) (H : Hp) : Cx := { cxOf CX0 P w K mg base N qual scope f cd A outer s H E0 with calm := false, xe := fun _ _ => False }
theorem Fun.okH {x qual : Str} {st : Stmt} {f : Addr} {fd : FuncData} {N ps : List Str} {k : Nat} {sp : Sp} (F : Fun K x qual st f fd) (S : FnScope N ps (defScope st)) (len : ∀ vs H Q E, sp vs H Q E → vs.length = ps.length)
    (hbody : ∀ (cdv : Value) (A : Around) (outer : List Env) (s : Shared) (H : Hp) (vs : List V) (Q : VK) (E : XK), RoomH k (A.deeper (envOfC qual (defScope st) s.heap.objs.size f cdv)) → sp vs H Q E →
      ∃ t, PSs (cxH P w K mg base N qual (defScope st) f cdv A outer s H) (defBody st) t ∧ t { nx := fun _ H' => Q .non H', rt := Q } (start N vs) H) : FnOkH P w K mg base (k + 1) f fd ps sp := by
  obtain ⟨oc, od, kV, doc, pm, an, cdv, ct, osl, rfl, lk, hcd⟩ := F.ex
  refine ⟨len, fun A outer s H args us vs Q E hr e0 hb r hsp => ?_⟩
  have hl := len _ _ _ _ hsp
  have KX : K.In s.heap := e0.mod.kin.keeps fun b o e => (e0.bs b o e).1
  have lim : s.heap.NoLimit := e0.mod.nolimit.keeps fun b o e => (e0.bs b o e).1
  have kinds : ∀ y ∈ ps.zip us, (defScope st).names.lookup y.1 = some .local ∨ ((defScope st).names.lookup y.1 = some .cell ∧ ((cellsFrom (s.heap.objs.size + 1) (defScope st).names []).lookup y.1).isSome = true) := fun ⟨n, v⟩ hy => by
    rcases S.par n (List.of_mem_zip hy).1 with q | q
    · exact .inl q
    · exact .inr ⟨q, PySem.W.cellsFrom_some _ _ _ (.inl q)⟩
  refine codeAny_call_function (by have := hr.dp; omega) (KX _ _ lk) rfl S.co S.gen rfl (PySem.W.codeRec_of KX hcd) (hb _ _ _ _ ?_)
  refine wpAny_newFunctionEnv_cells S.kind kinds fun env he s1 x1 => ?_
  subst he
  refine ⟨lim.keeps x1.toInCall.keep, codeAny_func ?_⟩
  obtain ⟨t, ht, hq⟩ := hbody cdv A outer s H vs Q E (hr.deeper _) hsp
  have e1 : Env0 P w K mg base ({ A with handled := none } : Around) outer s H := ⟨e0.frames, e0.mod, e0.bs, e0.bsz, e0.funs, e0.frf, e0.hok, e0.bare⟩
  have J := inv_start (CX := CX0) (E := E0) (qual := qual) (f := f) (cd := cdv) S (show ({ A with handled := none } : Around).handled = none from rfl) e1 hl r x1
  have I : Inv (cxH P w K mg base N qual (defScope st) f cdv A outer s H) [] (start N vs) H s1 :=
    ⟨⟨J.ok.mod, J.ok.kind, J.ok.glob, J.ok.blt, J.ok.above, J.ok.inj, J.ok.has, J.ok.cab, (fun z => nomatch z), Around.frames_deeper e0.frames, J.ok.stk, J.ok.exf, J.ok.bs, J.ok.bsz, J.ok.noex, J.ok.exfs, J.ok.funs, J.ok.frf⟩, J.os, J.bare, J.base, J.loc, J.cell, J.free, J.freeC, J.pin, J.hok, J.len⟩
  refine wpAny_mono (ht [] s1 (start N vs) H _ I hq) (fun fl s' hs => ?_) fun e s' hs => False.elim hs
  have fin : ∀ {σ' : St} {H' : Hp} {v : V} {u : Value}, Inv (cxH P w K mg base N qual (defScope st) f cdv A outer s H) [] σ' H' s' → RelV v u → Q v H' → CE outer P w H s Q u s' := fun J rv q => ⟨_, _, J.os, J.bare, J.base, J.hok, rv, q⟩
  cases fl with
  | ret u =>
    obtain ⟨v, σ', H', J, rv, q⟩ := hs
    exact fin J rv q
  | next =>
    obtain ⟨σ', H', J, q⟩ := hs
    exact fin (v := V.non) (u := Value.none) J rfl q
  | brk =>
    obtain ⟨_, _, _, q⟩ := hs
    exact False.elim q
  | cont =>
    obtain ⟨_, _, _, q⟩ := hs
    exact False.elim q
end
section
variable {X : Cx} {k : Nat} {f : Addr} {fd : FuncData} {ps : List Str} {sp : Sp} {x : Str} {p pos : Pos} {e : Expr} {es : List Expr} {t : TA}
theorem pe_callH (F : FnOkH X.prog X.w X.K X.mg X.base k f fd ps sp) (hr : RoomH k X.A) (hg : Gl X x) (hm : X.mg x = some (.ref f)) (hk : PySem.W.keepIn X.K (.ref f) = true) (hb : Binds X.K fd ps [])
    (ha : PA X (e :: es) t) (hdb : (x == ("__debug__" : Str)) = false := by decide) (he : starEach (e :: es) X.env = (false, eval e X.env) :: starEach es X.env := by rfl) (hpl : (backTo pos (starEach es X.env)).any (·.1) = false := by rfl) :
    PE X (.Call (.Name x p) (e :: es) [] pos) (tCall sp [] E0 t) := by
  intro pins s σ H Q I h
  refine wpAny_Call_Name_kw (ld_glob I hg hm ?_ hdb)
  refine PySem.W.callWith_K (h₀ := X.base) I.ok.mod.kin hk (thnA (ha pos pins s σ H _ I h) fun us s1 vs H1 I1 r q => ⟨I1.kIn, ?_⟩) he hpl
  have r2 : Vals (vs ++ []) (us ++ []) := r.append .nil
  have hl : (us ++ []).length = ps.length := by rw [← r2.length]; exact F.len _ _ _ _ q
  refine wpAny_call (codeAny_mono (F.run X.A X.stack s1 H1 ⟨us, []⟩ (us ++ []) (vs ++ []) Q E0 hr I1.env0 (hb s1 us I1.kIn hl) r2 q) fun r s' hq => ?_)
  cases r with
  | error e => exact False.elim hq
  | ok fl =>
    cases fl with
    | ret u => exact I1.after hq
    | next => exact False.elim hq
    | brk => exact False.elim hq
    | cont => exact False.elim hq
end
def ClsV (K : PySem.W.Frag) (C : Addr) : V → Bool → Prop
  | .ref C', b => XCls K C' ∧ PySem.W.mroIn K C (.ref C') = some b
  | .ty T, b => PySem.W.kitMeta T = true ∧ PySem.W.mroIn K C (.type T) = some b
  | _, _ => False
def XDict (H : Hp) : Option Addr → Prop
  | none => True
  | some d => ∃ fs, H d = some (.xd fs)
def rIsX (K : PySem.W.Frag) : List V → Hp → VK → Prop := fun xs H Q => ∃ ea C od cv b, xs = [.ref ea, cv] ∧ H ea = some (ExO ea (.ref C) od) ∧ XDict H od ∧ XCls K C ∧ ClsV K C cv b ∧ Q (.bl b) H
theorem kit_exc {K : PySem.W.Frag} {C : Addr} {cv : V} {u : Value} {b : Bool} (c : XCls K C) (r : RelV cv u) (h : ClsV K C cv b) : PySem.W.kitOne K (.ref C) u = some b := by
  unfold PySem.W.kitOne
  cases cv with
  | ref C' =>
    cases (show u = Value.ref C' from r)
    obtain ⟨c', m⟩ := h
    by_cases z : C = C'
    · subst z
      rw [c.sf] at m
      cases m
      simp
    · have : (Value.ref C == Value.ref C') = false := by simpa using z
      rw [this]
      simp only [Bool.false_eq_true, if_false]
      unfold PySem.W.kitCls
      have q : ((PySem.W.clsIn K C').isSome && PySem.W.typeIn K (.ref C') == some (.type "type")) = true := by
        obtain ⟨cd, e, _⟩ := PySem.W.any_some c'.hd
        rw [e, c'.ty]
        simp
      simp only [q, if_true]
      exact m
  | ty T =>
    cases (show u = Value.type T from r)
    obtain ⟨c', m⟩ := h
    have : (Value.ref C == Value.type T) = false := by simp
    rw [this]
    simp only [Bool.false_eq_true, if_false]
    unfold PySem.W.kitCls
    simp only [c', if_true]
    exact m
  | non => exact h.elim
  | bl => exact h.elim
  | int => exact h.elim
  | str => exact h.elim
  | byt => exact h.elim
  | flt => exact h.elim
section
variable {X : Cx}
theorem exc_inst {pins : List (Addr × Obj)} {σ : St} {H : Hp} {s : Shared} {ea C : Addr} {od : Option Addr} (I : Inv X pins σ H s) (h : H ea = some (ExO ea (.ref C) od)) (d : XDict H od) : ∃ ox oo, PySem.W.InstAt s.heap ea ox C oo := by
  obtain ⟨⟨oe, vs, h1, h2, h3, h4⟩, _⟩ := (show ObjOk X.prog X.w H s.heap ea (ExO ea (.ref C) od) from I.hok ea _ h)
  have nc : PySem.W.notCls oe = true := by unfold PySem.W.notCls; rw [h4]
  cases od with
  | none => exact ⟨oe, none, h1, h2, nc, by rw [h3]; trivial⟩
  | some dx =>
    obtain ⟨fs, hd⟩ := d
    obtain ⟨mA, ⟨o, es, ep, e, _⟩, _⟩ := (show ObjOk X.prog X.w H s.heap dx (.xd fs) from I.hok dx _ hd)
    exact ⟨oe, some o, h1, h2, nc, by rw [h3]; exact e⟩
theorem call_isX : CallR X (.builtin "isinstance") (rIsX X.K) := by
  intro pins s σ H xs us Q I r h
  obtain ⟨ea, C, od, cv, b, rfl, he, hd, c, hk, q⟩ := h
  obtain ⟨u, cu, rfl, ru, rc⟩ := vals2 r
  cases (show u = Value.ref ea from ru)
  obtain ⟨ox, oo, ia⟩ := exc_inst I he hd
  exact PySem.W.kia_one (kitx_exc (x := ea) (ox := ox) (od := oo) c) I.kIn ia (kit_exc c rc hk) (fun z => nomatch z) fun tk => ⟨.bl b, H, I.tok tk, rfl, q⟩
end
end L2
set_option Elab.async false
set_option linter.all false
set_option maxRecDepth 100000
namespace L2
open PySem PySem.Spec PyProof.Rows
theorem ints_of : ∀ {ns : List Int} {us : List Value}, Vals (ns.map V.int) us → IntsAre us ns
  | [], _, h => by cases h; exact .nil
  | n :: ns, _, h => by
    cases h with
    | cons r t =>
      obtain ⟨k, rfl⟩ := (show ∃ t, _ = Value.int n t from r)
      exact .cons n k (ints_of t)
theorem of_ints : ∀ {ns : List Int} {us : List Value}, IntsAre us ns → Vals (ns.map V.int) us
  | _, _, .nil => .nil
  | _, _, .cons n t r => .cons ⟨t, rfl⟩ (of_ints r)
section
variable {X : Cx}
theorem call_sorted : CallR X (.builtin "sorted") (fun xs H Q => ∃ (p : Addr) (ns : List Int), xs = [.ref p] ∧ SqL X.K H p (ns.map V.int) ∧ ns.length < 64 ∧ ∀ (l : Addr) (zs : List Int), H l = none → zs.Perm ns → zs.Pairwise (· ≤ ·) → Q (.ref l) (upd H l (.lst (zs.map V.int)))) := by
  intro pins s σ H xs us Q I r h
  obtain ⟨p, ns, rfl, hp, h64, q⟩ := h
  obtain ⟨u, rfl, ru⟩ := vals1 r
  cases ru
  obtain ⟨its, rv, pl, hz⟩ := I.list hp
  have hi := ints_of rv
  have e1 := IntsAre.length hi
  refine sorted_ints pl.isList hi (by omega) fun out zs a1 a2 a3 => ?_
  obtain ⟨e, he⟩ := sortedAll_at s.heap its out
  have hn : H (s.heap.objs.size + 1) = none := I.hok.fresh (Nat.le_succ _)
  have ln : zs.length = ns.length := a2.length_eq
  refine ⟨.ref (s.heap.objs.size + 1), _, I.laid (a := s.heap.objs.size + 1) (o := .lst (zs.map V.int)) (t' := s.toks) (fun b o e => sortedAll_old e) (Nat.le_succ _) ⟨?_, out.toList, e, of_ints a1, ?_⟩, rfl, q _ zs hn a2 a3⟩
  · rw [List.length_map, ln]
    exact smallE (by omega)
  · exact he
end
theorem mro_own {K : PySem.W.Frag} {C T : Addr} {c0 : Value} {dd : Option Addr} {cd : ClassData} {sl : Array (Option Value)} (h : K.lookup C = some ⟨c0, dd, .cls cd, sl⟩) (m : cd.mro = .ref C :: .ref T :: bmV) (C' : Addr) : PySem.W.mroIn K C (.ref C') = some (decide (C' = C) || decide (C' = T)) := by
  unfold PySem.W.mroIn PySem.W.clsIn
  rw [h]
  simp only [Option.bind_some, m, List.isEmpty_cons, Bool.false_eq_true, if_false]
  congr 1
  by_cases h1 : C' = C
  · subst h1; simp
  · by_cases h2 : C' = T
    · subst h2; simp
    · have a : (Value.ref C' == Value.ref C) = false := by simpa using h1
      have b : (Value.ref C' == Value.ref T) = false := by simpa using h2
      simp [List.contains_cons, a, b, h1, h2]
structure XErr (K : PySem.W.Frag) (T C : Addr) : Prop where
  x : XCls K C
  mr : ∀ C', PySem.W.mroIn K C (.ref C') = some (decide (C' = C) || decide (C' = T))
  mv : PySem.W.mroIn K C (.type "ValueError") = some true
theorem mro_ty {K : PySem.W.Frag} {C : Addr} {c0 : Value} {dd : Option Addr} {cd : ClassData} {sl : Array (Option Value)} {r : List Value} (h : K.lookup C = some ⟨c0, dd, .cls cd, sl⟩) (m : cd.mro = .ref C :: r) {v : Value} (hv : (Value.ref C :: r).contains v = true) : PySem.W.mroIn K C v = some true := by
  unfold PySem.W.mroIn PySem.W.clsIn
  rw [h]
  simp only [Option.bind_some, m, List.isEmpty_cons, Bool.false_eq_true, if_false, hv]
section
variable {K : PySem.W.Frag} {T C : Addr} {c0 : Value} {dd : Option Addr} {cd : ClassData} {sl : Array (Option Value)}
theorem xcls_mk {r : List Value} (h1 : PySem.W.typeIn K (.ref C) = some (.type "type")) (h2 : PySem.W.findIn K (.ref C) "__getattribute__" = some (some (.builtin "BaseException.__getattribute__"))) (h3 : PySem.W.findIn K (.ref C) "__getattr__" = some none)
    (h4 : PySem.W.findIn K (.ref C) "__class__" = some (some (.builtin "object.__class__"))) (h5 : PySem.W.specialIn K (.builtin "object.__class__") "__get__" = some (some (.builtin "getset_descriptor.__get__"))) (h6 : PySem.W.takesIn K (.builtin "object.__class__") = some true)
    (h7 : PySem.W.hasDictIn K C = true) (h : K.lookup C = some ⟨c0, dd, .cls cd, sl⟩) (m : cd.mro = .ref C :: r) (a : r.contains (.type "object") = true) (b : r.contains (.type "BaseException") = true) : XCls K C :=
  ⟨h1, h2, h3, h4, h5, h6, mro_ty h m (by rw [List.contains_cons, a, Bool.or_true]), mro_ty h m (by rw [List.contains_cons, b, Bool.or_true]), h7, mro_ty h m (by simp)⟩
structure XTop (K : PySem.W.Frag) (T : Addr) : Prop where
  x : XCls K T
theorem xtop_of (h1 : PySem.W.typeIn K (.ref C) = some (.type "type")) (h2 : PySem.W.findIn K (.ref C) "__getattribute__" = some (some (.builtin "BaseException.__getattribute__"))) (h3 : PySem.W.findIn K (.ref C) "__getattr__" = some none)
    (h4 : PySem.W.findIn K (.ref C) "__class__" = some (some (.builtin "object.__class__"))) (h5 : PySem.W.specialIn K (.builtin "object.__class__") "__get__" = some (some (.builtin "getset_descriptor.__get__"))) (h6 : PySem.W.takesIn K (.builtin "object.__class__") = some true)
    (h7 : PySem.W.hasDictIn K C = true) (h : K.lookup C = some ⟨c0, dd, .cls cd, sl⟩) (m : cd.mro = .ref C :: bmV) : XTop K C := ⟨xcls_mk h1 h2 h3 h4 h5 h6 h7 h m (by decide +kernel) (by decide +kernel)⟩
theorem xerr_mk (h1 : PySem.W.typeIn K (.ref C) = some (.type "type")) (h2 : PySem.W.findIn K (.ref C) "__getattribute__" = some (some (.builtin "BaseException.__getattribute__"))) (h3 : PySem.W.findIn K (.ref C) "__getattr__" = some none)
    (h4 : PySem.W.findIn K (.ref C) "__class__" = some (some (.builtin "object.__class__"))) (h5 : PySem.W.specialIn K (.builtin "object.__class__") "__get__" = some (some (.builtin "getset_descriptor.__get__"))) (h6 : PySem.W.takesIn K (.builtin "object.__class__") = some true)
    (h7 : PySem.W.hasDictIn K C = true) (h : K.lookup C = some ⟨c0, dd, .cls cd, sl⟩) (m : cd.mro = .ref C :: .ref T :: bmV) : XErr K T C := by
  have a : (Value.ref T :: bmV).contains (.type "object") = true := by rw [List.contains_cons]; simp [bmV]
  have b : (Value.ref T :: bmV).contains (.type "BaseException") = true := by rw [List.contains_cons]; simp [bmV]
  have c : (Value.ref T :: bmV).contains (.type "ValueError") = true := by rw [List.contains_cons]; simp [bmV]
  exact ⟨xcls_mk h1 h2 h3 h4 h5 h6 h7 h m a b, mro_own h m, mro_ty h m (by rw [List.contains_cons, c, Bool.or_true])⟩
end
section
variable {P : Program} {w : World} {K : PySem.W.Frag} {mg : Str → Option Value} {base : Heap}
theorem Fun.okX {x qual : Str} {st : Stmt} {f : Addr} {fd : FuncData} {N ps : List Str} {k : Nat} {sp : Sp} (F : Fun K x qual st f fd) (S : FnScope N ps (defScope st)) (len : ∀ vs H Q E, sp vs H Q E → vs.length = ps.length)
    (hbody : ∀ (cdv : Value) (A : Around) (outer : List Env) (s : Shared) (H : Hp) (vs : List V) (Q : VK) (E : XK), Room k (A.deeper (envOfC qual (defScope st) s.heap.objs.size f cdv)) → sp vs H Q E →
      ∃ t, PSs (cxOf (CXe P w) P w K mg base N qual (defScope st) f cdv A outer s H E) (defBody st) t ∧ t { nx := fun _ H' => Q .non H', rt := Q } (start N vs) H) : FnOk P w K mg base (CXe P w) (k + 1) f fd ps sp := by
  obtain ⟨oc, od, kV, doc, pm, an, cdv, ct, osl, rfl, lk, hcd⟩ := F.ex
  exact fn_of lk hcd S len fun A outer s H vs Q E hr hsp => hbody cdv A outer s H vs Q E hr hsp
end
theorem tRaise_eq {C : Addr} {E : XK} {t : TA} {D : Ends} {σ : St} {H : Hp} : tRaise C E t D σ H = t σ H fun vs H1 => vs.length ≤ sizeLine ∧ E (.ref C) none H1 := rfl
theorem tTry_eq {tb : (St → XK) → TS} {th : TH} {D : Ends} {σ : St} {H : Hp} : tTry tb th D σ H = tb (fun σ' cls od H' => th D σ' cls od H') D σ H := rfl
theorem tHand_eq {K : PySem.W.Frag} {C' : Addr} {i : Nat} {ts : TS} {tr : TH} {D : Ends} {σ : St} {cls : Value} {od : Option Addr} {H : Hp} : tHand K C' i ts tr D σ cls od H = ∃ C b, cls = .ref C ∧ PySem.W.mroIn K C (.ref C') = some b ∧
  if b = true then ∀ ea, H ea = none → ts (D.less i) (σ.set i (some (.ref ea))) (upd H ea (ExO ea cls od)) else tr D σ cls od H := rfl
theorem pb_ValueError : bootBuiltins "ValueError" = some (.type "ValueError") := by decide +kernel
theorem isX_own {K : PySem.W.Frag} {H : Hp} {ea C C' Tl : Addr} {od : Option Addr} {Q : VK} (he : H ea = some (ExO ea (.ref C) od)) (hd : XDict H od) (xe : XErr K Tl C) (x' : XErr K Tl C') (ne : C' ≠ Tl) (q : Q (.bl (decide (C' = C))) H) : rIsX K [.ref ea, .ref C'] H Q := by
  refine ⟨ea, C, od, .ref C', decide (C' = C), rfl, he, hd, xe.x, ⟨x'.x, ?_⟩, q⟩
  rw [xe.mr, decide_eq_false ne, Bool.or_false]
theorem isX_val {K : PySem.W.Frag} {H : Hp} {ea C Tl : Addr} {od : Option Addr} {Q : VK} (he : H ea = some (ExO ea (.ref C) od)) (hd : XDict H od) (xe : XErr K Tl C) (q : Q (.bl true) H) : rIsX K [.ref ea, .ty "ValueError"] H Q :=
  ⟨ea, C, od, .ty "ValueError", true, rfl, he, hd, xe.x, ⟨by decide +kernel, xe.mv⟩, q⟩
theorem XDict.same {H H' : Hp} {od : Option Addr} (e : Same H H') (h : XDict H od) : XDict H' od := by
  cases od with
  | none => trivial
  | some d =>
    obtain ⟨fs, h⟩ := h
    exact ⟨fs, e _ _ h⟩
theorem catR {H : Hp} {l b : Addr} {xs zs : List V} {Q : VK} (h1 : H l = some (.lst xs)) (h2 : H b = some (.lst zs)) (hz : xs.length + zs.length ≤ sizeLine) (q : ∀ p, H p = none → Q (.ref p) (upd H p (.lst (xs ++ zs)))) : rCat (.ref l) (.ref b) H Q := ⟨l, b, xs, zs, rfl, rfl, h1, h2, hz, q⟩
theorem Same.put {H H' : Hp} {l : Addr} (e : Same H H') (n : H l = none) (o : HO) : Same H (upd H' l o) := fun b u h => by rw [upd_ne (ne_of_none h n)]; exact e b u h
theorem inV_ints (i : Int) : ∀ ns : List Int, inV (.int i) (ns.map V.int) = decide (i ∈ ns)
  | [] => by simp [inV]
  | n :: ns => by
    have ih := inV_ints i ns
    unfold inV at ih ⊢
    rw [List.map_cons, List.any_cons, ih]
    have e : eqV (.int n) (.int i) = decide (n = i) := by first | rfl | simp [eqV]
    rw [e]
    by_cases h : i = n
    · subst h; simp
    · simp [h, Ne.symm h]
theorem flat_ints : ∀ ns : List Int, (ns.map V.int).all flatV = true
  | [] => rfl
  | n :: ns => by rw [List.map_cons, List.all_cons, flat_ints ns]; rfl
theorem inL {K : PySem.W.Frag} {neg : Bool} {H : Hp} {p : Addr} {i : Int} {ns : List Int} {Q : VK} (h : H p = some (.lst (ns.map V.int))) (q : Q (.bl (if neg then !decide (i ∈ ns) else decide (i ∈ ns))) H) : rIn K neg (.int i) (.ref p) H Q := by
  refine ⟨p, _, rfl, .inl (SqL.of h), rfl, flat_ints ns, ?_⟩
  rw [inV_ints]
  exact q
end L2
set_option Elab.async false
set_option linter.all false
set_option maxRecDepth 100000
namespace L2
open PySem PySem.Spec PyProof.Rows
section
variable {X : Cx} {Nc : List Str} {own : Nat} {js : List Nat} {scope : Scope} {cl : List (Str × Addr)}
end
end L2
set_option Elab.async false
set_option linter.all false
set_option maxRecDepth 100000
namespace L2
open PySem PySem.Spec PyProof.Rows
end L2
set_option Elab.async false
set_option linter.all false
set_option maxRecDepth 100000
namespace Pb
open L2 PySem
variable {m : Int} {rs : List Road} {r : Int} {par : Int → Int} {dep : Int → Nat}
theorem below_get {n i : Nat} (h : i < n) : (below n)[i]? = some (i : Int) := by unfold below; rw [List.getElem?_map, List.getElem?_range h]; rfl
end Pb
set_option Elab.async false
set_option linter.all false
set_option maxRecDepth 100000
namespace L2
open PySem PySem.Spec PyProof.Rows
def Itv (K : PySem.W.Frag) (a : Addr) (n : Nat) : It :=
  ⟨fun i H => i < n ∧ ∃ xs x, SqL K H a xs ∧ xs[n - 1 - i]? = some x, fun i H x H' => H' = H ∧ ∀ xs, SqL K H a xs → xs[n - 1 - i]? = some x, fun i H => n ≤ i⟩
def iRev (K : PySem.W.Frag) (tl : TE) : TI := fun σ H R => tl σ H fun x H1 => ∃ a xs, x = .ref a ∧ SqL K H1 a xs ∧ R (Itv K a xs.length) H1
section
variable {X : Cx} {tg e : Expr} {te : TE} {p2 pos : Pos}
end
end L2
set_option Elab.async false
set_option linter.all false
set_option maxRecDepth 100000
namespace L2
open PySem PySem.Spec PyProof.Rows
def tListR (te : TE) : TE := fun σ H Q => te σ H fun x H1 => ∃ i, x = .int i ∧ 0 ≤ i ∧ i ≤ 100000 ∧ ∀ l, H1 l = none → Q (.ref l) (upd H1 l (.lst ((Pb.below i.toNat).map V.int)))
section
variable {X : Cx} {e : Expr} {te : TE} {p1 p2 pos pos2 : Pos}
end
end L2
set_option Elab.async false
set_option linter.all false
set_option maxRecDepth 100000
namespace L2
open PySem PySem.Spec PyProof.Rows PySem.W
section
variable {X : Cx}
end
end L2
set_option Elab.async false
set_option linter.all false
set_option maxRecDepth 100000
namespace L2
open PySem PySem.Spec PyProof.Rows
section
variable {X : Cx}
end
def CDivB (_ j : Int) : Prop := 0 < j ∧ j < 18446744073709551616
theorem op_fdivB {X : Cx} : OpR X (binaryOp .FloorDiv) (rI CDivB fun i j => .int (i / j)) := opI fun i j _ _ _ _ _ hc q => by
  have h1 : (0 : Int) < j := hc.1
  have h2 : j < 18446744073709551616 := hc.2
  refine floordiv_int (by omega) (by rw [Int.fdiv_eq_ediv_of_nonneg i (by omega)]; exact q) (.inl ?_)
  have h3 : j.natAbs.log2 < 64 := (Nat.log2_lt (by omega)).mpr (by omega)
  unfold Builtin.divisionGoesByPylong
  have hz : (j == 0) = false := by simp; omega
  simp only [hz, Bool.false_eq_true, if_false]
  have : ¬ (j.natAbs.log2 / 30 + 1 > 300) := by omega
  simp [this]
theorem setR {H : Hp} {l : Addr} {xs : List V} {i : Int} {v : V} {Q : Hp → Prop} (h : H l = some (.lst xs)) (i0 : 0 ≤ i) (i1 : i < xs.length) (q : Q (upd H l (.lst (xs.set i.toNat v)))) : rSetL (.ref l) (.int i) v H Q :=
  ⟨l, xs, i, i.toNat, rfl, rfl, h, by unfold ixN; rw [if_pos i0, if_pos (by omega)], q⟩
theorem atG {xs : List Int} {i : Int} (i0 : 0 ≤ i) (i1 : i < xs.length) : atI (xs.map V.int) i = some (.int (xs.getD i.toNat 0)) := atI_int i0 (by
  have h : i.toNat < xs.length := by omega
  rw [List.getElem?_map, List.getElem?_eq_getElem h]
  simp [List.getD, h])
theorem flatR (n : Nat) (v : V) : (List.replicate n [v]).flatten = List.replicate n v := by
  induction n with
  | zero => rfl
  | succ n ih => rw [List.replicate_succ, List.flatten_cons, ih, List.replicate_succ]; rfl
theorem ge_set {xs : List Int} {n : Nat} {v : Int} (h : ∀ x ∈ xs, 0 ≤ x) (hv : 0 ≤ v) : ∀ x ∈ xs.set n v, 0 ≤ x := fun x hx => by
  rcases List.mem_or_eq_of_mem_set hx with h1 | h1
  · exact h x h1
  · rw [h1]; exact hv
theorem ge_getD {xs : List Int} (h : ∀ x ∈ xs, 0 ≤ x) (n : Nat) : 0 ≤ xs.getD n 0 := by
  by_cases z : n < xs.length
  · rw [List.getD, List.getElem?_eq_getElem z]; exact h _ (List.getElem_mem z)
  · rw [List.getD, List.getElem?_eq_none (by omega)]; exact Int.le_refl _
theorem get_list {X : Cx} : PGet X (rIxL X.K) := by
  intro pins s σ H x y v u Q I rx ry h
  obtain ⟨p, xs, i, z, rfl, rfl, hq, he, q⟩ := h
  cases rx
  obtain ⟨t, rfl⟩ := ry
  obtain ⟨its, r, pl, hz⟩ := I.list hq
  obtain ⟨j, h1, h2, h3, h4, h5⟩ := atI_get he
  obtain ⟨w, ew, rw'⟩ := r.get h2
  have hl := r.length
  have hn := line63
  have fin : EP X pins σ Q w s := ⟨z, H, I, rw', q⟩
  by_cases h0 : 0 ≤ i
  · have hj : i.toNat = j := by
      rw [seqIndex_of h0 h5] at h1
      exact Option.some.inj h1
    exact wpAny_getItem_list pl.isList h0 (by omega) (by rw [hj]; simpa using ew) fin
  · have hj : (i + (its.toArray.size : Int)).toNat = j := by
      rw [seqIndex_neg (by omega) h4] at h1
      rw [List.size_toArray, ← hl]
      exact Option.some.inj h1
    exact wpAny_getItem_list_neg pl.isList (by omega) (by rw [List.size_toArray] <;> omega) (by omega) (by rw [hj]; simpa using ew) fin
end L2
set_option Elab.async false
set_option linter.all false
set_option maxRecDepth 100000
namespace Pb
open L2
section
variable {m : Int} {rs : List Road} {r : Int} {par : Int → Int} {dep : Int → Nat}
variable {held : Int → Int} {con : Int → Int → Int}
end
end Pb
set_option Elab.async false
set_option linter.all false
set_option maxRecDepth 100000
namespace Pb
open L2
section
variable {m : Int} {rs : List Road} {r : Int} {par : Int → Int} {dep : Int → Nat} {held : Int → Int}
end
section
open PySem
end
end Pb
set_option Elab.async false
set_option linter.all false
set_option maxRecDepth 100000
namespace L2
open PySem PySem.Spec PyProof.Rows
def cutI (xs : List Int) (lo hi : Option Int) : List Int := (xs.drop (HT.sIx xs.length 0 lo)).take (HT.sIx xs.length xs.length hi - HT.sIx xs.length 0 lo)
theorem cut_ints (xs : List Int) (lo hi : Option Int) : cutV (xs.map V.int) lo hi = (cutI xs lo hi).map V.int := by
  unfold cutV cutI
  rw [List.length_map, List.map_take, List.map_drop]
theorem cutI_len (xs : List Int) (lo hi : Option Int) : (cutI xs lo hi).length ≤ xs.length := by
  unfold cutI
  rw [List.length_take, List.length_drop]
  omega
theorem slI {K : PySem.W.Frag} {H : Hp} {a : Addr} {xs : List Int} {lo hi : Option Int} {Q : VK} (h : SqL K H a (xs.map V.int)) (q : ∀ p, H p = none → Q (.ref p) (upd H p (.lst ((cutI xs lo hi).map V.int)))) : rSlL K (.ref a) lo hi H Q :=
  ⟨a, _, rfl, h, fun p hp => by rw [cut_ints]; exact q p hp⟩
end L2
set_option Elab.async false
set_option linter.all false
set_option maxRecDepth 100000
namespace L2
open PySem PySem.Spec PyProof.Rows
def Itrs (lo st : Int) (n : Nat) : It := ⟨fun i _ => i < n, fun i H x H' => H' = H ∧ x = .int (lo + i * st), fun i _ => n ≤ i⟩
def iRng3 (ta : TA) : TI := fun σ H R => ta σ H fun vs H1 => ∃ i j c : Int, vs = [.int i, .int j, .int c] ∧ (0 ≤ i ∧ i ≤ 1000000 ∧ 0 ≤ j ∧ j ≤ 1000000 ∧ 0 < c ∧ c ≤ 1000000) ∧ R (Itrs i c (Builtin.Range.rangeSize i j c).toNat) H1
section
variable {X : Cx} {tg : Expr}
end
end L2
set_option Elab.async false
set_option linter.all false
set_option maxRecDepth 100000
namespace L2
open PySem PySem.Spec PyProof.Rows
theorem ixTS {K : PySem.W.Frag} {H : Hp} {p : Addr} {xs : List V} {i : Int} {v : V} {Q : VK} (h : SqT K H p xs) (e : atI xs i = some v) (q : Q v H) : rIxT K (.ref p) (.int i) H Q := ⟨p, xs, i, v, rfl, rfl, h, e, q⟩
end L2
namespace Pb
open L2 PySem
section
variable {m : Int} {rs : List Road} {r : Int} {par : Int → Int} {dep : Int → Nat}
end
end Pb
set_option Elab.async false
set_option linter.all false
set_option maxRecDepth 100000
namespace L2
open PySem PySem.Spec PyProof.Rows
theorem draws_of {P : Program} {w : World} {A : Around} {l : Addr} (c : Bool) {it : Addr} (hh : A.handled = none) (ne : l ≠ it) (its : Array Value) : Draws P w A it [it, l] its.size (fun i v => its[i]? = some v) (fun i h => zAt l c it i h ∧ zSrc l c h its) where
  live := fun i h st => let ⟨o, e, _⟩ := (zSub l c P w).obj _ _ _ st.1; ⟨o, e⟩
  frame := fun i h h' st k => ⟨(zSub l c P w).atK _ _ _ _ st.1 fun o e => k it (by simp) o e, (zSub l c P w).srcK _ _ _ st.2 fun o e => k l (by simp) o e⟩
  item := fun i s Q E hi st hq => (zSub l c P w).item A s it i its its[i] Q E st.1 st.2 (by simp [hi]) fun h' at' sb => hq its[i] h' s.toks (by simp [hi]) ⟨at', (zSub l c P w).srcK _ _ _ st.2 fun o e => sb.extBut _ _ ne e⟩ sb
  done := fun s Q E st hq => (zSub l c P w).fin A s it its.size its Q E hh st.1 st.2 (by simp) fun h' e eb he => hq h' e eb he
section
variable {P : Program} {w : World} {A : Around} {E : Value → Shared → Prop} {s : Shared} {l : Addr} {ob : Obj} {src : Heap → Array Value → Prop} {at' : Addr → Nat → Heap → Prop}
abbrev enObj (n : Nat) : Obj := { cls := .type "enumerate", data := .fields #[.none, .bool false, .ref n, rawInt 0, .none, .none] }
theorem enum_new_meets (S : ∀ P w, SubF P w l ob src at') (xs : Array Value) :
    Meets (Builtin.«enumerate.__new__» ⟨[.type "enumerate", .ref l], []⟩) (fun _ R s => src s.heap xs ∧ R (.ok (.ret (.ref (s.heap.push ob).objs.size))) { s with heap := (s.heap.push ob).push (enObj s.heap.objs.size) }) :=
  .of_wp fun prog w A R s hyp => by
    obtain ⟨hp, g, d, tk, os⟩ := s
    obtain ⟨q1, r⟩ := hyp
    have zsub := sub_enumerate
    have B1 : src (Shared.heap ⟨hp, g, d, tk, os⟩) xs := q1
    wp_walk using ((S prog w).start _ _ _ _ _ B1)
    refine wpAny_stack_any fun st => ?_
    dsimp only
    refine wpAny_pure ?_
    have go : ∀ b : Bool, b = true ∨ b = false := fun b => by cases b <;> simp
    split
    · rename_i c _ _ _ _ _
      rcases go (c == Value.type "enumerate") with z | z
      · rw [z]
        wp_walk using ((S prog w).start _ _ _ _ _ B1)
        exact ⟨_, rfl, r⟩
      · rw [z]
        wp_walk using ((S prog w).start _ _ _ _ _ B1)
        exact ⟨_, rfl, r⟩
    · wp_walk using ((S prog w).start _ _ _ _ _ B1)
      exact ⟨_, rfl, r⟩
theorem enum_made (S : ∀ P w, SubF P w l ob src at') {xs : Array Value} {Q : Value → Shared → Prop} (q1 : src s.heap xs) (f1 : ob.isFreed = false)
    (h : ∀ h', IsEnum h' (s.heap.objs.size + 1) s.heap.objs.size 0 .none → at' s.heap.objs.size 0 h' → (∀ c o, s.heap.get? c = some o → h'.get? c = some o) → Q (.ref (s.heap.objs.size + 1)) { s with heap := h' }) :
    wpAny (model P w) A (call (.type "enumerate") [.ref l]) Q E s := by
  refine callType_new F.called_enumerate (by decide) (F.typeCall_enumerate_1 _) (F.newCall_enumerate_1 _) (fun obj => F.args_object_init_2 obj _) F.entry_enumerate_new (enum_new_meets S xs) ⟨q1, ?_⟩
  have n0 : (s.heap.push ob).objs.size = s.heap.objs.size + 1 := Heap.size_push ..
  have c2 : ((s.heap.push ob).push (enObj s.heap.objs.size)).get? (s.heap.push ob).objs.size = some (enObj s.heap.objs.size) := Heap.get?_push_size _ rfl
  have c1 : ((s.heap.push ob).push (enObj s.heap.objs.size)).get? s.heap.objs.size = some ob := Heap.get?_push_of_some _ (Heap.get?_push_size _ f1)
  show _ ∧ _
  rw [n0] at c2
  rw [n0]
  exact ⟨⟨_, c2, rfl⟩, h _ c2 ((S P w).first _ _ c1) fun c o e => Heap.get?_push_of_some _ (Heap.get?_push_of_some _ e)⟩
end
def Ite (K : PySem.W.Frag) (c : Bool) (a : Addr) : It :=
  ⟨fun i H => ∃ xs x, SqX K c H a xs ∧ xs[i]? = some x,
   fun i H v H' => ∃ p x, H p = none ∧ v = .ref p ∧ H' = upd H p (.tup [.int i, x]) ∧ ∀ xs, SqX K c H a xs → xs[i]? = some x,
   fun i H => ∃ xs, SqX K c H a xs ∧ xs.length = i⟩
theorem turn_enum {P : Program} {w : World} {K : PySem.W.Frag} {elts : List Expr} {x1} {tpos : Pos} (c : Bool) (a e it : Addr) (ne : e ≠ it) (ae : a ≠ e) (ai : a ≠ it) :
    Turn P w K (.Tuple elts x1 tpos) (Ite K c a) [e, it] e (fun i h => (∃ old, IsEnum h e it (i : Nat) old) ∧ zAt a c it i h) where
  mem := by simp
  obj := fun i h t b hb => by
    obtain ⟨⟨old, t1⟩, t2⟩ := t
    simp only [List.mem_cons, List.mem_nil_iff, or_false] at hb
    rcases hb with rfl | rfl
    · exact ⟨_, t1, fun v z => by cases z⟩
    · exact (zSub a c P w).obj _ _ _ t2
  keep := fun i h h' t k => by
    obtain ⟨⟨old, t1⟩, t2⟩ := t
    exact ⟨⟨old, k e (by simp) _ t1⟩, (zSub a c P w).atK _ _ _ _ t2 fun o e => k it (by simp) o e⟩
  item := fun X e1 e2 e3 hc i pins s σ H E I f t g => by
    subst e1 e2 e3
    obtain ⟨⟨old, t1⟩, t2⟩ := t
    obtain ⟨xs, x, s1, hx⟩ := g
    obtain ⟨us, r1, q1⟩ := I.sqX s1
    obtain ⟨xu, hxu, rx⟩ := r1.get hx
    have hh : X.A.in1.handled = none := I.ok.hd hc
    have fz : ∀ q ∈ [e, it], FpOk X pins H q := f
    have W := WalksT.enumerateD (A := X.A) (draws_of (P := X.prog) (w := X.w) (A := X.A.in1) (l := a) c (it := it) hh ai us.toArray) e ne (by simp; exact ⟨ne, ae.symm⟩) (by simp)
    have hil : i < us.toArray.size := by
      have := (List.getElem?_eq_some_iff.mp hxu).1
      simpa using this
    refine W.item i s _ _ hil ⟨⟨old, t1⟩, t2, q1⟩ fun T vals h' tk pt le tup mid keep => ?_
    refine ⟨_, rfl, W.go elts x1 tpos i T { s with heap := h', toks := tk } _ _ mid fun h2 st2 keep2 => ?_⟩
    obtain ⟨tt, xv, px, ev⟩ := pt
    have exv : xv = xu := by
      have h1 : us[i]? = some xv := by simpa using px
      rw [hxu] at h1
      cases h1
      rfl
    subst exv
    have Tw : T ∉ [e, it] := W.apart i T h' mid
    have kp : ∀ q o, q ∉ [e, it] → s.heap.get? q = some o → h2.get? q = some o := fun q o hq eo => keep2 q o hq (keep q o hq eo)
    obtain ⟨ot, ht, hct, nt, hdt⟩ := tup
    have new : h2.get? T = some ot := keep2 T ot Tw ht
    have Hn : ∀ q u, H q = some u → q ∉ [e, it] := fun q u e hq => by rw [(fz q hq).1] at e; cases e
    have nH : H T = none := I.hok.fresh le
    have Tb : ∀ q o, s.heap.get? q = some o → q ≠ T := fun q o eo => Nat.ne_of_lt (Nat.lt_of_lt_of_le (Heap.lt_size eo) le)
    have I2 : Inv X pins σ H { s with heap := h2, toks := tk } := by
      refine I.step (g' := s.gens) (d' := s.drawn) (t' := tk) (ch := [e, it]) (fun q hq => ⟨(fz q hq).2.2.2.1, (fz q hq).2.1, (fz q hq).2.2.2.2.1, (fz q hq).2.2.2.2.2⟩) (fun q o _ _ hq e _ => kp q o hq e) (fun q o _ _ hq e _ => ⟨o.slots, kp q o hq e⟩) (fun _ _ _ _ n => n)
        (fun q o hq e => ⟨o, kp q o hq e⟩) (fun _ _ e => e) (fun _ _ _ e => e) (fun q ps e => ⟨#[], by rw [e]; simp⟩) (fun m hm => ?_) (fun q u e => ?_) I.bare
      · obtain ⟨o, es, ep, ho, r⟩ := hm
        exact ⟨o, es, ep, kp _ o (fun hq => (fz _ hq).2.1 rfl) ho, r⟩
      · refine (I.hok q u e).stay (fun q' v hq' e' => kp q' v ?_ e') (fun _ e' => e') fun _ _ e' => e'
        rcases hq' with rfl | hq'
        · exact Hn _ u e
        · exact Hn _ _ hq'
    have I3 : Inv X pins σ (upd H T (.tup [.int i, x])) { s with heap := h2, toks := tk } := by
      refine ⟨I2.ok, I2.os, I2.bare, ?_, I2.loc, I2.cell, ?_, fun n c e => ?_, fun p hp => ?_, fun q u e => ?_, I2.len⟩
      · refine ⟨I2.base.keep, I2.base.slot, fun q o e n hx => ?_, I2.base.there, fun q xs e => ?_, fun q o u e => ?_, fun q ps e => ?_⟩
        · have lt : q < X.s₀.heap.objs.size := Heap.lt_size e
          rw [upd_ne (Nat.ne_of_lt (Nat.lt_of_lt_of_le lt (Nat.le_trans I.sz le)))]
          exact I2.base.free q o e n hx
        · have e' := I2.base.tups q xs e
          rw [upd_ne (fun z => by rw [z, nH] at e'; cases e')]
          exact e'
        · have e' := I2.base.frzs q o u e
          rw [upd_ne (fun z => by rw [z, nH] at e'; cases e')]
          exact e'
        · obtain ⟨more, e'⟩ := I2.base.tbls q ps e
          exact ⟨more, by rw [upd_ne (fun z => by rw [z, nH] at e'; cases e')]; exact e'⟩
      · rw [upd_ne (Nat.ne_of_lt (Nat.lt_of_lt_of_le I.lt le))]
        exact I2.free
      · obtain ⟨vv, o, ho, _⟩ := I.cell n c e
        rw [upd_ne (Tb _ _ ho)]
        exact I2.freeC n c e
      · obtain ⟨k1, k2, k3⟩ := I.pin p hp
        rw [upd_ne (Tb _ _ k1)]
        exact I2.pin p hp
      · by_cases hq : q = T
        · subst hq
          rw [upd_same] at e; cases e
          refine ⟨by show 2 ≤ sizeLine; decide, [.int (i : Nat) tt, xv], .cons ⟨tt, rfl⟩ (.cons rx .nil), ot, new, hct, nt, ?_⟩
          rw [hdt, ev]
        · rw [upd_ne hq] at e
          refine (I2.hok q u e).stay (fun _ _ _ e' => e') (fun q' e' => ?_) fun q' xs e' => ?_
          · rw [upd_ne (fun z => by rw [z, nH] at e'; cases e')]; exact e'
          · rw [upd_ne (fun z => by rw [z, nH] at e'; cases e')]; exact e'
    refine ⟨.ref T, _, I3, rfl, ⟨T, x, nH, rfl, rfl, fun xs' q => ?_⟩, ⟨st2.1, st2.2.1⟩, fun q hq => ?_⟩
    · rw [← I.sqX_inj s1 q]; exact hx
    · have hlt : q ≠ T := by
        simp only [List.mem_cons, List.mem_nil_iff, or_false] at hq
        rcases hq with rfl | rfl
        · exact Tb _ _ t1
        · exact let ⟨o, e, _⟩ := (zSub a c X.prog X.w).obj _ _ _ t2; Tb _ _ e
      rw [upd_ne hlt]
      exact (fz q hq).1
  done := fun X e1 e2 e3 hc i pins s σ H E I f t g => by
    subst e1 e2 e3
    obtain ⟨⟨old, t1⟩, t2⟩ := t
    obtain ⟨xs, s1, hend⟩ := g
    obtain ⟨us, r1, q1⟩ := I.sqX s1
    have hh : X.A.in1.handled = none := I.ok.hd hc
    have fz : ∀ q ∈ [e, it], FpOk X pins H q := f
    have W := WalksT.enumerateD (A := X.A) (draws_of (P := X.prog) (w := X.w) (A := X.A.in1) (l := a) c (it := it) hh ai us.toArray) e ne (by simp; exact ⟨ne, ae.symm⟩) (by simp)
    have ei : i = us.toArray.size := by
      have := r1.length
      simp
      omega
    subst ei
    refine W.done s _ _ ⟨⟨old, t1⟩, t2, q1⟩ fun h' tk keep => ⟨rfl, ?_⟩
    have kp : ∀ q o, q ∉ [e, it] → s.heap.get? q = some o → h'.get? q = some o := fun q o hq e => keep q o hq e
    have Hn : ∀ q u, H q = some u → q ∉ [e, it] := fun q u e hq => by rw [(fz q hq).1] at e; cases e
    refine I.step (g' := s.gens) (d' := s.drawn) (t' := tk) (ch := [e, it]) (fun q hq => ⟨(fz q hq).2.2.2.1, (fz q hq).2.1, (fz q hq).2.2.2.2.1, (fz q hq).2.2.2.2.2⟩) (fun q o _ _ hq e _ => kp q o hq e) (fun q o _ _ hq e _ => ⟨o.slots, kp q o hq e⟩) (fun _ _ _ _ n => n)
      (fun q o hq e => ⟨o, kp q o hq e⟩) (fun _ _ e => e) (fun _ _ _ e => e) (fun q ps e => ⟨#[], by rw [e]; simp⟩) (fun m hm => ?_) (fun q u e => ?_) I.bare
    · obtain ⟨o, es, ep, ho, r⟩ := hm
      exact ⟨o, es, ep, kp _ o (fun hq => (fz _ hq).2.1 rfl) ho, r⟩
    · refine (I.hok q u e).stay (fun q' v hq' e' => kp q' v ?_ e') (fun _ e' => e') fun _ _ e' => e'
      rcases hq' with rfl | hq'
      · exact Hn _ u e
      · exact Hn _ _ hq'
  self := fun A i s Q E t q => by
    obtain ⟨⟨old, t1⟩, t2⟩ := t
    exact wpAny_pyIter_enum t1 q
def iEnum (K : PySem.W.Frag) (c : Bool) (tl : TE) : TI := fun σ H R => tl σ H fun x H1 => ∃ a, x = .ref a ∧ (∃ xs, SqX K c H1 a xs) ∧ R (Ite K c a) H1
section
variable {X : Cx} {e : Expr} {te : TE} {p2 pos : Pos}
theorem pi_enum {elts : List Expr} {x1} {tpos : Pos} (c : Bool) (hg : Gl X "enumerate") (hm : X.mg "enumerate" = none) (he : PE X e te) (h2 : starEach [e] X.env = [(false, eval e X.env)] := by rfl) : PI X (.Tuple elts x1 tpos) (.Call (.Name "enumerate" p2) [e] [] pos) (iEnum X.K c te) := by
  intro pins s σ H R I h
  refine Call_ (ld_blt I hg hm boot_enumerate (PyProof.Rows.callWith_type1 ?_ h2 rfl))
  rw [h2]
  show wpAny _ _ (spliced ((false, eval e X.env) :: backTo pos [])) _ _ s
  refine Calls.spliced_cons (thnE (he pins s σ H _ I h) fun u s1 x H1 I1 r1 q1 => Calls.spliced_nil ?_)
  obtain ⟨a, ex, ⟨xs, sa⟩, q⟩ := q1
  subst ex
  cases r1
  obtain ⟨us, r1, q1⟩ := I1.sqX sa
  obtain ⟨oa, hoa⟩ := zSrc_there a c _ _ q1
  have la := Heap.lt_size hoa
  refine enum_made (zSub a c) q1 (zObj_free a c) fun h' w1 w2 w3 => ?_
  refine wpAny_pyIter_enum w1 ?_
  refine ⟨_, [s1.heap.objs.size + 1, s1.heap.objs.size], _, _, H1, rfl, I1.kept (t' := s1.toks) w3, turn_enum c a _ _ (Nat.succ_ne_self _) (Nat.ne_of_lt (Nat.lt_succ_of_lt la)) (Nat.ne_of_lt la), ⟨⟨_, w1⟩, w2⟩, fun b hb => ?_, q⟩
  have hle : s1.heap.objs.size ≤ b := by
    simp only [List.mem_cons, List.mem_nil_iff, or_false] at hb
    rcases hb with rfl | rfl
    · exact Nat.le_succ _
    · exact Nat.le_refl _
  exact I1.fpOk hle (I1.hok.fresh hle)
end
theorem for_enum {K : PySem.W.Frag} {c : Bool} {a : Addr} {xs : List V} {g : TG} {tb : TS} {D : Ends} {σ : St} {H : Hp} (Pv : Nat → St → Hp → Prop) (h0 : Pv 0 σ H) (hl : ∀ i σ H, Pv i σ H → SqX K c H a xs)
    (hs : ∀ (i : Nat) (x : V) (σ : St) (H : Hp) (p : Addr) (N : St → Hp → Prop), (∀ σ' H', Pv (i + 1) σ' H' → N σ' H') → xs[i]? = some x → Pv i σ H → H p = none → g (.ref p) σ (upd H p (.tup [.int i, x])) fun σ2 H2 => tb { D with nx := N, ct := N, bk := D.nx } σ2 H2)
    (hd : ∀ σ H, Pv xs.length σ H → D.nx σ H) : ForGo (Ite K c a) D g tb σ H := by
  refine ⟨fun i m σ H => m = xs.length - i ∧ i ≤ xs.length ∧ Pv i σ H, ⟨_, rfl, Nat.zero_le _, h0⟩, ?_⟩
  rintro i m σ H ⟨rfl, hi, p⟩
  have q1 := hl i σ H p
  by_cases hlt : i < xs.length
  · refine .inr ⟨⟨xs, xs[i], q1, List.getElem?_eq_getElem hlt⟩, fun σ' H' => ∃ m', m' < xs.length - i ∧ (m' = xs.length - (i + 1) ∧ i + 1 ≤ xs.length ∧ Pv (i + 1) σ' H'), fun σ' H' z => z, fun x H' y => ?_⟩
    obtain ⟨p', x', hp, rfl, rfl, e1⟩ := y
    exact hs i x' σ H p' _ (fun σ' H' p' => ⟨xs.length - (i + 1), by omega, rfl, hlt, p'⟩) (e1 xs q1) p hp
  · have e : i = xs.length := by omega
    subst e
    exact .inl ⟨⟨xs, q1, rfl⟩, hd σ H p⟩
end L2
set_option Elab.async false
set_option linter.all false
set_option maxRecDepth 100000
namespace Pb
open L2 PySem
abbrev Stp := Int × Int × Int
def vSt (s : Stp) : List V := [.int s.1, .int s.2.1, .int s.2.2]
abbrev StepsAt (H : Hp) : List Addr → List Stp → Prop := Paired fun q s => H q = some (.tup (vSt s))
theorem StepsAt.same {H H' : Hp} {qs : List Addr} {ss : List Stp} (e : Same H H') (h : StepsAt H qs ss) : StepsAt H' qs ss := Paired.imp' (fun q v x => e q _ x) h
theorem StepsAt.get {H : Hp} : ∀ {ps : List Addr} {vs : List Stp} {i : Nat} {x : V}, StepsAt H ps vs → (ps.map V.ref)[i]? = some x → ∃ p v, x = .ref p ∧ ps[i]? = some p ∧ vs[i]? = some v ∧ H p = some (.tup (vSt v))
  | _, _, i, x, .nil, e => by simp at e
  | _, _, 0, x, .cons (a := p) (b := r) h hs, e => ⟨p, r, by simpa using e.symm, by simp, by simp, h⟩
  | a :: l1, _, i + 1, x, .cons h hs, e => by
    have e' : (List.map V.ref l1)[i]? = some x := by simpa using e
    obtain ⟨p, r, h1, h2, h3, h4⟩ := StepsAt.get hs e'
    exact ⟨p, r, h1, by simpa using h2, by simpa using h3, h4⟩
theorem pr_snoc {α β : Type} {R : α → β → Prop} {a : α} {b : β} (h : R a b) : ∀ {l₁ : List α} {l₂ : List β}, Paired R l₁ l₂ → Paired R (l₁ ++ [a]) (l₂ ++ [b])
  | _, _, .nil => .cons h .nil
  | _, _, .cons x xs => .cons x (pr_snoc h xs)
theorem pr_get {α β : Type} {R : α → β → Prop} : ∀ {ps : List α} {vs : List β} {i : Nat} {x : α}, Paired R ps vs → ps[i]? = some x → ∃ v, vs[i]? = some v ∧ R x v
  | _, _, i, x, .nil, e => by simp at e
  | _, _, 0, x, .cons (a := p) (b := r) h hs, e => by
    have : p = x := by simpa using e
    subst this
    exact ⟨r, by simp, h⟩
  | a :: l1, _, i + 1, x, .cons h hs, e => by
    have e' : l1[i]? = some x := by simpa using e
    obtain ⟨v, h1, h2⟩ := pr_get hs e'
    exact ⟨v, by simpa using h1, h2⟩
abbrev TupsAt (H : Hp) : List Addr → List (List Int) → Prop := Paired fun q xs => H q = some (.tup (xs.map V.int))
def tollD (rs : List Road) (a b : Int) : Int := (tollOf rs a b).getD 1
def stepL (rs : List Road) (xs : List Int) (s : Stp) : List Int :=
  (xs.set s.1.toNat (xs.getD s.1.toNat 0 - s.2.2 * tollD rs s.1 s.2.1)).set s.2.1.toNat ((xs.set s.1.toNat (xs.getD s.1.toNat 0 - s.2.2 * tollD rs s.1 s.2.1)).getD s.2.1.toNat 0 + s.2.2)
theorem stepL_len (rs : List Road) (xs : List Int) (s : Stp) : (stepL rs xs s).length = xs.length := by unfold stepL; rw [List.length_set, List.length_set]
def isStp (m : Int) (rs : List Road) (s : Stp) : Bool := decide (0 ≤ s.1) && decide (s.1 < m) && decide (s.2.1 ∈ nbrs m rs s.1) && decide (1 ≤ s.2.2)
def canDo (m : Int) (rs : List Road) (xs : List Int) (s : Stp) : Bool := isStp m rs s && decide (s.2.2 * tollD rs s.1 s.2.1 ≤ xs.getD s.1.toNat 0)
def stAt (rs : List Road) (xs : List Int) (ss : List Stp) (i : Nat) : List Int := (ss.take i).foldl (stepL rs) xs
def rowsL (rs : List Road) (xs : List Int) (ss : List Stp) : List (List Int) := (List.range (ss.length + 1)).map (stAt rs xs ss)
def CanAll (m : Int) (rs : List Road) (xs : List Int) (ss : List Stp) : Prop := ∀ i s, ss[i]? = some s → canDo m rs (stAt rs xs ss i) s = true
theorem stAt_len (rs : List Road) (xs : List Int) (ss : List Stp) (i : Nat) : (stAt rs xs ss i).length = xs.length := by
  unfold stAt
  have : ∀ (l : List Stp) (ys : List Int), (l.foldl (stepL rs) ys).length = ys.length := by
    intro l
    induction l with
    | nil => intro ys; rfl
    | cons s l ih => intro ys; rw [List.foldl_cons, ih, stepL_len]
  exact this _ _
theorem stAt_succ {rs : List Road} {xs : List Int} {ss : List Stp} {i : Nat} {s : Stp} (h : ss[i]? = some s) : stAt rs xs ss (i + 1) = stepL rs (stAt rs xs ss i) s := by
  unfold stAt
  rw [List.take_succ, h, List.foldl_append]
  rfl
theorem stAt_snoc {rs : List Road} {xs : List Int} {ss : List Stp} {s : Stp} {i : Nat} (h : i ≤ ss.length) : stAt rs xs (ss ++ [s]) i = stAt rs xs ss i := by
  unfold stAt
  rw [List.take_append_of_le_length h]
theorem rowsL_len (rs : List Road) (xs : List Int) (ss : List Stp) : (rowsL rs xs ss).length = ss.length + 1 := by unfold rowsL; rw [List.length_map, List.length_range]
theorem rowsL_get {rs : List Road} {xs : List Int} {ss : List Stp} {i : Nat} (h : i ≤ ss.length) : (rowsL rs xs ss)[i]? = some (stAt rs xs ss i) := by
  unfold rowsL
  rw [List.getElem?_map, List.getElem?_range (by omega)]
  rfl
theorem canAll_snoc {m : Int} {rs : List Road} {xs : List Int} {ss : List Stp} {s : Stp} (h : CanAll m rs xs ss) (hs : canDo m rs (stAt rs xs ss ss.length) s = true) : CanAll m rs xs (ss ++ [s]) := by
  intro i s' hi
  by_cases c : i < ss.length
  · rw [List.getElem?_append_left c] at hi
    rw [stAt_snoc (by omega)]
    exact h i s' hi
  · have hi2 : i = ss.length := by
      have := (List.getElem?_eq_some_iff.mp hi).1
      rw [List.length_append] at this
      simp at this
      omega
    subst hi2
    rw [List.getElem?_append_right (Nat.le_refl _), Nat.sub_self] at hi
    cases hi
    rw [stAt_snoc (Nat.le_refl _)]
    exact hs
theorem stAt_zero (rs : List Road) (xs : List Int) (ss : List Stp) : stAt rs xs ss 0 = xs := by unfold stAt; rw [List.take_zero]; rfl
theorem isStp_of {m : Int} {rs : List Road} {s : Stp} (h : isStp m rs s = true) : (0 ≤ s.1 ∧ s.1 < m) ∧ s.2.1 ∈ nbrs m rs s.1 ∧ 1 ≤ s.2.2 := by
  unfold isStp at h
  rw [Bool.and_eq_true, Bool.and_eq_true, Bool.and_eq_true] at h
  exact ⟨⟨of_decide_eq_true h.1.1.1, of_decide_eq_true h.1.1.2⟩, of_decide_eq_true h.1.2, of_decide_eq_true h.2⟩
theorem toll_rng {m : Int} {rs : List Road} (g : Good m rs) {a b : Int} (h : Adj rs a b) : ∃ k, tollOf rs a b = some k ∧ 2 ≤ k ∧ k ≤ 1000000 := by
  obtain ⟨x, hx, j⟩ := h
  obtain ⟨i, hi⟩ := List.getElem?_of_mem hx
  have ok := g.ok x hx
  have jj : Joins x a b := j
  rw [tollOf_at g hi jj]
  unfold toll1
  by_cases c : x.a = a ∧ x.b = b
  · rw [if_pos c]
    exact ⟨_, rfl, ok.t0, ok.t1⟩
  · rw [if_neg c]
    have c2 : x.a = b ∧ x.b = a := by
      rcases jj with w | w
      · exact absurd w c
      · exact ⟨w.2, w.1⟩
    rw [if_pos c2]
    exact ⟨_, rfl, ok.u0, ok.u1⟩
theorem step_toll {m : Int} {rs : List Road} (g : Good m rs) {s : Stp} (h : isStp m rs s = true) : ∃ k, tollOf rs s.1 s.2.1 = some k ∧ tollD rs s.1 s.2.1 = k ∧ (2 ≤ k ∧ k ≤ 1000000) ∧ (0 ≤ s.2.1 ∧ s.2.1 < m) := by
  obtain ⟨h1, h2, h3⟩ := isStp_of h
  have ad := (mem_nbrs g).mp h2
  obtain ⟨k, e, r⟩ := toll_rng g ad
  exact ⟨k, e, by unfold tollD; rw [e]; rfl, r, (g.adj ad).2.1⟩
end Pb
namespace L2
open PySem PySem.Spec PyProof.Rows
def tPar3 (i j k : Nat) (ta : TA) : TS := fun D σ H => ta σ H fun vs H1 => ∃ v w z, vs = [v, w, z] ∧ D.nx (((σ.set i (some v)).set j (some w)).set k (some z)) H1
end L2
set_option Elab.async false
set_option linter.all false
set_option maxRecDepth 100000
namespace Pb
open L2
section
variable {m : Int} {rs : List Road} {r : Int} {par : Int → Int} {dep : Int → Nat} {held held' : Int → Int} {con : Int → Int → Int}
end
end Pb
set_option Elab.async false
set_option linter.all false
set_option maxRecDepth 100000
namespace L2
open PySem PySem.Spec PyProof.Rows
end L2
namespace Pb
open L2 PySem
theorem canDo_is {m : Int} {rs : List Road} {xs : List Int} {s : Stp} (h : canDo m rs xs s = true) : isStp m rs s = true ∧ s.2.2 * tollD rs s.1 s.2.1 ≤ xs.getD s.1.toNat 0 := by
  unfold canDo at h
  rw [Bool.and_eq_true] at h
  exact ⟨h.1, of_decide_eq_true h.2⟩
end Pb
set_option Elab.async false
set_option linter.all false
set_option maxRecDepth 100000
namespace Pb
open L2 PySem
section
variable {m : Int} {rs : List Road}
end
def AtX (c : Bool) (H : Hp) (a : Addr) (xs : List V) : Prop := H a = some (if c then .lst xs else .tup xs)
theorem AtX.sq {K : PySem.W.Frag} {c : Bool} {H : Hp} {a : Addr} {xs : List V} (h : AtX c H a xs) : SqX K c H a xs := by
  cases c
  · exact SqT.of h
  · exact SqL.of h
end Pb
set_option Elab.async false
set_option linter.all false
set_option maxRecDepth 100000
namespace L2
open PySem PySem.Spec PyProof.Rows
section
variable {X : Cx} {i o : Expr} {ty td : TE}
def tDInN (ty td : TE) : TE := fun σ H Q => ty σ H fun y H1 => td σ H1 fun x H2 => ∃ a, x = .ref a ∧ ((∃ o, DGet H2 a y o ∧ Q (.bl o.isSome) H2) ∨ (y = .non ∧ (∃ kvs, H2 a = some (.dK kvs)) ∧ Q (.bl false) H2))
end
end L2
set_option Elab.async false
set_option linter.all false
set_option maxRecDepth 100000
namespace Pb
open L2 PySem
section
variable {m : Int} {rs : List Road} {r b : Int} {par : Int → Int} {dep : Int → Nat}
end
end Pb
namespace L2
theorem cutS {A B : TS} {D : Ends} {σ : St} {H : Hp} (h : ∀ N : St → Hp → Prop, (∀ σ' H', B D σ' H' → N σ' H') → A { D with nx := N } σ H) : tSeq A B D σ H := h (B D) fun _ _ z => z
theorem cutIf {c : TT} {A B : TS} {D : Ends} {σ : St} {H : Hp} (h : ∀ NA NB : St → Hp → Prop, (∀ σ' H', A D σ' H' → NA σ' H') → (∀ σ' H', B D σ' H' → NB σ' H') → tIfS c (fun _ => NA) (fun _ => NB) D σ H) : tIfS c A B D σ H := h (A D) (B D) (fun _ _ z => z) fun _ _ z => z
end L2
set_option Elab.async false
set_option linter.all false
set_option maxRecDepth 100000
namespace L2
open PySem
theorem for_listH {K : PySem.W.Frag} {a : Addr} {xs : List V} {g : TG} {tb : TS} {D : Ends} {σ : St} {H : Hp} (Pv : Nat → St → Hp → Prop) (h0 : Pv 0 σ H) (hl : ∀ i σ H, i ≤ xs.length → Pv i σ H → SqL K H a xs)
    (hs : ∀ (i : Nat) (x : V) (σ : St) (H : Hp) (N B : St → Hp → Prop), (∀ σ H, (g x σ H fun σ2 H2 => tb { D with nx := N, ct := N, bk := D.nx } σ2 H2) → B σ H) → (∀ σ' H', Pv (i + 1) σ' H' → N σ' H') → xs[i]? = some x → Pv i σ H → B σ H)
    (hd : ∀ (B : St → Hp → Prop) σ H, (∀ σ H, D.nx σ H → B σ H) → Pv xs.length σ H → B σ H) : ForGo (Itl K a) D g tb σ H :=
  for_listN Pv h0 hl (fun i x σ H N hN hx p => hs i x σ H N (fun σ H => g x σ H fun σ2 H2 => tb { D with nx := N, ct := N, bk := D.nx } σ2 H2) (fun _ _ z => z) hN hx p) fun σ H p => hd (fun σ H => D.nx σ H) σ H (fun _ _ z => z) p
theorem for_rangeH {lo : Int} {n : Nat} {g : TG} {tb : TS} {D : Ends} {σ : St} {H : Hp} (Pv : Nat → St → Hp → Prop) (h0 : Pv 0 σ H)
    (hs : ∀ (i : Nat) (σ : St) (H : Hp) (N B : St → Hp → Prop), (∀ σ H, (g (.int (lo + i)) σ H fun σ2 H2 => tb { D with nx := N, ct := N, bk := D.nx } σ2 H2) → B σ H) → (∀ σ' H', Pv (i + 1) σ' H' → N σ' H') → i < n → Pv i σ H → B σ H)
    (hd : ∀ (B : St → Hp → Prop) σ H, (∀ σ H, D.nx σ H → B σ H) → Pv n σ H → B σ H) : ForGo (Itr lo n) D g tb σ H :=
  for_rangeN Pv h0 (fun i σ H N hN hi p => hs i σ H N (fun σ H => g (.int (lo + i)) σ H fun σ2 H2 => tb { D with nx := N, ct := N, bk := D.nx } σ2 H2) (fun _ _ z => z) hN hi p) fun σ H p => hd (fun σ H => D.nx σ H) σ H (fun _ _ z => z) p
theorem ex6 {α0 : Sort _} {α1 : Sort _} {α2 : Sort _} {α3 : Sort _} {α4 : Sort _} {α5 : Sort _} {P : α0 → α1 → α2 → α3 → α4 → α5 → Prop} (a0 : α0) (a1 : α1) (a2 : α2) (a3 : α3) (a4 : α4) (a5 : α5) (h : P a0 a1 a2 a3 a4 a5) : ∃ a0 a1 a2 a3 a4 a5, P a0 a1 a2 a3 a4 a5 := ⟨a0, a1, a2, a3, a4, a5, h⟩
theorem ex7 {α0 : Sort _} {α1 : Sort _} {α2 : Sort _} {α3 : Sort _} {α4 : Sort _} {α5 : Sort _} {α6 : Sort _} {P : α0 → α1 → α2 → α3 → α4 → α5 → α6 → Prop} (a0 : α0) (a1 : α1) (a2 : α2) (a3 : α3) (a4 : α4) (a5 : α5) (a6 : α6) (h : P a0 a1 a2 a3 a4 a5 a6) : ∃ a0 a1 a2 a3 a4 a5 a6, P a0 a1 a2 a3 a4 a5 a6 := ⟨a0, a1, a2, a3, a4, a5, a6, h⟩
theorem ex8 {α0 : Sort _} {α1 : Sort _} {α2 : Sort _} {α3 : Sort _} {α4 : Sort _} {α5 : Sort _} {α6 : Sort _} {α7 : Sort _} {P : α0 → α1 → α2 → α3 → α4 → α5 → α6 → α7 → Prop} (a0 : α0) (a1 : α1) (a2 : α2) (a3 : α3) (a4 : α4) (a5 : α5) (a6 : α6) (a7 : α7) (h : P a0 a1 a2 a3 a4 a5 a6 a7) : ∃ a0 a1 a2 a3 a4 a5 a6 a7, P a0 a1 a2 a3 a4 a5 a6 a7 := ⟨a0, a1, a2, a3, a4, a5, a6, a7, h⟩
theorem ex12 {α0 : Sort _} {α1 : Sort _} {α2 : Sort _} {α3 : Sort _} {α4 : Sort _} {α5 : Sort _} {α6 : Sort _} {α7 : Sort _} {α8 : Sort _} {α9 : Sort _} {α10 : Sort _} {α11 : Sort _} {P : α0 → α1 → α2 → α3 → α4 → α5 → α6 → α7 → α8 → α9 → α10 → α11 → Prop} (a0 : α0) (a1 : α1) (a2 : α2) (a3 : α3) (a4 : α4) (a5 : α5) (a6 : α6) (a7 : α7) (a8 : α8) (a9 : α9) (a10 : α10) (a11 : α11) (h : P a0 a1 a2 a3 a4 a5 a6 a7 a8 a9 a10 a11) : ∃ a0 a1 a2 a3 a4 a5 a6 a7 a8 a9 a10 a11, P a0 a1 a2 a3 a4 a5 a6 a7 a8 a9 a10 a11 := ⟨a0, a1, a2, a3, a4, a5, a6, a7, a8, a9, a10, a11, h⟩
theorem an4 {p0 p1 p2 p3 : Prop} (h0 : p0) (h1 : p1) (h2 : p2) (h3 : p3) : p0 ∧ p1 ∧ p2 ∧ p3 := ⟨h0, h1, h2, h3⟩
theorem an5 {p0 p1 p2 p3 p4 : Prop} (h0 : p0) (h1 : p1) (h2 : p2) (h3 : p3) (h4 : p4) : p0 ∧ p1 ∧ p2 ∧ p3 ∧ p4 := ⟨h0, h1, h2, h3, h4⟩
theorem an6 {p0 p1 p2 p3 p4 p5 : Prop} (h0 : p0) (h1 : p1) (h2 : p2) (h3 : p3) (h4 : p4) (h5 : p5) : p0 ∧ p1 ∧ p2 ∧ p3 ∧ p4 ∧ p5 := ⟨h0, h1, h2, h3, h4, h5⟩
end L2
set_option Elab.async false
set_option linter.all false
set_option maxRecDepth 100000
namespace Pb
open L2 PySem
section
variable {m : Int} {rs : List Road} {r : Int} {par : Int → Int} {dep : Int → Nat}
variable {para parb parc : Int → Int} {depa depb depc : Int → Nat} {a b c : Int}
end
section
variable {m : Int} {rs : List Road} {r b : Int} {par : Int → Int} {dep : Int → Nat}
end
end Pb
set_option Elab.async false
set_option linter.all false
set_option maxRecDepth 100000
namespace Pb
open L2 PySem
section
variable {m : Int} {rs : List Road} {r b : Int} {par : Int → Int} {dep : Int → Nat}
end
end Pb
set_option Elab.async false
set_option linter.all false
namespace L2
open PySem
end L2
namespace Pb
open PySem L2
end Pb
set_option Elab.async false
set_option linter.all false
set_option maxRecDepth 100000
set_option exponentiation.threshold 5000
namespace Pb
open L2 PySem
section
variable {m : Int} {rs : List Road} {r : Int} {par : Int → Int} {dep : Int → Nat}
variable {op : Int → Int → Int} {held : Int → Int} {con : Int → Int → Int}
end
end Pb
set_option Elab.async false
set_option linter.all false
set_option maxRecDepth 100000
namespace L2
open PySem PySem.Spec PyProof.Rows
section
variable {X : Cx}
end
end L2
namespace Pb
end Pb
set_option Elab.async false
set_option linter.all false
set_option maxRecDepth 100000
namespace L2
open PySem PySem.Spec PyProof.Rows
theorem nth_ne {l : List Addr} (h : l.Nodup) (i j : Nat) {a b : Addr} (hi : l[i]? = some a) (hj : l[j]? = some b) (ij : i ≠ j) : a ≠ b := fun z => by
  subst z
  obtain ⟨h1, e1⟩ := List.getElem?_eq_some_iff.mp hi
  obtain ⟨h2, e2⟩ := List.getElem?_eq_some_iff.mp hj
  rcases Nat.lt_or_gt_of_ne ij with q | q
  · exact List.pairwise_iff_getElem.mp h i j h1 h2 q (e1.trans e2.symm)
  · exact List.pairwise_iff_getElem.mp h j i h2 h1 q (e2.trans e1.symm)
inductive ClsAll (K : PySem.W.Frag) (C : Addr) : List V → List Bool → Prop
  | nil : ClsAll K C [] []
  | cons {cv : V} {b : Bool} {cvs : List V} {bs : List Bool} (h : ClsV K C cv b) (t : ClsAll K C cvs bs) : ClsAll K C (cv :: cvs) (b :: bs)
theorem kit_any {K : PySem.W.Frag} {C : Addr} (c : XCls K C) : ∀ {cvs : List V} {us : List Value} {bs : List Bool}, Vals cvs us → ClsAll K C cvs bs → PySem.W.kitAny K (.ref C) us = some (bs.any id)
  | _, _, _, .nil, .nil => rfl
  | _, _, _, .cons r t, .cons (b := true) h hs => by
    unfold PySem.W.kitAny
    rw [kit_exc c r h]
    rfl
  | _, _, _, .cons r t, .cons (b := false) h hs => by
    unfold PySem.W.kitAny
    rw [kit_exc c r h]
    have h2 := kit_any c t hs
    exact h2
def rIsXT (K : PySem.W.Frag) : List V → Hp → VK → Prop := fun xs H Q => ∃ ea C od tp cvs bs, xs = [.ref ea, .ref tp] ∧ H ea = some (ExO ea (.ref C) od) ∧ XDict H od ∧ XCls K C ∧ H tp = some (.tup cvs) ∧ ClsAll K C cvs bs ∧ Q (.bl (bs.any id)) H
section
variable {X : Cx}
theorem call_isXT : CallR X (.builtin "isinstance") (rIsXT X.K) := by
  intro pins s σ H xs us Q I r h
  obtain ⟨ea, C, od, tp, cvs, bs, rfl, he, hd, c, ht, hk, q⟩ := h
  obtain ⟨u, cu, rfl, ru, rc⟩ := vals2 r
  cases (show u = Value.ref ea from ru)
  cases (show cu = Value.ref tp from rc)
  obtain ⟨ox, oo, ia⟩ := exc_inst I he hd
  obtain ⟨its, rv, ⟨⟨oc, odd, dat, sl⟩, e, e1, n, e2⟩, _⟩ := I.tuple (SqT.of ht)
  cases e1
  cases e2
  exact PySem.W.kia_tup (kitx_exc (x := ea) (ox := ox) (od := oo) c) I.kIn ia e (kit_any c rv hk) (fun z => nomatch z) fun tk => ⟨.bl (bs.any id), H, I.tok tk, rfl, q⟩
def eqT : Value → Bool
  | .bool b => b
  | _ => false
theorem eq_T {bs : List Bool} {its : List Value} (r : Vals (bs.map V.bl) its) : its = bs.map Value.bool := by
  induction bs generalizing its with
  | nil => cases r; rfl
  | cons b bs ih =>
    cases r with
    | cons h t =>
      rw [ih t, show _ = Value.bool b from h]
      rfl
theorem eqg_T (b : Bool) : PySem.MeetsSeq.EqGives (.bool b) (.bool true) b := fun prog w A E s Q h => by
  have := PySem.SeqAt.EqAt.bool_bool (A := A) (s := s) b true prog w E Q
  cases b
  · exact this h
  · exact this h
def rCountB : V → List V → Hp → VK → Prop := fun x vs H Q => ∃ (l : Addr) (bs : List Bool), x = .ref l ∧ vs = [.bl true] ∧ H l = some (.lst (bs.map V.bl)) ∧ Q (.int (bs.countP id : Nat)) H
theorem mt_countB : MtM X "list.count" rCountB := by
  intro pins s σ H x vs v us Q I rx rv h
  obtain ⟨l, bs, rfl, rfl, hH, q⟩ := h
  cases rx
  obtain ⟨u, rfl, ru⟩ := rv.one
  cases (show u = Value.bool true from ru)
  obtain ⟨z, its, n, r, hl, e⟩ := I.lstM hH
  have ei := eq_T r
  subst ei
  have hc : (bs.map Value.bool).countP eqT = bs.countP id := by
    rw [List.countP_map]
    rfl
  refine call_meets F.slot_list_count ⟨_, e, rfl⟩ F.entry_list_count (F.args_list_count_2 _ _) (PySem.MeetsSeq.list_count l (bs.map Value.bool).toArray n (.bool true) eqT (fun v hv => ?_)) ⟨e, ?_⟩
  · obtain ⟨b, _, rfl⟩ := List.mem_map.mp (show v ∈ bs.map Value.bool by simpa using hv)
    exact eqg_T b
  · refine ⟨.int _, H, I.kept (t' := s.toks + 1) fun b o eb => eb, ⟨s.toks, rfl⟩, ?_⟩
    show Q (.int (((bs.map Value.bool).toArray.toList.countP eqT : Nat) : Int)) H
    rw [List.toList_toArray, hc]
    exact q
def rIndexB : V → List V → Hp → VK → Prop := fun x vs H Q => ∃ (l : Addr) (bs : List Bool) (j : Nat), x = .ref l ∧ vs = [.bl true] ∧ H l = some (.lst (bs.map V.bl)) ∧ bs[j]? = some true ∧ (∀ i, i < j → bs[i]? = some false) ∧ j < 1000 ∧ Q (.int j) H
theorem mt_indexB : MtM X "list.index" rIndexB := by
  intro pins s σ H x vs v us Q I rx rv h
  obtain ⟨l, bs, j, rfl, rfl, hH, hj, hno, j1, q⟩ := h
  cases rx
  obtain ⟨u, rfl, ru⟩ := rv.one
  cases (show u = Value.bool true from ru)
  obtain ⟨z, its, n, r, hl, e⟩ := I.lstM hH
  have ei := eq_T r
  subst ei
  have hjl : j < bs.length := (List.getElem?_eq_some_iff.mp hj).1
  refine call_meets F.slot_list_index ⟨_, e, rfl⟩ F.entry_list_index (F.args_list_index_2 _ _) (PySem.MeetsSeq.list_index l (bs.map Value.bool).toArray n (.bool true) eqT (fun v hv => ?_) j (by simpa using hjl) (by omega) ?_ fun i hi hij => ?_) ⟨e, ?_⟩
  · obtain ⟨b, _, rfl⟩ := List.mem_map.mp (show v ∈ bs.map Value.bool by simpa using hv)
    exact eqg_T b
  · have := (List.getElem?_eq_some_iff.mp hj).2
    simp [eqT, this]
  · have hil : i < bs.length := by omega
    have := (List.getElem?_eq_some_iff.mp (hno i hij)).2
    simp [eqT, this]
  · exact ⟨.int j, H, I.kept (t' := s.toks + 1) fun b o eb => eb, ⟨s.toks, rfl⟩, q⟩
end
end L2
set_option Elab.async false
set_option linter.all false
set_option maxRecDepth 100000
namespace L2
open PySem PySem.Spec PyProof.Rows
section
variable {P : Program} {w : World} {A : Around} {R : Result → Shared → Prop} {I S : Addr} {fp wr : List Addr} {n : Nat} {Pv : Nat → Value → Prop} {St : Nat → Heap → Prop} {bt : Nat → Nat → Bool} {kw : List (Str × Value)}
end
section
variable {X : Cx} {x : Str} {p pos kpos : Pos} {e de : Expr} {t tk : TA}
def tMinD (K : PySem.W.Frag) (t tk : TA) : TE := fun σ H Q => t σ H fun vs H1 => tk σ H1 fun zs H2 => ∃ (q : Addr) (ns : List Int) (d : V), vs = [.ref q] ∧ zs = [d] ∧ SqL K H2 q (ns.map V.int) ∧ ns ≠ [] ∧ ∀ y, y ∈ ns → (∀ x ∈ ns, y ≤ x) → Q (.int y) H2
def tNotT (t : TE) : TE := fun σ H Q => t σ H fun x H1 => ∃ b, x = .bl b ∧ Q (.bl (b != true)) H1
end
end L2
set_option Elab.async false
set_option linter.all false
set_option maxRecDepth 100000
namespace Pb
open L2 PySem
section
variable {m : Int} {rs : List Road} {r : Int} {par : Int → Int} {dep : Int → Nat}
variable {ch : Int → Option Int} {w : Int} {cn : Int → Int}
end
end Pb
set_option Elab.async false
set_option linter.all false
set_option maxRecDepth 100000
namespace L2
open PySem PySem.Spec PyProof.Rows PySem.W
section
variable {n : Nat}
variable (hn : 0 < n)
include hn
end
section
variable {prog : Program} {w : World} {A : Around} {E : Value → Shared → Prop} {s : Shared}
end
end L2
set_option Elab.async false
set_option linter.all false
set_option maxRecDepth 100000
namespace L2
open PySem PySem.Spec PyProof.Rows PySem.W Pb
section
variable {prog : Program} {w : World} {A : Around} {E : Value → Shared → Prop} {s : Shared} {it d : Addr} {i ep : Nat} {es : Array DictEntry}
end
section
variable {prog : Program} {w : World} {A : Around} {E : Value → Shared → Prop} {s : Shared} {fin : Bool} {C : Bool → Shared → Prop}
end
section
variable {prog : Program} {w : World} {A : Around} {E : Value → Shared → Prop} {s : Shared}
end
section
variable {X : Cx}
end
end L2
set_option Elab.async false
set_option linter.all false
set_option maxRecDepth 100000
namespace L2
end L2
namespace Pb
open L2 PySem
section
variable {m : Int} {rs : List Road} {r : Int} {par : Int → Int} {dep : Int → Nat}
end
section
end
end Pb
set_option Elab.async false
set_option linter.all false
set_option maxRecDepth 100000
namespace L2
open PySem PySem.Spec PyProof.Rows
def tDispT (tk tv : TE) : TE := fun σ H Q => ∀ p, H p = none → tPairs [(tk, tv)] σ (upd H p (.dT [])) fun ps H2 => H2 p = some (.dT []) ∧ ∃ (k : List Key) (b : Addr) (y : V), ps = [(.ref b, y)] ∧ H2 b = some (.tup (k.map kV)) ∧ Q (.ref p) (upd H2 p (.dT [(k, y)]))
end L2
set_option Elab.async false
set_option linter.all false
set_option maxRecDepth 100000
namespace Pb
open L2 PySem
end Pb
namespace Pb
open L2 PySem
section
variable {m : Int} {rs : List Road} {xs : List Int}
variable {r : Int} {par : Int → Int} {dep : Int → Nat}
end
end Pb
set_option Elab.async false
set_option linter.all false
set_option maxRecDepth 100000
namespace L2
open PySem PySem.Spec PyProof.Rows Pb
section
variable {X : Cx}
end
end L2
set_option Elab.async false
set_option linter.all false
set_option maxRecDepth 100000
namespace L2
open PySem PySem.Spec PyProof.Rows
end L2
namespace Pb
end Pb
namespace L2
open PySem Pb
end L2
namespace L2
open PySem
end L2
namespace L2
open PySem
end L2
namespace L2
open PySem PySem.Spec PyProof.Rows Pb
end L2
namespace L2
open PySem
end L2
set_option Elab.async false
set_option linter.all false
set_option maxRecDepth 100000
namespace Pb
open L2 PySem
section
variable {m : Int} {rs : List Road} {r : Int} {par : Int → Int} {dep : Int → Nat}
end
section
variable {m : Int} {rs : List Road} {xs : List Int}
end
end Pb
set_option Elab.async false
set_option linter.all false
set_option maxRecDepth 100000
namespace L2
open PySem PySem.Spec PyProof.Rows PySem.W Pb
section
variable {X : Cx} {pins : List (Addr × Obj)} {σ : St} {H : Hp} {s : Shared}
end
def Itd (d : Addr) (o : Obj) (kvs : List (List Key × V)) : It :=
  ⟨fun i H => H d = some (.frz o (.dT kvs)) ∧ i < kvs.length, fun i H x H' => H' = H ∧ ∃ (q : Addr) (k : List Key) (v : V), x = .ref q ∧ kvs[i]? = some (k, v) ∧ H q = some (.tup (k.map kV)), fun i H => H d = some (.frz o (.dT kvs)) ∧ i = kvs.length⟩
def tForD (tl : TE) (g : TG) (tb : TS) : TS := fun D σ H => tl σ H fun x H1 => ∃ (d : Addr) (kvs : List (List Key × V)), x = .ref d ∧ H1 d = some (.dT kvs) ∧
  ∀ o, ForGo (Itd d o kvs) { D with nx := fun σ' H' => H' d = some (.frz o (.dT kvs)) ∧ D.nx σ' (upd H' d (.dT kvs)) } g tb σ (upd H1 d (.frz o (.dT kvs)))
section
variable {X : Cx} {tg : Expr}
end
end L2
set_option Elab.async false
set_option linter.all false
set_option maxRecDepth 100000
namespace Pb
open L2 PySem
section
variable {α β : Type}
end
section
variable {m : Int} {rs : List Road} {r : Int} {par : Int → Int} {dep : Int → Nat}
end
end Pb
namespace Pb
open L2 PySem
section
variable {m : Int} {rs : List Road} {r : Int} {par : Int → Int} {dep : Int → Nat} {to : Bool}
end
end Pb
namespace Pb
open L2 PySem
end Pb
namespace Pb
open L2 PySem
end Pb
set_option Elab.async false
set_option linter.all false
set_option maxRecDepth 100000
namespace L2
open PySem PySem.Spec PyProof.Rows
section
variable {X : Cx} {cx : Str} {Nc : List Str} {own : Nat} {js : List Nat} {scope : Scope} {cl : List (Str × Addr)}
end
section
variable {X : Cx} {cx : Str} {Nc : List Str} {own : Nat} {js : List Nat} {scope : Scope} {cl : List (Str × Addr)}
end
end L2
set_option Elab.async false
set_option linter.all false
set_option maxRecDepth 100000
namespace L2
open PySem PySem.Spec PyProof.Rows PySem.W
section
variable {X : Cx}
end
def Its (z : Str) : It := ⟨fun i _ => i < z.cps.size, fun i H x H' => H' = H ∧ ∃ c, z.cps[i]? = some c ∧ x = .str ⟨#[c]⟩, fun i _ => z.cps.size ≤ i⟩
section
variable {X : Cx} {tg : Expr}
def iStr (tl : TE) : TI := fun σ H R => tl σ H fun x H1 => ∃ z, x = .str z ∧ z.cps.all (· < 128) = true ∧ R (Its z) H1
end
section
variable {P : Program} {w : World} {A : Around} {E : Value → Shared → Prop} {s : Shared}
end
section
variable {X : Cx} {e : Expr} {te : TE} {p2 apos cpos pos2 : Pos} {z : Str} {zp : Pos} {zk : Nat}
def tJoinR (K : PySem.W.Frag) (z : Str) (te : TE) : TE := fun σ H Q => te σ H fun x H1 => ∃ (a : Addr) (ys : List Str), x = .ref a ∧ SqL K H1 a (ys.map V.str) ∧ (ys.map (·.length)).sum + ys.length * z.length ≤ 16777216 ∧ Q (.str (Str.join z ys.reverse)) H1
end
end L2
set_option Elab.async false
set_option linter.all false
set_option maxRecDepth 100000
namespace Pb
open L2 PySem PySem.W NumText
end Pb
set_option Elab.async false
set_option linter.all false
set_option maxRecDepth 100000
namespace L2
open PySem PySem.Spec PyProof.Rows PySem.W
end L2
namespace Pb
open L2 PySem PySem.W NumText
open PySem.StrLaws (At ChainG occ_tight partsBetween_eq partsFrom strSub_toList subAt_eq sub_whole)
section
variable {X : Str} {u c v : Nat}
end
end Pb
set_option Elab.async false
set_option linter.all false
set_option maxRecDepth 100000
namespace L2
open PySem PySem.Spec PyProof.Rows PySem.W
end L2
namespace Pb
open L2 PySem PySem.W NumText
end Pb
set_option Elab.async false
set_option linter.all false
set_option maxRecDepth 100000
namespace Pb
open L2 PySem
section
variable {m : Int} {rs : List Road} {r : Int} {par : Int → Int} {dep : Int → Nat} {held : Int → Int}
end
end Pb
set_option Elab.async false
set_option linter.all false
set_option maxRecDepth 100000
namespace L2
open PySem PySem.Spec PyProof.Rows
section
variable {prog : Program} {w : World} {A : Around} {E : Value → Shared → Prop} {R : Result → Shared → Prop} {s : Shared}
end
section
variable {M : Model} {A : Around} {E : Value → Shared → Prop} {s : Shared} {Q : Unit → Shared → Prop} {fs : List Addr} {ea T L : Addr} {cls fl hd : Value} {od : Option Addr} {base : Heap} {env : Env} {outer : List Env}
end
section
variable {P : Program} {w : World} {K : PySem.W.Frag} {mg : Str → Option Value} {base : Heap} {N : List Str} {qual : Str} {scope : Scope} {f : Addr} {cd : Value} {A : Around} {outer : List Env} {s : Shared} {H : Hp} {E : XK}
end
section
variable {X : Cx} {Nc : List Str} {own : Nat} {js : List Nat} {scope : Scope} {cl : List (Str × Addr)}
end
section
variable {X : Cx} {Nc : List Str} {own : Nat} {js : List Nat} {scope : Scope} {cl : List (Str × Addr)}
end
section
variable {X : Cx}
theorem call_isXK (K : PySem.W.Frag) (h : X.K = K) : CallR X (.builtin "isinstance") (rIsX K) := by subst h; exact call_isX
end
end L2
set_option Elab.async false
set_option linter.all false
set_option maxRecDepth 100000
namespace L2
open PySem PySem.Spec PyProof.Rows
section
variable {prog : Program} {w : World} {A : Around} {E : Value → Shared → Prop} {h : Heap} {g : Array GenState} {d : Drawn} {t : Nat} {os : OsState}
variable {nm q : Str} {C N : Addr} {bs bm bmB : List Value} {hdct : Bool} {sn : List Str} {sub : List Value} {ab : Bool} {col : Option Bool} {dd : Option Addr} {k0 k1 k2 k3 k5 : Option Value} {B newId initId : String}
theorem type_call_initT (F : ExcBaseFacts B newId initId bmB) (T : OwnTail h bmB bm) {mN : Str → Option Value} {rest : List Value} {fI : Addr} {oI : Obj} {Q : Fin → Shared → Prop}
    (hC : h.get? C = some (excClassObj nm q C N bs bm hdct sn sub ab col dd k0 k1 k2 k3 k5 newId)) (hn : h.Ns N mN) (hi : mN "__init__" = some (.ref fI)) (hfI : h.get? fI = some oI) (hfc : oI.cls = .type "function")
    (hq : ∀ h' e, Heap.MadeExcOf h h' e (.ref C) rest → wpAny (model prog w) A (call (.ref fI) (.ref e :: rest)) (fun r s' => r = .none ∧ Q (.done (.ret (.ref e))) s') E ⟨h', g, d, t, os⟩) (hrest : rest.length ≤ sizeLine) :
    wpAny (model prog w) A (Builtin.«type.__call__» ⟨.ref C :: rest, []⟩) Q E ⟨h, g, d, t, os⟩ := by
  repeat (first | with_reducible refine wpAny_loadPart_at hC ?_ | with_reducible refine wpAny_madeBy_exc hC ?_ | wp_step)
  refine codeAny_call_builtin_code (Code.quiet_builtin _ F.quiet) (wpAny_check_new_subT F T hC ?_)
  refine codeAny_exc_new_subT F T hC ?_ hrest
  show wpAny _ _ _ _ _ _
  have up : ∀ b o, h.get? b = some o → ((h.push { cls := .type "tuple", data := .seq rest.toArray }).push { cls := .ref C, data := .fields #[.ref h.objs.size, .none, .none, .none, .bool false, .none] }).get? b = some o := fun b o e => Heap.get?_push_of_some _ (Heap.get?_push_of_some _ e)
  have hC1 := up _ _ hC
  have hf1 := up _ _ hfI
  have hn1 := hn.keeps up
  have T1 := T.keeps up
  have hget : ((h.push { cls := .type "tuple", data := .seq rest.toArray }).push { cls := .ref C, data := .fields #[.ref h.objs.size, .none, .none, .none, .bool false, .none] }).get? (h.objs.size + 1) = some { cls := .ref C, data := .fields #[.ref h.objs.size, .none, .none, .none, .bool false, .none] } := by heap_get
  have hcC : (Value.ref C :: bm).contains (.ref C) = true := by simp
  unfold isInstance
  repeat (first | with_reducible refine wpAny_loadPart_at hget ?_ | (with_reducible refine wpAny_isSubtype_exc hC1 ?_; rw [hcC]) | wp_step)
  show wpAny _ _ (typeLookup (.ref C) _) _ _ _
  refine wpAny_typeLookup_tail hC1 hn1 T1 F.mroIs F.init.lookup ?_
  rw [hi]
  refine wpAny_holding (wpAny_bind ?_)
  unfold bindSpecial
  refine wpAny_bind (wpAny_typeOf (T := "function") ⟨_, hf1, hfc⟩ ?_)
  rw [if_pos (by decide)]
  refine wpAny_pure (wpAny_bind (wpAny_mono (hq _ (h.objs.size + 1) ⟨up, Heap.get?_none_of_le (Nat.le_succ _), h.objs.size, hget, Heap.get?_none_of_le (Nat.le_refl _), ?_⟩) (fun r s' hr => ?_) fun _ _ x => x))
  · exact Heap.get?_push_of_some _ (Heap.get?_push_at rfl rfl)
  · obtain ⟨rfl, hQ⟩ := hr
    wp_walk
    exact hQ
theorem call_initT (F : ExcBaseFacts B newId initId bmB) (T : OwnTail h bmB bm) {mN : Str → Option Value} {rest : List Value} {fI : Addr} {oI : Obj} {Q : Value → Shared → Prop}
    (hC : h.get? C = some (excClassObj nm q C N bs bm hdct sn sub ab col dd k0 k1 k2 k3 k5 newId)) (hn : h.Ns N mN) (hi : mN "__init__" = some (.ref fI)) (hfI : h.get? fI = some oI) (hfc : oI.cls = .type "function")
    (hq : ∀ h' e, Heap.MadeExcOf h h' e (.ref C) rest → wpAny (model prog w) (A.under (.builtin "type.__call__" ⟨.ref C :: rest, []⟩)) (call (.ref fI) (.ref e :: rest)) (fun r s' => r = .none ∧ Q (.ref e) s') E ⟨h', g, d, t, os⟩) (hrest : rest.length ≤ sizeLine) :
    wpAny (model prog w) A (call (.ref C) rest) Q E ⟨h, g, d, t, os⟩ := by
  have f1 := tc_lookup
  have f2 := tc_bind (.ref C)
  have hT : (⟨h, g, d, t, os⟩ : Shared).TypeIs (.ref C) "type" := ⟨_, hC, rfl⟩
  refine wpAny_call (codeAny_of_tree ?_)
  show wpAny _ _ (callAny (.ref C) _) _ _ _
  repeat (any_goals (first | assumption | with_reducible refine wpAny_loadPart_at hC ?_ | wp_step))
  refine ⟨rfl, ?_⟩
  refine codeAny_call_builtin_at (Code.quiet_builtin _ (by decide +kernel)) entry_typeCall (wpAny_check_type_call_sub hC (type_call_initT F T hC hn hi hfI hfc (fun h' e hm => ?_) hrest))
  exact hq h' e hm
end
section
variable {M : Model} {A : Around} {E : Value → Shared → Prop} {env : Env}
variable {nm q : Str} {C N : Addr} {bs bm : List Value} {hdct : Bool} {sn : List Str} {sub : List Value} {ab : Bool} {col : Option Bool} {dd : Option Addr} {k0 k1 k2 k3 k5 : Option Value} {newId : String}
theorem raise_made {s : Shared} {x : Sem Value} {Q : Flow → Shared → Prop} (hbase : bm.contains (.type "BaseException") = true) (hh : A.handled = none)
    (h : wpAny M A x (fun v s₁ => ∃ e a0 od sl, v = .ref e ∧ s₁.heap.get? C = some (excClassObj nm q C N bs bm hdct sn sub ab col dd k0 k1 k2 k3 k5 newId) ∧
      s₁.heap.get? e = some { cls := .ref C, dict := od, data := .fields #[a0, .none, .none, .none, .bool false, .none], slots := sl } ∧ E (.ref e) s₁) E s) :
    wpAny M A (raiseStmt env (some x) none) Q E s := by
  have hcB : (Value.ref C :: bm).contains (.type "BaseException") = true := by rw [List.contains_cons, hbase, Bool.or_true]
  unfold raiseStmt
  refine wpAny_bind (wpAny_mono h (fun v s₁ h₁ => ?_) fun _ _ x => x)
  obtain ⟨e, a0, od, sl, rfl, hC, he, hE⟩ := h₁
  obtain ⟨hp, g, d, tk, os⟩ := s₁
  repeat (first | with_reducible refine wpAny_loadPart_at he ?_ | with_reducible refine wpAny_loadPart_at hC ?_ | (with_reducible refine wpAny_isSubtype_exc hC ?_; rw [hcB]) | wp_step)
  exact wpAny_raiseNew_none hh hE
end
section
variable {prog : Program} {w : World} {A : Around} {E : Value → Shared → Prop} {s : Shared} {env : Env}
variable {nm q : Str} {C N : Addr} {bs bm bmB : List Value} {hdct : Bool} {sn : List Str} {sub : List Value} {ab : Bool} {col : Option Bool} {dd : Option Addr} {k0 k1 k2 k3 k5 : Option Value} {B newId initId : String}
theorem raise_call_initT (F : ExcBaseFacts B newId initId bmB) {x : Str} {np cpos pos : Pos} {args : List Expr} {Q : Flow → Shared → Prop}
    (hbase : bm.contains (.type "BaseException") = true) (hh : A.handled = none) (hplain : (backTo cpos (starEach args env)).any (·.1) = false)
    (h : wpAny (model prog w) A (eval (.Name x np) env) (fun f s₁ => f = .ref C ∧ wpAny (model prog w) A (evalArgs (.ref C) true (backTo cpos (starEach args env)) [])
      (fun a s₂ => a.kw = [] ∧ a.pos.length ≤ sizeLine ∧ ∃ mN fI oI, s₂.heap.get? C = some (excClassObj nm q C N bs bm hdct sn sub ab col dd k0 k1 k2 k3 k5 newId) ∧ s₂.heap.Ns N mN ∧ OwnTail s₂.heap bmB bm ∧ mN "__init__" = some (.ref fI) ∧ s₂.heap.get? fI = some oI ∧ oI.cls = .type "function" ∧
        ∀ h' e, Heap.MadeExcOf s₂.heap h' e (.ref C) a.pos → wpAny (model prog w) (A.under (.builtin "type.__call__" ⟨.ref C :: a.pos, []⟩)) (call (.ref fI) (.ref e :: a.pos)) (fun r s' => r = .none ∧
          s'.heap.get? C = some (excClassObj nm q C N bs bm hdct sn sub ab col dd k0 k1 k2 k3 k5 newId) ∧ (∃ a0 od sl, s'.heap.get? e = some { cls := .ref C, dict := od, data := .fields #[a0, .none, .none, .none, .bool false, .none], slots := sl }) ∧ E (.ref e) s') E { s₂ with heap := h' }) E s₁) E s) :
    wpAny (model prog w) A (exec (.Raise (some (.Call (.Name x np) args [] cpos)) none pos) env) Q E s := by
  rw [arm_exec_Raise]
  first
    | refine wpAny_bind (wpAny_standAt (raise_made (C := C) (nm := nm) (q := q) (N := N) (bs := bs) (bm := bm) (hdct := hdct) (sn := sn) (sub := sub) (ab := ab) (col := col) (dd := dd) (k0 := k0) (k1 := k1) (k2 := k2) (k3 := k3) (k5 := k5) (newId := newId) hbase hh (wpAny_bind (wpAny_mono (wpAny_Call_ofName (wpAny_mono h (fun f s₁ h₁ => ?_) fun _ _ x => x)) (fun v s₃ h₃ => wpAny_bind (wpAny_standAt (wpAny_pure h₃))) fun _ _ x => x))))
    | (simp only [evalOpt, Option.map]; refine wpAny_bind (wpAny_standAt (raise_made (C := C) (nm := nm) (q := q) (N := N) (bs := bs) (bm := bm) (hdct := hdct) (sn := sn) (sub := sub) (ab := ab) (col := col) (dd := dd) (k0 := k0) (k1 := k1) (k2 := k2) (k3 := k3) (k5 := k5) (newId := newId) hbase hh (wpAny_bind (wpAny_mono (wpAny_Call_ofName (wpAny_mono h (fun f s₁ h₁ => ?_) fun _ _ x => x)) (fun v s₃ h₃ => wpAny_bind (wpAny_standAt (wpAny_pure h₃))) fun _ _ x => x)))))
    | (refine wpAny_bind (wpAny_standAt (raise_made (C := C) (nm := nm) (q := q) (N := N) (bs := bs) (bm := bm) (hdct := hdct) (sn := sn) (sub := sub) (ab := ab) (col := col) (dd := dd) (k0 := k0) (k1 := k1) (k2 := k2) (k3 := k3) (k5 := k5) (newId := newId) hbase hh ?_)); refine wpAny_bind (wpAny_mono (wpAny_Call_ofName (wpAny_mono h (fun f s₁ h₁ => ?_) fun _ _ x => x)) (fun v s₃ h₃ => wpAny_bind (wpAny_standAt (wpAny_pure h₃))) fun _ _ x => x))
  obtain ⟨rfl, h₁⟩ := h₁
  unfold callWith
  refine wpAny_bind (wpAny_holding (wpAny_mono h₁ (fun a s₂ h₂ => wpAny_bind (wpAny_standAt ?_)) fun _ _ x => x))
  obtain ⟨apos, akw⟩ := a
  obtain ⟨hkw, hlen, mN, fI, oI, hC, hn, T, hi, hf, hfc, h₂⟩ := h₂
  obtain rfl : akw = [] := hkw
  obtain ⟨hp, g, d, tk, os⟩ := s₂
  simp only [hplain]
  refine wpAny_bind (wpAny_keeperOf_exc hC ?_)
  refine wpAny_bind (call_initT F T hC hn hi hf hfc (fun h' e hm => wpAny_mono (h₂ h' e hm) (fun r s' hr => ⟨hr.1, wpAny_bind (wpAny_holding (wpAny_point (wpAny_pure ?_)))⟩) fun _ _ y => y) hlen)
  obtain ⟨_, c1, ⟨a0, od, sl, c2⟩, c3⟩ := hr
  exact ⟨e, a0, od, sl, rfl, c1, c2, c3⟩
end
def ExN (ea : Addr) (cls : Value) (od : Option Addr) : HO := .ext fun h => ∃ a0 sl, h.get? ea = some { cls := cls, dict := od, data := .fields #[a0, .none, .none, .none, .bool false, .none], slots := sl }
def del (H : Hp) (a : Addr) : Hp := fun b => if b = a then none else H b
theorem del_ne {H : Hp} {a b : Addr} (h : b ≠ a) : del H a b = H b := if_neg h
theorem del_same {H : Hp} {a : Addr} : del H a a = none := if_pos rfl
section
variable {X : Cx} {pins : List (Addr × Obj)} {σ : St} {H : Hp} {s : Shared}
theorem Inv.trackN {ea : Addr} {cls : Value} {od : Option Addr} (I : Inv X pins σ H s) (l : Loose X pins H ea) (e : ∃ a0 sl, s.heap.get? ea = some { cls := cls, dict := od, data := .fields #[a0, .none, .none, .none, .bool false, .none], slots := sl }) : Inv X pins σ (upd H ea (ExN ea cls od)) s := by
  have ne : ∀ b, b ≠ ea → upd H ea (ExN ea cls od) b = H b := fun b z => upd_ne z
  have nt : ∀ b u, H b = some u → upd H ea (ExN ea cls od) b = some u := fun b u z => by rw [ne b (ne_of_none z l.un)]; exact z
  refine ⟨I.ok, I.os, I.bare, ⟨I.base.keep, I.base.slot, fun b o q n x => ?_, I.base.there, fun b xs q => nt _ _ (I.base.tups b xs q), fun b o u q => nt _ _ (I.base.frzs b o u q), fun b ps q => ?_⟩, I.loc, I.cell, ?_, fun x c q => ?_, fun p hp => ?_, ?_, I.len⟩
  · rw [ne b (by rintro rfl; rw [l.new] at q; cases q)]
    exact I.base.free b o q n x
  · obtain ⟨more, z⟩ := I.base.tbls b ps q
    exact ⟨more, nt _ _ z⟩
  · rw [ne _ (Ne.symm l.loc)]
    exact I.free
  · rw [ne _ (l.cel x c q)]
    exact I.freeC x c q
  · obtain ⟨z1, z2, z3, z4, z5⟩ := I.pin p hp
    exact ⟨z1, by rw [ne _ (l.pin p hp)]; exact z2, z3, z4, z5⟩
  · intro b u q
    by_cases z : b = ea
    · subst z
      rw [upd_same] at q
      cases q
      obtain ⟨a0, sl, h1⟩ := e
      refine ⟨⟨a0, sl, h1⟩, ⟨_, h1⟩, ?_⟩
      rintro g1 g2 ⟨a, l, a1⟩ kk
      exact ⟨a, l, kk _ a1⟩
    · rw [ne b z] at q
      exact (I.hok b u q).stay (fun _ _ _ r => r) (fun c r => nt _ _ r) fun c xs r => nt _ _ r
theorem Inv.untrack {ea : Addr} {φ : Heap → Prop} (I : Inv X pins σ H s) (e : H ea = some (.ext φ)) : Inv X pins σ (del H ea) s := by
  have nt : ∀ b u, H b = some u → b ≠ ea → del H ea b = some u := fun b u z n => by rw [del_ne n]; exact z
  have nn : ∀ b, H b = none → del H ea b = none := fun b z => by
    by_cases q : b = ea
    · rw [q, del_same]
    · rw [del_ne q]; exact z
  refine ⟨I.ok, I.os, I.bare, ⟨I.base.keep, I.base.slot, fun b o q n x => nn _ (I.base.free b o q n x), I.base.there, fun b xs q => ?_, fun b o u q => ?_, fun b ps q => ?_⟩, I.loc, I.cell, nn _ I.free, fun x c q => nn _ (I.freeC x c q), fun p hp => ?_, ?_, I.len⟩
  · have z := I.base.tups b xs q
    exact nt _ _ z (by rintro rfl; rw [e] at z; cases z)
  · have z := I.base.frzs b o u q
    exact nt _ _ z (by rintro rfl; rw [e] at z; cases z)
  · obtain ⟨more, z⟩ := I.base.tbls b ps q
    exact ⟨more, nt _ _ z (by rintro rfl; rw [e] at z; cases z)⟩
  · obtain ⟨z1, z2, z3, z4, z5⟩ := I.pin p hp
    exact ⟨z1, nn _ z2, z3, z4, z5⟩
  · intro b u q
    have nb : b ≠ ea := by rintro rfl; rw [del_same] at q; cases q
    rw [del_ne nb] at q
    exact (I.hok b u q).stay (fun _ _ _ r => r) (fun c r => nt _ _ r (by rintro rfl; rw [e] at r; cases r)) fun c xs r => nt _ _ r (by rintro rfl; rw [e] at r; cases r)
end
def RaisesL (X : Cx) (E : XK) : Prop := ∀ (pins : List (Addr × Obj)) (σ : St) (H : Hp) (s : Shared) (ea : Addr) (cls : Value) (od : Option Addr), Inv X pins σ H s → ErrO s.heap ea cls od .none → Loose X pins H ea → E cls od H → X.xe (.ref ea) s
section
variable {P : Program} {w : World} {K : PySem.W.Frag} {mg : Str → Option Value} {base : Heap} {N : List Str} {qual : Str} {scope : Scope} {f : Addr} {cd : Value} {A : Around} {outer : List Env} {s : Shared} {H : Hp} {E : XK}
theorem raisesL : RaisesL (cxOf (CXe P w) P w K mg base N qual scope f cd A outer s H E) E := by
  intro pins σ H1 s1 ea cls od J er le q
  refine st_leave1 (base := base) J.ok.frames J.stack rfl er fun h2 T' er' k nT => ?_
  have fr : ∀ b ∈ frs (envOfC qual scope s.heap.objs.size f cd :: outer), H1 b = none := J.stkFree
  refine ⟨ea, T', cls, od, H1, rfl, J.os, J.bare, un_leave J k ?_, kept_hok J.hok k fr ?_, le.un, untr J.hok nT, le.new, inv_old J nT, er', q⟩
  · intro b hb
    rw [List.mem_singleton.mp hb]
    exact le.new
  · intro b hb
    rw [List.mem_singleton.mp hb]
    exact le.un
end
theorem ns_some_of {K : PySem.W.Frag} {h : Heap} {N : Addr} {mg : Str → Option Value} {n : Str} {v : Value} (X : K.In h) (G : h.Ns N mg) (e : PySem.W.nsIn K N n = some (some v)) : mg n = some v := by
  obtain ⟨o, es, ep, ho, hd, _, hf⟩ := G
  unfold PySem.W.nsIn at e
  split at e
  · rename_i c d es' n' sl q
    have := X _ _ q
    rw [ho] at this
    cases this
    cases hd
    split at e
    · rename_i en he
      cases e
      rw [← hf]
      unfold nsFind findBy
      rw [← Array.find?_toList, he]
      rfl
    · rename_i he
      split at e <;> cases e
  · cases e
def XObjI (K : PySem.W.Frag) (C fI : Addr) : Prop := ∃ (nm qn : Str) (N : Addr) (bs bm : List Value) (hdct : Bool) (sn : List Str) (sub : List Value) (ab : Bool) (col : Option Bool) (dd : Option Addr) (k0 k1 k2 k3 k5 : Option Value),
    K.lookup C = some (excClassObj nm qn C N bs bm hdct sn sub ab col dd k0 k1 k2 k3 k5 "ValueError.__new__") ∧ PySem.W.nsOkIn K N = true ∧ PySem.W.nsIn K N "__init__" = some (some (.ref fI)) ∧ PySem.W.tailIn K bmV bm = true ∧ PySem.W.isFn K (.ref fI) = true
def tRaiseI (C : Addr) (sp : Sp) (E : XK) (t : TA) : TS := fun _ σ H => t σ H fun vs H1 => vs.length ≤ sizeLine ∧ ∀ ea, H1 ea = none → sp (.ref ea :: vs) (upd H1 ea (ExN ea (.ref C) none)) (fun v H2 => v = .non ∧ ∃ od, H2 ea = some (ExN ea (.ref C) od) ∧ E (.ref C) od (del H2 ea)) fun _ _ _ => False
section
variable {X : Cx} {x : Str} {np cpos pos : Pos} {e0 : Expr} {es : List Expr} {t : TA} {C fI : Addr} {E : XK} {CX : CXT} {k : Nat} {fd : FuncData} {ps : List Str} {sp : Sp}
theorem ps_raiseI (q : XObjI X.K C fI) (F : FnOk X.prog X.w X.K X.mg X.base CX k fI fd ps sp) (hq : Quiet CX) (hr : Room (k + 1) X.A) (hb : Binds X.K fd ps []) (hx : X.ex = []) (hc : X.calm = true) (hR : RaisesL X E) (hg : Gl X x) (hm : X.mg x = some (.ref C)) (ha : PA X (e0 :: es) t) (hdb : (x == ("__debug__" : Str)) = false := by decide)
    (he : starEach (e0 :: es) X.env = (false, eval e0 X.env) :: starEach es X.env := by rfl) (hpl : (backTo cpos (starEach es X.env)).any (·.1) = false := by rfl) : PS X (.Raise (some (.Call (.Name x np) (e0 :: es) [] cpos)) none pos) (tRaiseI C sp E t) := by
  intro pins s σ H D I h
  obtain ⟨nm, qn, N, bs, bm, hdct, sn, sub, ab, col, dd, k0, k1, k2, k3, k5, ho, z5, z6, z4, z7⟩ := q
  have B := I.mod.kin
  have T0 := PySem.W.tail_of_in B z4
  have N0 : X.base.Ns N (X.base.nsMap N) := .of_isNs (PySem.W.isNs_of_in B z5)
  have n0 := ns_some_of B N0 z6
  obtain ⟨oI, lI, cI⟩ : ∃ oI, X.K.lookup fI = some oI ∧ oI.cls = .type "function" := by
    have z := beq_iff_eq.mp z7
    unfold PySem.W.typeIn at z
    exact Option.map_eq_some_iff.mp z
  have hp : (backTo cpos (starEach (e0 :: es) X.env)).any (·.1) = false := by
    rw [he]
    show (false || (backTo cpos (starEach es X.env)).any (·.1)) = false
    rw [hpl]
    rfl
  refine raise_call_initT (C := C) (nm := nm) (q := qn) (N := N) (bs := bs) (bm := bm) (hdct := hdct) (sn := sn) (sub := sub) (ab := ab) (col := col) (dd := dd) (k0 := k0) (k1 := k1) (k2 := k2) (k3 := k3) (k5 := k5) PySem.F.excBase_ValueError
    (T0.hasType (by decide +kernel)) (I.ok.hd hc) hp (ld_glob I hg hm ⟨rfl, ?_⟩ hdb)
  have g := ha cpos pins s σ H _ I h
  rw [he] at g ⊢
  refine Calls.evalArgs_plain (thn g fun us s1 ⟨vs, H1, I1, r1, q1⟩ => ⟨rfl, by show us.length ≤ _; rw [← r1.length]; exact q1.1, X.base.nsMap N, fI, oI, I1.bk _ _ (B _ _ ho), N0.keeps I1.bk, T0.keeps I1.bk, n0, I1.bk _ _ (B _ _ lI), cI, fun h' ea m => ?_⟩)
  obtain ⟨tt, m1, _, _⟩ := m.there
  have le : Loose X pins H1 ea := by
    obtain ⟨a1, a2, a3⟩ := I1.apart m.new
    refine ⟨untr I1.hok m.new, ?_, a1, a2, a3⟩
    rcases I1.young m.new with y | y
    · exact y
    · rw [hx] at y; cases y
  have I2 : Inv X pins σ (upd H1 ea (ExN ea (.ref C) none)) { s1 with heap := h' } := Inv.trackN (I1.kept (t' := s1.toks) m.keeps) le ⟨_, _, m1⟩
  have sp1 := q1.2 ea le.un
  have r2 : Vals (V.ref ea :: vs) (Value.ref ea :: us) := .cons rfl r1
  have hl : (Value.ref ea :: us).length = ps.length := by rw [← r2.length]; exact F.len _ _ _ _ sp1
  refine wpAny_call (codeAny_mono (F.run _ X.stack _ _ ⟨Value.ref ea :: us, []⟩ (Value.ref ea :: us) _ _ _ (hr.make C us []) (I2.env0.make C us []) (by have := hb { s1 with heap := h' } (Value.ref ea :: us) I2.kIn (by rw [List.append_nil]; exact hl); rw [List.append_nil] at this; exact this) r2 sp1) fun r s' hq' => ?_)
  cases r with
  | error e => exact (hq _ _ _ _ _ hq').elim
  | ok fl =>
    cases fl with
    | ret u =>
      obtain ⟨v, H', I3, rv, ev, od, e3, q3⟩ := I2.after hq'
      subst ev
      obtain rfl : u = Value.none := rv
      obtain ⟨⟨a0, sl, e4⟩, _, _⟩ := (show ObjOk X.prog X.w H' s'.heap ea (ExN ea (.ref C) od) from I3.hok ea _ e3)
      refine ⟨rfl, I3.bk _ _ (B _ _ ho), ⟨a0, od, sl, e4⟩, ?_⟩
      refine hR pins σ (del H' ea) s' ea (.ref C) od (I3.untrack e3) ⟨_, _, e4, rfl, rfl, rfl, rfl⟩ ⟨del_same, le.new, le.loc, le.cel, le.pin⟩ q3
    | next => exact False.elim hq'
    | brk => exact False.elim hq'
    | cont => exact False.elim hq'
end
structure BaseIn (K : PySem.W.Frag) (Tl : Addr) : Prop where
  ga : PySem.W.specialIn K (.ref Tl) "__getattribute__" = some (some (.builtin "type.__getattribute__"))
  rd : PySem.W.readsIn K Tl (.type "type") = true
  fd : PySem.W.findCls K (.ref Tl) (.type "type") "__init__" = some (.val (.builtin "ValueError.__init__"))
def tBaseInit (K : PySem.W.Frag) (t : TA) : TE := fun σ H Q => t σ H fun vs H1 => ∃ ea C fI od rest, vs = .ref ea :: rest ∧ rest.length ≤ sizeLine ∧ XObjI K C fI ∧ H1 ea = some (ExN ea (.ref C) od) ∧ Q .non H1
section
variable {X : Cx} {x : Str} {np apos pos : Pos} {e0 : Expr} {es : List Expr} {t : TA} {Tl : Addr} {pl : Sem Bool}
theorem pe_baseInit (b : BaseIn X.K Tl) (hg : Gl X x) (hm : X.mg x = some (.ref Tl)) (ha : PA X (e0 :: es) t) (hdb : (x == ("__debug__" : Str)) = false := by decide)
    (he : starEach (e0 :: es) X.env = (false, eval e0 X.env) :: starEach es X.env := by rfl) (hpl : (backTo pos (starEach es X.env)).any (·.1) = false := by rfl)
    (ht : eval (.Call (.Attribute (.Name x np) "__init__" apos) (e0 :: es) [] pos) X.env = (do
      let ov ← eval (.Name x np) X.env
      standAt apos.atName
      let (f, first) ← holding [ov] (getMethod ov "__init__" pl)
      callWith pos f first (backTo pos (starEach (e0 :: es) X.env)) (backToKw pos (keywordEach [] X.env))) := by rfl) :
    PE X (.Call (.Attribute (.Name x np) "__init__" apos) (e0 :: es) [] pos) (tBaseInit X.K t) := by
  intro pins s σ H Q I h
  refine PySem.W.methodCall_KW (pl := pl) (ld_glob I hg hm ?_ hdb) ht
  refine PySem.W.method_cls I.kIn b.ga (PySem.W.cls_value I.kIn b.rd b.fd (by decide +kernel) ?_)
  have I0 := I.tok (s.toks + 1)
  have g0 := ha pos pins _ σ H _ I0 h
  rw [he] at g0 ⊢
  refine PySem.W.callWith_of (P := fun _ => True) (by show ((false || (backTo pos (starEach es X.env)).any (·.1)) || false) = false; rw [hpl]; rfl) (fun h _ => ⟨.machine, .inr (.inl rfl), .now⟩) (Calls.evalArgs_plain (thn g0 fun us s1 ⟨vs, H1, I1, r1, ea, C, fI, od, rest, ev, hl, q, e1, q1⟩ => ⟨trivial, ?_⟩))
  subst ev
  obtain ⟨u, us', rfl, ru, rr⟩ : ∃ u us', us = u :: us' ∧ RelV (.ref ea) u ∧ Vals rest us' := by cases r1 with | cons a c => exact ⟨_, _, rfl, a, c⟩
  obtain rfl : u = Value.ref ea := ru
  obtain ⟨nm, qn, N, bs, bm, hdct, sn, sub, ab, col, dd, k0, k1, k2, k3, k5, ho, z5, z6, z4, z7⟩ := q
  have B := I.mod.kin
  have T0 := (PySem.W.tail_of_in B z4).keeps I1.bk
  have hC := I1.bk _ _ (B _ _ ho)
  obtain ⟨⟨a0, sl, e4⟩, _, _⟩ := (show ObjOk X.prog X.w H1 s1.heap ea (ExN ea (.ref C) od) from I1.hok ea _ e1)
  have F := PySem.F.excBase_ValueError
  obtain ⟨hp, g, d, tk, os⟩ := s1
  refine wpAny_call (codeAny_call_builtin F.init.plain F.initEntry (wpAny_check_init_subT F T0 hC e4 rfl ?_))
  wp_walk
  have ul : us'.length = rest.length := rr.length.symm
  rw [if_neg (by rw [List.size_toArray]; omega)]
  wp_walk
  have lt : ea < hp.objs.size := Heap.lt_size e4
  have e5 : (hp.push { cls := Value.type "tuple", data := Data.seq us'.toArray }).get? ea = some { cls := .ref C, dict := od, data := .fields #[a0, .none, .none, .none, .bool false, .none], slots := sl } := Heap.get?_push_of_some _ e4
  have fin : EP X pins σ Q .none ⟨(hp.push { cls := Value.type "tuple", data := Data.seq us'.toArray }).update ea (Obj.mapFields fun x => x.setIfInBounds 0 (Value.ref hp.objs.size)), g, d, tk, os⟩ := by
    have e6 := Heap.get?_update_self (Obj.mapFields fun x => x.setIfInBounds 0 (Value.ref hp.objs.size)) e5 rfl
    have I2 := I1.write (x := ea) (e := ea) (o := ExN ea (.ref C) od) (t' := tk) (h' := (hp.push { cls := Value.type "tuple", data := Data.seq us'.toArray }).update ea (Obj.mapFields fun x => x.setIfInBounds 0 (Value.ref hp.objs.size))) (by rw [e1]; trivial) (.inl rfl) (fun b u n z => by rw [Heap.get?_update_other _ _ (Ne.symm n)]; exact Heap.get?_push_of_some _ z) ⟨_, e6⟩
      ⟨⟨_, _, e6⟩, ⟨_, e6⟩, by
        rintro g1 g2 ⟨a, l, a1⟩ kk
        exact ⟨a, l, kk _ a1⟩⟩
    have es : upd H1 ea (ExN ea (.ref C) od) = H1 := by
      funext b
      by_cases z : b = ea
      · rw [z, upd_same, e1]
      · rw [upd_ne z]
    rw [es] at I2
    exact ⟨.non, H1, I2, rfl, q1⟩
  show wpAny _ _ (match a0 with | Value.ref a => letGo [a0] | x => pure ()) _ _ _
  cases a0 with
  | ref a => exact wpAny_letGo (wpAny_pure fin)
  | _ => exact wpAny_pure (wpAny_pure fin)
end
end L2
set_option Elab.async false
set_option linter.all false
set_option maxRecDepth 100000
namespace L2
open PySem PySem.Spec PyProof.Rows PySem.W PySem.Builtin PySem.Builtin.ObjectAttr
theorem refuse_bmV (self : Value) : refuseLoop self "__setattr__" bmV = pure () := by kernel_rfl
section
variable {K : PySem.W.Frag} {prog : Program} {w : World} {A : Around} {s : Shared} {x C Tl : Addr} {R : Result → Shared → Prop}
theorem osa_exc {ox : Obj} {od : Option Obj} {name : Str} {tk : Tok} {v : Value} {cd : ClassData} (X : K.In s.heap) (I : PySem.W.InstAt s.heap x ox C od) (hc : PySem.W.clsIn K C = some cd) (hmro : cd.mro = .ref C :: .ref Tl :: bmV) (ht : PySem.W.takerIn K C name = some none)
    (h : ∀ b, wpAny (model prog w) A.in1 (storeInOwnDict (.ref x) (.ref C) (.str name tk) name v b)
      (fun fin s' => match fin with | .done f => R (.ok f) s' | .again c' => c'.quiet = true ∧ codeAny (model prog w) A c' R s') (fun e s' => R (.error e) s') s) :
    codeAny (model prog w) A (.call (.builtin "object.__setattr__") ⟨[.ref x, .str name tk, v], []⟩) R s := by
  have SF := PySem.F.store_object
  have ne : cd.mro.isEmpty = false := by rw [hmro]; rfl
  have sub : PySem.W.Looks (model prog w) s.heap (isInstance (.ref x) (.type "object")) true := I.type.andThen (PySem.W.looks_mroIn X (by unfold PySem.W.mroIn; rw [hc, Option.bind_some, if_neg (by rw [ne]; decide), hmro]; simp))
  refine codeAny_call_builtin SF.slot.plain SF.entry (@check_slot (model prog w) _ _ s "object.__setattr__" "object" "__setattr__" (.ref x) [.str name tk, v] [] _ SF.kind SF.split sub (SF.args (.ref x) (.str name tk) v) ?_)
  obtain ⟨attr, ha, hr⟩ := Option.bind_eq_some_iff.mp ht
  have hm : PySem.W.Looks (model prog w) s.heap (mroOf (.ref C)) cd.mro := (PySem.W.looks_clsIn X hc).andThen .now
  have L3 : PySem.W.Looks (model prog w) s.heap (storeTaker? attr) none := by
    cases attr with
    | none => exact .now
    | some a =>
      obtain ⟨b, hb, z⟩ := Option.map_eq_some_iff.mp hr
      refine (PySem.W.looks_takesIn X hb).andThen ?_
      cases b
      · exact .now
      · cases z
  rw [PySem.W.osa_eq, refuse_eq]
  refine wpAny_bind (wpAny_bind (I.type.here (wpAny_bind (hm.here ?_))))
  rw [hmro, refuseLoop_ref, refuseLoop_ref, refuse_bmV]
  refine wpAny_pure (wpAny_bind (I.type.here (wpAny_bind ((PySem.W.looks_findIn X ha).here (wpAny_bind (L3.here ?_))))))
  exact h _
theorem store_exc {name : Str} {tk : Tok} {v : Value} {b : Bool} {oe : Obj} {vs : Array Value} {cd : ClassData} {Q : Fin → Shared → Prop} {E : Value → Shared → Prop} (X : K.In s.heap) (he : s.heap.get? x = some oe) (h1 : oe.cls = .ref C) (h2 : oe.dict = none) (h3 : oe.data = .fields vs) (hc : PySem.W.clsIn K C = some cd) (hh : cd.hasDict = true)
    (h : ∀ h' dx, s.heap.get? dx = none → h'.get? x = some { oe with dict := some dx } → h'.Ns1 dx (fun y => if y = name then some v else none) → (∀ c o, c ≠ x → s.heap.get? c = some o → h'.get? c = some o) → Q (.done (.ret .none)) { s with heap := h', toks := s.toks + 1 }) :
    wpAny (model prog w) A (storeInOwnDict (.ref x) (.ref C) (.str name tk) name v b) Q E s := by
  obtain ⟨hp, g, d, t, os⟩ := s
  have L := PySem.W.looks_clsIn (M := model prog w) X hc
  unfold storeInOwnDict ownDictForStores instanceDict
  refine wpAny_bind (wpAny_pure ?_)
  simp only [show (Value.ref C == Value.type "module") = false from rfl, Bool.false_eq_true, if_false]
  refine wpAny_bind (wpAny_bind (wpAny_loadPart_at he ?_))
  rw [h1]
  refine wpAny_bind (L.at ?_)
  rw [hh, h2, h3]
  show wpAny _ _ (do let d ← alloc { cls := Value.type "dict", data := Data.dict #[] }; update x fun o => { cls := o.cls, dict := some d, data := o.data, slots := o.slots }; dictMade (Value.ref C) x d) _ _ _
  have ex := Heap.get?_push_of_some { cls := Value.type "dict", data := Data.dict #[] } he
  have lt : x < hp.objs.size := Heap.lt_size he
  refine wpAny_bind (wpAny_alloc' (wpAny_bind (wpAny_update' (o := oe) ex ?_)))
  show wpAny _ _ (pure (some hp.objs.size)) _ _ _
  refine wpAny_pure ?_
  show wpAny _ _ (storeInDict hp.objs.size (Value.str name tk) name v) _ _ _
  unfold storeInDict
  refine wpAny_bind (wpAny_pure (wpAny_bind ?_))
  have ed : ((hp.push { cls := Value.type "dict", data := Data.dict #[] }).update x fun o => { cls := o.cls, dict := some hp.objs.size, data := o.data, slots := o.slots }).get? hp.objs.size = some { cls := Value.type "dict", data := Data.dict #[] } := by
    rw [Heap.get?_update_other _ _ (Nat.ne_of_lt lt)]
    exact Heap.get?_push_size _ rfl
  have ns : ((hp.push { cls := Value.type "dict", data := Data.dict #[] }).update x fun o => { cls := o.cls, dict := some hp.objs.size, data := o.data, slots := o.slots }).Ns1 hp.objs.size (fun _ => none) := by
    refine ⟨_, #[], _, ed, rfl, ?_, ?_, fun _ => rfl⟩
    · intro e he; simp at he
    · first | exact uniqKeys_empty | (unfold UniqKeys; simp) | (intro i j; simp) | decide
  refine wpAny_nsSet1 (s := ⟨_, g, d, t, os⟩) ns fun h' hn2 hs2 => ?_
  obtain ⟨oD, esD, epD, hoD, hdD, hcD⟩ := hn2.count (PySem.Within.cons name v (ns := []) (fun _ z => (z rfl).elim))
  refine wpAny_bind (wpAny_lookBehind hoD (by rw [hdD]; exact pastItsLine_dict (Nat.le_trans hcD (by show 1 ≤ sizeLine + 1; omega))) ?_)
  refine wpAny_pure (h h' hp.objs.size (Heap.get?_none_of_le (Nat.le_refl _)) ?_ hn2 fun c o nc e => ?_)
  · rw [hs2.2 _ (Nat.ne_of_lt lt), Heap.get?_update_self _ ex (Obj.isFreed_of_fields h3)]
  · have lc := Heap.lt_size e
    rw [hs2.2 _ (Nat.ne_of_lt lc), Heap.get?_update_other _ _ (Ne.symm nc)]
    exact Heap.get?_push_of_some _ e
end
section
variable {X : Cx} {pins : List (Addr × Obj)} {σ : St} {H : Hp} {s : Shared}
theorem Inv.trackO {a : Addr} {o : HO} (I : Inv X pins σ H s) (l : Loose X pins H a) (ok : ObjOk X.prog X.w (upd H a o) s.heap a o) : Inv X pins σ (upd H a o) s := by
  have ne : ∀ b, b ≠ a → upd H a o b = H b := fun b z => upd_ne z
  have nt : ∀ b u, H b = some u → upd H a o b = some u := fun b u z => by rw [ne b (ne_of_none z l.un)]; exact z
  refine ⟨I.ok, I.os, I.bare, ⟨I.base.keep, I.base.slot, fun b o q n x => ?_, I.base.there, fun b xs q => nt _ _ (I.base.tups b xs q), fun b o u q => nt _ _ (I.base.frzs b o u q), fun b ps q => ?_⟩, I.loc, I.cell, ?_, fun x c q => ?_, fun p hp => ?_, ?_, I.len⟩
  · rw [ne b (by rintro rfl; rw [l.new] at q; cases q)]
    exact I.base.free b o q n x
  · obtain ⟨more, z⟩ := I.base.tbls b ps q
    exact ⟨more, nt _ _ z⟩
  · rw [ne _ (Ne.symm l.loc)]
    exact I.free
  · rw [ne _ (l.cel x c q)]
    exact I.freeC x c q
  · obtain ⟨z1, z2, z3, z4, z5⟩ := I.pin p hp
    exact ⟨z1, by rw [ne _ (l.pin p hp)]; exact z2, z3, z4, z5⟩
  · intro b u q
    by_cases z : b = a
    · subst z
      rw [upd_same] at q
      cases q
      exact ok
    · rw [ne b z] at q
      exact (I.hok b u q).stay (fun _ _ _ r => r) (fun c r => nt _ _ r) fun c xs r => nt _ _ r
end
structure XSet (K : PySem.W.Frag) (C Tl : Addr) (f : Str) : Prop where
  sa : PySem.W.findIn K (.ref C) "__setattr__" = some (some (.builtin "object.__setattr__"))
  cd : ∃ cd, PySem.W.clsIn K C = some cd ∧ cd.mro = .ref C :: .ref Tl :: bmV ∧ cd.hasDict = true
  tk : PySem.W.takerIn K C f = some none
section
variable {X : Cx} {pins : List (Addr × Obj)} {σ : St} {H : Hp} {s : Shared} {A : Around} {E : Value → Shared → Prop} {ea C Tl : Addr} {f : Str}
theorem setx_ok {y : V} {u : Value} {Q : Unit → Shared → Prop} (h0 : X.ex = []) (I : Inv X pins σ H s) (e : H ea = some (ExN ea (.ref C) none)) (c : XSet X.K C Tl f) (ry : RelV y u)
    (h : ∀ s' dx, H dx = none → dx ≠ ea → Inv X pins σ (upd (upd H ea (ExN ea (.ref C) (some dx))) dx (.xd [(f, y)])) s' → Q () s') : wpAny (model X.prog X.w) A (setAttr (.ref ea) f u) Q E s := by
  obtain ⟨⟨a0, sl, e4⟩, _, _⟩ := (show ObjOk X.prog X.w H s.heap ea (ExN ea (.ref C) none) from I.hok ea _ e)
  obtain ⟨cd, hc, hm, hd⟩ := c.cd
  have J : PySem.W.InstAt s.heap ea _ C none := ⟨e4, rfl, rfl, trivial⟩
  refine PySem.W.set_plain I.kIn J c.sa (osa_exc (s := { s with toks := s.toks + 1 }) (Tl := Tl) I.kIn J hc hm c.tk fun b => store_exc (s := { s with toks := s.toks + 1 }) I.kIn e4 rfl rfl rfl hc hd fun h' dx nd hx hn kp => ?_)
  have ne : dx ≠ ea := fun z => by rw [z] at nd; rw [show s.heap.get? ea = none from nd] at e4; cases e4
  have hu := untr I.hok nd
  have I2 := I.write (x := ea) (e := ea) (o := ExN ea (.ref C) (some dx)) (t' := s.toks + 1 + 1) (h' := h') (by rw [e]; trivial) (.inl rfl) (fun b u n z => kp b u n z) ⟨_, hx⟩
    ⟨⟨_, _, hx⟩, ⟨_, hx⟩, by
      rintro g1 g2 ⟨a, l, a1⟩ kk
      exact ⟨a, l, kk _ a1⟩⟩
  have l2 : Loose X pins (upd H ea (ExN ea (.ref C) (some dx))) dx := by
    obtain ⟨a1, a2, a3⟩ := I.apart nd
    refine ⟨by rw [upd_ne ne]; exact hu, ?_, a1, a2, a3⟩
    rcases I.young nd with z | z
    · exact z
    · rw [h0] at z; cases z
  refine h _ dx hu ne (I2.trackO l2 ⟨_, hn, fun g => ?_⟩)
  show RelO (List.lookup g [(f, y)]) (if g = f then some u else none)
  by_cases q : g = f
  · rw [if_pos q, q, List.lookup_cons_self]; exact ry
  · rw [if_neg q, List.lookup_cons, show (g == f) = false from by simpa using q]; trivial
end
def sFldX (K : PySem.W.Frag) (ta tv : TE) (f : Str) : TS := fun D σ H => tv σ H fun y H1 => ta σ H1 fun x H2 => ∃ ea C Tl, x = .ref ea ∧ H2 ea = some (ExN ea (.ref C) none) ∧ XSet K C Tl f ∧ ∀ dx, H2 dx = none → dx ≠ ea → D.nx σ (upd (upd H2 ea (ExN ea (.ref C) (some dx))) dx (.xd [(f, y)]))
section
variable {X : Cx} {o value : Expr} {ta tv : TE} {f : Str} {pos pos' : Pos}
theorem ps_fldX (h0 : X.ex = []) (ha : PE X o ta) (hv : PE X value tv) (hs : swapsWith value (some (.Attribute o f pos')) pos.line X.env = pure false) : PS X (.Assign [.Attribute o f pos'] value pos) (sFldX X.K ta tv f) := by
  intro pins s σ H D I h
  refine plainObj_wpAny_Assign_Attribute (thnE (hv pins s σ H _ I h) fun u s1 y H1 I1 ry q => thnE (ha pins s1 σ H1 _ I1 q) fun ov s2 x H2 I2 rx ⟨ea, C, Tl, ex, e2, c, q2⟩ => ?_) hs
  subst ex
  obtain rfl : ov = Value.ref ea := rx
  exact setx_ok h0 I2 e2 c ry fun s3 dx n1 n2 I3 => ⟨σ, _, I3, q2 dx n1 n2⟩
end
section
variable {prog : Program} {w : World} {A : Around} {E : Value → Shared → Prop} {s : Shared} {K : PySem.W.Frag} {x C : Addr} {ox : Obj} {od : Obj}
theorem exc_get {name : Str} {v : Value} {expr : Bool} {Q : Value → Shared → Prop} (X : K.In s.heap) (I : PySem.W.InstAt s.heap x ox C (some od)) (c : XCls K C) (ha : PySem.W.findIn K (.ref C) name = some none) (hl : PySem.W.lookIn name od = some (some v)) (hv : PySem.W.handedIn v = true)
    (h : Q v { s with toks := s.toks + 1 }) : wpAny (model prog w) A (getAttr (.ref x) name expr) Q E s := by
  obtain ⟨hh, g, dr, t, os⟩ := s
  have L0 := I.type (M := model prog w)
  have L1 := PySem.W.looks_findIn (M := model prog w) X c.ga
  have L2 := PySem.W.looks_findIn (M := model prog w) X c.gt
  have L3 := PySem.W.looks_find (M := model prog w) X I (PySem.W.findObj_own c.hd ha rfl hl)
  have n2 : (Value.builtin "BaseException.__getattribute__" == Value.builtin "object.__getattribute__") = false := by decide +kernel
  have n1 : (onTheHeap (Value.ref C) && Value.builtin "BaseException.__getattribute__" == Value.builtin "object.__getattribute__") = false := by rw [n2]; rfl
  have b1 := F.excAttr_ValueError.ga.bind (.ref x)
  refine wpAny_bind (wpAny_mkText (wpAny_holding (wpAny_bind (L0.at (wpAny_bind (L1.at ?_))))))
  dsimp only
  rw [n1]
  simp only [Bool.false_eq_true, if_false]
  unfold getAttrByItsOwn hookBefore callGetattribute boundAndCalled
  simp only [onTheHeap, Bool.and_false, Bool.false_eq_true, if_false, if_true]
  refine wpAny_bind (L2.at (wpAny_bind (wpAny_attempt (wpAny_holding (wpAny_bind (wpAny_of_eq b1 ?_))))))
  refine wpAny_call (codeAny_call_builtin F.excAttr_ValueError.ga.plain F.entry_bexc_ga (exc_check X I c ?_))
  unfold Builtin.«object.__getattribute__»
  repeat lk
  show wpAny _ _ (handedOut v) _ _ _
  exact PySem.W.handed_on hv h
end
def rFldX (K : PySem.W.Frag) (f : Str) (x : V) (H : Hp) (Q : VK) : Prop := ∃ ea C dx fs v, x = .ref ea ∧ H ea = some (ExO ea (.ref C) (some dx)) ∧ XCls K C ∧ PySem.W.findIn K (.ref C) f = some none ∧ H dx = some (.xd fs) ∧ fs.lookup f = some v ∧ Q v H
section
variable {X : Cx} {o : Expr} {ta : TE} {f : Str} {pos : Pos}
theorem getx_ok {pins : List (Addr × Obj)} {σ : St} {H : Hp} {s : Shared} {x : V} {ov : Value} {Q : VK} {b : Bool} (I : Inv X pins σ H s) (rx : RelV x ov) (h : rFldX X.K f x H Q) : wpAny (model X.prog X.w) X.A (getAttr ov f b) (EP X pins σ Q) X.xe s := by
  obtain ⟨ea, C, dx, fs, v, rfl, he, c, hn, hd, hl, q⟩ := h
  obtain rfl : ov = Value.ref ea := rx
  obtain ⟨⟨oe, vs, h1, h2, h3, h4⟩, _, _⟩ := (show ObjOk X.prog X.w H s.heap ea (ExO ea (.ref C) (some dx)) from I.hok ea _ he)
  obtain ⟨mA, ns, rl⟩ := (show ObjOk X.prog X.w H s.heap dx (.xd fs) from I.hok dx _ hd)
  obtain ⟨od, ho, lk⟩ := lookIn_ns ns
  obtain ⟨u, hu, ru⟩ := RelO.some_of (v := v) (o := mA f) (by rw [← hl]; exact rl f)
  have J : PySem.W.InstAt s.heap ea oe C (some od) := ⟨h1, h2, by unfold PySem.W.notCls; rw [h4], by rw [h3]; exact ho⟩
  exact exc_get I.kIn J c hn (by rw [lk, hu]) (handed_of ru) ⟨v, H, I.tok _, ru, q⟩
theorem pe_fldX (K : PySem.W.Frag) (hK : X.K = K) (he : PE X o ta) (hb : attributeBase o f X.env (eval o X.env) = eval o X.env) : PE X (.Attribute o f pos) (fun σ H Q => ta σ H fun x H1 => rFldX K f x H1 Q) := by
  subst hK
  intro pins s σ H Q I h
  exact attr_of hb (thnE (he pins s σ H _ I h) fun u s1 x H1 I1 rx q => getx_ok I1 rx q)
end
theorem xset_mk {K : PySem.W.Frag} {C Tl : Addr} {f : Str} {c0 : Value} {dd : Option Addr} {cd : ClassData} {sl : Array (Option Value)} (l : K.lookup C = some ⟨c0, dd, .cls cd, sl⟩) (m : cd.mro = .ref C :: .ref Tl :: bmV) (h : PySem.W.hasDictIn K C = true)
    (s : PySem.W.findIn K (.ref C) "__setattr__" = some (some (.builtin "object.__setattr__"))) (a : PySem.W.findIn K (.ref C) f = some none) : XSet K C Tl f := by
  obtain ⟨cd', e, hd⟩ := PySem.W.any_some h
  have e2 : PySem.W.clsIn K C = some cd := by unfold PySem.W.clsIn; rw [l]
  rw [e2] at e
  cases e
  exact ⟨s, ⟨cd, e2, m, hd⟩, by unfold PySem.W.takerIn; rw [a]; rfl⟩
theorem xobjI_mk {K : PySem.W.Frag} {C fI : Addr} {o : Obj} (nm qn : Str) (N : Addr) (bs bm : List Value) (hdct : Bool) (sn : List Str) (sub : List Value) (ab : Bool) (col : Option Bool) (dd : Option Addr) (k0 k1 k2 k3 k5 : Option Value) (l : K.lookup C = some o)
    (e : o = excClassObj nm qn C N bs bm hdct sn sub ab col dd k0 k1 k2 k3 k5 "ValueError.__new__") (a : PySem.W.nsOkIn K N = true) (b : PySem.W.nsIn K N "__init__" = some (some (.ref fI))) (c : PySem.W.tailIn K bmV bm = true) (d : PySem.W.isFn K (.ref fI) = true) : XObjI K C fI := by
  subst e
  exact ⟨_, _, _, _, _, _, _, _, _, _, _, _, _, _, _, _, l, a, b, c, d⟩
end L2
set_option Elab.async false
set_option linter.all false
set_option maxRecDepth 100000
namespace L2
open PySem
def tHandN (K : PySem.W.Frag) (C' : Addr) (ts : TS) (tr : TH) : TH := fun D σ cls od H => ∃ C b, cls = .ref C ∧ PySem.W.mroIn K C (.ref C') = some b ∧ if b = true then ts D σ H else tr D σ cls od H
section
variable {X : Cx} {x : Str} {np pos : Pos} {C' : Addr} {b0 : Stmt} {suite : List Stmt} {rest : List ExceptHandler} {ts : TS} {tr : TH}
end
end L2
namespace Pb
open L2 PySem
theorem sameDel {H : Hp} {ea dx : Addr} {a b c : HO} (ne : H ea = none) (nd : upd H ea a dx = none) (nde : dx ≠ ea) : Same H (del (upd (upd (upd H ea a) ea b) dx c) ea) := fun q o e => by
  have n1 : q ≠ ea := ne_of_none e ne
  have n2 : q ≠ dx := fun z => by rw [z] at e; rw [upd_ne nde, e] at nd; cases nd
  rw [del_ne n1, upd_ne n2, upd_ne n1, upd_ne n1]
  exact e
structure FirstBad (m : Int) (rs : List Road) (xs : List Int) (ss : List Stp) (i : Nat) : Prop where
  bef : ∀ j s, j < i → ss[j]? = some s → canDo m rs (stAt rs xs ss j) s = true
  bad : ∃ s, ss[i]? = some s ∧ canDo m rs (stAt rs xs ss i) s = false
theorem FirstBad.lt {m : Int} {rs : List Road} {xs : List Int} {ss : List Stp} {i : Nat} (h : FirstBad m rs xs ss i) : i < ss.length := by
  obtain ⟨s, hs, _⟩ := h.bad
  exact (List.getElem?_eq_some_iff.mp hs).1
theorem FirstBad.snoc {m : Int} {rs : List Road} {xs : List Int} {ss : List Stp} {i : Nat} (h : FirstBad m rs xs ss i) (t : Stp) : FirstBad m rs xs (ss ++ [t]) i := by
  have il := h.lt
  refine ⟨fun j s hj hs => ?_, ?_⟩
  · rw [List.getElem?_append_left (by omega)] at hs
    rw [stAt_snoc (by omega)]
    exact h.bef j s hj hs
  · obtain ⟨s, hs, hc⟩ := h.bad
    exact ⟨s, by rw [List.getElem?_append_left il]; exact hs, by rw [stAt_snoc (by omega)]; exact hc⟩
theorem firstBad_snoc {m : Int} {rs : List Road} {xs : List Int} {ss : List Stp} {t : Stp} (h : CanAll m rs xs ss) (hs : canDo m rs (stAt rs xs ss ss.length) t = false) : FirstBad m rs xs (ss ++ [t]) ss.length := by
  refine ⟨fun j s hj hs => ?_, t, by simp, by rw [stAt_snoc (Nat.le_refl _)]; exact hs⟩
  rw [List.getElem?_append_left hj] at hs
  rw [stAt_snoc (by omega)]
  exact h j s hs
theorem FirstBad.not {m : Int} {rs : List Road} {xs : List Int} {ss : List Stp} {i : Nat} (h : FirstBad m rs xs ss i) (c : CanAll m rs xs ss) : False := by
  obtain ⟨s, hs, hc⟩ := h.bad
  rw [c i s hs] at hc
  cases hc
theorem FirstBad.uniq {m : Int} {rs : List Road} {xs : List Int} {ss : List Stp} {i j : Nat} (h : FirstBad m rs xs ss i) (k : FirstBad m rs xs ss j) : i = j := by
  obtain ⟨s, hs, hc⟩ := h.bad
  obtain ⟨t, ht, hd⟩ := k.bad
  rcases Nat.lt_trichotomy i j with z | z | z
  · rw [k.bef i s z hs] at hc; cases hc
  · exact z
  · rw [h.bef j t z ht] at hd; cases hd
theorem canDo_tl {m : Int} {rs : List Road} (g : Good m rs) {xs : List Int} {s : Stp} {t : Int} (h : tollOf rs s.1 s.2.1 = some t) : canDo m rs xs s = (decide (0 < s.2.2) && decide (t * s.2.2 ≤ xs.getD s.1.toNat 0)) := by
  have ad : Adj rs s.1 s.2.1 := toll_adj.mp (by rw [h]; rfl)
  obtain ⟨ar, br, _⟩ := g.adj ad
  unfold canDo isStp tollD
  rw [h, decide_eq_true ar.1, decide_eq_true ar.2, decide_eq_true ((mem_nbrs g).mpr ad)]
  show (true && true && true && decide (1 ≤ s.2.2) && decide (s.2.2 * t ≤ _)) = _
  rw [Int.mul_comm]
  rfl
theorem canDo_no {m : Int} {rs : List Road} (g : Good m rs) {xs : List Int} {s : Stp} (h : tollOf rs s.1 s.2.1 = none) : canDo m rs xs s = false := by
  cases c : canDo m rs xs s
  · rfl
  · unfold canDo at c
    rw [Bool.and_eq_true] at c
    obtain ⟨k, e, _⟩ := step_toll g c.1
    rw [e] at h
    cases h
def StTold (m : Int) (rs : List Road) (xs : List Int) (ss : List Stp) (f : Bool) (wd : Str) (n : Int) : Prop :=
  (f = false ∧ wd = "laying" ∧ n = 0) ∨ (f = true ∧ CanAll m rs xs ss ∧ wd = "fine" ∧ n = 0) ∨ (f = true ∧ ∃ i : Nat, FirstBad m rs xs ss i ∧ wd = "step" ∧ n = i)
theorem StTold.uniq {m : Int} {rs : List Road} {xs : List Int} {ss : List Stp} {f : Bool} {wd wd' : Str} {n n' : Int} (h : StTold m rs xs ss f wd n) (h' : StTold m rs xs ss f wd' n') : wd = wd' ∧ n = n' := by
  rcases h with ⟨a, b, c⟩ | ⟨a, b, c, d⟩ | ⟨a, i, b, c, d⟩ <;> rcases h' with ⟨a', b', c'⟩ | ⟨a', b', c', d'⟩ | ⟨a', i', b', c', d'⟩
  · exact ⟨by rw [b, b'], by rw [c, c']⟩
  · rw [a] at a'; cases a'
  · rw [a] at a'; cases a'
  · rw [a] at a'; cases a'
  · exact ⟨by rw [c, c'], by rw [d, d']⟩
  · exact (b'.not b).elim
  · rw [a] at a'; cases a'
  · exact (b.not b').elim
  · have := b.uniq b'
    subst this
    exact ⟨by rw [c, c'], by rw [d, d']⟩
theorem StTold.ok {m : Int} {rs : List Road} {xs : List Int} {ss : List Stp} {f : Bool} {wd : Str} {n : Int} (h : StTold m rs xs ss f wd n) : PyData.canLay0 (.str wd) = true := by
  rcases h with ⟨a, b, c⟩ | ⟨a, b, c, d⟩ | ⟨a, i, b, c, d⟩
  · rw [b]; decide +kernel
  · rw [c]; decide +kernel
  · rw [c]; decide +kernel
def dWn (wd : Str) (n : Int) : PyData := .tuple [.str wd, .int n]
theorem eqv_wn (a b : Str) (i j : Int) : PyData.eqv (dWn a i) (dWn b j) = (a == b && (i == j)) := by
  unfold dWn
  simp only [PyData.eqv, PyData.eqvAll, Bool.and_true]
theorem depth_wn (wd : Str) (n : Int) : (dWn wd n).depth ≤ 40 := by
  unfold dWn
  simp [PyData.depth, PyData.depthAll]
theorem ne_wn {K : PySem.W.Frag} {H : Hp} {q q' : Addr} {wd wd' : Str} {n n' : Int} {Q : VK} (hs : PyData.canLay0 (.str wd) = true) (h : H q = some (.tup [.str wd, .int n])) (h' : H q' = some (.tup [.str wd', .int n'])) (e : wd = wd' ∧ n = n') (k : Q (.bl false) H) : rNeD K (.ref q) (.ref q') H Q := by
  obtain ⟨rfl, rfl⟩ := e
  refine ⟨dWn wd n, dWn wd n, .tup (SqT.of h) (.cons (.str hs) (.cons (.int n) .nil)), .tup (SqT.of h') (.cons (.str hs) (.cons (.int n) .nil)), depth_wn wd n, ?_⟩
  rw [eqv_wn]
  have : (wd == wd && (n == n)) = true := by simp
  rw [this]
  exact k
end Pb
set_option Elab.async false
set_option linter.all false
set_option maxRecDepth 100000
namespace Pb
open L2 PySem
section
variable {m : Int} {rs : List Road}
theorem canAll_nil {xs : List Int} : CanAll m rs xs [] := fun i s h => by simp at h
end
section
variable {m : Int} {rs : List Road} {r : Int} {par : Int → Int} {dep : Int → Nat} {st : Int → Int} {xs ys : List Int}
end
end Pb
set_option Elab.async false
set_option linter.all false
set_option maxRecDepth 100000
set_option maxHeartbeats 4000000
namespace Pk
open PySem L2 Pb
seal L2.PSs L2.PS L2.PE L2.PT L2.PW L2.PA L2.PG L2.PGs L2.PI L2.PTs L2.PC L2.PPs L2.PO
abbrev top (i : Nat) : Stmt := Hd.top i
local macro_rules | `(tactic| walk_at "rd") => `(tactic| ((try dsimp only [tYes, tIsN, tNotN, Ends.less, tRaise_eq, tTry_eq, tHand_eq, tHandN, tFor_eq, tForD, iStr, tJoinR, tComp_eq', iTup, iList, iAny, iRng1, iRng2, iRng3, iEnum, iRev, iZip, cxOf_K, tNever_eq, tListR, tRet, tRetN, tSeq, tNext, tAsg, gName, gTup, gCons, gNil, gSub, tPar3, tAugS, tAug, tMinD, tNotT, ipI, tIfS, tDrop, tTest, tB, tChain, tC, tVar, tOp, tUn, rI0, rI, rU, rEq, rNe, tCall, tMake, tCons, tNil, tTup, tLst, tCB, tBM, tBM0, tFld, sFld, tDIn, tDInN, tDNotIn, sDPut, tDGet, tDisp, tDispT, tPairs, tDNewK, tDNewT, tAnd, tOr, tNot, tAndV, tOrV, tNotV, tIf, List.nil_append, List.append_nil, List.set_cons_zero, List.set_cons_succ, List.getElem?_cons_zero, List.getElem?_cons_succ]); (try simp only [tYes, tIsN, tNotN, Ends.less, tRaise_eq, tTry_eq, tHand_eq, tHandN, tFor_eq, tForD, iStr, tJoinR, tComp_eq', iTup, iList, iAny, iRng1, iRng2, iRng3, iEnum, iRev, iZip, cxOf_K, tNever_eq, tListR, tRet, tRetN, tSeq, tNext, tAsg, gName, gTup, gCons, gNil, gSub, tPar3, tAugS, tAug, tMinD, tNotT, ipI, tIfS, tDrop, tTest, tB, tChain, tC, tVar, tOp, tUn, rI0, rI, rU, rEq, rNe, scal_ii, scal_bb, scal_in, scal_ni, scal_nn, scal_ss, tCall, tMake, tCons, tNil, tTup, tLst, tCB, tBM, tBM0, tFld, sFld, tDIn, tDInN, tDNotIn, sDPut, tDGet, tDisp, tDispT, tPairs, tDNewK, tDNewT, tAnd, tOr, tNot, tAndV, tOrV, tNotV, tIf, List.nil_append, List.append_nil, List.set_cons_zero, List.set_cons_succ, List.getElem?_cons_zero, List.getElem?_cons_succ, Option.some.injEq, V.int.injEq, V.bl.injEq, V.ref.injEq, List.cons.injEq, exists_eq_left, exists_eq_left', exists_and_left, exists_const, and_true, true_and, decide_eq_true_eq, Bool.not_eq_true', decide_eq_false_iff_not, Bool.true_eq_false, Bool.false_eq_true, if_true, if_false])))
set_option genSizeOf false in
set_option genInjectivity false in
structure Txt (K : PySem.W.Frag) (mg : Str → Option Value) where
  TollError : Addr
  m_TollError : mg "TollError" = some (.ref TollError)
  BadWeb : Addr
  m_BadWeb : mg "BadWeb" = some (.ref BadWeb)
  NoPlace : Addr
  m_NoPlace : mg "NoPlace" = some (.ref NoPlace)
  NoRoad : Addr
  m_NoRoad : mg "NoRoad" = some (.ref NoRoad)
  BadLaying : Addr
  m_BadLaying : mg "BadLaying" = some (.ref BadLaying)
  BadWish : Addr
  m_BadWish : mg "BadWish" = some (.ref BadWish)
  TooMany : Addr
  m_TooMany : mg "TooMany" = some (.ref TooMany)
  NoNumber : Addr
  m_NoNumber : mg "NoNumber" = some (.ref NoNumber)
  BadStep : Addr
  m_BadStep : mg "BadStep" = some (.ref BadStep)
  Web : Addr
  m_Web : mg "Web" = some (.ref Web)
  x_TollError : XTop K TollError
  x_BadWeb : XErr K TollError BadWeb
  x_NoPlace : XErr K TollError NoPlace
  e_NoPlace : XObj K NoPlace
  x_NoRoad : XErr K TollError NoRoad
  e_NoRoad : XObj K NoRoad
  x_BadLaying : XErr K TollError BadLaying
  e_BadLaying : XObj K BadLaying
  x_BadWish : XErr K TollError BadWish
  x_TooMany : XErr K TollError TooMany
  x_NoNumber : XErr K TollError NoNumber
  x_BadStep : XErr K TollError BadStep
  b_TollError : BaseIn K TollError
  s_BadStep : XSet K BadStep TollError "at"
  a_BadStep : PySem.W.findIn K (.ref BadStep) "at" = some none
  ndx : [TollError, BadWeb, NoPlace, NoRoad, BadLaying, BadWish, TooMany, NoNumber, BadStep].Nodup
  range : mg "range" = none
  len : mg "len" = none
  isinstance : mg "isinstance" = none
  all : mg "all" = none
  any : mg "any" = none
  int : mg "int" = none
  bool : mg "bool" = none
  tuple : mg "tuple" = none
  list : mg "list" = none
  sorted : mg "sorted" = none
  max : mg "max" = none
  enumerate : mg "enumerate" = none
  str : mg "str" = none
  ValueError : mg "ValueError" = none
  c_MOST_PLACES : ∃ t, mg "MOST_PLACES" = some (.int 24 t)
  c_LEAST_TOLL : ∃ t, mg "LEAST_TOLL" = some (.int 2 t)
  c_MOST_TOLL : ∃ t, mg "MOST_TOLL" = some (.int 1000000 t)
  cl_Web : Cls K Web
  n_many : NoAttr K Web "many"
  n_roads : NoAttr K Web "roads"
section
variable {P : Program} {w : World} {K : PySem.W.Frag} {mg : Str → Option Value} {base : Heap} {CX : CXT}
/-! #### check_counts -/
def sp_check_counts (T : Txt K mg) : Sp := fun vs H Q _ => ∃ (m : Int) (t : Addr) (xs : List V), vs = [.int m, .ref t] ∧ SqT K H t xs ∧ 1 ≤ m ∧ m ≤ 24 ∧ (xs.length : Int) = m - 1 ∧ Q .non H
abbrev s_check_counts : Stmt := top 19
theorem sc_check_counts : FnScope ["many", "roads"] ["many", "roads"] (defScope s_check_counts) := FnScope.of (by kernel_rfl)
theorem n_check_counts__many : NmL (defScope s_check_counts) "many" := .of (by kernel_rfl)
theorem n_check_counts__roads : NmL (defScope s_check_counts) "roads" := .of (by kernel_rfl)
theorem n_check_counts__MOST_PLACES : NmG (defScope s_check_counts) "MOST_PLACES" := .of (by kernel_rfl)
theorem n_check_counts__BadWeb : NmG (defScope s_check_counts) "BadWeb" := .of (by kernel_rfl)
theorem n_check_counts__len : NmG (defScope s_check_counts) "len" := .of (by kernel_rfl)

theorem ok_check_counts (T : Txt K mg) (hq : Quiet (CXe P w)) {f : Addr} {fd : FuncData} (D : Df K mg "check_counts" s_check_counts ["many", "roads"] f fd) : FnOk P w K mg base (CXe P w) 1 f fd ["many", "roads"] (sp_check_counts T) := by
  refine D.F.okC sc_check_counts (fun vs H Q E h => ?_) (fun cdv A outer s H vs Q E hr h => ?_)
  · obtain ⟨m, t, xs, rfl, _⟩ := h
    rfl
  · obtain ⟨m, t, xs, rfl, ht, h1, h2, hl, k⟩ := h
    refine ⟨_, (pss_cons (ps_if (pt_not (pt_chain op_le op_le pe_int (pvl 0 n_check_counts__many) (pe_globI n_check_counts__MOST_PLACES.g T.c_MOST_PLACES (hd := n_check_counts__MOST_PLACES.d)))) (pss_one ps_never) pss_nil) (pss_one (ps_if (pt_cmpR op_ne (pe_callB call_len_seq n_check_counts__len.g T.len pb_len (pa_cons (pvl 1 n_check_counts__roads) pa_nil) (hn := n_check_counts__len.n) (hdb := n_check_counts__len.d)) (pe_op op_sub (pvl 0 n_check_counts__many) pe_int) (nomark _)) (pss_one ps_never) pss_nil))), ?_⟩
    rw [show L2.start ["many", "roads"] [V.int m, V.ref t] = [some (V.int m), some (V.ref t)] from rfl]
    walk_at "rd"
    rw [if_pos h1, if_neg (by omega)]
    exact ⟨xs, .inr ht, by rw [if_neg (by omega)]; exact k⟩
/-! #### is_place -/
def sp_is_place (T : Txt K mg) : Sp := fun vs H Q _ => ∃ m n : Int, vs = [.int m, .int n] ∧ Q (.bl (decide (0 ≤ n) && decide (n < m))) H
abbrev s_is_place : Stmt := top 18
theorem sc_is_place : FnScope ["many", "number"] ["many", "number"] (defScope s_is_place) := FnScope.of (by kernel_rfl)
theorem n_is_place__many : NmL (defScope s_is_place) "many" := .of (by kernel_rfl)
theorem n_is_place__number : NmL (defScope s_is_place) "number" := .of (by kernel_rfl)

theorem ok_is_place (T : Txt K mg) (hq : Quiet (CXe P w)) {f : Addr} {fd : FuncData} (D : Df K mg "is_place" s_is_place ["many", "number"] f fd) : FnOk P w K mg base (CXe P w) 1 f fd ["many", "number"] (sp_is_place T) := by
  refine D.F.okC sc_is_place (fun vs H Q E h => ?_) (fun cdv A outer s H vs Q E hr h => ?_)
  · obtain ⟨m, n, rfl, _⟩ := h
    rfl
  · obtain ⟨m, n, rfl, k⟩ := h
    refine ⟨_, (pss_one (ps_ret (pe_chain op_le op_lt pe_int (pvl 1 n_is_place__number) (pvl 0 n_is_place__many)))), ?_⟩
    rw [show L2.start ["many", "number"] [V.int m, V.int n] = [some (V.int m), some (V.int n)] from rfl]
    walk_at "rd"
    by_cases c : 0 ≤ n
    · simpa [c] using k
    · simpa [c] using k
/-! #### check_ends -/
def sp_check_ends (T : Txt K mg) : Sp := fun vs H Q _ => ∃ (m : Int) (p : Addr) (r : Road), vs = [.int m, .ref p] ∧ H p = some (.tup (vRoad r)) ∧ 0 ≤ r.a ∧ r.a < m ∧ 0 ≤ r.b ∧ r.b < m ∧ r.a ≠ r.b ∧ Q .non H
abbrev s_check_ends : Stmt := top 20
theorem sc_check_ends : FnScope ["many", "road"] ["many", "road"] (defScope s_check_ends) := FnScope.of (by kernel_rfl)
theorem n_check_ends__many : NmL (defScope s_check_ends) "many" := .of (by kernel_rfl)
theorem n_check_ends__road : NmL (defScope s_check_ends) "road" := .of (by kernel_rfl)
theorem n_check_ends__is_place : NmG (defScope s_check_ends) "is_place" := .of (by kernel_rfl)
theorem n_check_ends__BadWeb : NmG (defScope s_check_ends) "BadWeb" := .of (by kernel_rfl)

theorem ok_check_ends (T : Txt K mg) (hq : Quiet (CXe P w)) {f : Addr} {fd : FuncData} (D : Df K mg "check_ends" s_check_ends ["many", "road"] f fd) {f_is_place : Addr} {fd_is_place : FuncData} (D_is_place : Df K mg "is_place" s_is_place ["many", "number"] f_is_place fd_is_place) (G_is_place : FnOk P w K mg base (CXe P w) 1 f_is_place fd_is_place ["many", "number"] (sp_is_place T)) : FnOk P w K mg base (CXe P w) 2 f fd ["many", "road"] (sp_check_ends T) := by
  refine D.F.okC sc_check_ends (fun vs H Q E h => ?_) (fun cdv A outer s H vs Q E hr h => ?_)
  · obtain ⟨m, p, r, rfl, _⟩ := h
    rfl
  · obtain ⟨m, p, r, rfl, hp, a0, a1, b0, b1, ne, k⟩ := h
    refine ⟨_, (pss_cons (ps_if (PW.pt (pw_or (pt_not (pt_val (pe_call G_is_place (hr.mono (by decide)) n_check_ends__is_place.g D_is_place.m D_is_place.F.kp D_is_place.b .nil (passQ hq) (pa_cons (pvl 0 n_check_ends__many) (pa_cons (pe_ix ix_tup (pvl 1 n_check_ends__road) pe_int (fun _ _ => rfl)) pa_nil)) (hdb := n_check_ends__is_place.d)))) (pw_or1 (pt_not (pt_val (pe_call G_is_place (hr.mono (by decide)) n_check_ends__is_place.g D_is_place.m D_is_place.F.kp D_is_place.b .nil (passQ hq) (pa_cons (pvl 0 n_check_ends__many) (pa_cons (pe_ix ix_tup (pvl 1 n_check_ends__road) pe_int (fun _ _ => rfl)) pa_nil)) (hdb := n_check_ends__is_place.d))))))) (pss_one ps_never) pss_nil) (pss_one (ps_if (pt_cmpR op_eq (pe_ix ix_tup (pvl 1 n_check_ends__road) pe_int (fun _ _ => rfl)) (pe_ix ix_tup (pvl 1 n_check_ends__road) pe_int (fun _ _ => rfl)) (nomark _)) (pss_one ps_never) pss_nil))), ?_⟩
    rw [show L2.start ["many", "road"] [V.int m, V.ref p] = [some (V.int m), some (V.ref p)] from rfl]
    walk_at "rd"
    refine ixT hp rfl ⟨m, r.a, rfl, _, rfl, ?_⟩
    rw [if_neg (by simp [a0, a1])]
    refine ixT hp rfl ⟨m, r.b, rfl, _, rfl, ?_⟩
    rw [if_neg (by simp [b0, b1])]
    refine ixT hp rfl (ixT hp rfl ⟨rfl, ?_⟩)
    rw [if_neg (by simpa using ne)]
    exact k
/-! #### other_ends -/
def sp_other_ends (T : Txt K mg) : Sp := fun vs H Q _ => ∃ (t : Addr) (ps : List Addr) (rs : List Road) (n : Int), vs = [.ref t, .int n] ∧ SqT K H t (ps.map V.ref) ∧ RoadsAt H ps rs ∧ rs.length ≤ 1000 ∧
  ∀ l H', H l = none → Same H H' → H' l = some (.lst ((ends rs n).map V.int)) → Q (.ref l) H'
abbrev s_other_ends : Stmt := top 23
theorem sc_other_ends : FnScope ["roads", "place", "ends", "road"] ["roads", "place"] (defScope s_other_ends) := FnScope.of (by kernel_rfl)
theorem n_other_ends__roads : NmL (defScope s_other_ends) "roads" := .of (by kernel_rfl)
theorem n_other_ends__place : NmL (defScope s_other_ends) "place" := .of (by kernel_rfl)
theorem n_other_ends__ends : NmL (defScope s_other_ends) "ends" := .of (by kernel_rfl)
theorem n_other_ends__road : NmL (defScope s_other_ends) "road" := .of (by kernel_rfl)

theorem ok_other_ends (T : Txt K mg) (hq : Quiet (CXe P w)) {f : Addr} {fd : FuncData} (D : Df K mg "other_ends" s_other_ends ["roads", "place"] f fd) : FnOk P w K mg base (CXe P w) 1 f fd ["roads", "place"] (sp_other_ends T) := by
  refine D.F.okC sc_other_ends (fun vs H Q E h => ?_) (fun cdv A outer s H vs Q E hr h => ?_)
  · obtain ⟨t, ps, rs, n, rfl, _⟩ := h
    rfl
  · obtain ⟨t, ps, rs, n, rfl, ht, hp, hl, k⟩ := h
    refine ⟨_, (pss_cons (ps_set (i := 2) sc_other_ends.nd rfl (Or.inl n_other_ends__ends.l) (pe_lst pa_nil)) (pss_cons (ps_for PassesOwn.never rfl (pi_tup (pvl 0 n_other_ends__roads)) (pg_name (i := 3) sc_other_ends.nd rfl (Or.inl n_other_ends__road.l)) (pss_cons (ps_if (pt_cmpR op_eq (pe_ix ix_tup (pvl 3 n_other_ends__road) pe_int (fun _ _ => rfl)) (pvl 1 n_other_ends__place) (nomark _)) (pss_one (ps_expr (pe_bm PySem.F.plainAttrs_list PySem.F.slot_list_append PySem.F.type_list_append mt_append (pvl 2 n_other_ends__ends) (pa_cons (pe_ix ix_tup (pvl 3 n_other_ends__road) pe_int (fun _ _ => rfl)) pa_nil)))) pss_nil) (pss_one (ps_if (pt_cmpR op_eq (pe_ix ix_tup (pvl 3 n_other_ends__road) pe_int (fun _ _ => rfl)) (pvl 1 n_other_ends__place) (nomark _)) (pss_one (ps_expr (pe_bm PySem.F.plainAttrs_list PySem.F.slot_list_append PySem.F.type_list_append mt_append (pvl 2 n_other_ends__ends) (pa_cons (pe_ix ix_tup (pvl 3 n_other_ends__road) pe_int (fun _ _ => rfl)) pa_nil)))) pss_nil)))) (pss_one (ps_ret (pvl 2 n_other_ends__ends))))), ?_⟩
    rw [show L2.start ["roads", "place", "ends", "road"] [V.ref t, V.int n] = [some (V.ref t), some (V.int n), none, none] from rfl]
    walk_at "rd"
    refine ⟨by decide, fun l hn => ?_⟩
    have hlen : ps.length = rs.length := Paired.length hp
    refine ⟨⟨_, Same.tup (Same.new _ hn) ht⟩, for_tup (xs := ps.map V.ref) (fun i σ H2 => H2 = upd H l (.lst ((ends (rs.take i) n).map V.int)) ∧ ∃ v, σ = [some (.ref t), some (.int n), some (.ref l), v]) ⟨rfl, _, rfl⟩ (fun i σ H2 _ z => by rw [z.1]; exact Same.tup (Same.new _ hn) ht) ?_ ?_⟩
    · rintro i x σ H2 hi ⟨rfl, v, rfl⟩
      obtain ⟨p, r, rfl, h1, h2, h3⟩ := hp.get hi
      have np : p ≠ l := ne_of_none h3 hn
      have hil : i < rs.length := (List.getElem?_eq_some_iff.mp h2).1
      have et : rs.take (i + 1) = rs.take i ++ [r] := by rw [List.take_succ, h2]; rfl
      have hb : (ends (rs.take i) n).length ≤ 2000 := Nat.le_trans (ends_len _ _) (by rw [List.length_take]; omega)
      have hx : ∀ o, upd H l o p = some (.tup (vRoad r)) := fun o => by rw [upd_ne np]; exact h3
      walk_at "rd"
      refine ixT (hx _) rfl ?_
      walk_at "rd"
      have fin : ∀ (ys : List Int), (ends (rs.take i) n ++ ys) = ends (rs.take (i + 1)) n → upd H l (.lst ((ends (rs.take i) n).map V.int ++ ys.map V.int)) = upd H l (.lst ((ends (rs.take (i + 1)) n).map V.int)) := fun ys e => by
        rw [← List.map_append, e]
      have e1 : ends1 n r = (if r.a = n then [r.b] else []) ++ (if r.b = n then [r.a] else []) := rfl
      by_cases ca : r.a = n
      · rw [if_pos ca]
        refine ⟨tyL upd_same, ixT (hx _) rfl (appR upd_same (small (by rw [List.length_map]; omega)) ?_)⟩
        rw [upd_upd]
        refine ixT (hx _) rfl ?_
        walk_at "rd"
        by_cases cb : r.b = n
        · rw [if_pos cb]
          refine ⟨tyL upd_same, ixT (hx _) rfl (appR upd_same (small (by rw [List.length_append, List.length_map]; simp; omega)) ?_)⟩
          rw [upd_upd, List.append_assoc]
          exact ⟨fin [r.b, r.a] (by rw [et, ends_snoc, e1, if_pos ca, if_pos cb]; rfl), _, rfl⟩
        · rw [if_neg cb]
          exact ⟨fin [r.b] (by rw [et, ends_snoc, e1, if_pos ca, if_neg cb]; rfl), _, rfl⟩
      · rw [if_neg ca]
        refine ixT (hx _) rfl ?_
        walk_at "rd"
        by_cases cb : r.b = n
        · rw [if_pos cb]
          refine ⟨tyL upd_same, ixT (hx _) rfl (appR upd_same (small (by rw [List.length_map]; omega)) ?_)⟩
          rw [upd_upd]
          exact ⟨fin [r.a] (by rw [et, ends_snoc, e1, if_neg ca, if_pos cb]; rfl), _, rfl⟩
        · rw [if_neg cb]
          have := fin [] (by rw [et, ends_snoc, e1, if_neg ca, if_neg cb]; rfl)
          rw [List.map_nil, List.append_nil] at this
          exact ⟨this, _, rfl⟩
    · rintro σ H2 ⟨rfl, v, rfl⟩
      rw [List.length_map, hlen, List.take_length]
      exact ⟨_, rfl, k l _ hn (Same.new _ hn) upd_same⟩
/-! #### check_joined -/
def kvsOf (ks : List Int) : List (Key × V) := ks.map fun k => ((Sum.inl k : Key), V.bl true)
theorem kvsOf_len (ks : List Int) : (kvsOf ks).length = ks.length := by unfold kvsOf; rw [List.length_map]
theorem valV_kvs (ks : List Int) (e : Int) : valV (kvsOf ks) (Sum.inl e : Key) = if e ∈ ks then some (V.bl true) else none := by
  unfold kvsOf
  induction ks with
  | nil => rfl
  | cons k ks ih =>
    rw [List.map_cons]
    by_cases c : k = e
    · rw [valV_pos (by rw [c]), if_pos (by rw [c]; exact List.mem_cons_self)]
    · rw [valV_neg (fun z => c (Sum.inl.inj z)), ih]
      by_cases d : e ∈ ks
      · rw [if_pos d, if_pos (List.mem_cons_of_mem _ d)]
      · rw [if_neg d, if_neg (fun z => by rcases List.mem_cons.mp z with z | z; exact c z.symm; exact d z)]
theorem putK_kvs {ks : List Int} {e : Int} (h : e ∉ ks) : putK (kvsOf ks) (Sum.inl e : Key) (V.bl true) = kvsOf (ks ++ [e]) := by
  rw [putK_new _ (by rw [valV_kvs, if_neg h])]
  unfold kvsOf
  rw [List.map_append]
  rfl
def sp_check_joined (T : Txt K mg) : Sp := fun vs H Q _ => ∃ (m : Int) (t : Addr) (ps : List Addr) (rs : List Road), vs = [.int m, .ref t] ∧ SqT K H t (ps.map V.ref) ∧ RoadsAt H ps rs ∧ Good m rs ∧ ∀ H', Same H H' → Q .non H'
abbrev s_check_joined : Stmt := top 22
theorem sc_check_joined : FnScope ["many", "roads", "reached", "waiting", "place", "end"] ["many", "roads"] (defScope s_check_joined) := FnScope.of (by kernel_rfl)
theorem n_check_joined__many : NmL (defScope s_check_joined) "many" := .of (by kernel_rfl)
theorem n_check_joined__roads : NmL (defScope s_check_joined) "roads" := .of (by kernel_rfl)
theorem n_check_joined__reached : NmL (defScope s_check_joined) "reached" := .of (by kernel_rfl)
theorem n_check_joined__waiting : NmL (defScope s_check_joined) "waiting" := .of (by kernel_rfl)
theorem n_check_joined__place : NmL (defScope s_check_joined) "place" := .of (by kernel_rfl)
theorem n_check_joined__end : NmL (defScope s_check_joined) "end" := .of (by kernel_rfl)
theorem n_check_joined__other_ends : NmG (defScope s_check_joined) "other_ends" := .of (by kernel_rfl)
theorem n_check_joined__len : NmG (defScope s_check_joined) "len" := .of (by kernel_rfl)
theorem n_check_joined__BadWeb : NmG (defScope s_check_joined) "BadWeb" := .of (by kernel_rfl)

theorem ok_check_joined (T : Txt K mg) (hq : Quiet (CXe P w)) {f : Addr} {fd : FuncData} (D : Df K mg "check_joined" s_check_joined ["many", "roads"] f fd) {f_other_ends : Addr} {fd_other_ends : FuncData} (D_other_ends : Df K mg "other_ends" s_other_ends ["roads", "place"] f_other_ends fd_other_ends) (G_other_ends : FnOk P w K mg base (CXe P w) 1 f_other_ends fd_other_ends ["roads", "place"] (sp_other_ends T)) : FnOk P w K mg base (CXe P w) 2 f fd ["many", "roads"] (sp_check_joined T) := by
  refine D.F.okC sc_check_joined (fun vs H Q E h => ?_) (fun cdv A outer s H vs Q E hr h => ?_)
  · obtain ⟨m, t, ps, rs, rfl, _⟩ := h
    rfl
  · obtain ⟨m, t, ps, rs, rfl, ht, hp, g, k⟩ := h
    have hu := hu_of hr
    refine ⟨_, (pss_cons (ps_set (i := 2) sc_check_joined.nd rfl (Or.inl n_check_joined__reached.l) (pe_disp (pps_cons pe_int pe_bl pps_nil) rfl rfl (List.cons_ne_nil _ _) (by decide))) (pss_cons (ps_set (i := 3) sc_check_joined.nd rfl (Or.inl n_check_joined__waiting.l) (pe_lst (pa_cons pe_int pa_nil))) (pss_cons (ps_while PassesOwn.never (pt_truth (pvl 3 n_check_joined__waiting) (fun _ => rfl)) (pss_cons (ps_set (i := 4) sc_check_joined.nd rfl (Or.inl n_check_joined__place.l) (pe_bm0 PySem.F.plainAttrs_list PySem.F.slot_list_pop PySem.F.type_list_pop mt_pop (pvl 3 n_check_joined__waiting))) (pss_one (ps_for PassesOwn.never rfl (pi_list (pe_call G_other_ends (hr.mono (by decide)) n_check_joined__other_ends.g D_other_ends.m D_other_ends.F.kp D_other_ends.b .nil (passQ hq) (pa_cons (pvl 1 n_check_joined__roads) (pa_cons (pvl 4 n_check_joined__place) pa_nil)) (hdb := n_check_joined__other_ends.d))) (pg_name (i := 5) sc_check_joined.nd rfl (Or.inl n_check_joined__end.l)) (pss_one (ps_if (pt_cmp (pc_dnotin hu (pvl 5 n_check_joined__end) (pvl 2 n_check_joined__reached))) (pss_cons (ps_dput hu (pvl 2 n_check_joined__reached) (pvl 5 n_check_joined__end) pe_bl rfl) (pss_one (ps_expr (pe_bm PySem.F.plainAttrs_list PySem.F.slot_list_append PySem.F.type_list_append mt_append (pvl 3 n_check_joined__waiting) (pa_cons (pvl 5 n_check_joined__end) pa_nil))))) pss_nil)))))) (pss_one (ps_if (pt_cmpR op_ne (pe_callB call_lenD n_check_joined__len.g T.len pb_len (pa_cons (pvl 2 n_check_joined__reached) pa_nil) (hn := n_check_joined__len.n) (hdb := n_check_joined__len.d)) (pvl 0 n_check_joined__many) (nomark _)) (pss_one ps_never) pss_nil))))), ?_⟩
    rw [show L2.start ["many", "roads", "reached", "waiting", "place", "end"] [V.int m, V.ref t] = [some (V.int m), some (V.ref t), none, none, none, none] from rfl]
    have m1 := g.m1
    have m24 := g.m24
    have glen := g.len
    walk_at "rd"
    intro d hd
    refine ⟨upd_same, [(Sum.inl 0, .bl true)], rfl, by decide, ?_⟩
    rw [upd_upd]
    refine ⟨by decide, fun w0 hw => ?_⟩
    have ed : mergeK [] [((Sum.inl 0 : Key), V.bl true)] = kvsOf [0] := rfl
    rw [ed]
    have ndw : w0 ≠ d := fun z => by rw [z, upd_same] at hw; cases hw
    have hw0 : H w0 = none := by rw [upd_ne ndw] at hw; exact hw
    refine while_n (fun n σ H2 => ∃ (ks ws : List Int) (v4 v5 : Option V), n = 2 * (m.toNat - ks.length) + ws.length ∧ σ = [some (.int m), some (.ref t), some (.ref d), some (.ref w0), v4, v5] ∧ Same H H2 ∧ H2 d = some (.dK (kvsOf ks)) ∧ H2 w0 = some (.lst (ws.map V.int)) ∧ JInv m rs ks ws) _ ⟨[0], [0], none, none, rfl, rfl, ?_, ?_, upd_same, JInv.start m1⟩ ?_
    · exact Same.trans (Same.new _ hd) (Same.new _ hw)
    · rw [upd_ne ndw.symm, upd_same]
    rintro n σ H2 NW hN hN2 ⟨ks, ws, v4, v5, rfl, rfl, sm, h1, h2, J⟩
    have kl := nodup_len (by omega) J.nd J.rng
    refine ⟨_, rfl, !(ws.map V.int).isEmpty, .inl ⟨_, SqL.of h2, rfl⟩, ?_⟩
    rcases List.eq_nil_or_concat ws with rfl | ⟨ws', p, rfl⟩
    · -- nothing waits: all places have been reached
      have full := J.all m1 g.jn
      refine iteF ?_
      walk_at "rd"
      refine ⟨kvsOf ks, h1, ?_⟩
      rw [kvsOf_len, if_neg (by omega)]
      exact k _ sm
    · rw [List.concat_eq_append] at J h2 hN hN2 ⊢
      have e1 : (!(List.map V.int (ws' ++ [p])).isEmpty) = true := by simp
      rw [e1]
      refine iteT ⟨NW, hN2, ?_⟩
      walk_at "rd"
      rw [List.map_append, List.map_cons, List.map_nil] at h2
      refine ⟨tyL h2, popR h2 ?_⟩
      have ndw' : d ≠ w0 := ndw.symm
      have sm2 : Same H (upd H2 w0 (.lst (ws'.map V.int))) := fun b o e => by rw [upd_ne (ne_of_none e hw0)]; exact sm b o e
      refine ⟨t, ps, rs, p, rfl, Same.tup sm2 ht, RoadsAt.same sm2 hp, by omega, fun l H3 hn s3 hl => ?_⟩
      have nlw : w0 ≠ l := ne_of_none (o := .lst (ws'.map V.int)) upd_same hn
      have nld : d ≠ l := ne_of_none (o := .dK (kvsOf ks)) (by rw [upd_ne ndw']; exact h1) hn
      have hl0 : H l = none := sm2.free hn
      refine ⟨l, rfl, ⟨_, SqL.of hl⟩, for_listN (K := K) (xs := (ends rs p).map V.int) (fun i σ H4 => ∃ (v5 : Option V), σ = [some (.int m), some (.ref t), some (.ref d), some (.ref w0), some (.int p), v5] ∧ Same H H4 ∧ H4 l = some (.lst ((ends rs p).map V.int)) ∧
        ∃ ks4 ws4 : List Int, H4 d = some (.dK (kvsOf ks4)) ∧ H4 w0 = some (.lst (ws4.map V.int)) ∧ JMid m rs p ((ends rs p).take i) ks4 ws4 ks ws'.length) ?_ (fun i σ H4 _ z => by obtain ⟨_, _, _, z, _⟩ := z; exact SqL.of z) ?_ ?_⟩
      · refine ⟨_, rfl, sm2.trans s3, hl, ks, ws', ?_, ?_, ?_⟩
        · exact s3 _ _ (by rw [upd_ne ndw']; exact h1)
        · exact s3 _ _ upd_same
        · rw [List.take_zero]; exact JMid.start J
      · rintro i x σ H4 NI hI hi ⟨v5, rfl, s4, hl4, ks4, ws4, hd4, hw4, M⟩
        rw [List.getElem?_map] at hi
        obtain ⟨e, he, rfl⟩ : ∃ e, (ends rs p)[i]? = some e ∧ V.int e = x := by
          cases q : (ends rs p)[i]? with
          | none => rw [q] at hi; cases hi
          | some e => rw [q] at hi; exact ⟨e, rfl, Option.some.inj hi⟩
        have er := ends_rng g.ok (List.mem_of_getElem? he)
        have et : (ends rs p).take (i + 1) = (ends rs p).take i ++ [e] := by rw [List.take_succ, he]; rfl
        have st := M.step er.1 er.2
        have k4 := nodup_len (by omega) M.nd M.rng
        have mu4 := M.mu
        walk_at "rd"
        refine ⟨_, DGet.k (k := Sum.inl e) hd4, ?_⟩
        rw [valV_kvs]
        by_cases c : e ∈ ks4
        · rw [if_pos c]
          rw [if_neg (by simp)]
          refine hI _ _ ⟨_, rfl, s4, hl4, ks4, ws4, hd4, hw4, ?_⟩
          rw [et]
          unfold jstep at st
          rw [if_pos c] at st
          exact st
        · rw [if_neg c]
          rw [if_pos (by simp)]
          refine ⟨_, DPut.k (k := Sum.inl e) hd4 (small (by rw [kvsOf_len]; omega)), ?_⟩
          rw [putK_kvs c]
          have hw5 : upd H4 d (.dK (kvsOf (ks4 ++ [e]))) w0 = some (.lst (ws4.map V.int)) := by rw [upd_ne ndw]; exact hw4
          refine ⟨tyL hw5, appR hw5 (small (by rw [List.length_map]; have := M.wl; omega)) ?_⟩
          have hmid := M.mu
          refine hI _ _ ⟨_, rfl, fun b o z => ?_, ?_, ks4 ++ [e], ws4 ++ [e], ?_, ?_, ?_⟩
          · rw [upd_ne (ne_of_none z hw0), upd_ne (ne_of_none z hd)]; exact s4 b o z
          · rw [upd_ne nlw.symm, upd_ne nld.symm]; exact hl4
          · rw [upd_ne ndw', upd_same]
          · rw [upd_same, List.map_append]; rfl
          · rw [et]
            unfold jstep at st
            rw [if_neg c] at st
            exact st
      · rintro σ H4 ⟨v5, rfl, s4, hl4, ks4, ws4, hd4, hw4, M⟩
        rw [List.length_map, List.take_length] at M
        have k4 := nodup_len (by omega) M.nd M.rng
        have mu4 := M.mu
        have up4 := M.up
        refine hN _ _ _ ?_ ⟨ks4, ws4, some (.int p), v5, rfl, rfl, s4, hd4, hw4, M.done⟩
        rw [List.length_append]
        simp only [List.length_cons, List.length_nil]
        omega
/-! #### check_tolls -/
def sp_check_tolls (T : Txt K mg) : Sp := fun vs H Q _ => ∃ (p : Addr) (r : Road), vs = [.ref p] ∧ H p = some (.tup (vRoad r)) ∧ 2 ≤ r.t ∧ r.t ≤ 1000000 ∧ 2 ≤ r.u ∧ r.u ≤ 1000000 ∧ ∀ H', Same H H' → Q .non H'
abbrev s_check_tolls : Stmt := top 21
theorem sc_check_tolls : FnScope ["road", "number"] ["road"] (defScope s_check_tolls) := FnScope.of (by kernel_rfl)
theorem n_check_tolls__road : NmL (defScope s_check_tolls) "road" := .of (by kernel_rfl)
theorem n_check_tolls__number : NmL (defScope s_check_tolls) "number" := .of (by kernel_rfl)
theorem n_check_tolls__LEAST_TOLL : NmG (defScope s_check_tolls) "LEAST_TOLL" := .of (by kernel_rfl)
theorem n_check_tolls__MOST_TOLL : NmG (defScope s_check_tolls) "MOST_TOLL" := .of (by kernel_rfl)
theorem n_check_tolls__BadWeb : NmG (defScope s_check_tolls) "BadWeb" := .of (by kernel_rfl)

theorem ok_check_tolls (T : Txt K mg) (hq : Quiet (CXe P w)) {f : Addr} {fd : FuncData} (D : Df K mg "check_tolls" s_check_tolls ["road"] f fd) : FnOk P w K mg base (CXe P w) 1 f fd ["road"] (sp_check_tolls T) := by
  refine D.F.okC sc_check_tolls (fun vs H Q E h => ?_) (fun cdv A outer s H vs Q E hr h => ?_)
  · obtain ⟨p, r, rfl, _⟩ := h
    rfl
  · obtain ⟨p, r, rfl, hp, t0, t1, u0, u1, k⟩ := h
    refine ⟨_, (pss_one (ps_for PassesOwn.never rfl (pi_tup (pe_tup (pa_cons (pe_ix ix_tup (pvl 0 n_check_tolls__road) pe_int (fun _ _ => rfl)) (pa_cons (pe_ix ix_tup (pvl 0 n_check_tolls__road) pe_int (fun _ _ => rfl)) pa_nil)))) (pg_name (i := 1) sc_check_tolls.nd rfl (Or.inl n_check_tolls__number.l)) (pss_one (ps_if (pt_not (pt_chain op_le op_le (pe_globI n_check_tolls__LEAST_TOLL.g T.c_LEAST_TOLL (hd := n_check_tolls__LEAST_TOLL.d)) (pvl 1 n_check_tolls__number) (pe_globI n_check_tolls__MOST_TOLL.g T.c_MOST_TOLL (hd := n_check_tolls__MOST_TOLL.d)))) (pss_one ps_never) pss_nil)))), ?_⟩
    rw [show L2.start ["road", "number"] [V.ref p] = [some (V.ref p), none] from rfl]
    walk_at "rd"
    refine ixT hp rfl (ixT hp rfl ⟨smallE (by simp), fun q hn => ?_⟩)
    have e1 : upd H q (.tup [.int r.t, .int r.u]) q = some (.tup [.int r.t, .int r.u]) := upd_same
    refine ⟨⟨_, SqT.of e1⟩, for_tup (K := K) (xs := [.int r.t, .int r.u]) (fun i σ H2 => H2 = upd H q (.tup [.int r.t, .int r.u]) ∧ ∃ v, σ = [some (.ref p), v]) ⟨rfl, _, rfl⟩ (fun i σ H2 _ z => by rw [z.1]; exact SqT.of e1) ?_ ?_⟩
    · rintro i x σ H2 hi ⟨rfl, v, rfl⟩
      have hx : ∃ n : Int, x = .int n ∧ 2 ≤ n ∧ n ≤ 1000000 := by
        match i, hi with
        | 0, hi => exact ⟨r.t, by simpa using hi.symm, t0, t1⟩
        | 1, hi => exact ⟨r.u, by simpa using hi.symm, u0, u1⟩
      obtain ⟨n, rfl, n0, n1⟩ := hx
      walk_at "rd"
      rw [if_pos n0, if_neg (by omega)]
      exact ⟨_, rfl⟩
    · rintro σ H2 ⟨rfl, v, rfl⟩
      exact k _ (Same.new _ hn)
/-! #### Web.__init__ -/
/-- the attributes of a web -/
def wflds (m : Int) (t : Addr) : List (Str × V) := putF "roads" (.ref t) (putF "many" (.int m) [])
theorem ne_mr : ¬ (("many" : Str) = "roads") := by decide +kernel
theorem wflds_many (m : Int) (t : Addr) : (wflds m t).lookup ("many" : Str) = some (.int m) := by
  unfold wflds
  rw [lookup_putF, if_neg ne_mr, lookup_putF, if_pos rfl]
theorem wflds_roads (m : Int) (t : Addr) : (wflds m t).lookup ("roads" : Str) = some (.ref t) := by
  unfold wflds
  rw [lookup_putF, if_pos rfl]
/-- a web of m places and the roads rs stands at p, its tuple at t, the roads' tuples at ps -/
structure WebAt (C : Addr) (H : Hp) (p : Addr) (m : Int) (t : Addr) (ps : List Addr) (rs : List Road) : Prop where
  ob : ∃ dx, H p = some (.ins C dx (wflds m t))
  tu : H t = some (.tup (ps.map V.ref))
  ro : RoadsAt H ps rs
  go : Good m rs
theorem WebAt.same {C : Addr} {H H' : Hp} {p : Addr} {m : Int} {t : Addr} {ps : List Addr} {rs : List Road} (e : Same H H') (h : WebAt C H p m t ps rs) : WebAt C H' p m t ps rs :=
  ⟨let ⟨dx, q⟩ := h.ob; ⟨dx, e _ _ q⟩, e _ _ h.tu, RoadsAt.same e h.ro, h.go⟩
def sp_Web___init__ (T : Txt K mg) : Sp := fun vs H Q _ => ∃ (p dx : Addr) (m : Int) (c : Bool) (a : Addr) (ps : List Addr) (rs : List Road), vs = [.ref p, .int m, .ref a] ∧ H p = some (.ins T.Web dx []) ∧ SqX K c H a (ps.map V.ref) ∧ RoadsAt H ps rs ∧ Good m rs ∧
  ∀ t H', H t = none → WebAt T.Web H' p m t ps rs → (∀ b o, H b = some o → b ≠ p → H' b = some o) → Q .non H'
abbrev s_Web___init__ : Stmt := inClass (top 14) 0
theorem sc_Web___init__ : FnScope ["self", "many", "roads", "kept", "road"] ["self", "many", "roads"] (defScope s_Web___init__) := FnScope.of (by kernel_rfl)
theorem n_Web___init____self : NmL (defScope s_Web___init__) "self" := .of (by kernel_rfl)
theorem n_Web___init____many : NmL (defScope s_Web___init__) "many" := .of (by kernel_rfl)
theorem n_Web___init____roads : NmL (defScope s_Web___init__) "roads" := .of (by kernel_rfl)
theorem n_Web___init____kept : NmL (defScope s_Web___init__) "kept" := .of (by kernel_rfl)
theorem n_Web___init____road : NmL (defScope s_Web___init__) "road" := .of (by kernel_rfl)
theorem n_Web___init____tuple : NmG (defScope s_Web___init__) "tuple" := .of (by kernel_rfl)
theorem n_Web___init____check_counts : NmG (defScope s_Web___init__) "check_counts" := .of (by kernel_rfl)
theorem n_Web___init____check_ends : NmG (defScope s_Web___init__) "check_ends" := .of (by kernel_rfl)
theorem n_Web___init____check_tolls : NmG (defScope s_Web___init__) "check_tolls" := .of (by kernel_rfl)
theorem n_Web___init____check_joined : NmG (defScope s_Web___init__) "check_joined" := .of (by kernel_rfl)

theorem ok_Web___init__ (T : Txt K mg) (hq : Quiet (CXe P w)) {f : Addr} {fd : FuncData} (F : Fun K "__init__" "Web.__init__" s_Web___init__ f fd) {f_check_counts : Addr} {fd_check_counts : FuncData} (D_check_counts : Df K mg "check_counts" s_check_counts ["many", "roads"] f_check_counts fd_check_counts) (G_check_counts : FnOk P w K mg base (CXe P w) 1 f_check_counts fd_check_counts ["many", "roads"] (sp_check_counts T)) {f_check_ends : Addr} {fd_check_ends : FuncData} (D_check_ends : Df K mg "check_ends" s_check_ends ["many", "road"] f_check_ends fd_check_ends) (G_check_ends : FnOk P w K mg base (CXe P w) 2 f_check_ends fd_check_ends ["many", "road"] (sp_check_ends T)) {f_check_joined : Addr} {fd_check_joined : FuncData} (D_check_joined : Df K mg "check_joined" s_check_joined ["many", "roads"] f_check_joined fd_check_joined) (G_check_joined : FnOk P w K mg base (CXe P w) 2 f_check_joined fd_check_joined ["many", "roads"] (sp_check_joined T)) {f_check_tolls : Addr} {fd_check_tolls : FuncData} (D_check_tolls : Df K mg "check_tolls" s_check_tolls ["road"] f_check_tolls fd_check_tolls) (G_check_tolls : FnOk P w K mg base (CXe P w) 1 f_check_tolls fd_check_tolls ["road"] (sp_check_tolls T)) : FnOk P w K mg base (CXe P w) 3 f fd ["self", "many", "roads"] (sp_Web___init__ T) := by
  refine F.okC sc_Web___init__ (fun vs H Q E h => ?_) (fun cdv A outer s H vs Q E hr h => ?_)
  · obtain ⟨p, dx, m, c, a, ps, rs, rfl, _⟩ := h
    rfl
  · obtain ⟨p, dx, m, c, a, ps, rs, rfl, hp, ha, hro, g, k⟩ := h
    refine ⟨_, (pss_cons (ps_set (i := 3) sc_Web___init__.nd rfl (Or.inl n_Web___init____kept.l) (pe_callTy call_tuple_of n_Web___init____tuple.g T.tuple pb_tuple (pa_cons (pe_comp rfl (ct_plain (Nc := ["road"]) 1 (by decide +kernel) (by decide +kernel) rfl (by decide +kernel) rfl) (pi_any c (pvl 2 n_Web___init____roads)) (fun _ _ _ _ => (pg_name (i := 0) (show (["road"] : List Str).Nodup from by decide +kernel) rfl (Or.inl rfl))) (fun _ _ _ _ => pts_nil) (fun _ _ _ _ => (pe_callTy (call_tuple_ofK K rfl) (by rfl) T.tuple pb_tuple (pa_cons (pv 0) pa_nil)))) pa_nil) (hn := n_Web___init____tuple.n) (hdb := n_Web___init____tuple.d))) (pss_cons (ps_expr (pe_call G_check_counts (hr.mono (by decide)) n_Web___init____check_counts.g D_check_counts.m D_check_counts.F.kp D_check_counts.b .nil (passQ hq) (pa_cons (pvl 1 n_Web___init____many) (pa_cons (pvl 3 n_Web___init____kept) pa_nil)) (hdb := n_Web___init____check_counts.d))) (pss_cons (ps_for PassesOwn.never rfl (pi_tup (pvl 3 n_Web___init____kept)) (pg_name (i := 4) sc_Web___init__.nd rfl (Or.inl n_Web___init____road.l)) (pss_cons (ps_expr (pe_call G_check_ends (hr.mono (by decide)) n_Web___init____check_ends.g D_check_ends.m D_check_ends.F.kp D_check_ends.b .nil (passQ hq) (pa_cons (pvl 1 n_Web___init____many) (pa_cons (pvl 4 n_Web___init____road) pa_nil)) (hdb := n_Web___init____check_ends.d))) (pss_one (ps_expr (pe_call G_check_tolls (hr.mono (by decide)) n_Web___init____check_tolls.g D_check_tolls.m D_check_tolls.F.kp D_check_tolls.b .nil (passQ hq) (pa_cons (pvl 4 n_Web___init____road) pa_nil) (hdb := n_Web___init____check_tolls.d)))))) (pss_cons (ps_expr (pe_call G_check_joined (hr.mono (by decide)) n_Web___init____check_joined.g D_check_joined.m D_check_joined.F.kp D_check_joined.b .nil (passQ hq) (pa_cons (pvl 1 n_Web___init____many) (pa_cons (pvl 3 n_Web___init____kept) pa_nil)) (hdb := n_Web___init____check_joined.d))) (pss_cons (ps_fld (pvl 0 n_Web___init____self) (pvl 1 n_Web___init____many) rfl) (pss_one (ps_fld (pvl 0 n_Web___init____self) (pvl 3 n_Web___init____kept) rfl))))))), ?_⟩
    rw [show L2.start ["self", "many", "roads", "kept", "road"] [V.ref p, V.int m, V.ref a] = [some (V.ref p), some (V.int m), some (V.ref a), none, none] from rfl]
    walk_at "rd"
    refine ⟨⟨_, ha⟩, fun l hl => ?_⟩
    have hlen : ps.length = rs.length := Paired.length hro
    have glen := g.len
    have m24 := g.m24
    have hl1 : Same H (upd H l (.lst [])) := Same.new _ hl
    refine comp_any (K := K) (xs := ps.map V.ref) (fun i ys σ H2 => H2 = upd H l (.lst ((ps.take i).map V.ref)) ∧ ys = (ps.take i).map V.ref ∧ ∃ v, σ = [v]) ⟨rfl, rfl, _, rfl⟩ (fun i ys σ H2 _ ⟨z, _⟩ => by rw [z]; exact Same.sqX (Same.new _ hl) ha) ?_ ?_
    · rintro i x ys σ H2 N hN hi ⟨rfl, rfl, v, rfl⟩
      obtain ⟨q, r, rfl, h1, h2, h3⟩ := hro.get hi
      have nq : q ≠ l := ne_of_none h3 hl
      have hil : i < ps.length := (List.getElem?_eq_some_iff.mp h1).1
      have et : ps.take (i + 1) = ps.take i ++ [q] := by rw [List.take_succ, h1]; rfl
      walk_at "rd"
      refine ⟨vRoad r, .inr ⟨SqT.of (by rw [upd_ne nq]; exact h3), upd_same, small (by rw [List.length_map, List.length_take]; omega), hN _ _ _ ⟨?_, ?_, _, rfl⟩⟩⟩
      · rw [upd_upd, et, List.map_append]; rfl
      · rw [et, List.map_append]; rfl
    · rintro ys σ H2 ⟨rfl, rfl, v, rfl⟩
      rw [List.length_map, List.take_length]
      refine ⟨l, rfl, ps.map V.ref, .inl ⟨SqL.of upd_same, fun t ht => ?_⟩⟩
      have s1 : Same H (upd H l (.lst (ps.map V.ref))) := Same.new _ hl
      have s2 : Same (upd H l (.lst (ps.map V.ref))) (upd (upd H l (.lst (ps.map V.ref))) t (.tup (ps.map V.ref))) := Same.new _ ht
      have ht0 : H t = none := s1.free ht
      have ht1 : ∀ {H' : Hp}, Same (upd (upd H l (.lst (ps.map V.ref))) t (.tup (ps.map V.ref))) H' → H' t = some (.tup (ps.map V.ref)) := fun e => e _ _ upd_same
      refine ⟨m, t, ps.map V.ref, rfl, SqT.of upd_same, g.m1, g.m24, by rw [List.length_map]; omega, ⟨_, SqT.of upd_same⟩, ?_⟩
      refine for_tupN (K := K) (xs := ps.map V.ref) (fun i σ H3 => Same (upd (upd H l (.lst (ps.map V.ref))) t (.tup (ps.map V.ref))) H3 ∧ ∃ v, σ = [some (.ref p), some (.int m), some (.ref a), some (.ref t), v]) ⟨Same.refl _, _, rfl⟩ (fun i σ H3 _ ⟨z, _⟩ => SqT.of (ht1 z)) ?_ ?_
      · rintro i x σ H3 N hN hi ⟨s3, v, rfl⟩
        have s03 := s1.trans (s2.trans s3)
        obtain ⟨q, r, rfl, h1, h2, h3⟩ := hro.get hi
        have ok := g.ok r (List.mem_of_getElem? h2)
        walk_at "rd"
        refine ⟨m, q, r, rfl, s03 _ _ h3, ok.a0, ok.a1, ok.b0, ok.b1, ok.ne, ?_⟩
        exact ⟨q, r, rfl, s03 _ _ h3, ok.t0, ok.t1, ok.u0, ok.u1, fun H4 s4 => hN _ _ ⟨s3.trans s4, _, rfl⟩⟩
      · rintro σ H3 ⟨s3, v, rfl⟩
        have s03 := s1.trans (s2.trans s3)
        walk_at "rd"
        refine ⟨m, t, ps, rs, rfl, SqT.of (ht1 s3), RoadsAt.same s03 hro, g, fun H4 s4 => ?_⟩
        have s04 := s03.trans s4
        have ntp : t ≠ p := fun z => by rw [z, hp] at ht0; cases ht0
        refine ⟨T.Web, dx, [], s04 _ _ hp, T.cl_Web, T.n_many, by decide, ?_⟩
        refine ⟨T.Web, dx, _, upd_same, T.cl_Web, T.n_roads, by show 1 < 1000; decide, ?_⟩
        rw [upd_upd]
        refine k t _ ht0 ⟨⟨dx, upd_same⟩, ?_, ?_, g⟩ fun b o hb nb => ?_
        · rw [upd_ne ntp]; exact ht1 (s3.trans s4)
        · refine Paired.imp' (fun q r hq => ?_) hro
          rw [upd_ne (ne_of hq hp (by intro z; cases z))]
          exact s04 _ _ hq
        · rw [upd_ne nb]; exact s04 _ _ hb
/-- Web(m, roads), at a call: nothing is changed, a new web stands -/
theorem mk_web (T : Txt K mg) {H : Hp} {m : Int} {c : Bool} {a : Addr} {ps : List Addr} {rs : List Road} {Q : Addr → Hp → Prop} (ha : SqX K c H a (ps.map V.ref)) (ro : RoadsAt H ps rs) (g : Good m rs)
    (k : ∀ x t H', H x = none → H t = none → Same H H' → WebAt T.Web H' x m t ps rs → Q x H') :
    ∀ x dx, H x = none → H dx = none → dx ≠ x → sp_Web___init__ T [.ref x, .int m, .ref a] (upd (upd H dx (.own x)) x (.ins T.Web dx [])) (fun v H2 => v = .non ∧ Q x H2) E0 := by
  intro x dx hx hdx ne
  have hx1 : upd H dx (.own x) x = none := by rw [upd_ne ne.symm]; exact hx
  have s0 : Same H (upd (upd H dx (.own x)) x (.ins T.Web dx [])) := (Same.new _ hdx).trans (Same.new _ hx1)
  exact ⟨x, dx, m, c, a, ps, rs, rfl, upd_same, Same.sqX s0 ha, RoadsAt.same s0 ro, g, fun t H' ht W kp => ⟨rfl, k x t H' hx (s0.free ht) (fun b o e => kp b o (s0 b o e) (ne_of_none e hx)) W⟩⟩
/-! #### _law_tolls -/
def sp_law_tolls (T : Txt K mg) : Sp := fun vs H Q _ => ∃ (c : Int), vs = [.int c] ∧ ∀ (p : Addr) (t u : Int), H p = none → 2 ≤ t → t ≤ 1000000 → 2 ≤ u → u ≤ 1000000 → Q (.ref p) (upd H p (.tup [.int t, .int u]))
abbrev s_law_tolls : Stmt := top 38
theorem sc_law_tolls : FnScope ["t", "there", "back"] ["t"] (defScope s_law_tolls) := FnScope.of (by kernel_rfl)
theorem n_law_tolls__t : NmL (defScope s_law_tolls) "t" := .of (by kernel_rfl)
theorem n_law_tolls__there : NmL (defScope s_law_tolls) "there" := .of (by kernel_rfl)
theorem n_law_tolls__back : NmL (defScope s_law_tolls) "back" := .of (by kernel_rfl)

theorem ok_law_tolls (T : Txt K mg) (hq : Quiet (CXe P w)) {f : Addr} {fd : FuncData} (D : Df K mg "_law_tolls" s_law_tolls ["t"] f fd) : FnOk P w K mg base (CXe P w) 1 f fd ["t"] (sp_law_tolls T) := by
  refine D.F.okC sc_law_tolls (fun vs H Q E h => ?_) (fun cdv A outer s H vs Q E hr h => ?_)
  · obtain ⟨c, rfl, _⟩ := h
    rfl
  · obtain ⟨c, rfl, k⟩ := h
    refine ⟨_, (pss_cons (ps_set (i := 1) sc_law_tolls.nd rfl (Or.inl n_law_tolls__there.l) (pe_op op_add pe_int (pe_op op_mod (pe_op op_fdiv (pvl 0 n_law_tolls__t) pe_int) pe_int))) (pss_cons (ps_set (i := 2) sc_law_tolls.nd rfl (Or.inl n_law_tolls__back.l) (pe_op op_add pe_int (pe_op op_mod (pe_op op_fdiv (pvl 0 n_law_tolls__t) pe_int) pe_int))) (pss_cons (ps_if (pt_cmpR op_eq (pe_op op_mod (pvl 0 n_law_tolls__t) pe_int) pe_int (nomark _)) (pss_one (ps_set (i := 2) sc_law_tolls.nd rfl (Or.inl n_law_tolls__back.l) (pvl 1 n_law_tolls__there))) pss_nil) (pss_cons (ps_if (PW.pt (pw_and (pt_cmpR op_eq (pe_op op_mod (pvl 0 n_law_tolls__t) pe_int) pe_int (nomark _)) (pw_and1 (pt_cmpR op_eq (pe_op op_mod (pe_op op_fdiv (pvl 0 n_law_tolls__t) pe_int) pe_int) pe_int (nomark _))))) (pss_cons (ps_set (i := 1) sc_law_tolls.nd rfl (Or.inl n_law_tolls__there.l) (pe_op op_add pe_int (pe_op op_mod (pe_op op_fdiv (pvl 0 n_law_tolls__t) pe_int) pe_int))) (pss_one (ps_set (i := 2) sc_law_tolls.nd rfl (Or.inl n_law_tolls__back.l) (pe_op op_add pe_int (pe_op op_mod (pe_op op_fdiv (pe_op op_fdiv (pvl 0 n_law_tolls__t) pe_int) pe_int) pe_int))))) pss_nil) (pss_one (ps_ret (pe_tup (pa_cons (pvl 1 n_law_tolls__there) (pa_cons (pvl 2 n_law_tolls__back) pa_nil))))))))), ?_⟩
    rw [show L2.start ["t", "there", "back"] [V.int c] = [some (V.int c), none, none] from rfl]
    have em : ∀ (x n : Int), 0 < n → 0 ≤ x % n ∧ x % n < n := fun x n h => ⟨Int.emod_nonneg x (Int.ne_of_gt h), Int.emod_lt_of_pos x h⟩
    have a1 := em (c / 4) 3 (by decide)
    have a2 := em (c / 12) 3 (by decide)
    have a3 := em (c / 144) 999999 (by decide)
    have a4 := em (c / 144 / 999999) 999999 (by decide)
    have cd : ∀ x n : Int, 0 < n → n < 1073741824 → CDiv x n := fun x n h1 h2 => ⟨h1, h2⟩
    have z2 : ∀ x y : V, [x, y].length ≤ sizeLine := fun x y => smallE (by simp)
    walk_at "rd"
    refine ⟨cd _ _ (by decide) (by decide), by decide, cd _ _ (by decide) (by decide), by decide, by decide, ?_⟩
    have far : CDiv c 36 ∧ (0 : Int) < 4 ∧ CDiv c 144 ∧ (0 : Int) < 999999 ∧ CDiv (c / 144) 999999 := ⟨cd _ _ (by decide) (by decide), by decide, cd _ _ (by decide) (by decide), by decide, cd _ _ (by decide) (by decide)⟩
    obtain ⟨f1, f2, f3, f4, f5⟩ := far
    have k1 : ∀ p, H p = none → Q (.ref p) (upd H p (.tup [.int (2 + c / 144 % 999999), .int (2 + c / 144 / 999999 % 999999)])) := fun p hp => k p _ _ hp (by omega) (by omega) (by omega) (by omega)
    have k2 : ∀ p, H p = none → Q (.ref p) (upd H p (.tup [.int (2 + c / 4 % 3), .int (2 + c / 4 % 3)])) := fun p hp => k p _ _ hp (by omega) (by omega) (by omega) (by omega)
    have k3 : ∀ p, H p = none → Q (.ref p) (upd H p (.tup [.int (2 + c / 4 % 3), .int (2 + c / 12 % 3)])) := fun p hp => k p _ _ hp (by omega) (by omega) (by omega) (by omega)
    by_cases y1 : c % 4 = 1
    · rw [if_pos y1]
      refine ⟨f2, ?_⟩
      rw [if_neg (by omega)]
      exact ⟨z2 _ _, k2⟩
    · rw [if_neg y1]
      refine ⟨f2, ?_⟩
      by_cases y2 : c % 4 = 2
      · rw [if_pos y2]
        refine ⟨f1, f2, ?_⟩
        by_cases y3 : c / 36 % 4 = 1
        · rw [if_pos y3]
          exact ⟨f3, f4, f3, f5, f4, z2 _ _, k1⟩
        · rw [if_neg y3]
          exact ⟨z2 _ _, k3⟩
      · rw [if_neg y2]
        exact ⟨z2 _ _, k3⟩
/-! #### _law_amounts -/
def sp_law_amounts (T : Txt K mg) : Sp := fun vs H Q _ => ∃ (a : Addr) (ns : List Int) (m : Int), vs = [.ref a, .int m] ∧ SqL K H a (ns.map V.int) ∧ ns.length ≤ 63 ∧ 1 ≤ m ∧ m ≤ 1000 ∧ ∀ (l : Addr) (xs : List Int) (H' : Hp), H l = none → Same H H' → H' l = some (.lst (xs.map V.int)) → (xs.length : Int) = m → (∀ x ∈ xs, 0 ≤ x) → Q (.ref l) H'
abbrev s_law_amounts : Stmt := top 40
theorem sc_law_amounts : FnScope ["script", "many", "held", "k", "more"] ["script", "many"] (defScope s_law_amounts) := FnScope.of (by kernel_rfl)
theorem n_law_amounts__script : NmL (defScope s_law_amounts) "script" := .of (by kernel_rfl)
theorem n_law_amounts__many : NmL (defScope s_law_amounts) "many" := .of (by kernel_rfl)
theorem n_law_amounts__held : NmL (defScope s_law_amounts) "held" := .of (by kernel_rfl)
theorem n_law_amounts__k : NmL (defScope s_law_amounts) "k" := .of (by kernel_rfl)
theorem n_law_amounts__more : NmL (defScope s_law_amounts) "more" := .of (by kernel_rfl)
theorem n_law_amounts__range : NmG (defScope s_law_amounts) "range" := .of (by kernel_rfl)
theorem n_law_amounts__len : NmG (defScope s_law_amounts) "len" := .of (by kernel_rfl)

theorem ok_law_amounts (T : Txt K mg) (hq : Quiet (CXe P w)) {f : Addr} {fd : FuncData} (D : Df K mg "_law_amounts" s_law_amounts ["script", "many"] f fd) : FnOk P w K mg base (CXe P w) 1 f fd ["script", "many"] (sp_law_amounts T) := by
  refine D.F.okC sc_law_amounts (fun vs H Q E h => ?_) (fun cdv A outer s H vs Q E hr h => ?_)
  · obtain ⟨a, ns, m, rfl, _⟩ := h
    rfl
  · obtain ⟨a, ns, m, rfl, ha, hn, m0, m1, k⟩ := h
    refine ⟨_, (pss_cons (ps_set (i := 2) sc_law_amounts.nd rfl (Or.inl n_law_amounts__held.l) (pe_op op_rep (pe_lst (pa_cons pe_int pa_nil)) (pvl 1 n_law_amounts__many))) (pss_cons (ps_for PassesOwn.never rfl (pi_range2 n_law_amounts__range.g T.range (pa_cons pe_int (pa_cons (pe_callB call_len_seq n_law_amounts__len.g T.len pb_len (pa_cons (pvl 0 n_law_amounts__script) pa_nil) (hn := n_law_amounts__len.n) (hdb := n_law_amounts__len.d)) pa_nil))) (pg_name (i := 3) sc_law_amounts.nd rfl (Or.inl n_law_amounts__k.l)) (pss_cons (ps_set (i := 4) sc_law_amounts.nd rfl (Or.inl n_law_amounts__more.l) (pe_op op_mod (pe_op op_fdiv (pe_ix ix_list (pvl 0 n_law_amounts__script) (pvl 3 n_law_amounts__k) (fun _ _ => rfl)) pe_int) pe_int)) (pss_cons (ps_if (pt_cmpR op_eq (pe_op op_mod (pe_ix ix_list (pvl 0 n_law_amounts__script) (pvl 3 n_law_amounts__k) (fun _ _ => rfl)) pe_int) pe_int (nomark _)) (pss_one (ps_set (i := 4) sc_law_amounts.nd rfl (Or.inl n_law_amounts__more.l) (pe_op op_mod (pe_op op_fdiv (pe_ix ix_list (pvl 0 n_law_amounts__script) (pvl 3 n_law_amounts__k) (fun _ _ => rfl)) pe_int) (pe_op op_pow pe_int pe_int)))) pss_nil) (pss_one (ps_asg (pe_op op_mod (pe_op op_add (pe_ix ix_list (pvl 2 n_law_amounts__held) (pe_op op_mod (pvl 3 n_law_amounts__k) (pvl 1 n_law_amounts__many)) (fun _ _ => rfl)) (pvl 4 n_law_amounts__more)) (pe_op op_mul pe_int (pe_op op_pow pe_int pe_int))) (pg_sub (pvl 2 n_law_amounts__held) (pe_op op_mod (pvl 3 n_law_amounts__k) (pvl 1 n_law_amounts__many)) set_list)))))) (pss_one (ps_ret (pvl 2 n_law_amounts__held))))), ?_⟩
    rw [show L2.start ["script", "many", "held", "k", "more"] [V.ref a, V.int m] = [some (V.ref a), some (V.int m), none, none, none] from rfl]
    walk_at "rd"
    refine ⟨smallE (by simp), fun l0 n0 => ?_⟩
    refine ⟨l0, m, _, rfl, rfl, upd_same, by omega, by omega, smallE (by simp; omega), fun l n1 => ?_⟩
    rw [flatR]
    have s0 : Same H (upd H l0 (.lst [.int 0])) := Same.new _ n0
    have s1 := s0.trans (Same.new (.lst (List.replicate m.toNat (V.int 0))) n1)
    have nl := s0.free n1
    refine ⟨_, .inl (Same.seq s1 ha), 2, _, ⟨rfl, rfl⟩, ⟨by omega, by omega, by omega, by rw [List.length_map]; omega⟩, ?_⟩
    rw [List.length_map]
    have e1 : upd (upd H l0 (.lst [.int 0])) l (.lst (List.replicate m.toNat (V.int 0))) l = some (.lst ((List.replicate m.toNat (0 : Int)).map V.int)) := by rw [upd_same, List.map_replicate]
    generalize upd (upd H l0 (.lst [.int 0])) l (.lst (List.replicate m.toNat (V.int 0))) = H1 at s1 e1 ⊢
    refine for_rangeN (fun i σ H2 => Same H H2 ∧ ∃ (xs : List Int) (v3 v4 : Option V), H2 l = some (.lst (xs.map V.int)) ∧ (xs.length : Int) = m ∧ (∀ x ∈ xs, 0 ≤ x) ∧ σ = [some (.ref a), some (.int m), some (.ref l), v3, v4]) ⟨s1, _, _, _, e1, by rw [List.length_replicate]; omega, fun x hx => by rw [(List.mem_replicate.mp hx).2]; decide, rfl⟩ ?_ ?_
    · rintro i σ H2 N hN hi ⟨s2, xs, v3, v4, e2, xl, x0, rfl⟩
      have i0 : 0 ≤ (2 : Int) + i := by omega
      have i1 : (2 : Int) + i < ns.length := by omega
      generalize (2 : Int) + i = j at i0 i1 ⊢
      have ga := atG i0 i1
      have sa := Same.seq s2 ha
      generalize ns.getD j.toNat 0 = c at ga ⊢
      have p59 : (0 : Int) < 9 * 10 ^ (59 : Int).toNat := Int.mul_pos (by decide) (Int.pow_pos (by decide))
      have p58 : (0 : Int) < 10 ^ (58 : Int).toNat := Int.pow_pos (by decide)
      have h1 := Int.emod_nonneg j (show m ≠ 0 by omega)
      have h2 := Int.emod_lt_of_pos j (show 0 < m by omega)
      have fin : ∀ (v6 : Option V) (w : Int), 0 ≤ w → N [some (.ref a), some (.int m), some (.ref l), some (.int j), v6] (upd H2 l (.lst ((xs.map V.int).set (j % m).toNat (.int w)))) := fun v6 w w0 => hN _ _ ⟨s2.put nl _, xs.set (j % m).toNat w, _, _, by rw [upd_same, List.map_set], by rw [List.length_set]; exact xl, ge_set x0 w0, rfl⟩
      have lm : j % m < (xs.map V.int).length := by rw [List.length_map]; omega
      have gm := atG (xs := xs) h1 (by omega)
      walk_at "rd"
      refine ixS sa ga ⟨c, rfl, ⟨by decide, by decide⟩, by decide, ixS sa ga ⟨c, rfl, by decide, ?_⟩⟩
      by_cases z : c % 9 = 8
      · rw [if_pos z]
        refine ixS sa ga ⟨_, rfl, ⟨by decide, by decide⟩, ⟨by decide, by decide, by decide⟩, p58, by omega, ixL e2 gm ⟨_, rfl, ⟨by decide, by decide, by decide⟩, .inl ⟨by decide, by decide⟩, p59, by omega, setR e2 h1 lm (fin _ _ (Int.emod_nonneg _ (Int.ne_of_gt p59)))⟩⟩
      · rw [if_neg z]
        refine ⟨by omega, ixL e2 gm ⟨_, rfl, ⟨by decide, by decide, by decide⟩, .inl ⟨by decide, by decide⟩, p59, by omega, setR e2 h1 lm (fin _ _ (Int.emod_nonneg _ (Int.ne_of_gt p59)))⟩⟩
    · rintro σ H2 ⟨s2, xs, v3, v4, e2, xl, x0, rfl⟩
      exact ⟨_, rfl, k l xs H2 nl s2 e2 xl x0⟩
/-! #### _law_last -/
def sp_law_last (T : Txt K mg) : Sp := fun vs H Q _ => ∃ (a : Addr) (ns : List Int), vs = [.ref a] ∧ SqL K H a (ns.map V.int) ∧ ∀ v, Q (.int v) H
abbrev s_law_last : Stmt := top 36
theorem sc_law_last : FnScope ["script"] ["script"] (defScope s_law_last) := FnScope.of (by kernel_rfl)
theorem n_law_last__script : NmL (defScope s_law_last) "script" := .of (by kernel_rfl)
theorem n_law_last__len : NmG (defScope s_law_last) "len" := .of (by kernel_rfl)

theorem ok_law_last (T : Txt K mg) (hq : Quiet (CXe P w)) {f : Addr} {fd : FuncData} (D : Df K mg "_law_last" s_law_last ["script"] f fd) : FnOk P w K mg base (CXe P w) 1 f fd ["script"] (sp_law_last T) := by
  refine D.F.okC sc_law_last (fun vs H Q E h => ?_) (fun cdv A outer s H vs Q E hr h => ?_)
  · obtain ⟨a, ns, rfl, _⟩ := h
    rfl
  · obtain ⟨a, ns, rfl, ha, k⟩ := h
    refine ⟨_, (pss_cons (ps_if (pt_cmpR op_eq (pe_callB call_len_seq n_law_last__len.g T.len pb_len (pa_cons (pvl 0 n_law_last__script) pa_nil) (hn := n_law_last__len.n) (hdb := n_law_last__len.d)) pe_int (nomark _)) (pss_one (ps_ret pe_int)) pss_nil) (pss_one (ps_ret (pe_ix ix_list (pvl 0 n_law_last__script) (pe_op op_sub (pe_callB call_len_seq n_law_last__len.g T.len pb_len (pa_cons (pvl 0 n_law_last__script) pa_nil) (hn := n_law_last__len.n) (hdb := n_law_last__len.d)) pe_int) (fun _ _ => rfl))))), ?_⟩
    rw [show L2.start ["script"] [V.ref a] = [some (V.ref a)] from rfl]
    walk_at "rd"
    refine ⟨_, .inl ha, ?_⟩
    rw [List.length_map]
    by_cases c : ((ns.length : Nat) : Int) = 0
    · rw [if_pos c]
      exact k 0
    · rw [if_neg c]
      refine ⟨_, .inl ha, ?_⟩
      rw [List.length_map]
      exact ixS ha (atG (by omega) (by omega)) (k _)
/-! #### _law_cell -/
def sp_law_cell (T : Txt K mg) : Sp := fun vs H Q _ => ∃ (a : Addr) (ns : List Int) (k : Int), vs = [.ref a, .int k] ∧ SqL K H a (ns.map V.int) ∧ 0 ≤ k ∧ ∀ v, Q (.int v) H
abbrev s_law_cell : Stmt := top 35
theorem sc_law_cell : FnScope ["script", "k"] ["script", "k"] (defScope s_law_cell) := FnScope.of (by kernel_rfl)
theorem n_law_cell__script : NmL (defScope s_law_cell) "script" := .of (by kernel_rfl)
theorem n_law_cell__k : NmL (defScope s_law_cell) "k" := .of (by kernel_rfl)
theorem n_law_cell__len : NmG (defScope s_law_cell) "len" := .of (by kernel_rfl)

theorem ok_law_cell (T : Txt K mg) (hq : Quiet (CXe P w)) {f : Addr} {fd : FuncData} (D : Df K mg "_law_cell" s_law_cell ["script", "k"] f fd) : FnOk P w K mg base (CXe P w) 1 f fd ["script", "k"] (sp_law_cell T) := by
  refine D.F.okC sc_law_cell (fun vs H Q E h => ?_) (fun cdv A outer s H vs Q E hr h => ?_)
  · obtain ⟨a, ns, i, rfl, _⟩ := h
    rfl
  · obtain ⟨a, ns, i, rfl, ha, h0, k⟩ := h
    refine ⟨_, (pss_cons (ps_if (pt_cmpR op_lt (pvl 1 n_law_cell__k) (pe_callB call_len_seq n_law_cell__len.g T.len pb_len (pa_cons (pvl 0 n_law_cell__script) pa_nil) (hn := n_law_cell__len.n) (hdb := n_law_cell__len.d)) (nomark _)) (pss_one (ps_ret (pe_ix ix_list (pvl 0 n_law_cell__script) (pvl 1 n_law_cell__k) (fun _ _ => rfl)))) pss_nil) (pss_one (ps_ret pe_int))), ?_⟩
    rw [show L2.start ["script", "k"] [V.ref a, V.int i] = [some (V.ref a), some (V.int i)] from rfl]
    walk_at "rd"
    refine ⟨_, .inl ha, ?_⟩
    rw [List.length_map]
    by_cases c : i < (ns.length : Int)
    · rw [if_pos c]
      have hi : i.toNat < ns.length := by omega
      exact ixS ha (atI_int h0 (v := .int ns[i.toNat]) (by rw [List.getElem?_map, List.getElem?_eq_getElem hi]; rfl)) (k _)
    · rw [if_neg c]
      exact k 0
/-! #### _law_row -/
def sp_law_row (T : Txt K mg) : Sp := fun vs H Q _ => ∃ (c o m b : Int), vs = [.int c, .int o, .int m, .int b] ∧ 0 ≤ m ∧ m ≤ 1000 ∧ 0 < b ∧ b < 1000000000000000000 ∧ ∀ (l : Addr) (xs : List Int) (H' : Hp), H l = none → Same H H' → H' l = some (.lst (xs.map V.int)) → (xs.length : Int) = m → (∀ x ∈ xs, 0 ≤ x) → Q (.ref l) H'
abbrev s_law_row : Stmt := top 37
theorem sc_law_row : FnScope ["cell", "mode", "many", "base", "found", "rest", "k", "m"] ["cell", "mode", "many", "base"] (defScope s_law_row) := FnScope.of (by kernel_rfl)
theorem n_law_row__cell : NmL (defScope s_law_row) "cell" := .of (by kernel_rfl)
theorem n_law_row__mode : NmL (defScope s_law_row) "mode" := .of (by kernel_rfl)
theorem n_law_row__many : NmL (defScope s_law_row) "many" := .of (by kernel_rfl)
theorem n_law_row__base : NmL (defScope s_law_row) "base" := .of (by kernel_rfl)
theorem n_law_row__found : NmL (defScope s_law_row) "found" := .of (by kernel_rfl)
theorem n_law_row__rest : NmL (defScope s_law_row) "rest" := .of (by kernel_rfl)
theorem n_law_row__k : NmL (defScope s_law_row) "k" := .of (by kernel_rfl)
theorem n_law_row__m : NmL (defScope s_law_row) "m" := .of (by kernel_rfl)
theorem n_law_row__range : NmG (defScope s_law_row) "range" := .of (by kernel_rfl)

theorem ok_law_row (T : Txt K mg) (hq : Quiet (CXe P w)) {f : Addr} {fd : FuncData} (D : Df K mg "_law_row" s_law_row ["cell", "mode", "many", "base"] f fd) : FnOk P w K mg base (CXe P w) 1 f fd ["cell", "mode", "many", "base"] (sp_law_row T) := by
  refine D.F.okC sc_law_row (fun vs H Q E h => ?_) (fun cdv A outer s H vs Q E hr h => ?_)
  · obtain ⟨c, o, m, b, rfl, _⟩ := h
    rfl
  · obtain ⟨c, o, m, b, rfl, m0, m1, b0, b1, k⟩ := h
    refine ⟨_, (pss_cons (ps_set (i := 4) sc_law_row.nd rfl (Or.inl n_law_row__found.l) (pe_lst pa_nil)) (pss_cons (ps_set (i := 5) sc_law_row.nd rfl (Or.inl n_law_row__rest.l) (pvl 0 n_law_row__cell)) (pss_cons (ps_for PassesOwn.never rfl (pi_range1 n_law_row__range.g T.range (pa_cons (pvl 2 n_law_row__many) pa_nil)) (pg_name (i := 6) sc_law_row.nd rfl (Or.inl n_law_row__k.l)) (pss_one (ps_if (pt_cmpR op_eq (pvl 1 n_law_row__mode) pe_int (nomark _)) (pss_cons (ps_expr (pe_bm PySem.F.plainAttrs_list PySem.F.slot_list_append PySem.F.type_list_append mt_append (pvl 4 n_law_row__found) (pa_cons (pe_op op_mod (pvl 5 n_law_row__rest) (pvl 3 n_law_row__base)) pa_nil))) (pss_one (ps_set (i := 5) sc_law_row.nd rfl (Or.inl n_law_row__rest.l) (pe_op op_fdivB (pvl 5 n_law_row__rest) (pvl 3 n_law_row__base))))) (pss_cons (ps_set (i := 7) sc_law_row.nd rfl (Or.inl n_law_row__m.l) (pe_op op_mod (pe_op op_mul (pe_op op_add (pe_op op_add (pe_op op_mod (pvl 0 n_law_row__cell) pe_int) (pe_op op_mul pe_int (pvl 6 n_law_row__k))) pe_int) pe_int) pe_int)) (pss_cons (ps_set (i := 7) sc_law_row.nd rfl (Or.inl n_law_row__m.l) (pe_op op_mod (pe_op op_mul (pe_op op_mod (pe_op op_mul (pvl 7 n_law_row__m) (pvl 7 n_law_row__m)) pe_int) pe_int) pe_int)) (pss_one (ps_expr (pe_bm PySem.F.plainAttrs_list PySem.F.slot_list_append PySem.F.type_list_append mt_append (pvl 4 n_law_row__found) (pa_cons (pe_op op_fdiv (pvl 7 n_law_row__m) pe_int) pa_nil))))))))) (pss_one (ps_ret (pvl 4 n_law_row__found)))))), ?_⟩
    rw [show L2.start ["cell", "mode", "many", "base", "found", "rest", "k", "m"] [V.int c, V.int o, V.int m, V.int b] = [some (V.int c), some (V.int o), some (V.int m), some (V.int b), none, none, none, none] from rfl]
    walk_at "rd"
    refine ⟨by decide, fun l hl => ?_⟩
    refine ⟨by omega, by omega, ?_⟩
    refine for_rangeN (fun i σ H2 => Same H H2 ∧ ∃ (xs : List Int) (r : Int) (v6 v7 : Option V), H2 l = some (.lst (xs.map V.int)) ∧ xs.length = i ∧ (∀ x ∈ xs, 0 ≤ x) ∧ σ = [some (V.int c), some (V.int o), some (V.int m), some (V.int b), some (V.ref l), some (V.int r), v6, v7]) ⟨Same.new _ hl, [], c, _, _, upd_same, rfl, (fun x hx => absurd hx List.not_mem_nil), rfl⟩ ?_ ?_
    · rintro i σ H2 N hN hi ⟨s2, xs, r, v6, v7, e2, xl, x0, rfl⟩
      have ei : (0 : Int) + (i : Int) = (i : Int) := by omega
      rw [ei]
      walk_at "rd"
      have zl : (xs.map V.int).length < sizeLine := small (by rw [List.length_map]; omega)
      have snoc : ∀ y : Int, 0 ≤ y → ∀ x ∈ xs ++ [y], 0 ≤ x := fun y hy x hx => by
        rcases List.mem_append.mp hx with h | h
        · exact x0 x h
        · rw [List.mem_singleton.mp h]; exact hy
      by_cases z : o = 0
      · rw [if_pos z]
        refine ⟨tyL e2, b0, appR e2 zl ⟨⟨b0, by omega⟩, hN _ _ ⟨s2.put hl _, xs ++ [r % b], _, _, _, ?_, by rw [List.length_append, xl]; rfl, snoc _ (Int.emod_nonneg _ (by omega)), rfl⟩⟩⟩
        rw [upd_same, List.map_append]
        rfl
      · rw [if_neg z]
        have h1 := Int.emod_nonneg c (show (998244353 : Int) ≠ 0 by decide)
        have h2 := Int.emod_lt_of_pos c (show (0 : Int) < 998244353 by decide)
        generalize c % 998244353 = c1 at h1 h2 ⊢
        have h3 := Int.emod_nonneg ((c1 + 7919 * (i : Int) + 11) * 48271) (show (2147483647 : Int) ≠ 0 by decide)
        have h4 := Int.emod_lt_of_pos ((c1 + 7919 * (i : Int) + 11) * 48271) (show (0 : Int) < 2147483647 by decide)
        refine ⟨by decide, .inl ⟨by decide, by decide⟩, .inr ⟨by decide, by decide⟩, by decide, ?_⟩
        generalize (c1 + 7919 * (i : Int) + 11) * 48271 % 2147483647 = c2 at h3 h4 ⊢
        have h5 := Int.emod_nonneg (c2 * c2) (show (2147483629 : Int) ≠ 0 by decide)
        refine ⟨.inl ⟨by omega, by omega⟩, by decide, .inr ⟨by decide, by decide⟩, by decide, ?_⟩
        have h6 := Int.emod_nonneg (c2 * c2 % 2147483629 * 40692) (show (2147483399 : Int) ≠ 0 by decide)
        generalize c2 * c2 % 2147483629 * 40692 % 2147483399 = c3 at h6 ⊢
        refine ⟨tyL e2, ⟨by decide, by decide⟩, appR e2 zl (hN _ _ ⟨s2.put hl _, xs ++ [c3 / 7], _, _, _, ?_, by rw [List.length_append, xl]; rfl, snoc _ (Int.ediv_nonneg h6 (by decide)), rfl⟩)⟩
        rw [upd_same, List.map_append]
        rfl
    · rintro σ H2 ⟨s2, xs, r, v6, v7, e2, xl, x0, rfl⟩
      exact ⟨_, rfl, k l xs H2 hl s2 e2 (by omega) x0⟩
/-! #### _law_roads -/
theorem paired_take {α β : Type} {R : α → β → Prop} : ∀ (n : Nat) {l₁ : List α} {l₂ : List β}, Paired R l₁ l₂ → Paired R (l₁.take n) (l₂.take n)
  | 0, _, _, _ => by rw [List.take_zero, List.take_zero]; exact .nil
  | _ + 1, _, _, .nil => .nil
  | n + 1, _, _, .cons x xs => .cons x (paired_take n xs)
theorem paired_drop {α β : Type} {R : α → β → Prop} : ∀ (n : Nat) {l₁ : List α} {l₂ : List β}, Paired R l₁ l₂ → Paired R (l₁.drop n) (l₂.drop n)
  | 0, _, _, h => h
  | _ + 1, _, _, .nil => .nil
  | n + 1, _, _, .cons x xs => paired_drop n xs
theorem paired_app {α β : Type} {R : α → β → Prop} {k₁ : List α} {k₂ : List β} (h : Paired R k₁ k₂) : ∀ {l₁ : List α} {l₂ : List β}, Paired R l₁ l₂ → Paired R (l₁ ++ k₁) (l₂ ++ k₂)
  | _, _, .nil => h
  | _, _, .cons x xs => .cons x (paired_app h xs)
theorem RoadsAt.ins {H : Hp} {ps : List Addr} {rs : List Road} {q : Addr} {r : Road} (n : Nat) (h : RoadsAt H ps rs) (e : H q = some (.tup (vRoad r))) : RoadsAt H (ps.take n ++ q :: ps.drop n) (rs.take n ++ r :: rs.drop n) :=
  paired_app (R := fun p r => H p = some (.tup (vRoad r))) (.cons e (paired_drop n h)) (paired_take n h)
theorem keep_upd {H : Hp} {p : Addr} (o : HO) : ∀ b u, H b = some u → b ≠ p → upd H p o b = some u := fun b u h n => by rw [upd_ne n]; exact h
/-- places numbered from another one on -/
def turnL (m s : Int) : List Int := (below m.toNat).map fun v => (v + s) % m
theorem turnL_get {m s v : Int} (h0 : 0 ≤ v) (h1 : v < m) : (turnL m s).getD v.toNat 0 = (v + s) % m := by
  unfold turnL
  rw [List.getD, List.getElem?_map, below_get (by omega), Int.toNat_of_nonneg h0]
  rfl
theorem turn_inj {m s a b : Int} (a0 : 0 ≤ a) (a1 : a < m) (b0 : 0 ≤ b) (b1 : b < m) (e : (a + s) % m = (b + s) % m) : a = b := by
  have h1 := Int.emod_emod_of_dvd (a + s) (Int.dvd_refl m)
  have h2 : (a - b) % m = 0 := by
    have := Int.emod_eq_emod_iff_emod_sub_eq_zero.mp e
    rwa [show a + s - (b + s) = a - b by omega] at this
  obtain ⟨k, hk⟩ := Int.dvd_of_emod_eq_zero h2
  have m0 : 0 < m := by omega
  have : k = 0 := by
    rcases Int.lt_trichotomy k 0 with z | z | z
    · have : m * k ≤ m * (-1) := Int.mul_le_mul_of_nonneg_left (by omega) (by omega)
      omega
    · exact z
    · have : m * 1 ≤ m * k := Int.mul_le_mul_of_nonneg_left (by omega) (by omega)
      omega
  rw [this] at hk
  omega
theorem turnL_ok {m s : Int} (m0 : 1 ≤ m) : Labels m.toNat (turnL m s) where
  len := by unfold turnL; rw [List.length_map, below_length]
  nd := by
    unfold turnL
    refine List.pairwise_map.mpr ((nodup_below m.toNat).imp_of_mem fun {a b} ha hb h e => h ?_)
    obtain ⟨a0, a1⟩ := mem_below.mp ha
    obtain ⟨b0, b1⟩ := mem_below.mp hb
    exact turn_inj a0 (by omega) b0 (by omega) e
  all := fun v h0 h1 => by
    unfold turnL
    refine List.mem_map.mpr ⟨(v - s) % m, mem_below.mpr ⟨Int.emod_nonneg _ (by omega), ?_⟩, ?_⟩
    · have := Int.emod_lt_of_pos (v - s) (show 0 < m by omega)
      omega
    · rw [Int.emod_add_emod, show v - s + s = v by omega, Int.emod_eq_of_lt h0 (by omega)]
  rng := fun v hv => by
    unfold turnL at hv
    obtain ⟨u, _, rfl⟩ := List.mem_map.mp hv
    have h1 := Int.emod_nonneg (u + s) (show m ≠ 0 by omega)
    have h2 := Int.emod_lt_of_pos (u + s) (show 0 < m by omega)
    omega
theorem if_join {c : Prop} [Decidable c] {A B : Prop} {P : Int → Prop} (m1 m2 : Int) (hB : P m2 → B) (hA : P m1 → A) (h : ∀ m, (m = m1 ∨ m = m2) → P m) : if c then A else B := by
  by_cases z : c
  · rw [if_pos z]; exact hA (h _ (.inl rfl))
  · rw [if_neg z]; exact hB (h _ (.inr rfl))
def sp_law_roads (T : Txt K mg) : Sp := fun vs H Q _ => ∃ (a : Addr) (ns : List Int), vs = [.ref a] ∧ SqL K H a (ns.map V.int) ∧
  ∀ (t l : Addr) (m : Int) (ps : List Addr) (rs : List Road) (H' : Hp), H t = none → H l = none → Same H H' → H' t = some (.tup [.int m, .ref l]) → H' l = some (.lst (ps.map V.ref)) → RoadsAt H' ps rs → Good m rs → Q (.ref t) H'
abbrev s_law_roads : Stmt := top 39
theorem sc_law_roads : FnScope ["script", "mode", "shape", "tolls", "many", "roads", "k", "hang", "one", "other", "there", "back", "road"] ["script"] (defScope s_law_roads) := FnScope.of (by kernel_rfl)
theorem n_law_roads__script : NmL (defScope s_law_roads) "script" := .of (by kernel_rfl)
theorem n_law_roads__mode : NmL (defScope s_law_roads) "mode" := .of (by kernel_rfl)
theorem n_law_roads__shape : NmL (defScope s_law_roads) "shape" := .of (by kernel_rfl)
theorem n_law_roads__tolls : NmL (defScope s_law_roads) "tolls" := .of (by kernel_rfl)
theorem n_law_roads__many : NmL (defScope s_law_roads) "many" := .of (by kernel_rfl)
theorem n_law_roads__roads : NmL (defScope s_law_roads) "roads" := .of (by kernel_rfl)
theorem n_law_roads__k : NmL (defScope s_law_roads) "k" := .of (by kernel_rfl)
theorem n_law_roads__hang : NmL (defScope s_law_roads) "hang" := .of (by kernel_rfl)
theorem n_law_roads__one : NmL (defScope s_law_roads) "one" := .of (by kernel_rfl)
theorem n_law_roads__other : NmL (defScope s_law_roads) "other" := .of (by kernel_rfl)
theorem n_law_roads__there : NmL (defScope s_law_roads) "there" := .of (by kernel_rfl)
theorem n_law_roads__back : NmL (defScope s_law_roads) "back" := .of (by kernel_rfl)
theorem n_law_roads__road : NmL (defScope s_law_roads) "road" := .of (by kernel_rfl)
theorem n_law_roads__law_cell : NmG (defScope s_law_roads) "_law_cell" := .of (by kernel_rfl)
theorem n_law_roads__law_row : NmG (defScope s_law_roads) "_law_row" := .of (by kernel_rfl)
theorem n_law_roads__range : NmG (defScope s_law_roads) "range" := .of (by kernel_rfl)
theorem n_law_roads__law_tolls : NmG (defScope s_law_roads) "_law_tolls" := .of (by kernel_rfl)
theorem n_law_roads__len : NmG (defScope s_law_roads) "len" := .of (by kernel_rfl)

theorem ok_law_roads (T : Txt K mg) (hq : Quiet (CXe P w)) {f : Addr} {fd : FuncData} (D : Df K mg "_law_roads" s_law_roads ["script"] f fd) {f_law_cell : Addr} {fd_law_cell : FuncData} (D_law_cell : Df K mg "_law_cell" s_law_cell ["script", "k"] f_law_cell fd_law_cell) (G_law_cell : FnOk P w K mg base (CXe P w) 1 f_law_cell fd_law_cell ["script", "k"] (sp_law_cell T)) {f_law_row : Addr} {fd_law_row : FuncData} (D_law_row : Df K mg "_law_row" s_law_row ["cell", "mode", "many", "base"] f_law_row fd_law_row) (G_law_row : FnOk P w K mg base (CXe P w) 1 f_law_row fd_law_row ["cell", "mode", "many", "base"] (sp_law_row T)) {f_law_tolls : Addr} {fd_law_tolls : FuncData} (D_law_tolls : Df K mg "_law_tolls" s_law_tolls ["t"] f_law_tolls fd_law_tolls) (G_law_tolls : FnOk P w K mg base (CXe P w) 1 f_law_tolls fd_law_tolls ["t"] (sp_law_tolls T)) : FnOk P w K mg base (CXe P w) 2 f fd ["script"] (sp_law_roads T) := by
  refine D.F.okC sc_law_roads (fun vs H Q E h => ?_) (fun cdv A outer s H vs Q E hr h => ?_)
  · obtain ⟨a, ns, rfl, _⟩ := h
    rfl
  · obtain ⟨a, ns, rfl, ha, k⟩ := h
    refine ⟨_, (pss_cons (ps_set (i := 1) sc_law_roads.nd rfl (Or.inl n_law_roads__mode.l) (pe_op op_mod (pe_call G_law_cell (hr.mono (by decide)) n_law_roads__law_cell.g D_law_cell.m D_law_cell.F.kp D_law_cell.b .nil (passQ hq) (pa_cons (pvl 0 n_law_roads__script) (pa_cons pe_int pa_nil)) (hdb := n_law_roads__law_cell.d)) pe_int)) (pss_cons (ps_set (i := 2) sc_law_roads.nd rfl (Or.inl n_law_roads__shape.l) (pe_call G_law_row (hr.mono (by decide)) n_law_roads__law_row.g D_law_row.m D_law_row.F.kp D_law_row.b .nil (passQ hq) (pa_cons (pe_op op_fdiv (pe_call G_law_cell (hr.mono (by decide)) n_law_roads__law_cell.g D_law_cell.m D_law_cell.F.kp D_law_cell.b .nil (passQ hq) (pa_cons (pvl 0 n_law_roads__script) (pa_cons pe_int pa_nil)) (hdb := n_law_roads__law_cell.d)) pe_int) (pa_cons (pvl 1 n_law_roads__mode) (pa_cons pe_int (pa_cons pe_int pa_nil)))) (hdb := n_law_roads__law_row.d))) (pss_cons (ps_set (i := 3) sc_law_roads.nd rfl (Or.inl n_law_roads__tolls.l) (pe_call G_law_row (hr.mono (by decide)) n_law_roads__law_row.g D_law_row.m D_law_row.F.kp D_law_row.b .nil (passQ hq) (pa_cons (pe_call G_law_cell (hr.mono (by decide)) n_law_roads__law_cell.g D_law_cell.m D_law_cell.F.kp D_law_cell.b .nil (passQ hq) (pa_cons (pvl 0 n_law_roads__script) (pa_cons pe_int pa_nil)) (hdb := n_law_roads__law_cell.d)) (pa_cons (pvl 1 n_law_roads__mode) (pa_cons pe_int (pa_cons (pe_op op_mul pe_int (pe_op op_pow pe_int pe_int)) pa_nil)))) (hdb := n_law_roads__law_row.d))) (pss_cons (ps_set (i := 4) sc_law_roads.nd rfl (Or.inl n_law_roads__many.l) (pe_op op_add pe_int (pe_op op_mod (pe_ix ix_list (pvl 2 n_law_roads__shape) pe_int (fun _ _ => rfl)) pe_int))) (pss_cons (ps_if (pt_cmpR op_eq (pe_op op_mod (pe_op op_fdiv (pe_ix ix_list (pvl 2 n_law_roads__shape) pe_int (fun _ _ => rfl)) pe_int) pe_int) pe_int (nomark _)) (pss_one (ps_set (i := 4) sc_law_roads.nd rfl (Or.inl n_law_roads__many.l) (pe_op op_add pe_int (pe_op op_mod (pe_op op_fdiv (pe_ix ix_list (pvl 2 n_law_roads__shape) pe_int (fun _ _ => rfl)) pe_int) pe_int)))) pss_nil) (pss_cons (ps_set (i := 5) sc_law_roads.nd rfl (Or.inl n_law_roads__roads.l) (pe_lst pa_nil)) (pss_cons (ps_for PassesOwn.never rfl (pi_range2 n_law_roads__range.g T.range (pa_cons pe_int (pa_cons (pvl 4 n_law_roads__many) pa_nil))) (pg_name (i := 6) sc_law_roads.nd rfl (Or.inl n_law_roads__k.l)) (pss_cons (ps_set (i := 7) sc_law_roads.nd rfl (Or.inl n_law_roads__hang.l) (pe_ix ix_list (pe_lst (pa_cons (pe_op op_sub (pvl 6 n_law_roads__k) pe_int) (pa_cons pe_int (pa_cons (pe_op op_mod (pe_ix ix_list (pvl 2 n_law_roads__shape) (pe_op op_add (pvl 6 n_law_roads__k) pe_int) (fun _ _ => rfl)) (pvl 6 n_law_roads__k)) (pa_cons (pe_op op_mod (pe_ix ix_list (pvl 2 n_law_roads__shape) (pe_op op_add (pvl 6 n_law_roads__k) pe_int) (fun _ _ => rfl)) (pvl 6 n_law_roads__k)) pa_nil))))) (pe_op op_mod (pe_ix ix_list (pvl 2 n_law_roads__shape) pe_int (fun _ _ => rfl)) pe_int) (fun _ _ => rfl))) (pss_cons (ps_set (i := 8) sc_law_roads.nd rfl (Or.inl n_law_roads__one.l) (pe_op op_mod (pe_op op_add (pvl 7 n_law_roads__hang) (pe_op op_fdiv (pe_ix ix_list (pvl 2 n_law_roads__shape) pe_int (fun _ _ => rfl)) pe_int)) (pvl 4 n_law_roads__many))) (pss_cons (ps_set (i := 9) sc_law_roads.nd rfl (Or.inl n_law_roads__other.l) (pe_op op_mod (pe_op op_add (pvl 6 n_law_roads__k) (pe_op op_fdiv (pe_ix ix_list (pvl 2 n_law_roads__shape) pe_int (fun _ _ => rfl)) pe_int)) (pvl 4 n_law_roads__many))) (pss_cons (ps_asg (pe_call G_law_tolls (hr.mono (by decide)) n_law_roads__law_tolls.g D_law_tolls.m D_law_tolls.F.kp D_law_tolls.b .nil (passQ hq) (pa_cons (pe_ix ix_list (pvl 3 n_law_roads__tolls) (pvl 6 n_law_roads__k) (fun _ _ => rfl)) pa_nil) (hdb := n_law_roads__law_tolls.d)) (pg_tup (n := 2) rfl (pgs_cons (pg_name (i := 10) sc_law_roads.nd rfl (Or.inl n_law_roads__there.l)) (pgs_cons (pg_name (i := 11) sc_law_roads.nd rfl (Or.inl n_law_roads__back.l)) pgs_nil)))) (pss_cons (ps_set (i := 12) sc_law_roads.nd rfl (Or.inl n_law_roads__road.l) (pe_tup (pa_cons (pvl 8 n_law_roads__one) (pa_cons (pvl 9 n_law_roads__other) (pa_cons (pvl 10 n_law_roads__there) (pa_cons (pvl 11 n_law_roads__back) pa_nil)))))) (pss_cons (ps_if (pt_cmpR op_eq (pe_op op_mod (pe_op op_fdiv (pe_ix ix_list (pvl 2 n_law_roads__shape) (pe_op op_add (pvl 6 n_law_roads__k) pe_int) (fun _ _ => rfl)) pe_int) pe_int) pe_int (nomark _)) (pss_one (ps_set (i := 12) sc_law_roads.nd rfl (Or.inl n_law_roads__road.l) (pe_tup (pa_cons (pvl 9 n_law_roads__other) (pa_cons (pvl 8 n_law_roads__one) (pa_cons (pvl 11 n_law_roads__back) (pa_cons (pvl 10 n_law_roads__there) pa_nil))))))) pss_nil) (pss_one (ps_expr (pe_bm PySem.F.plainAttrs_list PySem.F.slot_list_insert PySem.F.type_list_insert mt_insert (pvl 5 n_law_roads__roads) (pa_cons (pe_op op_mod (pe_op op_fdiv (pe_ix ix_list (pvl 2 n_law_roads__shape) (pe_op op_add (pvl 6 n_law_roads__k) pe_int) (fun _ _ => rfl)) pe_int) (pe_op op_add (pe_callB call_len_seq n_law_roads__len.g T.len pb_len (pa_cons (pvl 5 n_law_roads__roads) pa_nil) (hn := n_law_roads__len.n) (hdb := n_law_roads__len.d)) pe_int)) (pa_cons (pvl 12 n_law_roads__road) pa_nil)))))))))))) (pss_one (ps_ret (pe_tup (pa_cons (pvl 4 n_law_roads__many) (pa_cons (pvl 5 n_law_roads__roads) pa_nil)))))))))))), ?_⟩
    rw [show L2.start ["script", "mode", "shape", "tolls", "many", "roads", "k", "hang", "one", "other", "there", "back", "road"] [V.ref a] = [some (V.ref a), none, none, none, none, none, none, none, none, none, none, none, none] from rfl]
    have em : ∀ (x n : Int), 0 < n → 0 ≤ x % n ∧ x % n < n := fun x n h => ⟨Int.emod_nonneg x (Int.ne_of_gt h), Int.emod_lt_of_pos x h⟩
    have cd : ∀ x n : Int, 0 < n → n < 1073741824 → CDiv x n := fun x n h1 h2 => ⟨h1, h2⟩
    refine cutS fun N1 h1 => ?_
    walk_at "rd"
    refine ⟨a, ns, 0, rfl, ha, by decide, fun c0 => ⟨c0, rfl, by decide, h1 _ _ (cutS fun N2 h2 => ?_)⟩⟩
    walk_at "rd"
    refine ⟨a, ns, 0, rfl, ha, by decide, fun c1 => ⟨c1, rfl, cd _ _ (by decide) (by decide), ?_⟩⟩
    refine ⟨_, _, 26, 9600, rfl, by decide, by decide, by decide, by decide, fun ls sh H1 n1 s1 e1 shl sh0 => h2 _ _ (cutS fun N3 h3 => ?_)⟩
    walk_at "rd"
    refine ⟨a, ns, 1, rfl, Same.seq s1 ha, by decide, fun c2 => ⟨⟨by decide, by decide, by decide⟩, .inl ⟨by decide, by decide⟩, ?_⟩⟩
    refine ⟨_, _, 24, _, rfl, by decide, by decide, by decide, by decide, fun lt ts H2 n2 s2 e2 tl t0 => h3 _ _ (cutS fun N4 h4 => ?_)⟩
    walk_at "rd"
    have sh2 := s2 _ _ e1
    have s02 := s1.trans s2
    have g0 := atG (xs := sh) (i := 0) (by decide) (by omega)
    have g1 := atG (xs := sh) (i := 1) (by decide) (by omega)
    have p1 : 0 ≤ sh.getD (1 : Int).toNat 0 := ge_getD sh0 _
    generalize sh.getD (0 : Int).toNat 0 = w0 at g0 ⊢
    generalize sh.getD (1 : Int).toNat 0 = w1 at g1 p1 ⊢
    refine ixL sh2 g0 ⟨w0, rfl, by decide, h4 _ _ (cutS fun N5 h5 => ?_)⟩
    walk_at "rd"
    refine ixL sh2 g0 ⟨w0, rfl, cd _ _ (by decide) (by decide), by decide, ?_⟩
    have mm := em w0 7 (by decide)
    have mn := em (w0 / 70) 17 (by decide)
    apply if_join (8 + w0 / 70 % 17) (1 + w0 % 7)
    · generalize 1 + w0 % 7 = m
      intro h
      exact h
    · exact fun h => ixL sh2 g0 ⟨w0, rfl, cd _ _ (by decide) (by decide), by decide, h⟩
    intro m hm
    have m1 : 1 ≤ m := by omega
    have m24 : m ≤ 24 := by omega
    clear hm mm mn
    refine h5 _ _ (cutS fun N6 h6 => ?_)
    walk_at "rd"
    refine ⟨by decide, fun lo nlo => h6 _ _ (cutS fun N7 h7 => ?_)⟩
    walk_at "rd"
    refine ⟨1, m, ⟨rfl, rfl⟩, ⟨by decide, by decide, by omega, by omega⟩, ?_⟩
    have nl0 : H lo = none := s02.free nlo
    refine for_rangeH (fun i σ H3 => ∃ (ps : List Addr) (rs : List Road) (rows : List Row) (v6 v7 v8 v9 v10 v11 v12 : Option V), σ = [some (V.ref a), some (V.int (c0 % 2)), some (V.ref ls), some (V.ref lt), some (V.int m), some (V.ref lo), v6, v7, v8, v9, v10, v11, v12] ∧ Same H2 H3 ∧ H3 lo = some (.lst (ps.map V.ref)) ∧ RoadsAt H3 ps rs ∧ Rows i rows ∧ Put (turnL m (w1 / 4)) rows rs) ⟨[], [], [], _, _, _, _, _, _, _, rfl, Same.new _ nlo, upd_same, .nil, ⟨rfl, fun i r h => by cases h⟩, Put.nil _⟩ ?_ ?_
    · rintro i σ H3 N BB hBB hN hi ⟨ps, rs, rows, v6, v7, v8, v9, v10, v11, v12, rfl, s3, hl3, ro3, R, P⟩
      refine hBB _ _ ?_
      have k0 : (1 : Int) ≤ 1 + (i : Int) := by omega
      have k1 : 1 + (i : Int) < m := by omega
      generalize hk : (1 : Int) + (i : Int) = kk at k0 k1 ⊢
      have psl : ps.length = rs.length := Paired.length ro3
      have rl := R.len
      have pl := P.len
      have gk := atG (xs := sh) (i := kk + 1) (by omega) (by omega)
      have pk : 0 ≤ sh.getD (kk + 1).toNat 0 := ge_getD sh0 _
      generalize sh.getD (kk + 1).toNat 0 = wk at gk pk
      have gt := atG (xs := ts) (i := kk) (by omega) (by omega)
      generalize ts.getD kk.toNat 0 = tk at gt
      have sh3 := s3 _ _ sh2
      have ts3 := s3 _ _ e2
      have hg := em wk kk (by omega)
      refine cutS fun M1 k1' => ?_
      walk_at "rd"
      refine ixL sh3 gk ⟨wk, rfl, by omega, ixL sh3 gk ⟨wk, rfl, by omega, smallE (by simp), fun q1 hq1 => ?_⟩⟩
      have s4 := Same.new (.lst [.int (kk - 1), .int 0, .int (wk % kk), .int (wk % kk)]) hq1
      obtain ⟨un, hun, u0, u1⟩ : ∃ un : Int, atI [V.int (kk - 1), V.int 0, V.int (wk % kk), V.int (wk % kk)] (w1 % 4) = some (.int un) ∧ 0 ≤ un ∧ un < kk := by
        rcases (show w1 % 4 = 0 ∨ w1 % 4 = 1 ∨ w1 % 4 = 2 ∨ w1 % 4 = 3 by omega) with z | z | z | z
        · exact ⟨_, by rw [z]; rfl, by omega, by omega⟩
        · exact ⟨_, by rw [z]; rfl, by omega, by omega⟩
        · exact ⟨_, by rw [z]; rfl, hg.1, hg.2⟩
        · exact ⟨_, by rw [z]; rfl, hg.1, hg.2⟩
      refine ixL (s4 _ _ sh3) g1 ⟨w1, rfl, by decide, ixL upd_same hun (k1' _ _ (cutS fun M2 k2' => ?_))⟩
      generalize upd H3 q1 (.lst [.int (kk - 1), .int 0, .int (wk % kk), .int (wk % kk)]) = H4 at s4 ⊢
      have sh4 := s4 _ _ sh3
      walk_at "rd"
      refine ixL sh4 g1 ⟨w1, rfl, cd _ _ (by decide) (by decide), by omega, k2' _ _ (cutS fun M3 k3' => ?_)⟩
      walk_at "rd"
      refine ixL sh4 g1 ⟨w1, rfl, cd _ _ (by decide) (by decide), by omega, k3' _ _ (cutS fun M4 k4' => ?_)⟩
      walk_at "rd"
      refine ixL (s4 _ _ ts3) gt ?_
      refine ⟨tk, rfl, fun q2 th bk hq2 t0' t1 b0 b1 => ?_⟩
      have s5 := Same.new (.tup [.int th, .int bk]) hq2
      refine ⟨q2, rfl, _, SqT.of upd_same, rfl, _, _, rfl, _, _, rfl, rfl, k4' _ _ (cutS fun M5 k5' => ?_)⟩
      walk_at "rd"
      refine ⟨smallE (by simp), fun q3 hq3 => k5' _ _ (cutS fun M6 k6' => ?_)⟩
      walk_at "rd"
      have s6 := Same.new (.tup [.int ((un + w1 / 4) % m), .int ((kk + w1 / 4) % m), .int th, .int bk]) hq3
      have s36 := s4.trans (s5.trans s6)
      have q36 : upd (upd H4 q2 (.tup [.int th, .int bk])) q3 (.tup [.int ((un + w1 / 4) % m), .int ((kk + w1 / 4) % m), .int th, .int bk]) q3 = some (.tup [.int ((un + w1 / 4) % m), .int ((kk + w1 / 4) % m), .int th, .int bk]) := upd_same
      generalize upd (upd H4 q2 (.tup [.int th, .int bk])) q3 (.tup [.int ((un + w1 / 4) % m), .int ((kk + w1 / 4) % m), .int th, .int bk]) = H6 at s36 q36 ⊢
      have sh6 := s36 _ _ sh3
      have lu := turnL_get (s := w1 / 4) u0 (show un < m by omega)
      have lk := turnL_get (s := w1 / 4) (show 0 ≤ kk by omega) k1
      -- the road is put at its spot
      have put : ∀ (H7 : Hp) (q : Addr) (row : Row) (v7 v8 v9 v10 v11 v12 : Option V), Same H3 H7 → row.k = kk → RowOk row → H7 q = some (.tup (vRoad (roadOf (turnL m (w1 / 4)) row))) → tyV K "list" (V.ref lo) H7 ∧ rIxL K (V.ref ls) (V.int (kk + 1)) H7 fun x H1 => ∃ i, x = V.int i ∧ CDiv i 48 ∧ ∃ y, (SqL K H1 lo y ∨ SqT K H1 lo y) ∧ 0 < (y.length : Int) + 1 ∧ rInsert (V.ref lo) [V.int (i / 48 % ((y.length : Int) + 1)), V.ref q] H1 fun _ H2 => N [some (V.ref a), some (V.int (c0 % 2)), some (V.ref ls), some (V.ref lt), some (V.int m), some (V.ref lo), some (V.int kk), v7, v8, v9, v10, v11, v12] H2 := by
        intro H7 q row v7 v8 v9 v10 v11 v12 s7 rk rok hq
        have hl7 := s7 _ _ hl3
        have sp := em (wk / 48) ((ps.length : Int) + 1) (by omega)
        refine ⟨tyL hl7, ixL (s7 _ _ sh3) gk ⟨wk, rfl, cd _ _ (by decide) (by decide), _, .inl (SqL.of hl7), by omega, ?_⟩⟩
        rw [List.length_map]
        refine insR hl7 sp.1 (by rw [List.length_map]; omega) (small (by rw [List.length_map]; omega)) (hN _ _ ⟨ps.take (wk / 48 % ((ps.length : Int) + 1)).toNat ++ q :: ps.drop (wk / 48 % ((ps.length : Int) + 1)).toNat, rs.take (wk / 48 % ((ps.length : Int) + 1)).toNat ++ roadOf (turnL m (w1 / 4)) row :: rs.drop (wk / 48 % ((ps.length : Int) + 1)).toNat, rows ++ [row], _, _, _, _, _, _, _, rfl, ?_, ?_, ?_, ?_, P.step row _⟩)
        · exact (s3.trans s7).put nlo _
        · rw [upd_same, List.map_append, List.map_cons, List.map_take, List.map_drop]
        · exact RoadsAt.ins _ (Paired.imp' (fun p r h => keep_upd _ _ _ h (ne_of h hl7 (by intro z; cases z))) (RoadsAt.same s7 ro3)) (keep_upd _ _ _ hq (ne_of hq hl7 (by intro z; cases z)))
        · refine ⟨by rw [List.length_append, rl]; rfl, fun j r hj => ?_⟩
          by_cases hjl : j < rows.length
          · rw [List.getElem?_append_left hjl] at hj
            exact R.ok j r hj
          · have hj2 : j = rows.length := by
              have := (List.getElem?_eq_some_iff.mp hj).1
              rw [List.length_append] at this
              simp at this
              omega
            rw [hj2, List.getElem?_append_right (Nat.le_refl _), Nat.sub_self] at hj
            cases hj
            exact ⟨by omega, rok⟩
      refine ixL sh6 gk ⟨wk, rfl, cd _ _ (by decide) (by decide), by decide, ?_⟩
      by_cases c : wk / 24 % 2 = 1
      · rw [if_pos c]
        refine ⟨smallE (by simp), fun q4 hq4 => k6' _ _ ?_⟩
        walk_at "rd"
        refine put _ q4 ⟨kk, un, bk, th, 0, 0⟩ _ _ _ _ _ _ (s36.trans (Same.new _ hq4)) rfl ⟨u0, u1, b0, b1, t0', t1, Int.le_refl _, by show (0 : Int) < kk; omega⟩ ?_
        rw [upd_same]
        unfold roadOf
        rw [if_neg (show ¬ (0 : Int) = 1 by decide)]
        show _ = some (HO.tup [V.int ((turnL m (w1 / 4)).getD kk.toNat 0), V.int ((turnL m (w1 / 4)).getD un.toNat 0), V.int bk, V.int th])
        rw [lu, lk]
      · rw [if_neg c]
        refine k6' _ _ ?_
        walk_at "rd"
        refine put _ q3 ⟨kk, un, th, bk, 1, 0⟩ _ _ _ _ _ _ s36 rfl ⟨u0, u1, t0', t1, b0, b1, Int.le_refl _, by show (0 : Int) < kk; omega⟩ ?_
        rw [q36]
        unfold roadOf
        rw [if_pos rfl]
        show _ = some (HO.tup [V.int ((turnL m (w1 / 4)).getD un.toNat 0), V.int ((turnL m (w1 / 4)).getD kk.toNat 0), V.int th, V.int bk])
        rw [lu, lk]
    · rintro BB σ H3 hBB ⟨ps, rs, rows, v6, v7, v8, v9, v10, v11, v12, rfl, s3, hl3, ro3, R, P⟩
      refine hBB _ _ ?_
      have g := good_of (n := m.toNat) (by omega) (by omega) (turnL_ok m1) (by rw [show m.toNat - 1 = (m - 1).toNat by omega]; exact R) P
      rw [Int.toNat_of_nonneg (by omega)] at g
      walk_at "rd"
      refine h7 _ _ ?_
      walk_at "rd"
      refine ⟨smallE (by simp), fun t nt => ?_⟩
      have s4 := Same.new (.tup [.int m, .ref lo]) nt
      exact k t lo m ps rs _ ((s02.trans s3).free nt) nl0 (s02.trans (s3.trans s4)) upd_same (s4 _ _ hl3) (RoadsAt.same s4 ro3) g
/-! #### _law_price -/
def sp_law_price (T : Txt K mg) : Sp := fun vs H Q _ => ∃ (l : Addr) (ps : List Addr) (rs : List Road) (a b : Int), vs = [.ref l, .int a, .int b] ∧ H l = some (.lst (ps.map V.ref)) ∧ RoadsAt H ps rs ∧ (∀ k, tollOf rs a b = some k → Q (.int k) H) ∧ (tollOf rs a b = none → Q .non H)
abbrev s_law_price : Stmt := top 41
theorem sc_law_price : FnScope ["roads", "a", "b", "one", "other", "there", "back"] ["roads", "a", "b"] (defScope s_law_price) := FnScope.of (by kernel_rfl)
theorem n_law_price__roads : NmL (defScope s_law_price) "roads" := .of (by kernel_rfl)
theorem n_law_price__a : NmL (defScope s_law_price) "a" := .of (by kernel_rfl)
theorem n_law_price__b : NmL (defScope s_law_price) "b" := .of (by kernel_rfl)
theorem n_law_price__one : NmL (defScope s_law_price) "one" := .of (by kernel_rfl)
theorem n_law_price__other : NmL (defScope s_law_price) "other" := .of (by kernel_rfl)
theorem n_law_price__there : NmL (defScope s_law_price) "there" := .of (by kernel_rfl)
theorem n_law_price__back : NmL (defScope s_law_price) "back" := .of (by kernel_rfl)

theorem ok_law_price (T : Txt K mg) (hq : Quiet (CXe P w)) {f : Addr} {fd : FuncData} (D : Df K mg "_law_price" s_law_price ["roads", "a", "b"] f fd) : FnOk P w K mg base (CXe P w) 1 f fd ["roads", "a", "b"] (sp_law_price T) := by
  refine D.F.okC sc_law_price (fun vs H Q E h => ?_) (fun cdv A outer s H vs Q E hr h => ?_)
  · obtain ⟨l, ps, rs, a, b, rfl, _⟩ := h
    rfl
  · obtain ⟨l, ps, rs, a, b, rfl, hl, ro, k, k2⟩ := h
    refine ⟨_, (pss_cons (ps_for PassesOwn.never rfl (pi_list (pvl 0 n_law_price__roads)) (pg_tup (n := 4) rfl (pgs_cons (pg_name (i := 3) sc_law_price.nd rfl (Or.inl n_law_price__one.l)) (pgs_cons (pg_name (i := 4) sc_law_price.nd rfl (Or.inl n_law_price__other.l)) (pgs_cons (pg_name (i := 5) sc_law_price.nd rfl (Or.inl n_law_price__there.l)) (pgs_cons (pg_name (i := 6) sc_law_price.nd rfl (Or.inl n_law_price__back.l)) pgs_nil))))) (pss_cons (ps_if (PW.pt (pw_and (pt_cmpR op_eq (pvl 3 n_law_price__one) (pvl 1 n_law_price__a) (nomark _)) (pw_and1 (pt_cmpR op_eq (pvl 4 n_law_price__other) (pvl 2 n_law_price__b) (nomark _))))) (pss_one (ps_ret (pvl 5 n_law_price__there))) pss_nil) (pss_one (ps_if (PW.pt (pw_and (pt_cmpR op_eq (pvl 3 n_law_price__one) (pvl 2 n_law_price__b) (nomark _)) (pw_and1 (pt_cmpR op_eq (pvl 4 n_law_price__other) (pvl 1 n_law_price__a) (nomark _))))) (pss_one (ps_ret (pvl 6 n_law_price__back))) pss_nil)))) (pss_one (ps_ret pe_non))), ?_⟩
    rw [show L2.start ["roads", "a", "b", "one", "other", "there", "back"] [V.ref l, V.int a, V.int b] = [some (V.ref l), some (V.int a), some (V.int b), none, none, none, none] from rfl]
    walk_at "rd"
    have hlen : ps.length = rs.length := Paired.length ro
    refine ⟨⟨_, SqL.of hl⟩, ?_⟩
    refine for_listN (K := K) (xs := ps.map V.ref) (fun i σ H2 => H2 = H ∧ tollOf (rs.take i) a b = none ∧ ∃ v1 v2 v3 v4, σ = [some (V.ref l), some (V.int a), some (V.int b), v1, v2, v3, v4]) ⟨rfl, rfl, _, _, _, _, rfl⟩ (fun i σ H2 _ z => by rw [z.1]; exact SqL.of hl) ?_ ?_
    · rintro i x σ H2 N hN hx ⟨rfl, hno, v1, v2, v3, v4, rfl⟩
      obtain ⟨q, r, rfl, h1, h2, h3⟩ := ro.get hx
      have et : rs.take (i + 1) = rs.take i ++ [r] := by rw [List.take_succ, h2]; rfl
      have split : tollOf rs a b = (tollOf (rs.take i) a b).or ((toll1 a b r).or (tollOf (rs.drop (i + 1)) a b)) := by
        have : rs = rs.take i ++ r :: rs.drop (i + 1) := by
          have hil : i < rs.length := (List.getElem?_eq_some_iff.mp h2).1
          have e : rs[i] = r := by rw [List.getElem?_eq_getElem hil] at h2; exact Option.some.inj h2
          rw [← e, List.getElem_cons_drop, List.take_append_drop]
        conv => lhs; rw [this]
        unfold tollOf
        rw [List.findSome?_append, List.findSome?_cons]
        cases toll1 a b r <;> rfl
      rw [hno, Option.none_or] at split
      walk_at "rd"
      refine ⟨_, SqT.of h3, rfl, _, _, rfl, _, _, rfl, _, _, rfl, _, _, rfl, rfl, ?_⟩
      walk_at "rd"
      have next : toll1 a b r = none → N [some (V.ref l), some (V.int a), some (V.int b), some (V.int r.a), some (V.int r.b), some (V.int r.t), some (V.int r.u)] H2 := fun z => hN _ _ ⟨rfl, by
        rw [et]
        unfold tollOf at hno ⊢
        rw [List.findSome?_append, hno, List.findSome?_cons, z]
        rfl, _, _, _, _, rfl⟩
      have got : ∀ v, toll1 a b r = some v → tollOf rs a b = some v := fun v z => by rw [split, z]; rfl
      unfold toll1 at next got
      split
      · rename_i c1
        split
        · rename_i c2
          exact k _ (got _ (by rw [if_pos ⟨c1, c2⟩]))
        · rename_i c2
          split
          · rename_i c3
            split
            · rename_i c4
              exact k _ (got _ (by rw [if_neg (fun z => c2 z.2), if_pos ⟨c3, c4⟩]))
            · rename_i c4
              exact next (by rw [if_neg (fun z => c2 z.2), if_neg (fun z => c4 z.2)])
          · rename_i c3
            exact next (by rw [if_neg (fun z => c2 z.2), if_neg (fun z => c3 z.1)])
      · rename_i c1
        split
        · rename_i c3
          split
          · rename_i c4
            exact k _ (got _ (by rw [if_neg (fun z => c1 z.1), if_pos ⟨c3, c4⟩]))
          · rename_i c4
            exact next (by rw [if_neg (fun z => c1 z.1), if_neg (fun z => c4 z.2)])
        · rename_i c3
          exact next (by rw [if_neg (fun z => c1 z.1), if_neg (fun z => c3 z.1)])
    · rintro σ H2 ⟨rfl, hno, v1, v2, v3, v4, rfl⟩
      rw [List.length_map, hlen, List.take_length] at hno
      walk_at "rd"
      exact k2 hno
/-! #### _law_can -/
def sp_law_can (T : Txt K mg) : Sp := fun vs H Q _ => ∃ (l a q : Addr) (m : Int) (ps : List Addr) (rs : List Road) (xs : List Int) (s : Stp), vs = [.ref l, .ref a, .ref q] ∧ H l = some (.lst (ps.map V.ref)) ∧ RoadsAt H ps rs ∧ Good m rs ∧ H a = some (.lst (xs.map V.int)) ∧ (xs.length : Int) = m ∧ H q = some (.tup (vSt s)) ∧ Q (.bl (canDo m rs xs s)) H
abbrev s_law_can : Stmt := top 46
theorem sc_law_can : FnScope ["roads", "held", "step", "a", "b", "often", "each"] ["roads", "held", "step"] (defScope s_law_can) := FnScope.of (by kernel_rfl)
theorem n_law_can__roads : NmL (defScope s_law_can) "roads" := .of (by kernel_rfl)
theorem n_law_can__held : NmL (defScope s_law_can) "held" := .of (by kernel_rfl)
theorem n_law_can__step : NmL (defScope s_law_can) "step" := .of (by kernel_rfl)
theorem n_law_can__a : NmL (defScope s_law_can) "a" := .of (by kernel_rfl)
theorem n_law_can__b : NmL (defScope s_law_can) "b" := .of (by kernel_rfl)
theorem n_law_can__often : NmL (defScope s_law_can) "often" := .of (by kernel_rfl)
theorem n_law_can__each : NmL (defScope s_law_can) "each" := .of (by kernel_rfl)
theorem n_law_can__law_price : NmG (defScope s_law_can) "_law_price" := .of (by kernel_rfl)

theorem ok_law_can (T : Txt K mg) (hq : Quiet (CXe P w)) {f : Addr} {fd : FuncData} (D : Df K mg "_law_can" s_law_can ["roads", "held", "step"] f fd) {f_law_price : Addr} {fd_law_price : FuncData} (D_law_price : Df K mg "_law_price" s_law_price ["roads", "a", "b"] f_law_price fd_law_price) (G_law_price : FnOk P w K mg base (CXe P w) 1 f_law_price fd_law_price ["roads", "a", "b"] (sp_law_price T)) : FnOk P w K mg base (CXe P w) 2 f fd ["roads", "held", "step"] (sp_law_can T) := by
  refine D.F.okC sc_law_can (fun vs H Q E h => ?_) (fun cdv A outer s H vs Q E hr h => ?_)
  · obtain ⟨l, a, q, m, ps, rs, xs, s, rfl, _⟩ := h
    rfl
  · obtain ⟨l, a, q, m, ps, rs, xs, s, rfl, hl, ro, g, ha, xl, hs, k⟩ := h
    refine ⟨_, (pss_cons (ps_asg (pvl 2 n_law_can__step) (pg_tup (n := 3) rfl (pgs_cons (pg_name (i := 3) sc_law_can.nd rfl (Or.inl n_law_can__a.l)) (pgs_cons (pg_name (i := 4) sc_law_can.nd rfl (Or.inl n_law_can__b.l)) (pgs_cons (pg_name (i := 5) sc_law_can.nd rfl (Or.inl n_law_can__often.l)) pgs_nil))))) (pss_cons (ps_set (i := 6) sc_law_can.nd rfl (Or.inl n_law_can__each.l) (pe_call G_law_price (hr.mono (by decide)) n_law_can__law_price.g D_law_price.m D_law_price.F.kp D_law_price.b .nil (passQ hq) (pa_cons (pvl 0 n_law_can__roads) (pa_cons (pvl 3 n_law_can__a) (pa_cons (pvl 4 n_law_can__b) pa_nil))) (hdb := n_law_can__law_price.d))) (pss_one (ps_ret (pe_and (pe_cmp (pc_notN (pvl 6 n_law_can__each))) (pe_and (pe_cmpR op_gt (pvl 5 n_law_can__often) pe_int (nomark _)) (pe_one (pe_cmpR op_ge (pe_ix ix_list (pvl 1 n_law_can__held) (pvl 3 n_law_can__a) (fun _ _ => rfl)) (pe_op op_mul (pvl 6 n_law_can__each) (pvl 5 n_law_can__often)) (nomark _))))))))), ?_⟩
    rw [show L2.start ["roads", "held", "step", "a", "b", "often", "each"] [V.ref l, V.ref a, V.ref q] = [some (V.ref l), some (V.ref a), some (V.ref q), none, none, none, none] from rfl]
    walk_at "rd"
    refine ⟨_, SqT.of hs, rfl, _, _, rfl, _, _, rfl, _, _, rfl, rfl, ?_⟩
    refine ⟨l, ps, rs, s.1, s.2.1, rfl, hl, ro, fun t e => ?_, fun e => ?_⟩
    · show ite _ _ _
      rw [if_pos (by simp)]
      refine ⟨_, rfl, ?_⟩
      rw [canDo_tl g e] at k
      by_cases z : 0 < s.2.2
      · rw [if_pos z]
        have ad : Adj rs s.1 s.2.1 := toll_adj.mp (by rw [e]; rfl)
        have ar := (g.adj ad).1
        obtain ⟨k0, e0, tr⟩ := toll_rng g ad
        rw [e] at e0
        cases e0
        rw [decide_eq_true z, Bool.true_and] at k
        exact ixL ha (atG ar.1 (by omega)) ⟨_, rfl, _, rfl, .inl ⟨by omega, by omega⟩, _, rfl, k⟩
      · rw [if_neg z]
        rw [decide_eq_false z, Bool.false_and] at k
        exact k
    · show ite _ _ _
      rw [if_neg (fun z => z rfl)]
      rw [canDo_no g e] at k
      exact k
/-! #### _law_odd -/
def sp_law_odd (T : Txt K mg) : Sp := fun vs H Q _ => ∃ (l a : Addr) (m c : Int) (ps : List Addr) (rs : List Road) (xs : List Int), vs = [.int c, .int m, .ref l, .ref a] ∧ H l = some (.lst (ps.map V.ref)) ∧ RoadsAt H ps rs ∧ Good m rs ∧ H a = some (.lst (xs.map V.int)) ∧ (xs.length : Int) = m ∧ ∀ q (s : Stp) H', H q = none → Same H H' → H' q = some (.tup (vSt s)) → Q (.ref q) H'
abbrev s_law_odd : Stmt := top 45
theorem sc_law_odd : FnScope ["cell", "many", "roads", "held", "a", "b", "mode", "one", "other", "there", "back"] ["cell", "many", "roads", "held"] (defScope s_law_odd) := FnScope.of (by kernel_rfl)
theorem n_law_odd__cell : NmL (defScope s_law_odd) "cell" := .of (by kernel_rfl)
theorem n_law_odd__many : NmL (defScope s_law_odd) "many" := .of (by kernel_rfl)
theorem n_law_odd__roads : NmL (defScope s_law_odd) "roads" := .of (by kernel_rfl)
theorem n_law_odd__held : NmL (defScope s_law_odd) "held" := .of (by kernel_rfl)
theorem n_law_odd__a : NmL (defScope s_law_odd) "a" := .of (by kernel_rfl)
theorem n_law_odd__b : NmL (defScope s_law_odd) "b" := .of (by kernel_rfl)
theorem n_law_odd__mode : NmL (defScope s_law_odd) "mode" := .of (by kernel_rfl)
theorem n_law_odd__one : NmL (defScope s_law_odd) "one" := .of (by kernel_rfl)
theorem n_law_odd__other : NmL (defScope s_law_odd) "other" := .of (by kernel_rfl)
theorem n_law_odd__there : NmL (defScope s_law_odd) "there" := .of (by kernel_rfl)
theorem n_law_odd__back : NmL (defScope s_law_odd) "back" := .of (by kernel_rfl)
theorem n_law_odd__len : NmG (defScope s_law_odd) "len" := .of (by kernel_rfl)

theorem ok_law_odd (T : Txt K mg) (hq : Quiet (CXe P w)) {f : Addr} {fd : FuncData} (D : Df K mg "_law_odd" s_law_odd ["cell", "many", "roads", "held"] f fd) : FnOk P w K mg base (CXe P w) 1 f fd ["cell", "many", "roads", "held"] (sp_law_odd T) := by
  refine D.F.okC sc_law_odd (fun vs H Q E h => ?_) (fun cdv A outer s H vs Q E hr h => ?_)
  · obtain ⟨l, a, m, c, ps, rs, xs, rfl, _⟩ := h
    rfl
  · obtain ⟨l, a, m, c, ps, rs, xs, rfl, hl, ro, g, ha, xl, k⟩ := h
    have m1 := g.m1
    have m24 := g.m24
    have psl : ps.length = rs.length := Paired.length ro
    have mp : 0 < m := by omega
    have cd : ∀ x n : Int, 0 < n → n < 1073741824 → CDiv x n := fun x n h1 h2 => ⟨h1, h2⟩
    have p30 : (0 : Int) < 10 ^ Int.toNat 30 := Int.pow_pos (by decide)
    have p20 : (0 : Int) < 10 ^ Int.toNat 20 := Int.pow_pos (by decide)
    refine ⟨_, (pss_cons (ps_set (i := 4) sc_law_odd.nd rfl (Or.inl n_law_odd__a.l) (pe_op op_mod (pe_op op_fdiv (pvl 0 n_law_odd__cell) pe_int) (pvl 1 n_law_odd__many))) (pss_cons (ps_set (i := 5) sc_law_odd.nd rfl (Or.inl n_law_odd__b.l) (pe_op op_mod (pe_op op_fdiv (pvl 0 n_law_odd__cell) pe_int) (pvl 1 n_law_odd__many))) (pss_cons (ps_set (i := 6) sc_law_odd.nd rfl (Or.inl n_law_odd__mode.l) (pe_op op_mod (pvl 0 n_law_odd__cell) pe_int)) (pss_cons (ps_if (PW.pt (pw_and (pt_cmpR op_eq (pvl 6 n_law_odd__mode) pe_int (nomark _)) (pw_and1 (pt_cmpR op_gt (pe_callB call_len_seq n_law_odd__len.g T.len pb_len (pa_cons (pvl 2 n_law_odd__roads) pa_nil) (hn := n_law_odd__len.n) (hdb := n_law_odd__len.d)) pe_int (nomark _))))) (pss_cons (ps_asg (pe_ix ix_list (pvl 2 n_law_odd__roads) (pe_op op_mod (pe_op op_fdiv (pvl 0 n_law_odd__cell) pe_int) (pe_callB call_len_seq n_law_odd__len.g T.len pb_len (pa_cons (pvl 2 n_law_odd__roads) pa_nil) (hn := n_law_odd__len.n) (hdb := n_law_odd__len.d))) (fun _ _ => rfl)) (pg_tup (n := 4) rfl (pgs_cons (pg_name (i := 7) sc_law_odd.nd rfl (Or.inl n_law_odd__one.l)) (pgs_cons (pg_name (i := 8) sc_law_odd.nd rfl (Or.inl n_law_odd__other.l)) (pgs_cons (pg_name (i := 9) sc_law_odd.nd rfl (Or.inl n_law_odd__there.l)) (pgs_cons (pg_name (i := 10) sc_law_odd.nd rfl (Or.inl n_law_odd__back.l)) pgs_nil)))))) (pss_one (ps_ret (pe_tup (pa_cons (pvl 7 n_law_odd__one) (pa_cons (pvl 8 n_law_odd__other) (pa_cons (pe_op op_add (pe_op op_add (pe_op op_fdiv (pe_ix ix_list (pvl 3 n_law_odd__held) (pvl 7 n_law_odd__one) (fun _ _ => rfl)) (pvl 9 n_law_odd__there)) pe_int) (pe_op op_mul (pe_op op_mod (pe_op op_fdiv (pvl 0 n_law_odd__cell) pe_int) pe_int) (pe_op op_mod (pe_op op_fdiv (pvl 0 n_law_odd__cell) pe_int) (pe_op op_pow pe_int pe_int)))) pa_nil))))))) pss_nil) (pss_cons (ps_if (PW.pt (pw_and (pt_cmpR op_eq (pvl 6 n_law_odd__mode) pe_int (nomark _)) (pw_and1 (pt_cmpR op_gt (pe_callB call_len_seq n_law_odd__len.g T.len pb_len (pa_cons (pvl 2 n_law_odd__roads) pa_nil) (hn := n_law_odd__len.n) (hdb := n_law_odd__len.d)) pe_int (nomark _))))) (pss_cons (ps_asg (pe_ix ix_list (pvl 2 n_law_odd__roads) (pe_op op_mod (pe_op op_fdiv (pvl 0 n_law_odd__cell) pe_int) (pe_callB call_len_seq n_law_odd__len.g T.len pb_len (pa_cons (pvl 2 n_law_odd__roads) pa_nil) (hn := n_law_odd__len.n) (hdb := n_law_odd__len.d))) (fun _ _ => rfl)) (pg_tup (n := 4) rfl (pgs_cons (pg_name (i := 7) sc_law_odd.nd rfl (Or.inl n_law_odd__one.l)) (pgs_cons (pg_name (i := 8) sc_law_odd.nd rfl (Or.inl n_law_odd__other.l)) (pgs_cons (pg_name (i := 9) sc_law_odd.nd rfl (Or.inl n_law_odd__there.l)) (pgs_cons (pg_name (i := 10) sc_law_odd.nd rfl (Or.inl n_law_odd__back.l)) pgs_nil)))))) (pss_one (ps_ret (pe_tup (pa_cons (pvl 7 n_law_odd__one) (pa_cons (pvl 8 n_law_odd__other) (pa_cons (pe_un un_neg (pe_op op_mod (pe_op op_fdiv (pvl 0 n_law_odd__cell) pe_int) pe_int)) pa_nil))))))) pss_nil) (pss_cons (ps_if (pt_cmpR op_eq (pvl 6 n_law_odd__mode) pe_int (nomark _)) (pss_one (ps_ret (pe_tup (pa_cons (pvl 4 n_law_odd__a) (pa_cons (pvl 4 n_law_odd__a) (pa_cons pe_int pa_nil)))))) pss_nil) (pss_cons (ps_if (pt_cmpR op_eq (pvl 6 n_law_odd__mode) pe_int (nomark _)) (pss_one (ps_ret (pe_tup (pa_cons (pvl 4 n_law_odd__a) (pa_cons (pe_op op_add (pvl 1 n_law_odd__many) (pe_op op_mod (pe_op op_fdiv (pvl 0 n_law_odd__cell) pe_int) pe_int)) (pa_cons pe_int pa_nil)))))) pss_nil) (pss_cons (ps_if (pt_cmpR op_eq (pvl 6 n_law_odd__mode) pe_int (nomark _)) (pss_one (ps_ret (pe_tup (pa_cons (pe_op op_sub (pe_un un_neg pe_int) (pe_op op_mod (pe_op op_fdiv (pvl 0 n_law_odd__cell) pe_int) (pe_op op_pow pe_int pe_int))) (pa_cons (pvl 4 n_law_odd__a) (pa_cons pe_int pa_nil)))))) pss_nil) (pss_cons (ps_if (pt_cmpR op_eq (pvl 6 n_law_odd__mode) pe_int (nomark _)) (pss_one (ps_ret (pe_tup (pa_cons (pvl 1 n_law_odd__many) (pa_cons (pvl 5 n_law_odd__b) (pa_cons pe_int pa_nil)))))) pss_nil) (pss_one (ps_ret (pe_tup (pa_cons (pvl 4 n_law_odd__a) (pa_cons (pvl 5 n_law_odd__b) (pa_cons (pe_op op_add pe_int (pe_op op_mod (pe_op op_fdiv (pvl 0 n_law_odd__cell) pe_int) pe_int)) pa_nil))))))))))))))), ?_⟩
    rw [show L2.start ["cell", "many", "roads", "held", "a", "b", "mode", "one", "other", "there", "back"] [V.int c, V.int m, V.ref l, V.ref a] = [some (V.int c), some (V.int m), some (V.ref l), some (V.ref a), none, none, none, none, none, none, none] from rfl]
    have fin : ∀ (x y z : Int), ([V.int x, V.int y, V.int z] : List V).length ≤ sizeLine ∧ ∀ q, H q = none → Q (.ref q) (upd H q (.tup [V.int x, V.int y, V.int z])) := fun x y z => ⟨smallE (by simp), fun q nq => k q (x, y, z) _ nq (Same.new _ nq) upd_same⟩
    refine cutS fun M1 k1 => ?_
    walk_at "rd"
    refine ⟨cd _ _ (by decide) (by decide), mp, k1 _ _ (cutS fun M2 k2 => ?_)⟩
    walk_at "rd"
    refine ⟨cd _ _ (by decide) (by decide), mp, k2 _ _ (cutS fun M3 k3 => ?_)⟩
    walk_at "rd"
    refine ⟨by decide, k3 _ _ (cutS fun M4 k4 => ?_)⟩
    generalize c % 7 = md
    generalize c / 7 % m = av
    generalize c / 200 % m = bv
    -- a road by the cell
    have road : 0 < (ps.length : Int) → ∃ (pj : Addr) (x : Road), atI (ps.map V.ref) (c / 7 % (ps.length : Int)) = some (.ref pj) ∧ H pj = some (.tup (vRoad x)) ∧ x ∈ rs := fun cp => by
      have j0 := Int.emod_nonneg (c / 7) (show (ps.length : Int) ≠ 0 by omega)
      have j1 := Int.emod_lt_of_pos (c / 7) cp
      generalize c / 7 % (ps.length : Int) = j at j0 j1 ⊢
      obtain ⟨pj, hpj⟩ : ∃ pj, ps[j.toNat]? = some pj := ⟨_, List.getElem?_eq_getElem (by omega)⟩
      obtain ⟨x, hx, ex⟩ := pr_get ro hpj
      exact ⟨pj, x, atI_int j0 (by rw [List.getElem?_map, hpj]; rfl), ex, List.mem_of_getElem? hx⟩
    have nx1 : M4 [some (V.int c), some (V.int m), some (V.ref l), some (V.ref a), some (V.int av), some (V.int bv), some (V.int md), none, none, none, none] H := by
      refine k4 _ _ (cutS fun M5 k5 => ?_)
      have nx2 : M5 [some (V.int c), some (V.int m), some (V.ref l), some (V.ref a), some (V.int av), some (V.int bv), some (V.int md), none, none, none, none] H := by
        refine k5 _ _ ?_
        walk_at "rd"
        by_cases z2 : md = 2
        · rw [if_pos z2]; exact fin _ _ _
        rw [if_neg z2]
        by_cases z3 : md = 3
        · rw [if_pos z3]; exact ⟨cd _ _ (by decide) (by decide), by decide, fin _ _ _⟩
        rw [if_neg z3]
        by_cases z4 : md = 4
        · rw [if_pos z4]; exact ⟨cd _ _ (by decide) (by decide), ⟨by decide, by decide, by decide⟩, p20, fin _ _ _⟩
        rw [if_neg z4]
        by_cases z5 : md = 5
        · rw [if_pos z5]; exact fin _ _ _
        rw [if_neg z5]
        exact ⟨cd _ _ (by decide) (by decide), by decide, fin _ _ _⟩
      refine cutIf fun NA NB kA kB => ?_
      have kB' := kB _ _ nx2
      walk_at "rd"
      by_cases z : md = 1
      · rw [if_pos z]
        refine ⟨_, .inl (SqL.of hl), ?_⟩
        rw [List.length_map]
        by_cases cp : 0 < (ps.length : Int)
        · rw [if_pos cp]
          refine kA _ _ ?_
          walk_at "rd"
          obtain ⟨pj, x, gj, ej, xm⟩ := road cp
          refine ⟨cd _ _ (by decide) (by decide), _, .inl (SqL.of hl), ?_⟩
          rw [List.length_map]
          refine ⟨by omega, ixL hl gj ⟨pj, rfl, _, SqT.of ej, rfl, _, _, rfl, _, _, rfl, _, _, rfl, _, _, rfl, rfl, ?_⟩⟩
          exact ⟨cd _ _ (by decide) (by decide), by decide, fin _ _ _⟩
        · rw [if_neg cp]; exact kB'
      · rw [if_neg z]; exact kB'
    refine cutIf fun NA NB kA kB => ?_
    have kB' := kB _ _ nx1
    walk_at "rd"
    by_cases z : md = 0
    · rw [if_pos z]
      refine ⟨_, .inl (SqL.of hl), ?_⟩
      rw [List.length_map]
      by_cases cp : 0 < (ps.length : Int)
      · rw [if_pos cp]
        refine kA _ _ ?_
        walk_at "rd"
        obtain ⟨pj, x, gj, ej, xm⟩ := road cp
        have ok := g.ok x xm
        have a0 := ok.a0
        have a1 := ok.a1
        have t0 := ok.t0
        have t1 := ok.t1
        refine ⟨cd _ _ (by decide) (by decide), _, .inl (SqL.of hl), ?_⟩
        rw [List.length_map]
        refine ⟨by omega, ixL hl gj ⟨pj, rfl, _, SqT.of ej, rfl, _, _, rfl, _, _, rfl, _, _, rfl, _, _, rfl, rfl, ?_⟩⟩
        exact ixL ha (atG a0 (by omega)) ⟨_, rfl, _, rfl, cd _ _ (by omega) (by omega), cd _ _ (by decide) (by decide), by decide, cd _ _ (by decide) (by decide), ⟨by decide, by decide, by decide⟩, p30, .inl ⟨by omega, by omega⟩, fin _ _ _⟩
      · rw [if_neg cp]; exact kB'
    · rw [if_neg z]; exact kB'
/-! #### _law_steps -/
def sp_law_steps (T : Txt K mg) : Sp := fun vs H Q _ => ∃ (a l lh lo : Addr) (m : Int) (ps : List Addr) (rs : List Road) (ns xs os : List Int), vs = [.ref a, .int m, .ref l, .ref lh, .ref lo] ∧ SqL K H a (ns.map V.int) ∧ ns.length ≤ 63 ∧ H l = some (.lst (ps.map V.ref)) ∧ RoadsAt H ps rs ∧ Good m rs ∧ H lh = some (.lst (xs.map V.int)) ∧ (xs.length : Int) = m ∧ H lo = some (.lst (os.map V.int)) ∧
  ∀ (tp ls : Addr) (qs : List Addr) (ss : List Stp) (fi : Int) (H' : Hp), H ls = none → Same H H' → H' tp = some (.tup [.ref ls, .int fi]) → H' ls = some (.lst (qs.map V.ref)) → StepsAt H' qs ss → ss.length ≤ 63 → ((fi = -1 ∧ CanAll m rs xs ss) ∨ ∃ j : Nat, fi = j ∧ FirstBad m rs xs ss j) → Q (.ref tp) H'
abbrev s_law_steps : Stmt := top 47
theorem sc_law_steps : FnScope ["script", "many", "roads", "held", "odd", "now", "steps", "first", "k", "step", "at", "one", "other", "there", "back", "can", "each"] ["script", "many", "roads", "held", "odd"] (defScope s_law_steps) := FnScope.of (by kernel_rfl)
theorem n_law_steps__script : NmL (defScope s_law_steps) "script" := .of (by kernel_rfl)
theorem n_law_steps__many : NmL (defScope s_law_steps) "many" := .of (by kernel_rfl)
theorem n_law_steps__roads : NmL (defScope s_law_steps) "roads" := .of (by kernel_rfl)
theorem n_law_steps__held : NmL (defScope s_law_steps) "held" := .of (by kernel_rfl)
theorem n_law_steps__odd : NmL (defScope s_law_steps) "odd" := .of (by kernel_rfl)
theorem n_law_steps__now : NmL (defScope s_law_steps) "now" := .of (by kernel_rfl)
theorem n_law_steps__steps : NmL (defScope s_law_steps) "steps" := .of (by kernel_rfl)
theorem n_law_steps__first : NmL (defScope s_law_steps) "first" := .of (by kernel_rfl)
theorem n_law_steps__k : NmL (defScope s_law_steps) "k" := .of (by kernel_rfl)
theorem n_law_steps__step : NmL (defScope s_law_steps) "step" := .of (by kernel_rfl)
theorem n_law_steps__at : NmL (defScope s_law_steps) "at" := .of (by kernel_rfl)
theorem n_law_steps__one : NmL (defScope s_law_steps) "one" := .of (by kernel_rfl)
theorem n_law_steps__other : NmL (defScope s_law_steps) "other" := .of (by kernel_rfl)
theorem n_law_steps__there : NmL (defScope s_law_steps) "there" := .of (by kernel_rfl)
theorem n_law_steps__back : NmL (defScope s_law_steps) "back" := .of (by kernel_rfl)
theorem n_law_steps__can : NmL (defScope s_law_steps) "can" := .of (by kernel_rfl)
theorem n_law_steps__each : NmL (defScope s_law_steps) "each" := .of (by kernel_rfl)
theorem n_law_steps__list : NmG (defScope s_law_steps) "list" := .of (by kernel_rfl)
theorem n_law_steps__range : NmG (defScope s_law_steps) "range" := .of (by kernel_rfl)
theorem n_law_steps__len : NmG (defScope s_law_steps) "len" := .of (by kernel_rfl)
theorem n_law_steps__law_odd : NmG (defScope s_law_steps) "_law_odd" := .of (by kernel_rfl)
theorem n_law_steps__law_can : NmG (defScope s_law_steps) "_law_can" := .of (by kernel_rfl)
theorem n_law_steps__law_price : NmG (defScope s_law_steps) "_law_price" := .of (by kernel_rfl)

theorem ok_law_steps (T : Txt K mg) (hq : Quiet (CXe P w)) {f : Addr} {fd : FuncData} (D : Df K mg "_law_steps" s_law_steps ["script", "many", "roads", "held", "odd"] f fd) {f_law_can : Addr} {fd_law_can : FuncData} (D_law_can : Df K mg "_law_can" s_law_can ["roads", "held", "step"] f_law_can fd_law_can) (G_law_can : FnOk P w K mg base (CXe P w) 2 f_law_can fd_law_can ["roads", "held", "step"] (sp_law_can T)) {f_law_odd : Addr} {fd_law_odd : FuncData} (D_law_odd : Df K mg "_law_odd" s_law_odd ["cell", "many", "roads", "held"] f_law_odd fd_law_odd) (G_law_odd : FnOk P w K mg base (CXe P w) 1 f_law_odd fd_law_odd ["cell", "many", "roads", "held"] (sp_law_odd T)) {f_law_price : Addr} {fd_law_price : FuncData} (D_law_price : Df K mg "_law_price" s_law_price ["roads", "a", "b"] f_law_price fd_law_price) (G_law_price : FnOk P w K mg base (CXe P w) 1 f_law_price fd_law_price ["roads", "a", "b"] (sp_law_price T)) : FnOk P w K mg base (CXe P w) 3 f fd ["script", "many", "roads", "held", "odd"] (sp_law_steps T) := by
  refine D.F.okC sc_law_steps (fun vs H Q E h => ?_) (fun cdv A outer s H vs Q E hr h => ?_)
  · obtain ⟨a, l, lh, lo, m, ps, rs, ns, xs, os, rfl, _⟩ := h
    rfl
  · obtain ⟨a, l, lh, lo, m, ps, rs, ns, xs, os, rfl, ha, hn, hl, ro, g, hh, xl, ho, k⟩ := h
    have m24 := g.m24
    have m1 := g.m1
    have glen := g.len
    have hlen : ps.length = rs.length := Paired.length ro
    refine ⟨_, (pss_cons (ps_set (i := 5) sc_law_steps.nd rfl (Or.inl n_law_steps__now.l) (pe_callTy call_list_of n_law_steps__list.g T.list pb_list (pa_cons (pvl 3 n_law_steps__held) pa_nil) (hn := n_law_steps__list.n) (hdb := n_law_steps__list.d))) (pss_cons (ps_set (i := 6) sc_law_steps.nd rfl (Or.inl n_law_steps__steps.l) (pe_lst pa_nil)) (pss_cons (ps_set (i := 7) sc_law_steps.nd rfl (Or.inl n_law_steps__first.l) (pe_un un_neg pe_int)) (pss_cons (ps_for PassesOwn.never rfl (pi_range1 n_law_steps__range.g T.range (pa_cons (pe_callB call_len_seq n_law_steps__len.g T.len pb_len (pa_cons (pvl 0 n_law_steps__script) pa_nil) (hn := n_law_steps__len.n) (hdb := n_law_steps__len.d)) pa_nil)) (pg_name (i := 8) sc_law_steps.nd rfl (Or.inl n_law_steps__k.l)) (pss_cons (ps_set (i := 9) sc_law_steps.nd rfl (Or.inl n_law_steps__step.l) (pe_tup (pa_cons pe_int (pa_cons pe_int (pa_cons pe_int pa_nil))))) (pss_cons (ps_if (pt_cmpR op_gt (pe_callB call_len_seq n_law_steps__len.g T.len pb_len (pa_cons (pvl 2 n_law_steps__roads) pa_nil) (hn := n_law_steps__len.n) (hdb := n_law_steps__len.d)) pe_int (nomark _)) (pss_cons (ps_set (i := 10) sc_law_steps.nd rfl (Or.inl n_law_steps__at.l) (pe_op op_mod (pe_op op_fdiv (pe_ix ix_list (pvl 0 n_law_steps__script) (pvl 8 n_law_steps__k) (fun _ _ => rfl)) pe_int) (pe_callB call_len_seq n_law_steps__len.g T.len pb_len (pa_cons (pvl 2 n_law_steps__roads) pa_nil) (hn := n_law_steps__len.n) (hdb := n_law_steps__len.d)))) (pss_cons (ps_asg (pe_ix ix_list (pvl 2 n_law_steps__roads) (pvl 10 n_law_steps__at) (fun _ _ => rfl)) (pg_tup (n := 4) rfl (pgs_cons (pg_name (i := 11) sc_law_steps.nd rfl (Or.inl n_law_steps__one.l)) (pgs_cons (pg_name (i := 12) sc_law_steps.nd rfl (Or.inl n_law_steps__other.l)) (pgs_cons (pg_name (i := 13) sc_law_steps.nd rfl (Or.inl n_law_steps__there.l)) (pgs_cons (pg_name (i := 14) sc_law_steps.nd rfl (Or.inl n_law_steps__back.l)) pgs_nil)))))) (pss_cons (ps_set (i := 9) sc_law_steps.nd rfl (Or.inl n_law_steps__step.l) (pe_tup (pa_cons (pvl 11 n_law_steps__one) (pa_cons (pvl 12 n_law_steps__other) (pa_cons pe_int pa_nil))))) (pss_one (ps_if (pt_cmpR op_eq (pe_op op_mod (pe_ix ix_list (pvl 0 n_law_steps__script) (pvl 8 n_law_steps__k) (fun _ _ => rfl)) pe_int) pe_int (nomark _)) (pss_one (ps_set (i := 9) sc_law_steps.nd rfl (Or.inl n_law_steps__step.l) (pe_tup (pa_cons (pvl 12 n_law_steps__other) (pa_cons (pvl 11 n_law_steps__one) (pa_cons pe_int pa_nil)))))) pss_nil))))) pss_nil) (pss_cons (ps_if (pt_cmpR op_in_seq (pvl 8 n_law_steps__k) (pvl 4 n_law_steps__odd) (by with_unfolding_all rfl)) (pss_one (ps_set (i := 9) sc_law_steps.nd rfl (Or.inl n_law_steps__step.l) (pe_call G_law_odd (hr.mono (by decide)) n_law_steps__law_odd.g D_law_odd.m D_law_odd.F.kp D_law_odd.b .nil (passQ hq) (pa_cons (pe_ix ix_list (pvl 0 n_law_steps__script) (pvl 8 n_law_steps__k) (fun _ _ => rfl)) (pa_cons (pvl 1 n_law_steps__many) (pa_cons (pvl 2 n_law_steps__roads) (pa_cons (pvl 5 n_law_steps__now) pa_nil)))) (hdb := n_law_steps__law_odd.d)))) pss_nil) (pss_cons (ps_set (i := 15) sc_law_steps.nd rfl (Or.inl n_law_steps__can.l) (pe_call G_law_can (hr.mono (by decide)) n_law_steps__law_can.g D_law_can.m D_law_can.F.kp D_law_can.b .nil (passQ hq) (pa_cons (pvl 2 n_law_steps__roads) (pa_cons (pvl 5 n_law_steps__now) (pa_cons (pvl 9 n_law_steps__step) pa_nil))) (hdb := n_law_steps__law_can.d))) (pss_cons (ps_if (PW.pt (pw_and (pt_truth (pvl 15 n_law_steps__can) (fun _ => rfl)) (pw_and1 (pt_cmpR op_lt (pvl 7 n_law_steps__first) pe_int (nomark _))))) (pss_cons (ps_set (i := 16) sc_law_steps.nd rfl (Or.inl n_law_steps__each.l) (pe_call G_law_price (hr.mono (by decide)) n_law_steps__law_price.g D_law_price.m D_law_price.F.kp D_law_price.b .nil (passQ hq) (pa_cons (pvl 2 n_law_steps__roads) (pa_cons (pe_ix ix_tup (pvl 9 n_law_steps__step) pe_int (fun _ _ => rfl)) (pa_cons (pe_ix ix_tup (pvl 9 n_law_steps__step) pe_int (fun _ _ => rfl)) pa_nil))) (hdb := n_law_steps__law_price.d))) (pss_cons (ps_asg (pe_op op_sub (pe_ix ix_list (pvl 5 n_law_steps__now) (pe_ix ix_tup (pvl 9 n_law_steps__step) pe_int (fun _ _ => rfl)) (fun _ _ => rfl)) (pe_op op_mul (pvl 16 n_law_steps__each) (pe_ix ix_tup (pvl 9 n_law_steps__step) pe_int (fun _ _ => rfl)))) (pg_sub (pvl 5 n_law_steps__now) (pe_ix ix_tup (pvl 9 n_law_steps__step) pe_int (fun _ _ => rfl)) set_list)) (pss_one (ps_asg (pe_op op_add (pe_ix ix_list (pvl 5 n_law_steps__now) (pe_ix ix_tup (pvl 9 n_law_steps__step) pe_int (fun _ _ => rfl)) (fun _ _ => rfl)) (pe_ix ix_tup (pvl 9 n_law_steps__step) pe_int (fun _ _ => rfl))) (pg_sub (pvl 5 n_law_steps__now) (pe_ix ix_tup (pvl 9 n_law_steps__step) pe_int (fun _ _ => rfl)) set_list))))) (pss_one (ps_if (PW.pt (pw_and (pt_cmpR op_lt (pvl 7 n_law_steps__first) pe_int (nomark _)) (pw_and1 (pt_cmpR op_in_seq (pvl 8 n_law_steps__k) (pvl 4 n_law_steps__odd) (by with_unfolding_all rfl))))) (pss_one (ps_set (i := 7) sc_law_steps.nd rfl (Or.inl n_law_steps__first.l) (pe_callB call_len_seq n_law_steps__len.g T.len pb_len (pa_cons (pvl 6 n_law_steps__steps) pa_nil) (hn := n_law_steps__len.n) (hdb := n_law_steps__len.d)))) pss_nil))) (pss_one (ps_if (PW.pt (pw_or (pt_truth (pvl 15 n_law_steps__can) (fun _ => rfl)) (pw_or1 (pt_cmpR op_in_seq (pvl 8 n_law_steps__k) (pvl 4 n_law_steps__odd) (by with_unfolding_all rfl))))) (pss_one (ps_expr (pe_bm PySem.F.plainAttrs_list PySem.F.slot_list_append PySem.F.type_list_append mt_append (pvl 6 n_law_steps__steps) (pa_cons (pvl 9 n_law_steps__step) pa_nil)))) pss_nil)))))))) (pss_one (ps_ret (pe_tup (pa_cons (pvl 6 n_law_steps__steps) (pa_cons (pvl 7 n_law_steps__first) pa_nil))))))))), ?_⟩
    rw [show L2.start ["script", "many", "roads", "held", "odd", "now", "steps", "first", "k", "step", "at", "one", "other", "there", "back", "can", "each"] [V.ref a, V.int m, V.ref l, V.ref lh, V.ref lo] = [some (V.ref a), some (V.int m), some (V.ref l), some (V.ref lh), some (V.ref lo), none, none, none, none, none, none, none, none, none, none, none, none] from rfl]
    refine cutS fun N1 h1 => ?_
    walk_at "rd"
    refine ⟨_, .inl (SqL.of hh), fun ln nn => h1 _ _ (cutS fun N2 h2 => ?_)⟩
    walk_at "rd"
    refine ⟨smallE (by simp), fun ls nls => h2 _ _ (cutS fun N3 h3 => ?_)⟩
    have s1 := Same.new (.lst (xs.map V.int)) nn
    have nls0 := s1.free nls
    have s2 := s1.trans (Same.new (.lst []) nls)
    have nns : ln ≠ ls := fun z => by rw [← z, upd_same] at nls; cases nls
    have en : upd (upd H ln (.lst (xs.map V.int))) ls (.lst []) ln = some (.lst (xs.map V.int)) := by rw [upd_ne nns, upd_same]
    have es : upd (upd H ln (.lst (xs.map V.int))) ls (.lst []) ls = some (.lst []) := upd_same
    generalize upd (upd H ln (.lst (xs.map V.int))) ls (.lst []) = H2 at s2 en es ⊢
    walk_at "rd"
    refine h3 _ _ (cutS fun N4 h4 => ?_)
    have sa : ∀ {H5 : Hp}, Same H H5 → SqL K H5 a (ns.map V.int) := fun {H5} s5 => Same.seq s5 ha
    walk_at "rd"
    refine ⟨_, .inl (sa s2), ?_⟩
    rw [List.length_map]
    refine ⟨by omega, by omega, ?_⟩
    refine for_rangeH (fun i σ H5 => Same H H5 ∧ ∃ (nw : List Int) (qs : List Addr) (ss : List Stp) (fi : Int) (v8 v9 v10 v11 v12 v13 v14 v15 v16 : Option V), H5 ln = some (.lst (nw.map V.int)) ∧ (nw.length : Int) = m ∧ H5 ls = some (.lst (qs.map V.ref)) ∧ StepsAt H5 qs ss ∧ ss.length ≤ i ∧ ((fi = -1 ∧ CanAll m rs xs ss ∧ nw = stAt rs xs ss ss.length) ∨ ∃ j : Nat, fi = j ∧ FirstBad m rs xs ss j) ∧ σ = [some (V.ref a), some (V.int m), some (V.ref l), some (V.ref lh), some (V.ref lo), some (V.ref ln), some (V.ref ls), some (V.int fi), v8, v9, v10, v11, v12, v13, v14, v15, v16]) ⟨s2, xs, [], [], -1, _, _, _, _, _, _, _, _, _, en, xl, es, .nil, Nat.le_refl _, .inl ⟨rfl, canAll_nil, rfl⟩, rfl⟩ ?_ ?_
    · rintro i σ H5 N BB hBB hN hi ⟨s5, nw, qs, ss, fi, v8, v9, v10, v11, v12, v13, v14, v15, v16, en5, nwl, es5, st5, sl, st, rfl⟩
      refine hBB _ _ ?_
      have ql : qs.length = ss.length := Paired.length st5
      have q63 : qs.length ≤ 100000 := by omega
      have sl1 : ss.length ≤ i + 1 := by omega
      have sl2 : ∀ s : Stp, (ss ++ [s]).length ≤ i + 1 := fun s => by rw [List.length_append, List.length_singleton]; omega
      obtain ⟨c, gc⟩ : ∃ c, ns[i]? = some c := ⟨_, List.getElem?_eq_getElem hi⟩
      have gi : atI (ns.map V.int) ((0 : Int) + (i : Int)) = some (V.int c) := by
        rw [Int.zero_add]
        exact atI_nat (by rw [List.getElem?_map, gc]; rfl)
      generalize (0 : Int) + (i : Int) = ki at gi ⊢
      -- what stands behind the last row of the body
      have stay : ∀ {H6 : Hp} {w8 w9 w10 w11 w12 w13 w14 w15 w16 : Option V}, Same H5 H6 → N [some (V.ref a), some (V.int m), some (V.ref l), some (V.ref lh), some (V.ref lo), some (V.ref ln), some (V.ref ls), some (V.int fi), w8, w9, w10, w11, w12, w13, w14, w15, w16] H6 := fun {H6 w8 w9 w10 w11 w12 w13 w14 w15 w16} s6 => hN _ _ ⟨s5.trans s6, nw, qs, ss, fi, _, _, _, _, _, _, _, _, _, s6 _ _ en5, nwl, s6 _ _ es5, StepsAt.same s6 st5, by omega, st, rfl⟩
      refine cutS fun M1 k1 => ?_
      walk_at "rd"
      refine ⟨smallE (by simp), fun q0 nq0 => k1 _ _ (cutS fun M2 k2 => ?_)⟩
      have t0 := Same.new (.tup (vSt (0, 0, 1))) nq0
      have eq0 : upd H5 q0 (.tup [V.int 0, V.int 0, V.int 1]) q0 = some (.tup (vSt (0, 0, 1))) := upd_same
      change Same H5 (upd H5 q0 (.tup [V.int 0, V.int 0, V.int 1])) at t0
      generalize upd H5 q0 (.tup [V.int 0, V.int 0, V.int 1]) = H6 at t0 eq0 ⊢
      -- the rest of the body, of any step
      have rest : ∀ (q : Addr) (s : Stp) (H7 : Hp) (w10 w11 w12 w13 w14 : Option V), Same H5 H7 → H7 q = some (.tup (vSt s)) → M2 [some (V.ref a), some (V.int m), some (V.ref l), some (V.ref lh), some (V.ref lo), some (V.ref ln), some (V.ref ls), some (V.int fi), some (V.int ki), some (V.ref q), w10, w11, w12, w13, w14, v15, v16] H7 := by
        intro q s H7 w10 w11 w12 w13 w14 s7 eq
        refine k2 _ _ (cutS fun M3 k3 => ?_)
        have rest2 : ∀ (q : Addr) (s : Stp) (H7 : Hp), Same H5 H7 → H7 q = some (.tup (vSt s)) → M3 [some (V.ref a), some (V.int m), some (V.ref l), some (V.ref lh), some (V.ref lo), some (V.ref ln), some (V.ref ls), some (V.int fi), some (V.int ki), some (V.ref q), w10, w11, w12, w13, w14, v15, v16] H7 := by
          intro q s H7 s7 eq
          have s57 := s5.trans s7
          refine k3 _ _ (cutS fun M4 k4 => ?_)
          walk_at "rd"
          refine ⟨l, ln, q, m, ps, rs, nw, s, rfl, s57 _ _ hl, RoadsAt.same s57 ro, g, s7 _ _ en5, nwl, eq, k4 _ _ (cutS fun M5 k5 => ?_)⟩
          -- the last row of the body
          have last : ∀ (nw' : List Int) (fi' : Int) (H8 : Hp) (w16 : Option V), Same H H8 → H8 ln = some (.lst (nw'.map V.int)) → (nw'.length : Int) = m → H8 ls = some (.lst (qs.map V.ref)) → StepsAt H8 qs ss → H8 q = some (.tup (vSt s)) →
              ((canDo m rs nw s = true ∨ ki ∈ os) → (fi' = -1 ∧ CanAll m rs xs (ss ++ [s]) ∧ nw' = stAt rs xs (ss ++ [s]) (ss ++ [s]).length) ∨ ∃ j : Nat, fi' = j ∧ FirstBad m rs xs (ss ++ [s]) j) →
              (¬ (canDo m rs nw s = true ∨ ki ∈ os) → (fi' = -1 ∧ CanAll m rs xs ss ∧ nw' = stAt rs xs ss ss.length) ∨ ∃ j : Nat, fi' = j ∧ FirstBad m rs xs ss j) →
              M5 [some (V.ref a), some (V.int m), some (V.ref l), some (V.ref lh), some (V.ref lo), some (V.ref ln), some (V.ref ls), some (V.int fi'), some (V.int ki), some (V.ref q), w10, w11, w12, w13, w14, some (V.bl (canDo m rs nw s)), w16] H8 := by
            intro nw' fi' H8 w16 s8 en8 nl8 es8 st8 eq8 yes no
            refine k5 _ _ (cutIf fun NA NB kA kB => ?_)
            have put : canDo m rs nw s = true ∨ ki ∈ os → NA [some (V.ref a), some (V.int m), some (V.ref l), some (V.ref lh), some (V.ref lo), some (V.ref ln), some (V.ref ls), some (V.int fi'), some (V.int ki), some (V.ref q), w10, w11, w12, w13, w14, some (V.bl (canDo m rs nw s)), w16] H8 := fun hy => by
              refine kA _ _ ?_
              walk_at "rd"
              have nqs : ∀ {q' : Addr} {zs : List V}, H8 q' = some (.tup zs) → q' ≠ ls := fun {q' zs} h => ne_of h es8 (by intro z; cases z)
              refine ⟨tyL es8, appR es8 (small (by rw [List.length_map]; exact q63)) (hN _ _ ⟨s8.put nls0 _, nw', qs ++ [q], ss ++ [s], fi', _, _, _, _, _, _, _, _, _, by rw [upd_ne nns]; exact en8, nl8, by rw [upd_same, List.map_append]; rfl, pr_snoc (by rw [upd_ne (nqs eq8)]; exact eq8) (Paired.imp' (fun a b h => by rw [upd_ne (nqs h)]; exact h) st8), sl2 s, yes hy, rfl⟩)⟩
            have keep : ¬ (canDo m rs nw s = true ∨ ki ∈ os) → NB [some (V.ref a), some (V.int m), some (V.ref l), some (V.ref lh), some (V.ref lo), some (V.ref ln), some (V.ref ls), some (V.int fi'), some (V.int ki), some (V.ref q), w10, w11, w12, w13, w14, some (V.bl (canDo m rs nw s)), w16] H8 := fun hn => kB _ _ (hN _ _ ⟨s8, nw', qs, ss, fi', _, _, _, _, _, _, _, _, _, en8, nl8, es8, st8, sl1, no hn, rfl⟩)
            walk_at "rd"
            refine ⟨_, rfl, ?_⟩
            cases hc : canDo m rs nw s
            · rw [hc] at put keep
              rw [if_neg (by decide)]
              refine inL (s8 _ _ ho) ⟨_, rfl, ?_⟩
              by_cases z : ki ∈ os
              · rw [if_pos (by rw [decide_eq_true z]; rfl)]
                exact put (.inr z)
              · rw [if_neg (by rw [decide_eq_false z]; decide)]
                exact keep (fun y => by rcases y with y | y; cases y; exact z y)
            · rw [hc] at put
              rw [if_pos rfl]
              exact put (.inl rfl)
          have same7 : (H7 q = some (.tup (vSt s))) := eq
          have en7 := s7 _ _ en5
          have es7 := s7 _ _ es5
          have st7 := StepsAt.same s7 st5
          -- the step is not done, or done
          refine cutIf fun NA NB kA kB => ?_
          have skip : (canDo m rs nw s = true → ¬ fi < 0) → NB [some (V.ref a), some (V.int m), some (V.ref l), some (V.ref lh), some (V.ref lo), some (V.ref ln), some (V.ref ls), some (V.int fi), some (V.int ki), some (V.ref q), w10, w11, w12, w13, w14, some (V.bl (canDo m rs nw s)), v16] H7 := fun hy => by
            refine kB _ _ ?_
            walk_at "rd"
            by_cases z : fi < 0
            · rw [if_pos z]
              have hc : canDo m rs nw s = false := by
                cases hc : canDo m rs nw s
                · rfl
                · exact absurd z (hy hc)
              obtain ⟨e1, ca, en⟩ : fi = -1 ∧ CanAll m rs xs ss ∧ nw = stAt rs xs ss ss.length := by
                rcases st with h | ⟨j, h, _⟩
                · exact h
                · omega
              refine inL (s57 _ _ ho) ⟨_, rfl, ?_⟩
              by_cases y : ki ∈ os
              · rw [if_pos (by rw [decide_eq_true y]; rfl)]
                refine ⟨_, .inl (SqL.of es7), last nw _ H7 _ s57 en7 nwl es7 st7 eq (fun _ => .inr ⟨ss.length, by rw [List.length_map, ql], firstBad_snoc ca (by rw [← en]; exact hc)⟩) (fun w => absurd (.inr y) w)⟩
              · rw [if_neg (by rw [decide_eq_false y]; decide)]
                exact last nw fi H7 _ s57 en7 nwl es7 st7 eq (fun w => by rw [hc] at w; rcases w with w | w; cases w; exact absurd w y) (fun _ => .inl ⟨e1, ca, en⟩)
            · rw [if_neg z]
              obtain ⟨j, e1, fb⟩ : ∃ j : Nat, fi = j ∧ FirstBad m rs xs ss j := by
                rcases st with ⟨h, _⟩ | h
                · omega
                · exact h
              exact last nw fi H7 _ s57 en7 nwl es7 st7 eq (fun _ => .inr ⟨j, e1, fb.snoc s⟩) (fun _ => .inr ⟨j, e1, fb⟩)
          walk_at "rd"
          refine ⟨_, rfl, ?_⟩
          cases hc : canDo m rs nw s
          · rw [if_neg (by decide)]
            rw [hc] at skip
            exact skip (fun w => by cases w)
          · rw [if_pos rfl]
            by_cases z : fi < 0
            · rw [if_pos z]
              rw [hc] at last
              refine kA _ _ ?_
              obtain ⟨e1, ca, en⟩ : fi = -1 ∧ CanAll m rs xs ss ∧ nw = stAt rs xs ss ss.length := by
                rcases st with h | ⟨j, h, _⟩
                · exact h
                · omega
              have is := (canDo_is hc).1
              obtain ⟨kk, e2, e3, kr, br⟩ := step_toll g is
              have ar := (isStp_of is).1
              have hst : stepL rs nw s = (nw.set s.1.toNat (nw.getD s.1.toNat 0 - kk * s.2.2)).set s.2.1.toNat ((nw.set s.1.toNat (nw.getD s.1.toNat 0 - kk * s.2.2)).getD s.2.1.toNat 0 + s.2.2) := by
                unfold stepL
                rw [e3, Int.mul_comm]
              have sts : stAt rs xs (ss ++ [s]) (ss ++ [s]).length = stepL rs nw s := by
                rw [List.length_append, List.length_singleton, stAt_succ (s := s) (by simp), stAt_snoc (Nat.le_refl _), ← en]
              have ca' := canAll_snoc ca (show canDo m rs (stAt rs xs ss ss.length) s = true by rw [← en]; exact hc)
              have sl' : (stepL rs nw s).length = nw.length := stepL_len rs nw s
              refine cutS fun L1 g1 => ?_
              walk_at "rd"
              refine ixT eq rfl (ixT eq rfl ⟨l, ps, rs, s.1, s.2.1, rfl, s57 _ _ hl, RoadsAt.same s57 ro, fun k' h => ?_, fun h => by rw [e2] at h; cases h⟩)
              rw [e2] at h
              cases h
              refine g1 _ _ (cutS fun L2 g2 => ?_)
              walk_at "rd"
              have nql : q ≠ ln := ne_of eq en7 (by intro z; cases z)
              refine ixT eq rfl (ixL en7 (atG ar.1 (by omega)) (ixT eq rfl ⟨_, rfl, .inl ⟨by omega, by omega⟩, _, rfl, ixT eq rfl (setR en7 ar.1 (by rw [List.length_map]; omega) ?_)⟩))
              rw [← List.map_set]
              have yl : (nw.set s.1.toNat (nw.getD s.1.toNat 0 - kk * s.2.2)).length = nw.length := List.length_set
              generalize nw.set s.1.toNat (nw.getD s.1.toNat 0 - kk * s.2.2) = ys at yl hst ⊢
              have eq8 : upd H7 ln (.lst (ys.map V.int)) q = some (.tup (vSt s)) := by rw [upd_ne nql]; exact eq
              refine g2 _ _ ?_
              walk_at "rd"
              refine ixT eq8 rfl (ixL upd_same (atG br.1 (by omega)) (ixT eq8 rfl ⟨_, rfl, _, rfl, ixT eq8 rfl (setR upd_same br.1 (by rw [List.length_map]; omega) ?_)⟩))
              rw [upd_upd, ← List.map_set, ← hst]
              exact last (stepL rs nw s) fi _ _ (s57.put nn _) upd_same (by rw [sl']; exact nwl) (by rw [upd_ne nns.symm]; exact es7) (Paired.imp' (fun a b h => by rw [upd_ne (ne_of h en7 (by intro z; cases z))]; exact h) st7) (by rw [upd_ne nql]; exact eq) (fun _ => .inl ⟨e1, ca', sts.symm⟩) (fun w => absurd (.inl rfl) w)
            · rw [if_neg z]
              rw [hc] at skip
              exact skip (fun _ => z)
        walk_at "rd"
        refine inL (s5.trans s7 _ _ ho) ⟨_, rfl, ?_⟩
        by_cases z : ki ∈ os
        · rw [if_pos (by rw [decide_eq_true z]; rfl)]
          have s57 := s5.trans s7
          exact ixS (sa s57) gi ⟨l, ln, m, c, ps, rs, nw, rfl, s57 _ _ hl, RoadsAt.same s57 ro, g, s7 _ _ en5, nwl, fun q s H8 nq s8 eq => rest2 q s H8 (s7.trans s8) eq⟩
        · rw [if_neg (by rw [decide_eq_false z]; decide)]
          exact rest2 q s H7 s7 eq
      refine cutIf fun NA NB kA kB => ?_
      have kB' := kB _ _ (rest q0 _ H6 v10 v11 v12 v13 v14 t0 eq0)
      have s6 := s5.trans t0
      walk_at "rd"
      refine ⟨_, .inl (SqL.of (s6 _ _ hl)), ?_⟩
      rw [List.length_map]
      by_cases cp : 0 < (ps.length : Int)
      · rw [if_pos cp]
        refine kA _ _ (cutS fun L1 g1 => ?_)
        walk_at "rd"
        refine ixS (sa s6) gi ⟨_, rfl, ⟨by decide, by decide⟩, _, .inl (SqL.of (s6 _ _ hl)), ?_⟩
        rw [List.length_map]
        have j0 := Int.emod_nonneg (c / 2) (show (ps.length : Int) ≠ 0 by omega)
        have j1 := Int.emod_lt_of_pos (c / 2) cp
        generalize c / 2 % (ps.length : Int) = j at j0 j1 ⊢
        obtain ⟨pj, hpj⟩ : ∃ pj, ps[j.toNat]? = some pj := ⟨_, List.getElem?_eq_getElem (by omega)⟩
        obtain ⟨x, hx, ex⟩ := pr_get (RoadsAt.same s6 ro) hpj
        refine ⟨cp, g1 _ _ (cutS fun L2 g2 => ?_)⟩
        walk_at "rd"
        refine ixL (s6 _ _ hl) (atI_int j0 (by rw [List.getElem?_map, hpj]; rfl)) ⟨pj, rfl, _, SqT.of ex, rfl, _, _, rfl, _, _, rfl, _, _, rfl, _, _, rfl, rfl, g2 _ _ (cutS fun L3 g3 => ?_)⟩
        walk_at "rd"
        refine ⟨smallE (by simp), fun q1 nq1 => g3 _ _ ?_⟩
        have t1 := t0.trans (Same.new (.tup (vSt (x.a, x.b, 1))) nq1)
        have e1 : upd H6 q1 (.tup [V.int x.a, V.int x.b, V.int 1]) q1 = some (.tup (vSt (x.a, x.b, 1))) := upd_same
        change Same H5 (upd H6 q1 (.tup [V.int x.a, V.int x.b, V.int 1])) at t1
        generalize upd H6 q1 (.tup [V.int x.a, V.int x.b, V.int 1]) = H7 at t1 e1 ⊢
        walk_at "rd"
        refine ixS (sa (s5.trans t1)) gi ⟨_, rfl, by decide, ?_⟩
        by_cases z : c % 2 = 1
        · rw [if_pos z]
          exact ⟨smallE (by simp), fun q2 nq2 => rest q2 (x.b, x.a, 1) _ _ _ _ _ _ (t1.trans (Same.new _ nq2)) upd_same⟩
        · rw [if_neg z]
          exact rest q1 (x.a, x.b, 1) _ _ _ _ _ _ t1 e1
      · rw [if_neg cp]
        exact kB'
    · rintro BB σ H5 hBB ⟨s5, nw, qs, ss, fi, v8, v9, v10, v11, v12, v13, v14, v15, v16, en5, nwl, es5, st5, sl, st, rfl⟩
      refine hBB _ _ (h4 _ _ ?_)
      walk_at "rd"
      refine ⟨smallE (by simp), fun tp nt => ?_⟩
      have s6 := Same.new (.tup [V.ref ls, V.int fi]) nt
      refine k tp ls qs ss fi _ nls0 (s5.trans s6) upd_same (s6 _ _ es5) (StepsAt.same s6 st5) (by omega) ?_
      rcases st with ⟨h1, h2, _⟩ | h
      · exact .inl ⟨h1, h2⟩
      · exact .inr h
/-! #### _law_kind -/
/-- the word for a refusal of the class at C -/
def Word (T : Txt K mg) (C : Addr) (wd : Str) : Prop := (C = T.BadLaying ∧ wd = "laying") ∨ (C = T.BadStep ∧ wd = "step")
theorem cls_own {K : PySem.W.Frag} {C C' Tl : Addr} (xe : XErr K Tl C) (x' : XErr K Tl C') (ne : C' ≠ Tl) (n : C' ≠ C) : ClsV K C (.ref C') false := by
  refine ⟨x'.x, ?_⟩
  rw [xe.mr, decide_eq_false ne, Bool.or_false, decide_eq_false n]
def sp_law_kind (T : Txt K mg) : Sp := fun vs H Q _ => ∃ (ea C : Addr) (od : Option Addr) (wd : Str), vs = [.ref ea] ∧ H ea = some (ExO ea (.ref C) od) ∧ XDict H od ∧ XErr K T.TollError C ∧ Word T C wd ∧ ∀ H', Same H H' → Q (.str wd) H'
abbrev s_law_kind : Stmt := top 43
theorem sc_law_kind : FnScope ["e", "kinds"] ["e"] (defScope s_law_kind) := FnScope.of (by kernel_rfl)
theorem n_law_kind__e : NmL (defScope s_law_kind) "e" := .of (by kernel_rfl)
theorem n_law_kind__kinds : NmL (defScope s_law_kind) "kinds" := .of (by kernel_rfl)
theorem n_law_kind__isinstance : NmG (defScope s_law_kind) "isinstance" := .of (by kernel_rfl)
theorem n_law_kind__BadLaying : NmG (defScope s_law_kind) "BadLaying" := .of (by kernel_rfl)
theorem n_law_kind__NoPlace : NmG (defScope s_law_kind) "NoPlace" := .of (by kernel_rfl)
theorem n_law_kind__BadStep : NmG (defScope s_law_kind) "BadStep" := .of (by kernel_rfl)
theorem n_law_kind__ValueError : NmG (defScope s_law_kind) "ValueError" := .of (by kernel_rfl)
theorem n_law_kind__BadWeb : NmG (defScope s_law_kind) "BadWeb" := .of (by kernel_rfl)
theorem n_law_kind__NoRoad : NmG (defScope s_law_kind) "NoRoad" := .of (by kernel_rfl)
theorem n_law_kind__BadWish : NmG (defScope s_law_kind) "BadWish" := .of (by kernel_rfl)
theorem n_law_kind__NoNumber : NmG (defScope s_law_kind) "NoNumber" := .of (by kernel_rfl)
theorem n_law_kind__TooMany : NmG (defScope s_law_kind) "TooMany" := .of (by kernel_rfl)

theorem ok_law_kind (T : Txt K mg) (hq : Quiet (CXe P w)) {f : Addr} {fd : FuncData} (D : Df K mg "_law_kind" s_law_kind ["e"] f fd) : FnOkH P w K mg base 1 f fd ["e"] (sp_law_kind T) := by
  refine D.F.okH sc_law_kind (fun vs H Q E h => ?_) (fun cdv A outer s H vs Q E hr h => ?_)
  · obtain ⟨ea, C, od, wd, rfl, _⟩ := h
    rfl
  · obtain ⟨ea, C, od, wd, rfl, he, hd, xe, hw, k⟩ := h
    refine ⟨_, (pss_cons (ps_set (i := 1) sc_law_kind.nd rfl (Or.inl n_law_kind__kinds.l) (pe_lst (pa_cons (pe_callB call_isX n_law_kind__isinstance.g T.isinstance pb_isinstance (pa_cons (pvl 0 n_law_kind__e) (pa_cons (pe_glob (v := .ref T.BadLaying) n_law_kind__BadLaying.g T.m_BadLaying rfl) pa_nil)) (hn := n_law_kind__isinstance.n) (hdb := n_law_kind__isinstance.d)) (pa_cons (pe_callB call_isX n_law_kind__isinstance.g T.isinstance pb_isinstance (pa_cons (pvl 0 n_law_kind__e) (pa_cons (pe_glob (v := .ref T.NoPlace) n_law_kind__NoPlace.g T.m_NoPlace rfl) pa_nil)) (hn := n_law_kind__isinstance.n) (hdb := n_law_kind__isinstance.d)) (pa_cons (pe_callB call_isX n_law_kind__isinstance.g T.isinstance pb_isinstance (pa_cons (pvl 0 n_law_kind__e) (pa_cons (pe_glob (v := .ref T.BadStep) n_law_kind__BadStep.g T.m_BadStep rfl) pa_nil)) (hn := n_law_kind__isinstance.n) (hdb := n_law_kind__isinstance.d)) pa_nil))))) (pss_cons (ps_if (PW.pt (pw_or (pt_not (pt_val (pe_callB call_isX n_law_kind__isinstance.g T.isinstance pb_isinstance (pa_cons (pvl 0 n_law_kind__e) (pa_cons (pe_bltn (v := .ty "ValueError") n_law_kind__ValueError.g T.ValueError pb_ValueError rfl (hn := n_law_kind__ValueError.n) (hd := n_law_kind__ValueError.d)) pa_nil)) (hn := n_law_kind__isinstance.n) (hdb := n_law_kind__isinstance.d)))) (pw_or1 (pt_val (pe_callB call_isXT n_law_kind__isinstance.g T.isinstance pb_isinstance (pa_cons (pvl 0 n_law_kind__e) (pa_cons (pe_tup (pa_cons (pe_glob (v := .ref T.BadWeb) n_law_kind__BadWeb.g T.m_BadWeb rfl) (pa_cons (pe_glob (v := .ref T.NoRoad) n_law_kind__NoRoad.g T.m_NoRoad rfl) (pa_cons (pe_glob (v := .ref T.BadWish) n_law_kind__BadWish.g T.m_BadWish rfl) (pa_cons (pe_glob (v := .ref T.NoNumber) n_law_kind__NoNumber.g T.m_NoNumber rfl) (pa_cons (pe_glob (v := .ref T.TooMany) n_law_kind__TooMany.g T.m_TooMany rfl) pa_nil)))))) pa_nil)) (hn := n_law_kind__isinstance.n) (hdb := n_law_kind__isinstance.d)))))) (pss_one (ps_ret pe_str)) pss_nil) (pss_cons (ps_if (pt_cmpR op_ne (pe_bm PySem.F.plainAttrs_list PySem.F.slot_list_count PySem.F.type_list_count mt_countB (pvl 1 n_law_kind__kinds) (pa_cons pe_bl pa_nil)) pe_int (nomark _)) (pss_one (ps_ret pe_str)) pss_nil) (pss_one (ps_ret (pe_ix ix_list (pe_lst (pa_cons pe_str (pa_cons pe_str (pa_cons pe_str pa_nil)))) (pe_bm PySem.F.plainAttrs_list PySem.F.slot_list_index PySem.F.type_list_index mt_indexB (pvl 1 n_law_kind__kinds) (pa_cons pe_bl pa_nil)) (fun _ _ => rfl))))))), ?_⟩
    rw [show L2.start ["e", "kinds"] [V.ref ea] = [some (V.ref ea), none] from rfl]
    walk_at "rd"
    have t_BadWeb : T.BadWeb ≠ T.TollError := (nth_ne T.ndx 1 0 rfl rfl (by decide))
    have t_NoRoad : T.NoRoad ≠ T.TollError := (nth_ne T.ndx 3 0 rfl rfl (by decide))
    have t_BadWish : T.BadWish ≠ T.TollError := (nth_ne T.ndx 5 0 rfl rfl (by decide))
    have t_NoNumber : T.NoNumber ≠ T.TollError := (nth_ne T.ndx 7 0 rfl rfl (by decide))
    have t_TooMany : T.TooMany ≠ T.TollError := (nth_ne T.ndx 6 0 rfl rfl (by decide))
    have t_BadLaying : T.BadLaying ≠ T.TollError := (nth_ne T.ndx 4 0 rfl rfl (by decide))
    have t_NoPlace : T.NoPlace ≠ T.TollError := (nth_ne T.ndx 2 0 rfl rfl (by decide))
    have t_BadStep : T.BadStep ≠ T.TollError := (nth_ne T.ndx 8 0 rfl rfl (by decide))
    rcases hw with ⟨rfl, rfl⟩ | ⟨rfl, rfl⟩
    · have c_BadWeb : T.BadWeb ≠ T.BadLaying := (nth_ne T.ndx 1 4 rfl rfl (by decide))
      have c_NoRoad : T.NoRoad ≠ T.BadLaying := (nth_ne T.ndx 3 4 rfl rfl (by decide))
      have c_BadWish : T.BadWish ≠ T.BadLaying := (nth_ne T.ndx 5 4 rfl rfl (by decide))
      have c_NoNumber : T.NoNumber ≠ T.BadLaying := (nth_ne T.ndx 7 4 rfl rfl (by decide))
      have c_TooMany : T.TooMany ≠ T.BadLaying := (nth_ne T.ndx 6 4 rfl rfl (by decide))
      have d_BadLaying : decide (T.BadLaying = T.BadLaying) = true := decide_eq_true rfl
      have d_NoPlace : decide (T.NoPlace = T.BadLaying) = false := decide_eq_false (nth_ne T.ndx 2 4 rfl rfl (by decide))
      have d_BadStep : decide (T.BadStep = T.BadLaying) = false := decide_eq_false (nth_ne T.ndx 8 4 rfl rfl (by decide))
      refine isX_own he hd xe T.x_BadLaying t_BadLaying (isX_own he hd xe T.x_NoPlace t_NoPlace (isX_own he hd xe T.x_BadStep t_BadStep ⟨smallE (by simp), fun p1 n1 => ?_⟩))
      rw [d_BadLaying, d_NoPlace, d_BadStep]
      have s1 := Same.new (.lst [V.bl true, V.bl false, V.bl false]) n1
      have e1 : upd H p1 (.lst [V.bl true, V.bl false, V.bl false]) p1 = some (.lst ([true, false, false].map V.bl)) := upd_same
      generalize upd H p1 (.lst [V.bl true, V.bl false, V.bl false]) = H1 at s1 e1 ⊢
      refine isX_val (s1 _ _ he) (hd.same s1) xe ⟨_, rfl, ?_⟩
      rw [if_neg (by decide)]
      refine ⟨smallE (by simp), fun p2 n2 => ?_⟩
      have s2 := Same.new (.tup [V.ref T.BadWeb, V.ref T.NoRoad, V.ref T.BadWish, V.ref T.NoNumber, V.ref T.TooMany]) n2
      refine ⟨ea, _, od, p2, _, [false, false, false, false, false], rfl, s2 _ _ (s1 _ _ he), (hd.same s1).same s2, xe.x, upd_same, .cons (cls_own xe T.x_BadWeb t_BadWeb c_BadWeb) (.cons (cls_own xe T.x_NoRoad t_NoRoad c_NoRoad) (.cons (cls_own xe T.x_BadWish t_BadWish c_BadWish) (.cons (cls_own xe T.x_NoNumber t_NoNumber c_NoNumber) (.cons (cls_own xe T.x_TooMany t_TooMany c_TooMany) .nil)))), _, rfl, ?_⟩
      rw [if_neg (by decide)]
      have e2 := s2 _ _ e1
      generalize upd H1 p2 (.tup [V.ref T.BadWeb, V.ref T.NoRoad, V.ref T.BadWish, V.ref T.NoNumber, V.ref T.TooMany]) = H2 at s2 e2 ⊢
      refine ⟨tyL e2, p1, [true, false, false], rfl, rfl, e2, rfl, ?_⟩
      rw [if_neg (fun z => z rfl)]
      refine ⟨smallE (by simp), fun p3 n3 => ?_⟩
      have s3 := Same.new (.lst [V.str (Str.ofString "laying"), V.str (Str.ofString "place"), V.str (Str.ofString "step")]) n3
      have e3 := s3 _ _ e2
      refine ⟨tyL e3, p1, [true, false, false], 0, rfl, rfl, e3, rfl, fun i hi => ?_, by decide, ?_⟩
      · exact absurd hi (Nat.not_lt_zero _)
      exact ixL upd_same rfl (k _ (s1.trans (s2.trans s3)))
    · have c_BadWeb : T.BadWeb ≠ T.BadStep := (nth_ne T.ndx 1 8 rfl rfl (by decide))
      have c_NoRoad : T.NoRoad ≠ T.BadStep := (nth_ne T.ndx 3 8 rfl rfl (by decide))
      have c_BadWish : T.BadWish ≠ T.BadStep := (nth_ne T.ndx 5 8 rfl rfl (by decide))
      have c_NoNumber : T.NoNumber ≠ T.BadStep := (nth_ne T.ndx 7 8 rfl rfl (by decide))
      have c_TooMany : T.TooMany ≠ T.BadStep := (nth_ne T.ndx 6 8 rfl rfl (by decide))
      have d_BadLaying : decide (T.BadLaying = T.BadStep) = false := decide_eq_false (nth_ne T.ndx 4 8 rfl rfl (by decide))
      have d_NoPlace : decide (T.NoPlace = T.BadStep) = false := decide_eq_false (nth_ne T.ndx 2 8 rfl rfl (by decide))
      have d_BadStep : decide (T.BadStep = T.BadStep) = true := decide_eq_true rfl
      refine isX_own he hd xe T.x_BadLaying t_BadLaying (isX_own he hd xe T.x_NoPlace t_NoPlace (isX_own he hd xe T.x_BadStep t_BadStep ⟨smallE (by simp), fun p1 n1 => ?_⟩))
      rw [d_BadLaying, d_NoPlace, d_BadStep]
      have s1 := Same.new (.lst [V.bl false, V.bl false, V.bl true]) n1
      have e1 : upd H p1 (.lst [V.bl false, V.bl false, V.bl true]) p1 = some (.lst ([false, false, true].map V.bl)) := upd_same
      generalize upd H p1 (.lst [V.bl false, V.bl false, V.bl true]) = H1 at s1 e1 ⊢
      refine isX_val (s1 _ _ he) (hd.same s1) xe ⟨_, rfl, ?_⟩
      rw [if_neg (by decide)]
      refine ⟨smallE (by simp), fun p2 n2 => ?_⟩
      have s2 := Same.new (.tup [V.ref T.BadWeb, V.ref T.NoRoad, V.ref T.BadWish, V.ref T.NoNumber, V.ref T.TooMany]) n2
      refine ⟨ea, _, od, p2, _, [false, false, false, false, false], rfl, s2 _ _ (s1 _ _ he), (hd.same s1).same s2, xe.x, upd_same, .cons (cls_own xe T.x_BadWeb t_BadWeb c_BadWeb) (.cons (cls_own xe T.x_NoRoad t_NoRoad c_NoRoad) (.cons (cls_own xe T.x_BadWish t_BadWish c_BadWish) (.cons (cls_own xe T.x_NoNumber t_NoNumber c_NoNumber) (.cons (cls_own xe T.x_TooMany t_TooMany c_TooMany) .nil)))), _, rfl, ?_⟩
      rw [if_neg (by decide)]
      have e2 := s2 _ _ e1
      generalize upd H1 p2 (.tup [V.ref T.BadWeb, V.ref T.NoRoad, V.ref T.BadWish, V.ref T.NoNumber, V.ref T.TooMany]) = H2 at s2 e2 ⊢
      refine ⟨tyL e2, p1, [false, false, true], rfl, rfl, e2, rfl, ?_⟩
      rw [if_neg (fun z => z rfl)]
      refine ⟨smallE (by simp), fun p3 n3 => ?_⟩
      have s3 := Same.new (.lst [V.str (Str.ofString "laying"), V.str (Str.ofString "place"), V.str (Str.ofString "step")]) n3
      have e3 := s3 _ _ e2
      refine ⟨tyL e3, p1, [false, false, true], 2, rfl, rfl, e3, rfl, fun i hi => ?_, by decide, ?_⟩
      · rcases (show i = 0 ∨ i = 1 by omega) with z | z <;> (rw [z]; rfl)
      exact ixL upd_same rfl (k _ (s1.trans (s2.trans s3)))
/-! #### BadStep.__init__ -/
def sp_BadStep___init__ (T : Txt K mg) : Sp := fun vs H Q _ => ∃ (ea fI : Addr) (n : Int), vs = [.ref ea, .int n] ∧ H ea = some (ExN ea (.ref T.BadStep) none) ∧ XObjI K T.BadStep fI ∧ ∀ dx, H dx = none → dx ≠ ea → Q .non (upd (upd H ea (ExN ea (.ref T.BadStep) (some dx))) dx (.xd [("at", .int n)]))
abbrev s_BadStep___init__ : Stmt := inClass (top 9) 0
theorem sc_BadStep___init__ : FnScope ["self", "at"] ["self", "at"] (defScope s_BadStep___init__) := FnScope.of (by kernel_rfl)
theorem n_BadStep___init____self : NmL (defScope s_BadStep___init__) "self" := .of (by kernel_rfl)
theorem n_BadStep___init____at : NmL (defScope s_BadStep___init__) "at" := .of (by kernel_rfl)
theorem n_BadStep___init____TollError : NmG (defScope s_BadStep___init__) "TollError" := .of (by kernel_rfl)

theorem ok_BadStep___init__ (T : Txt K mg) (hq : Quiet (CXe P w)) {f : Addr} {fd : FuncData} (F : Fun K "__init__" "BadStep.__init__" s_BadStep___init__ f fd) : FnOk P w K mg base (CXe P w) 1 f fd ["self", "at"] (sp_BadStep___init__ T) := by
  refine F.okC sc_BadStep___init__ (fun vs H Q E h => ?_) (fun cdv A outer s H vs Q E hr h => ?_)
  · obtain ⟨ea, fI, n, rfl, _⟩ := h
    rfl
  · obtain ⟨ea, fI, n, rfl, he, xo, k⟩ := h
    refine ⟨_, (pss_cons (ps_expr (pe_baseInit T.b_TollError n_BadStep___init____TollError.g T.m_TollError (pa_cons (pvl 0 n_BadStep___init____self) (pa_cons (pvl 1 n_BadStep___init____at) pa_nil)) (hdb := n_BadStep___init____TollError.d))) (pss_one (ps_fldX rfl (pvl 0 n_BadStep___init____self) (pvl 1 n_BadStep___init____at) rfl))), ?_⟩
    rw [show L2.start ["self", "at"] [V.ref ea, V.int n] = [some (V.ref ea), some (V.int n)] from rfl]
    show ∃ v, _
    refine ⟨V.ref ea, rfl, V.int n, rfl, ?_⟩
    refine ⟨ea, T.BadStep, fI, none, [V.int n], rfl, smallE (by simp), xo, he, ?_⟩
    show ∃ v, _
    refine ⟨V.int n, rfl, V.ref ea, rfl, ?_⟩
    exact ⟨ea, T.BadStep, T.TollError, rfl, he, T.s_BadStep, k⟩
/-! #### check_place -/
def sp_check_place (T : Txt K mg) : Sp := fun vs H Q E => ∃ (p t : Addr) (m : Int) (ps : List Addr) (rs : List Road) (n : Int), vs = [.ref p, .int n] ∧ WebAt T.Web H p m t ps rs ∧ (0 ≤ n → n < m → Q .non H) ∧ (¬ (0 ≤ n ∧ n < m) → E (.ref T.NoPlace) none H)
abbrev s_check_place : Stmt := top 17
theorem sc_check_place : FnScope ["web", "number"] ["web", "number"] (defScope s_check_place) := FnScope.of (by kernel_rfl)
theorem n_check_place__web : NmL (defScope s_check_place) "web" := .of (by kernel_rfl)
theorem n_check_place__number : NmL (defScope s_check_place) "number" := .of (by kernel_rfl)
theorem n_check_place__is_place : NmG (defScope s_check_place) "is_place" := .of (by kernel_rfl)
theorem n_check_place__NoPlace : NmG (defScope s_check_place) "NoPlace" := .of (by kernel_rfl)

theorem ok_check_place (T : Txt K mg) (hq : Quiet (CXe P w)) {f : Addr} {fd : FuncData} (D : Df K mg "check_place" s_check_place ["web", "number"] f fd) {f_is_place : Addr} {fd_is_place : FuncData} (D_is_place : Df K mg "is_place" s_is_place ["many", "number"] f_is_place fd_is_place) (G_is_place : FnOk P w K mg base (CXe P w) 1 f_is_place fd_is_place ["many", "number"] (sp_is_place T)) : FnOk P w K mg base (CXe P w) 2 f fd ["web", "number"] (sp_check_place T) := by
  refine D.F.okX sc_check_place (fun vs H Q E h => ?_) (fun cdv A outer s H vs Q E hr h => ?_)
  · obtain ⟨p, t, m, ps, rs, n, rfl, _⟩ := h
    rfl
  · obtain ⟨p, t, m, ps, rs, n, rfl, W, k, e⟩ := h
    obtain ⟨dx, ob⟩ := W.ob
    refine ⟨_, (pss_one (ps_if (pt_not (pt_val (pe_call G_is_place (hr.mono (by decide)) n_check_place__is_place.g D_is_place.m D_is_place.F.kp D_is_place.b .nil passX (pa_cons (pe_fld  (pvl 0 n_check_place__web) rfl) (pa_cons (pvl 1 n_check_place__number) pa_nil)) (hdb := n_check_place__is_place.d)))) (pss_one (ps_raise T.e_NoPlace rfl raisesX n_check_place__NoPlace.g T.m_NoPlace (pa_cons pe_str pa_nil) (hdb := n_check_place__NoPlace.d))) pss_nil)), ?_⟩
    rw [show L2.start ["web", "number"] [V.ref p, V.int n] = [some (V.ref p), some (V.int n)] from rfl]
    walk_at "rd"
    refine ⟨T.Web, dx, _, ob, T.cl_Web, T.n_many, _, wflds_many m t, m, n, rfl, _, rfl, ?_⟩
    by_cases c : 0 ≤ n ∧ n < m
    · rw [if_neg (by simp [c.1, c.2])]
      exact k c.1 c.2
    · rw [if_pos (by simpa [Bool.and_eq_true] using c)]
      exact ⟨by decide, e c⟩
/-! #### toll -/
def sp_toll (T : Txt K mg) : Sp := fun vs H Q E => ∃ (p t : Addr) (m : Int) (ps : List Addr) (rs : List Road) (a b : Int), vs = [.ref p, .int a, .int b] ∧ WebAt T.Web H p m t ps rs ∧
  (∀ k, 0 ≤ a → a < m → 0 ≤ b → b < m → tollOf rs a b = some k → Q (.int k) H) ∧ (¬ ((0 ≤ a ∧ a < m) ∧ (0 ≤ b ∧ b < m)) → E (.ref T.NoPlace) none H) ∧ (0 ≤ a → a < m → 0 ≤ b → b < m → tollOf rs a b = none → E (.ref T.NoRoad) none H)
abbrev s_toll : Stmt := top 15
theorem sc_toll : FnScope ["web", "a", "b", "one", "other", "there", "back"] ["web", "a", "b"] (defScope s_toll) := FnScope.of (by kernel_rfl)
theorem n_toll__web : NmL (defScope s_toll) "web" := .of (by kernel_rfl)
theorem n_toll__a : NmL (defScope s_toll) "a" := .of (by kernel_rfl)
theorem n_toll__b : NmL (defScope s_toll) "b" := .of (by kernel_rfl)
theorem n_toll__one : NmL (defScope s_toll) "one" := .of (by kernel_rfl)
theorem n_toll__other : NmL (defScope s_toll) "other" := .of (by kernel_rfl)
theorem n_toll__there : NmL (defScope s_toll) "there" := .of (by kernel_rfl)
theorem n_toll__back : NmL (defScope s_toll) "back" := .of (by kernel_rfl)
theorem n_toll__check_place : NmG (defScope s_toll) "check_place" := .of (by kernel_rfl)
theorem n_toll__NoRoad : NmG (defScope s_toll) "NoRoad" := .of (by kernel_rfl)

theorem ok_toll (T : Txt K mg) (hq : Quiet (CXe P w)) {f : Addr} {fd : FuncData} (D : Df K mg "toll" s_toll ["web", "a", "b"] f fd) {f_check_place : Addr} {fd_check_place : FuncData} (D_check_place : Df K mg "check_place" s_check_place ["web", "number"] f_check_place fd_check_place) (G_check_place : FnOk P w K mg base (CXe P w) 2 f_check_place fd_check_place ["web", "number"] (sp_check_place T)) : FnOk P w K mg base (CXe P w) 3 f fd ["web", "a", "b"] (sp_toll T) := by
  refine D.F.okX sc_toll (fun vs H Q E h => ?_) (fun cdv A outer s H vs Q E hr h => ?_)
  · obtain ⟨p, t, m, ps, rs, a, b, rfl, _⟩ := h
    rfl
  · obtain ⟨p, t, m, ps, rs, a, b, rfl, W, k, e1, e2⟩ := h
    obtain ⟨dx, ob⟩ := W.ob
    refine ⟨_, (pss_cons (ps_expr (pe_call G_check_place (hr.mono (by decide)) n_toll__check_place.g D_check_place.m D_check_place.F.kp D_check_place.b .nil passX (pa_cons (pvl 0 n_toll__web) (pa_cons (pvl 1 n_toll__a) pa_nil)) (hdb := n_toll__check_place.d))) (pss_cons (ps_expr (pe_call G_check_place (hr.mono (by decide)) n_toll__check_place.g D_check_place.m D_check_place.F.kp D_check_place.b .nil passX (pa_cons (pvl 0 n_toll__web) (pa_cons (pvl 2 n_toll__b) pa_nil)) (hdb := n_toll__check_place.d))) (pss_cons (ps_for PassesOwn.leaving rfl (pi_tup (pe_fld  (pvl 0 n_toll__web) rfl)) (pg_tup (n := 4) rfl (pgs_cons (pg_name (i := 3) sc_toll.nd rfl (Or.inl n_toll__one.l)) (pgs_cons (pg_name (i := 4) sc_toll.nd rfl (Or.inl n_toll__other.l)) (pgs_cons (pg_name (i := 5) sc_toll.nd rfl (Or.inl n_toll__there.l)) (pgs_cons (pg_name (i := 6) sc_toll.nd rfl (Or.inl n_toll__back.l)) pgs_nil))))) (pss_cons (ps_if (PW.pt (pw_and (pt_cmpR op_eq (pvl 3 n_toll__one) (pvl 1 n_toll__a) (nomark _)) (pw_and1 (pt_cmpR op_eq (pvl 4 n_toll__other) (pvl 2 n_toll__b) (nomark _))))) (pss_one (ps_ret (pvl 5 n_toll__there))) pss_nil) (pss_one (ps_if (PW.pt (pw_and (pt_cmpR op_eq (pvl 3 n_toll__one) (pvl 2 n_toll__b) (nomark _)) (pw_and1 (pt_cmpR op_eq (pvl 4 n_toll__other) (pvl 1 n_toll__a) (nomark _))))) (pss_one (ps_ret (pvl 6 n_toll__back))) pss_nil)))) (pss_one (ps_raise T.e_NoRoad rfl raisesX n_toll__NoRoad.g T.m_NoRoad (pa_cons pe_str pa_nil) (hdb := n_toll__NoRoad.d)))))), ?_⟩
    rw [show L2.start ["web", "a", "b", "one", "other", "there", "back"] [V.ref p, V.int a, V.int b] = [some (V.ref p), some (V.int a), some (V.int b), none, none, none, none] from rfl]
    walk_at "rd"
    refine ⟨p, t, m, ps, rs, a, rfl, W, fun a0 a1 => ?_, fun z => e1 fun w => z w.1⟩
    refine ⟨p, t, m, ps, rs, b, rfl, W, fun b0 b1 => ?_, fun z => e1 fun w => z w.2⟩
    refine ⟨T.Web, dx, _, ob, T.cl_Web, T.n_roads, _, wflds_roads m t, t, rfl, ⟨_, SqT.of W.tu⟩, ?_⟩
    have hlen : ps.length = rs.length := Paired.length W.ro
    refine for_tupN (K := K) (xs := ps.map V.ref) (fun i σ H2 => H2 = H ∧ tollOf (rs.take i) a b = none ∧ ∃ v1 v2 v3 v4, σ = [some (V.ref p), some (V.int a), some (V.int b), v1, v2, v3, v4]) ⟨rfl, rfl, _, _, _, _, rfl⟩ (fun i σ H2 _ z => by rw [z.1]; exact SqT.of W.tu) ?_ ?_
    · rintro i x σ H2 N hN hx ⟨rfl, hno, v1, v2, v3, v4, rfl⟩
      obtain ⟨q, r, rfl, h1, h2, h3⟩ := W.ro.get hx
      have et : rs.take (i + 1) = rs.take i ++ [r] := by rw [List.take_succ, h2]; rfl
      have split : tollOf rs a b = (tollOf (rs.take i) a b).or ((toll1 a b r).or (tollOf (rs.drop (i + 1)) a b)) := by
        have : rs = rs.take i ++ r :: rs.drop (i + 1) := by
          have hil : i < rs.length := (List.getElem?_eq_some_iff.mp h2).1
          have e : rs[i] = r := by rw [List.getElem?_eq_getElem hil] at h2; exact Option.some.inj h2
          rw [← e, List.getElem_cons_drop, List.take_append_drop]
        conv => lhs; rw [this]
        unfold tollOf
        rw [List.findSome?_append, List.findSome?_cons]
        cases toll1 a b r <;> rfl
      rw [hno, Option.none_or] at split
      walk_at "rd"
      refine ⟨_, SqT.of h3, rfl, _, _, rfl, _, _, rfl, _, _, rfl, _, _, rfl, rfl, ?_⟩
      walk_at "rd"
      have next : toll1 a b r = none → N [some (V.ref p), some (V.int a), some (V.int b), some (V.int r.a), some (V.int r.b), some (V.int r.t), some (V.int r.u)] H2 := fun z => hN _ _ ⟨rfl, by
        rw [et]
        unfold tollOf at hno ⊢
        rw [List.findSome?_append, hno, List.findSome?_cons, z]
        rfl, _, _, _, _, rfl⟩
      have got : ∀ v, toll1 a b r = some v → tollOf rs a b = some v := fun v z => by rw [split, z]; rfl
      unfold toll1 at next got
      split
      · rename_i c1
        split
        · rename_i c2
          exact k _ a0 a1 b0 b1 (got _ (by rw [if_pos ⟨c1, c2⟩]))
        · rename_i c2
          split
          · rename_i c3
            split
            · rename_i c4
              exact k _ a0 a1 b0 b1 (got _ (by rw [if_neg (fun z => c2 z.2), if_pos ⟨c3, c4⟩]))
            · rename_i c4
              exact next (by rw [if_neg (fun z => c2 z.2), if_neg (fun z => c4 z.2)])
          · rename_i c3
            exact next (by rw [if_neg (fun z => c2 z.2), if_neg (fun z => c3 z.1)])
      · rename_i c1
        split
        · rename_i c3
          split
          · rename_i c4
            exact k _ a0 a1 b0 b1 (got _ (by rw [if_neg (fun z => c1 z.1), if_pos ⟨c3, c4⟩]))
          · rename_i c4
            exact next (by rw [if_neg (fun z => c1 z.1), if_neg (fun z => c4 z.2)])
        · rename_i c3
          exact next (by rw [if_neg (fun z => c1 z.1), if_neg (fun z => c3 z.1)])
    · rintro σ H2 ⟨rfl, hno, v1, v2, v3, v4, rfl⟩
      rw [List.length_map, hlen, List.take_length] at hno
      walk_at "rd"
      exact ⟨by decide, e2 a0 a1 b0 b1 hno⟩
/-! #### taken -/
def sp_taken (T : Txt K mg) : Sp := fun vs H Q _ => ∃ (p q t : Addr) (m : Int) (ps : List Addr) (rs : List Road) (s : Stp), vs = [.ref p, .ref q] ∧ WebAt T.Web H p m t ps rs ∧ H q = some (.tup (vSt s)) ∧ isStp m rs s = true ∧ Q (.int (s.2.2 * tollD rs s.1 s.2.1)) H
abbrev s_taken : Stmt := top 32
theorem sc_taken : FnScope ["web", "step"] ["web", "step"] (defScope s_taken) := FnScope.of (by kernel_rfl)
theorem n_taken__web : NmL (defScope s_taken) "web" := .of (by kernel_rfl)
theorem n_taken__step : NmL (defScope s_taken) "step" := .of (by kernel_rfl)
theorem n_taken__toll : NmG (defScope s_taken) "toll" := .of (by kernel_rfl)

theorem ok_taken (T : Txt K mg) (hq : Quiet (CXe P w)) {f : Addr} {fd : FuncData} (D : Df K mg "taken" s_taken ["web", "step"] f fd) {f_toll : Addr} {fd_toll : FuncData} (D_toll : Df K mg "toll" s_toll ["web", "a", "b"] f_toll fd_toll) (G_toll : FnOk P w K mg base (CXe P w) 3 f_toll fd_toll ["web", "a", "b"] (sp_toll T)) : FnOk P w K mg base (CXe P w) 4 f fd ["web", "step"] (sp_taken T) := by
  refine D.F.okC sc_taken (fun vs H Q E h => ?_) (fun cdv A outer s H vs Q E hr h => ?_)
  · obtain ⟨p, q, t, m, ps, rs, s, rfl, _⟩ := h
    rfl
  · obtain ⟨p, q, t, m, ps, rs, s, rfl, W, hs, is, k⟩ := h
    have g := W.go
    obtain ⟨kk, e1, e2, kr, br⟩ := step_toll g is
    have ar := (isStp_of is).1
    refine ⟨_, (pss_one (ps_ret (pe_op op_mul (pe_ix ix_tup (pvl 1 n_taken__step) pe_int (fun _ _ => rfl)) (pe_call G_toll (hr.mono (by decide)) n_taken__toll.g D_toll.m D_toll.F.kp D_toll.b .nil (passQ hq) (pa_cons (pvl 0 n_taken__web) (pa_cons (pe_ix ix_tup (pvl 1 n_taken__step) pe_int (fun _ _ => rfl)) (pa_cons (pe_ix ix_tup (pvl 1 n_taken__step) pe_int (fun _ _ => rfl)) pa_nil))) (hdb := n_taken__toll.d))))), ?_⟩
    rw [show L2.start ["web", "step"] [V.ref p, V.ref q] = [some (V.ref p), some (V.ref q)] from rfl]
    walk_at "rd"
    refine ixT hs rfl (ixT hs rfl (ixT hs rfl ?_))
    refine ex7 p t m ps rs s.1 s.2.1 ?_
    refine an5 rfl W (fun k' _ _ _ _ h => ?_) (fun z => absurd ⟨ar, br⟩ z) (fun _ _ _ _ z => by rw [e1] at z; cases z)
    rw [e1] at h
    cases h
    rw [e2] at k
    exact ⟨_, rfl, _, rfl, .inr ⟨by omega, by omega⟩, k⟩
/-! #### behind -/
def sp_behind (T : Txt K mg) : Sp := fun vs H Q _ => ∃ (p a q t : Addr) (m : Int) (ps : List Addr) (rs : List Road) (xs : List Int) (s : Stp), vs = [.ref p, .ref a, .ref q] ∧ WebAt T.Web H p m t ps rs ∧ SqT K H a (xs.map V.int) ∧ (xs.length : Int) = m ∧ H q = some (.tup (vSt s)) ∧ isStp m rs s = true ∧ ∀ l H', H l = none → Same H H' → H' l = some (.tup ((stepL rs xs s).map V.int)) → Q (.ref l) H'
abbrev s_behind : Stmt := top 33
theorem sc_behind : FnScope ["web", "laying", "step", "counts"] ["web", "laying", "step"] (defScope s_behind) := FnScope.of (by kernel_rfl)
theorem n_behind__web : NmL (defScope s_behind) "web" := .of (by kernel_rfl)
theorem n_behind__laying : NmL (defScope s_behind) "laying" := .of (by kernel_rfl)
theorem n_behind__step : NmL (defScope s_behind) "step" := .of (by kernel_rfl)
theorem n_behind__counts : NmL (defScope s_behind) "counts" := .of (by kernel_rfl)
theorem n_behind__list : NmG (defScope s_behind) "list" := .of (by kernel_rfl)
theorem n_behind__taken : NmG (defScope s_behind) "taken" := .of (by kernel_rfl)
theorem n_behind__tuple : NmG (defScope s_behind) "tuple" := .of (by kernel_rfl)

theorem ok_behind (T : Txt K mg) (hq : Quiet (CXe P w)) {f : Addr} {fd : FuncData} (D : Df K mg "behind" s_behind ["web", "laying", "step"] f fd) {f_taken : Addr} {fd_taken : FuncData} (D_taken : Df K mg "taken" s_taken ["web", "step"] f_taken fd_taken) (G_taken : FnOk P w K mg base (CXe P w) 4 f_taken fd_taken ["web", "step"] (sp_taken T)) : FnOk P w K mg base (CXe P w) 5 f fd ["web", "laying", "step"] (sp_behind T) := by
  refine D.F.okC sc_behind (fun vs H Q E h => ?_) (fun cdv A outer s H vs Q E hr h => ?_)
  · obtain ⟨p, a, q, t, m, ps, rs, xs, s, rfl, _⟩ := h
    rfl
  · obtain ⟨p, a, q, t, m, ps, rs, xs, s, rfl, W, ha, xl, hs, is, k⟩ := h
    have g := W.go
    have m24 := g.m24
    obtain ⟨kk, e1, e2, kr, br⟩ := step_toll g is
    have ar := (isStp_of is).1
    refine ⟨_, (pss_cons (ps_set (i := 3) sc_behind.nd rfl (Or.inl n_behind__counts.l) (pe_callTy call_list_of n_behind__list.g T.list pb_list (pa_cons (pvl 1 n_behind__laying) pa_nil) (hn := n_behind__list.n) (hdb := n_behind__list.d))) (pss_cons (ps_augS (pvl 3 n_behind__counts) (pe_ix ix_tup (pvl 2 n_behind__step) pe_int (fun _ _ => rfl)) get_list (pe_call G_taken (hr.mono (by decide)) n_behind__taken.g D_taken.m D_taken.F.kp D_taken.b .nil (passQ hq) (pa_cons (pvl 0 n_behind__web) (pa_cons (pvl 2 n_behind__step) pa_nil)) (hdb := n_behind__taken.d)) ip_sub set_list) (pss_cons (ps_augS (pvl 3 n_behind__counts) (pe_ix ix_tup (pvl 2 n_behind__step) pe_int (fun _ _ => rfl)) get_list (pe_ix ix_tup (pvl 2 n_behind__step) pe_int (fun _ _ => rfl)) ip_add set_list) (pss_one (ps_ret (pe_callTy call_tuple_of n_behind__tuple.g T.tuple pb_tuple (pa_cons (pvl 3 n_behind__counts) pa_nil) (hn := n_behind__tuple.n) (hdb := n_behind__tuple.d))))))), ?_⟩
    rw [show L2.start ["web", "laying", "step", "counts"] [V.ref p, V.ref a, V.ref q] = [some (V.ref p), some (V.ref a), some (V.ref q), none] from rfl]
    walk_at "rd"
    refine ⟨_, .inr ha, fun l nl => ?_⟩
    have s1 := Same.new (.lst (xs.map V.int)) nl
    have hs1 := s1 _ _ hs
    have el : upd H l (.lst (xs.map V.int)) l = some (.lst (xs.map V.int)) := upd_same
    generalize upd H l (.lst (xs.map V.int)) = H1 at s1 hs1 el ⊢
    refine ixT hs1 rfl (ixL el (atG ar.1 (by omega)) ?_)
    refine ex7 p q t m ps rs s ?_
    refine an5 rfl (W.same s1) hs1 is ?_
    refine ⟨_, rfl, _, rfl, setR el ar.1 (by rw [List.length_map]; omega) ?_⟩
    rw [← List.map_set]
    have nql : q ≠ l := ne_of hs1 el (by intro z; cases z)
    have yl : (xs.set s.1.toNat (xs.getD s.1.toNat 0 - s.2.2 * tollD rs s.1 s.2.1)).length = xs.length := by rw [List.length_set]
    have hk : stepL rs xs s = (xs.set s.1.toNat (xs.getD s.1.toNat 0 - s.2.2 * tollD rs s.1 s.2.1)).set s.2.1.toNat ((xs.set s.1.toNat (xs.getD s.1.toNat 0 - s.2.2 * tollD rs s.1 s.2.1)).getD s.2.1.toNat 0 + s.2.2) := rfl
    generalize xs.set s.1.toNat (xs.getD s.1.toNat 0 - s.2.2 * tollD rs s.1 s.2.1) = ys at yl hk ⊢
    have hs2 : upd H1 l (.lst (ys.map V.int)) q = some (.tup (vSt s)) := by rw [upd_ne nql]; exact hs1
    refine ixT hs2 rfl (ixL upd_same (atG br.1 (by omega)) (ixT hs2 rfl ⟨_, rfl, _, rfl, setR upd_same br.1 (by rw [List.length_map]; omega) ?_⟩))
    rw [upd_upd, ← List.map_set, ← hk]
    refine ⟨_, .inl ⟨SqL.of upd_same, fun l2 n2 => ?_⟩⟩
    have n20 : H l2 = none := by
      have nl2 : l2 ≠ l := fun z => by rw [z, upd_same] at n2; cases n2
      rw [upd_ne nl2] at n2
      exact s1.free n2
    exact k l2 _ n20 ((s1.put nl _).trans (Same.new _ n2)) upd_same
/-! #### neighbours -/
def sp_neighbours (T : Txt K mg) : Sp := fun vs H Q E => ∃ (p t : Addr) (m : Int) (ps : List Addr) (rs : List Road) (a : Int), vs = [.ref p, .int a] ∧ WebAt T.Web H p m t ps rs ∧
  (∀ l H', 0 ≤ a → a < m → H l = none → Same H H' → H' l = some (.lst ((nbrs m rs a).map V.int)) → Q (.ref l) H') ∧ (¬ (0 ≤ a ∧ a < m) → E (.ref T.NoPlace) none H)
abbrev s_neighbours : Stmt := top 16
theorem sc_neighbours : FnScope ["web", "a"] ["web", "a"] (defScope s_neighbours) := FnScope.of (by kernel_rfl)
theorem n_neighbours__web : NmL (defScope s_neighbours) "web" := .of (by kernel_rfl)
theorem n_neighbours__a : NmL (defScope s_neighbours) "a" := .of (by kernel_rfl)
theorem n_neighbours__check_place : NmG (defScope s_neighbours) "check_place" := .of (by kernel_rfl)
theorem n_neighbours__sorted : NmG (defScope s_neighbours) "sorted" := .of (by kernel_rfl)
theorem n_neighbours__other_ends : NmG (defScope s_neighbours) "other_ends" := .of (by kernel_rfl)

theorem ok_neighbours (T : Txt K mg) (hq : Quiet (CXe P w)) {f : Addr} {fd : FuncData} (D : Df K mg "neighbours" s_neighbours ["web", "a"] f fd) {f_check_place : Addr} {fd_check_place : FuncData} (D_check_place : Df K mg "check_place" s_check_place ["web", "number"] f_check_place fd_check_place) (G_check_place : FnOk P w K mg base (CXe P w) 2 f_check_place fd_check_place ["web", "number"] (sp_check_place T)) {f_other_ends : Addr} {fd_other_ends : FuncData} (D_other_ends : Df K mg "other_ends" s_other_ends ["roads", "place"] f_other_ends fd_other_ends) (G_other_ends : FnOk P w K mg base (CXe P w) 1 f_other_ends fd_other_ends ["roads", "place"] (sp_other_ends T)) : FnOk P w K mg base (CXe P w) 3 f fd ["web", "a"] (sp_neighbours T) := by
  refine D.F.okX sc_neighbours (fun vs H Q E h => ?_) (fun cdv A outer s H vs Q E hr h => ?_)
  · obtain ⟨p, t, m, ps, rs, a, rfl, _⟩ := h
    rfl
  · obtain ⟨p, t, m, ps, rs, a, rfl, W, k, e⟩ := h
    obtain ⟨dx, ob⟩ := W.ob
    refine ⟨_, (pss_cons (ps_expr (pe_call G_check_place (hr.mono (by decide)) n_neighbours__check_place.g D_check_place.m D_check_place.F.kp D_check_place.b .nil passX (pa_cons (pvl 0 n_neighbours__web) (pa_cons (pvl 1 n_neighbours__a) pa_nil)) (hdb := n_neighbours__check_place.d))) (pss_one (ps_ret (pe_callB call_sorted n_neighbours__sorted.g T.sorted pb_sorted (pa_cons (pe_call G_other_ends (hr.mono (by decide)) n_neighbours__other_ends.g D_other_ends.m D_other_ends.F.kp D_other_ends.b .nil passX (pa_cons (pe_fld  (pvl 0 n_neighbours__web) rfl) (pa_cons (pvl 1 n_neighbours__a) pa_nil)) (hdb := n_neighbours__other_ends.d)) pa_nil) (hn := n_neighbours__sorted.n) (hdb := n_neighbours__sorted.d))))), ?_⟩
    rw [show L2.start ["web", "a"] [V.ref p, V.int a] = [some (V.ref p), some (V.int a)] from rfl]
    walk_at "rd"
    refine ⟨p, t, m, ps, rs, a, rfl, W, fun a0 a1 => ?_, e⟩
    have hlen : (rs.length : Int) = m - 1 := W.go.len
    have m24 := W.go.m24
    refine ⟨T.Web, dx, _, ob, T.cl_Web, T.n_roads, _, wflds_roads m t, t, ps, rs, a, rfl, SqT.of W.tu, W.ro, by omega, fun l1 H1 n1 s1 e1 => ?_⟩
    refine ⟨l1, rfl, ends rs a, SqL.of e1, by have := ends_len rs a; omega, fun l2 zs n2 pz sz => ?_⟩
    rw [nbrs_eq W.go a0 a1 pz sz]
    exact k l2 _ a0 a1 (s1.free n2) (s1.trans (Same.new _ n2)) upd_same
/-! #### is_step -/
def sp_is_step (T : Txt K mg) : Sp := fun vs H Q _ => ∃ (p q t : Addr) (m : Int) (ps : List Addr) (rs : List Road) (s : Stp), vs = [.ref p, .ref q] ∧ WebAt T.Web H p m t ps rs ∧ H q = some (.tup (vSt s)) ∧ ∀ H', Same H H' → Q (.bl (isStp m rs s)) H'
abbrev s_is_step : Stmt := top 31
theorem sc_is_step : FnScope ["web", "step"] ["web", "step"] (defScope s_is_step) := FnScope.of (by kernel_rfl)
theorem n_is_step__web : NmL (defScope s_is_step) "web" := .of (by kernel_rfl)
theorem n_is_step__step : NmL (defScope s_is_step) "step" := .of (by kernel_rfl)
theorem n_is_step__is_place : NmG (defScope s_is_step) "is_place" := .of (by kernel_rfl)
theorem n_is_step__neighbours : NmG (defScope s_is_step) "neighbours" := .of (by kernel_rfl)

theorem ok_is_step (T : Txt K mg) (hq : Quiet (CXe P w)) {f : Addr} {fd : FuncData} (D : Df K mg "is_step" s_is_step ["web", "step"] f fd) {f_is_place : Addr} {fd_is_place : FuncData} (D_is_place : Df K mg "is_place" s_is_place ["many", "number"] f_is_place fd_is_place) (G_is_place : FnOk P w K mg base (CXe P w) 1 f_is_place fd_is_place ["many", "number"] (sp_is_place T)) {f_neighbours : Addr} {fd_neighbours : FuncData} (D_neighbours : Df K mg "neighbours" s_neighbours ["web", "a"] f_neighbours fd_neighbours) (G_neighbours : FnOk P w K mg base (CXe P w) 3 f_neighbours fd_neighbours ["web", "a"] (sp_neighbours T)) : FnOk P w K mg base (CXe P w) 4 f fd ["web", "step"] (sp_is_step T) := by
  refine D.F.okC sc_is_step (fun vs H Q E h => ?_) (fun cdv A outer s H vs Q E hr h => ?_)
  · obtain ⟨p, q, t, m, ps, rs, s, rfl, _⟩ := h
    rfl
  · obtain ⟨p, q, t, m, ps, rs, s, rfl, W, hs, k⟩ := h
    obtain ⟨dx, ob⟩ := W.ob
    refine ⟨_, (pss_one (ps_ret (pe_and (pe_call G_is_place (hr.mono (by decide)) n_is_step__is_place.g D_is_place.m D_is_place.F.kp D_is_place.b .nil (passQ hq) (pa_cons (pe_fld  (pvl 0 n_is_step__web) rfl) (pa_cons (pe_ix ix_tup (pvl 1 n_is_step__step) pe_int (fun _ _ => rfl)) pa_nil)) (hdb := n_is_step__is_place.d)) (pe_and (pe_cmpR op_in_seq (pe_ix ix_tup (pvl 1 n_is_step__step) pe_int (fun _ _ => rfl)) (pe_call G_neighbours (hr.mono (by decide)) n_is_step__neighbours.g D_neighbours.m D_neighbours.F.kp D_neighbours.b .nil (passQ hq) (pa_cons (pvl 0 n_is_step__web) (pa_cons (pe_ix ix_tup (pvl 1 n_is_step__step) pe_int (fun _ _ => rfl)) pa_nil)) (hdb := n_is_step__neighbours.d)) (by with_unfolding_all rfl)) (pe_one (pe_cmpR op_ge (pe_ix ix_tup (pvl 1 n_is_step__step) pe_int (fun _ _ => rfl)) pe_int (nomark _))))))), ?_⟩
    rw [show L2.start ["web", "step"] [V.ref p, V.ref q] = [some (V.ref p), some (V.ref q)] from rfl]
    walk_at "rd"
    refine ⟨T.Web, dx, _, ob, T.cl_Web, T.n_many, _, wflds_many m t, ixT hs rfl ⟨m, s.1, rfl, ?_⟩⟩
    refine ⟨_, rfl, ?_⟩
    have kk : ∀ H', Same H H' → Q (.bl (decide (0 ≤ s.1) && decide (s.1 < m) && decide (s.2.1 ∈ nbrs m rs s.1) && decide (1 ≤ s.2.2))) H' := k
    by_cases c : (decide (0 ≤ s.1) && decide (s.1 < m)) = true
    · rw [if_pos c]
      rw [c, Bool.true_and] at kk
      have ar : 0 ≤ s.1 ∧ s.1 < m := by
        rw [Bool.and_eq_true] at c
        exact ⟨of_decide_eq_true c.1, of_decide_eq_true c.2⟩
      refine ixT hs rfl (ixT hs rfl ?_)
      refine ex6 p t m ps rs s.1 ?_
      refine an4 rfl W (fun l H1 _ _ nl s1 el => ?_) (fun z => absurd ar z)
      refine inL el ⟨_, rfl, ?_⟩
      by_cases d : s.2.1 ∈ nbrs m rs s.1
      · rw [decide_eq_true d, Bool.true_and] at kk
        rw [if_pos (by rw [decide_eq_true d]; rfl)]
        exact ixT (s1 _ _ hs) rfl ⟨_, rfl, kk H1 s1⟩
      · rw [decide_eq_false d, Bool.false_and] at kk
        rw [if_neg (by rw [decide_eq_false d]; decide)]
        exact kk H1 s1
    · rw [if_neg c]
      rw [show (decide (0 ≤ s.1) && decide (s.1 < m)) = false by simpa using c, Bool.false_and, Bool.false_and] at kk
      exact kk H (Same.refl _)
/-! #### can_be_done -/
def sp_can_be_done (T : Txt K mg) : Sp := fun vs H Q _ => ∃ (p a q t : Addr) (m : Int) (ps : List Addr) (rs : List Road) (xs : List Int) (s : Stp), vs = [.ref p, .ref a, .ref q] ∧ WebAt T.Web H p m t ps rs ∧ SqT K H a (xs.map V.int) ∧ (xs.length : Int) = m ∧ H q = some (.tup (vSt s)) ∧ ∀ H', Same H H' → Q (.bl (canDo m rs xs s)) H'
abbrev s_can_be_done : Stmt := top 30
theorem sc_can_be_done : FnScope ["web", "laying", "step"] ["web", "laying", "step"] (defScope s_can_be_done) := FnScope.of (by kernel_rfl)
theorem n_can_be_done__web : NmL (defScope s_can_be_done) "web" := .of (by kernel_rfl)
theorem n_can_be_done__laying : NmL (defScope s_can_be_done) "laying" := .of (by kernel_rfl)
theorem n_can_be_done__step : NmL (defScope s_can_be_done) "step" := .of (by kernel_rfl)
theorem n_can_be_done__is_step : NmG (defScope s_can_be_done) "is_step" := .of (by kernel_rfl)
theorem n_can_be_done__taken : NmG (defScope s_can_be_done) "taken" := .of (by kernel_rfl)

theorem ok_can_be_done (T : Txt K mg) (hq : Quiet (CXe P w)) {f : Addr} {fd : FuncData} (D : Df K mg "can_be_done" s_can_be_done ["web", "laying", "step"] f fd) {f_is_step : Addr} {fd_is_step : FuncData} (D_is_step : Df K mg "is_step" s_is_step ["web", "step"] f_is_step fd_is_step) (G_is_step : FnOk P w K mg base (CXe P w) 4 f_is_step fd_is_step ["web", "step"] (sp_is_step T)) {f_taken : Addr} {fd_taken : FuncData} (D_taken : Df K mg "taken" s_taken ["web", "step"] f_taken fd_taken) (G_taken : FnOk P w K mg base (CXe P w) 4 f_taken fd_taken ["web", "step"] (sp_taken T)) : FnOk P w K mg base (CXe P w) 5 f fd ["web", "laying", "step"] (sp_can_be_done T) := by
  refine D.F.okC sc_can_be_done (fun vs H Q E h => ?_) (fun cdv A outer s H vs Q E hr h => ?_)
  · obtain ⟨p, a, q, t, m, ps, rs, xs, s, rfl, _⟩ := h
    rfl
  · obtain ⟨p, a, q, t, m, ps, rs, xs, s, rfl, W, ha, xl, hs, k⟩ := h
    refine ⟨_, (pss_one (ps_ret (pe_and (pe_call G_is_step (hr.mono (by decide)) n_can_be_done__is_step.g D_is_step.m D_is_step.F.kp D_is_step.b .nil (passQ hq) (pa_cons (pvl 0 n_can_be_done__web) (pa_cons (pvl 2 n_can_be_done__step) pa_nil)) (hdb := n_can_be_done__is_step.d)) (pe_one (pe_cmpR op_ge (pe_ix ix_tup (pvl 1 n_can_be_done__laying) (pe_ix ix_tup (pvl 2 n_can_be_done__step) pe_int (fun _ _ => rfl)) (fun _ _ => rfl)) (pe_call G_taken (hr.mono (by decide)) n_can_be_done__taken.g D_taken.m D_taken.F.kp D_taken.b .nil (passQ hq) (pa_cons (pvl 0 n_can_be_done__web) (pa_cons (pvl 2 n_can_be_done__step) pa_nil)) (hdb := n_can_be_done__taken.d)) (nomark _)))))), ?_⟩
    rw [show L2.start ["web", "laying", "step"] [V.ref p, V.ref a, V.ref q] = [some (V.ref p), some (V.ref a), some (V.ref q)] from rfl]
    walk_at "rd"
    refine ex7 p q t m ps rs s ?_
    refine an4 rfl W hs (fun H1 s1 => ⟨_, rfl, ?_⟩)
    by_cases c : isStp m rs s = true
    · rw [if_pos c]
      have ar := (isStp_of c).1
      refine ixT (s1 _ _ hs) rfl (ixTS (Same.tup s1 ha) (atG ar.1 (by omega)) ?_)
      refine ex7 p q t m ps rs s ?_
      refine an5 rfl (W.same s1) (s1 _ _ hs) c ?_
      have := k H1 s1
      unfold canDo at this
      rw [c, Bool.true_and] at this
      exact ⟨_, rfl, _, rfl, this⟩
    · rw [if_neg c]
      have := k H1 s1
      unfold canDo at this
      rw [show isStp m rs s = false by simpa using c, Bool.false_and] at this
      exact this
/-! #### is_filled -/
def filled (m : Int) (xs : List Int) : Bool := decide ((xs.length : Int) = m) && xs.all fun x => decide (0 ≤ x)
theorem filled_of {m : Int} {xs : List Int} (h : (xs.length : Int) = m) (h0 : ∀ x ∈ xs, 0 ≤ x) : filled m xs = true := by
  unfold filled
  rw [decide_eq_true h, Bool.true_and, List.all_eq_true]
  exact fun x hx => decide_eq_true (h0 x hx)
theorem filled_len {m : Int} {xs : List Int} (h : filled m xs = true) : (xs.length : Int) = m := by
  unfold filled at h
  rw [Bool.and_eq_true] at h
  exact of_decide_eq_true h.1
theorem filled_nn {m : Int} {xs : List Int} (h : filled m xs = true) : ∀ x ∈ xs, 0 ≤ x := by
  unfold filled at h
  rw [Bool.and_eq_true, List.all_eq_true] at h
  exact fun x hx => of_decide_eq_true (h.2 x hx)
def sp_is_filled (T : Txt K mg) : Sp := fun vs H Q _ => ∃ (p a t : Addr) (c : Bool) (m : Int) (ps : List Addr) (rs : List Road) (xs : List Int), vs = [.ref p, .ref a] ∧ WebAt T.Web H p m t ps rs ∧ SqX K c H a (xs.map V.int) ∧ xs.length ≤ 1000 ∧ ∀ H', Same H H' → Q (.bl (filled m xs)) H'
abbrev s_is_filled : Stmt := top 26
theorem sc_is_filled : FnScope ["web", "numbers"] ["web", "numbers"] (defScope s_is_filled) := FnScope.of (by kernel_rfl)
theorem n_is_filled__web : NmL (defScope s_is_filled) "web" := .of (by kernel_rfl)
theorem n_is_filled__numbers : NmL (defScope s_is_filled) "numbers" := .of (by kernel_rfl)
theorem n_is_filled__len : NmG (defScope s_is_filled) "len" := .of (by kernel_rfl)
theorem n_is_filled__all : NmG (defScope s_is_filled) "all" := .of (by kernel_rfl)

theorem ok_is_filled (T : Txt K mg) (hq : Quiet (CXe P w)) {f : Addr} {fd : FuncData} (D : Df K mg "is_filled" s_is_filled ["web", "numbers"] f fd) : FnOk P w K mg base (CXe P w) 1 f fd ["web", "numbers"] (sp_is_filled T) := by
  refine D.F.okC sc_is_filled (fun vs H Q E h => ?_) (fun cdv A outer s H vs Q E hr h => ?_)
  · obtain ⟨p, a, t, c, m, ps, rs, xs, rfl, _⟩ := h
    rfl
  · obtain ⟨p, a, t, c, m, ps, rs, xs, rfl, W, ha, hz, k⟩ := h
    refine ⟨_, (pss_one (ps_ret (pe_and (pe_cmpR op_eq (pe_callB call_len_seq n_is_filled__len.g T.len pb_len (pa_cons (pvl 1 n_is_filled__numbers) pa_nil) (hn := n_is_filled__len.n) (hdb := n_is_filled__len.d)) (pe_fld  (pvl 0 n_is_filled__web) rfl) (nomark _)) (pe_one (pe_callB (call_all rfl) n_is_filled__all.g T.all pb_all (pa_cons (pe_comp rfl (ct_plain (Nc := ["number"]) 1 (by decide +kernel) (by decide +kernel) rfl (by decide +kernel) rfl) (pi_any c (pvl 1 n_is_filled__numbers)) (fun _ _ _ _ => (pg_name (i := 0) (show (["number"] : List Str).Nodup from by decide +kernel) rfl (Or.inl rfl))) (fun _ _ _ _ => pts_nil) (fun _ _ _ _ => (pe_cmpR op_ge (pv 0) pe_int (nomark _)))) pa_nil) (hn := n_is_filled__all.n) (hdb := n_is_filled__all.d)))))), ?_⟩
    rw [show L2.start ["web", "numbers"] [V.ref p, V.ref a] = [some (V.ref p), some (V.ref a)] from rfl]
    walk_at "rd"
    obtain ⟨dx, ob⟩ := W.ob
    have ha' : SqL K H a (xs.map V.int) ∨ SqT K H a (xs.map V.int) := by
      cases c
      · exact .inr ha
      · exact .inl ha
    refine ⟨_, ha', T.Web, dx, _, ob, T.cl_Web, T.n_many, _, wflds_many m t, rfl, ?_⟩
    rw [List.length_map]
    by_cases hm : (xs.length : Int) = m
    · rw [if_pos (by rw [hm])]
      refine ⟨⟨_, ha⟩, fun l nl => ?_⟩
      refine comp_any (K := K) (c := c) (xs := xs.map V.int) (fun i bs σ H2 => Same H H2 ∧ H2 l = some (.lst bs) ∧ bs = ((xs.take i).map fun x => decide (0 ≤ x)).map V.bl ∧ ∃ v, σ = [v]) ⟨Same.new _ nl, upd_same, rfl, _, rfl⟩ (fun i bs σ H2 _ z => Same.sqX z.1 ha) ?_ ?_
      · rintro i x bs σ H2 N hN hx ⟨s2, e2, rfl, v, rfl⟩
        rw [List.getElem?_map] at hx
        obtain ⟨y, gy, rfl⟩ := Option.map_eq_some_iff.mp hx
        walk_at "rd"
        refine ⟨e2, small (by rw [List.length_map, List.length_map, List.length_take]; omega), hN _ _ _ ⟨s2.put nl _, upd_same, ?_, _, rfl⟩⟩
        rw [List.take_succ, gy, List.map_append, List.map_append]
        rfl
      · rintro bs σ H2 ⟨s2, e2, rfl, v, rfl⟩
        refine ⟨l, rfl, _, SqL.of e2, ?_⟩
        have e : (((xs.take (xs.map V.int).length).map fun x => decide (0 ≤ x)).all id) = filled m xs := by
          rw [List.length_map, List.take_length, List.all_map]
          unfold filled
          rw [decide_eq_true hm, Bool.true_and]
          rfl
        rw [e]
        exact k _ s2
    · rw [if_neg (fun z => hm (by injection z))]
      have e : filled m xs = false := by
        unfold filled
        rw [decide_eq_false hm, Bool.false_and]
      rw [e] at k
      exact k H (Same.refl _)
/-! #### laying_of -/
def sp_laying_of (T : Txt K mg) : Sp := fun vs H Q E => ∃ (p a t : Addr) (c : Bool) (m : Int) (ps : List Addr) (rs : List Road) (xs : List Int), vs = [.ref p, .ref a] ∧ WebAt T.Web H p m t ps rs ∧ SqX K c H a (xs.map V.int) ∧ xs.length ≤ 1000 ∧
  (filled m xs = true → ∀ l H', Same H H' → (H' l = some (.tup (xs.map V.int)) ∨ (c = false ∧ l = a)) → SqT K H' l (xs.map V.int) → Q (.ref l) H') ∧ (filled m xs = false → ∀ H', Same H H' → E (.ref T.BadLaying) none H')
abbrev s_laying_of : Stmt := top 25
theorem sc_laying_of : FnScope ["web", "numbers"] ["web", "numbers"] (defScope s_laying_of) := FnScope.of (by kernel_rfl)
theorem n_laying_of__web : NmL (defScope s_laying_of) "web" := .of (by kernel_rfl)
theorem n_laying_of__numbers : NmL (defScope s_laying_of) "numbers" := .of (by kernel_rfl)
theorem n_laying_of__is_filled : NmG (defScope s_laying_of) "is_filled" := .of (by kernel_rfl)
theorem n_laying_of__BadLaying : NmG (defScope s_laying_of) "BadLaying" := .of (by kernel_rfl)
theorem n_laying_of__tuple : NmG (defScope s_laying_of) "tuple" := .of (by kernel_rfl)

theorem ok_laying_of (T : Txt K mg) (hq : Quiet (CXe P w)) {f : Addr} {fd : FuncData} (D : Df K mg "laying_of" s_laying_of ["web", "numbers"] f fd) {f_is_filled : Addr} {fd_is_filled : FuncData} (D_is_filled : Df K mg "is_filled" s_is_filled ["web", "numbers"] f_is_filled fd_is_filled) (G_is_filled : FnOk P w K mg base (CXe P w) 1 f_is_filled fd_is_filled ["web", "numbers"] (sp_is_filled T)) : FnOk P w K mg base (CXe P w) 2 f fd ["web", "numbers"] (sp_laying_of T) := by
  refine D.F.okX sc_laying_of (fun vs H Q E h => ?_) (fun cdv A outer s H vs Q E hr h => ?_)
  · obtain ⟨p, a, t, c, m, ps, rs, xs, rfl, _⟩ := h
    rfl
  · obtain ⟨p, a, t, c, m, ps, rs, xs, rfl, W, ha, hz, k, e⟩ := h
    refine ⟨_, (pss_cons (ps_if (pt_not (pt_val (pe_call G_is_filled (hr.mono (by decide)) n_laying_of__is_filled.g D_is_filled.m D_is_filled.F.kp D_is_filled.b .nil passX (pa_cons (pvl 0 n_laying_of__web) (pa_cons (pvl 1 n_laying_of__numbers) pa_nil)) (hdb := n_laying_of__is_filled.d)))) (pss_one (ps_raise T.e_BadLaying rfl raisesX n_laying_of__BadLaying.g T.m_BadLaying (pa_cons pe_str pa_nil) (hdb := n_laying_of__BadLaying.d))) pss_nil) (pss_one (ps_ret (pe_callTy call_tuple_of n_laying_of__tuple.g T.tuple pb_tuple (pa_cons (pvl 1 n_laying_of__numbers) pa_nil) (hn := n_laying_of__tuple.n) (hdb := n_laying_of__tuple.d))))), ?_⟩
    rw [show L2.start ["web", "numbers"] [V.ref p, V.ref a] = [some (V.ref p), some (V.ref a)] from rfl]
    walk_at "rd"
    refine ⟨p, a, t, c, m, ps, rs, xs, rfl, W, ha, hz, fun H1 s1 => ⟨_, rfl, ?_⟩⟩
    by_cases z : filled m xs = false
    · rw [if_pos z]
      exact ⟨by decide, e z H1 s1⟩
    · rw [if_neg z]
      have z' : filled m xs = true := by simpa using z
      cases c
      · exact ⟨_, .inr ⟨Same.sqX (c := false) s1 ha, k z' a H1 s1 (.inr ⟨rfl, rfl⟩) (Same.sqX (c := false) s1 ha)⟩⟩
      · exact ⟨_, .inl ⟨Same.sqX (c := true) s1 ha, fun l nl => k z' l _ (s1.trans (Same.new _ nl)) (.inl upd_same) (SqT.of upd_same)⟩⟩
/-! #### layings -/
def sp_layings (T : Txt K mg) : Sp := fun vs H Q E => ∃ (p a b t : Addr) (c d : Bool) (m : Int) (ps qs : List Addr) (rs : List Road) (xs : List Int) (ss : List Stp), vs = [.ref p, .ref a, .ref b] ∧ WebAt T.Web H p m t ps rs ∧ AtX c H a (xs.map V.int) ∧ xs.length ≤ 1000 ∧ AtX d H b (qs.map V.ref) ∧ StepsAt H qs ss ∧ ss.length ≤ 1000 ∧
  (filled m xs = true → CanAll m rs xs ss → ∀ l ts H', H l = none → Same H H' → H' l = some (.lst (ts.map V.ref)) → TupsAt H' ts (rowsL rs xs ss) → Q (.ref l) H') ∧
  (filled m xs = true → ∀ i dx H', FirstBad m rs xs ss i → Same H H' → H' dx = some (.xd [("at", .int (i : Int))]) → E (.ref T.BadStep) (some dx) H') ∧ (filled m xs = false → ∀ H', Same H H' → E (.ref T.BadLaying) none H')
abbrev s_layings : Stmt := top 29
theorem sc_layings : FnScope ["web", "laying", "steps", "passed", "at", "step"] ["web", "laying", "steps"] (defScope s_layings) := FnScope.of (by kernel_rfl)
theorem n_layings__web : NmL (defScope s_layings) "web" := .of (by kernel_rfl)
theorem n_layings__laying : NmL (defScope s_layings) "laying" := .of (by kernel_rfl)
theorem n_layings__steps : NmL (defScope s_layings) "steps" := .of (by kernel_rfl)
theorem n_layings__passed : NmL (defScope s_layings) "passed" := .of (by kernel_rfl)
theorem n_layings__at : NmL (defScope s_layings) "at" := .of (by kernel_rfl)
theorem n_layings__step : NmL (defScope s_layings) "step" := .of (by kernel_rfl)
theorem n_layings__laying_of : NmG (defScope s_layings) "laying_of" := .of (by kernel_rfl)
theorem n_layings__enumerate : NmG (defScope s_layings) "enumerate" := .of (by kernel_rfl)
theorem n_layings__can_be_done : NmG (defScope s_layings) "can_be_done" := .of (by kernel_rfl)
theorem n_layings__BadStep : NmG (defScope s_layings) "BadStep" := .of (by kernel_rfl)
theorem n_layings__behind : NmG (defScope s_layings) "behind" := .of (by kernel_rfl)

theorem ok_layings (T : Txt K mg) (hq : Quiet (CXe P w)) {f : Addr} {fd : FuncData} (D : Df K mg "layings" s_layings ["web", "laying", "steps"] f fd) {f_BadStep___init__ : Addr} {fd_BadStep___init__ : FuncData} (F_BadStep___init__ : Fun K "__init__" "BadStep.__init__" s_BadStep___init__ f_BadStep___init__ fd_BadStep___init__) (b_BadStep : Binds K fd_BadStep___init__ ["self", "at"] []) (M_BadStep : XObjI K T.BadStep f_BadStep___init__) (G_BadStep_init : FnOk P w K mg base (CXe P w) 1 f_BadStep___init__ fd_BadStep___init__ ["self", "at"] (sp_BadStep___init__ T)) {f_behind : Addr} {fd_behind : FuncData} (D_behind : Df K mg "behind" s_behind ["web", "laying", "step"] f_behind fd_behind) (G_behind : FnOk P w K mg base (CXe P w) 5 f_behind fd_behind ["web", "laying", "step"] (sp_behind T)) {f_can_be_done : Addr} {fd_can_be_done : FuncData} (D_can_be_done : Df K mg "can_be_done" s_can_be_done ["web", "laying", "step"] f_can_be_done fd_can_be_done) (G_can_be_done : FnOk P w K mg base (CXe P w) 5 f_can_be_done fd_can_be_done ["web", "laying", "step"] (sp_can_be_done T)) {f_laying_of : Addr} {fd_laying_of : FuncData} (D_laying_of : Df K mg "laying_of" s_laying_of ["web", "numbers"] f_laying_of fd_laying_of) (G_laying_of : FnOk P w K mg base (CXe P w) 2 f_laying_of fd_laying_of ["web", "numbers"] (sp_laying_of T)) : FnOk P w K mg base (CXe P w) 6 f fd ["web", "laying", "steps"] (sp_layings T) := by
  refine D.F.okX sc_layings (fun vs H Q E h => ?_) (fun cdv A outer s H vs Q E hr h => ?_)
  · obtain ⟨p, a, b, t, c, d, m, ps, qs, rs, xs, ss, rfl, _⟩ := h
    rfl
  · obtain ⟨p, a, b, t, c, d, m, ps, qs, rs, xs, ss, rfl, W, ha, x1, hb, hs, sl, k, kb, kl⟩ := h
    have g := W.go
    have m24 := g.m24
    refine ⟨_, (pss_cons (ps_set (i := 3) sc_layings.nd rfl (Or.inl n_layings__passed.l) (pe_lst (pa_cons (pe_call G_laying_of (hr.mono (by decide)) n_layings__laying_of.g D_laying_of.m D_laying_of.F.kp D_laying_of.b .nil passX (pa_cons (pvl 0 n_layings__web) (pa_cons (pvl 1 n_layings__laying) pa_nil)) (hdb := n_layings__laying_of.d)) pa_nil))) (pss_cons (ps_for PassesOwn.leaving rfl (pi_enum d n_layings__enumerate.g T.enumerate (pvl 2 n_layings__steps)) (pg_tup (n := 2) rfl (pgs_cons (pg_name (i := 4) sc_layings.nd rfl (Or.inl n_layings__at.l)) (pgs_cons (pg_name (i := 5) sc_layings.nd rfl (Or.inl n_layings__step.l)) pgs_nil))) (pss_cons (ps_if (pt_not (pt_val (pe_call G_can_be_done (hr.mono (by decide)) n_layings__can_be_done.g D_can_be_done.m D_can_be_done.F.kp D_can_be_done.b .nil passX (pa_cons (pvl 0 n_layings__web) (pa_cons (pe_ix ix_list (pvl 3 n_layings__passed) (pe_un un_neg pe_int) (fun _ _ => rfl)) (pa_cons (pvl 5 n_layings__step) pa_nil))) (hdb := n_layings__can_be_done.d)))) (pss_one (ps_raiseI M_BadStep G_BadStep_init hq (hr.mono (by decide)) b_BadStep rfl rfl raisesL n_layings__BadStep.g T.m_BadStep (pa_cons (pvl 4 n_layings__at) pa_nil) (hdb := n_layings__BadStep.d))) pss_nil) (pss_one (ps_expr (pe_bm PySem.F.plainAttrs_list PySem.F.slot_list_append PySem.F.type_list_append mt_append (pvl 3 n_layings__passed) (pa_cons (pe_call G_behind (hr.mono (by decide)) n_layings__behind.g D_behind.m D_behind.F.kp D_behind.b .nil passX (pa_cons (pvl 0 n_layings__web) (pa_cons (pe_ix ix_list (pvl 3 n_layings__passed) (pe_un un_neg pe_int) (fun _ _ => rfl)) (pa_cons (pvl 5 n_layings__step) pa_nil))) (hdb := n_layings__behind.d)) pa_nil)))))) (pss_one (ps_ret (pvl 3 n_layings__passed))))), ?_⟩
    rw [show L2.start ["web", "laying", "steps", "passed", "at", "step"] [V.ref p, V.ref a, V.ref b] = [some (V.ref p), some (V.ref a), some (V.ref b), none, none, none] from rfl]
    walk_at "rd"
    refine ex8 p a t c m ps rs xs ?_
    refine an6 rfl W ha.sq x1 (fun fi t0 H1 s1 e1 _ => ?_) kl
    have xl : (xs.length : Int) = m := by
      unfold filled at fi
      rw [Bool.and_eq_true] at fi
      exact of_decide_eq_true fi.1
    have e1' : H1 t0 = some (.tup (xs.map V.int)) := by
      rcases e1 with e | ⟨hc, rfl⟩
      · exact e
      · subst hc
        exact s1 _ _ ha
    refine ⟨smallE (by simp), fun l nl => ?_⟩
    have s2 := Same.new (.lst [V.ref t0]) nl
    have nl0 := s1.free nl
    have s12 := s1.trans s2
    have e2 := s2 _ _ e1'
    have el : upd H1 l (.lst [V.ref t0]) l = some (.lst [V.ref t0]) := upd_same
    generalize upd H1 l (.lst [V.ref t0]) = H2 at s2 s12 e2 el ⊢
    have ql : qs.length = ss.length := Paired.length hs
    have hbX : ∀ {H3 : Hp}, Same H H3 → SqX K d H3 b (qs.map V.ref) := fun {H3} s3 => AtX.sq (K := K) (show AtX d H3 b (qs.map V.ref) from s3 _ _ hb)
    refine ⟨⟨_, hbX s12⟩, ?_⟩
    refine for_enum (K := K) (c := d) (xs := qs.map V.ref) (fun i σ H3 => Same H H3 ∧ i ≤ ss.length ∧ (∀ j s, j < i → ss[j]? = some s → canDo m rs (stAt rs xs ss j) s = true) ∧ ∃ (ts : List Addr) (v4 v5 : Option V), H3 l = some (.lst (ts.map V.ref)) ∧ TupsAt H3 ts ((rowsL rs xs ss).take (i + 1)) ∧ σ = [some (V.ref p), some (V.ref a), some (V.ref b), some (V.ref l), v4, v5]) ⟨s12, Nat.zero_le _, fun j s h => absurd h (Nat.not_lt_zero _), [t0], _, _, el, ?_, rfl⟩ (fun i σ H3 z => hbX z.1) ?_ ?_
    · have h0 := rowsL_get (rs := rs) (xs := xs) (ss := ss) (i := 0) (Nat.zero_le _)
      rw [stAt_zero] at h0
      rw [List.take_succ, h0, List.take_zero]
      exact .cons e2 .nil
    · rintro i x σ H3 q N hN hx ⟨s3, il, bf, ts, v4, v5, e3, ta, rfl⟩ nq
      obtain ⟨qx, s, rfl, h1, h2, h3⟩ := (StepsAt.same s3 hs).get hx
      have il2 : i < ss.length := (List.getElem?_eq_some_iff.mp h2).1
      have s4 := Same.new (.tup [V.int (i : Int), V.ref qx]) nq
      have tl : ts.length = ((rowsL rs xs ss).take (i + 1)).length := Paired.length ta
      rw [List.length_take, rowsL_len] at tl
      have stl := stAt_len rs xs ss i
      obtain ⟨tq, htq⟩ : ∃ tq, ts[i]? = some tq := ⟨_, List.getElem?_eq_getElem (by omega)⟩
      obtain ⟨row, hr1, hr2⟩ := pr_get ta htq
      rw [List.getElem?_take_of_lt (by omega), rowsL_get il] at hr1
      cases hr1
      have elast : ∃ t', ts = t' ++ [tq] := by
        refine ⟨ts.take i, ?_⟩
        have := List.take_succ (l := ts) (i := i)
        rw [htq, List.take_of_length_le (by omega)] at this
        exact this
      obtain ⟨t', et'⟩ := elast
      have e3' : H3 l = some (.lst (t'.map V.ref ++ [V.ref tq])) := by rw [e3, et', List.map_append]; rfl
      walk_at "rd"
      refine ⟨_, SqT.of upd_same, rfl, _, _, rfl, _, _, rfl, rfl, ?_⟩
      refine ixL (s4 _ _ e3') (atI_last _ _) ?_
      refine ⟨p, tq, qx, t, m, ps, rs, stAt rs xs ss i, s, rfl, W.same (s3.trans s4), SqT.of (s4 _ _ hr2), by omega, s4 _ _ h3, fun H5 s5 => ⟨_, rfl, ?_⟩⟩
      have s35 := s4.trans s5
      cases cd : canDo m rs (stAt rs xs ss i) s
      · rw [if_pos rfl]
        refine ⟨V.int (i : Int), rfl, smallE (by simp), fun ea ne => ⟨ea, f_BadStep___init__, _, rfl, upd_same, M_BadStep, fun dx nd nde => ⟨rfl, some dx, ?_, ?_⟩⟩⟩
        · rw [upd_ne (Ne.symm nde), upd_same]
        · exact kb fi i dx _ ⟨bf, s, h2, cd⟩ ((s3.trans s35).trans (sameDel ne nd nde)) (by rw [del_ne nde, upd_same])
      rw [if_neg (by decide)]
      have is : isStp m rs s = true := by
        unfold canDo at cd
        rw [Bool.and_eq_true] at cd
        exact cd.1
      refine ⟨tyL (s35 _ _ e3'), ixL (s35 _ _ e3') (atI_last _ _) ?_⟩
      refine ⟨p, tq, qx, t, m, ps, rs, stAt rs xs ss i, s, rfl, W.same (s3.trans s35), SqT.of (s35 _ _ hr2), by omega, s35 _ _ h3, is, fun tn H6 nn s6 en => ?_⟩
      have s36 := s35.trans s6
      have ntl : tn ≠ l := fun z => by rw [z, s35 _ _ e3'] at nn; cases nn
      refine appR (s36 _ _ e3) (small (by rw [List.length_map]; omega)) (hN _ _ ⟨(s3.trans s36).put nl0 _, il2, fun j s' hj hs' => ?_, ts ++ [tn], _, _, by rw [upd_same, List.map_append]; rfl, ?_, rfl⟩)
      · by_cases z : j = i
        · subst z
          rw [h2] at hs'
          cases hs'
          exact cd
        · exact bf j s' (by omega) hs'
      rw [List.take_succ, rowsL_get (by omega), stAt_succ h2]
      exact pr_snoc (by rw [upd_ne ntl]; exact en) (Paired.imp' (fun a b h => by rw [upd_ne (ne_of (s36 _ _ h) (s36 _ _ e3) (by intro z; cases z))]; exact s36 _ _ h) ta)
    · rintro σ H3 ⟨s3, il, bf, ts, v4, v5, e3, ta, rfl⟩
      rw [List.length_map, ql, List.take_of_length_le (by rw [rowsL_len]; exact Nat.le_refl _)] at ta
      walk_at "rd"
      refine k fi (fun j s hs => bf j s ?_ hs) l ts H3 nl0 s3 e3 ta
      rw [List.length_map, ql]
      exact (List.getElem?_eq_some_iff.mp hs).1
/-! #### walked -/
def sp_walked (T : Txt K mg) : Sp := fun vs H Q E => ∃ (p a b t : Addr) (c d : Bool) (m : Int) (ps qs : List Addr) (rs : List Road) (xs : List Int) (ss : List Stp), vs = [.ref p, .ref a, .ref b] ∧ WebAt T.Web H p m t ps rs ∧ AtX c H a (xs.map V.int) ∧ xs.length ≤ 1000 ∧ AtX d H b (qs.map V.ref) ∧ StepsAt H qs ss ∧ ss.length ≤ 1000 ∧
  (filled m xs = true → CanAll m rs xs ss → ∀ l H', Same H H' → H' l = some (.tup ((stAt rs xs ss ss.length).map V.int)) → Q (.ref l) H') ∧
  (filled m xs = true → ∀ i dx H', FirstBad m rs xs ss i → Same H H' → H' dx = some (.xd [("at", .int (i : Int))]) → E (.ref T.BadStep) (some dx) H') ∧ (filled m xs = false → ∀ H', Same H H' → E (.ref T.BadLaying) none H')
abbrev s_walked : Stmt := top 28
theorem sc_walked : FnScope ["web", "laying", "steps"] ["web", "laying", "steps"] (defScope s_walked) := FnScope.of (by kernel_rfl)
theorem n_walked__web : NmL (defScope s_walked) "web" := .of (by kernel_rfl)
theorem n_walked__laying : NmL (defScope s_walked) "laying" := .of (by kernel_rfl)
theorem n_walked__steps : NmL (defScope s_walked) "steps" := .of (by kernel_rfl)
theorem n_walked__layings : NmG (defScope s_walked) "layings" := .of (by kernel_rfl)

theorem ok_walked (T : Txt K mg) (hq : Quiet (CXe P w)) {f : Addr} {fd : FuncData} (D : Df K mg "walked" s_walked ["web", "laying", "steps"] f fd) {f_layings : Addr} {fd_layings : FuncData} (D_layings : Df K mg "layings" s_layings ["web", "laying", "steps"] f_layings fd_layings) (G_layings : FnOk P w K mg base (CXe P w) 6 f_layings fd_layings ["web", "laying", "steps"] (sp_layings T)) : FnOk P w K mg base (CXe P w) 7 f fd ["web", "laying", "steps"] (sp_walked T) := by
  refine D.F.okX sc_walked (fun vs H Q E h => ?_) (fun cdv A outer s H vs Q E hr h => ?_)
  · obtain ⟨p, a, b, t, c, d, m, ps, qs, rs, xs, ss, rfl, _⟩ := h
    rfl
  · obtain ⟨p, a, b, t, c, d, m, ps, qs, rs, xs, ss, rfl, W, ha, x1, hb, hs, sl, k, kb, kl⟩ := h
    refine ⟨_, (pss_one (ps_ret (pe_ix ix_list (pe_call G_layings (hr.mono (by decide)) n_walked__layings.g D_layings.m D_layings.F.kp D_layings.b .nil passX (pa_cons (pvl 0 n_walked__web) (pa_cons (pvl 1 n_walked__laying) (pa_cons (pvl 2 n_walked__steps) pa_nil))) (hdb := n_walked__layings.d)) (pe_un un_neg pe_int) (fun _ _ => rfl)))), ?_⟩
    rw [show L2.start ["web", "laying", "steps"] [V.ref p, V.ref a, V.ref b] = [some (V.ref p), some (V.ref a), some (V.ref b)] from rfl]
    walk_at "rd"
    refine ex12 p a b t c d m ps qs rs xs ss ?_
    refine ⟨rfl, W, ha, x1, hb, hs, sl, fun fi ca l ts H1 nl s1 el ta => ?_, kb, kl⟩
    have tl : ts.length = (rowsL rs xs ss).length := Paired.length ta
    rw [rowsL_len] at tl
    obtain ⟨tq, htq⟩ : ∃ tq, ts[ss.length]? = some tq := ⟨_, List.getElem?_eq_getElem (by omega)⟩
    obtain ⟨row, hr1, hr2⟩ := pr_get ta htq
    rw [rowsL_get (Nat.le_refl _)] at hr1
    cases hr1
    have elast : ts = ts.take ss.length ++ [tq] := by
      have := List.take_succ (l := ts) (i := ss.length)
      rw [htq, List.take_of_length_le (by omega)] at this
      exact this
    rw [elast, List.map_append] at el
    exact ixL el (atI_last _ _) (k fi ca tq H1 s1 hr2)
/-! #### _law_told -/
def sp_law_told (T : Txt K mg) : Sp := fun vs H Q _ => ∃ (p a b t : Addr) (c d : Bool) (m wh : Int) (ps qs : List Addr) (rs : List Road) (xs : List Int) (ss : List Stp), vs = [.int wh, .ref p, .ref a, .ref b] ∧ WebAt T.Web H p m t ps rs ∧ AtX c H a (xs.map V.int) ∧ xs.length ≤ 1000 ∧ AtX d H b (qs.map V.ref) ∧ StepsAt H qs ss ∧ ss.length ≤ 1000 ∧
  ∀ q wd n H', Same H H' → H' q = some (.tup [.str wd, .int n]) → StTold m rs xs ss (filled m xs) wd n → Q (.ref q) H'
abbrev s_law_told : Stmt := top 44
theorem sc_law_told : FnScope ["which", "web", "laying", "steps", "told", "e"] ["which", "web", "laying", "steps"] (defScope s_law_told) := FnScope.of (by kernel_rfl)
theorem n_law_told__which : NmL (defScope s_law_told) "which" := .of (by kernel_rfl)
theorem n_law_told__web : NmL (defScope s_law_told) "web" := .of (by kernel_rfl)
theorem n_law_told__laying : NmL (defScope s_law_told) "laying" := .of (by kernel_rfl)
theorem n_law_told__steps : NmL (defScope s_law_told) "steps" := .of (by kernel_rfl)
theorem n_law_told__told : NmL (defScope s_law_told) "told" := .of (by kernel_rfl)
theorem n_law_told__e : NmL (defScope s_law_told) "e" := .of (by kernel_rfl)
theorem n_law_told__walked : NmG (defScope s_law_told) "walked" := .of (by kernel_rfl)
theorem n_law_told__layings : NmG (defScope s_law_told) "layings" := .of (by kernel_rfl)
theorem n_law_told__TollError : NmG (defScope s_law_told) "TollError" := .of (by kernel_rfl)
theorem n_law_told__law_kind : NmG (defScope s_law_told) "_law_kind" := .of (by kernel_rfl)
theorem n_law_told__isinstance : NmG (defScope s_law_told) "isinstance" := .of (by kernel_rfl)
theorem n_law_told__BadStep : NmG (defScope s_law_told) "BadStep" := .of (by kernel_rfl)

theorem ok_law_told (T : Txt K mg) (hq : Quiet (CXe P w)) {f : Addr} {fd : FuncData} (D : Df K mg "_law_told" s_law_told ["which", "web", "laying", "steps"] f fd) {f_law_kind : Addr} {fd_law_kind : FuncData} (D_law_kind : Df K mg "_law_kind" s_law_kind ["e"] f_law_kind fd_law_kind) (G_law_kind : FnOkH P w K mg base 1 f_law_kind fd_law_kind ["e"] (sp_law_kind T)) {f_layings : Addr} {fd_layings : FuncData} (D_layings : Df K mg "layings" s_layings ["web", "laying", "steps"] f_layings fd_layings) (G_layings : FnOk P w K mg base (CXe P w) 6 f_layings fd_layings ["web", "laying", "steps"] (sp_layings T)) {f_walked : Addr} {fd_walked : FuncData} (D_walked : Df K mg "walked" s_walked ["web", "laying", "steps"] f_walked fd_walked) (G_walked : FnOk P w K mg base (CXe P w) 7 f_walked fd_walked ["web", "laying", "steps"] (sp_walked T)) : FnOk P w K mg base (CXe P w) 8 f fd ["which", "web", "laying", "steps"] (sp_law_told T) := by
  refine D.F.okC sc_law_told (fun vs H Q E h => ?_) (fun cdv A outer s H vs Q E hr h => ?_)
  · obtain ⟨p, a, b, t, c, d, m, wh, ps, qs, rs, xs, ss, rfl, _⟩ := h
    rfl
  · obtain ⟨p, a, b, t, c, d, m, wh, ps, qs, rs, xs, ss, rfl, W, ha, x1, hb, hs, sl, k⟩ := h
    have t_BadStep : T.BadStep ≠ T.TollError := (nth_ne T.ndx 8 0 rfl rfl (by decide))
    refine ⟨_, (pss_cons (ps_set (i := 4) sc_law_told.nd rfl (Or.inl n_law_told__told.l) (pe_tup (pa_cons pe_str (pa_cons pe_int pa_nil)))) (pss_cons (ps_try rfl rfl rfl (pssx_one (psx_if (pt_cmpR op_eq (pvl 0 n_law_told__which) pe_int (nomark _)) (pssx_one (psx_expr (pex_call G_walked (hr.mono (by decide)) n_law_told__walked.g D_walked.m D_walked.F.kp D_walked.b .nil (pa_cons (pvl 1 n_law_told__web) (pa_cons (pvl 2 n_law_told__laying) (pa_cons (pvl 3 n_law_told__steps) pa_nil))) (hdb := n_law_told__walked.d)))) (pssx_one (psx_expr (pex_call G_layings (hr.mono (by decide)) n_law_told__layings.g D_layings.m D_layings.F.kp D_layings.b .nil (pa_cons (pvl 1 n_law_told__web) (pa_cons (pvl 2 n_law_told__laying) (pa_cons (pvl 3 n_law_told__steps) pa_nil))) (hdb := n_law_told__layings.d)))))) (ph_as (i := 5) T.x_TollError.x n_law_told__TollError.g T.m_TollError sc_law_told.nd rfl n_law_told__e.l (fun _ => (pss_cons (ps_set (i := 4) sc_law_told.nd rfl (Or.inl n_law_told__told.l) (pe_tup (pa_cons (pe_callH G_law_kind (RoomH.mark (Room.h (hr.mono (by decide))) _) n_law_told__law_kind.g D_law_kind.m D_law_kind.F.kp D_law_kind.b (pa_cons (pvl 5 n_law_told__e) pa_nil) (hdb := n_law_told__law_kind.d)) (pa_cons pe_int pa_nil)))) (pss_one (ps_if (pt_val (pe_callB (call_isXK K rfl) n_law_told__isinstance.g T.isinstance pb_isinstance (pa_cons (pvl 5 n_law_told__e) (pa_cons (pe_glob (v := .ref T.BadStep) n_law_told__BadStep.g T.m_BadStep rfl) pa_nil)) (hn := n_law_told__isinstance.n) (hdb := n_law_told__isinstance.d))) (pss_one (ps_set (i := 4) sc_law_told.nd rfl (Or.inl n_law_told__told.l) (pe_tup (pa_cons (pe_callH G_law_kind (RoomH.mark (Room.h (hr.mono (by decide))) _) n_law_told__law_kind.g D_law_kind.m D_law_kind.F.kp D_law_kind.b (pa_cons (pvl 5 n_law_told__e) pa_nil) (hdb := n_law_told__law_kind.d)) (pa_cons (pe_fldX K rfl (pvl 5 n_law_told__e) rfl) pa_nil))))) pss_nil)))) ph_nil (hdb := n_law_told__TollError.d))) (pss_one (ps_ret (pvl 4 n_law_told__told))))), ?_⟩
    rw [show L2.start ["which", "web", "laying", "steps", "told", "e"] [V.int wh, V.ref p, V.ref a, V.ref b] = [some (V.int wh), some (V.ref p), some (V.ref a), some (V.ref b), none, none] from rfl]
    walk_at "rd"
    refine ⟨smallE (by simp), fun q0 n0 => ?_⟩
    have s0 := Same.new (.tup [V.str (Str.ofString "fine"), V.int 0]) n0
    have e0 : upd H q0 (.tup [V.str (Str.ofString "fine"), V.int 0]) q0 = some (.tup [V.str "fine", V.int 0]) := upd_same
    generalize upd H q0 (.tup [V.str (Str.ofString "fine"), V.int 0]) = H0 at s0 e0 ⊢
    have fine : filled m xs = true → CanAll m rs xs ss → ∀ H', Same H0 H' → Q (.ref q0) H' := fun f c H' s' => k q0 _ _ H' (s0.trans s') (s' _ _ e0) (.inr (.inl ⟨f, c, rfl, rfl⟩))
    by_cases w0 : wh = 0
    · rw [if_pos w0]
      refine ⟨p, a, b, t, c, d, m, ps, qs, rs, xs, ss, rfl, W.same s0, s0 _ _ ha, x1, s0 _ _ hb, StepsAt.same s0 hs, sl, fun f ca _ H' s' _ => fine f ca H' s', fun f i dx H' fb s' hd => ?_, fun f H' s' => ?_⟩
      · have xe := T.x_BadStep
        refine ⟨T.BadStep, rfl, true, by rw [xe.mr]; simp, ?_⟩
        rw [if_pos rfl]
        intro ea ne
        have s1 := Same.new (ExO ea (.ref T.BadStep) (some dx)) ne
        have he : upd H' ea (ExO ea (.ref T.BadStep) (some dx)) ea = some (ExO ea (.ref T.BadStep) (some dx)) := upd_same
        have hd1 := s1 _ _ hd
        have s01 := s'.trans s1
        generalize upd H' ea (ExO ea (.ref T.BadStep) (some dx)) = H1 at he hd1 s01 ⊢
        refine ⟨ea, T.BadStep, some dx, "step", rfl, he, ⟨_, hd1⟩, xe, .inr ⟨rfl, rfl⟩, fun H2 s2 => ⟨smallE (by simp), fun q1 n1 => ?_⟩⟩
        have s3 := s2.trans (Same.new (.tup [V.str "step", V.int 0]) n1)
        generalize upd H2 q1 (.tup [V.str "step", V.int 0]) = H3 at s3 ⊢
        refine isX_own (s3 _ _ he) ⟨_, s3 _ _ hd1⟩ xe xe t_BadStep ⟨_, rfl, ?_⟩
        rw [if_pos (decide_eq_true rfl)]
        refine ⟨ea, T.BadStep, some dx, "step", rfl, s3 _ _ he, ⟨_, s3 _ _ hd1⟩, xe, .inr ⟨rfl, rfl⟩, fun H4 s4 => ?_⟩
        have s34 := s3.trans s4
        refine ⟨ea, T.BadStep, dx, _, .int (i : Int), rfl, s34 _ _ he, xe.x, T.a_BadStep, s34 _ _ hd1, rfl, smallE (by simp), fun q2 n2 => ?_⟩
        exact k q2 _ _ _ (s0.trans (s01.trans (s34.trans (Same.new _ n2)))) upd_same (.inr (.inr ⟨f, i, fb, rfl, rfl⟩))
      · have xe := T.x_BadLaying
        refine ⟨T.BadLaying, rfl, true, by rw [xe.mr]; simp, ?_⟩
        rw [if_pos rfl]
        intro ea ne
        have s1 := Same.new (ExO ea (.ref T.BadLaying) none) ne
        have he : upd H' ea (ExO ea (.ref T.BadLaying) none) ea = some (ExO ea (.ref T.BadLaying) none) := upd_same
        have s01 := s'.trans s1
        generalize upd H' ea (ExO ea (.ref T.BadLaying) none) = H1 at he s01 ⊢
        refine ⟨ea, T.BadLaying, none, "laying", rfl, he, trivial, xe, .inl ⟨rfl, rfl⟩, fun H2 s2 => ⟨smallE (by simp), fun q1 n1 => ?_⟩⟩
        have s3 := s2.trans (Same.new (.tup [V.str "laying", V.int 0]) n1)
        have e3 : upd H2 q1 (.tup [V.str "laying", V.int 0]) q1 = some (.tup [V.str "laying", V.int 0]) := upd_same
        generalize upd H2 q1 (.tup [V.str "laying", V.int 0]) = H3 at s3 e3 ⊢
        refine isX_own (s3 _ _ he) trivial xe T.x_BadStep t_BadStep ⟨_, rfl, ?_⟩
        rw [if_neg (by rw [decide_eq_true_eq]; exact (nth_ne T.ndx 8 4 rfl rfl (by decide)))]
        exact k q1 _ _ _ (s0.trans (s01.trans s3)) e3 (.inl ⟨f, rfl, rfl⟩)
    · rw [if_neg w0]
      refine ⟨p, a, b, t, c, d, m, ps, qs, rs, xs, ss, rfl, W.same s0, s0 _ _ ha, x1, s0 _ _ hb, StepsAt.same s0 hs, sl, fun f ca _ _ H' _ s' _ _ => fine f ca H' s', fun f i dx H' fb s' hd => ?_, fun f H' s' => ?_⟩
      · have xe := T.x_BadStep
        refine ⟨T.BadStep, rfl, true, by rw [xe.mr]; simp, ?_⟩
        rw [if_pos rfl]
        intro ea ne
        have s1 := Same.new (ExO ea (.ref T.BadStep) (some dx)) ne
        have he : upd H' ea (ExO ea (.ref T.BadStep) (some dx)) ea = some (ExO ea (.ref T.BadStep) (some dx)) := upd_same
        have hd1 := s1 _ _ hd
        have s01 := s'.trans s1
        generalize upd H' ea (ExO ea (.ref T.BadStep) (some dx)) = H1 at he hd1 s01 ⊢
        refine ⟨ea, T.BadStep, some dx, "step", rfl, he, ⟨_, hd1⟩, xe, .inr ⟨rfl, rfl⟩, fun H2 s2 => ⟨smallE (by simp), fun q1 n1 => ?_⟩⟩
        have s3 := s2.trans (Same.new (.tup [V.str "step", V.int 0]) n1)
        generalize upd H2 q1 (.tup [V.str "step", V.int 0]) = H3 at s3 ⊢
        refine isX_own (s3 _ _ he) ⟨_, s3 _ _ hd1⟩ xe xe t_BadStep ⟨_, rfl, ?_⟩
        rw [if_pos (decide_eq_true rfl)]
        refine ⟨ea, T.BadStep, some dx, "step", rfl, s3 _ _ he, ⟨_, s3 _ _ hd1⟩, xe, .inr ⟨rfl, rfl⟩, fun H4 s4 => ?_⟩
        have s34 := s3.trans s4
        refine ⟨ea, T.BadStep, dx, _, .int (i : Int), rfl, s34 _ _ he, xe.x, T.a_BadStep, s34 _ _ hd1, rfl, smallE (by simp), fun q2 n2 => ?_⟩
        exact k q2 _ _ _ (s0.trans (s01.trans (s34.trans (Same.new _ n2)))) upd_same (.inr (.inr ⟨f, i, fb, rfl, rfl⟩))
      · have xe := T.x_BadLaying
        refine ⟨T.BadLaying, rfl, true, by rw [xe.mr]; simp, ?_⟩
        rw [if_pos rfl]
        intro ea ne
        have s1 := Same.new (ExO ea (.ref T.BadLaying) none) ne
        have he : upd H' ea (ExO ea (.ref T.BadLaying) none) ea = some (ExO ea (.ref T.BadLaying) none) := upd_same
        have s01 := s'.trans s1
        generalize upd H' ea (ExO ea (.ref T.BadLaying) none) = H1 at he s01 ⊢
        refine ⟨ea, T.BadLaying, none, "laying", rfl, he, trivial, xe, .inl ⟨rfl, rfl⟩, fun H2 s2 => ⟨smallE (by simp), fun q1 n1 => ?_⟩⟩
        have s3 := s2.trans (Same.new (.tup [V.str "laying", V.int 0]) n1)
        have e3 : upd H2 q1 (.tup [V.str "laying", V.int 0]) q1 = some (.tup [V.str "laying", V.int 0]) := upd_same
        generalize upd H2 q1 (.tup [V.str "laying", V.int 0]) = H3 at s3 e3 ⊢
        refine isX_own (s3 _ _ he) trivial xe T.x_BadStep t_BadStep ⟨_, rfl, ?_⟩
        rw [if_neg (by rw [decide_eq_true_eq]; exact (nth_ne T.ndx 8 4 rfl rfl (by decide)))]
        exact k q1 _ _ _ (s0.trans (s01.trans s3)) e3 (.inl ⟨f, rfl, rfl⟩)
/-! #### _law_whole -/
def sp_law_whole (T : Txt K mg) : Sp := fun vs H Q _ => ∃ i : Int, vs = [.int i] ∧ Q (.bl true) H
abbrev s_law_whole : Stmt := top 42
theorem sc_law_whole : FnScope ["found"] ["found"] (defScope s_law_whole) := FnScope.of (by kernel_rfl)
theorem n_law_whole__found : NmL (defScope s_law_whole) "found" := .of (by kernel_rfl)
theorem n_law_whole__isinstance : NmG (defScope s_law_whole) "isinstance" := .of (by kernel_rfl)
theorem n_law_whole__int : NmG (defScope s_law_whole) "int" := .of (by kernel_rfl)
theorem n_law_whole__bool : NmG (defScope s_law_whole) "bool" := .of (by kernel_rfl)

theorem ok_law_whole (T : Txt K mg) (hq : Quiet (CXe P w)) {f : Addr} {fd : FuncData} (D : Df K mg "_law_whole" s_law_whole ["found"] f fd) : FnOk P w K mg base (CXe P w) 1 f fd ["found"] (sp_law_whole T) := by
  refine D.F.okC sc_law_whole (fun vs H Q E h => ?_) (fun cdv A outer s H vs Q E hr h => ?_)
  · obtain ⟨i, rfl, _⟩ := h
    rfl
  · obtain ⟨i, rfl, k⟩ := h
    refine ⟨_, (pss_one (ps_ret (pe_and (pe_callB call_isinst n_law_whole__isinstance.g T.isinstance pb_isinstance (pa_cons (pvl 0 n_law_whole__found) (pa_cons (pe_bltn (v := .ty "int") n_law_whole__int.g T.int pb_int rfl (hn := n_law_whole__int.n) (hd := n_law_whole__int.d)) pa_nil)) (hn := n_law_whole__isinstance.n) (hdb := n_law_whole__isinstance.d)) (pe_one (pe_not (pe_callB call_isinst n_law_whole__isinstance.g T.isinstance pb_isinstance (pa_cons (pvl 0 n_law_whole__found) (pa_cons (pe_bltn (v := .ty "bool") n_law_whole__bool.g T.bool pb_bool rfl (hn := n_law_whole__bool.n) (hd := n_law_whole__bool.d)) pa_nil)) (hn := n_law_whole__isinstance.n) (hdb := n_law_whole__isinstance.d))))))), ?_⟩
    rw [show L2.start ["found"] [V.int i] = [some (V.int i)] from rfl]
    walk_at "rd"
    refine ⟨_, _, _, true, rfl, .int i, fun cv h => by cases h; rfl, _, rfl, ?_⟩
    rw [if_pos rfl]
    refine ⟨_, _, _, false, rfl, .int i, fun cv h => by cases h; rfl, _, rfl, ?_⟩
    exact k
/-! #### law -/
def spLaw (K : PySem.W.Frag) : Sp := fun vs H Q _ => ∃ (a : Addr) (ns : List Int), vs = [.ref a] ∧ SqL K H a (ns.map V.int) ∧ ns.length ≤ 63 ∧ ∀ H', Q (.bl true) H'
def sp_law (T : Txt K mg) : Sp := spLaw K
theorem nf15 {xs : List Int} {m : Int} (h : (xs.length : Int) = m) (z : Int) : filled m (xs ++ [z]) = false := by
  unfold filled
  rw [decide_eq_false (by rw [List.length_append, List.length_singleton]; omega)]
  rfl
theorem nb15 {xs : List Int} {m : Int} : filled m (-1 :: xs) = false := by
  unfold filled
  rw [Bool.and_eq_false_iff]
  refine .inr (List.all_eq_false.mpr ⟨-1, List.mem_cons_self, ?_⟩)
  decide
abbrev s_law : Stmt := top 48
theorem sc_law : FnScope ["script", "many", "roads", "web", "numbers", "last", "size", "odd", "steps", "first", "due", "which", "found"] ["script"] (defScope s_law) := FnScope.of (by kernel_rfl)
theorem n_law__script : NmL (defScope s_law) "script" := .of (by kernel_rfl)
theorem n_law__many : NmL (defScope s_law) "many" := .of (by kernel_rfl)
theorem n_law__roads : NmL (defScope s_law) "roads" := .of (by kernel_rfl)
theorem n_law__web : NmL (defScope s_law) "web" := .of (by kernel_rfl)
theorem n_law__numbers : NmL (defScope s_law) "numbers" := .of (by kernel_rfl)
theorem n_law__last : NmL (defScope s_law) "last" := .of (by kernel_rfl)
theorem n_law__size : NmL (defScope s_law) "size" := .of (by kernel_rfl)
theorem n_law__odd : NmL (defScope s_law) "odd" := .of (by kernel_rfl)
theorem n_law__steps : NmL (defScope s_law) "steps" := .of (by kernel_rfl)
theorem n_law__first : NmL (defScope s_law) "first" := .of (by kernel_rfl)
theorem n_law__due : NmL (defScope s_law) "due" := .of (by kernel_rfl)
theorem n_law__which : NmL (defScope s_law) "which" := .of (by kernel_rfl)
theorem n_law__found : NmL (defScope s_law) "found" := .of (by kernel_rfl)
theorem n_law__law_roads : NmG (defScope s_law) "_law_roads" := .of (by kernel_rfl)
theorem n_law__Web : NmG (defScope s_law) "Web" := .of (by kernel_rfl)
theorem n_law__law_amounts : NmG (defScope s_law) "_law_amounts" := .of (by kernel_rfl)
theorem n_law__law_last : NmG (defScope s_law) "_law_last" := .of (by kernel_rfl)
theorem n_law__max : NmG (defScope s_law) "max" := .of (by kernel_rfl)
theorem n_law__len : NmG (defScope s_law) "len" := .of (by kernel_rfl)
theorem n_law__law_steps : NmG (defScope s_law) "_law_steps" := .of (by kernel_rfl)
theorem n_law__range : NmG (defScope s_law) "range" := .of (by kernel_rfl)
theorem n_law__law_told : NmG (defScope s_law) "_law_told" := .of (by kernel_rfl)
theorem n_law__list : NmG (defScope s_law) "list" := .of (by kernel_rfl)
theorem n_law__law_whole : NmG (defScope s_law) "_law_whole" := .of (by kernel_rfl)
theorem n_law__tuple : NmG (defScope s_law) "tuple" := .of (by kernel_rfl)

theorem ok_law (T : Txt K mg) (hq : Quiet (CXe P w)) {f : Addr} {fd : FuncData} (D : Df K mg "law" s_law ["script"] f fd) {f_Web___init__ : Addr} {fd_Web___init__ : FuncData} (F_Web___init__ : Fun K "__init__" "Web.__init__" s_Web___init__ f_Web___init__ fd_Web___init__) (b_Web : Binds K fd_Web___init__ ["self", "many", "roads"] []) (M_Web : Mk K T.Web f_Web___init__) (G_Web_init : FnOk P w K mg base (CXe P w) 3 f_Web___init__ fd_Web___init__ ["self", "many", "roads"] (sp_Web___init__ T)) {f_law_amounts : Addr} {fd_law_amounts : FuncData} (D_law_amounts : Df K mg "_law_amounts" s_law_amounts ["script", "many"] f_law_amounts fd_law_amounts) (G_law_amounts : FnOk P w K mg base (CXe P w) 1 f_law_amounts fd_law_amounts ["script", "many"] (sp_law_amounts T)) {f_law_last : Addr} {fd_law_last : FuncData} (D_law_last : Df K mg "_law_last" s_law_last ["script"] f_law_last fd_law_last) (G_law_last : FnOk P w K mg base (CXe P w) 1 f_law_last fd_law_last ["script"] (sp_law_last T)) {f_law_roads : Addr} {fd_law_roads : FuncData} (D_law_roads : Df K mg "_law_roads" s_law_roads ["script"] f_law_roads fd_law_roads) (G_law_roads : FnOk P w K mg base (CXe P w) 2 f_law_roads fd_law_roads ["script"] (sp_law_roads T)) {f_law_steps : Addr} {fd_law_steps : FuncData} (D_law_steps : Df K mg "_law_steps" s_law_steps ["script", "many", "roads", "held", "odd"] f_law_steps fd_law_steps) (G_law_steps : FnOk P w K mg base (CXe P w) 3 f_law_steps fd_law_steps ["script", "many", "roads", "held", "odd"] (sp_law_steps T)) {f_law_told : Addr} {fd_law_told : FuncData} (D_law_told : Df K mg "_law_told" s_law_told ["which", "web", "laying", "steps"] f_law_told fd_law_told) (G_law_told : FnOk P w K mg base (CXe P w) 8 f_law_told fd_law_told ["which", "web", "laying", "steps"] (sp_law_told T)) {f_law_whole : Addr} {fd_law_whole : FuncData} (D_law_whole : Df K mg "_law_whole" s_law_whole ["found"] f_law_whole fd_law_whole) (G_law_whole : FnOk P w K mg base (CXe P w) 1 f_law_whole fd_law_whole ["found"] (sp_law_whole T)) : FnOk P w K mg base (CXe P w) 9 f fd ["script"] (sp_law T) := by
  refine D.F.okC sc_law (fun vs H Q E h => ?_) (fun cdv A outer s H vs Q E hr h => ?_)
  · obtain ⟨a, ns, rfl, _⟩ := h
    rfl
  · obtain ⟨a, ns, rfl, ha, hn, k⟩ := h
    have hv := hr.units
    refine ⟨_, (pss_cons (ps_asg (pe_call G_law_roads (hr.mono (by decide)) n_law__law_roads.g D_law_roads.m D_law_roads.F.kp D_law_roads.b .nil (passQ hq) (pa_cons (pvl 0 n_law__script) pa_nil) (hdb := n_law__law_roads.d)) (pg_tup (n := 2) rfl (pgs_cons (pg_name (i := 1) sc_law.nd rfl (Or.inl n_law__many.l)) (pgs_cons (pg_name (i := 2) sc_law.nd rfl (Or.inl n_law__roads.l)) pgs_nil)))) (pss_cons (ps_set (i := 3) sc_law.nd rfl (Or.inl n_law__web.l) (pe_make M_Web G_Web_init (hr.mono (by decide)) n_law__Web.g T.m_Web b_Web .nil (passQ hq) (pa_cons (pvl 1 n_law__many) (pa_cons (pvl 2 n_law__roads) pa_nil)) (hdb := n_law__Web.d))) (pss_cons (ps_set (i := 4) sc_law.nd rfl (Or.inl n_law__numbers.l) (pe_call G_law_amounts (hr.mono (by decide)) n_law__law_amounts.g D_law_amounts.m D_law_amounts.F.kp D_law_amounts.b .nil (passQ hq) (pa_cons (pvl 0 n_law__script) (pa_cons (pvl 1 n_law__many) pa_nil)) (hdb := n_law__law_amounts.d))) (pss_cons (ps_set (i := 5) sc_law.nd rfl (Or.inl n_law__last.l) (pe_call G_law_last (hr.mono (by decide)) n_law__law_last.g D_law_last.m D_law_last.F.kp D_law_last.b .nil (passQ hq) (pa_cons (pvl 0 n_law__script) pa_nil) (hdb := n_law__law_last.d))) (pss_cons (ps_set (i := 6) sc_law.nd rfl (Or.inl n_law__size.l) (pe_callB (call_max2 rfl) n_law__max.g T.max pb_max (pa_cons pe_int (pa_cons (pe_callB call_len_seq n_law__len.g T.len pb_len (pa_cons (pvl 0 n_law__script) pa_nil) (hn := n_law__len.n) (hdb := n_law__len.d)) pa_nil)) (hn := n_law__max.n) (hdb := n_law__max.d))) (pss_cons (ps_for PassesOwn.never rfl (pi_list (pe_lst (pa_cons (pe_lst pa_nil) (pa_cons (pe_lst (pa_cons (pe_op op_mod (pvl 5 n_law__last) (pvl 6 n_law__size)) pa_nil)) (pa_cons (pe_lst (pa_cons (pe_op op_mod (pe_op op_fdiv (pvl 5 n_law__last) pe_int) (pvl 6 n_law__size)) (pa_cons (pe_op op_mod (pe_op op_fdiv (pvl 5 n_law__last) pe_int) (pvl 6 n_law__size)) pa_nil))) (pa_cons (pe_lst (pa_cons (pe_op op_sub (pvl 6 n_law__size) pe_int) pa_nil)) pa_nil)))))) (pg_name (i := 7) sc_law.nd rfl (Or.inl n_law__odd.l)) (pss_cons (ps_asg (pe_call G_law_steps (hr.mono (by decide)) n_law__law_steps.g D_law_steps.m D_law_steps.F.kp D_law_steps.b .nil (passQ hq) (pa_cons (pvl 0 n_law__script) (pa_cons (pvl 1 n_law__many) (pa_cons (pvl 2 n_law__roads) (pa_cons (pvl 4 n_law__numbers) (pa_cons (pvl 7 n_law__odd) pa_nil))))) (hdb := n_law__law_steps.d)) (pg_tup (n := 2) rfl (pgs_cons (pg_name (i := 8) sc_law.nd rfl (Or.inl n_law__steps.l)) (pgs_cons (pg_name (i := 9) sc_law.nd rfl (Or.inl n_law__first.l)) pgs_nil)))) (pss_cons (ps_set (i := 10) sc_law.nd rfl (Or.inl n_law__due.l) (pe_tup (pa_cons pe_str (pa_cons pe_int pa_nil)))) (pss_cons (ps_if (pt_cmpR op_ge (pvl 9 n_law__first) pe_int (nomark _)) (pss_one (ps_set (i := 10) sc_law.nd rfl (Or.inl n_law__due.l) (pe_tup (pa_cons pe_str (pa_cons (pvl 9 n_law__first) pa_nil))))) pss_nil) (pss_one (ps_for PassesOwn.never rfl (pi_range1 n_law__range.g T.range (pa_cons pe_int pa_nil)) (pg_name (i := 11) sc_law.nd rfl (Or.inl n_law__which.l)) (pss_cons (ps_set (i := 12) sc_law.nd rfl (Or.inl n_law__found.l) (pe_call G_law_told (hr.mono (by decide)) n_law__law_told.g D_law_told.m D_law_told.F.kp D_law_told.b .nil (passQ hq) (pa_cons (pvl 11 n_law__which) (pa_cons (pvl 3 n_law__web) (pa_cons (pe_callTy call_list_of n_law__list.g T.list pb_list (pa_cons (pvl 4 n_law__numbers) pa_nil) (hn := n_law__list.n) (hdb := n_law__list.d)) (pa_cons (pe_callTy call_list_of n_law__list.g T.list pb_list (pa_cons (pvl 8 n_law__steps) pa_nil) (hn := n_law__list.n) (hdb := n_law__list.d)) pa_nil)))) (hdb := n_law__law_told.d))) (pss_cons (ps_if (PW.pt (pw_or (pt_cmpR (op_neD hv) (pvl 12 n_law__found) (pvl 10 n_law__due) (nomark _)) (pw_or1 (pt_not (pt_val (pe_call G_law_whole (hr.mono (by decide)) n_law__law_whole.g D_law_whole.m D_law_whole.F.kp D_law_whole.b .nil (passQ hq) (pa_cons (pe_ix ix_tup (pvl 12 n_law__found) pe_int (fun _ _ => rfl)) pa_nil) (hdb := n_law__law_whole.d))))))) (pss_one (ps_ret pe_bl)) pss_nil) (pss_cons (ps_if (pt_cmpR (op_neD hv) (pe_call G_law_told (hr.mono (by decide)) n_law__law_told.g D_law_told.m D_law_told.F.kp D_law_told.b .nil (passQ hq) (pa_cons (pvl 11 n_law__which) (pa_cons (pvl 3 n_law__web) (pa_cons (pe_op op_cat (pvl 4 n_law__numbers) (pe_lst (pa_cons pe_int pa_nil))) (pa_cons (pvl 8 n_law__steps) pa_nil)))) (hdb := n_law__law_told.d)) (pe_tup (pa_cons pe_str (pa_cons pe_int pa_nil))) (nomark _)) (pss_one (ps_ret pe_bl)) pss_nil) (pss_one (ps_if (pt_cmpR (op_neD hv) (pe_call G_law_told (hr.mono (by decide)) n_law__law_told.g D_law_told.m D_law_told.F.kp D_law_told.b .nil (passQ hq) (pa_cons (pvl 11 n_law__which) (pa_cons (pvl 3 n_law__web) (pa_cons (pe_op op_cat (pe_lst (pa_cons (pe_un un_neg pe_int) pa_nil)) (pe_slice sl_list (pvl 4 n_law__numbers) (po_some pe_int) po_none)) (pa_cons (pe_callTy call_tuple_of n_law__tuple.g T.tuple pb_tuple (pa_cons (pvl 8 n_law__steps) pa_nil) (hn := n_law__tuple.n) (hdb := n_law__tuple.d)) pa_nil)))) (hdb := n_law__law_told.d)) (pe_tup (pa_cons pe_str (pa_cons pe_int pa_nil))) (nomark _)) (pss_one (ps_ret pe_bl)) pss_nil))))))))))) (pss_one (ps_ret pe_bl)))))))), ?_⟩
    rw [show L2.start ["script", "many", "roads", "web", "numbers", "last", "size", "odd", "steps", "first", "due", "which", "found"] [V.ref a] = [some (V.ref a), none, none, none, none, none, none, none, none, none, none, none, none] from rfl]
    unfold tSl tPart tNoPart
    refine cutS fun N1 h1 => ?_
    walk_at "rd"
    refine ⟨a, ns, rfl, ha, fun t l m ps rs H1 nt nl s1 et el ro g => ?_⟩
    have m1 := g.m1
    have m24 := g.m24
    refine ⟨t, rfl, _, SqT.of et, rfl, _, _, rfl, _, _, rfl, rfl, h1 _ _ (cutS fun N2 h2 => ?_)⟩
    walk_at "rd"
    refine mk_web T (c := true) (SqL.of el) ro g fun x tw H2 hx htw s2 W => ?_
    have s12 := s1.trans s2
    refine h2 _ _ (cutS fun N3 h3 => ?_)
    walk_at "rd"
    refine ⟨a, ns, m, rfl, Same.seq s12 ha, hn, m1, by omega, fun lh xs H3 nh s3 eh xl x0 => h3 _ _ (cutS fun N4 h4 => ?_)⟩
    have fi := filled_of xl x0
    have s13 := s12.trans s3
    have W3 := W.same s3
    have el3 := s3 _ _ (s2 _ _ el)
    have ro3 := RoadsAt.same (s2.trans s3) ro
    walk_at "rd"
    refine ⟨a, ns, rfl, Same.seq s13 ha, fun la => h4 _ _ (cutS fun N5 h5 => ?_)⟩
    walk_at "rd"
    refine ⟨_, .inl (Same.seq s13 ha), 1, _, ⟨rfl, rfl⟩, ?_⟩
    rw [List.length_map]
    have sz0 : 0 < (if (ns.length : Int) > 1 then (ns.length : Int) else 1) := by split <;> omega
    generalize (if (ns.length : Int) > 1 then (ns.length : Int) else 1) = sz at sz0 ⊢
    refine h5 _ _ (cutS fun N6 h6 => ?_)
    walk_at "rd"
    refine ⟨smallE (by simp), fun o0 n0 => ⟨sz0, smallE (by simp), fun o1 n1 => ⟨⟨by decide, by decide⟩, sz0, ⟨by decide, by decide⟩, sz0, smallE (by simp), fun o2 n2 => ⟨smallE (by simp), fun o3 n3 => ⟨smallE (by simp), fun lo no => ⟨⟨_, SqL.of upd_same⟩, ?_⟩⟩⟩⟩⟩⟩
    have t0 := Same.new (.lst []) n0
    have t1 := Same.new (.lst [V.int (la % sz)]) n1
    have t2 := Same.new (.lst [V.int (la / 64 % sz), V.int (la / 4096 % sz)]) n2
    have t3 := Same.new (.lst [V.int (sz - 1)]) n3
    have t4 := Same.new (.lst [V.ref o0, V.ref o1, V.ref o2, V.ref o3]) no
    have e0 := t4 _ _ (t3 _ _ (t2 _ _ (t1 _ _ (upd_same (H := H3) (a := o0) (o := .lst (([] : List Int).map V.int))))))
    have e1 := t4 _ _ (t3 _ _ (t2 _ _ (upd_same (H := upd H3 o0 (.lst [])) (a := o1) (o := .lst ([la % sz].map V.int)))))
    have e2 := t4 _ _ (t3 _ _ (upd_same (H := upd (upd H3 o0 (.lst [])) o1 (.lst [V.int (la % sz)])) (a := o2) (o := .lst ([la / 64 % sz, la / 4096 % sz].map V.int))))
    have e3 := t4 _ _ (upd_same (H := upd (upd (upd H3 o0 (.lst [])) o1 (.lst [V.int (la % sz)])) o2 (.lst [V.int (la / 64 % sz), V.int (la / 4096 % sz)])) (a := o3) (o := .lst ([sz - 1].map V.int)))
    have e4 : upd (upd (upd (upd (upd H3 o0 (.lst [])) o1 (.lst [V.int (la % sz)])) o2 (.lst [V.int (la / 64 % sz), V.int (la / 4096 % sz)])) o3 (.lst [V.int (sz - 1)])) lo (.lst [V.ref o0, V.ref o1, V.ref o2, V.ref o3]) lo = some (.lst [V.ref o0, V.ref o1, V.ref o2, V.ref o3]) := upd_same
    have t04 := t0.trans (t1.trans (t2.trans (t3.trans t4)))
    generalize upd (upd (upd (upd (upd H3 o0 (.lst [])) o1 (.lst [V.int (la % sz)])) o2 (.lst [V.int (la / 64 % sz), V.int (la / 4096 % sz)])) o3 (.lst [V.int (sz - 1)])) lo (.lst [V.ref o0, V.ref o1, V.ref o2, V.ref o3]) = H4 at t04 e0 e1 e2 e3 e4 ⊢
    clear t0 t1 t2 t3 t4
    have W4 := W3.same t04
    have el4 := t04 _ _ el3
    have ro4 := RoadsAt.same t04 ro3
    have eh4 := t04 _ _ eh
    have ha4 := Same.seq (s13.trans t04) ha
    clear W3 el3 ro3 t04 s13 s12
    have x1 : xs.length ≤ 1000 := by omega
    refine for_listH (K := K) (xs := [V.ref o0, V.ref o1, V.ref o2, V.ref o3]) (fun i σ H5 => Same H4 H5 ∧ ∃ v7 v8 v9 v10 v11 v12, σ = [some (V.ref a), some (V.int m), some (V.ref l), some (V.ref x), some (V.ref lh), some (V.int la), some (V.int sz), v7, v8, v9, v10, v11, v12]) ⟨Same.refl _, _, _, _, _, _, _, rfl⟩ (fun i σ H5 _ z => SqL.of (z.1 _ _ e4)) ?_ ?_
    · rintro i y σ H5 N BB hBB hN hy ⟨s5, v7, v8, v9, v10, v11, v12, rfl⟩
      obtain ⟨od, os, rfl, eo⟩ : ∃ (od : Addr) (os : List Int), y = .ref od ∧ H4 od = some (.lst (os.map V.int)) := by
        match i, hy with
        | 0, hy => cases hy; exact ⟨o0, _, rfl, e0⟩
        | 1, hy => cases hy; exact ⟨o1, _, rfl, e1⟩
        | 2, hy => cases hy; exact ⟨o2, _, rfl, e2⟩
        | 3, hy => cases hy; exact ⟨o3, _, rfl, e3⟩
        | i + 4, hy => cases hy
      refine hBB _ _ (cutS fun M1 k1 => ?_)
      walk_at "rd"
      refine ⟨a, l, lh, od, m, ps, rs, ns, xs, os, rfl, Same.seq s5 ha4, hn, s5 _ _ el4, RoadsAt.same s5 ro4, g, s5 _ _ eh4, xl, s5 _ _ eo, fun tp ls qs ss fs H6 nls s6 etp es st sl hs => ?_⟩
      refine ⟨tp, rfl, _, SqT.of etp, rfl, _, _, rfl, _, _, rfl, rfl, k1 _ _ (cutS fun M2 k2 => ?_)⟩
      have s56 := s5.trans s6
      walk_at "rd"
      refine ⟨smallE (by simp), fun qd nqd => k2 _ _ (cutS fun M3 k3 => ?_)⟩
      have u1 := Same.new (.tup [V.str (Str.ofString "fine"), V.int 0]) nqd
      have ed : upd H6 qd (.tup [V.str (Str.ofString "fine"), V.int 0]) qd = some (.tup [V.str "fine", V.int 0]) := upd_same
      generalize upd H6 qd (.tup [V.str (Str.ofString "fine"), V.int 0]) = H7 at u1 ed ⊢
      have ss1 : ss.length ≤ 1000 := by omega
      -- the rest of the body, with what is due
      have rest : ∀ (qd : Addr) (dw : Str) (dn : Int) (H8 : Hp), Same H6 H8 → H8 qd = some (.tup [V.str dw, V.int dn]) → StTold m rs xs ss true dw dn → M3 [some (V.ref a), some (V.int m), some (V.ref l), some (V.ref x), some (V.ref lh), some (V.int la), some (V.int sz), some (V.ref od), some (V.ref ls), some (V.int fs), some (V.ref qd), v11, v12] H8 := by
        intro qd dw dn H8 s8 ed8 du
        refine k3 _ _ ?_
        have s48 := s56.trans s8
        walk_at "rd"
        refine ⟨by omega, by omega, ?_⟩
        refine for_rangeH (fun i σ H9 => Same H8 H9 ∧ ∃ v11 v12, σ = [some (V.ref a), some (V.int m), some (V.ref l), some (V.ref x), some (V.ref lh), some (V.int la), some (V.int sz), some (V.ref od), some (V.ref ls), some (V.int fs), some (V.ref qd), v11, v12]) ⟨Same.refl _, _, _, rfl⟩ ?_ ?_
        · rintro i2 σ H9 N2 B2 hB2 hN2 hi2 ⟨s9, w11, w12, rfl⟩
          have s49 := s48.trans s9
          have s69 := s8.trans s9
          refine hB2 _ _ (cutS fun L1 g1 => ?_)
          walk_at "rd"
          refine ⟨_, .inl (SqL.of (s49 _ _ eh4)), fun p1 np1 => ?_⟩
          have r1 := Same.new (.lst (xs.map V.int)) np1
          refine ⟨_, .inl (SqL.of (r1 _ _ (s69 _ _ es))), fun p2 np2 => ?_⟩
          have r2 := Same.new (.lst (qs.map V.ref)) np2
          have r12 := r1.trans r2
          have b1 := r2 _ _ (upd_same (H := H9) (a := p1) (o := .lst (xs.map V.int)))
          have b2 : upd (upd H9 p1 (.lst (xs.map V.int))) p2 (.lst (qs.map V.ref)) p2 = some (.lst (qs.map V.ref)) := upd_same
          generalize upd (upd H9 p1 (.lst (xs.map V.int))) p2 (.lst (qs.map V.ref)) = H10 at r12 b1 b2 ⊢
          have s410 := s49.trans r12
          have s610 := s69.trans r12
          refine ⟨x, p1, p2, tw, true, true, m, _, ps, qs, rs, xs, ss, rfl, W4.same s410, b1, x1, b2, StepsAt.same s610 st, ss1, fun qf wd n H11 s11 ef tl => g1 _ _ (cutS fun L2 g2 => ?_)⟩
          rw [fi] at tl
          have un := tl.uniq du
          have s411 := s410.trans s11
          have s611 := s610.trans s11
          have s811 := s9.trans (r12.trans s11)
          clear s410 s610 r12 b1 b2
          walk_at "rd"
          refine ne_wn tl.ok ef (s811 _ _ ed8) un ⟨_, rfl, ?_⟩
          rw [if_neg (by decide)]
          refine ixT ef rfl ⟨n, rfl, ⟨_, rfl, ?_⟩⟩
          rw [if_neg (by decide)]
          refine g2 _ _ (cutS fun L3 g3 => ?_)
          walk_at "rd"
          refine ⟨smallE (by simp), fun p3 np3 => ?_⟩
          have r3 := Same.new (.lst [V.int 1]) np3
          refine catR (r3 _ _ (s411 _ _ eh4)) upd_same (smallE (by rw [List.length_map]; simp; omega)) fun p4 np4 => ?_
          have r4 := r3.trans (Same.new (.lst (xs.map V.int ++ [V.int 1])) np4)
          have b4 : upd (upd H11 p3 (.lst [V.int 1])) p4 (.lst (xs.map V.int ++ [V.int 1])) p4 = some (.lst ((xs ++ [1]).map V.int)) := by rw [upd_same, List.map_append]; rfl
          generalize upd (upd H11 p3 (.lst [V.int 1])) p4 (.lst (xs.map V.int ++ [V.int 1])) = H12 at r4 b4 ⊢
          have s412 := s411.trans r4
          have s612 := s611.trans r4
          have s812 := s811.trans r4
          refine ⟨x, p4, ls, tw, true, true, m, _, ps, qs, rs, xs ++ [1], ss, rfl, W4.same s412, b4, by rw [List.length_append]; simp; omega, s612 _ _ es, StepsAt.same s612 st, ss1, fun qg wd2 n2 H13 s13' eg tg => ⟨smallE (by simp), fun p5 np5 => ?_⟩⟩
          rw [nf15 xl] at tg
          have r5 := s13'.trans (Same.new (.tup [V.str (Str.ofString "laying"), V.int 0]) np5)
          refine ne_wn tg.ok (Same.new (.tup [V.str (Str.ofString "laying"), V.int 0]) np5 _ _ eg) upd_same (tg.uniq (.inl ⟨rfl, rfl, rfl⟩)) ⟨_, rfl, ?_⟩
          rw [if_neg (by decide)]
          refine g3 _ _ ?_
          have s413 := s412.trans r5
          have s613 := s612.trans r5
          have s813 := s812.trans r5
          generalize upd H13 p5 (.tup [V.str (Str.ofString "laying"), V.int 0]) = H14 at s413 s613 s813 ⊢
          clear s412 s612 s812 r5 r4 b4 eg tg
          walk_at "rd"
          refine ⟨smallE (by simp), fun p6 np6 => ?_⟩
          have r6 := Same.new (.lst [V.int (-1)]) np6
          refine slI (SqL.of (r6 _ _ (s413 _ _ eh4))) fun p7 np7 => ?_
          have cl := cutI_len xs (some 1) none
          generalize cutI xs (some 1) none = cs at cl ⊢
          have r7 := Same.new (.lst (cs.map V.int)) np7
          refine catR (r7 _ _ upd_same) upd_same (smallE (by rw [List.length_map]; simp; omega)) fun p8 np8 => ?_
          have r8 := Same.new (.lst ([V.int (-1)] ++ cs.map V.int)) np8
          have r68 := r6.trans (r7.trans r8)
          have b8 : upd (upd (upd H14 p6 (.lst [V.int (-1)])) p7 (.lst (cs.map V.int))) p8 (.lst ([V.int (-1)] ++ cs.map V.int)) p8 = some (.lst ((-1 :: cs).map V.int)) := upd_same
          generalize upd (upd (upd H14 p6 (.lst [V.int (-1)])) p7 (.lst (cs.map V.int))) p8 (.lst ([V.int (-1)] ++ cs.map V.int)) = H15 at r68 b8 ⊢
          have s615 := s613.trans r68
          refine ⟨_, .inl ⟨SqL.of (s615 _ _ es), fun p9 np9 => ?_⟩⟩
          have r9 := Same.new (.tup (qs.map V.ref)) np9
          have s415 := s413.trans (r68.trans r9)
          refine ⟨x, p8, p9, tw, true, false, m, _, ps, qs, rs, -1 :: cs, ss, rfl, W4.same s415, r9 _ _ b8, by rw [List.length_cons]; omega, upd_same, StepsAt.same (s615.trans r9) st, ss1, fun qg wd2 n2 H16 s16 eg tg => ⟨smallE (by simp), fun pa npa => ?_⟩⟩
          rw [nb15] at tg
          have ra := Same.new (.tup [V.str (Str.ofString "laying"), V.int 0]) npa
          refine ne_wn tg.ok (ra _ _ eg) upd_same (tg.uniq (.inl ⟨rfl, rfl, rfl⟩)) ⟨_, rfl, ?_⟩
          rw [if_neg (by decide)]
          exact hN2 _ _ ⟨s813.trans (r68.trans (r9.trans (s16.trans ra))), _, _, rfl⟩
        · rintro B2 σ H9 hB2 ⟨s9, w11, w12, rfl⟩
          exact hB2 _ _ (hN _ _ ⟨s48.trans s9, _, _, _, _, _, _, rfl⟩)
      refine cutIf fun NA NB kA kB => ?_
      walk_at "rd"
      rcases hs with ⟨f1, ca⟩ | ⟨j, f1, fb⟩
      · rw [if_neg (by omega)]
        exact kB _ _ (rest qd _ _ H7 u1 ed (.inr (.inl ⟨rfl, ca, rfl, rfl⟩)))
      · rw [if_pos (by omega)]
        refine kA _ _ ?_
        walk_at "rd"
        exact ⟨smallE (by simp), fun q2 nq2 => rest q2 "step" fs _ (u1.trans (Same.new _ nq2)) upd_same (.inr (.inr ⟨rfl, j, fb, rfl, f1⟩))⟩
    · rintro BB σ H5 hBB ⟨s5, v7, v8, v9, v10, v11, v12, rfl⟩
      refine hBB _ _ (h6 _ _ ?_)
      walk_at "rd"
      exact k _
end
theorem quiet0 : Quiet CX0 := fun _ _ _ _ _ h => h
theorem all_mk {l : PySem.W.OpenLaw} {w : World} {K : PySem.W.Frag} {h : Heap} {mg : Str → Option Value} {fa : Addr} {C_TollError : Addr} {C_BadWeb : Addr} {C_NoPlace : Addr} {C_NoRoad : Addr} {C_BadLaying : Addr} {C_BadWish : Addr} {C_TooMany : Addr} {C_NoNumber : Addr} {C_BadStep : Addr} {C_Web : Addr} {xc_TollError : Value} {xd_TollError : Option Addr} {xk_TollError : ClassData} {xs_TollError : Array (Option Value)} {xc_BadWeb : Value} {xd_BadWeb : Option Addr} {xk_BadWeb : ClassData} {xs_BadWeb : Array (Option Value)} {xc_NoPlace : Value} {xd_NoPlace : Option Addr} {xk_NoPlace : ClassData} {xs_NoPlace : Array (Option Value)} {qn_NoPlace qq_NoPlace : Str} {qN_NoPlace : Addr} {qb_NoPlace qm_NoPlace : List Value} {qh_NoPlace : Bool} {qs_NoPlace : List Str} {qu_NoPlace : List Value} {qa_NoPlace : Bool} {qc_NoPlace : Option Bool} {qd_NoPlace : Option Addr} {q0_NoPlace q1_NoPlace q2_NoPlace q3_NoPlace q5_NoPlace : Option Value} {xc_NoRoad : Value} {xd_NoRoad : Option Addr} {xk_NoRoad : ClassData} {xs_NoRoad : Array (Option Value)} {qn_NoRoad qq_NoRoad : Str} {qN_NoRoad : Addr} {qb_NoRoad qm_NoRoad : List Value} {qh_NoRoad : Bool} {qs_NoRoad : List Str} {qu_NoRoad : List Value} {qa_NoRoad : Bool} {qc_NoRoad : Option Bool} {qd_NoRoad : Option Addr} {q0_NoRoad q1_NoRoad q2_NoRoad q3_NoRoad q5_NoRoad : Option Value} {xc_BadLaying : Value} {xd_BadLaying : Option Addr} {xk_BadLaying : ClassData} {xs_BadLaying : Array (Option Value)} {qn_BadLaying qq_BadLaying : Str} {qN_BadLaying : Addr} {qb_BadLaying qm_BadLaying : List Value} {qh_BadLaying : Bool} {qs_BadLaying : List Str} {qu_BadLaying : List Value} {qa_BadLaying : Bool} {qc_BadLaying : Option Bool} {qd_BadLaying : Option Addr} {q0_BadLaying q1_BadLaying q2_BadLaying q3_BadLaying q5_BadLaying : Option Value} {xc_BadWish : Value} {xd_BadWish : Option Addr} {xk_BadWish : ClassData} {xs_BadWish : Array (Option Value)} {xc_TooMany : Value} {xd_TooMany : Option Addr} {xk_TooMany : ClassData} {xs_TooMany : Array (Option Value)} {xc_NoNumber : Value} {xd_NoNumber : Option Addr} {xk_NoNumber : ClassData} {xs_NoNumber : Array (Option Value)} {xc_BadStep : Value} {xd_BadStep : Option Addr} {xk_BadStep : ClassData} {xs_BadStep : Array (Option Value)} {qn_BadStep qq_BadStep : Str} {qN_BadStep : Addr} {qb_BadStep qm_BadStep : List Value} {qh_BadStep : Bool} {qs_BadStep : List Str} {qu_BadStep : List Value} {qa_BadStep : Bool} {qc_BadStep : Option Bool} {qd_BadStep : Option Addr} {q0_BadStep q1_BadStep q2_BadStep q3_BadStep q5_BadStep : Option Value} {f_check_counts : Addr} {od_check_counts an_check_counts : Option Addr} {sl_check_counts : Array (Option Value)} {oc_check_counts kV_check_counts dc_check_counts pm_check_counts cd_check_counts ct_check_counts : Value} {f_is_place : Addr} {od_is_place an_is_place : Option Addr} {sl_is_place : Array (Option Value)} {oc_is_place kV_is_place dc_is_place pm_is_place cd_is_place ct_is_place : Value} {f_check_ends : Addr} {od_check_ends an_check_ends : Option Addr} {sl_check_ends : Array (Option Value)} {oc_check_ends kV_check_ends dc_check_ends pm_check_ends cd_check_ends ct_check_ends : Value} {f_other_ends : Addr} {od_other_ends an_other_ends : Option Addr} {sl_other_ends : Array (Option Value)} {oc_other_ends kV_other_ends dc_other_ends pm_other_ends cd_other_ends ct_other_ends : Value} {f_check_joined : Addr} {od_check_joined an_check_joined : Option Addr} {sl_check_joined : Array (Option Value)} {oc_check_joined kV_check_joined dc_check_joined pm_check_joined cd_check_joined ct_check_joined : Value} {f_check_tolls : Addr} {od_check_tolls an_check_tolls : Option Addr} {sl_check_tolls : Array (Option Value)} {oc_check_tolls kV_check_tolls dc_check_tolls pm_check_tolls cd_check_tolls ct_check_tolls : Value} {f_Web___init__ : Addr} {od_Web___init__ an_Web___init__ : Option Addr} {sl_Web___init__ : Array (Option Value)} {oc_Web___init__ kV_Web___init__ dc_Web___init__ pm_Web___init__ cd_Web___init__ ct_Web___init__ : Value} {f_law_tolls : Addr} {od_law_tolls an_law_tolls : Option Addr} {sl_law_tolls : Array (Option Value)} {oc_law_tolls kV_law_tolls dc_law_tolls pm_law_tolls cd_law_tolls ct_law_tolls : Value} {f_law_amounts : Addr} {od_law_amounts an_law_amounts : Option Addr} {sl_law_amounts : Array (Option Value)} {oc_law_amounts kV_law_amounts dc_law_amounts pm_law_amounts cd_law_amounts ct_law_amounts : Value} {f_law_last : Addr} {od_law_last an_law_last : Option Addr} {sl_law_last : Array (Option Value)} {oc_law_last kV_law_last dc_law_last pm_law_last cd_law_last ct_law_last : Value} {f_law_cell : Addr} {od_law_cell an_law_cell : Option Addr} {sl_law_cell : Array (Option Value)} {oc_law_cell kV_law_cell dc_law_cell pm_law_cell cd_law_cell ct_law_cell : Value} {f_law_row : Addr} {od_law_row an_law_row : Option Addr} {sl_law_row : Array (Option Value)} {oc_law_row kV_law_row dc_law_row pm_law_row cd_law_row ct_law_row : Value} {f_law_roads : Addr} {od_law_roads an_law_roads : Option Addr} {sl_law_roads : Array (Option Value)} {oc_law_roads kV_law_roads dc_law_roads pm_law_roads cd_law_roads ct_law_roads : Value} {f_law_price : Addr} {od_law_price an_law_price : Option Addr} {sl_law_price : Array (Option Value)} {oc_law_price kV_law_price dc_law_price pm_law_price cd_law_price ct_law_price : Value} {f_law_can : Addr} {od_law_can an_law_can : Option Addr} {sl_law_can : Array (Option Value)} {oc_law_can kV_law_can dc_law_can pm_law_can cd_law_can ct_law_can : Value} {f_law_odd : Addr} {od_law_odd an_law_odd : Option Addr} {sl_law_odd : Array (Option Value)} {oc_law_odd kV_law_odd dc_law_odd pm_law_odd cd_law_odd ct_law_odd : Value} {f_law_steps : Addr} {od_law_steps an_law_steps : Option Addr} {sl_law_steps : Array (Option Value)} {oc_law_steps kV_law_steps dc_law_steps pm_law_steps cd_law_steps ct_law_steps : Value} {f_law_kind : Addr} {od_law_kind an_law_kind : Option Addr} {sl_law_kind : Array (Option Value)} {oc_law_kind kV_law_kind dc_law_kind pm_law_kind cd_law_kind ct_law_kind : Value} {f_BadStep___init__ : Addr} {od_BadStep___init__ an_BadStep___init__ : Option Addr} {sl_BadStep___init__ : Array (Option Value)} {oc_BadStep___init__ kV_BadStep___init__ dc_BadStep___init__ pm_BadStep___init__ cd_BadStep___init__ ct_BadStep___init__ : Value} {f_check_place : Addr} {od_check_place an_check_place : Option Addr} {sl_check_place : Array (Option Value)} {oc_check_place kV_check_place dc_check_place pm_check_place cd_check_place ct_check_place : Value} {f_toll : Addr} {od_toll an_toll : Option Addr} {sl_toll : Array (Option Value)} {oc_toll kV_toll dc_toll pm_toll cd_toll ct_toll : Value} {f_taken : Addr} {od_taken an_taken : Option Addr} {sl_taken : Array (Option Value)} {oc_taken kV_taken dc_taken pm_taken cd_taken ct_taken : Value} {f_behind : Addr} {od_behind an_behind : Option Addr} {sl_behind : Array (Option Value)} {oc_behind kV_behind dc_behind pm_behind cd_behind ct_behind : Value} {f_neighbours : Addr} {od_neighbours an_neighbours : Option Addr} {sl_neighbours : Array (Option Value)} {oc_neighbours kV_neighbours dc_neighbours pm_neighbours cd_neighbours ct_neighbours : Value} {f_is_step : Addr} {od_is_step an_is_step : Option Addr} {sl_is_step : Array (Option Value)} {oc_is_step kV_is_step dc_is_step pm_is_step cd_is_step ct_is_step : Value} {f_can_be_done : Addr} {od_can_be_done an_can_be_done : Option Addr} {sl_can_be_done : Array (Option Value)} {oc_can_be_done kV_can_be_done dc_can_be_done pm_can_be_done cd_can_be_done ct_can_be_done : Value} {f_is_filled : Addr} {od_is_filled an_is_filled : Option Addr} {sl_is_filled : Array (Option Value)} {oc_is_filled kV_is_filled dc_is_filled pm_is_filled cd_is_filled ct_is_filled : Value} {f_laying_of : Addr} {od_laying_of an_laying_of : Option Addr} {sl_laying_of : Array (Option Value)} {oc_laying_of kV_laying_of dc_laying_of pm_laying_of cd_laying_of ct_laying_of : Value} {f_layings : Addr} {od_layings an_layings : Option Addr} {sl_layings : Array (Option Value)} {oc_layings kV_layings dc_layings pm_layings cd_layings ct_layings : Value} {f_walked : Addr} {od_walked an_walked : Option Addr} {sl_walked : Array (Option Value)} {oc_walked kV_walked dc_walked pm_walked cd_walked ct_walked : Value} {f_law_told : Addr} {od_law_told an_law_told : Option Addr} {sl_law_told : Array (Option Value)} {oc_law_told kV_law_told dc_law_told pm_law_told cd_law_told ct_law_told : Value} {f_law_whole : Addr} {od_law_whole an_law_whole : Option Addr} {sl_law_whole : Array (Option Value)} {oc_law_whole kV_law_whole dc_law_whole pm_law_whole cd_law_whole ct_law_whole : Value} {f_law : Addr} {od_law an_law : Option Addr} {sl_law : Array (Option Value)} {oc_law kV_law dc_law pm_law cd_law ct_law : Value} {t_MOST_PLACES : Tok} {t_LEAST_TOLL : Tok} {t_MOST_TOLL : Tok} (X : K.In h) (G : h.Ns mainGlobals mg) (hfa : mg "law" = some (.ref fa))
    (ac_TollError : PySem.W.nsIn K mainGlobals "TollError" = some (some (.ref C_TollError)))
    (ac_BadWeb : PySem.W.nsIn K mainGlobals "BadWeb" = some (some (.ref C_BadWeb)))
    (ac_NoPlace : PySem.W.nsIn K mainGlobals "NoPlace" = some (some (.ref C_NoPlace)))
    (ac_NoRoad : PySem.W.nsIn K mainGlobals "NoRoad" = some (some (.ref C_NoRoad)))
    (ac_BadLaying : PySem.W.nsIn K mainGlobals "BadLaying" = some (some (.ref C_BadLaying)))
    (ac_BadWish : PySem.W.nsIn K mainGlobals "BadWish" = some (some (.ref C_BadWish)))
    (ac_TooMany : PySem.W.nsIn K mainGlobals "TooMany" = some (some (.ref C_TooMany)))
    (ac_NoNumber : PySem.W.nsIn K mainGlobals "NoNumber" = some (some (.ref C_NoNumber)))
    (ac_BadStep : PySem.W.nsIn K mainGlobals "BadStep" = some (some (.ref C_BadStep)))
    (ac_Web : PySem.W.nsIn K mainGlobals "Web" = some (some (.ref C_Web)))
    (xl_TollError : K.lookup C_TollError = some ⟨xc_TollError, xd_TollError, .cls xk_TollError, xs_TollError⟩)
    (xm_TollError : xk_TollError.mro = .ref C_TollError :: bmV)
    (xt_TollError : PySem.W.typeIn K (.ref C_TollError) = some (.type "type"))
    (xg_TollError : PySem.W.findIn K (.ref C_TollError) "__getattribute__" = some (some (.builtin "BaseException.__getattribute__")))
    (xh_TollError : PySem.W.findIn K (.ref C_TollError) "__getattr__" = some none)
    (xo_TollError : PySem.W.findIn K (.ref C_TollError) "__class__" = some (some (.builtin "object.__class__")))
    (xi_TollError : PySem.W.hasDictIn K C_TollError = true)
    (xl_BadWeb : K.lookup C_BadWeb = some ⟨xc_BadWeb, xd_BadWeb, .cls xk_BadWeb, xs_BadWeb⟩)
    (xm_BadWeb : xk_BadWeb.mro = .ref C_BadWeb :: .ref C_TollError :: bmV)
    (xt_BadWeb : PySem.W.typeIn K (.ref C_BadWeb) = some (.type "type"))
    (xg_BadWeb : PySem.W.findIn K (.ref C_BadWeb) "__getattribute__" = some (some (.builtin "BaseException.__getattribute__")))
    (xh_BadWeb : PySem.W.findIn K (.ref C_BadWeb) "__getattr__" = some none)
    (xo_BadWeb : PySem.W.findIn K (.ref C_BadWeb) "__class__" = some (some (.builtin "object.__class__")))
    (xi_BadWeb : PySem.W.hasDictIn K C_BadWeb = true)
    (xl_NoPlace : K.lookup C_NoPlace = some ⟨xc_NoPlace, xd_NoPlace, .cls xk_NoPlace, xs_NoPlace⟩)
    (xm_NoPlace : xk_NoPlace.mro = .ref C_NoPlace :: .ref C_TollError :: bmV)
    (xt_NoPlace : PySem.W.typeIn K (.ref C_NoPlace) = some (.type "type"))
    (xg_NoPlace : PySem.W.findIn K (.ref C_NoPlace) "__getattribute__" = some (some (.builtin "BaseException.__getattribute__")))
    (xh_NoPlace : PySem.W.findIn K (.ref C_NoPlace) "__getattr__" = some none)
    (xo_NoPlace : PySem.W.findIn K (.ref C_NoPlace) "__class__" = some (some (.builtin "object.__class__")))
    (xi_NoPlace : PySem.W.hasDictIn K C_NoPlace = true)
    (xe_NoPlace : (⟨xc_NoPlace, xd_NoPlace, .cls xk_NoPlace, xs_NoPlace⟩ : Obj) = excClassObj qn_NoPlace qq_NoPlace C_NoPlace qN_NoPlace qb_NoPlace qm_NoPlace qh_NoPlace qs_NoPlace qu_NoPlace qa_NoPlace qc_NoPlace qd_NoPlace q0_NoPlace q1_NoPlace q2_NoPlace q3_NoPlace q5_NoPlace "ValueError.__new__")
    (xf_NoPlace : PySem.W.nsOkIn K qN_NoPlace = true)
    (xj_NoPlace : PySem.W.nsIn K qN_NoPlace "__init__" = some none)
    (xp_NoPlace : PySem.W.tailIn K bmV qm_NoPlace = true)
    (xl_NoRoad : K.lookup C_NoRoad = some ⟨xc_NoRoad, xd_NoRoad, .cls xk_NoRoad, xs_NoRoad⟩)
    (xm_NoRoad : xk_NoRoad.mro = .ref C_NoRoad :: .ref C_TollError :: bmV)
    (xt_NoRoad : PySem.W.typeIn K (.ref C_NoRoad) = some (.type "type"))
    (xg_NoRoad : PySem.W.findIn K (.ref C_NoRoad) "__getattribute__" = some (some (.builtin "BaseException.__getattribute__")))
    (xh_NoRoad : PySem.W.findIn K (.ref C_NoRoad) "__getattr__" = some none)
    (xo_NoRoad : PySem.W.findIn K (.ref C_NoRoad) "__class__" = some (some (.builtin "object.__class__")))
    (xi_NoRoad : PySem.W.hasDictIn K C_NoRoad = true)
    (xe_NoRoad : (⟨xc_NoRoad, xd_NoRoad, .cls xk_NoRoad, xs_NoRoad⟩ : Obj) = excClassObj qn_NoRoad qq_NoRoad C_NoRoad qN_NoRoad qb_NoRoad qm_NoRoad qh_NoRoad qs_NoRoad qu_NoRoad qa_NoRoad qc_NoRoad qd_NoRoad q0_NoRoad q1_NoRoad q2_NoRoad q3_NoRoad q5_NoRoad "ValueError.__new__")
    (xf_NoRoad : PySem.W.nsOkIn K qN_NoRoad = true)
    (xj_NoRoad : PySem.W.nsIn K qN_NoRoad "__init__" = some none)
    (xp_NoRoad : PySem.W.tailIn K bmV qm_NoRoad = true)
    (xl_BadLaying : K.lookup C_BadLaying = some ⟨xc_BadLaying, xd_BadLaying, .cls xk_BadLaying, xs_BadLaying⟩)
    (xm_BadLaying : xk_BadLaying.mro = .ref C_BadLaying :: .ref C_TollError :: bmV)
    (xt_BadLaying : PySem.W.typeIn K (.ref C_BadLaying) = some (.type "type"))
    (xg_BadLaying : PySem.W.findIn K (.ref C_BadLaying) "__getattribute__" = some (some (.builtin "BaseException.__getattribute__")))
    (xh_BadLaying : PySem.W.findIn K (.ref C_BadLaying) "__getattr__" = some none)
    (xo_BadLaying : PySem.W.findIn K (.ref C_BadLaying) "__class__" = some (some (.builtin "object.__class__")))
    (xi_BadLaying : PySem.W.hasDictIn K C_BadLaying = true)
    (xe_BadLaying : (⟨xc_BadLaying, xd_BadLaying, .cls xk_BadLaying, xs_BadLaying⟩ : Obj) = excClassObj qn_BadLaying qq_BadLaying C_BadLaying qN_BadLaying qb_BadLaying qm_BadLaying qh_BadLaying qs_BadLaying qu_BadLaying qa_BadLaying qc_BadLaying qd_BadLaying q0_BadLaying q1_BadLaying q2_BadLaying q3_BadLaying q5_BadLaying "ValueError.__new__")
    (xf_BadLaying : PySem.W.nsOkIn K qN_BadLaying = true)
    (xj_BadLaying : PySem.W.nsIn K qN_BadLaying "__init__" = some none)
    (xp_BadLaying : PySem.W.tailIn K bmV qm_BadLaying = true)
    (xl_BadWish : K.lookup C_BadWish = some ⟨xc_BadWish, xd_BadWish, .cls xk_BadWish, xs_BadWish⟩)
    (xm_BadWish : xk_BadWish.mro = .ref C_BadWish :: .ref C_TollError :: bmV)
    (xt_BadWish : PySem.W.typeIn K (.ref C_BadWish) = some (.type "type"))
    (xg_BadWish : PySem.W.findIn K (.ref C_BadWish) "__getattribute__" = some (some (.builtin "BaseException.__getattribute__")))
    (xh_BadWish : PySem.W.findIn K (.ref C_BadWish) "__getattr__" = some none)
    (xo_BadWish : PySem.W.findIn K (.ref C_BadWish) "__class__" = some (some (.builtin "object.__class__")))
    (xi_BadWish : PySem.W.hasDictIn K C_BadWish = true)
    (xl_TooMany : K.lookup C_TooMany = some ⟨xc_TooMany, xd_TooMany, .cls xk_TooMany, xs_TooMany⟩)
    (xm_TooMany : xk_TooMany.mro = .ref C_TooMany :: .ref C_TollError :: bmV)
    (xt_TooMany : PySem.W.typeIn K (.ref C_TooMany) = some (.type "type"))
    (xg_TooMany : PySem.W.findIn K (.ref C_TooMany) "__getattribute__" = some (some (.builtin "BaseException.__getattribute__")))
    (xh_TooMany : PySem.W.findIn K (.ref C_TooMany) "__getattr__" = some none)
    (xo_TooMany : PySem.W.findIn K (.ref C_TooMany) "__class__" = some (some (.builtin "object.__class__")))
    (xi_TooMany : PySem.W.hasDictIn K C_TooMany = true)
    (xl_NoNumber : K.lookup C_NoNumber = some ⟨xc_NoNumber, xd_NoNumber, .cls xk_NoNumber, xs_NoNumber⟩)
    (xm_NoNumber : xk_NoNumber.mro = .ref C_NoNumber :: .ref C_TollError :: bmV)
    (xt_NoNumber : PySem.W.typeIn K (.ref C_NoNumber) = some (.type "type"))
    (xg_NoNumber : PySem.W.findIn K (.ref C_NoNumber) "__getattribute__" = some (some (.builtin "BaseException.__getattribute__")))
    (xh_NoNumber : PySem.W.findIn K (.ref C_NoNumber) "__getattr__" = some none)
    (xo_NoNumber : PySem.W.findIn K (.ref C_NoNumber) "__class__" = some (some (.builtin "object.__class__")))
    (xi_NoNumber : PySem.W.hasDictIn K C_NoNumber = true)
    (xl_BadStep : K.lookup C_BadStep = some ⟨xc_BadStep, xd_BadStep, .cls xk_BadStep, xs_BadStep⟩)
    (xm_BadStep : xk_BadStep.mro = .ref C_BadStep :: .ref C_TollError :: bmV)
    (xt_BadStep : PySem.W.typeIn K (.ref C_BadStep) = some (.type "type"))
    (xg_BadStep : PySem.W.findIn K (.ref C_BadStep) "__getattribute__" = some (some (.builtin "BaseException.__getattribute__")))
    (xh_BadStep : PySem.W.findIn K (.ref C_BadStep) "__getattr__" = some none)
    (xo_BadStep : PySem.W.findIn K (.ref C_BadStep) "__class__" = some (some (.builtin "object.__class__")))
    (xi_BadStep : PySem.W.hasDictIn K C_BadStep = true)
    (xe_BadStep : (⟨xc_BadStep, xd_BadStep, .cls xk_BadStep, xs_BadStep⟩ : Obj) = excClassObj qn_BadStep qq_BadStep C_BadStep qN_BadStep qb_BadStep qm_BadStep qh_BadStep qs_BadStep qu_BadStep qa_BadStep qc_BadStep qd_BadStep q0_BadStep q1_BadStep q2_BadStep q3_BadStep q5_BadStep "ValueError.__new__")
    (xf_BadStep : PySem.W.nsOkIn K qN_BadStep = true)
    (xj_BadStep : PySem.W.nsIn K qN_BadStep "__init__" = some (some (.ref f_BadStep___init__)))
    (xp_BadStep : PySem.W.tailIn K bmV qm_BadStep = true)
    (bg_TollError : PySem.W.specialIn K (.ref C_TollError) "__getattribute__" = some (some (.builtin "type.__getattribute__")))
    (br_TollError : PySem.W.readsIn K C_TollError (.type "type") = true)
    (bf_TollError : PySem.W.findCls K (.ref C_TollError) (.type "type") "__init__" = some (.val (.builtin "ValueError.__init__")))
    (ss_BadStep : PySem.W.findIn K (.ref C_BadStep) "__setattr__" = some (some (.builtin "object.__setattr__")))
    (st_BadStep : PySem.W.findIn K (.ref C_BadStep) "at" = some none)
    (xgs : PySem.W.specialIn K (.builtin "object.__class__") "__get__" = some (some (.builtin "getset_descriptor.__get__")))
    (xtk : PySem.W.takesIn K (.builtin "object.__class__") = some true)
    (xnd : [C_TollError, C_BadWeb, C_NoPlace, C_NoRoad, C_BadLaying, C_BadWish, C_TooMany, C_NoNumber, C_BadStep].Nodup)
    (a_check_counts : PySem.W.nsIn K mainGlobals "check_counts" = some (some (.ref f_check_counts)))
    (l_check_counts : K.lookup f_check_counts = some ⟨oc_check_counts, od_check_counts, .func (PySem.W.fnOf "check_counts" "check_counts" (defArgs s_check_counts) (defBody s_check_counts) (defScope s_check_counts) .none kV_check_counts dc_check_counts pm_check_counts an_check_counts cd_check_counts ct_check_counts), sl_check_counts⟩)
    (c_check_counts : PySem.W.codeIn K cd_check_counts "check_counts" = true)
    (k_check_counts : PySem.W.keepIn K (.ref f_check_counts) = true)
    (a_is_place : PySem.W.nsIn K mainGlobals "is_place" = some (some (.ref f_is_place)))
    (l_is_place : K.lookup f_is_place = some ⟨oc_is_place, od_is_place, .func (PySem.W.fnOf "is_place" "is_place" (defArgs s_is_place) (defBody s_is_place) (defScope s_is_place) .none kV_is_place dc_is_place pm_is_place an_is_place cd_is_place ct_is_place), sl_is_place⟩)
    (c_is_place : PySem.W.codeIn K cd_is_place "is_place" = true)
    (k_is_place : PySem.W.keepIn K (.ref f_is_place) = true)
    (a_check_ends : PySem.W.nsIn K mainGlobals "check_ends" = some (some (.ref f_check_ends)))
    (l_check_ends : K.lookup f_check_ends = some ⟨oc_check_ends, od_check_ends, .func (PySem.W.fnOf "check_ends" "check_ends" (defArgs s_check_ends) (defBody s_check_ends) (defScope s_check_ends) .none kV_check_ends dc_check_ends pm_check_ends an_check_ends cd_check_ends ct_check_ends), sl_check_ends⟩)
    (c_check_ends : PySem.W.codeIn K cd_check_ends "check_ends" = true)
    (k_check_ends : PySem.W.keepIn K (.ref f_check_ends) = true)
    (a_other_ends : PySem.W.nsIn K mainGlobals "other_ends" = some (some (.ref f_other_ends)))
    (l_other_ends : K.lookup f_other_ends = some ⟨oc_other_ends, od_other_ends, .func (PySem.W.fnOf "other_ends" "other_ends" (defArgs s_other_ends) (defBody s_other_ends) (defScope s_other_ends) .none kV_other_ends dc_other_ends pm_other_ends an_other_ends cd_other_ends ct_other_ends), sl_other_ends⟩)
    (c_other_ends : PySem.W.codeIn K cd_other_ends "other_ends" = true)
    (k_other_ends : PySem.W.keepIn K (.ref f_other_ends) = true)
    (a_check_joined : PySem.W.nsIn K mainGlobals "check_joined" = some (some (.ref f_check_joined)))
    (l_check_joined : K.lookup f_check_joined = some ⟨oc_check_joined, od_check_joined, .func (PySem.W.fnOf "check_joined" "check_joined" (defArgs s_check_joined) (defBody s_check_joined) (defScope s_check_joined) .none kV_check_joined dc_check_joined pm_check_joined an_check_joined cd_check_joined ct_check_joined), sl_check_joined⟩)
    (c_check_joined : PySem.W.codeIn K cd_check_joined "check_joined" = true)
    (k_check_joined : PySem.W.keepIn K (.ref f_check_joined) = true)
    (a_check_tolls : PySem.W.nsIn K mainGlobals "check_tolls" = some (some (.ref f_check_tolls)))
    (l_check_tolls : K.lookup f_check_tolls = some ⟨oc_check_tolls, od_check_tolls, .func (PySem.W.fnOf "check_tolls" "check_tolls" (defArgs s_check_tolls) (defBody s_check_tolls) (defScope s_check_tolls) .none kV_check_tolls dc_check_tolls pm_check_tolls an_check_tolls cd_check_tolls ct_check_tolls), sl_check_tolls⟩)
    (c_check_tolls : PySem.W.codeIn K cd_check_tolls "check_tolls" = true)
    (k_check_tolls : PySem.W.keepIn K (.ref f_check_tolls) = true)
    (a_Web___init__ : PySem.W.findIn K (.ref C_Web) "__init__" = some (some (.ref f_Web___init__)))
    (i_Web___init__ : PySem.W.isFn K (.ref f_Web___init__) = true)
    (l_Web___init__ : K.lookup f_Web___init__ = some ⟨oc_Web___init__, od_Web___init__, .func (PySem.W.fnOf "__init__" "Web.__init__" (defArgs s_Web___init__) (defBody s_Web___init__) (defScope s_Web___init__) .none kV_Web___init__ dc_Web___init__ pm_Web___init__ an_Web___init__ cd_Web___init__ ct_Web___init__), sl_Web___init__⟩)
    (c_Web___init__ : PySem.W.codeIn K cd_Web___init__ "Web.__init__" = true)
    (k_Web___init__ : PySem.W.keepIn K (.ref f_Web___init__) = true)
    (a_law_tolls : PySem.W.nsIn K mainGlobals "_law_tolls" = some (some (.ref f_law_tolls)))
    (l_law_tolls : K.lookup f_law_tolls = some ⟨oc_law_tolls, od_law_tolls, .func (PySem.W.fnOf "_law_tolls" "_law_tolls" (defArgs s_law_tolls) (defBody s_law_tolls) (defScope s_law_tolls) .none kV_law_tolls dc_law_tolls pm_law_tolls an_law_tolls cd_law_tolls ct_law_tolls), sl_law_tolls⟩)
    (c_law_tolls : PySem.W.codeIn K cd_law_tolls "_law_tolls" = true)
    (k_law_tolls : PySem.W.keepIn K (.ref f_law_tolls) = true)
    (a_law_amounts : PySem.W.nsIn K mainGlobals "_law_amounts" = some (some (.ref f_law_amounts)))
    (l_law_amounts : K.lookup f_law_amounts = some ⟨oc_law_amounts, od_law_amounts, .func (PySem.W.fnOf "_law_amounts" "_law_amounts" (defArgs s_law_amounts) (defBody s_law_amounts) (defScope s_law_amounts) .none kV_law_amounts dc_law_amounts pm_law_amounts an_law_amounts cd_law_amounts ct_law_amounts), sl_law_amounts⟩)
    (c_law_amounts : PySem.W.codeIn K cd_law_amounts "_law_amounts" = true)
    (k_law_amounts : PySem.W.keepIn K (.ref f_law_amounts) = true)
    (a_law_last : PySem.W.nsIn K mainGlobals "_law_last" = some (some (.ref f_law_last)))
    (l_law_last : K.lookup f_law_last = some ⟨oc_law_last, od_law_last, .func (PySem.W.fnOf "_law_last" "_law_last" (defArgs s_law_last) (defBody s_law_last) (defScope s_law_last) .none kV_law_last dc_law_last pm_law_last an_law_last cd_law_last ct_law_last), sl_law_last⟩)
    (c_law_last : PySem.W.codeIn K cd_law_last "_law_last" = true)
    (k_law_last : PySem.W.keepIn K (.ref f_law_last) = true)
    (a_law_cell : PySem.W.nsIn K mainGlobals "_law_cell" = some (some (.ref f_law_cell)))
    (l_law_cell : K.lookup f_law_cell = some ⟨oc_law_cell, od_law_cell, .func (PySem.W.fnOf "_law_cell" "_law_cell" (defArgs s_law_cell) (defBody s_law_cell) (defScope s_law_cell) .none kV_law_cell dc_law_cell pm_law_cell an_law_cell cd_law_cell ct_law_cell), sl_law_cell⟩)
    (c_law_cell : PySem.W.codeIn K cd_law_cell "_law_cell" = true)
    (k_law_cell : PySem.W.keepIn K (.ref f_law_cell) = true)
    (a_law_row : PySem.W.nsIn K mainGlobals "_law_row" = some (some (.ref f_law_row)))
    (l_law_row : K.lookup f_law_row = some ⟨oc_law_row, od_law_row, .func (PySem.W.fnOf "_law_row" "_law_row" (defArgs s_law_row) (defBody s_law_row) (defScope s_law_row) .none kV_law_row dc_law_row pm_law_row an_law_row cd_law_row ct_law_row), sl_law_row⟩)
    (c_law_row : PySem.W.codeIn K cd_law_row "_law_row" = true)
    (k_law_row : PySem.W.keepIn K (.ref f_law_row) = true)
    (a_law_roads : PySem.W.nsIn K mainGlobals "_law_roads" = some (some (.ref f_law_roads)))
    (l_law_roads : K.lookup f_law_roads = some ⟨oc_law_roads, od_law_roads, .func (PySem.W.fnOf "_law_roads" "_law_roads" (defArgs s_law_roads) (defBody s_law_roads) (defScope s_law_roads) .none kV_law_roads dc_law_roads pm_law_roads an_law_roads cd_law_roads ct_law_roads), sl_law_roads⟩)
    (c_law_roads : PySem.W.codeIn K cd_law_roads "_law_roads" = true)
    (k_law_roads : PySem.W.keepIn K (.ref f_law_roads) = true)
    (a_law_price : PySem.W.nsIn K mainGlobals "_law_price" = some (some (.ref f_law_price)))
    (l_law_price : K.lookup f_law_price = some ⟨oc_law_price, od_law_price, .func (PySem.W.fnOf "_law_price" "_law_price" (defArgs s_law_price) (defBody s_law_price) (defScope s_law_price) .none kV_law_price dc_law_price pm_law_price an_law_price cd_law_price ct_law_price), sl_law_price⟩)
    (c_law_price : PySem.W.codeIn K cd_law_price "_law_price" = true)
    (k_law_price : PySem.W.keepIn K (.ref f_law_price) = true)
    (a_law_can : PySem.W.nsIn K mainGlobals "_law_can" = some (some (.ref f_law_can)))
    (l_law_can : K.lookup f_law_can = some ⟨oc_law_can, od_law_can, .func (PySem.W.fnOf "_law_can" "_law_can" (defArgs s_law_can) (defBody s_law_can) (defScope s_law_can) .none kV_law_can dc_law_can pm_law_can an_law_can cd_law_can ct_law_can), sl_law_can⟩)
    (c_law_can : PySem.W.codeIn K cd_law_can "_law_can" = true)
    (k_law_can : PySem.W.keepIn K (.ref f_law_can) = true)
    (a_law_odd : PySem.W.nsIn K mainGlobals "_law_odd" = some (some (.ref f_law_odd)))
    (l_law_odd : K.lookup f_law_odd = some ⟨oc_law_odd, od_law_odd, .func (PySem.W.fnOf "_law_odd" "_law_odd" (defArgs s_law_odd) (defBody s_law_odd) (defScope s_law_odd) .none kV_law_odd dc_law_odd pm_law_odd an_law_odd cd_law_odd ct_law_odd), sl_law_odd⟩)
    (c_law_odd : PySem.W.codeIn K cd_law_odd "_law_odd" = true)
    (k_law_odd : PySem.W.keepIn K (.ref f_law_odd) = true)
    (a_law_steps : PySem.W.nsIn K mainGlobals "_law_steps" = some (some (.ref f_law_steps)))
    (l_law_steps : K.lookup f_law_steps = some ⟨oc_law_steps, od_law_steps, .func (PySem.W.fnOf "_law_steps" "_law_steps" (defArgs s_law_steps) (defBody s_law_steps) (defScope s_law_steps) .none kV_law_steps dc_law_steps pm_law_steps an_law_steps cd_law_steps ct_law_steps), sl_law_steps⟩)
    (c_law_steps : PySem.W.codeIn K cd_law_steps "_law_steps" = true)
    (k_law_steps : PySem.W.keepIn K (.ref f_law_steps) = true)
    (a_law_kind : PySem.W.nsIn K mainGlobals "_law_kind" = some (some (.ref f_law_kind)))
    (l_law_kind : K.lookup f_law_kind = some ⟨oc_law_kind, od_law_kind, .func (PySem.W.fnOf "_law_kind" "_law_kind" (defArgs s_law_kind) (defBody s_law_kind) (defScope s_law_kind) .none kV_law_kind dc_law_kind pm_law_kind an_law_kind cd_law_kind ct_law_kind), sl_law_kind⟩)
    (c_law_kind : PySem.W.codeIn K cd_law_kind "_law_kind" = true)
    (k_law_kind : PySem.W.keepIn K (.ref f_law_kind) = true)
    (a_BadStep___init__ : PySem.W.findIn K (.ref C_BadStep) "__init__" = some (some (.ref f_BadStep___init__)))
    (i_BadStep___init__ : PySem.W.isFn K (.ref f_BadStep___init__) = true)
    (l_BadStep___init__ : K.lookup f_BadStep___init__ = some ⟨oc_BadStep___init__, od_BadStep___init__, .func (PySem.W.fnOf "__init__" "BadStep.__init__" (defArgs s_BadStep___init__) (defBody s_BadStep___init__) (defScope s_BadStep___init__) .none kV_BadStep___init__ dc_BadStep___init__ pm_BadStep___init__ an_BadStep___init__ cd_BadStep___init__ ct_BadStep___init__), sl_BadStep___init__⟩)
    (c_BadStep___init__ : PySem.W.codeIn K cd_BadStep___init__ "BadStep.__init__" = true)
    (k_BadStep___init__ : PySem.W.keepIn K (.ref f_BadStep___init__) = true)
    (a_check_place : PySem.W.nsIn K mainGlobals "check_place" = some (some (.ref f_check_place)))
    (l_check_place : K.lookup f_check_place = some ⟨oc_check_place, od_check_place, .func (PySem.W.fnOf "check_place" "check_place" (defArgs s_check_place) (defBody s_check_place) (defScope s_check_place) .none kV_check_place dc_check_place pm_check_place an_check_place cd_check_place ct_check_place), sl_check_place⟩)
    (c_check_place : PySem.W.codeIn K cd_check_place "check_place" = true)
    (k_check_place : PySem.W.keepIn K (.ref f_check_place) = true)
    (a_toll : PySem.W.nsIn K mainGlobals "toll" = some (some (.ref f_toll)))
    (l_toll : K.lookup f_toll = some ⟨oc_toll, od_toll, .func (PySem.W.fnOf "toll" "toll" (defArgs s_toll) (defBody s_toll) (defScope s_toll) .none kV_toll dc_toll pm_toll an_toll cd_toll ct_toll), sl_toll⟩)
    (c_toll : PySem.W.codeIn K cd_toll "toll" = true)
    (k_toll : PySem.W.keepIn K (.ref f_toll) = true)
    (a_taken : PySem.W.nsIn K mainGlobals "taken" = some (some (.ref f_taken)))
    (l_taken : K.lookup f_taken = some ⟨oc_taken, od_taken, .func (PySem.W.fnOf "taken" "taken" (defArgs s_taken) (defBody s_taken) (defScope s_taken) .none kV_taken dc_taken pm_taken an_taken cd_taken ct_taken), sl_taken⟩)
    (c_taken : PySem.W.codeIn K cd_taken "taken" = true)
    (k_taken : PySem.W.keepIn K (.ref f_taken) = true)
    (a_behind : PySem.W.nsIn K mainGlobals "behind" = some (some (.ref f_behind)))
    (l_behind : K.lookup f_behind = some ⟨oc_behind, od_behind, .func (PySem.W.fnOf "behind" "behind" (defArgs s_behind) (defBody s_behind) (defScope s_behind) .none kV_behind dc_behind pm_behind an_behind cd_behind ct_behind), sl_behind⟩)
    (c_behind : PySem.W.codeIn K cd_behind "behind" = true)
    (k_behind : PySem.W.keepIn K (.ref f_behind) = true)
    (a_neighbours : PySem.W.nsIn K mainGlobals "neighbours" = some (some (.ref f_neighbours)))
    (l_neighbours : K.lookup f_neighbours = some ⟨oc_neighbours, od_neighbours, .func (PySem.W.fnOf "neighbours" "neighbours" (defArgs s_neighbours) (defBody s_neighbours) (defScope s_neighbours) .none kV_neighbours dc_neighbours pm_neighbours an_neighbours cd_neighbours ct_neighbours), sl_neighbours⟩)
    (c_neighbours : PySem.W.codeIn K cd_neighbours "neighbours" = true)
    (k_neighbours : PySem.W.keepIn K (.ref f_neighbours) = true)
    (a_is_step : PySem.W.nsIn K mainGlobals "is_step" = some (some (.ref f_is_step)))
    (l_is_step : K.lookup f_is_step = some ⟨oc_is_step, od_is_step, .func (PySem.W.fnOf "is_step" "is_step" (defArgs s_is_step) (defBody s_is_step) (defScope s_is_step) .none kV_is_step dc_is_step pm_is_step an_is_step cd_is_step ct_is_step), sl_is_step⟩)
    (c_is_step : PySem.W.codeIn K cd_is_step "is_step" = true)
    (k_is_step : PySem.W.keepIn K (.ref f_is_step) = true)
    (a_can_be_done : PySem.W.nsIn K mainGlobals "can_be_done" = some (some (.ref f_can_be_done)))
    (l_can_be_done : K.lookup f_can_be_done = some ⟨oc_can_be_done, od_can_be_done, .func (PySem.W.fnOf "can_be_done" "can_be_done" (defArgs s_can_be_done) (defBody s_can_be_done) (defScope s_can_be_done) .none kV_can_be_done dc_can_be_done pm_can_be_done an_can_be_done cd_can_be_done ct_can_be_done), sl_can_be_done⟩)
    (c_can_be_done : PySem.W.codeIn K cd_can_be_done "can_be_done" = true)
    (k_can_be_done : PySem.W.keepIn K (.ref f_can_be_done) = true)
    (a_is_filled : PySem.W.nsIn K mainGlobals "is_filled" = some (some (.ref f_is_filled)))
    (l_is_filled : K.lookup f_is_filled = some ⟨oc_is_filled, od_is_filled, .func (PySem.W.fnOf "is_filled" "is_filled" (defArgs s_is_filled) (defBody s_is_filled) (defScope s_is_filled) .none kV_is_filled dc_is_filled pm_is_filled an_is_filled cd_is_filled ct_is_filled), sl_is_filled⟩)
    (c_is_filled : PySem.W.codeIn K cd_is_filled "is_filled" = true)
    (k_is_filled : PySem.W.keepIn K (.ref f_is_filled) = true)
    (a_laying_of : PySem.W.nsIn K mainGlobals "laying_of" = some (some (.ref f_laying_of)))
    (l_laying_of : K.lookup f_laying_of = some ⟨oc_laying_of, od_laying_of, .func (PySem.W.fnOf "laying_of" "laying_of" (defArgs s_laying_of) (defBody s_laying_of) (defScope s_laying_of) .none kV_laying_of dc_laying_of pm_laying_of an_laying_of cd_laying_of ct_laying_of), sl_laying_of⟩)
    (c_laying_of : PySem.W.codeIn K cd_laying_of "laying_of" = true)
    (k_laying_of : PySem.W.keepIn K (.ref f_laying_of) = true)
    (a_layings : PySem.W.nsIn K mainGlobals "layings" = some (some (.ref f_layings)))
    (l_layings : K.lookup f_layings = some ⟨oc_layings, od_layings, .func (PySem.W.fnOf "layings" "layings" (defArgs s_layings) (defBody s_layings) (defScope s_layings) .none kV_layings dc_layings pm_layings an_layings cd_layings ct_layings), sl_layings⟩)
    (c_layings : PySem.W.codeIn K cd_layings "layings" = true)
    (k_layings : PySem.W.keepIn K (.ref f_layings) = true)
    (a_walked : PySem.W.nsIn K mainGlobals "walked" = some (some (.ref f_walked)))
    (l_walked : K.lookup f_walked = some ⟨oc_walked, od_walked, .func (PySem.W.fnOf "walked" "walked" (defArgs s_walked) (defBody s_walked) (defScope s_walked) .none kV_walked dc_walked pm_walked an_walked cd_walked ct_walked), sl_walked⟩)
    (c_walked : PySem.W.codeIn K cd_walked "walked" = true)
    (k_walked : PySem.W.keepIn K (.ref f_walked) = true)
    (a_law_told : PySem.W.nsIn K mainGlobals "_law_told" = some (some (.ref f_law_told)))
    (l_law_told : K.lookup f_law_told = some ⟨oc_law_told, od_law_told, .func (PySem.W.fnOf "_law_told" "_law_told" (defArgs s_law_told) (defBody s_law_told) (defScope s_law_told) .none kV_law_told dc_law_told pm_law_told an_law_told cd_law_told ct_law_told), sl_law_told⟩)
    (c_law_told : PySem.W.codeIn K cd_law_told "_law_told" = true)
    (k_law_told : PySem.W.keepIn K (.ref f_law_told) = true)
    (a_law_whole : PySem.W.nsIn K mainGlobals "_law_whole" = some (some (.ref f_law_whole)))
    (l_law_whole : K.lookup f_law_whole = some ⟨oc_law_whole, od_law_whole, .func (PySem.W.fnOf "_law_whole" "_law_whole" (defArgs s_law_whole) (defBody s_law_whole) (defScope s_law_whole) .none kV_law_whole dc_law_whole pm_law_whole an_law_whole cd_law_whole ct_law_whole), sl_law_whole⟩)
    (c_law_whole : PySem.W.codeIn K cd_law_whole "_law_whole" = true)
    (k_law_whole : PySem.W.keepIn K (.ref f_law_whole) = true)
    (a_law : PySem.W.nsIn K mainGlobals "law" = some (some (.ref f_law)))
    (l_law : K.lookup f_law = some ⟨oc_law, od_law, .func (PySem.W.fnOf "law" "law" (defArgs s_law) (defBody s_law) (defScope s_law) .none kV_law dc_law pm_law an_law cd_law ct_law), sl_law⟩)
    (c_law : PySem.W.codeIn K cd_law "law" = true)
    (k_law : PySem.W.keepIn K (.ref f_law) = true)
    (pg_Web : PySem.W.plainGet K C_Web Str.empty = true)
    (hd_Web : PySem.W.hasDictIn K C_Web = true)
    (po_Web : PySem.W.plainOver K C_Web = true)
    (sa_Web : PySem.W.findIn K (.ref C_Web) "__setattr__" = some (some (.builtin "object.__setattr__")))
    (mk_Web : PySem.W.makesIn K C_Web = true)
    (kc_Web : PySem.W.keepIn K (.ref C_Web) = true)
    (nm_Web : PySem.W.findIn K (.ref C_Web) "many" = some none)
    (nr_Web : PySem.W.findIn K (.ref C_Web) "roads" = some none)
    (z_range : PySem.W.nsIn K mainGlobals "range" = some none)
    (z_len : PySem.W.nsIn K mainGlobals "len" = some none)
    (z_isinstance : PySem.W.nsIn K mainGlobals "isinstance" = some none)
    (z_all : PySem.W.nsIn K mainGlobals "all" = some none)
    (z_any : PySem.W.nsIn K mainGlobals "any" = some none)
    (z_int : PySem.W.nsIn K mainGlobals "int" = some none)
    (z_bool : PySem.W.nsIn K mainGlobals "bool" = some none)
    (z_tuple : PySem.W.nsIn K mainGlobals "tuple" = some none)
    (z_list : PySem.W.nsIn K mainGlobals "list" = some none)
    (z_sorted : PySem.W.nsIn K mainGlobals "sorted" = some none)
    (z_max : PySem.W.nsIn K mainGlobals "max" = some none)
    (z_enumerate : PySem.W.nsIn K mainGlobals "enumerate" = some none)
    (z_str : PySem.W.nsIn K mainGlobals "str" = some none)
    (z_ValueError : PySem.W.nsIn K mainGlobals "ValueError" = some none)
    (v_MOST_PLACES : PySem.W.nsIn K mainGlobals "MOST_PLACES" = some (some (.int 24 t_MOST_PLACES)))
    (v_LEAST_TOLL : PySem.W.nsIn K mainGlobals "LEAST_TOLL" = some (some (.int 2 t_LEAST_TOLL)))
    (v_MOST_TOLL : PySem.W.nsIn K mainGlobals "MOST_TOLL" = some (some (.int 1000000 t_MOST_TOLL))) :
    ∃ fd : FuncData, (∀ (s : Shared) (v : Value), BindsTo s fd ⟨[v], []⟩ [("script", v)]) ∧ ∀ base : Heap, K.In base → base.Ns mainGlobals mg → FnOk l.prog w K mg base (CXe l.prog w) 9 fa fd ["script"] (spLaw K) := by
  have e := hfa.symm.trans (PySem.W.mg_of X G a_law)
  cases e
  let T : Txt K mg := ⟨C_TollError, PySem.W.mg_of X G ac_TollError, C_BadWeb, PySem.W.mg_of X G ac_BadWeb, C_NoPlace, PySem.W.mg_of X G ac_NoPlace, C_NoRoad, PySem.W.mg_of X G ac_NoRoad, C_BadLaying, PySem.W.mg_of X G ac_BadLaying, C_BadWish, PySem.W.mg_of X G ac_BadWish, C_TooMany, PySem.W.mg_of X G ac_TooMany, C_NoNumber, PySem.W.mg_of X G ac_NoNumber, C_BadStep, PySem.W.mg_of X G ac_BadStep, C_Web, PySem.W.mg_of X G ac_Web, xtop_of xt_TollError xg_TollError xh_TollError xo_TollError xgs xtk xi_TollError xl_TollError xm_TollError, xerr_mk xt_BadWeb xg_BadWeb xh_BadWeb xo_BadWeb xgs xtk xi_BadWeb xl_BadWeb xm_BadWeb, xerr_mk xt_NoPlace xg_NoPlace xh_NoPlace xo_NoPlace xgs xtk xi_NoPlace xl_NoPlace xm_NoPlace, xobj_mk _ _ _ _ _ _ _ _ _ _ _ _ _ _ _ _ xl_NoPlace xe_NoPlace xf_NoPlace xj_NoPlace xp_NoPlace, xerr_mk xt_NoRoad xg_NoRoad xh_NoRoad xo_NoRoad xgs xtk xi_NoRoad xl_NoRoad xm_NoRoad, xobj_mk _ _ _ _ _ _ _ _ _ _ _ _ _ _ _ _ xl_NoRoad xe_NoRoad xf_NoRoad xj_NoRoad xp_NoRoad, xerr_mk xt_BadLaying xg_BadLaying xh_BadLaying xo_BadLaying xgs xtk xi_BadLaying xl_BadLaying xm_BadLaying, xobj_mk _ _ _ _ _ _ _ _ _ _ _ _ _ _ _ _ xl_BadLaying xe_BadLaying xf_BadLaying xj_BadLaying xp_BadLaying, xerr_mk xt_BadWish xg_BadWish xh_BadWish xo_BadWish xgs xtk xi_BadWish xl_BadWish xm_BadWish, xerr_mk xt_TooMany xg_TooMany xh_TooMany xo_TooMany xgs xtk xi_TooMany xl_TooMany xm_TooMany, xerr_mk xt_NoNumber xg_NoNumber xh_NoNumber xo_NoNumber xgs xtk xi_NoNumber xl_NoNumber xm_NoNumber, xerr_mk xt_BadStep xg_BadStep xh_BadStep xo_BadStep xgs xtk xi_BadStep xl_BadStep xm_BadStep, ⟨bg_TollError, br_TollError, bf_TollError⟩, xset_mk xl_BadStep xm_BadStep xi_BadStep ss_BadStep st_BadStep, st_BadStep, xnd, PySem.W.mg_none_of X G z_range, PySem.W.mg_none_of X G z_len, PySem.W.mg_none_of X G z_isinstance, PySem.W.mg_none_of X G z_all, PySem.W.mg_none_of X G z_any, PySem.W.mg_none_of X G z_int, PySem.W.mg_none_of X G z_bool, PySem.W.mg_none_of X G z_tuple, PySem.W.mg_none_of X G z_list, PySem.W.mg_none_of X G z_sorted, PySem.W.mg_none_of X G z_max, PySem.W.mg_none_of X G z_enumerate, PySem.W.mg_none_of X G z_str, PySem.W.mg_none_of X G z_ValueError, ⟨_, PySem.W.mg_of X G v_MOST_PLACES⟩, ⟨_, PySem.W.mg_of X G v_LEAST_TOLL⟩, ⟨_, PySem.W.mg_of X G v_MOST_TOLL⟩, ⟨pg_Web, hd_Web, po_Web, sa_Web⟩, nm_Web, nr_Web⟩
  have F_check_counts := fun_mk (st := s_check_counts) l_check_counts c_check_counts k_check_counts
  have b_check_counts := F_check_counts.binds (ps := ["many", "roads"]) fun _ _ _ _ _ _ us hl => by obtain ⟨u0, u1, rfl⟩ := us2 hl; rfl
  have D_check_counts : Df K mg "check_counts" s_check_counts ["many", "roads"] f_check_counts _ := ⟨F_check_counts, PySem.W.mg_of X G a_check_counts, b_check_counts⟩
  have F_is_place := fun_mk (st := s_is_place) l_is_place c_is_place k_is_place
  have b_is_place := F_is_place.binds (ps := ["many", "number"]) fun _ _ _ _ _ _ us hl => by obtain ⟨u0, u1, rfl⟩ := us2 hl; rfl
  have D_is_place : Df K mg "is_place" s_is_place ["many", "number"] f_is_place _ := ⟨F_is_place, PySem.W.mg_of X G a_is_place, b_is_place⟩
  have F_check_ends := fun_mk (st := s_check_ends) l_check_ends c_check_ends k_check_ends
  have b_check_ends := F_check_ends.binds (ps := ["many", "road"]) fun _ _ _ _ _ _ us hl => by obtain ⟨u0, u1, rfl⟩ := us2 hl; rfl
  have D_check_ends : Df K mg "check_ends" s_check_ends ["many", "road"] f_check_ends _ := ⟨F_check_ends, PySem.W.mg_of X G a_check_ends, b_check_ends⟩
  have F_other_ends := fun_mk (st := s_other_ends) l_other_ends c_other_ends k_other_ends
  have b_other_ends := F_other_ends.binds (ps := ["roads", "place"]) fun _ _ _ _ _ _ us hl => by obtain ⟨u0, u1, rfl⟩ := us2 hl; rfl
  have D_other_ends : Df K mg "other_ends" s_other_ends ["roads", "place"] f_other_ends _ := ⟨F_other_ends, PySem.W.mg_of X G a_other_ends, b_other_ends⟩
  have F_check_joined := fun_mk (st := s_check_joined) l_check_joined c_check_joined k_check_joined
  have b_check_joined := F_check_joined.binds (ps := ["many", "roads"]) fun _ _ _ _ _ _ us hl => by obtain ⟨u0, u1, rfl⟩ := us2 hl; rfl
  have D_check_joined : Df K mg "check_joined" s_check_joined ["many", "roads"] f_check_joined _ := ⟨F_check_joined, PySem.W.mg_of X G a_check_joined, b_check_joined⟩
  have F_check_tolls := fun_mk (st := s_check_tolls) l_check_tolls c_check_tolls k_check_tolls
  have b_check_tolls := F_check_tolls.binds (ps := ["road"]) fun _ _ _ _ _ _ us hl => by obtain ⟨u0, rfl⟩ := us1 hl; rfl
  have D_check_tolls : Df K mg "check_tolls" s_check_tolls ["road"] f_check_tolls _ := ⟨F_check_tolls, PySem.W.mg_of X G a_check_tolls, b_check_tolls⟩
  have F_Web___init__ := fun_mk (st := s_Web___init__) l_Web___init__ c_Web___init__ k_Web___init__
  have b_Web := F_Web___init__.binds (ps := ["self", "many", "roads"]) fun _ _ _ _ _ _ us hl => by obtain ⟨u0, u1, u2, rfl⟩ := us3 hl; rfl
  have F_law_tolls := fun_mk (st := s_law_tolls) l_law_tolls c_law_tolls k_law_tolls
  have b_law_tolls := F_law_tolls.binds (ps := ["t"]) fun _ _ _ _ _ _ us hl => by obtain ⟨u0, rfl⟩ := us1 hl; rfl
  have D_law_tolls : Df K mg "_law_tolls" s_law_tolls ["t"] f_law_tolls _ := ⟨F_law_tolls, PySem.W.mg_of X G a_law_tolls, b_law_tolls⟩
  have F_law_amounts := fun_mk (st := s_law_amounts) l_law_amounts c_law_amounts k_law_amounts
  have b_law_amounts := F_law_amounts.binds (ps := ["script", "many"]) fun _ _ _ _ _ _ us hl => by obtain ⟨u0, u1, rfl⟩ := us2 hl; rfl
  have D_law_amounts : Df K mg "_law_amounts" s_law_amounts ["script", "many"] f_law_amounts _ := ⟨F_law_amounts, PySem.W.mg_of X G a_law_amounts, b_law_amounts⟩
  have F_law_last := fun_mk (st := s_law_last) l_law_last c_law_last k_law_last
  have b_law_last := F_law_last.binds (ps := ["script"]) fun _ _ _ _ _ _ us hl => by obtain ⟨u0, rfl⟩ := us1 hl; rfl
  have D_law_last : Df K mg "_law_last" s_law_last ["script"] f_law_last _ := ⟨F_law_last, PySem.W.mg_of X G a_law_last, b_law_last⟩
  have F_law_cell := fun_mk (st := s_law_cell) l_law_cell c_law_cell k_law_cell
  have b_law_cell := F_law_cell.binds (ps := ["script", "k"]) fun _ _ _ _ _ _ us hl => by obtain ⟨u0, u1, rfl⟩ := us2 hl; rfl
  have D_law_cell : Df K mg "_law_cell" s_law_cell ["script", "k"] f_law_cell _ := ⟨F_law_cell, PySem.W.mg_of X G a_law_cell, b_law_cell⟩
  have F_law_row := fun_mk (st := s_law_row) l_law_row c_law_row k_law_row
  have b_law_row := F_law_row.binds (ps := ["cell", "mode", "many", "base"]) fun _ _ _ _ _ _ us hl => by obtain ⟨u0, u1, u2, u3, rfl⟩ := us4 hl; rfl
  have D_law_row : Df K mg "_law_row" s_law_row ["cell", "mode", "many", "base"] f_law_row _ := ⟨F_law_row, PySem.W.mg_of X G a_law_row, b_law_row⟩
  have F_law_roads := fun_mk (st := s_law_roads) l_law_roads c_law_roads k_law_roads
  have b_law_roads := F_law_roads.binds (ps := ["script"]) fun _ _ _ _ _ _ us hl => by obtain ⟨u0, rfl⟩ := us1 hl; rfl
  have D_law_roads : Df K mg "_law_roads" s_law_roads ["script"] f_law_roads _ := ⟨F_law_roads, PySem.W.mg_of X G a_law_roads, b_law_roads⟩
  have F_law_price := fun_mk (st := s_law_price) l_law_price c_law_price k_law_price
  have b_law_price := F_law_price.binds (ps := ["roads", "a", "b"]) fun _ _ _ _ _ _ us hl => by obtain ⟨u0, u1, u2, rfl⟩ := us3 hl; rfl
  have D_law_price : Df K mg "_law_price" s_law_price ["roads", "a", "b"] f_law_price _ := ⟨F_law_price, PySem.W.mg_of X G a_law_price, b_law_price⟩
  have F_law_can := fun_mk (st := s_law_can) l_law_can c_law_can k_law_can
  have b_law_can := F_law_can.binds (ps := ["roads", "held", "step"]) fun _ _ _ _ _ _ us hl => by obtain ⟨u0, u1, u2, rfl⟩ := us3 hl; rfl
  have D_law_can : Df K mg "_law_can" s_law_can ["roads", "held", "step"] f_law_can _ := ⟨F_law_can, PySem.W.mg_of X G a_law_can, b_law_can⟩
  have F_law_odd := fun_mk (st := s_law_odd) l_law_odd c_law_odd k_law_odd
  have b_law_odd := F_law_odd.binds (ps := ["cell", "many", "roads", "held"]) fun _ _ _ _ _ _ us hl => by obtain ⟨u0, u1, u2, u3, rfl⟩ := us4 hl; rfl
  have D_law_odd : Df K mg "_law_odd" s_law_odd ["cell", "many", "roads", "held"] f_law_odd _ := ⟨F_law_odd, PySem.W.mg_of X G a_law_odd, b_law_odd⟩
  have F_law_steps := fun_mk (st := s_law_steps) l_law_steps c_law_steps k_law_steps
  have b_law_steps := F_law_steps.binds (ps := ["script", "many", "roads", "held", "odd"]) fun _ _ _ _ _ _ us hl => by obtain ⟨u0, u1, u2, u3, u4, rfl⟩ := us5 hl; rfl
  have D_law_steps : Df K mg "_law_steps" s_law_steps ["script", "many", "roads", "held", "odd"] f_law_steps _ := ⟨F_law_steps, PySem.W.mg_of X G a_law_steps, b_law_steps⟩
  have F_law_kind := fun_mk (st := s_law_kind) l_law_kind c_law_kind k_law_kind
  have b_law_kind := F_law_kind.binds (ps := ["e"]) fun _ _ _ _ _ _ us hl => by obtain ⟨u0, rfl⟩ := us1 hl; rfl
  have D_law_kind : Df K mg "_law_kind" s_law_kind ["e"] f_law_kind _ := ⟨F_law_kind, PySem.W.mg_of X G a_law_kind, b_law_kind⟩
  have F_BadStep___init__ := fun_mk (st := s_BadStep___init__) l_BadStep___init__ c_BadStep___init__ k_BadStep___init__
  have b_BadStep := F_BadStep___init__.binds (ps := ["self", "at"]) fun _ _ _ _ _ _ us hl => by obtain ⟨u0, u1, rfl⟩ := us2 hl; rfl
  have F_check_place := fun_mk (st := s_check_place) l_check_place c_check_place k_check_place
  have b_check_place := F_check_place.binds (ps := ["web", "number"]) fun _ _ _ _ _ _ us hl => by obtain ⟨u0, u1, rfl⟩ := us2 hl; rfl
  have D_check_place : Df K mg "check_place" s_check_place ["web", "number"] f_check_place _ := ⟨F_check_place, PySem.W.mg_of X G a_check_place, b_check_place⟩
  have F_toll := fun_mk (st := s_toll) l_toll c_toll k_toll
  have b_toll := F_toll.binds (ps := ["web", "a", "b"]) fun _ _ _ _ _ _ us hl => by obtain ⟨u0, u1, u2, rfl⟩ := us3 hl; rfl
  have D_toll : Df K mg "toll" s_toll ["web", "a", "b"] f_toll _ := ⟨F_toll, PySem.W.mg_of X G a_toll, b_toll⟩
  have F_taken := fun_mk (st := s_taken) l_taken c_taken k_taken
  have b_taken := F_taken.binds (ps := ["web", "step"]) fun _ _ _ _ _ _ us hl => by obtain ⟨u0, u1, rfl⟩ := us2 hl; rfl
  have D_taken : Df K mg "taken" s_taken ["web", "step"] f_taken _ := ⟨F_taken, PySem.W.mg_of X G a_taken, b_taken⟩
  have F_behind := fun_mk (st := s_behind) l_behind c_behind k_behind
  have b_behind := F_behind.binds (ps := ["web", "laying", "step"]) fun _ _ _ _ _ _ us hl => by obtain ⟨u0, u1, u2, rfl⟩ := us3 hl; rfl
  have D_behind : Df K mg "behind" s_behind ["web", "laying", "step"] f_behind _ := ⟨F_behind, PySem.W.mg_of X G a_behind, b_behind⟩
  have F_neighbours := fun_mk (st := s_neighbours) l_neighbours c_neighbours k_neighbours
  have b_neighbours := F_neighbours.binds (ps := ["web", "a"]) fun _ _ _ _ _ _ us hl => by obtain ⟨u0, u1, rfl⟩ := us2 hl; rfl
  have D_neighbours : Df K mg "neighbours" s_neighbours ["web", "a"] f_neighbours _ := ⟨F_neighbours, PySem.W.mg_of X G a_neighbours, b_neighbours⟩
  have F_is_step := fun_mk (st := s_is_step) l_is_step c_is_step k_is_step
  have b_is_step := F_is_step.binds (ps := ["web", "step"]) fun _ _ _ _ _ _ us hl => by obtain ⟨u0, u1, rfl⟩ := us2 hl; rfl
  have D_is_step : Df K mg "is_step" s_is_step ["web", "step"] f_is_step _ := ⟨F_is_step, PySem.W.mg_of X G a_is_step, b_is_step⟩
  have F_can_be_done := fun_mk (st := s_can_be_done) l_can_be_done c_can_be_done k_can_be_done
  have b_can_be_done := F_can_be_done.binds (ps := ["web", "laying", "step"]) fun _ _ _ _ _ _ us hl => by obtain ⟨u0, u1, u2, rfl⟩ := us3 hl; rfl
  have D_can_be_done : Df K mg "can_be_done" s_can_be_done ["web", "laying", "step"] f_can_be_done _ := ⟨F_can_be_done, PySem.W.mg_of X G a_can_be_done, b_can_be_done⟩
  have F_is_filled := fun_mk (st := s_is_filled) l_is_filled c_is_filled k_is_filled
  have b_is_filled := F_is_filled.binds (ps := ["web", "numbers"]) fun _ _ _ _ _ _ us hl => by obtain ⟨u0, u1, rfl⟩ := us2 hl; rfl
  have D_is_filled : Df K mg "is_filled" s_is_filled ["web", "numbers"] f_is_filled _ := ⟨F_is_filled, PySem.W.mg_of X G a_is_filled, b_is_filled⟩
  have F_laying_of := fun_mk (st := s_laying_of) l_laying_of c_laying_of k_laying_of
  have b_laying_of := F_laying_of.binds (ps := ["web", "numbers"]) fun _ _ _ _ _ _ us hl => by obtain ⟨u0, u1, rfl⟩ := us2 hl; rfl
  have D_laying_of : Df K mg "laying_of" s_laying_of ["web", "numbers"] f_laying_of _ := ⟨F_laying_of, PySem.W.mg_of X G a_laying_of, b_laying_of⟩
  have F_layings := fun_mk (st := s_layings) l_layings c_layings k_layings
  have b_layings := F_layings.binds (ps := ["web", "laying", "steps"]) fun _ _ _ _ _ _ us hl => by obtain ⟨u0, u1, u2, rfl⟩ := us3 hl; rfl
  have D_layings : Df K mg "layings" s_layings ["web", "laying", "steps"] f_layings _ := ⟨F_layings, PySem.W.mg_of X G a_layings, b_layings⟩
  have F_walked := fun_mk (st := s_walked) l_walked c_walked k_walked
  have b_walked := F_walked.binds (ps := ["web", "laying", "steps"]) fun _ _ _ _ _ _ us hl => by obtain ⟨u0, u1, u2, rfl⟩ := us3 hl; rfl
  have D_walked : Df K mg "walked" s_walked ["web", "laying", "steps"] f_walked _ := ⟨F_walked, PySem.W.mg_of X G a_walked, b_walked⟩
  have F_law_told := fun_mk (st := s_law_told) l_law_told c_law_told k_law_told
  have b_law_told := F_law_told.binds (ps := ["which", "web", "laying", "steps"]) fun _ _ _ _ _ _ us hl => by obtain ⟨u0, u1, u2, u3, rfl⟩ := us4 hl; rfl
  have D_law_told : Df K mg "_law_told" s_law_told ["which", "web", "laying", "steps"] f_law_told _ := ⟨F_law_told, PySem.W.mg_of X G a_law_told, b_law_told⟩
  have F_law_whole := fun_mk (st := s_law_whole) l_law_whole c_law_whole k_law_whole
  have b_law_whole := F_law_whole.binds (ps := ["found"]) fun _ _ _ _ _ _ us hl => by obtain ⟨u0, rfl⟩ := us1 hl; rfl
  have D_law_whole : Df K mg "_law_whole" s_law_whole ["found"] f_law_whole _ := ⟨F_law_whole, PySem.W.mg_of X G a_law_whole, b_law_whole⟩
  have F_law := fun_mk (st := s_law) l_law c_law k_law
  have b_law := F_law.binds (ps := ["script"]) fun _ _ _ _ _ _ us hl => by obtain ⟨u0, rfl⟩ := us1 hl; rfl
  have D_law : Df K mg "law" s_law ["script"] fa _ := ⟨F_law, PySem.W.mg_of X G a_law, b_law⟩
  refine ⟨PySem.W.fnOf "law" "law" (defArgs s_law) (defBody s_law) (defScope s_law) .none kV_law dc_law pm_law an_law cd_law ct_law, fun s v => .of_eq rfl, fun base _ _ => ?_⟩
  have M_Web : Mk K T.Web f_Web___init__ := ⟨mk_Web, a_Web___init__, i_Web___init__, kc_Web⟩
  have M_BadStep : XObjI K T.BadStep f_BadStep___init__ := xobjI_mk _ _ _ _ _ _ _ _ _ _ _ _ _ _ _ _ xl_BadStep xe_BadStep xf_BadStep xj_BadStep xp_BadStep i_BadStep___init__
  have G_check_counts := ok_check_counts (P := l.prog) (w := w) (base := base) T quietE D_check_counts
  have G_is_place := ok_is_place (P := l.prog) (w := w) (base := base) T quietE D_is_place
  have G_check_ends := ok_check_ends (P := l.prog) (w := w) (base := base) T quietE D_check_ends D_is_place G_is_place
  have G_other_ends := ok_other_ends (P := l.prog) (w := w) (base := base) T quietE D_other_ends
  have G_check_joined := ok_check_joined (P := l.prog) (w := w) (base := base) T quietE D_check_joined D_other_ends G_other_ends
  have G_check_tolls := ok_check_tolls (P := l.prog) (w := w) (base := base) T quietE D_check_tolls
  have G_Web_init := ok_Web___init__ (P := l.prog) (w := w) (base := base) T quietE F_Web___init__ D_check_counts G_check_counts D_check_ends G_check_ends D_check_joined G_check_joined D_check_tolls G_check_tolls
  have G_law_tolls := ok_law_tolls (P := l.prog) (w := w) (base := base) T quietE D_law_tolls
  have G_law_amounts := ok_law_amounts (P := l.prog) (w := w) (base := base) T quietE D_law_amounts
  have G_law_last := ok_law_last (P := l.prog) (w := w) (base := base) T quietE D_law_last
  have G_law_cell := ok_law_cell (P := l.prog) (w := w) (base := base) T quietE D_law_cell
  have G_law_row := ok_law_row (P := l.prog) (w := w) (base := base) T quietE D_law_row
  have G_law_roads := ok_law_roads (P := l.prog) (w := w) (base := base) T quietE D_law_roads D_law_cell G_law_cell D_law_row G_law_row D_law_tolls G_law_tolls
  have G_law_price := ok_law_price (P := l.prog) (w := w) (base := base) T quietE D_law_price
  have G_law_can := ok_law_can (P := l.prog) (w := w) (base := base) T quietE D_law_can D_law_price G_law_price
  have G_law_odd := ok_law_odd (P := l.prog) (w := w) (base := base) T quietE D_law_odd
  have G_law_steps := ok_law_steps (P := l.prog) (w := w) (base := base) T quietE D_law_steps D_law_can G_law_can D_law_odd G_law_odd D_law_price G_law_price
  have G_law_kind := ok_law_kind (P := l.prog) (w := w) (base := base) T quietE D_law_kind
  have G_BadStep_init := ok_BadStep___init__ (P := l.prog) (w := w) (base := base) T quietE F_BadStep___init__
  have G_check_place := ok_check_place (P := l.prog) (w := w) (base := base) T quietE D_check_place D_is_place G_is_place
  have G_toll := ok_toll (P := l.prog) (w := w) (base := base) T quietE D_toll D_check_place G_check_place
  have G_taken := ok_taken (P := l.prog) (w := w) (base := base) T quietE D_taken D_toll G_toll
  have G_behind := ok_behind (P := l.prog) (w := w) (base := base) T quietE D_behind D_taken G_taken
  have G_neighbours := ok_neighbours (P := l.prog) (w := w) (base := base) T quietE D_neighbours D_check_place G_check_place D_other_ends G_other_ends
  have G_is_step := ok_is_step (P := l.prog) (w := w) (base := base) T quietE D_is_step D_is_place G_is_place D_neighbours G_neighbours
  have G_can_be_done := ok_can_be_done (P := l.prog) (w := w) (base := base) T quietE D_can_be_done D_is_step G_is_step D_taken G_taken
  have G_is_filled := ok_is_filled (P := l.prog) (w := w) (base := base) T quietE D_is_filled
  have G_laying_of := ok_laying_of (P := l.prog) (w := w) (base := base) T quietE D_laying_of D_is_filled G_is_filled
  have G_layings := ok_layings (P := l.prog) (w := w) (base := base) T quietE D_layings F_BadStep___init__ b_BadStep M_BadStep G_BadStep_init D_behind G_behind D_can_be_done G_can_be_done D_laying_of G_laying_of
  have G_walked := ok_walked (P := l.prog) (w := w) (base := base) T quietE D_walked D_layings G_layings
  have G_law_told := ok_law_told (P := l.prog) (w := w) (base := base) T quietE D_law_told D_law_kind G_law_kind D_layings G_layings D_walked G_walked
  have G_law_whole := ok_law_whole (P := l.prog) (w := w) (base := base) T quietE D_law_whole
  have G_law := ok_law (P := l.prog) (w := w) (base := base) T quietE D_law F_Web___init__ b_Web M_Web G_Web_init D_law_amounts G_law_amounts D_law_last G_law_last D_law_roads G_law_roads D_law_steps G_law_steps D_law_told G_law_told D_law_whole G_law_whole
  exact G_law
theorem walk {l : PySem.W.OpenLaw} {q : Program} {loose : List Str} {XP : (Str → Option Value) → Heap → Prop} {YP : World → Heap → Prop} {d : DefRec} {K : Params → PySem.W.Frag} (hn : l.most = some 63) (hdf : d.params.defaults = [])
    (hY : ∀ (w : World) (h : Heap), YP w h → (K w.params).In h)
    (F : ∀ (w : World) (mg : Str → Option Value) (fa : Addr) (h : Heap), (K w.params).In h → h.Ns mainGlobals mg → mg d.name = some (.ref fa) →
      ∃ fd : FuncData, (∀ (s : Shared) (u : Value), BindsTo s fd ⟨[u], []⟩ [("script", u)]) ∧ ∀ base : Heap, (K w.params).In base → base.Ns mainGlobals mg → FnOk l.prog w (K w.params) mg base (CXe l.prog w) 9 fa fd ["script"] (spLaw (K w.params))) :
    PySem.W.WalkO q loose XP YP l.row.toRowW d [] (fun f vs => PySem.call f vs) :=
  L2.walk_of (n := 63) (k := 9) (x := "script") (CX := fun w => (CXe l.prog w)) (sp := fun w => spLaw (K w.params)) hn (by decide) hdf ⟨rfl, by decide, by decide⟩ hY F (fun _ _ a ns hl _ hS => ⟨a, ns, rfl, hS, hl, fun _ => rfl⟩) fun _ _ _ _ _ z => quietE _ _ _ _ _ z
end Pk
open PySem PySem.W PyProof.Rows
set_option maxRecDepth 100000 in
set_option maxHeartbeats 0 in
theorem PySem.Challenge.cw_pebbletoll_k15_the_first_bad_step_holds : PySem.Challenge.rw_pebbletoll_k15_the_first_bad_step.Holds := by
  w_on; o_law
  refine PySem.W.holds_open (q := Hd.qq) (loose := []) (Xt := (fun s => PySem.W.xlAt Hd.qq [] s && PySem.W.recOk (PySem.W.RowW.records (PySem.W.OpenRow.toRowW (PySem.Challenge.rw_pebbletoll_k15_the_first_bad_step).row)) s)) (XP := PySem.W.XL Hd.qq []) (Yf := PySem.W.Hook.obs (PySem.W.kHook Hd.KK Hd.asK Hd.asK_eq)) (Ya := PySem.W.Hook.val (PySem.W.kHook Hd.KK Hd.asK Hd.asK_eq)) (YP := PySem.W.Hook.says (PySem.W.kHook Hd.KK Hd.asK Hd.asK_eq)) (N := 6578) Hd.left (PySem.W.Hook.of (PySem.W.kHook Hd.KK Hd.asK Hd.asK_eq)) (PySem.W.Hook.keeps (PySem.W.kHook Hd.KK Hd.asK Hd.asK_eq)) (fun s e => PySem.W.xl_of s (Bool.and_eq_true_iff.mp e).1) PySem.W.XL.keeps (by rfl) (by rfl) (by rfl) (fun s e => PySem.W.recFacts_of (Bool.and_eq_true_iff.mp e).2) (by rfl) (by assumption) (by decide +kernel) ⟨rfl, rfl, rfl, rfl, rfl, by decide +kernel⟩ ?hw ?hc
  (case hw => w_witness2)
  k_fill
  refine Pk.walk (l := PySem.Challenge.rw_pebbletoll_k15_the_first_bad_step) rfl rfl (fun w h Y => PySem.W.kIn_of Y) ?F
  case F =>
    intro w mg fa h KX G hmg
    refine' Pk.all_mk KX G hmg ?ac_TollError ?ac_BadWeb ?ac_NoPlace ?ac_NoRoad ?ac_BadLaying ?ac_BadWish ?ac_TooMany ?ac_NoNumber ?ac_BadStep ?ac_Web ?xl_TollError ?xm_TollError ?xt_TollError ?xg_TollError ?xh_TollError ?xo_TollError ?xi_TollError ?xl_BadWeb ?xm_BadWeb ?xt_BadWeb ?xg_BadWeb ?xh_BadWeb ?xo_BadWeb ?xi_BadWeb ?xl_NoPlace ?xm_NoPlace ?xt_NoPlace ?xg_NoPlace ?xh_NoPlace ?xo_NoPlace ?xi_NoPlace ?xe_NoPlace ?xf_NoPlace ?xj_NoPlace ?xp_NoPlace ?xl_NoRoad ?xm_NoRoad ?xt_NoRoad ?xg_NoRoad ?xh_NoRoad ?xo_NoRoad ?xi_NoRoad ?xe_NoRoad ?xf_NoRoad ?xj_NoRoad ?xp_NoRoad ?xl_BadLaying ?xm_BadLaying ?xt_BadLaying ?xg_BadLaying ?xh_BadLaying ?xo_BadLaying ?xi_BadLaying ?xe_BadLaying ?xf_BadLaying ?xj_BadLaying ?xp_BadLaying ?xl_BadWish ?xm_BadWish ?xt_BadWish ?xg_BadWish ?xh_BadWish ?xo_BadWish ?xi_BadWish ?xl_TooMany ?xm_TooMany ?xt_TooMany ?xg_TooMany ?xh_TooMany ?xo_TooMany ?xi_TooMany ?xl_NoNumber ?xm_NoNumber ?xt_NoNumber ?xg_NoNumber ?xh_NoNumber ?xo_NoNumber ?xi_NoNumber ?xl_BadStep ?xm_BadStep ?xt_BadStep ?xg_BadStep ?xh_BadStep ?xo_BadStep ?xi_BadStep ?xe_BadStep ?xf_BadStep ?xj_BadStep ?xp_BadStep ?bg_TollError ?br_TollError ?bf_TollError ?ss_BadStep ?st_BadStep ?xgs ?xtk ?xnd ?a_check_counts ?l_check_counts ?c_check_counts ?k_check_counts ?a_is_place ?l_is_place ?c_is_place ?k_is_place ?a_check_ends ?l_check_ends ?c_check_ends ?k_check_ends ?a_other_ends ?l_other_ends ?c_other_ends ?k_other_ends ?a_check_joined ?l_check_joined ?c_check_joined ?k_check_joined ?a_check_tolls ?l_check_tolls ?c_check_tolls ?k_check_tolls ?a_Web___init__ ?i_Web___init__ ?l_Web___init__ ?c_Web___init__ ?k_Web___init__ ?a_law_tolls ?l_law_tolls ?c_law_tolls ?k_law_tolls ?a_law_amounts ?l_law_amounts ?c_law_amounts ?k_law_amounts ?a_law_last ?l_law_last ?c_law_last ?k_law_last ?a_law_cell ?l_law_cell ?c_law_cell ?k_law_cell ?a_law_row ?l_law_row ?c_law_row ?k_law_row ?a_law_roads ?l_law_roads ?c_law_roads ?k_law_roads ?a_law_price ?l_law_price ?c_law_price ?k_law_price ?a_law_can ?l_law_can ?c_law_can ?k_law_can ?a_law_odd ?l_law_odd ?c_law_odd ?k_law_odd ?a_law_steps ?l_law_steps ?c_law_steps ?k_law_steps ?a_law_kind ?l_law_kind ?c_law_kind ?k_law_kind ?a_BadStep___init__ ?i_BadStep___init__ ?l_BadStep___init__ ?c_BadStep___init__ ?k_BadStep___init__ ?a_check_place ?l_check_place ?c_check_place ?k_check_place ?a_toll ?l_toll ?c_toll ?k_toll ?a_taken ?l_taken ?c_taken ?k_taken ?a_behind ?l_behind ?c_behind ?k_behind ?a_neighbours ?l_neighbours ?c_neighbours ?k_neighbours ?a_is_step ?l_is_step ?c_is_step ?k_is_step ?a_can_be_done ?l_can_be_done ?c_can_be_done ?k_can_be_done ?a_is_filled ?l_is_filled ?c_is_filled ?k_is_filled ?a_laying_of ?l_laying_of ?c_laying_of ?k_laying_of ?a_layings ?l_layings ?c_layings ?k_layings ?a_walked ?l_walked ?c_walked ?k_walked ?a_law_told ?l_law_told ?c_law_told ?k_law_told ?a_law_whole ?l_law_whole ?c_law_whole ?k_law_whole ?a_law ?l_law ?c_law ?k_law ?pg_Web ?hd_Web ?po_Web ?sa_Web ?mk_Web ?kc_Web ?nm_Web ?nr_Web ?z_range ?z_len ?z_isinstance ?z_all ?z_any ?z_int ?z_bool ?z_tuple ?z_list ?z_sorted ?z_max ?z_enumerate ?z_str ?z_ValueError ?v_MOST_PLACES ?v_LEAST_TOLL ?v_MOST_TOLL
    (case ac_TollError => k_is)
    (case ac_BadWeb => k_is)
    (case ac_NoPlace => k_is)
    (case ac_NoRoad => k_is)
    (case ac_BadLaying => k_is)
    (case ac_BadWish => k_is)
    (case ac_TooMany => k_is)
    (case ac_NoNumber => k_is)
    (case ac_BadStep => k_is)
    (case ac_Web => k_is)
    (case xl_TollError => k_is)
    (case xm_TollError => rfl)
    (case xt_TollError => k_is)
    (case xg_TollError => k_is)
    (case xh_TollError => k_is)
    (case xo_TollError => k_is)
    (case xi_TollError => k_is)
    (case xl_BadWeb => k_is)
    (case xm_BadWeb => rfl)
    (case xt_BadWeb => k_is)
    (case xg_BadWeb => k_is)
    (case xh_BadWeb => k_is)
    (case xo_BadWeb => k_is)
    (case xi_BadWeb => k_is)
    (case xl_NoPlace => k_is)
    (case xm_NoPlace => rfl)
    (case xt_NoPlace => k_is)
    (case xg_NoPlace => k_is)
    (case xh_NoPlace => k_is)
    (case xo_NoPlace => k_is)
    (case xi_NoPlace => k_is)
    (case xe_NoPlace => rfl)
    (case xf_NoPlace => kernel_rfl)
    (case xj_NoPlace => k_is)
    (case xp_NoPlace => kernel_rfl)
    (case xl_NoRoad => k_is)
    (case xm_NoRoad => rfl)
    (case xt_NoRoad => k_is)
    (case xg_NoRoad => k_is)
    (case xh_NoRoad => k_is)
    (case xo_NoRoad => k_is)
    (case xi_NoRoad => k_is)
    (case xe_NoRoad => rfl)
    (case xf_NoRoad => kernel_rfl)
    (case xj_NoRoad => k_is)
    (case xp_NoRoad => kernel_rfl)
    (case xl_BadLaying => k_is)
    (case xm_BadLaying => rfl)
    (case xt_BadLaying => k_is)
    (case xg_BadLaying => k_is)
    (case xh_BadLaying => k_is)
    (case xo_BadLaying => k_is)
    (case xi_BadLaying => k_is)
    (case xe_BadLaying => rfl)
    (case xf_BadLaying => kernel_rfl)
    (case xj_BadLaying => k_is)
    (case xp_BadLaying => kernel_rfl)
    (case xl_BadWish => k_is)
    (case xm_BadWish => rfl)
    (case xt_BadWish => k_is)
    (case xg_BadWish => k_is)
    (case xh_BadWish => k_is)
    (case xo_BadWish => k_is)
    (case xi_BadWish => k_is)
    (case xl_TooMany => k_is)
    (case xm_TooMany => rfl)
    (case xt_TooMany => k_is)
    (case xg_TooMany => k_is)
    (case xh_TooMany => k_is)
    (case xo_TooMany => k_is)
    (case xi_TooMany => k_is)
    (case xl_NoNumber => k_is)
    (case xm_NoNumber => rfl)
    (case xt_NoNumber => k_is)
    (case xg_NoNumber => k_is)
    (case xh_NoNumber => k_is)
    (case xo_NoNumber => k_is)
    (case xi_NoNumber => k_is)
    (case xl_BadStep => k_is)
    (case xm_BadStep => rfl)
    (case xt_BadStep => k_is)
    (case xg_BadStep => k_is)
    (case xh_BadStep => k_is)
    (case xo_BadStep => k_is)
    (case xi_BadStep => k_is)
    (case xe_BadStep => rfl)
    (case xf_BadStep => kernel_rfl)
    (case xj_BadStep => k_is)
    (case xp_BadStep => kernel_rfl)
    (case bg_TollError => k_is)
    (case br_TollError => k_is)
    (case bf_TollError => k_is)
    (case ss_BadStep => k_is)
    (case st_BadStep => k_is)
    (case xgs => k_is)
    (case xtk => k_is)
    (case xnd => decide)
    (case a_check_counts => k_is)
    (case l_check_counts => k_is)
    (case c_check_counts => k_is)
    (case k_check_counts => k_is)
    (case a_is_place => k_is)
    (case l_is_place => k_is)
    (case c_is_place => k_is)
    (case k_is_place => k_is)
    (case a_check_ends => k_is)
    (case l_check_ends => k_is)
    (case c_check_ends => k_is)
    (case k_check_ends => k_is)
    (case a_other_ends => k_is)
    (case l_other_ends => k_is)
    (case c_other_ends => k_is)
    (case k_other_ends => k_is)
    (case a_check_joined => k_is)
    (case l_check_joined => k_is)
    (case c_check_joined => k_is)
    (case k_check_joined => k_is)
    (case a_check_tolls => k_is)
    (case l_check_tolls => k_is)
    (case c_check_tolls => k_is)
    (case k_check_tolls => k_is)
    (case a_Web___init__ => k_is)
    (case i_Web___init__ => k_is)
    (case l_Web___init__ => k_is)
    (case c_Web___init__ => k_is)
    (case k_Web___init__ => k_is)
    (case a_law_tolls => k_is)
    (case l_law_tolls => k_is)
    (case c_law_tolls => k_is)
    (case k_law_tolls => k_is)
    (case a_law_amounts => k_is)
    (case l_law_amounts => k_is)
    (case c_law_amounts => k_is)
    (case k_law_amounts => k_is)
    (case a_law_last => k_is)
    (case l_law_last => k_is)
    (case c_law_last => k_is)
    (case k_law_last => k_is)
    (case a_law_cell => k_is)
    (case l_law_cell => k_is)
    (case c_law_cell => k_is)
    (case k_law_cell => k_is)
    (case a_law_row => k_is)
    (case l_law_row => k_is)
    (case c_law_row => k_is)
    (case k_law_row => k_is)
    (case a_law_roads => k_is)
    (case l_law_roads => k_is)
    (case c_law_roads => k_is)
    (case k_law_roads => k_is)
    (case a_law_price => k_is)
    (case l_law_price => k_is)
    (case c_law_price => k_is)
    (case k_law_price => k_is)
    (case a_law_can => k_is)
    (case l_law_can => k_is)
    (case c_law_can => k_is)
    (case k_law_can => k_is)
    (case a_law_odd => k_is)
    (case l_law_odd => k_is)
    (case c_law_odd => k_is)
    (case k_law_odd => k_is)
    (case a_law_steps => k_is)
    (case l_law_steps => k_is)
    (case c_law_steps => k_is)
    (case k_law_steps => k_is)
    (case a_law_kind => k_is)
    (case l_law_kind => k_is)
    (case c_law_kind => k_is)
    (case k_law_kind => k_is)
    (case a_BadStep___init__ => k_is)
    (case i_BadStep___init__ => k_is)
    (case l_BadStep___init__ => k_is)
    (case c_BadStep___init__ => k_is)
    (case k_BadStep___init__ => k_is)
    (case a_check_place => k_is)
    (case l_check_place => k_is)
    (case c_check_place => k_is)
    (case k_check_place => k_is)
    (case a_toll => k_is)
    (case l_toll => k_is)
    (case c_toll => k_is)
    (case k_toll => k_is)
    (case a_taken => k_is)
    (case l_taken => k_is)
    (case c_taken => k_is)
    (case k_taken => k_is)
    (case a_behind => k_is)
    (case l_behind => k_is)
    (case c_behind => k_is)
    (case k_behind => k_is)
    (case a_neighbours => k_is)
    (case l_neighbours => k_is)
    (case c_neighbours => k_is)
    (case k_neighbours => k_is)
    (case a_is_step => k_is)
    (case l_is_step => k_is)
    (case c_is_step => k_is)
    (case k_is_step => k_is)
    (case a_can_be_done => k_is)
    (case l_can_be_done => k_is)
    (case c_can_be_done => k_is)
    (case k_can_be_done => k_is)
    (case a_is_filled => k_is)
    (case l_is_filled => k_is)
    (case c_is_filled => k_is)
    (case k_is_filled => k_is)
    (case a_laying_of => k_is)
    (case l_laying_of => k_is)
    (case c_laying_of => k_is)
    (case k_laying_of => k_is)
    (case a_layings => k_is)
    (case l_layings => k_is)
    (case c_layings => k_is)
    (case k_layings => k_is)
    (case a_walked => k_is)
    (case l_walked => k_is)
    (case c_walked => k_is)
    (case k_walked => k_is)
    (case a_law_told => k_is)
    (case l_law_told => k_is)
    (case c_law_told => k_is)
    (case k_law_told => k_is)
    (case a_law_whole => k_is)
    (case l_law_whole => k_is)
    (case c_law_whole => k_is)
    (case k_law_whole => k_is)
    (case a_law => k_is)
    (case l_law => k_is)
    (case c_law => k_is)
    (case k_law => k_is)
    (case pg_Web => k_is)
    (case hd_Web => k_is)
    (case po_Web => k_is)
    (case sa_Web => k_is)
    (case mk_Web => k_is)
    (case kc_Web => k_is)
    (case nm_Web => k_is)
    (case nr_Web => k_is)
    (case z_range => k_is)
    (case z_len => k_is)
    (case z_isinstance => k_is)
    (case z_all => k_is)
    (case z_any => k_is)
    (case z_int => k_is)
    (case z_bool => k_is)
    (case z_tuple => k_is)
    (case z_list => k_is)
    (case z_sorted => k_is)
    (case z_max => k_is)
    (case z_enumerate => k_is)
    (case z_str => k_is)
    (case z_ValueError => k_is)
    (case v_MOST_PLACES => k_is)
    (case v_LEAST_TOLL => k_is)
    (case v_MOST_TOLL => k_is)
#print axioms PySem.Challenge.cw_pebbletoll_k15_the_first_bad_step_holds
