import PyProof.Rows.All
import Wide.All
import OpenK.AllK
import Wide.FinOn
import Lean
import PyProof.EqAt
import PyProof.EqKinds
import PyProof.TupleCall
import PyProof.P3Eq
import PyProof.NeData
import PyProof.FitsBits
import PyProof.ZipIter
import PyProof.TupleIter
import KE.KRevIter
import PyProof.TupleOfGen
import PyProof.ListRange
import KE.KIsAll
import PyProof.ExcArgsOwn
import OpenK.KDescr
import PyProof.StationsW
import PyProof.ExcBaseAll.ValueError
import OpenK.KOwn
import PyProof.RulesAs
import PyProof.RulesDel
import PyProof.Rows.SortWalk
import PyProof.CompUse
import KE.KDictSum
import PyProof.WalkInts
import KE.KSortTup
import PyProof.Rows.TupDisplay
import KE.KIntText
import PyProof.JoinWalk
import PyProof.ExcInit
import PyProof.ExcClass2
import PySem.Challenge.RW_pebbletoll_k68_whole_layings_for_every_p
set_option Elab.async false
set_option linter.all false
set_option maxRecDepth 100000
namespace Hd
open PySem
def top (i:Nat):Stmt:=PySem.Challenge.pw_pebbletoll_k68_whole_layings_for_every_p.main.body.getD i (.Pass ⟨0,0,0,0⟩)
def inC (s:Stmt) (j:Nat):Stmt:=match s with
 | .ClassDef _ _ _ b _ _ _ _ _ _ _=>b.getD j (.Pass ⟨0,0,0,0⟩)
 | _=>.Pass ⟨0,0,0,0⟩
def kA (s:Stmt):Arguments:=match s with
 | .FunctionDef _ a _ _ _ _ _ _ _ _=>a
 | _=>{ posonlyargs:=[],args:=[],vararg:=none,kwonlyargs:=[],kw_defaults:=[],kwarg:=none,defaults:=[] }
def kB (s:Stmt):List Stmt:=match s with
 | .FunctionDef _ _ b _ _ _ _ _ _ _=>b
 | _=>[]
def kS (s:Stmt):Scope:=match s with
 | .FunctionDef _ _ _ _ _ _ sc _ _ _=>sc
 | _=>{ kind:=.function,names:=[],isGenerator:=false,isCoroutine:=false }
open PySem.W PySem.Calls PyProof.Rows
def en (P:Params) (s:Str) (t:Tok) (v:Value):DictEntry:=.mk (PyData.keyHash P s) (.str s t) v
def cO (a b:Str) (t1 t2 t3:Tok) (i1 i2 i3 i4 i5:Int) (r1:Value) (b1:Bool) (i6:Int) (r2 v1 v2 v3 r3:Value) (i7 i8:Int) (t4:Tok):Obj:=.mk (.type "code") none (.fields #[.str a t1,.str b t2,.str "/claim/cut.py" t3,.int i1 0,.int i2 0,.int i3 0,.int i4 0,.int i5 0,r1,.bool b1,.int i6 0,r2,v1,v2,v3,r3,.int i7 0,.int i8 0,.str "/claim/cut.py" t4]) #[]
def fR (a b:Str) (s:Stmt):Obj:=.mk .none none (.func (.mk a b (kA s) (.stmts (kB s)) (kS s) 0 [] .none .none .none .none none .none .none 0)) #[]
def fO (a b:Str) (s:Stmt) (pm cd:Value):Obj:=.mk (.type "function") none (.func (PySem.W.fnOf a b (kA s) (kB s) (kS s) .none .none .none pm none cd .none)) #[]
def tO (xs:Array Value):Obj:=.mk (.type "tuple") none (.seq xs 0) #[]
def x0:Obj:=(tO #[])
def x1:Obj:=(.mk .none none (.fields #[]) #[])
def x2:Obj:=(cO "<module>" "<module>" 182 183 184 1 0 0 0 0 (.ref 11) false 181 (.ref 12) .none .none .none .none 185 1 186)
def x3:Obj:=(.mk (.type "frame") none .plain #[(some (.ref 13)),(some (.ref 3)),(some (.ref 3)),none,(some (.str "__main__" 164)),none,(some (.ref 0))])
noncomputable def ha (P:Params):Heap:=.mk (.mk (boot_o_0 P :: boot_o_1 P :: boot_o_2 P :: boot_o_3 P :: boot_o_4 P :: boot_o_5 P :: boot_o_6 P :: boot_o_7 P :: boot_o_8 P :: boot_o_9 P :: boot_o_10 P :: x0 :: x1 :: x2 :: x3 :: [])) (.mk [] [] [] 0 [] [] false #[] [] 0 false false false 0 [2000,10,10] false 0 true [] [] 0 false)
noncomputable def hb (P:Params):Heap:=.mk (.mk (boot_o_0 P :: boot_o_1 P :: boot_o_2 P :: boot_o_3 P :: boot_o_4 P :: boot_o_5 P :: boot_o_6 P :: boot_o_7 P :: boot_o_8 P :: boot_o_9 P :: boot_o_10 P :: x0 :: x1 :: x2 :: x3 :: [])) (.mk [] [] [] 0 [] [] false #[] [] 0 false false false 0 [2000,10,10] false 0 true [] [] 0 false)
abbrev st0:List Stmt:=[top 0,top 1,top 2,top 3,top 4,top 5,top 6,top 7,top 8,top 9,top 10,top 11,top 12,top 13,top 14,top 15,top 16,top 17,top 18,top 19,top 20,top 21,top 22,top 23,top 24,top 25,top 26]
abbrev st1:List Stmt:=[top 27,top 28,top 29,top 30,top 31,top 32,top 33,top 34,top 35,top 36,top 37,top 38,top 39,top 40,top 41,top 42,top 43,top 44,top 45,top 46,top 47,top 48,top 49,top 50,top 51,top 52,top 53,top 54,top 55,top 56,top 57,top 58,top 59,top 60,top 61,top 62,top 63,top 64,top 65,top 66,top 67,top 68,top 69]
abbrev bb:List Stmt:=st0 ++ (st1 ++ ([]))
def env:Env:={ scope:=PySem.Challenge.pw_pebbletoll_k68_whole_layings_for_every_p.main.scope,locals:=mainNs,globals:=mainNs,cells:=[],code:=(.ref 13),frame:=some 14 }
abbrev cE:Code:=.body bb env
theorem CL (w:World) (os:OsState):topGo treeTable PySem.Challenge.pw_pebbletoll_k68_whole_layings_for_every_p w 11 (some (.ref 6)) 12 (Shared.mk (boot_heap w.params) (.mk []) boot_drawn boot_toks os) (topStub PySem.Challenge.pw_pebbletoll_k68_whole_layings_for_every_p)=some ((Shared.mk (ha w.params) (.mk []) (.mk 0 0 0 0) 187 os),Thread.mk (denote treeTable cE) cE (.mk 0 0 0 0) [topFrame (.mk 0 0 0 0)]):=by kernel_rfl
theorem CK (w:World) (os:OsState):segRun treeTable PySem.Challenge.pw_pebbletoll_k68_whole_layings_for_every_p w 11 (some (.ref 6)) 1 1 (Shared.mk (ha w.params) (.mk []) (.mk 0 0 0 0) 187 os) (blockOf bb env cE (.mk 0 0 0 0) [topFrame (.mk 0 0 0 0)])=some (.next,(Shared.mk (hb w.params) (.mk []) (.mk 0 0 0 0) 187 os),cE,(.mk 0 0 0 0)):=by kernel_rfl
def x4 (P:Params):Obj:=(.mk (.type "dict") none (.dict #[(en P "__name__" 165 (.str "pebbletoll.webs" 354)),(en P "__doc__" 166 .none),(en P "__package__" 167 .none),(en P "__loader__" 168 (.builtin "__main__.__loader__#opaque")),(en P "__spec__" 169 .none),(en P "__annotations__" 170 (.ref 6)),(en P "__builtins__" 171 (.ref 4)),(en P "__file__" 173 (.str "/claim/cut.py" 172)),(en P "__cached__" 174 .none),(en P "fraction" 197 (.ref 21)),(en P "common_divisor" 206 (.ref 28)),(en P "plus" 214 (.ref 35)),(en P "minus" 222 (.ref 42)),(en P "times" 230 (.ref 49)),(en P "less" 238 (.ref 56)),(en P "sum_up" 244 (.ref 61)),(en P "TollError" 264 (.ref 71)),(en P "BadWeb" 280 (.ref 84)),(en P "NoPlace" 296 (.ref 96)),(en P "NoRoad" 312 (.ref 108)),(en P "BadLaying" 328 (.ref 120)),(en P "BadStep" 353 (.ref 139)),(en P "MOST_PLACES" 357 (.int 24 356)),(en P "LEAST_TOLL" 359 (.int 2 358)),(en P "MOST_TOLL" 361 (.int 1000000 360)),(en P "Web" 389 (.ref 156)),(en P "toll" 402 (.ref 167)),(en P "neighbours" 410 (.ref 174)),(en P "check_place" 418 (.ref 181)),(en P "is_place" 426 (.ref 188)),(en P "check_counts" 434 (.ref 195)),(en P "check_ends" 442 (.ref 202)),(en P "check_tolls" 450 (.ref 209))] 33) #[])
def x5:Obj:=(.mk .none none (.fields #[(.int 2 0),(.int 0 0),(.ref 20),(.int 7 0),(.int 0 0),(.ref 27),(.int 13 0),(.int 0 0),(.ref 34),(.int 15 0),(.int 0 0),(.ref 41),(.int 17 0),(.int 0 0),(.ref 48),(.int 19 0),(.int 0 0),(.ref 55),(.int 21 0),(.int 0 0),(.ref 60),(.int 27 0),(.int 0 0),(.ref 67),(.int 29 0),(.int 0 0),(.ref 80),(.int 31 0),(.int 0 0),(.ref 92),(.int 33 0),(.int 0 0),(.ref 104),(.int 35 0),(.int 0 0),(.ref 116),(.int 37 0),(.int 0 0),(.ref 128),(.int 46 0),(.int 0 0),(.ref 147),(.int 57 0),(.int 0 0),(.ref 166),(.int 66 0),(.int 0 0),(.ref 173),(.int 69 0),(.int 0 0),(.ref 180),(.int 72 0),(.int 0 0),(.ref 187),(.int 74 0),(.int 0 0),(.ref 194),(.int 79 0),(.int 0 0),(.ref 201),(.int 84 0),(.int 0 0),(.ref 208)]) #[])
def x6:Obj:=(tO #[(.str "top" 192),(.str "bottom" 193),(.str "common" 194)])
def x7:Obj:=(fR "fraction" "fraction" (top 1))
def x8:Obj:=(cO "fraction" "fraction" 189 190 191 2 2 0 0 3 (.ref 15) true 181 (.ref 16) .none (.ref 17) (.ref 18) (.ref 19) 195 2 196)
def x9:Obj:=(fO "fraction" "fraction" (top 1) (.str "pebbletoll.fractions" 187) (.ref 20))
def x10:Obj:=(tO #[(.str "one" 201),(.str "two" 202),(.str "rest" 203)])
def x11:Obj:=(fR "common_divisor" "common_divisor" (top 2))
def x12:Obj:=(cO "common_divisor" "common_divisor" 198 199 200 7 2 0 0 3 (.ref 22) true 181 (.ref 23) .none (.ref 24) (.ref 25) (.ref 26) 204 7 205)
def x13:Obj:=(fO "common_divisor" "common_divisor" (top 2) (.str "pebbletoll.fractions" 187) (.ref 27))
def x14:Obj:=(tO #[(.str "one" 210),(.str "two" 211)])
def x15:Obj:=(fR "plus" "plus" (top 3))
def x16:Obj:=(cO "plus" "plus" 207 208 209 13 2 0 0 3 (.ref 29) true 181 (.ref 30) .none (.ref 31) (.ref 32) (.ref 33) 212 13 213)
def x17:Obj:=(fO "plus" "plus" (top 3) (.str "pebbletoll.fractions" 187) (.ref 34))
def x18:Obj:=(tO #[(.str "one" 218),(.str "two" 219)])
def x19:Obj:=(fR "minus" "minus" (top 4))
def x20:Obj:=(cO "minus" "minus" 215 216 217 15 2 0 0 3 (.ref 36) true 181 (.ref 37) .none (.ref 38) (.ref 39) (.ref 40) 220 15 221)
def x21:Obj:=(fO "minus" "minus" (top 4) (.str "pebbletoll.fractions" 187) (.ref 41))
def x22:Obj:=(tO #[(.str "one" 226),(.str "two" 227)])
def x23:Obj:=(fR "times" "times" (top 5))
def x24:Obj:=(cO "times" "times" 223 224 225 17 2 0 0 3 (.ref 43) true 181 (.ref 44) .none (.ref 45) (.ref 46) (.ref 47) 228 17 229)
def x25:Obj:=(fO "times" "times" (top 5) (.str "pebbletoll.fractions" 187) (.ref 48))
def x26:Obj:=(tO #[(.str "one" 234),(.str "two" 235)])
def x27:Obj:=(fR "less" "less" (top 6))
def x28:Obj:=(cO "less" "less" 231 232 233 19 2 0 0 3 (.ref 50) true 181 (.ref 51) .none (.ref 52) (.ref 53) (.ref 54) 236 19 237)
def x29:Obj:=(fO "less" "less" (top 6) (.str "pebbletoll.fractions" 187) (.ref 55))
def x30:Obj:=(fR "sum_up" "sum_up" (top 7))
def x31:Obj:=(cO "sum_up" "sum_up" 239 240 241 21 1 0 0 3 (.ref 57) true 181 (.ref 58) .none .none .none (.ref 59) 242 21 243)
def x32:Obj:=(fO "sum_up" "sum_up" (top 7) (.str "pebbletoll.fractions" 187) (.ref 60))
def x33:Obj:=(tO #[(.type "ValueError")])
def x34:Obj:=(.mk (.type "builtin_function_or_method") none (.fields #[(.builtin "type.__prepare__"),(.type "type")]) #[])
def x35 (P:Params):Obj:=(.mk (.type "dict") none (.dict #[(en P "__module__" 254 (.str "pebbletoll.errors" 245)),(en P "__qualname__" 256 (.str "TollError" 255)),(en P "__firstlineno__" 258 (.int 27 257)),(en P "__static_attributes__" 259 (.ref 69))] 4) #[])
def x36:Obj:=(cO "TollError" "TollError" 249 250 251 27 0 0 0 0 (.ref 65) false 181 (.ref 66) .none .none .none .none 252 27 253)
def x37:Obj:=(.mk (.type "frame") none .plain #[(some (.ref 67)),(some (.ref 3)),(some (.ref 64)),none,(some (.str "pebbletoll.errors" 245)),none,(some (.ref 0))])
def x38 (P:Params):Obj:=(.mk (.type "dict") none (.dict #[(en P "__module__" 254 (.str "pebbletoll.errors" 245)),(en P "__firstlineno__" 258 (.int 27 257)),(en P "__static_attributes__" 259 (.ref 69)),(en P "__weakref__" 261 (.ref 72)),(en P "__doc__" 262 .none)] 3) #[])
def x39:Obj:=(.mk (.type "type") none (.cls (.mk "TollError" [(.type "ValueError")] [(.ref 71),(.type "ValueError"),(.type "Exception"),(.type "BaseException"),(.type "object")] 70 "TollError" true [] [(.ref 84),(.ref 96),(.ref 108),(.ref 120),(.ref 139)] false none false)) #[(some (.ref 62)),none,(some (.str "TollError" 247)),(some (.str "TollError" 255)),(some (.builtin "ValueError.__new__")),(some (.bool true))])
def x40:Obj:=(.mk (.type "getset_descriptor") none (.fields #[(.str "__weakref__" 260),(.ref 71),(.builtin "ExceptionGroup.__weakref__"),.none]) #[])
def x41:Obj:=(.mk (.type "super") none (.fields #[(.ref 71),(.ref 71),(.ref 71)]) #[])
def x42:Obj:=(.mk (.type "builtin_function_or_method") none (.fields #[(.builtin "object.__init_subclass__"),(.ref 71)]) #[])
def x43:Obj:=(tO #[(.ref 71)])
def x44 (P:Params):Obj:=(.mk (.type "dict") none (.dict #[(en P "__module__" 272 (.str "pebbletoll.errors" 245)),(en P "__qualname__" 274 (.str "BadWeb" 273)),(en P "__firstlineno__" 276 (.int 29 275)),(en P "__static_attributes__" 277 (.ref 82))] 4) #[])
def x45:Obj:=(cO "BadWeb" "BadWeb" 267 268 269 29 0 0 0 0 (.ref 78) false 181 (.ref 79) .none .none .none .none 270 29 271)
def x46:Obj:=(.mk (.type "frame") none .plain #[(some (.ref 80)),(some (.ref 3)),(some (.ref 77)),none,(some (.str "pebbletoll.errors" 245)),none,(some (.ref 0))])
def x47 (P:Params):Obj:=(.mk (.type "dict") none (.dict #[(en P "__module__" 272 (.str "pebbletoll.errors" 245)),(en P "__firstlineno__" 276 (.int 29 275)),(en P "__static_attributes__" 277 (.ref 82)),(en P "__doc__" 278 .none)] 2) #[])
def x48:Obj:=(.mk (.type "type") none (.cls (.mk "BadWeb" [(.ref 71)] [(.ref 84),(.ref 71),(.type "ValueError"),(.type "Exception"),(.type "BaseException"),(.type "object")] 83 "BadWeb" true [] [] false none false)) #[(some (.ref 75)),none,(some (.str "BadWeb" 265)),(some (.str "BadWeb" 273)),(some (.builtin "ValueError.__new__")),(some (.bool true))])
def x49:Obj:=(.mk (.type "super") none (.fields #[(.ref 84),(.ref 84),(.ref 84)]) #[])
def x50:Obj:=(.mk (.type "builtin_function_or_method") none (.fields #[(.builtin "object.__init_subclass__"),(.ref 84)]) #[])
def x51 (P:Params):Obj:=(.mk (.type "dict") none (.dict #[(en P "__module__" 288 (.str "pebbletoll.errors" 245)),(en P "__qualname__" 290 (.str "NoPlace" 289)),(en P "__firstlineno__" 292 (.int 31 291)),(en P "__static_attributes__" 293 (.ref 94))] 4) #[])
def x52:Obj:=(cO "NoPlace" "NoPlace" 283 284 285 31 0 0 0 0 (.ref 90) false 181 (.ref 91) .none .none .none .none 286 31 287)
def x53:Obj:=(.mk (.type "frame") none .plain #[(some (.ref 92)),(some (.ref 3)),(some (.ref 89)),none,(some (.str "pebbletoll.errors" 245)),none,(some (.ref 0))])
def x54 (P:Params):Obj:=(.mk (.type "dict") none (.dict #[(en P "__module__" 288 (.str "pebbletoll.errors" 245)),(en P "__firstlineno__" 292 (.int 31 291)),(en P "__static_attributes__" 293 (.ref 94)),(en P "__doc__" 294 .none)] 2) #[])
def x55:Obj:=(.mk (.type "type") none (.cls (.mk "NoPlace" [(.ref 71)] [(.ref 96),(.ref 71),(.type "ValueError"),(.type "Exception"),(.type "BaseException"),(.type "object")] 95 "NoPlace" true [] [] false none false)) #[(some (.ref 87)),none,(some (.str "NoPlace" 281)),(some (.str "NoPlace" 289)),(some (.builtin "ValueError.__new__")),(some (.bool true))])
def x56:Obj:=(.mk (.type "super") none (.fields #[(.ref 96),(.ref 96),(.ref 96)]) #[])
def x57:Obj:=(.mk (.type "builtin_function_or_method") none (.fields #[(.builtin "object.__init_subclass__"),(.ref 96)]) #[])
def x58 (P:Params):Obj:=(.mk (.type "dict") none (.dict #[(en P "__module__" 304 (.str "pebbletoll.errors" 245)),(en P "__qualname__" 306 (.str "NoRoad" 305)),(en P "__firstlineno__" 308 (.int 33 307)),(en P "__static_attributes__" 309 (.ref 106))] 4) #[])
def x59:Obj:=(cO "NoRoad" "NoRoad" 299 300 301 33 0 0 0 0 (.ref 102) false 181 (.ref 103) .none .none .none .none 302 33 303)
def x60:Obj:=(.mk (.type "frame") none .plain #[(some (.ref 104)),(some (.ref 3)),(some (.ref 101)),none,(some (.str "pebbletoll.errors" 245)),none,(some (.ref 0))])
def x61 (P:Params):Obj:=(.mk (.type "dict") none (.dict #[(en P "__module__" 304 (.str "pebbletoll.errors" 245)),(en P "__firstlineno__" 308 (.int 33 307)),(en P "__static_attributes__" 309 (.ref 106)),(en P "__doc__" 310 .none)] 2) #[])
def x62:Obj:=(.mk (.type "type") none (.cls (.mk "NoRoad" [(.ref 71)] [(.ref 108),(.ref 71),(.type "ValueError"),(.type "Exception"),(.type "BaseException"),(.type "object")] 107 "NoRoad" true [] [] false none false)) #[(some (.ref 99)),none,(some (.str "NoRoad" 297)),(some (.str "NoRoad" 305)),(some (.builtin "ValueError.__new__")),(some (.bool true))])
def x63:Obj:=(.mk (.type "super") none (.fields #[(.ref 108),(.ref 108),(.ref 108)]) #[])
def x64:Obj:=(.mk (.type "builtin_function_or_method") none (.fields #[(.builtin "object.__init_subclass__"),(.ref 108)]) #[])
def x65 (P:Params):Obj:=(.mk (.type "dict") none (.dict #[(en P "__module__" 320 (.str "pebbletoll.errors" 245)),(en P "__qualname__" 322 (.str "BadLaying" 321)),(en P "__firstlineno__" 324 (.int 35 323)),(en P "__static_attributes__" 325 (.ref 118))] 4) #[])
def x66:Obj:=(cO "BadLaying" "BadLaying" 315 316 317 35 0 0 0 0 (.ref 114) false 181 (.ref 115) .none .none .none .none 318 35 319)
def x67:Obj:=(.mk (.type "frame") none .plain #[(some (.ref 116)),(some (.ref 3)),(some (.ref 113)),none,(some (.str "pebbletoll.errors" 245)),none,(some (.ref 0))])
def x68 (P:Params):Obj:=(.mk (.type "dict") none (.dict #[(en P "__module__" 320 (.str "pebbletoll.errors" 245)),(en P "__firstlineno__" 324 (.int 35 323)),(en P "__static_attributes__" 325 (.ref 118)),(en P "__doc__" 326 .none)] 2) #[])
def x69:Obj:=(.mk (.type "type") none (.cls (.mk "BadLaying" [(.ref 71)] [(.ref 120),(.ref 71),(.type "ValueError"),(.type "Exception"),(.type "BaseException"),(.type "object")] 119 "BadLaying" true [] [] false none false)) #[(some (.ref 111)),none,(some (.str "BadLaying" 313)),(some (.str "BadLaying" 321)),(some (.builtin "ValueError.__new__")),(some (.bool true))])
def x70:Obj:=(.mk (.type "super") none (.fields #[(.ref 120),(.ref 120),(.ref 120)]) #[])
def x71:Obj:=(.mk (.type "builtin_function_or_method") none (.fields #[(.builtin "object.__init_subclass__"),(.ref 120)]) #[])
def x72 (P:Params):Obj:=(.mk (.type "dict") none (.dict #[(en P "__module__" 336 (.str "pebbletoll.errors" 245)),(en P "__qualname__" 338 (.str "BadStep" 337)),(en P "__firstlineno__" 340 (.int 37 339)),(en P "__init__" 348 (.ref 136)),(en P "__static_attributes__" 350 (.ref 137))] 5) #[])
def x73:Obj:=(.mk .none none (.fields #[(.int 39 0),(.int 4 0),(.ref 135)]) #[])
def x74:Obj:=(cO "BadStep" "BadStep" 331 332 333 37 0 0 0 0 (.ref 126) false 181 (.ref 127) .none .none .none .none 334 37 335)
def x75:Obj:=(.mk (.type "frame") none .plain #[(some (.ref 128)),(some (.ref 3)),(some (.ref 125)),none,(some (.str "pebbletoll.errors" 245)),none,(some (.ref 0))])
def x76:Obj:=(tO #[(.str "self" 344),(.str "at" 345)])
def x77:Obj:=(fR "__init__" "BadStep.__init__" (inC (top 14) 0))
def x78:Obj:=(cO "__init__" "BadStep.__init__" 341 342 343 39 2 0 0 3 (.ref 130) true 181 (.ref 131) .none (.ref 132) (.ref 133) (.ref 134) 346 39 347)
def x79:Obj:=(fO "__init__" "BadStep.__init__" (inC (top 14) 0) (.str "pebbletoll.errors" 245) (.ref 135))
def x80:Obj:=(tO #[(.str "at" 349)])
def x81 (P:Params):Obj:=(.mk (.type "dict") none (.dict #[(en P "__module__" 336 (.str "pebbletoll.errors" 245)),(en P "__firstlineno__" 340 (.int 37 339)),(en P "__init__" 348 (.ref 136)),(en P "__static_attributes__" 350 (.ref 137)),(en P "__doc__" 351 .none)] 2) #[])
def x82:Obj:=(.mk (.type "type") none (.cls (.mk "BadStep" [(.ref 71)] [(.ref 139),(.ref 71),(.type "ValueError"),(.type "Exception"),(.type "BaseException"),(.type "object")] 138 "BadStep" true [] [] false none false)) #[(some (.ref 123)),none,(some (.str "BadStep" 329)),(some (.str "BadStep" 337)),(some (.builtin "ValueError.__new__")),(some (.bool true))])
def x83:Obj:=(.mk (.type "super") none (.fields #[(.ref 139),(.ref 139),(.ref 139)]) #[])
def x84:Obj:=(.mk (.type "builtin_function_or_method") none (.fields #[(.builtin "object.__init_subclass__"),(.ref 139)]) #[])
def x85 (P:Params):Obj:=(.mk (.type "dict") none (.dict #[(en P "__module__" 369 (.str "pebbletoll.webs" 354)),(en P "__qualname__" 371 (.str "Web" 370)),(en P "__firstlineno__" 373 (.int 46 372)),(en P "__init__" 379 (.ref 153)),(en P "__static_attributes__" 382 (.ref 154))] 5) #[])
def x86:Obj:=(.mk .none none (.fields #[(.int 48 0),(.int 4 0),(.ref 152)]) #[])
def x87:Obj:=(cO "Web" "Web" 364 365 366 46 0 0 0 0 (.ref 145) false 181 (.ref 146) .none .none .none .none 367 46 368)
def x88:Obj:=(.mk (.type "frame") none .plain #[(some (.ref 147)),(some (.ref 3)),(some (.ref 144)),none,(some (.str "pebbletoll.webs" 354)),none,(some (.ref 0))])
def x89:Obj:=(fR "__init__" "Web.__init__" (inC (top 19) 0))
def x90:Obj:=(cO "__init__" "Web.__init__" 374 375 376 48 3 0 0 3 (.ref 149) true 181 (.ref 150) .none .none .none (.ref 151) 377 48 378)
def x91:Obj:=(fO "__init__" "Web.__init__" (inC (top 19) 0) (.str "pebbletoll.webs" 354) (.ref 152))
def x92:Obj:=(tO #[(.str "many" 380),(.str "roads" 381)])
def x93 (P:Params):Obj:=(.mk (.type "dict") none (.dict #[(en P "__module__" 369 (.str "pebbletoll.webs" 354)),(en P "__firstlineno__" 373 (.int 46 372)),(en P "__init__" 379 (.ref 153)),(en P "__static_attributes__" 382 (.ref 154)),(en P "__dict__" 384 (.ref 157)),(en P "__weakref__" 386 (.ref 158)),(en P "__doc__" 387 .none)] 4) #[])
def x94:Obj:=(.mk (.type "type") none (.cls (.mk "Web" [(.type "object")] [(.ref 156),(.type "object")] 155 "Web" true [] [] false none false)) #[none,none,(some (.str "Web" 362)),(some (.str "Web" 370)),(some (.builtin "object.__new__")),(some (.bool true))])
def x95:Obj:=(.mk (.type "getset_descriptor") none (.fields #[(.str "__dict__" 383),(.ref 156),(.builtin "function.__dict__"),(.builtin "function.__dict__#set")]) #[])
def x96:Obj:=(.mk (.type "getset_descriptor") none (.fields #[(.str "__weakref__" 385),(.ref 156),(.builtin "ExceptionGroup.__weakref__"),.none]) #[])
def x97:Obj:=(.mk (.type "super") none (.fields #[(.ref 156),(.ref 156),(.ref 156)]) #[])
def x98:Obj:=(.mk (.type "builtin_function_or_method") none (.fields #[(.builtin "object.__init_subclass__"),(.ref 156)]) #[])
def x99:Obj:=(tO #[(.str "web" 393),(.str "a" 394),(.str "b" 395),(.str "one" 396),(.str "other" 397),(.str "there" 398),(.str "back" 399)])
def wu:Obj:=(fR "toll" "toll" (top 20))
def uf:Obj:=(cO "toll" "toll" 390 391 392 57 3 0 0 3 (.ref 161) true 181 (.ref 162) .none (.ref 163) (.ref 164) (.ref 165) 400 57 401)
def sD:Obj:=(fO "toll" "toll" (top 20) (.str "pebbletoll.webs" 354) (.ref 166))
def sV:Obj:=(tO #[(.str "web" 406),(.str "a" 407)])
def yk:Obj:=(fR "neighbours" "neighbours" (top 21))
def tM:Obj:=(cO "neighbours" "neighbours" 403 404 405 66 2 0 0 3 (.ref 168) true 181 (.ref 169) .none (.ref 170) (.ref 171) (.ref 172) 408 66 409)
def tT:Obj:=(fO "neighbours" "neighbours" (top 21) (.str "pebbletoll.webs" 354) (.ref 173))
def tK:Obj:=(tO #[(.str "web" 414),(.str "number" 415)])
def wn:Obj:=(fR "check_place" "check_place" (top 22))
def tJ:Obj:=(cO "check_place" "check_place" 411 412 413 69 2 0 0 3 (.ref 175) true 181 (.ref 176) .none (.ref 177) (.ref 178) (.ref 179) 416 69 417)
def ue:Obj:=(fO "check_place" "check_place" (top 22) (.str "pebbletoll.webs" 354) (.ref 180))
def sY:Obj:=(tO #[(.str "many" 422),(.str "number" 423)])
def xS:Obj:=(fR "is_place" "is_place" (top 23))
def tj:Obj:=(cO "is_place" "is_place" 419 420 421 72 2 0 0 3 (.ref 182) true 181 (.ref 183) .none (.ref 184) (.ref 185) (.ref 186) 424 72 425)
def sH:Obj:=(fO "is_place" "is_place" (top 23) (.str "pebbletoll.webs" 354) (.ref 187))
def tV:Obj:=(tO #[(.str "many" 430),(.str "roads" 431)])
def yw:Obj:=(fR "check_counts" "check_counts" (top 24))
def uq:Obj:=(cO "check_counts" "check_counts" 427 428 429 74 2 0 0 3 (.ref 189) true 181 (.ref 190) .none (.ref 191) (.ref 192) (.ref 193) 432 74 433)
def tS:Obj:=(fO "check_counts" "check_counts" (top 24) (.str "pebbletoll.webs" 354) (.ref 194))
def tX:Obj:=(tO #[(.str "many" 438),(.str "road" 439)])
def wj:Obj:=(fR "check_ends" "check_ends" (top 25))
def t9:Obj:=(cO "check_ends" "check_ends" 435 436 437 79 2 0 0 3 (.ref 196) true 181 (.ref 197) .none (.ref 198) (.ref 199) (.ref 200) 440 79 441)
def um:Obj:=(fO "check_ends" "check_ends" (top 25) (.str "pebbletoll.webs" 354) (.ref 201))
def t7:Obj:=(tO #[(.str "road" 446),(.str "number" 447)])
def we:Obj:=(fR "check_tolls" "check_tolls" (top 26))
def sE:Obj:=(cO "check_tolls" "check_tolls" 443 444 445 84 1 0 0 3 (.ref 203) true 181 (.ref 204) .none (.ref 205) (.ref 206) (.ref 207) 448 84 449)
def uz:Obj:=(fO "check_tolls" "check_tolls" (top 26) (.str "pebbletoll.webs" 354) (.ref 208))
noncomputable def h0 (P:Params):Heap:=.mk (.mk (boot_o_0 P :: boot_o_1 P :: boot_o_2 P :: x4 P :: boot_o_4 P :: boot_o_5 P :: boot_o_6 P :: boot_o_7 P :: boot_o_8 P :: boot_o_9 P :: boot_o_10 P :: x0 :: x5 :: x2 :: x3 :: x0 :: x1 :: x6 :: x0 :: x7 :: x8 :: x9 :: x0 :: x1 :: x10 :: x0 :: x11 :: x12 :: x13 :: x0 :: x1 :: x14 :: x0 :: x15 :: x16 :: x17 :: x0 :: x1 :: x18 :: x0 :: x19 :: x20 :: x21 :: x0 :: x1 :: x22 :: x0 :: x23 :: x24 :: x25 :: x0 :: x1 :: x26 :: x0 :: x27 :: x28 :: x29 :: x0 :: x1 :: x30 :: x31 :: x32 :: x33 :: x34 :: x35 P :: x0 :: x1 :: x36 :: x37 :: x0 :: x38 P :: x39 :: x40 :: x41 :: x42 :: x43 :: x34 :: x44 P :: x0 :: x1 :: x45 :: x46 :: x0 :: x47 P :: x48 :: x49 :: x50 :: x43 :: x34 :: x51 P :: x0 :: x1 :: x52 :: x53 :: x0 :: x54 P :: x55 :: x56 :: x57 :: x43 :: x34 :: x58 P :: x0 :: x1 :: x59 :: x60 :: x0 :: x61 P :: x62 :: x63 :: x64 :: x43 :: x34 :: x65 P :: x0 :: x1 :: x66 :: x67 :: x0 :: x68 P :: x69 :: x70 :: x71 :: x43 :: x34 :: x72 P :: x0 :: x73 :: x74 :: x75 :: x0 :: x1 :: x76 :: x0 :: x77 :: x78 :: x79 :: x80 :: x81 P :: x82 :: x83 :: x84 :: x0 :: x34 :: x85 P :: x0 :: x86 :: x87 :: x88 :: x0 :: x1 :: x89 :: x90 :: x91 :: x92 :: x93 P :: x94 :: x95 :: x96 :: x97 :: x98 :: x0 :: x1 :: x99 :: x0 :: wu :: uf :: sD :: x0 :: x1 :: sV :: x0 :: yk :: tM :: tT :: x0 :: x1 :: tK :: x0 :: wn :: tJ :: ue :: x0 :: x1 :: sY :: x0 :: xS :: tj :: sH :: x0 :: x1 :: tV :: x0 :: yw :: uq :: tS :: x0 :: x1 :: tX :: x0 :: wj :: t9 :: um :: x0 :: x1 :: t7 :: x0 :: we :: sE :: uz :: [])) (.mk [] [] [] 0 [] [] false #[] [] 0 false false false 0 [2000,10,10] false 0 true [] [] 0 false)
theorem CM (w:World) (os:OsState):segRun treeTable PySem.Challenge.pw_pebbletoll_k68_whole_layings_for_every_p w 11 (some (.ref 6)) 1 1980 (Shared.mk (hb w.params) (.mk []) (.mk 0 0 0 0) 187 os) (piecesOf st0 env cE (.mk 0 0 0 0) [topFrame (.mk 0 0 0 0)])=some (.next,(Shared.mk (h0 w.params) (.mk []) (.mk 0 0 0 0) 451 os),cE,(.mk 84 0 87 55)):=by kernel_rfl
def yH (P:Params):Obj:=(.mk (.type "dict") none (.dict #[(en P "__name__" 165 (.str "law_pebbletoll_k68_whole_layings_for_every_p" 703)),(en P "__doc__" 166 .none),(en P "__package__" 167 .none),(en P "__loader__" 168 (.builtin "__main__.__loader__#opaque")),(en P "__spec__" 169 .none),(en P "__annotations__" 170 (.ref 6)),(en P "__builtins__" 171 (.ref 4)),(en P "__file__" 173 (.str "/claim/cut.py" 172)),(en P "__cached__" 174 .none),(en P "fraction" 197 (.ref 21)),(en P "common_divisor" 206 (.ref 28)),(en P "plus" 214 (.ref 35)),(en P "minus" 222 (.ref 42)),(en P "times" 230 (.ref 49)),(en P "less" 238 (.ref 56)),(en P "sum_up" 244 (.ref 61)),(en P "TollError" 264 (.ref 71)),(en P "BadWeb" 280 (.ref 84)),(en P "NoPlace" 296 (.ref 96)),(en P "NoRoad" 312 (.ref 108)),(en P "BadLaying" 328 (.ref 120)),(en P "BadStep" 353 (.ref 139)),(en P "MOST_PLACES" 357 (.int 24 356)),(en P "LEAST_TOLL" 359 (.int 2 358)),(en P "MOST_TOLL" 361 (.int 1000000 360)),(en P "Web" 389 (.ref 156)),(en P "toll" 402 (.ref 167)),(en P "neighbours" 410 (.ref 174)),(en P "check_place" 418 (.ref 181)),(en P "is_place" 426 (.ref 188)),(en P "check_counts" 434 (.ref 195)),(en P "check_ends" 442 (.ref 202)),(en P "check_tolls" 450 (.ref 209)),(en P "check_joined" 462 (.ref 216)),(en P "other_ends" 472 (.ref 223)),(en P "ahead" 487 (.ref 230)),(en P "down" 500 (.ref 237)),(en P "kids" 506 (.ref 242)),(en P "inward" 512 (.ref 247)),(en P "NOUGHT" 517 (.ref 248)),(en P "ONE" 520 (.ref 249)),(en P "worth" 529 (.ref 256)),(en P "divided_up" 535 (.ref 261)),(en P "prices_to" 546 (.ref 268)),(en P "even_shares" 552 (.ref 273)),(en P "even_share" 558 (.ref 278)),(en P "second_shares" 564 (.ref 283)),(en P "second_share" 570 (.ref 288)),(en P "road_part" 578 (.ref 295)),(en P "is_below" 585 (.ref 302)),(en P "fairest" 591 (.ref 307)),(en P "laying_of" 601 (.ref 314)),(en P "is_filled" 607 (.ref 319)),(en P "gathered" 621 (.ref 326)),(en P "most" 630 (.ref 333)),(en P "bring" 644 (.ref 340)),(en P "walked" 655 (.ref 347)),(en P "layings" 667 (.ref 354)),(en P "can_be_done" 676 (.ref 361)),(en P "is_step" 684 (.ref 368)),(en P "taken" 692 (.ref 375)),(en P "behind" 702 (.ref 382)),(en P "_law_drawn" 715 (.ref 389)),(en P "_law_toll" 722 (.ref 396)),(en P "_law_roads" 737 (.ref 403)),(en P "_law_bound" 745 (.ref 410)),(en P "_law_laying" 757 (.ref 417)),(en P "_law_shares" 763 (.ref 422)),(en P "_law_worths_right" 775 (.ref 429)),(en P "law" 781 (.ref 434))] 70) #[])
def AS:Obj:=(.mk .none none (.fields #[(.int 2 0),(.int 0 0),(.ref 20),(.int 7 0),(.int 0 0),(.ref 27),(.int 13 0),(.int 0 0),(.ref 34),(.int 15 0),(.int 0 0),(.ref 41),(.int 17 0),(.int 0 0),(.ref 48),(.int 19 0),(.int 0 0),(.ref 55),(.int 21 0),(.int 0 0),(.ref 60),(.int 27 0),(.int 0 0),(.ref 67),(.int 29 0),(.int 0 0),(.ref 80),(.int 31 0),(.int 0 0),(.ref 92),(.int 33 0),(.int 0 0),(.ref 104),(.int 35 0),(.int 0 0),(.ref 116),(.int 37 0),(.int 0 0),(.ref 128),(.int 46 0),(.int 0 0),(.ref 147),(.int 57 0),(.int 0 0),(.ref 166),(.int 66 0),(.int 0 0),(.ref 173),(.int 69 0),(.int 0 0),(.ref 180),(.int 72 0),(.int 0 0),(.ref 187),(.int 74 0),(.int 0 0),(.ref 194),(.int 79 0),(.int 0 0),(.ref 201),(.int 84 0),(.int 0 0),(.ref 208),(.int 88 0),(.int 0 0),(.ref 215),(.int 99 0),(.int 0 0),(.ref 222),(.int 108 0),(.int 0 0),(.ref 229),(.int 119 0),(.int 0 0),(.ref 236),(.int 129 0),(.int 0 0),(.ref 241),(.int 131 0),(.int 0 0),(.ref 246),(.int 137 0),(.int 0 0),(.ref 255),(.int 139 0),(.int 0 0),(.ref 260),(.int 141 0),(.int 0 0),(.ref 267),(.int 146 0),(.int 0 0),(.ref 272),(.int 148 0),(.int 0 0),(.ref 277),(.int 151 0),(.int 0 0),(.ref 282),(.int 153 0),(.int 0 0),(.ref 287),(.int 156 0),(.int 0 0),(.ref 294),(.int 158 0),(.int 0 0),(.ref 301),(.int 160 0),(.int 0 0),(.ref 306),(.int 168 0),(.int 0 0),(.ref 313),(.int 172 0),(.int 0 0),(.ref 318),(.int 175 0),(.int 0 0),(.ref 325),(.int 180 0),(.int 0 0),(.ref 332),(.int 182 0),(.int 0 0),(.ref 339),(.int 191 0),(.int 0 0),(.ref 346),(.int 193 0),(.int 0 0),(.ref 353),(.int 200 0),(.int 0 0),(.ref 360),(.int 202 0),(.int 0 0),(.ref 367),(.int 204 0),(.int 0 0),(.ref 374),(.int 206 0),(.int 0 0),(.ref 381),(.int 212 0),(.int 0 0),(.ref 388),(.int 221 0),(.int 0 0),(.ref 395),(.int 225 0),(.int 0 0),(.ref 402),(.int 240 0),(.int 0 0),(.ref 409),(.int 243 0),(.int 0 0),(.ref 416),(.int 250 0),(.int 0 0),(.ref 421),(.int 252 0),(.int 0 0),(.ref 428),(.int 259 0),(.int 0 0),(.ref 433)]) #[])
def wQ:Obj:=(tO #[(.str "many" 454),(.str "roads" 455),(.str "reached" 456),(.str "waiting" 457),(.str "place" 458),(.str "end" 459)])
def BD:Obj:=(fR "check_joined" "check_joined" (top 27))
def xn:Obj:=(cO "check_joined" "check_joined" 451 452 453 88 2 0 0 3 (.ref 210) true 181 (.ref 211) .none (.ref 212) (.ref 213) (.ref 214) 460 88 461)
def zc:Obj:=(fO "check_joined" "check_joined" (top 27) (.str "pebbletoll.webs" 354) (.ref 215))
def yj:Obj:=(tO #[(.str "roads" 466),(.str "place" 467),(.str "ends" 468),(.str "road" 469)])
def Cb:Obj:=(fR "other_ends" "other_ends" (top 28))
def wB:Obj:=(cO "other_ends" "other_ends" 463 464 465 99 2 0 0 3 (.ref 217) true 181 (.ref 218) .none (.ref 219) (.ref 220) (.ref 221) 470 99 471)
def xX:Obj:=(fO "other_ends" "other_ends" (top 28) (.str "pebbletoll.webs" 354) (.ref 222))
def yF:Obj:=(tO #[(.str "web" 478),(.str "r" 479),(.str "nearer" 480),(.str "waiting" 481),(.str "place" 482),(.str "front" 483),(.str "kid" 484)])
def Cd:Obj:=(fR "ahead" "ahead" (top 30))
def zi:Obj:=(cO "ahead" "ahead" 475 476 477 108 2 0 0 3 (.ref 224) true 181 (.ref 225) .none (.ref 226) (.ref 227) (.ref 228) 485 108 486)
def wq:Obj:=(fO "ahead" "ahead" (top 30) (.str "pebbletoll.ways" 473) (.ref 229))
def vZ:Obj:=(tO #[(.str "web" 491),(.str "r" 492),(.str "nearer" 493),(.str "places" 494),(.str "waiting" 495),(.str "place" 496),(.str "kid" 497)])
def B6:Obj:=(fR "down" "down" (top 31))
def yQ:Obj:=(cO "down" "down" 488 489 490 119 2 0 0 3 (.ref 231) true 181 (.ref 232) .none (.ref 233) (.ref 234) (.ref 235) 498 119 499)
def yh:Obj:=(fO "down" "down" (top 31) (.str "pebbletoll.ways" 473) (.ref 236))
def BJ:Obj:=(fR "kids" "kids" (top 32))
def xU:Obj:=(cO "kids" "kids" 501 502 503 129 3 0 0 3 (.ref 238) true 181 (.ref 239) .none .none .none (.ref 240) 504 129 505)
def yz:Obj:=(fO "kids" "kids" (top 32) (.str "pebbletoll.ways" 473) (.ref 241))
def AW:Obj:=(fR "inward" "inward" (top 33))
def xL:Obj:=(cO "inward" "inward" 507 508 509 131 2 0 0 3 (.ref 243) true 181 (.ref 244) .none .none .none (.ref 245) 510 131 511)
def yt:Obj:=(fO "inward" "inward" (top 33) (.str "pebbletoll.ways" 473) (.ref 246))
def xB:Obj:=(tO #[(.int 0 515),(.int 1 516)])
def wD:Obj:=(tO #[(.int 1 518),(.int 1 519)])
def wN:Obj:=(tO #[(.str "web" 524),(.str "shares" 525),(.str "v" 526)])
def Ci:Obj:=(fR "worth" "worth" (top 37))
def yV:Obj:=(cO "worth" "worth" 521 522 523 137 3 0 0 3 (.ref 250) true 181 (.ref 251) .none (.ref 252) (.ref 253) (.ref 254) 527 137 528)
def xg:Obj:=(fO "worth" "worth" (top 37) (.str "pebbletoll.shares" 513) (.ref 255))
def Bi:Obj:=(fR "divided_up" "divided_up" (top 38))
def xO:Obj:=(cO "divided_up" "divided_up" 530 531 532 139 2 0 0 3 (.ref 257) true 181 (.ref 258) .none .none .none (.ref 259) 533 139 534)
def xi:Obj:=(fO "divided_up" "divided_up" (top 38) (.str "pebbletoll.shares" 513) (.ref 260))
def wU:Obj:=(tO #[(.str "web" 539),(.str "v" 540),(.str "prices" 541),(.str "place" 542),(.str "front" 543)])
def BT:Obj:=(fR "prices_to" "prices_to" (top 39))
def xH:Obj:=(cO "prices_to" "prices_to" 536 537 538 141 2 0 0 3 (.ref 262) true 181 (.ref 263) .none (.ref 264) (.ref 265) (.ref 266) 544 141 545)
def yf:Obj:=(fO "prices_to" "prices_to" (top 39) (.str "pebbletoll.shares" 513) (.ref 267))
def A7:Obj:=(fR "even_shares" "even_shares" (top 40))
def xE:Obj:=(cO "even_shares" "even_shares" 547 548 549 146 1 0 0 3 (.ref 269) true 181 (.ref 270) .none .none .none (.ref 271) 550 146 551)
def wL:Obj:=(fO "even_shares" "even_shares" (top 40) (.str "pebbletoll.shares" 513) (.ref 272))
def BA:Obj:=(fR "even_share" "even_share" (top 41))
def yY:Obj:=(cO "even_share" "even_share" 553 554 555 148 2 0 0 3 (.ref 274) true 181 (.ref 275) .none .none .none (.ref 276) 556 148 557)
def wJ:Obj:=(fO "even_share" "even_share" (top 41) (.str "pebbletoll.shares" 513) (.ref 277))
def Bx:Obj:=(fR "second_shares" "second_shares" (top 42))
def zx:Obj:=(cO "second_shares" "second_shares" 559 560 561 151 1 0 0 3 (.ref 279) true 181 (.ref 280) .none .none .none (.ref 281) 562 151 563)
def wf:Obj:=(fO "second_shares" "second_shares" (top 42) (.str "pebbletoll.shares" 513) (.ref 282))
def Ca:Obj:=(fR "second_share" "second_share" (top 43))
def zr:Obj:=(cO "second_share" "second_share" 565 566 567 153 2 0 0 3 (.ref 284) true 181 (.ref 285) .none .none .none (.ref 286) 568 153 569)
def y4:Obj:=(fO "second_share" "second_share" (top 43) (.str "pebbletoll.shares" 513) (.ref 287))
def wv:Obj:=(tO #[(.str "one" 574),(.str "other" 575)])
def Bu:Obj:=(fR "road_part" "road_part" (top 44))
def xA:Obj:=(cO "road_part" "road_part" 571 572 573 156 2 0 0 3 (.ref 289) true 181 (.ref 290) .none (.ref 291) (.ref 292) (.ref 293) 576 156 577)
def yG:Obj:=(fO "road_part" "road_part" (top 44) (.str "pebbletoll.shares" 513) (.ref 294))
def xz:Obj:=(tO #[(.str "share" 582)])
def Cg:Obj:=(fR "is_below" "is_below" (top 45))
def y9:Obj:=(cO "is_below" "is_below" 579 580 581 158 1 0 0 3 (.ref 296) true 181 (.ref 297) .none (.ref 298) (.ref 299) (.ref 300) 583 158 584)
def yZ:Obj:=(fO "is_below" "is_below" (top 45) (.str "pebbletoll.shares" 513) (.ref 301))
def BW:Obj:=(fR "fairest" "fairest" (top 46))
def zd:Obj:=(cO "fairest" "fairest" 586 587 588 160 1 0 0 3 (.ref 303) true 181 (.ref 304) .none .none .none (.ref 305) 589 160 590)
def yX:Obj:=(fO "fairest" "fairest" (top 46) (.str "pebbletoll.shares" 513) (.ref 306))
def wg:Obj:=(tO #[(.str "web" 597),(.str "numbers" 598)])
def A0:Obj:=(fR "laying_of" "laying_of" (top 48))
def xp:Obj:=(cO "laying_of" "laying_of" 594 595 596 168 2 0 0 3 (.ref 308) true 181 (.ref 309) .none (.ref 310) (.ref 311) (.ref 312) 599 168 600)
def wb:Obj:=(fO "laying_of" "laying_of" (top 48) (.str "pebbletoll.layings" 592) (.ref 313))
def BM:Obj:=(fR "is_filled" "is_filled" (top 49))
def wZ:Obj:=(cO "is_filled" "is_filled" 602 603 604 172 2 0 0 3 (.ref 315) true 181 (.ref 316) .none .none .none (.ref 317) 605 172 606)
def wF:Obj:=(fO "is_filled" "is_filled" (top 49) (.str "pebbletoll.layings" 592) (.ref 318))
def zA:Obj:=(tO #[(.str "web" 613),(.str "laying" 614),(.str "r" 615),(.str "counts" 616),(.str "place" 617),(.str "front" 618)])
def BI:Obj:=(fR "gathered" "gathered" (top 51))
def wW:Obj:=(cO "gathered" "gathered" 610 611 612 175 3 0 0 3 (.ref 320) true 181 (.ref 321) .none (.ref 322) (.ref 323) (.ref 324) 619 175 620)
def y6:Obj:=(fO "gathered" "gathered" (top 51) (.str "pebbletoll.bringing" 608) (.ref 325))
def vR:Obj:=(tO #[(.str "web" 625),(.str "laying" 626),(.str "r" 627)])
def Cf:Obj:=(fR "most" "most" (top 52))
def xG:Obj:=(cO "most" "most" 622 623 624 180 3 0 0 3 (.ref 327) true 181 (.ref 328) .none (.ref 329) (.ref 330) (.ref 331) 628 180 629)
def za:Obj:=(fO "most" "most" (top 52) (.str "pebbletoll.bringing" 608) (.ref 332))
def zz:Obj:=(tO #[(.str "web" 634),(.str "laying" 635),(.str "r" 636),(.str "counts" 637),(.str "steps" 638),(.str "place" 639),(.str "front" 640),(.str "times" 641)])
def BQ:Obj:=(fR "bring" "bring" (top 53))
def xC:Obj:=(cO "bring" "bring" 631 632 633 182 3 0 0 3 (.ref 334) true 181 (.ref 335) .none (.ref 336) (.ref 337) (.ref 338) 642 182 643)
def wH:Obj:=(fO "bring" "bring" (top 53) (.str "pebbletoll.bringing" 608) (.ref 339))
def yx:Obj:=(tO #[(.str "web" 650),(.str "laying" 651),(.str "steps" 652)])
def A8:Obj:=(fR "walked" "walked" (top 55))
def xt:Obj:=(cO "walked" "walked" 647 648 649 191 3 0 0 3 (.ref 341) true 181 (.ref 342) .none (.ref 343) (.ref 344) (.ref 345) 653 191 654)
def zq:Obj:=(fO "walked" "walked" (top 55) (.str "pebbletoll.steps" 645) (.ref 346))
def vU:Obj:=(tO #[(.str "web" 659),(.str "laying" 660),(.str "steps" 661),(.str "passed" 662),(.str "at" 663),(.str "step" 664)])
def BP:Obj:=(fR "layings" "layings" (top 56))
def zw:Obj:=(cO "layings" "layings" 656 657 658 193 3 0 0 3 (.ref 348) true 181 (.ref 349) .none (.ref 350) (.ref 351) (.ref 352) 665 193 666)
def wp:Obj:=(fO "layings" "layings" (top 56) (.str "pebbletoll.steps" 645) (.ref 353))
def zh:Obj:=(tO #[(.str "web" 671),(.str "laying" 672),(.str "step" 673)])
def Bw:Obj:=(fR "can_be_done" "can_be_done" (top 57))
def vX:Obj:=(cO "can_be_done" "can_be_done" 668 669 670 200 3 0 0 3 (.ref 355) true 181 (.ref 356) .none (.ref 357) (.ref 358) (.ref 359) 674 200 675)
def xZ:Obj:=(fO "can_be_done" "can_be_done" (top 57) (.str "pebbletoll.steps" 645) (.ref 360))
def wz:Obj:=(tO #[(.str "web" 680),(.str "step" 681)])
def Bk:Obj:=(fR "is_step" "is_step" (top 58))
def y7:Obj:=(cO "is_step" "is_step" 677 678 679 202 2 0 0 3 (.ref 362) true 181 (.ref 363) .none (.ref 364) (.ref 365) (.ref 366) 682 202 683)
def zu:Obj:=(fO "is_step" "is_step" (top 58) (.str "pebbletoll.steps" 645) (.ref 367))
def ye:Obj:=(tO #[(.str "web" 688),(.str "step" 689)])
def A4:Obj:=(fR "taken" "taken" (top 59))
def zf:Obj:=(cO "taken" "taken" 685 686 687 204 2 0 0 3 (.ref 369) true 181 (.ref 370) .none (.ref 371) (.ref 372) (.ref 373) 690 204 691)
def vQ:Obj:=(fO "taken" "taken" (top 59) (.str "pebbletoll.steps" 645) (.ref 374))
def zj:Obj:=(tO #[(.str "web" 696),(.str "laying" 697),(.str "step" 698),(.str "counts" 699)])
def BG:Obj:=(fR "behind" "behind" (top 60))
def ww:Obj:=(cO "behind" "behind" 693 694 695 206 3 0 0 3 (.ref 376) true 181 (.ref 377) .none (.ref 378) (.ref 379) (.ref 380) 700 206 701)
def wC:Obj:=(fO "behind" "behind" (top 60) (.str "pebbletoll.steps" 645) (.ref 381))
def wT:Obj:=(tO #[(.str "script" 708),(.str "k" 709),(.str "cell" 710),(.str "near" 711),(.str "far" 712)])
def BK:Obj:=(fR "_law_drawn" "_law_drawn" (top 62))
def yy:Obj:=(cO "_law_drawn" "_law_drawn" 705 706 707 212 2 0 0 3 (.ref 383) true 181 (.ref 384) .none (.ref 385) (.ref 386) (.ref 387) 713 212 714)
def xM:Obj:=(fO "_law_drawn" "_law_drawn" (top 62) (.str "law_pebbletoll_k68_whole_layings_for_every_p" 703) (.ref 388))
def yq:Obj:=(tO #[(.str "part" 719)])
def AU:Obj:=(fR "_law_toll" "_law_toll" (top 63))
def yC:Obj:=(cO "_law_toll" "_law_toll" 716 717 718 221 1 0 0 3 (.ref 390) true 181 (.ref 391) .none (.ref 392) (.ref 393) (.ref 394) 720 221 721)
def xV:Obj:=(fO "_law_toll" "_law_toll" (top 63) (.str "law_pebbletoll_k68_whole_layings_for_every_p" 703) (.ref 395))
def wA:Obj:=(tO #[(.str "script" 726),(.str "many" 727),(.str "shape" 728),(.str "roads" 729),(.str "k" 730),(.str "part" 731),(.str "to" 732),(.str "there" 733),(.str "back" 734)])
def BU:Obj:=(fR "_law_roads" "_law_roads" (top 64))
def ze:Obj:=(cO "_law_roads" "_law_roads" 723 724 725 225 3 0 0 3 (.ref 397) true 181 (.ref 398) .none (.ref 399) (.ref 400) (.ref 401) 735 225 736)
def xK:Obj:=(fO "_law_roads" "_law_roads" (top 64) (.str "law_pebbletoll_k68_whole_layings_for_every_p" 703) (.ref 402))
def xT:Obj:=(tO #[(.str "script" 741),(.str "head" 742)])
def B4:Obj:=(fR "_law_bound" "_law_bound" (top 65))
def wG:Obj:=(cO "_law_bound" "_law_bound" 738 739 740 240 1 0 0 3 (.ref 404) true 181 (.ref 405) .none (.ref 406) (.ref 407) (.ref 408) 743 240 744)
def zt:Obj:=(fO "_law_bound" "_law_bound" (top 65) (.str "law_pebbletoll_k68_whole_layings_for_every_p" 703) (.ref 409))
def xw:Obj:=(tO #[(.str "script" 749),(.str "many" 750),(.str "bound" 751),(.str "laying" 752),(.str "k" 753),(.str "place" 754)])
def BN:Obj:=(fR "_law_laying" "_law_laying" (top 66))
def wE:Obj:=(cO "_law_laying" "_law_laying" 746 747 748 243 3 0 0 3 (.ref 411) true 181 (.ref 412) .none (.ref 413) (.ref 414) (.ref 415) 755 243 756)
def yM:Obj:=(fO "_law_laying" "_law_laying" (top 66) (.str "law_pebbletoll_k68_whole_layings_for_every_p" 703) (.ref 416))
def BX:Obj:=(fR "_law_shares" "_law_shares" (top 67))
def yi:Obj:=(cO "_law_shares" "_law_shares" 758 759 760 250 1 0 0 3 (.ref 418) true 181 (.ref 419) .none .none .none (.ref 420) 761 250 762)
def yU:Obj:=(fO "_law_shares" "_law_shares" (top 67) (.str "law_pebbletoll_k68_whole_layings_for_every_p" 703) (.ref 421))
def wa:Obj:=(tO #[(.str "web" 767),(.str "laying" 768),(.str "r" 769),(.str "shares" 770),(.str "behind_v" 771),(.str "place" 772)])
def B5:Obj:=(fR "_law_worths_right" "_law_worths_right" (top 68))
def yI:Obj:=(cO "_law_worths_right" "_law_worths_right" 764 765 766 252 3 0 0 3 (.ref 423) true 181 (.ref 424) .none (.ref 425) (.ref 426) (.ref 427) 773 252 774)
def wo:Obj:=(fO "_law_worths_right" "_law_worths_right" (top 68) (.str "law_pebbletoll_k68_whole_layings_for_every_p" 703) (.ref 428))
def A6:Obj:=(fR "law" "law" (top 69))
def xD:Obj:=(cO "law" "law" 776 777 778 259 1 0 0 3 (.ref 430) true 181 (.ref 431) .none .none .none (.ref 432) 779 259 780)
def wy:Obj:=(fO "law" "law" (top 69) (.str "law_pebbletoll_k68_whole_layings_for_every_p" 703) (.ref 433))
noncomputable def h1 (P:Params):Heap:=.mk (.mk (boot_o_0 P :: boot_o_1 P :: boot_o_2 P :: yH P :: boot_o_4 P :: boot_o_5 P :: boot_o_6 P :: boot_o_7 P :: boot_o_8 P :: boot_o_9 P :: boot_o_10 P :: x0 :: AS :: x2 :: x3 :: x0 :: x1 :: x6 :: x0 :: x7 :: x8 :: x9 :: x0 :: x1 :: x10 :: x0 :: x11 :: x12 :: x13 :: x0 :: x1 :: x14 :: x0 :: x15 :: x16 :: x17 :: x0 :: x1 :: x18 :: x0 :: x19 :: x20 :: x21 :: x0 :: x1 :: x22 :: x0 :: x23 :: x24 :: x25 :: x0 :: x1 :: x26 :: x0 :: x27 :: x28 :: x29 :: x0 :: x1 :: x30 :: x31 :: x32 :: x33 :: x34 :: x35 P :: x0 :: x1 :: x36 :: x37 :: x0 :: x38 P :: x39 :: x40 :: x41 :: x42 :: x43 :: x34 :: x44 P :: x0 :: x1 :: x45 :: x46 :: x0 :: x47 P :: x48 :: x49 :: x50 :: x43 :: x34 :: x51 P :: x0 :: x1 :: x52 :: x53 :: x0 :: x54 P :: x55 :: x56 :: x57 :: x43 :: x34 :: x58 P :: x0 :: x1 :: x59 :: x60 :: x0 :: x61 P :: x62 :: x63 :: x64 :: x43 :: x34 :: x65 P :: x0 :: x1 :: x66 :: x67 :: x0 :: x68 P :: x69 :: x70 :: x71 :: x43 :: x34 :: x72 P :: x0 :: x73 :: x74 :: x75 :: x0 :: x1 :: x76 :: x0 :: x77 :: x78 :: x79 :: x80 :: x81 P :: x82 :: x83 :: x84 :: x0 :: x34 :: x85 P :: x0 :: x86 :: x87 :: x88 :: x0 :: x1 :: x89 :: x90 :: x91 :: x92 :: x93 P :: x94 :: x95 :: x96 :: x97 :: x98 :: x0 :: x1 :: x99 :: x0 :: wu :: uf :: sD :: x0 :: x1 :: sV :: x0 :: yk :: tM :: tT :: x0 :: x1 :: tK :: x0 :: wn :: tJ :: ue :: x0 :: x1 :: sY :: x0 :: xS :: tj :: sH :: x0 :: x1 :: tV :: x0 :: yw :: uq :: tS :: x0 :: x1 :: tX :: x0 :: wj :: t9 :: um :: x0 :: x1 :: t7 :: x0 :: we :: sE :: uz :: x0 :: x1 :: wQ :: x0 :: BD :: xn :: zc :: x0 :: x1 :: yj :: x0 :: Cb :: wB :: xX :: x0 :: x1 :: yF :: x0 :: Cd :: zi :: wq :: x0 :: x1 :: vZ :: x0 :: B6 :: yQ :: yh :: x0 :: x1 :: BJ :: xU :: yz :: x0 :: x1 :: AW :: xL :: yt :: xB :: wD :: x0 :: x1 :: wN :: x0 :: Ci :: yV :: xg :: x0 :: x1 :: Bi :: xO :: xi :: x0 :: x1 :: wU :: x0 :: BT :: xH :: yf :: x0 :: x1 :: A7 :: xE :: wL :: x0 :: x1 :: BA :: yY :: wJ :: x0 :: x1 :: Bx :: zx :: wf :: x0 :: x1 :: Ca :: zr :: y4 :: x0 :: x1 :: wv :: x0 :: Bu :: xA :: yG :: x0 :: x1 :: xz :: x0 :: Cg :: y9 :: yZ :: x0 :: x1 :: BW :: zd :: yX :: x0 :: x1 :: wg :: x0 :: A0 :: xp :: wb :: x0 :: x1 :: BM :: wZ :: wF :: x0 :: x1 :: zA :: x0 :: BI :: wW :: y6 :: x0 :: x1 :: vR :: x0 :: Cf :: xG :: za :: x0 :: x1 :: zz :: x0 :: BQ :: xC :: wH :: x0 :: x1 :: yx :: x0 :: A8 :: xt :: zq :: x0 :: x1 :: vU :: x0 :: BP :: zw :: wp :: x0 :: x1 :: zh :: x0 :: Bw :: vX :: xZ :: x0 :: x1 :: wz :: x0 :: Bk :: y7 :: zu :: x0 :: x1 :: ye :: x0 :: A4 :: zf :: vQ :: x0 :: x1 :: zj :: x0 :: BG :: ww :: wC :: x0 :: x1 :: wT :: x0 :: BK :: yy :: xM :: x0 :: x1 :: yq :: x0 :: AU :: yC :: xV :: x0 :: x1 :: wA :: x0 :: BU :: ze :: xK :: x0 :: x1 :: xT :: x0 :: B4 :: wG :: zt :: x0 :: x1 :: xw :: x0 :: BN :: wE :: yM :: x0 :: x1 :: BX :: yi :: yU :: x0 :: x1 :: wa :: x0 :: B5 :: yI :: wo :: x0 :: x1 :: A6 :: xD :: wy :: [])) (.mk [] [] [] 0 [] [] false #[] [] 0 false false false 0 [2000,10,10] false 0 true [] [] 0 false)
theorem Cy (w:World) (os:OsState):segRun treeTable PySem.Challenge.pw_pebbletoll_k68_whole_layings_for_every_p w 11 (some (.ref 6)) 1 1140 (Shared.mk (h0 w.params) (.mk []) (.mk 0 0 0 0) 451 os) (piecesOf st1 env cE (.mk 84 0 87 55) [topFrame (.mk 0 0 0 0)])=some (.next,(Shared.mk (h1 w.params) (.mk []) (.mk 0 0 0 0) 782 os),cE,(.mk 259 0 270 90)):=by kernel_rfl
noncomputable def hf (P:Params):Heap:=.mk (.mk (boot_o_0 P :: boot_o_1 P :: boot_o_2 P :: yH P :: boot_o_4 P :: boot_o_5 P :: boot_o_6 P :: boot_o_7 P :: boot_o_8 P :: boot_o_9 P :: boot_o_10 P :: x0 :: AS :: x2 :: x3 :: x0 :: x1 :: x6 :: x0 :: x7 :: x8 :: x9 :: x0 :: x1 :: x10 :: x0 :: x11 :: x12 :: x13 :: x0 :: x1 :: x14 :: x0 :: x15 :: x16 :: x17 :: x0 :: x1 :: x18 :: x0 :: x19 :: x20 :: x21 :: x0 :: x1 :: x22 :: x0 :: x23 :: x24 :: x25 :: x0 :: x1 :: x26 :: x0 :: x27 :: x28 :: x29 :: x0 :: x1 :: x30 :: x31 :: x32 :: x33 :: x34 :: x35 P :: x0 :: x1 :: x36 :: x37 :: x0 :: x38 P :: x39 :: x40 :: x41 :: x42 :: x43 :: x34 :: x44 P :: x0 :: x1 :: x45 :: x46 :: x0 :: x47 P :: x48 :: x49 :: x50 :: x43 :: x34 :: x51 P :: x0 :: x1 :: x52 :: x53 :: x0 :: x54 P :: x55 :: x56 :: x57 :: x43 :: x34 :: x58 P :: x0 :: x1 :: x59 :: x60 :: x0 :: x61 P :: x62 :: x63 :: x64 :: x43 :: x34 :: x65 P :: x0 :: x1 :: x66 :: x67 :: x0 :: x68 P :: x69 :: x70 :: x71 :: x43 :: x34 :: x72 P :: x0 :: x73 :: x74 :: x75 :: x0 :: x1 :: x76 :: x0 :: x77 :: x78 :: x79 :: x80 :: x81 P :: x82 :: x83 :: x84 :: x0 :: x34 :: x85 P :: x0 :: x86 :: x87 :: x88 :: x0 :: x1 :: x89 :: x90 :: x91 :: x92 :: x93 P :: x94 :: x95 :: x96 :: x97 :: x98 :: x0 :: x1 :: x99 :: x0 :: wu :: uf :: sD :: x0 :: x1 :: sV :: x0 :: yk :: tM :: tT :: x0 :: x1 :: tK :: x0 :: wn :: tJ :: ue :: x0 :: x1 :: sY :: x0 :: xS :: tj :: sH :: x0 :: x1 :: tV :: x0 :: yw :: uq :: tS :: x0 :: x1 :: tX :: x0 :: wj :: t9 :: um :: x0 :: x1 :: t7 :: x0 :: we :: sE :: uz :: x0 :: x1 :: wQ :: x0 :: BD :: xn :: zc :: x0 :: x1 :: yj :: x0 :: Cb :: wB :: xX :: x0 :: x1 :: yF :: x0 :: Cd :: zi :: wq :: x0 :: x1 :: vZ :: x0 :: B6 :: yQ :: yh :: x0 :: x1 :: BJ :: xU :: yz :: x0 :: x1 :: AW :: xL :: yt :: xB :: wD :: x0 :: x1 :: wN :: x0 :: Ci :: yV :: xg :: x0 :: x1 :: Bi :: xO :: xi :: x0 :: x1 :: wU :: x0 :: BT :: xH :: yf :: x0 :: x1 :: A7 :: xE :: wL :: x0 :: x1 :: BA :: yY :: wJ :: x0 :: x1 :: Bx :: zx :: wf :: x0 :: x1 :: Ca :: zr :: y4 :: x0 :: x1 :: wv :: x0 :: Bu :: xA :: yG :: x0 :: x1 :: xz :: x0 :: Cg :: y9 :: yZ :: x0 :: x1 :: BW :: zd :: yX :: x0 :: x1 :: wg :: x0 :: A0 :: xp :: wb :: x0 :: x1 :: BM :: wZ :: wF :: x0 :: x1 :: zA :: x0 :: BI :: wW :: y6 :: x0 :: x1 :: vR :: x0 :: Cf :: xG :: za :: x0 :: x1 :: zz :: x0 :: BQ :: xC :: wH :: x0 :: x1 :: yx :: x0 :: A8 :: xt :: zq :: x0 :: x1 :: vU :: x0 :: BP :: zw :: wp :: x0 :: x1 :: zh :: x0 :: Bw :: vX :: xZ :: x0 :: x1 :: wz :: x0 :: Bk :: y7 :: zu :: x0 :: x1 :: ye :: x0 :: A4 :: zf :: vQ :: x0 :: x1 :: zj :: x0 :: BG :: ww :: wC :: x0 :: x1 :: wT :: x0 :: BK :: yy :: xM :: x0 :: x1 :: yq :: x0 :: AU :: yC :: xV :: x0 :: x1 :: wA :: x0 :: BU :: ze :: xK :: x0 :: x1 :: xT :: x0 :: B4 :: wG :: zt :: x0 :: x1 :: xw :: x0 :: BN :: wE :: yM :: x0 :: x1 :: BX :: yi :: yU :: x0 :: x1 :: wa :: x0 :: B5 :: yI :: wo :: x0 :: x1 :: A6 :: xD :: wy :: [])) (.mk [] [] [] 0 [] [] false #[] [] 0 false false false 0 [2000,10,10] false 0 true [] [] 0 false)
theorem CA (w:World) (os:OsState):topRun treeTable PySem.Challenge.pw_pebbletoll_k68_whole_layings_for_every_p w 11 (some (.ref 6)) 2 (Shared.mk (h1 w.params) (.mk []) (.mk 0 0 0 0) 782 os) (restOf [] env cE (.mk 259 0 270 90) [topFrame (.mk 0 0 0 0)])=some (Shared.mk (hf w.params) (.mk []) (.mk 0 0 0 0) 782 os):=by kernel_rfl
theorem run (w:World) (os:OsState):topRun treeTable PySem.Challenge.pw_pebbletoll_k68_whole_layings_for_every_p w 11 (some (.ref 6)) (12 + (1 + (1980 + (1140 + (2))))) (Shared.mk (boot_heap w.params) (.mk []) boot_drawn boot_toks os) (topStub PySem.Challenge.pw_pebbletoll_k68_whole_layings_for_every_p)=some (Shared.mk (hf w.params) (.mk []) (.mk 0 0 0 0) 782 os):=go_top (CL w os) (piece_block (CK w os) (piece_app (CM w os) (piece_app (Cy w os) (CA w os))))
theorem opn:∀ w:World,(fencedOpening treeTable PySem.Challenge.pw_pebbletoll_k68_whole_layings_for_every_p w 6362).map (fun s=>(s.heap,s.gens,s.drawn,s.toks))=some (boot_heap w.params,Array.mk [],boot_drawn,boot_toks):=boot_open (by kernel_rfl) (by decide) fun s=>by kernel_rfl
theorem siz (w:World):((boot_heap w.params).isNs mainGlobals && (Array.mk ([]:List GenState)).size == 0,(boot_heap w.params).objs.size,(boot_heap w.params).nsMap mainGlobals "__annotations__")=(true,11,(some (.ref 6))):=by kernel_rfl
noncomputable def KK:Params→Frag:=fun P =>
 (nat_lit 2,boot_o_2 P) ::
 (nat_lit 3,yH P) ::
 (nat_lit 15,x0) ::
 (nat_lit 17,x6) ::
 (nat_lit 18,x0) ::
 (nat_lit 20,x8) ::
 (nat_lit 21,x9) ::
 (nat_lit 22,x0) ::
 (nat_lit 24,x10) ::
 (nat_lit 25,x0) ::
 (nat_lit 27,x12) ::
 (nat_lit 28,x13) ::
 (nat_lit 29,x0) ::
 (nat_lit 31,x14) ::
 (nat_lit 32,x0) ::
 (nat_lit 34,x16) ::
 (nat_lit 35,x17) ::
 (nat_lit 36,x0) ::
 (nat_lit 38,x18) ::
 (nat_lit 39,x0) ::
 (nat_lit 41,x20) ::
 (nat_lit 42,x21) ::
 (nat_lit 43,x0) ::
 (nat_lit 45,x22) ::
 (nat_lit 46,x0) ::
 (nat_lit 48,x24) ::
 (nat_lit 49,x25) ::
 (nat_lit 50,x0) ::
 (nat_lit 52,x26) ::
 (nat_lit 53,x0) ::
 (nat_lit 55,x28) ::
 (nat_lit 56,x29) ::
 (nat_lit 57,x0) ::
 (nat_lit 60,x31) ::
 (nat_lit 61,x32) ::
 (nat_lit 62,x33) ::
 (nat_lit 69,x0) ::
 (nat_lit 70,x38 P) ::
 (nat_lit 71,x39) ::
 (nat_lit 72,x40) ::
 (nat_lit 75,x43) ::
 (nat_lit 82,x0) ::
 (nat_lit 83,x47 P) ::
 (nat_lit 84,x48) ::
 (nat_lit 87,x43) ::
 (nat_lit 94,x0) ::
 (nat_lit 95,x54 P) ::
 (nat_lit 96,x55) ::
 (nat_lit 99,x43) ::
 (nat_lit 106,x0) ::
 (nat_lit 107,x61 P) ::
 (nat_lit 108,x62) ::
 (nat_lit 111,x43) ::
 (nat_lit 118,x0) ::
 (nat_lit 119,x68 P) ::
 (nat_lit 120,x69) ::
 (nat_lit 123,x43) ::
 (nat_lit 130,x0) ::
 (nat_lit 132,x76) ::
 (nat_lit 133,x0) ::
 (nat_lit 135,x78) ::
 (nat_lit 136,x79) ::
 (nat_lit 137,x80) ::
 (nat_lit 138,x81 P) ::
 (nat_lit 139,x82) ::
 (nat_lit 149,x0) ::
 (nat_lit 152,x90) ::
 (nat_lit 153,x91) ::
 (nat_lit 154,x92) ::
 (nat_lit 155,x93 P) ::
 (nat_lit 156,x94) ::
 (nat_lit 157,x95) ::
 (nat_lit 158,x96) ::
 (nat_lit 161,x0) ::
 (nat_lit 163,x99) ::
 (nat_lit 164,x0) ::
 (nat_lit 166,uf) ::
 (nat_lit 167,sD) ::
 (nat_lit 168,x0) ::
 (nat_lit 170,sV) ::
 (nat_lit 171,x0) ::
 (nat_lit 173,tM) ::
 (nat_lit 174,tT) ::
 (nat_lit 175,x0) ::
 (nat_lit 177,tK) ::
 (nat_lit 178,x0) ::
 (nat_lit 180,tJ) ::
 (nat_lit 181,ue) ::
 (nat_lit 182,x0) ::
 (nat_lit 184,sY) ::
 (nat_lit 185,x0) ::
 (nat_lit 187,tj) ::
 (nat_lit 188,sH) ::
 (nat_lit 189,x0) ::
 (nat_lit 191,tV) ::
 (nat_lit 192,x0) ::
 (nat_lit 194,uq) ::
 (nat_lit 195,tS) ::
 (nat_lit 196,x0) ::
 (nat_lit 198,tX) ::
 (nat_lit 199,x0) ::
 (nat_lit 201,t9) ::
 (nat_lit 202,um) ::
 (nat_lit 203,x0) ::
 (nat_lit 205,t7) ::
 (nat_lit 206,x0) ::
 (nat_lit 208,sE) ::
 (nat_lit 209,uz) ::
 (nat_lit 210,x0) ::
 (nat_lit 212,wQ) ::
 (nat_lit 213,x0) ::
 (nat_lit 215,xn) ::
 (nat_lit 216,zc) ::
 (nat_lit 217,x0) ::
 (nat_lit 219,yj) ::
 (nat_lit 220,x0) ::
 (nat_lit 222,wB) ::
 (nat_lit 223,xX) ::
 (nat_lit 224,x0) ::
 (nat_lit 226,yF) ::
 (nat_lit 227,x0) ::
 (nat_lit 229,zi) ::
 (nat_lit 230,wq) ::
 (nat_lit 231,x0) ::
 (nat_lit 233,vZ) ::
 (nat_lit 234,x0) ::
 (nat_lit 236,yQ) ::
 (nat_lit 237,yh) ::
 (nat_lit 238,x0) ::
 (nat_lit 241,xU) ::
 (nat_lit 242,yz) ::
 (nat_lit 243,x0) ::
 (nat_lit 246,xL) ::
 (nat_lit 247,yt) ::
 (nat_lit 248,xB) ::
 (nat_lit 249,wD) ::
 (nat_lit 250,x0) ::
 (nat_lit 252,wN) ::
 (nat_lit 253,x0) ::
 (nat_lit 255,yV) ::
 (nat_lit 256,xg) ::
 (nat_lit 257,x0) ::
 (nat_lit 260,xO) ::
 (nat_lit 261,xi) ::
 (nat_lit 262,x0) ::
 (nat_lit 264,wU) ::
 (nat_lit 265,x0) ::
 (nat_lit 267,xH) ::
 (nat_lit 268,yf) ::
 (nat_lit 269,x0) ::
 (nat_lit 272,xE) ::
 (nat_lit 273,wL) ::
 (nat_lit 274,x0) ::
 (nat_lit 277,yY) ::
 (nat_lit 278,wJ) ::
 (nat_lit 279,x0) ::
 (nat_lit 282,zx) ::
 (nat_lit 283,wf) ::
 (nat_lit 284,x0) ::
 (nat_lit 287,zr) ::
 (nat_lit 288,y4) ::
 (nat_lit 289,x0) ::
 (nat_lit 291,wv) ::
 (nat_lit 292,x0) ::
 (nat_lit 294,xA) ::
 (nat_lit 295,yG) ::
 (nat_lit 296,x0) ::
 (nat_lit 298,xz) ::
 (nat_lit 299,x0) ::
 (nat_lit 301,y9) ::
 (nat_lit 302,yZ) ::
 (nat_lit 303,x0) ::
 (nat_lit 306,zd) ::
 (nat_lit 307,yX) ::
 (nat_lit 308,x0) ::
 (nat_lit 310,wg) ::
 (nat_lit 311,x0) ::
 (nat_lit 313,xp) ::
 (nat_lit 314,wb) ::
 (nat_lit 315,x0) ::
 (nat_lit 318,wZ) ::
 (nat_lit 319,wF) ::
 (nat_lit 320,x0) ::
 (nat_lit 322,zA) ::
 (nat_lit 323,x0) ::
 (nat_lit 325,wW) ::
 (nat_lit 326,y6) ::
 (nat_lit 327,x0) ::
 (nat_lit 329,vR) ::
 (nat_lit 330,x0) ::
 (nat_lit 332,xG) ::
 (nat_lit 333,za) ::
 (nat_lit 334,x0) ::
 (nat_lit 336,zz) ::
 (nat_lit 337,x0) ::
 (nat_lit 339,xC) ::
 (nat_lit 340,wH) ::
 (nat_lit 341,x0) ::
 (nat_lit 343,yx) ::
 (nat_lit 344,x0) ::
 (nat_lit 346,xt) ::
 (nat_lit 347,zq) ::
 (nat_lit 348,x0) ::
 (nat_lit 350,vU) ::
 (nat_lit 351,x0) ::
 (nat_lit 353,zw) ::
 (nat_lit 354,wp) ::
 (nat_lit 355,x0) ::
 (nat_lit 357,zh) ::
 (nat_lit 358,x0) ::
 (nat_lit 360,vX) ::
 (nat_lit 361,xZ) ::
 (nat_lit 362,x0) ::
 (nat_lit 364,wz) ::
 (nat_lit 365,x0) ::
 (nat_lit 367,y7) ::
 (nat_lit 368,zu) ::
 (nat_lit 369,x0) ::
 (nat_lit 371,ye) ::
 (nat_lit 372,x0) ::
 (nat_lit 374,zf) ::
 (nat_lit 375,vQ) ::
 (nat_lit 376,x0) ::
 (nat_lit 378,zj) ::
 (nat_lit 379,x0) ::
 (nat_lit 381,ww) ::
 (nat_lit 382,wC) ::
 (nat_lit 383,x0) ::
 (nat_lit 385,wT) ::
 (nat_lit 386,x0) ::
 (nat_lit 388,yy) ::
 (nat_lit 389,xM) ::
 (nat_lit 390,x0) ::
 (nat_lit 392,yq) ::
 (nat_lit 393,x0) ::
 (nat_lit 395,yC) ::
 (nat_lit 396,xV) ::
 (nat_lit 397,x0) ::
 (nat_lit 399,wA) ::
 (nat_lit 400,x0) ::
 (nat_lit 402,ze) ::
 (nat_lit 403,xK) ::
 (nat_lit 404,x0) ::
 (nat_lit 406,xT) ::
 (nat_lit 407,x0) ::
 (nat_lit 409,wG) ::
 (nat_lit 410,zt) ::
 (nat_lit 411,x0) ::
 (nat_lit 413,xw) ::
 (nat_lit 414,x0) ::
 (nat_lit 416,wE) ::
 (nat_lit 417,yM) ::
 (nat_lit 418,x0) ::
 (nat_lit 421,yi) ::
 (nat_lit 422,yU) ::
 (nat_lit 423,x0) ::
 (nat_lit 425,wa) ::
 (nat_lit 426,x0) ::
 (nat_lit 428,yI) ::
 (nat_lit 429,wo) ::
 (nat_lit 430,x0) ::
 (nat_lit 433,xD) ::
 (nat_lit 434,wy) :: []
abbrev qq:Program:=PySem.W.view PySem.Challenge.pw_pebbletoll_k68_whole_layings_for_every_p [1,2,3,4,5,6,7,9,10,11,12,13,14,16,17,18,19,20,21,22,23,24,25,26,27,28,30,31,32,33,35,36,37,38,39,40,41,42,43,44,45,46,48,49,51,52,53,55,56,57,58,59,60,62,63,64,65,66,67,68,69]
abbrev asK:List Addr:=[2,3,15,17,18,20,21,22,24,25,27,28,29,31,32,34,35,36,38,39,41,42,43,45,46,48,49,50,52,53,55,56,57,60,61,62,69,70,71,72,75,82,83,84,87,94,95,96,99,106,107,108,111,118,119,120,123,130,132,133,135,136,137,138,139,149,152,153,154,155,156,157,158,161,163,164,166,167,168,170,171,173,174,175,177,178,180,181,182,184,185,187,188,189,191,192,194,195,196,198,199,201,202,203,205,206,208,209,210,212,213,215,216,217,219,220,222,223,224,226,227,229,230,231,233,234,236,237,238,241,242,243,246,247,248,249,250,252,253,255,256,257,260,261,262,264,265,267,268,269,272,273,274,277,278,279,282,283,284,287,288,289,291,292,294,295,296,298,299,301,302,303,306,307,308,310,311,313,314,315,318,319,320,322,323,325,326,327,329,330,332,333,334,336,337,339,340,341,343,344,346,347,348,350,351,353,354,355,357,358,360,361,362,364,365,367,368,369,371,372,374,375,376,378,379,381,382,383,385,386,388,389,390,392,393,395,396,397,399,400,402,403,404,406,407,409,410,411,413,414,416,417,418,421,422,423,425,426,428,429,430,433,434]
theorem asK_eq:∀ P,asK=(KK P).map (·.1):=fun _=>by kernel_rfl
theorem Co (w:World):(fun os=>((staticsOk (importedModules PySem.Challenge.pw_pebbletoll_k68_whole_layings_for_every_p.main.body) (boot_heap w.params) (hf w.params) && namesBound PySem.Challenge.pw_pebbletoll_k68_whole_layings_for_every_p (hf w.params) && gensDone (Shared.mk (Hd.hf w.params) (.mk []) (.mk 0 0 0 0) 782 os) && laidKept (boot_heap w.params) (hf w.params)),openSeen qq [] (importedModules PySem.Challenge.pw_pebbletoll_k68_whole_layings_for_every_p.main.body) (fun s=>PySem.W.xlAt Hd.qq [] s && PySem.W.recOk (PySem.W.RowW.records (PySem.W.OpenRow.toRowW (PySem.Challenge.rw_pebbletoll_k68_whole_layings_for_every_p).row)) s) true (Shared.mk (Hd.hf w.params) (.mk []) (.mk 0 0 0 0) 782 os),Hook.obs (PySem.W.kHook Hd.KK Hd.asK Hd.asK_eq) (Shared.mk (Hd.hf w.params) (.mk []) (.mk 0 0 0 0) 782 os)))=fun _=>(true,openGood qq [],Hook.val (PySem.W.kHook Hd.KK Hd.asK Hd.asK_eq) w):=by kernel_rfl
theorem left:PySem.W.LeftO (PySem.Challenge.rw_pebbletoll_k68_whole_layings_for_every_p).row.prog qq [] (fun s=>PySem.W.xlAt Hd.qq [] s && PySem.W.recOk (PySem.W.RowW.records (PySem.W.OpenRow.toRowW (PySem.Challenge.rw_pebbletoll_k68_whole_layings_for_every_p).row)) s) (PySem.W.Hook.obs (PySem.W.kHook Hd.KK Hd.asK Hd.asK_eq)) (PySem.W.Hook.val (PySem.W.kHook Hd.KK Hd.asK Hd.asK_eq)) 6362:=LeftO.of_pieces opn siz run (by decide) Co
end Hd
set_option Elab.async false
set_option linter.all false
set_option maxRecDepth 100000
namespace L2
open PySem PySem.Spec PyProof.Rows
abbrev Key:=Sum Int Str
def kc:Key→Value→Bool
 | .inl k,v=>Value.isInt k v
 | .inr x,v=>Value.isStrOf x v
def CI (w:World):Key→Int
 | .inl k=>hashInt k
 | .inr x=>hashStr w x
theorem cD:∀ {k:Key} {v:Value},kc k v=true→(∃ i t,k=Sum.inl i∧v=Value.int i t)∨(∃ x t,k=Sum.inr x∧v=Value.str x t)
 | .inl i,v,h=>by
   obtain ⟨t,e⟩:=Value.isInt_shape (k:=i) (v:=v) h
   exact .inl ⟨i,t,rfl,e⟩
 | .inr x,v,h=>by
   obtain ⟨t,e⟩:=Value.isStrOf_shape (x:=x) (v:=v) h
   exact .inr ⟨x,t,rfl,e⟩
theorem ve (i:Int) (t:Tok):kc (.inl i) (.int i t)=true:=by simp [kc,Value.isInt]
theorem vk (x:Str) (t:Tok):kc (.inr x) (.str x t)=true:=by simp [kc,Value.isStrOf]
theorem Bn (a b:Int):decide ((Sum.inl a:Key)=Sum.inl b)=(a == b):=by
 by_cases e:a=b
 · subst e; simp
 · have h:¬ (Sum.inl a:Key)=Sum.inl b:=fun q=>e (Sum.inl.inj q)
   rw [decide_eq_false h]
   exact (beq_eq_false_iff_ne.mpr e).symm
theorem Bc (a b:Str):decide ((Sum.inr a:Key)=Sum.inr b)=decide (a=b):=by
 by_cases e:a=b
 · subst e; simp
 · have h:¬ (Sum.inr a:Key)=Sum.inr b:=fun q=>e (Sum.inr.inj q)
   rw [decide_eq_false h,decide_eq_false e]
theorem Bm (a:Int) (b:Str):decide ((Sum.inl a:Key)=Sum.inr b)=false:=decide_eq_false (fun q=>nomatch q)
theorem BR (a:Str) (b:Int):decide ((Sum.inr a:Key)=Sum.inl b)=false:=decide_eq_false (fun q=>nomatch q)
def cw (prog:Program) (w:World):PySem.KeyKind prog w Key where
 is:=kc
 hash:=CI w
 inj:=fun v a b ha hb=>by
   rcases cD ha with ⟨i,t,rfl,rfl⟩ | ⟨x,t,rfl,rfl⟩
   · rcases cD hb with ⟨j,u,rfl,e⟩ | ⟨y,u,rfl,e⟩
     · injection e with e1 _; rw [e1]
     · exact nomatch e
   · rcases cD hb with ⟨j,u,rfl,e⟩ | ⟨y,u,rfl,e⟩
     · exact nomatch e
     · injection e with e1 _; rw [e1]
 byValue:=fun k v h=>by
   rcases cD h with ⟨i,t,rfl,rfl⟩ | ⟨x,t,rfl,rfl⟩ <;> rfl
 pyHash:=fun hv h=>by
   rcases cD hv with ⟨i,t,rfl,rfl⟩ | ⟨x,t,rfl,rfl⟩
   · exact wpAny_pyHash_int h
   · exact wpAny_pyHash_str h
 eqBool:=fun hu hv h=>by
   rcases cD hu with ⟨i,t,rfl,rfl⟩ | ⟨x,t,rfl,rfl⟩
   · rcases cD hv with ⟨j,u,rfl,rfl⟩ | ⟨y,u,rfl,rfl⟩
     · rw [Bn] at h; exact wpAny_eqBool_int h
     · rw [Bm] at h; exact SeqAt.EqAt.int_str i t y u _ _ _ _ h
   · rcases cD hv with ⟨j,u,rfl,rfl⟩ | ⟨y,u,rfl,rfl⟩
     · rw [BR] at h; exact SeqAt.EqAt.str_int x t j u _ _ _ _ h
     · rw [Bc] at h; exact wpAny_eqBool_str h
 «strs»:=fun k x t v h=>by
   rcases cD h with ⟨i,u,rfl,e⟩ | ⟨y,u,rfl,e⟩
   · exact nomatch e
   · injection e with e1 _
     subst e1
     cases v <;> rfl
theorem rp (prog:Program) (w:World) (i:Int) (t:Tok):(cw prog w).is (.inl i) (.int i t)=true:=ve i t
theorem rF (prog:Program) (w:World) (x:Str) (t:Tok):(cw prog w).is (.inr x) (.str x t)=true:=vk x t
end L2
namespace L2
open PySem PySem.Spec PyProof.Rows
inductive V where
 | non | bl (b:Bool) | int (i:Int) | str (x:Str) | byt (b:Array UInt8) | flt (b:UInt64) | ref (a:Addr) | ty (n:String)
 deriving DecidableEq
def RelV:V→Value→Prop
 | .non,u=>u=Value.none
 | .bl b,u=>u=Value.bool b
 | .int i,u=>∃ t,u=Value.int i t
 | .str x,u=>∃ t,u=Value.str x t
 | .byt b,u=>∃ t,u=Value.bytes b t
 | .flt b,u=>∃ t,u=Value.float b t
 | .ref a,u=>u=Value.ref a
 | .ty n,u=>u=Value.type n
abbrev Vals:List V→List Value→Prop:=Paired RelV
theorem Vals.length {xs:List V} {us:List Value} (r:Vals xs us):xs.length=us.length:=Paired.length r
theorem Vals.get:∀ {xs:List V} {us:List Value} {i:Nat} {x:V},Vals xs us→xs[i]?=some x→∃ u,us[i]?=some u∧RelV x u
 | _,_,_,_,.nil,e=>by simp at e
 | _,_,0,_,.cons r _,e=>by simp at e; subst e; exact ⟨_,rfl,r⟩
 | _,_,i + 1,x,.cons _ t,e=>by
   obtain ⟨u,h1,h2⟩:=Vals.get (i:=i) (x:=x) t (by simpa using e)
   exact ⟨u,by simpa using h1,h2⟩
theorem Vals.set {x:V} {u:Value} (r:RelV x u):∀ {xs:List V} {us:List Value} (i:Nat),Vals xs us→Vals (xs.set i x) (us.set i u)
 | _,_,_,.nil=>.nil
 | _,_,0,.cons _ t=>.cons r t
 | _,_,i + 1,.cons q t=>.cons q (Vals.set r i t)
theorem Vals.append:∀ {xs ys:List V} {us ws:List Value},Vals xs us→Vals ys ws→Vals (xs ++ ys) (us ++ ws)
 | _,_,_,_,.nil,s=>s
 | _,_,_,_,.cons r t,s=>.cons r (Vals.append t s)
theorem Vals.take:∀ {xs:List V} {us:List Value} (n:Nat),Vals xs us→Vals (xs.take n) (us.take n)
 | _,_,0,_=>.nil
 | _,_,_ + 1,.nil=>.nil
 | _,_,n + 1,.cons r t=>.cons r (Vals.take n t)
theorem Vals.drop:∀ {xs:List V} {us:List Value} (n:Nat),Vals xs us→Vals (xs.drop n) (us.drop n)
 | _,_,0,r=>r
 | _,_,_ + 1,.nil=>.nil
 | _,_,n + 1,.cons _ t=>Vals.drop n t
def RelO:Option V→Option Value→Prop
 | some v,some u=>RelV v u
 | none,none=>True
 | _,_=>False
def KV {κ:Type}:List (κ × V)→List (κ × Value)→Prop:=Paired fun (p:κ × V) (q:κ × Value)=>p.1=q.1∧RelV p.2 q.2
def kV:Key→V
 | .inl i=>.int i
 | .inr x=>.str x
inductive HO where
 /-- a list -/
 | lst (xs:List V)
 /-- a tuple (never changes) -/
 | tup (xs:List V)
 /-- a dict whose keys are ints and texts; one whose keys are tuples of ints and texts (the empty one is both) -/
 | dK (kvs:List (Key × V)) | dT (kvs:List (List Key × V))
 /-- a set of ints: its members,its size -/
 | set (S:Int→Bool) (n:Nat)
 /-- an instance of the class at C,its dict at dx,its attributes -/
 | ins (C dx:Addr) (fs:List (Str × V))
 /-- the dict of the instance at x -/
 | own (x:Addr)
 /-- the dict of an exception -/
 | xd (fs:List (Str × V))
 /-- a bound method,f of x -/
 | met (f x:Addr)
 /-- a range object lo,lo + 1,.. below hi -/
 | rng (lo hi:Int)
 /-- a thing that is known to the object (the script; a dict while a loop walks it): read,never written while it is so -/
 | frz (o:Obj) (u:HO)
 /-- a code object's table -/
 | tbl (ps:Array Value)
 /-- any other thing,by what is true of its one object (a def of one's own: SetO a S n:=HO.ext fun h=>..) -/
 | ext (φ:Heap→Prop)
abbrev Hp:=Addr→Option HO
def upd (H:Hp) (a:Addr) (o:HO):Hp:=fun b=>if b=a then some o else H b
theorem aj {H:Hp} {a:Addr} {o:HO}:upd H a o a=some o:=by unfold upd; rw [if_pos rfl]
theorem aq {H:Hp} {a b:Addr} {o:HO} (h:b≠a):upd H a o b=H b:=by unfold upd; rw [if_neg h]
theorem fD {H:Hp} {a:Addr} {o u:HO}:upd (upd H a o) a u=upd H a u:=by
 funext b; unfold upd; split <;> rfl
theorem dk {H:Hp} {a b:Addr} {o u:HO} (h:H a=some o) (h':H b=some u) (d:o≠u):a≠b:=by
 intro e; subst e; rw [h] at h'; exact d (Option.some.inj h')
theorem bo {H:Hp} {a b:Addr} {o:HO} (h:H a=some o) (h':H b=none):a≠b:=by
 intro e; subst e; rw [h] at h'; cases h'
section
variable (P:Program) (w:World)
def ObjOk (H:Hp) (h:Heap) (a:Addr):HO→Prop
 | .lst xs=>xs.length≤sizeLine∧∃ (its:List Value) (n:Nat),Vals xs its∧h.get? a=some { cls:=.type "list",data:=.seq its.toArray n }
 | .tup xs=>xs.length≤sizeLine∧∃ its:List Value,Vals xs its∧IsTup h a its.toArray
 | .dK kvs=>kvs.length≤sizeLine∧(a == sysModules)=false∧∃ vs,KV kvs vs∧h.DictOf (cw P w) a vs
 | .dT kvs=>kvs.length≤sizeLine∧(a == sysModules)=false∧∃ xs:List (List Key × Addr × Value),
     Paired (fun (p:List Key × V) (q:List Key × Addr × Value)=>p.1=q.1∧H q.2.1=some (.tup (p.1.map kV))∧RelV p.2 q.2.2) kvs xs ∧
     ∃ o es ep,h.get? a=some o∧o.ExactDict∧o.data=.dict es ep∧es.toList=xs.map (entryOfKey (tupleKind (cw P w)))∧(xs.map (·.1)).Nodup
 | .set S n=>h.SetOf (intKind P w) a S n
 | .ins C dx fs=>H dx=some (.own a)∧fs.length≤1000∧dx≠a∧h.get? a=some (PySem.W.instObj C dx) ∧
     ∃ mA,h.Ns1 dx mA∧(∀ f,RelO (fs.lookup f) (mA f))∧PySem.Within mA (fs.map (·.1))
 | .own _=>∃ o,h.get? a=some o
 | .xd fs=>∃ mA,h.Ns1 a mA∧∀ f,RelO (fs.lookup f) (mA f)
 | .rng lo hi=>∃ t u v,h.get? a=some { cls:=.type "range",data:=.fields #[.int lo t,.int hi u,.int 1 v] }
 | .frz o u=>h.get? a=some o∧ObjOk H h a u
 | .tbl ps=>h.get? a=some { cls:=.none,data:=.fields ps }
 | .met f x=>h.get? a=some (PySem.W.methodObj (.ref f) (.ref x))
 | .ext φ=>φ h∧(∃ o,h.get? a=some o)∧∀ h1 h2:Heap,φ h1→(∀ o,h1.get? a=some o→h2.get? a=some o)→φ h2
def HOk (H:Hp) (h:Heap):Prop:=∀ a o,H a=some o→ObjOk P w H h a o
end
section
variable {P:Program} {w:World} {H H':Hp} {h h':Heap} {a:Addr} {o:HO}
theorem ObjOk.lt (x:ObjOk P w H h a o):a < h.objs.size:=by
 cases o with
 | lst xs=>obtain ⟨_,_,_,_,e⟩:=x; exact Heap.lt_size e
 | tup xs=>obtain ⟨_,_,_,p⟩:=x; exact p.lt
 | dK kvs=>obtain ⟨_,_,_,_,o,_,_,e,_⟩:=x; exact Heap.lt_size e
 | dT kvs=>obtain ⟨_,_,_,_,o,_,_,e,_⟩:=x; exact Heap.lt_size e
 | set S n=>obtain ⟨o,_,_,_,e,_⟩:=x; exact Heap.lt_size e
 | ins C dx fs=>obtain ⟨_,_,_,e,_⟩:=x; exact Heap.lt_size e
 | own y=>obtain ⟨_,e⟩:=x; exact Heap.lt_size e
 | xd fs=>obtain ⟨_,⟨_,_,_,e,_⟩,_⟩:=x; exact Heap.lt_size e
 | rng lo hi=>obtain ⟨_,_,_,e⟩:=x; exact Heap.lt_size e
 | frz ob u=>obtain ⟨e,_⟩:=x; exact Heap.lt_size e
 | tbl ps=>exact Heap.lt_size (show h.get? a=some _ from x)
 | met f y=>exact Heap.lt_size (show h.get? a=some _ from x)
 | ext φ=>obtain ⟨_,⟨_,e⟩,_⟩:=x; exact Heap.lt_size e
theorem Paired.mapP {α β:Type} {F G:α→β→Prop}:∀ {l₁:List α} {l₂:List β},Paired F l₁ l₂→(∀ a b,F a b→G a b)→Paired G l₁ l₂
 | _,_,.nil,_=>.nil
 | _,_,.cons r t,f=>.cons (f _ _ r) (Paired.mapP t f)
theorem Paired.imp' {α β:Type} {F G:α→β→Prop} (f:∀ a b,F a b→G a b) {l₁:List α} {l₂:List β} (r:Paired F l₁ l₂):Paired G l₁ l₂:=Paired.mapP r f
theorem ObjOk.stay (x:ObjOk P w H h a o) (k:∀ b u,(b=a∨H b=some (.own a))→h.get? b=some u→h'.get? b=some u)
   (ho:∀ b,H b=some (.own a)→H' b=some (.own a)) (ht:∀ b xs,H b=some (.tup xs)→H' b=some (.tup xs)):ObjOk P w H' h' a o:=by
 induction o with
 | lst xs=>obtain ⟨z,its,n,r,e⟩:=x; exact ⟨z,its,n,r,k _ _ (.inl rfl) e⟩
 | tup xs=>obtain ⟨z,its,r,ob,e,c⟩:=x; exact ⟨z,its,r,ob,k _ _ (.inl rfl) e,c⟩
 | dK kvs=>obtain ⟨z,y,vs,r,ob,es,ep,e,c⟩:=x; exact ⟨z,y,vs,r,ob,es,ep,k _ _ (.inl rfl) e,c⟩
 | dT kvs =>
   obtain ⟨z,y,xs,r,ob,es,ep,e,c⟩:=x
   exact ⟨z,y,xs,Paired.mapP r fun p q z=>⟨z.1,ht _ _ z.2.1,z.2.2⟩,ob,es,ep,k _ _ (.inl rfl) e,c⟩
 | set S n=>obtain ⟨ob,es,ep,t,e,c⟩:=x; exact ⟨ob,es,ep,t,k _ _ (.inl rfl) e,c⟩
 | ins C dx fs =>
   obtain ⟨d,z,ne,e,mA,⟨od,es,ep,e2,c⟩,r⟩:=x
   exact ⟨ho _ d,z,ne,k _ _ (.inl rfl) e,mA,⟨od,es,ep,k _ _ (.inr d) e2,c⟩,r⟩
 | own y=>obtain ⟨ob,e⟩:=x; exact ⟨ob,k _ _ (.inl rfl) e⟩
 | xd fs=>obtain ⟨mA,⟨od,es,ep,e,c⟩,r⟩:=x; exact ⟨mA,⟨od,es,ep,k _ _ (.inl rfl) e,c⟩,r⟩
 | rng lo hi=>obtain ⟨t,u,v,e⟩:=x; exact ⟨t,u,v,k _ _ (.inl rfl) e⟩
 | frz ob u ih=>obtain ⟨e,q⟩:=x; exact ⟨k _ _ (.inl rfl) e,ih q⟩
 | tbl ps =>
   have e:h.get? a=some { cls:=.none,data:=.fields ps }:=x
   show h'.get? a=some { cls:=.none,data:=.fields ps }
   exact k a _ (.inl rfl) e
 | met f y =>
   have e:h.get? a=some (PySem.W.methodObj (.ref f) (.ref y)):=x
   show h'.get? a=some (PySem.W.methodObj (.ref f) (.ref y))
   exact k a _ (.inl rfl) e
 | ext φ=>obtain ⟨p,⟨o,e⟩,st⟩:=x; exact ⟨st _ _ p fun o q=>k _ _ (.inl rfl) q,⟨o,k _ _ (.inl rfl) e⟩,st⟩
theorem HOk.lt (x:HOk P w H h) (e:H a=some o):a < h.objs.size:=(x a o e).lt
theorem HOk.fresh (x:HOk P w H h) (e:h.objs.size≤a):H a=none:=by
 cases q:H a with
 | none=>rfl
 | some u=>exact absurd (Nat.lt_of_lt_of_le (x.lt q) e) (Nat.lt_irrefl _)
theorem HOk.kept (x:HOk P w H h) (k:∀ b u,h.get? b=some u→h'.get? b=some u):HOk P w H h':=fun a o e =>
 (x a o e).stay (fun b u _ q=>k b u q) (fun _ q=>q) fun _ _ q=>q
theorem HOk.laid (x:HOk P w H h) (k:∀ b u,h.get? b=some u→h'.get? b=some u) (hp:h.objs.size≤a) (new:ObjOk P w (upd H a o) h' a o):HOk P w (upd H a o) h':=fun b u e=>by
 have hn:=x.fresh hp
 by_cases hb:b=a
 · subst hb; rw [aj] at e; cases e; exact new
 · rw [aq hb] at e
   exact (x b u e).stay (fun c v _ q=>k c v q) (fun c q=>by rw [aq (bo q hn)]; exact q) fun c xs q=>by rw [aq (bo q hn)]; exact q
end
def Rd (H:Hp) (a:Addr) (u:HO):Prop:=H a=some u∨∃ o,H a=some (.frz o u)
theorem Rd.ok {P:Program} {w:World} {H:Hp} {h:Heap} {a:Addr} {u:HO} (r:Rd H a u) (x:HOk P w H h):ObjOk P w H h a u:=by
 rcases r with r | ⟨o,r⟩
 · exact x a u r
 · obtain ⟨_,q⟩:=x a _ r
   exact q
def Mut:Option HO→Prop
 | some (.lst _)=>True
 | some (.dK _)=>True
 | some (.dT _)=>True
 | some (.set _ _)=>True
 | some (.ins _ _ _)=>True
 | some (.ext _)=>True
 | _=>False
section
variable {P:Program} {w:World} {H:Hp} {h h':Heap} {x e:Addr} {o':HO}
theorem HOk.write (ok:HOk P w H h) (mu:Mut (H x)) (he:e=x∨H e=some (.own x)) (k:∀ b u,b≠e→h.get? b=some u→h'.get? b=some u) (heo:∃ u,h'.get? e=some u)
   (new:ObjOk P w (upd H x o') h' x o'):HOk P w (upd H x o') h':=fun b u q=>by
 have nown:∀ c y,H c=some (.own y)→c≠x:=fun c y r z=>by subst z; rw [r] at mu; exact mu
 have ntup:∀ c xs,H c=some (.tup xs)→c≠x:=fun c xs r z=>by subst z; rw [r] at mu; exact mu
 by_cases hb:b=x
 · subst hb; rw [aj] at q; cases q; exact new
 · rw [aq hb] at q
   by_cases hbe:b=e
   · have q':H b=some (.own x):=by
       rcases he with z | z
       · exact absurd (hbe.trans z) hb
       · rw [hbe]; exact z
     rw [q] at q'; cases q'
     obtain ⟨v,hv⟩:=heo
     exact ⟨v,by rw [hbe]; exact hv⟩
   · refine (ok b u q).stay (fun c v hc r=>k c v ?_ r) (fun c r=>by rw [aq (nown c b r)]; exact r) fun c xs r=>by rw [aq (ntup c xs r)]; exact r
     rcases hc with rfl | hc
     · exact hbe
     · rintro rfl
       rcases he with z | z
       · exact nown c b hc z
       · rw [hc] at z; cases z; exact hb rfl
end
structure Un (fs ex:List Addr) (H H':Hp) (h h':Heap):Prop where
 keep:∀ b o,h.get? b=some o→H b=none→b ∉ fs→b ∉ ex→h'.get? b=some o
 slot:∀ b o,h.get? b=some o→H b=none→b∈fs→b ∉ ex→∃ sl,h'.get? b=some { o with slots:=sl }
 free:∀ b o,h.get? b=some o→H b=none→b ∉ ex→H' b=none
 there:∀ b o,h.get? b=some o→b ∉ ex→∃ o',h'.get? b=some o'
 tups:∀ b xs,H b=some (.tup xs)→H' b=some (.tup xs)
 frzs:∀ b o u,H b=some (.frz o u)→H' b=some (.frz o u)
 tbls:∀ b ps,H b=some (.tbl ps)→∃ more,H' b=some (.tbl (ps ++ more))
section
variable {fs fs' ex ex':List Addr} {H H1 H2:Hp} {h h1 h2 h':Heap} {a x e:Addr} {o:HO}
theorem Un.any (u:Un fs ex H H1 h h1) {b:Addr} {ob:Obj} (q:h.get? b=some ob) (n:H b=none) (hx:b ∉ ex):∃ sl,h1.get? b=some { ob with slots:=sl }:=by
 by_cases hb:b∈fs
 · exact u.slot b ob q n hb hx
 · exact ⟨ob.slots,u.keep b ob q n hb hx⟩
theorem Un.kept (k:∀ b u,h.get? b=some u→h'.get? b=some u):Un fs ex H H h h' :=
 ⟨fun b ob q _ _ _=>k b ob q,fun b ob q _ _ _=>⟨ob.slots,k b ob q⟩,fun _ _ _ n _=>n,fun b ob q _=>⟨ob,k b ob q⟩,fun _ _ q=>q,fun _ _ _ q=>q,fun _ ps q=>⟨#[],by rw [q]; simp⟩⟩
theorem Un.refl:Un fs ex H H h h:=Un.kept fun _ _ q=>q
theorem Un.laid (k:∀ b u,h.get? b=some u→h'.get? b=some u) (hp:h.objs.size≤a) (hn:H a=none):Un fs ex H (upd H a o) h h' where
 keep:=fun b u q _ _ _=>k b u q
 slot:=fun b u q _ _ _=>⟨u.slots,k b u q⟩
 free:=fun b u q n _=>by rw [aq (Nat.ne_of_lt (Nat.lt_of_lt_of_le (Heap.lt_size q) hp))]; exact n
 there:=fun b u q _=>⟨u,k b u q⟩
 tups:=fun b xs q=>by rw [aq (bo q hn)]; exact q
 frzs:=fun b u xs q=>by rw [aq (bo q hn)]; exact q
 tbls:=fun b ps q=>⟨#[],by rw [aq (bo q hn),q]; simp⟩
theorem Un.write (mu:Mut (H x)) (he:e=x∨H e=some (.own x)) (k:∀ b u,b≠e→h.get? b=some u→h'.get? b=some u) (heo:∃ u,h'.get? e=some u):Un fs ex H (upd H x o) h h':=by
 have hx:∀ b,H b=none→b≠x:=fun b n z=>by subst z; rw [n] at mu; exact mu
 have hb:∀ b,H b=none→b≠e:=fun b n z=>by
   subst z
   rcases he with r | r
   · exact hx b n r
   · rw [n] at r; cases r
 have hm:∀ b u,H b=some u→¬ Mut (some u)→b≠x:=fun b u q nm z=>by subst z; rw [q] at mu; exact nm mu
 refine ⟨fun b u q n _ _=>k b u (hb b n) q,fun b u q n _ _=>⟨u.slots,k b u (hb b n) q⟩,fun b u q n _=>by rw [aq (hx b n)]; exact n,fun b u q _=>?_,
   fun b xs q=>by rw [aq (hm b _ q fun z=>z)]; exact q,fun b u xs q=>by rw [aq (hm b _ q fun z=>z)]; exact q,fun b ps q=>⟨#[],by rw [aq (hm b _ q fun z=>z),q]; simp⟩⟩
 by_cases hbe:b=e
 · subst hbe; exact heo
 · exact ⟨u,k b u hbe q⟩
end
def trk (h:Heap) (H:Hp):List Addr:=(List.range h.objs.size).filter fun a=>(H a).isSome
def jk (h:Heap) (H:Hp):Heap:=PySem.W.hideAll h (trk h H)
theorem uY (h:Heap) (H:Hp):(jk h H).objs.size=h.objs.size:=PySem.W.hideAll_size _ _
theorem zv {h:Heap} {H:Hp} {b:Addr} {o:Obj} (e:h.get? b=some o) (n:H b=none):(jk h H).get? b=some o :=
 PySem.W.hideAll_get _ e fun hm=>by
   have q:(H b).isSome=true:=(List.mem_filter.mp hm).2
   rw [n] at q; simp at q
theorem Ah {h:Heap} {H:Hp} {b:Addr} {o:Obj} (e:(jk h H).get? b=some o):h.get? b=some o∧H b=none:=by
 have e':h.get? b=some o:=PySem.W.of_hideAll (trk h H) e
 refine ⟨e',?_⟩
 cases q:H b with
 | none=>rfl
 | some x =>
   have hm:b∈trk h H:=List.mem_filter.mpr ⟨List.mem_range.mpr (Heap.lt_size e'),by simp [q]⟩
   have z:(jk h H).get? b=none:=PySem.W.hideAll_none (trk h H) hm
   rw [z] at e; cases e
def Aw (g h:Heap) (L:Addr):List (Addr × Obj):=(List.range h.objs.size).filterMap fun a=>if a=L∨(g.get? a).isSome=true then none else (h.get? a).map fun o=>(a,o)
def rest (g h:Heap) (L d:Addr):List (Addr × Obj):=(Aw g h L).filter fun p=>decide (p.1≠d)
end L2
namespace L2
open PySem PySem.Spec PyProof.Rows
structure Mod (K:PySem.W.Frag) (mg:Str→Option Value) (base:Heap):Prop where
 kin:K.In base
 glob:base.Ns mainGlobals mg
 blt:∃ mb,base.Ns builtinsNs mb∧∀ x:Str,x≠"__name__"→mb x=bootBuiltins x
 nolimit:base.NoLimit
structure Cx where
 prog:Program
 w:World
 K:PySem.W.Frag
 mg:Str→Option Value
 base:Heap
 A:Around
 N:List Str
 s₀:Shared
 H₀:Hp
 env:Env
 outer:List Env
 stack:List Env
 ex:List Addr
 fn:Str→Bool
 calm:Bool
 pn:List (Addr × Obj)
 xe:Value→Shared→Prop
def frs (l:List Env):List Addr:=l.filterMap (·.frame)
abbrev Cx.fs (X:Cx):List Addr:=frs X.outer
def Vis (sc:Scope) (x:Str):Prop:=sc.names.lookup x=some .local∨sc.names.lookup x=some .cell∨sc.names.lookup x=some .free
def Loc (sc:Scope) (x:Str):Prop:=sc.names.lookup x=some .local∨sc.names.lookup x=some .cell
def CG (env:Env) (h:Heap) (m:Str→Option Value) (x:Str) (u:Value):Prop :=
 (env.kindOf x=some .local∧m x=some u)∨((env.kindOf x=some .cell∨env.kindOf x=some .free)∧∃ c,env.cells.lookup x=some c∧h.IsCell c (some u))
structure Cx.Ok (X:Cx):Prop where
 mod:Mod X.K X.mg X.base
 kind:X.env.scope.kind=.function
 glob:X.env.globals=mainGlobals
 blt:X.env.builtins=builtinsNs
 above:X.s₀.heap.objs.size≤X.env.locals
 inj:∀ x y c,X.env.cells.lookup x=some c→X.env.cells.lookup y=some c→x=y
 has:∀ x,(X.env.kindOf x=some .cell∨X.env.kindOf x=some .free)→∃ c,X.env.cells.lookup x=some c
 cab:∀ x c,X.fn x=true→X.env.cells.lookup x=some c→X.s₀.heap.objs.size≤c
 hd:X.calm=true→X.A.handled=none
 frames:X.A.frames=some X.stack
 stk:X.stack=X.outer∨(X.stack=X.env :: X.outer∧X.env.frame=some X.env.locals)
 exf:∀ b∈X.ex,b≠X.env.locals∧∀ x c,X.env.cells.lookup x=some c→c≠b
 bs:∀ b o,X.base.get? b=some o→X.s₀.heap.get? b=some o∧X.H₀ b=none
 bsz:X.base.objs.size≤X.s₀.heap.objs.size
 noex:∀ b o,X.base.get? b=some o→b ∉ X.ex
 exfs:∀ b∈X.ex,b ∉ X.fs
 funs:X.s₀.heap.FunFrames X.base X.outer
 frf:∀ b∈X.fs,X.H₀ b=none
structure Inv (X:Cx) (pins:List (Addr × Obj)) (σ:List (Option V)) (H:Hp) (s:Shared):Prop where
 ok:X.Ok
 os:s.os=X.s₀.os
 bare:AllBare s.gens
 base:Un X.fs X.ex X.H₀ H X.s₀.heap s.heap
 loc:∃ m,s.heap.Ns X.env.locals m∧∀ (i:Nat) (x:Str) (v:V),X.N[i]?=some x→σ[i]?=some (some v)→Vis X.env.scope x→∃ u,RelV v u∧CG X.env s.heap m x u
 cell:∀ x c,X.env.cells.lookup x=some c→∃ v,s.heap.IsCell c v
 free:H X.env.locals=none
 freeC:∀ x c,X.env.cells.lookup x=some c→H c=none
 pin:∀ p∈X.pn ++ pins,s.heap.get? p.1=some p.2∧H p.1=none∧p.1≠X.env.locals∧p.1 ∉ X.fs∧∀ v,p.2.data≠.cell v
 hok:HOk X.prog X.w H s.heap
 len:σ.length=X.N.length
section
variable {X:Cx} {pins:List (Addr × Obj)} {σ:List (Option V)} {H H':Hp} {s:Shared} {h':Heap}
theorem Cx.Ok.nofr (ok:X.Ok) {b:Addr} {o:Obj} (e:X.base.get? b=some o):b ∉ X.fs:=fun hb=>by
 have:=(ok.funs.mem hb).1
 rw [e] at this; cases this
theorem Inv.bs (I:Inv X pins σ H s):∀ b o,X.base.get? b=some o→s.heap.get? b=some o∧H b=none:=fun b o e =>
 ⟨I.base.keep b o (I.ok.bs b o e).1 (I.ok.bs b o e).2 (I.ok.nofr e) (I.ok.noex b o e),I.base.free b o (I.ok.bs b o e).1 (I.ok.bs b o e).2 (I.ok.noex b o e)⟩
theorem Inv.bk (I:Inv X pins σ H s):∀ b o,X.base.get? b=some o→s.heap.get? b=some o:=fun b o e=>(I.bs b o e).1
theorem Inv.mod (I:Inv X pins σ H s):Mod X.K X.mg X.base:=I.ok.mod
theorem Inv.kIn (I:Inv X pins σ H s):X.K.In s.heap:=I.ok.mod.kin.keeps I.bk
theorem Inv.lt (I:Inv X pins σ H s):X.env.locals < s.heap.objs.size:=let ⟨_,hn,_⟩:=I.loc; hn.lt
theorem Inv.sz (I:Inv X pins σ H s):X.s₀.heap.objs.size≤s.heap.objs.size:=Nat.le_trans I.ok.above (Nat.le_of_lt I.lt)
theorem Inv.nofs (I:Inv X pins σ H s) {a:Addr} (h:s.heap.objs.size≤a):a ∉ X.fs:=fun hb=>by
 obtain ⟨_,o,ho,_⟩:=I.ok.funs.mem hb
 exact absurd (Nat.lt_of_lt_of_le (Heap.lt_size ho) (Nat.le_trans I.sz h)) (Nat.lt_irrefl _)
theorem Inv.cne (I:Inv X pins σ H s):∀ x c,X.env.cells.lookup x=some c→c≠X.env.locals:=fun x c e z=>by
 obtain ⟨v,o,ho,hd⟩:=I.cell x c e
 obtain ⟨m,⟨o',es,ep,ho',hd',_⟩,_⟩:=I.loc
 rw [z,ho'] at ho; cases ho; rw [hd'] at hd; cases hd
theorem Inv.funs (I:Inv X pins σ H s):s.heap.FunFrames X.base X.outer:=by
 have all:∀ (l:List Env),(∀ b∈frs l,b∈X.fs)→X.s₀.heap.FunFrames X.base l→s.heap.FunFrames X.base l:=by
   intro l
   induction l with
   | nil=>intro _ _; trivial
   | cons env r ih =>
     intro hs hl
     obtain ⟨hk,⟨L,o,hf,hn,ho,hd⟩,hr⟩:=hl
     have hL:L∈X.fs:=hs L (by unfold frs; rw [List.filterMap_cons,hf]; exact List.mem_cons_self)
     obtain ⟨sl,e⟩:=I.base.slot L o ho (I.ok.frf L hL) hL fun z=>I.ok.exfs L z hL
     exact ⟨hk,⟨L,_,hf,hn,e,hd⟩,ih (fun b hb=>hs b (by unfold frs; rw [List.filterMap_cons,hf]; exact List.mem_cons_of_mem _ hb)) hr⟩
 exact all X.outer (fun _ hb=>hb) I.ok.funs
theorem Inv.stack (I:Inv X pins σ H s):s.heap.FunFrames X.base X.stack:=by
 rcases I.ok.stk with e | ⟨e,hf⟩
 · rw [e]; exact I.funs
 · rw [e]
   obtain ⟨m,hn,_⟩:=I.loc
   refine .cons (by rw [I.ok.kind]; decide) hf hn ?_ I.funs
   exact Heap.get?_none_of_le (Nat.le_trans I.ok.bsz I.ok.above)
theorem Inv.stkSub (I:Inv X pins σ H s):∀ b∈frs X.stack,b∈X.env.locals :: X.fs:=fun b hb=>by
 rcases I.ok.stk with e | ⟨e,hf⟩
 · rw [e] at hb; exact List.mem_cons_of_mem _ hb
 · rw [e] at hb
   unfold frs at hb
   rw [List.filterMap_cons,hf] at hb
   exact hb
theorem Inv.stkFree (I:Inv X pins σ H s):∀ b∈frs X.stack,H b=none:=fun b hb=>by
 rcases List.mem_cons.mp (I.stkSub b hb) with e | hb
 · rw [e]; exact I.free
 · obtain ⟨_,o,ho,_⟩:=I.ok.funs.mem hb
   exact I.base.free b o ho (I.ok.frf b hb) fun z=>I.ok.exfs b z hb
theorem Inv.step {g':Array GenState} {t':Nat} {d':Drawn} {ch:List Addr} (I:Inv X pins σ H s)
   (hch:∀ b∈ch,(b∈X.ex∨X.s₀.heap.objs.size≤b)∧b≠X.env.locals∧(∀ x c,X.env.cells.lookup x=some c→c≠b)∧∀ p∈X.pn ++ pins,p.1≠b)
   (keep:∀ b o,b≠X.env.locals→b ∉ X.fs→b ∉ ch→s.heap.get? b=some o→H b=none→h'.get? b=some o)
   (slot:∀ b o,b≠X.env.locals→b∈X.fs→b ∉ ch→s.heap.get? b=some o→H b=none→∃ sl,h'.get? b=some { o with slots:=sl }) (free:∀ b o,b ∉ ch→s.heap.get? b=some o→H b=none→H' b=none)
   (there:∀ b o,b ∉ ch→s.heap.get? b=some o→∃ o',h'.get? b=some o')
   (tups:∀ b xs,H b=some (.tup xs)→H' b=some (.tup xs)) (frzs:∀ b o u,H b=some (.frz o u)→H' b=some (.frz o u)) (tbls:∀ b ps,H b=some (.tbl ps)→∃ more,H' b=some (.tbl (ps ++ more)))
   (ns:∀ m,s.heap.Ns X.env.locals m→h'.Ns X.env.locals m) (hok:HOk X.prog X.w H' h') (hg:AllBare g') :
   Inv X pins σ H' { s with heap:=h',gens:=g',drawn:=d',toks:=t' }:=by
 have neL:∀ b o,X.s₀.heap.get? b=some o→b≠X.env.locals:=fun b o e=>Nat.ne_of_lt (Nat.lt_of_lt_of_le (Heap.lt_size e) I.ok.above)
 have neC:∀ b o,X.s₀.heap.get? b=some o→b ∉ X.ex→b ∉ ch:=fun b o e hx hb=>by
   rcases (hch b hb).1 with z | z
   · exact hx z
   · exact absurd (Nat.lt_of_lt_of_le (Heap.lt_size e) z) (Nat.lt_irrefl _)
 have cellK:∀ x c,X.env.cells.lookup x=some c→∀ v,s.heap.IsCell c v→h'.IsCell c v:=fun x c e v ⟨o,ho,hd⟩=>by
   have nch:c ∉ ch:=fun z=>(hch c z).2.2.1 x c e rfl
   by_cases hc:c∈X.fs
   · obtain ⟨sl,q⟩:=slot c o (I.cne x c e) hc nch ho (I.freeC x c e)
     exact ⟨_,q,hd⟩
   · exact ⟨o,keep c o (I.cne x c e) hc nch ho (I.freeC x c e),hd⟩
 refine ⟨I.ok,I.os,hg,⟨fun b o e n hb hx=>?_,fun b o e n hb hx=>?_,fun b o e n hx=>?_,fun b o e hx=>?_,fun b xs e=>tups b xs (I.base.tups b xs e),fun b o xs e=>frzs b o xs (I.base.frzs b o xs e),fun b ps e=>?_⟩,?_,fun x c e=>?_,?_,fun x c e=>?_,fun p hp=>?_,hok,I.len⟩
 · exact keep b o (neL b o e) hb (neC b o e hx) (I.base.keep b o e n hb hx) (I.base.free b o e n hx)
 · obtain ⟨sl,e1⟩:=I.base.slot b o e n hb hx
   obtain ⟨sl',e2⟩:=slot b _ (neL b o e) hb (neC b o e hx) e1 (I.base.free b o e n hx)
   exact ⟨sl',e2⟩
 · obtain ⟨o',e1⟩:=I.base.there b o e hx
   exact free b o' (neC b o e hx) e1 (I.base.free b o e n hx)
 · obtain ⟨o',e1⟩:=I.base.there b o e hx
   exact there b o' (neC b o e hx) e1
 · obtain ⟨m1,e1⟩:=I.base.tbls b ps e
   obtain ⟨m2,e2⟩:=tbls b _ e1
   exact ⟨m1 ++ m2,by rw [e2,Array.append_assoc]⟩
 · obtain ⟨m,hn,hl⟩:=I.loc
   refine ⟨m,ns m hn,fun i x v e1 e2 e3=>?_⟩
   obtain ⟨u,r,l⟩:=hl i x v e1 e2 e3
   refine ⟨u,r,?_⟩
   rcases l with l | ⟨k,c,e,z⟩
   · exact .inl l
   · exact .inr ⟨k,c,e,cellK x c e _ z⟩
 · obtain ⟨v,z⟩:=I.cell x c e
   exact ⟨v,cellK x c e v z⟩
 · obtain ⟨m,⟨o,_,_,ho,_⟩,_⟩:=I.loc
   exact free _ o (fun z=>(hch _ z).2.1 rfl) ho I.free
 · obtain ⟨v,o,ho,hd⟩:=I.cell x c e
   exact free c o (fun z=>(hch c z).2.2.1 x c e rfl) ho (I.freeC x c e)
 · obtain ⟨e,n,ne,nf,d⟩:=I.pin p hp
   have nch:p.1 ∉ ch:=fun z=>(hch p.1 z).2.2.2 p hp rfl
   exact ⟨keep p.1 p.2 ne nf nch e n,free p.1 p.2 nch e n,ne,nf,d⟩
theorem Inv.un {t':Nat} (I:Inv X pins σ H s) (u:Un X.fs [] H H' s.heap h') (hok:HOk X.prog X.w H' h'):Inv X pins σ H' { s with heap:=h',toks:=t' }:=by
 obtain ⟨m,⟨o,es,ep,ho,r⟩,_⟩:=id I.loc
 obtain ⟨sl,hL⟩:=u.any ho I.free (by simp)
 exact I.step (g':=s.gens) (d':=s.drawn) (ch:=[]) (fun _ z=>nomatch z) (fun b o _ hb _ e n=>u.keep b o e n hb (by simp)) (fun b o _ hb _ e n=>u.slot b o e n hb (by simp)) (fun b o _ e n=>u.free b o e n (by simp)) (fun b o _ e=>u.there b o e (by simp)) u.tups u.frzs u.tbls (fun m' hm=>by
   obtain ⟨o',es',ep',ho',r'⟩:=hm
   rw [ho] at ho'; cases ho'
   exact ⟨_,es',ep',hL,r'⟩) hok I.bare
theorem Inv.call {g':Array GenState} {t':Nat} {d':Drawn} {ch:List Addr} (I:Inv X pins σ H s) (u:Un (frs X.stack) ch H H' s.heap h') (hok:HOk X.prog X.w H' h') (hg:AllBare g')
   (hch:∀ b∈ch,(b∈X.ex∨X.s₀.heap.objs.size≤b)∧b≠X.env.locals∧(∀ x c,X.env.cells.lookup x=some c→c≠b)∧∀ p∈X.pn ++ pins,p.1≠b) :
   Inv X pins σ H' { s with heap:=h',gens:=g',drawn:=d',toks:=t' }:=by
 obtain ⟨m,⟨o,es,ep,ho,r⟩,_⟩:=id I.loc
 obtain ⟨sl,hL⟩:=u.any ho I.free fun z=>(hch _ z).2.1 rfl
 exact I.step (ch:=ch) hch (fun b o hL hb hc e n=>u.keep b o e n (fun z=>(List.mem_cons.mp (I.stkSub b z)).elim hL hb) hc) (fun b o _ _ hc e n=>u.any e n hc) (fun b o hc e n=>u.free b o e n hc) (fun b o hc e=>u.there b o e hc) u.tups u.frzs u.tbls (fun m' hm=>by
   obtain ⟨o',es',ep',ho',r'⟩:=hm
   rw [ho] at ho'; cases ho'
   exact ⟨_,es',ep',hL,r'⟩) hok hg
theorem Inv.turned {t':Nat} {it:Addr} (I:Inv X pins σ H s) (k:∀ b o,b≠it→s.heap.get? b=some o→h'.get? b=some o) (hn:H it=none) (hL:it≠X.env.locals)
   (h1:it∈X.ex∨X.s₀.heap.objs.size≤it) (h2:∀ x c,X.env.cells.lookup x=some c→c≠it) (h3:∀ p∈X.pn ++ pins,p.1≠it):Inv X pins σ H { s with heap:=h',toks:=t' }:=by
 have nit:∀ b u,H b=some u→b≠it:=fun b u e z=>by rw [z,hn] at e; cases e
 refine I.step (g':=s.gens) (d':=s.drawn) (ch:=[it]) (fun b hb=>?_) (fun b o _ _ hc e _=>k b o (fun z=>hc (by simp [z])) e) (fun b o _ _ hc e _=>⟨o.slots,k b o (fun z=>hc (by simp [z])) e⟩) (fun _ _ _ _ n=>n)
   (fun b o hc e=>⟨o,k b o (fun z=>hc (by simp [z])) e⟩) (fun _ _ e=>e) (fun _ _ _ e=>e) (fun b ps e=>⟨#[],by rw [e]; simp⟩) (fun m hm=>?_) (fun b u e=>?_) I.bare
 · have e:b=it:=by simpa using hb
   subst e
   exact ⟨h1,hL,h2,h3⟩
 · obtain ⟨o,es,ep,ho,r⟩:=hm
   exact ⟨o,es,ep,k _ o (Ne.symm hL) ho,r⟩
 · refine (I.hok b u e).stay (fun c v hc q=>k c v ?_ q) (fun _ q=>q) fun _ _ q=>q
   rcases hc with z | z
   · rw [z]; exact nit b u e
   · exact nit c _ z
theorem Inv.tok (I:Inv X pins σ H s) (t:Nat):Inv X pins σ H { s with toks:=t }:=I.un (h':=s.heap) (t':=t) Un.refl I.hok
theorem Inv.kept {t':Nat} (I:Inv X pins σ H s) (k:∀ b u,s.heap.get? b=some u→h'.get? b=some u):Inv X pins σ H { s with heap:=h',toks:=t' }:=I.un (Un.kept k) (I.hok.kept k)
theorem Inv.laid {a:Addr} {o:HO} {t':Nat} (I:Inv X pins σ H s) (k:∀ b u,s.heap.get? b=some u→h'.get? b=some u) (hp:s.heap.objs.size≤a) (new:ObjOk X.prog X.w (upd H a o) h' a o) :
   Inv X pins σ (upd H a o) { s with heap:=h',toks:=t' }:=I.un (Un.laid k hp (I.hok.fresh hp)) (I.hok.laid k hp new)
theorem Inv.write {x e:Addr} {o:HO} {t':Nat} (I:Inv X pins σ H s) (mu:Mut (H x)) (he:e=x∨H e=some (.own x)) (k:∀ b u,b≠e→s.heap.get? b=some u→h'.get? b=some u) (heo:∃ u,h'.get? e=some u)
   (new:ObjOk X.prog X.w (upd H x o) h' x o):Inv X pins σ (upd H x o) { s with heap:=h',toks:=t' }:=I.un (Un.write mu he k heo) (I.hok.write mu he k heo new)
theorem Inv.pins_of {pins':List (Addr × Obj)} (I:Inv X pins σ H s) (h:∀ p∈pins',s.heap.get? p.1=some p.2∧H p.1=none∧p.1≠X.env.locals∧p.1 ∉ X.fs∧∀ v,p.2.data≠.cell v):Inv X pins' σ H s :=
 ⟨I.ok,I.os,I.bare,I.base,I.loc,I.cell,I.free,I.freeC,fun p hp=>(List.mem_append.mp hp).elim (fun z=>I.pin p (List.mem_append_left _ z)) (h p),I.hok,I.len⟩
theorem qv {N:List Str} (hN:N.Nodup) {i j:Nat} {x:Str} (a:N[i]?=some x) (b:N[j]?=some x):i=j:=by
 obtain ⟨h1,e1⟩:=List.getElem?_eq_some_iff.mp a
 obtain ⟨h2,e2⟩:=List.getElem?_eq_some_iff.mp b
 exact (List.getElem_inj hN).mp (e1.trans e2.symm)
theorem nP {M:Model} {A:Around} {E:Value→Shared→Prop} {i:Nat} {x:Str} {v:V} {u:Value} {Q:Unit→Shared→Prop} (I:Inv X pins σ H s) (hN:X.N.Nodup) (hi:X.N[i]?=some x) (hx:Loc X.env.scope x) (r:RelV v u)
   (h:∀ s',Inv X pins (σ.set i (some v)) H s'→(∃ a,Heap.SameBut a s.heap s'.heap∧(a=X.env.locals∨X.env.cells.lookup x=some a))→Q () s') (hf:X.fn x=true∨X.env.scope.names.lookup x=some .local:=by first | exact .inl rfl | exact .inr rfl | assumption):wpAny M A (storeName X.env x u) Q E s:=by
 obtain ⟨m,hn,hl⟩:=id I.loc
 have hcls:(X.env.scope.kind == .class || (X.env.scope.kind == .module && X.env.locals != X.env.globals))=false:=by rw [I.ok.kind]; rfl
 have hiσ:i < σ.length:=by rw [I.len]; exact (List.getElem?_eq_some_iff.mp hi).1
 have cne:=I.cne
 have tracked:∀ {a:Addr} {h':Heap},(∃ o,s.heap.get? a=some o∧H a=none)→Heap.SameBut a s.heap h'→HOk X.prog X.w H h':=fun {a h'} ha hs b ob e=>by
   obtain ⟨_,_,hfree⟩:=ha
   refine (I.hok b ob e).stay (fun c w' hc q=>(hs.2 c ?_).trans q) (fun _ q=>q) fun _ _ q=>q
   rintro rfl
   rcases hc with rfl | hc
   · rw [hfree] at e; cases e
   · rw [hfree] at hc; cases hc
 rcases hx with hk | hk
 · refine wpAny_storeName_local hk hn (fun h' hn' hs=>?_) hcls
   obtain ⟨oL,_,_,hoL,_⟩:=id hn
   refine h _ ⟨I.ok,I.os,I.bare,⟨fun b o e n hb hx=>?_,fun b o e n hb hx=>?_,I.base.free,fun b o e hx=>?_,I.base.tups,I.base.frzs,I.base.tbls⟩,⟨_,hn',fun j y v' e1 e2 e3=>?_⟩,fun y c e=>?_,I.free,I.freeC,fun p hp=>?_,tracked ⟨oL,hoL,I.free⟩ hs,by simpa using I.len⟩ ⟨_,hs,.inl rfl⟩
   · exact (hs.2 b (Nat.ne_of_lt (Nat.lt_of_lt_of_le (Heap.lt_size e) I.ok.above))).trans (I.base.keep b o e n hb hx)
   · obtain ⟨sl,e1⟩:=I.base.slot b o e n hb hx
     exact ⟨sl,(hs.2 b (Nat.ne_of_lt (Nat.lt_of_lt_of_le (Heap.lt_size e) I.ok.above))).trans e1⟩
   · obtain ⟨o',e1⟩:=I.base.there b o e hx
     exact ⟨o',(hs.2 b (Nat.ne_of_lt (Nat.lt_of_lt_of_le (Heap.lt_size e) I.ok.above))).trans e1⟩
   · by_cases hj:j=i
     · subst hj
       rw [hi] at e1; cases e1
       rw [List.getElem?_set_self hiσ] at e2
       cases e2
       exact ⟨u,r,.inl ⟨hk,by simp⟩⟩
     · rw [List.getElem?_set_ne (Ne.symm hj)] at e2
       obtain ⟨u',r',q⟩:=hl j y v' e1 e2 e3
       refine ⟨u',r',?_⟩
       rcases q with ⟨k,e⟩ | ⟨k,c,e,z⟩
       · refine .inl ⟨k,?_⟩
         have:y≠x:=fun e=>hj (qv hN e1 (e ▸ hi))
         simp [this,e]
       · exact .inr ⟨k,c,e,z.sameBut hs (cne y c e)⟩
   · obtain ⟨w',z⟩:=I.cell y c e
     exact ⟨w',z.sameBut hs (cne y c e)⟩
   · obtain ⟨e,n,ne,nf,d⟩:=I.pin p hp
     exact ⟨(hs.2 p.1 ne).trans e,n,ne,nf,d⟩
 · have hfn:X.fn x=true:=by
     rcases hf with z | z
     · exact z
     · rw [z] at hk; cases hk
   obtain ⟨c,hc⟩:=I.ok.has x (.inl hk)
   obtain ⟨w',z⟩:=I.cell x c hc
   refine wpAny_storeName_cell I.ok.kind hk hc z (fun h' hc' hs=>?_)
   obtain ⟨oc,hoc,hocd⟩:=id z
   refine h { s with heap:=h' } ⟨I.ok,I.os,I.bare,⟨fun b o e n hb hx=>?_,fun b o e n hb hx=>?_,I.base.free,fun b o e hx=>?_,I.base.tups,I.base.frzs,I.base.tbls⟩,⟨m,hn.sameBut hs (Ne.symm (cne x c hc)),fun j y v' e1 e2 e3=>?_⟩,fun y c' e=>?_,I.free,I.freeC,fun p hp=>?_,tracked ⟨oc,hoc,I.freeC x c hc⟩ hs,by simpa using I.len⟩ ⟨c,hs,.inr hc⟩
   · exact (hs.2 b (Nat.ne_of_lt (Nat.lt_of_lt_of_le (Heap.lt_size e) (I.ok.cab x c hfn hc)))).trans (I.base.keep b o e n hb hx)
   · obtain ⟨sl,e1⟩:=I.base.slot b o e n hb hx
     exact ⟨sl,(hs.2 b (Nat.ne_of_lt (Nat.lt_of_lt_of_le (Heap.lt_size e) (I.ok.cab x c hfn hc)))).trans e1⟩
   · obtain ⟨o',e1⟩:=I.base.there b o e hx
     exact ⟨o',(hs.2 b (Nat.ne_of_lt (Nat.lt_of_lt_of_le (Heap.lt_size e) (I.ok.cab x c hfn hc)))).trans e1⟩
   · by_cases hj:j=i
     · subst hj
       rw [hi] at e1; cases e1
       rw [List.getElem?_set_self hiσ] at e2
       cases e2
       exact ⟨u,r,.inr ⟨.inl hk,c,hc,hc'⟩⟩
     · rw [List.getElem?_set_ne (Ne.symm hj)] at e2
       obtain ⟨u',r',q⟩:=hl j y v' e1 e2 e3
       refine ⟨u',r',?_⟩
       rcases q with q | ⟨k,c',e,z'⟩
       · exact .inl q
       · refine .inr ⟨k,c',e,z'.sameBut hs ?_⟩
         rintro rfl
         exact hj (qv hN e1 (I.ok.inj _ _ _ e hc ▸ hi))
   · by_cases hcc:c'=c
     · subst hcc; exact ⟨_,hc'⟩
     · obtain ⟨w2,z2⟩:=I.cell y c' e
       exact ⟨w2,z2.sameBut hs hcc⟩
   · obtain ⟨e,n,ne,nf,d⟩:=I.pin p hp
     refine ⟨(hs.2 p.1 ?_).trans e,n,ne,nf,d⟩
     intro q
     rw [q,hoc] at e
     have q':oc=p.2:=Option.some.inj e
     exact d w' (by rw [← q']; exact hocd)
theorem qz {M:Model} {A:Around} {E:Value→Shared→Prop} {i:Nat} {x:Str} {v:V} {u:Value} {Q:Unit→Shared→Prop} (I:Inv X pins σ H s) (hN:X.N.Nodup) (hi:X.N[i]?=some x) (hx:Loc X.env.scope x) (r:RelV v u)
   (h:∀ s',Inv X pins (σ.set i (some v)) H s'→Q () s') (hf:X.fn x=true∨X.env.scope.names.lookup x=some .local:=by first | exact .inl rfl | exact .inr rfl | assumption):wpAny M A (storeName X.env x u) Q E s :=
 nP I hN hi hx r (fun s' I' _=>h s' I') hf
theorem Inv.call' {s':Shared} {ch:List Addr} (I:Inv X pins σ H s) (ho:s'.os=s.os) (u:Un (frs X.stack) ch H H' s.heap s'.heap) (hok:HOk X.prog X.w H' s'.heap) (hg:AllBare s'.gens)
   (hch:∀ b∈ch,(b∈X.ex∨X.s₀.heap.objs.size≤b)∧b≠X.env.locals∧(∀ x c,X.env.cells.lookup x=some c→c≠b)∧∀ p∈X.pn ++ pins,p.1≠b):Inv X pins σ H' s':=by
 obtain ⟨h',g',d',t',o'⟩:=s'
 have e:o'=s.os:=ho
 subst e
 exact I.call (g':=g') (t':=t') (d':=d') u hok hg hch
end
abbrev XK:=Value→Option Addr→Hp→Prop
abbrev St:=List (Option V)
abbrev VK:=V→Hp→Prop
abbrev TE:=St→Hp→VK→Prop
abbrev TT:=St→Hp→(Bool→Hp→Prop)→Prop
abbrev TA:=St→Hp→(List V→Hp→Prop)→Prop
structure Ends where
 nx:St→Hp→Prop
 rt:VK
 bk:St→Hp→Prop:=fun _ _=>False
 ct:St→Hp→Prop:=fun _ _=>False
abbrev TS:=Ends→St→Hp→Prop
def EP (X:Cx) (pins:List (Addr × Obj)) (σ:St) (Q:VK) (u:Value) (s':Shared):Prop:=∃ v H',Inv X pins σ H' s'∧RelV v u∧Q v H'
def TP (X:Cx) (pins:List (Addr × Obj)) (σ:St) (Q:Bool→Hp→Prop) (b:Bool) (s':Shared):Prop:=∃ H',Inv X pins σ H' s'∧Q b H'
def AP (X:Cx) (pins:List (Addr × Obj)) (σ:St) (Q:List V→Hp→Prop) (us:List Value) (s':Shared):Prop:=∃ vs H',Inv X pins σ H' s'∧Vals vs us∧Q vs H'
def SP (X:Cx) (pins:List (Addr × Obj)) (D:Ends) (f:Flow) (s':Shared):Prop :=
 match f with
 | .next=>∃ σ' H',Inv X pins σ' H' s'∧D.nx σ' H'
 | .brk=>∃ σ' H',Inv X pins σ' H' s'∧D.bk σ' H'
 | .cont=>∃ σ' H',Inv X pins σ' H' s'∧D.ct σ' H'
 | .ret u=>∃ v σ' H',Inv X pins σ' H' s'∧RelV v u∧D.rt v H'
def PE (X:Cx) (e:Expr) (t:TE):Prop :=
 ∀ (pins:List (Addr × Obj)) (s:Shared) (σ:St) (H:Hp) (Q:VK),Inv X pins σ H s→t σ H Q→wpAny (model X.prog X.w) X.A (eval e X.env) (EP X pins σ Q) X.xe s
def PT (X:Cx) (e:Expr) (t:TT):Prop :=
 ∀ (pins:List (Addr × Obj)) (s:Shared) (σ:St) (H:Hp) (Q:Bool→Hp→Prop),Inv X pins σ H s→t σ H Q→wpAny (model X.prog X.w) X.A (isTrue e X.env (eval e X.env)) (TP X pins σ Q) X.xe s
def PW (X:Cx) (e:Expr) (t:TT):Prop :=
 ∀ (whole:Sem Value) (pins:List (Addr × Obj)) (s:Shared) (σ:St) (H:Hp) (Q:Bool→Hp→Prop),Inv X pins σ H s→t σ H Q→wpAny (model X.prog X.w) X.A (isTrue e X.env whole) (TP X pins σ Q) X.xe s
theorem PW.pt {X:Cx} {e:Expr} {t:TT} (h:PW X e t):PT X e t:=h _
def PA (X:Cx) (es:List Expr) (t:TA):Prop :=
 ∀ (pos:Pos) (pins:List (Addr × Obj)) (s:Shared) (σ:St) (H:Hp) (Q:List V→Hp→Prop),Inv X pins σ H s→t σ H Q→wpAny (model X.prog X.w) X.A (spliced (backTo pos (starEach es X.env))) (AP X pins σ Q) X.xe s
def PS (X:Cx) (st:Stmt) (t:TS):Prop :=
 ∀ (pins:List (Addr × Obj)) (s:Shared) (σ:St) (H:Hp) (D:Ends),Inv X pins σ H s→t D σ H→wpAny (model X.prog X.w) X.A (exec st X.env) (SP X pins D) X.xe s
def PSs (X:Cx) (st:List Stmt) (t:TS):Prop :=
 ∀ (pins:List (Addr × Obj)) (s:Shared) (σ:St) (H:Hp) (D:Ends),Inv X pins σ H s→t D σ H→wpAny (model X.prog X.w) X.A (execs st X.env) (SP X pins D) X.xe s
theorem thn {α:Type} {t:Sem α} {Q Q':α→Shared→Prop} {M:Model} {A:Around} {E:Value→Shared→Prop} {s:Shared} (h:wpAny M A t Q E s) (hQ:∀ a s,Q a s→Q' a s):wpAny M A t Q' E s:=wpAny_mono h hQ fun _ _ x=>x
theorem bq {t:Sem Value} {X:Cx} {pins:List (Addr × Obj)} {σ:St} {Q:VK} {Q':Value→Shared→Prop} {M:Model} {A:Around} {E:Value→Shared→Prop} {s:Shared} (h:wpAny M A t (EP X pins σ Q) E s) (hQ:∀ u s v H,Inv X pins σ H s→RelV v u→Q v H→Q' u s):wpAny M A t Q' E s:=thn h fun u s ⟨v,H,I,r,q⟩=>hQ u s v H I r q
theorem ik {t:Sem (List Value)} {X:Cx} {pins:List (Addr × Obj)} {σ:St} {Q:List V→Hp→Prop} {Q':List Value→Shared→Prop} {M:Model} {A:Around} {E:Value→Shared→Prop} {s:Shared} (h:wpAny M A t (AP X pins σ Q) E s) (hQ:∀ u s v H,Inv X pins σ H s→Vals v u→Q v H→Q' u s):wpAny M A t Q' E s:=thn h fun u s ⟨v,H,I,r,q⟩=>hQ u s v H I r q
theorem nA {t:Sem Bool} {X:Cx} {pins:List (Addr × Obj)} {σ:St} {Q:Bool→Hp→Prop} {Q':Bool→Shared→Prop} {M:Model} {A:Around} {E:Value→Shared→Prop} {s:Shared} (h:wpAny M A t (TP X pins σ Q) E s) (hQ:∀ u s H,Inv X pins σ H s→Q u H→Q' u s):wpAny M A t Q' E s:=thn h fun u s ⟨H,I,q⟩=>hQ u s H I q
end L2
namespace L2
open PySem PySem.Spec PyProof.Rows
section
variable {X:Cx}
def ng (i:Nat):TE:=fun σ H Q=>∃ v,σ[i]?=some (some v)∧Q v H
def tC (v:V):TE:=fun _ H Q=>Q v H
theorem pU {i:Nat} {x:Str} {pos:Pos} (hN:X.N[i]?=some x) (hv:Vis X.env.scope x) (hd:(x == ("__debug__":Str))=false:=by decide) (hcd:(x == ("__classdict__":Str))=false:=by decide):PE X (.Name x pos) (ng i):=by
 intro pins s σ H Q I h
 obtain ⟨v,e,h⟩:=h
 obtain ⟨m,hn,hl⟩:=I.loc
 obtain ⟨u,r,l⟩:=hl i x v hN e hv
 have fin:EP X pins σ Q u s:=⟨v,H,I,r,h⟩
 rcases l with ⟨hk,hm⟩ | ⟨hk,c,hc,hcell⟩
 · exact wpAny_Name (wpAny_loadName_local I.ok.kind hk hn hm fin) hd
 · rcases hk with hk | hk
   · exact wpAny_Name (wpAny_loadName_cell I.ok.kind hk hc hcell fin) hd
   · exact wpAny_Name (wpAny_loadName_free I.ok.kind hk hc hcell fin hcd) hd
theorem ak {i j pos}:PE X (.Constant (.int i) j pos) (tC (.int i)):=fun _ _ _ H _ I h=>wpAny_Constant_int ⟨.int i,H,I.tok _,⟨_,rfl⟩,h⟩
theorem pf {b j pos}:PE X (.Constant (.bool b) j pos) (tC (.bl b)):=fun _ _ _ H _ I h=>Constant_bool ⟨.bl b,H,I,rfl,h⟩
theorem Bh {j pos}:PE X (.Constant .none j pos) (tC .non):=fun _ _ _ H _ I h=>Constant_none ⟨.non,H,I,rfl,h⟩
theorem iB {x j pos}:PE X (.Constant (.str x) j pos) (tC (.str x)):=fun _ _ _ H _ I h=>Calls.Constant_str ⟨.str x,H,I.tok _,⟨_,rfl⟩,h⟩
def Gl (X:Cx) (x:Str):Prop:=X.env.kindOf x=some .globalImplicit
theorem ki {E:Value→Shared→Prop} {pins:List (Addr × Obj)} {s:Shared} {σ:St} {H:Hp} {x:Str} {u:Value} {pos:Pos} {Q:Value→Shared→Prop} (I:Inv X pins σ H s) (hg:Gl X x) (hm:X.mg x=some u) (h:Q u s)
   (hd:(x == ("__debug__":Str))=false:=by decide):wpAny (model X.prog X.w) X.A (eval (.Name x pos) X.env) Q E s :=
 Calls.Name_function_global I.ok.kind hg (Calls.loadGlobal_global (by rw [I.ok.glob]; exact I.mod.glob.keeps I.bk) hm h) hd
theorem gR {E:Value→Shared→Prop} {pins:List (Addr × Obj)} {s:Shared} {σ:St} {H:Hp} {x:Str} {u:Value} {pos:Pos} {Q:Value→Shared→Prop} (I:Inv X pins σ H s) (hg:Gl X x) (hm:X.mg x=none) (hv:bootBuiltins x=some u) (h:Q u s)
   (hn:x≠"__name__":=by decide) (hd:(x == ("__debug__":Str))=false:=by decide):wpAny (model X.prog X.w) X.A (eval (.Name x pos) X.env) Q E s:=by
 obtain ⟨mb,h1,h2⟩:=I.mod.blt
 exact Calls.Name_function_global I.ok.kind hg (Calls.loadGlobal_builtin (by rw [I.ok.glob]; exact I.mod.glob.keeps I.bk) hm (by rw [I.ok.blt]; exact h1.keeps I.bk) ((h2 x hn).trans hv) h) hd
theorem kt {x:Str} {v:V} {u:Value} {pos:Pos} (hg:Gl X x) (hm:X.mg x=some u) (r:RelV v u) (hd:(x == ("__debug__":Str))=false:=by decide):PE X (.Name x pos) (tC v) :=
 fun _ _ _ H _ I h=>ki I hg hm ⟨v,H,I,r,h⟩ hd
variable {a b:Expr} {ta tb:TE} {pos:Pos}
def PC (X:Cx) (op:CmpOp) (a b:Expr) (t:TE):Prop :=
 ∀ (pins:List (Addr × Obj)) (s:Shared) (σ:St) (H:Hp) (Q:VK),Inv X pins σ H s→t σ H Q →
   wpAny (model X.prog X.w) X.A (eval a X.env) (fun v s₁=>wpAny (model X.prog X.w) X.A (eval b X.env) (fun u s₂=>wpAny (model X.prog X.w) X.A (compareOp op v u) (EP X pins σ Q) X.xe s₂) X.xe s₁) X.xe s
def AO (ta:TE):TE:=fun σ H Q=>ta σ H fun x H1=>Q (.bl (decide (x=.non))) H1
def zD (ta:TE):TE:=fun σ H Q=>ta σ H fun x H1=>Q (.bl (!decide (x=.non))) H1
def tB (t:TE):TT:=fun σ H Q=>t σ H fun x H1=>∃ c,x=.bl c∧Q c H1
theorem Bo {op:CmpOp} {t:TE} (h:PC X op a b t) (h1:behindInMarks op b=false:=by first | exact nobehind _ (by decide) (by decide) | rfl):PT X (.Compare a [op] [b] pos) (tB t):=by
 intro pins s σ H Q I hw
 refine wpAny_isTrue_Compare1 (thn (h pins s σ H _ I hw) fun v s1 h1=>thn h1 fun u s2 h2=>thn h2 fun c s3 ⟨x,H1,I1,r1,q1⟩=>?_) h1
 obtain ⟨d,rfl,q⟩:=q1
 cases r1
 exact wpAny_truthy_bool ⟨H1,I1,q⟩
theorem fh {e:Expr} {t:TE} (h:PE X e t) (he:∀ whole,isTrue e X.env whole=(do let v ← whole; standAt e.pos; holding [v] (truthy v)):=by intro _; rfl):PT X e (tB t):=by
 intro pins s σ H Q I hw
 refine isTrue_plain (bq (h pins s σ H _ I hw) fun v s1 x H1 I1 r1 q1=>?_) (he _)
 obtain ⟨d,rfl,q⟩:=q1
 cases r1
 exact wpAny_truthy_bool ⟨H1,I1,q⟩
variable {tA tB':TT} {rest:List Expr}
def xI (t u:TT):TT:=fun σ H Q=>t σ H fun c H1=>if c=true then u σ H1 Q else Q false H1
def tOr (t u:TT):TT:=fun σ H Q=>t σ H fun c H1=>if c=true then Q true H1 else u σ H1 Q
def xq (t:TT):TT:=fun σ H Q=>t σ H fun c H1=>Q (!c) H1
theorem nh (ha:PT X a tA):PW X (.BoolOp .And [a] pos) tA:=by
 intro wh pins s σ H Q I h
 refine isTrue_and (thn (ha pins s σ H Q I h) fun c s1 e=>?_)
 cases c with
 | true=>exact isTrue_and_nil e
 | false=>exact e
theorem uF (ha:PT X a tA):PW X (.BoolOp .Or [a] pos) tA:=by
 intro wh pins s σ H Q I h
 refine isTrue_or (thn (ha pins s σ H Q I h) fun c s1 e=>?_)
 cases c with
 | false=>exact isTrue_or_nil e
 | true=>exact e
theorem qF (ha:PT X a tA) (hb:PW X (.BoolOp .And (b :: rest) pos) tB'):PW X (.BoolOp .And (a :: b :: rest) pos) (xI tA tB'):=by
 intro wh pins s σ H Q I h
 refine isTrue_and (nA (ha pins s σ H _ I h) fun c s1 H1 I1 q1=>?_)
 cases c with
 | true=>exact hb wh pins s1 σ H1 Q I1 q1
 | false=>exact ⟨H1,I1,q1⟩
theorem zL (ha:PT X a tA) (hb:PW X (.BoolOp .Or (b :: rest) pos) tB'):PW X (.BoolOp .Or (a :: b :: rest) pos) (tOr tA tB'):=by
 intro wh pins s σ H Q I h
 refine isTrue_or (nA (ha pins s σ H _ I h) fun c s1 H1 I1 q1=>?_)
 cases c with
 | true=>exact ⟨H1,I1,q1⟩
 | false=>exact hb wh pins s1 σ H1 Q I1 q1
theorem fV (ha:PT X a tA):PT X (.UnaryOp .Not a pos) (xq tA):=by
 intro pins s σ H Q I h
 exact isTrue_not (ha pins s σ H (fun c H1=>Q (!c) H1) I h)
def sL (ta tb:TE):TE:=fun σ H Q=>ta σ H fun x H1=>∃ c,x=.bl c∧if c=true then tb σ H1 Q else Q (.bl false) H1
def B3 (ta tb:TE):TE:=fun σ H Q=>ta σ H fun x H1=>∃ c,x=.bl c∧if c=true then Q (.bl true) H1 else tb σ H1 Q
def ua (ta:TE):TE:=fun σ H Q=>ta σ H fun x H1=>∃ c,x=.bl c∧Q (.bl (!c)) H1
theorem qR {op} {t:TE} (h:PE X a t):PE X (.BoolOp op [a] pos) t:=fun pins s σ H Q I hw=>BoolOp_one (h pins s σ H Q I hw)
theorem mn (ha:PE X a ta) (hb:PE X (.BoolOp .And (b :: rest) pos) tb):PE X (.BoolOp .And (a :: b :: rest) pos) (sL ta tb):=by
 intro pins s σ H Q I h
 refine BoolOp_and (bq (ha pins s σ H _ I h) fun v s1 x H1 I1 r1 q1=>?_)
 obtain ⟨c,rfl,q1⟩:=q1
 cases r1
 refine wpAny_truthy_bool ?_
 cases c with
 | true=>exact hb pins s1 σ H1 Q I1 q1
 | false=>exact ⟨.bl false,H1,I1,rfl,q1⟩
theorem vM (ha:PE X a ta):PE X (.UnaryOp .Not a pos) (ua ta):=by
 intro pins s σ H Q I h
 refine UnaryOp_ (bq (ha pins s σ H _ I h) fun v s1 x H1 I1 r1 q1=>?_)
 obtain ⟨c,rfl,q1⟩:=q1
 cases r1
 exact not_of (wpAny_truthy_bool ⟨.bl (!c),H1,I1,rfl,q1⟩)
def tIf (t:TT) (ta tb:TE):TE:=fun σ H Q=>t σ H fun c H1=>if c=true then ta σ H1 Q else tb σ H1 Q
end
end L2
namespace L2
open PySem PySem.Spec PyProof.Rows
def SqL (K:PySem.W.Frag) (H:Hp) (a:Addr) (xs:List V):Prop :=
 Rd H a (.lst xs) ∨
   ∃ (o:Obj) (its:Array Value) (n:Nat),K.lookup a=some o∧o.cls=.type "list"∧o.dict=none∧o.data=.seq its n∧its.size≤sizeLine∧Vals xs its.toList
def SqT (K:PySem.W.Frag) (H:Hp) (a:Addr) (xs:List V):Prop :=
 Rd H a (.tup xs) ∨
   ∃ (o:Obj) (its:Array Value) (n:Nat),K.lookup a=some o∧o.cls=.type "tuple"∧o.data=.seq its n∧its.size≤sizeLine∧Vals xs its.toList
def Cz:Value→Option V
 | .none=>some .non
 | .bool b=>some (.bl b)
 | .int i _=>some (.int i)
 | .str x _=>some (.str x)
 | .bytes b _=>some (.byt b)
 | .float b _=>some (.flt b)
 | .ref a=>some (.ref a)
 | .type n=>some (.ty n)
 | _=>none
theorem RelV.abs {x:V} {u:Value} (r:RelV x u):Cz u=some x:=by
 cases x with
 | non=>cases r; rfl
 | bl _=>cases r; rfl
 | int _=>obtain ⟨t,rfl⟩:=r; rfl
 | str _=>obtain ⟨t,rfl⟩:=r; rfl
 | byt _=>obtain ⟨t,rfl⟩:=r; rfl
 | flt _=>obtain ⟨t,rfl⟩:=r; rfl
 | ref _=>cases r; rfl
 | ty _=>cases r; rfl
theorem RelV.inj {x y:V} {u:Value} (r:RelV x u) (q:RelV y u):x=y:=Option.some.inj (r.abs.symm.trans q.abs)
theorem Vals.inj {xs ys:List V} {us:List Value} (h:Vals xs us) (h2:Vals ys us):xs=ys:=by
 induction h generalizing ys with
 | nil=>cases h2; rfl
 | cons r _ ih=>cases h2 with | cons r2 t2=>rw [r.inj r2,ih t2]
section
variable {X:Cx} {pins:List (Addr × Obj)} {σ:St} {H:Hp} {s:Shared} {a:Addr} {xs ys:List V}
theorem SqL.of {K:PySem.W.Frag} (h:H a=some (.lst xs)):SqL K H a xs:=.inl (.inl h)
theorem SqT.of {K:PySem.W.Frag} (h:H a=some (.tup xs)):SqT K H a xs:=.inl (.inl h)
theorem Inv.list (I:Inv X pins σ H s) (h:SqL X.K H a xs):∃ its:List Value,Vals xs its∧PlainL s.heap a its.toArray∧xs.length≤sizeLine:=by
 rcases h with h | ⟨o,its,n,hk,hc,hd,hs,hz,r⟩
 · obtain ⟨z,its,n,r,e⟩:=h.ok I.hok
   exact ⟨its,r,⟨_,n,e,rfl,rfl,rfl⟩,z⟩
 · refine ⟨its.toList,r,⟨o,n,I.kIn a o hk,hc,hd,by simpa using hs⟩,?_⟩
   have e:=r.length
   simp only [Array.length_toList] at e
   omega
theorem Inv.tuple (I:Inv X pins σ H s) (h:SqT X.K H a xs):∃ its:List Value,Vals xs its∧IsTup s.heap a its.toArray∧xs.length≤sizeLine:=by
 rcases h with h | ⟨o,its,n,hk,hc,hs,hz,r⟩
 · obtain ⟨z,its,r,p⟩:=h.ok I.hok
   exact ⟨its,r,p,z⟩
 · refine ⟨its.toList,r,⟨o,I.kIn a o hk,hc,n,by simpa using hs⟩,?_⟩
   have e:=r.length
   simp only [Array.length_toList] at e
   omega
theorem Inv.list_inj (I:Inv X pins σ H s) (h:SqL X.K H a xs) (h':SqL X.K H a ys):xs=ys:=by
 obtain ⟨its,r,⟨o,n,e,_,_,d⟩,_⟩:=I.list h
 obtain ⟨its',r',⟨o',n',e',_,_,d'⟩,_⟩:=I.list h'
 rw [e] at e'; cases e'
 rw [d] at d'
 injection d' with d1 _
 have:its=its':=by simpa using congrArg Array.toList d1
 subst this
 exact r.inj r'
theorem Inv.tuple_inj (I:Inv X pins σ H s) (h:SqT X.K H a xs) (h':SqT X.K H a ys):xs=ys:=by
 obtain ⟨its,r,⟨o,e,_,n,d⟩,_⟩:=I.tuple h
 obtain ⟨its',r',⟨o',e',_,n',d'⟩,_⟩:=I.tuple h'
 rw [e] at e'; cases e'
 rw [d] at d'
 injection d' with d1 _
 have:its=its':=by simpa using congrArg Array.toList d1
 subst this
 exact r.inj r'
end
abbrev Cx.wish (X:Cx) (E:Value→Shared→Prop):Cx:={ X with xe:=E }
abbrev Cx.nox (X:Cx):Cx:=X.wish fun _ _=>False
theorem Cx.Ok.wish {X:Cx} (ok:X.Ok) (E:Value→Shared→Prop):(X.wish E).Ok :=
 ⟨ok.mod,ok.kind,ok.glob,ok.blt,ok.above,ok.inj,ok.has,ok.cab,ok.hd,ok.frames,ok.stk,ok.exf,ok.bs,ok.bsz,ok.noex,ok.exfs,ok.funs,ok.frf⟩
theorem Cx.Ok.unwish {X:Cx} {E:Value→Shared→Prop} (ok:(X.wish E).Ok):X.Ok :=
 ⟨ok.mod,ok.kind,ok.glob,ok.blt,ok.above,ok.inj,ok.has,ok.cab,ok.hd,ok.frames,ok.stk,ok.exf,ok.bs,ok.bsz,ok.noex,ok.exfs,ok.funs,ok.frf⟩
section
variable {X:Cx} {pins:List (Addr × Obj)} {σ:St} {H:Hp} {s:Shared} {E:Value→Shared→Prop}
theorem Inv.wish (I:Inv X pins σ H s) (E:Value→Shared→Prop):Inv (X.wish E) pins σ H s:=⟨I.ok.wish E,I.os,I.bare,I.base,I.loc,I.cell,I.free,I.freeC,I.pin,I.hok,I.len⟩
theorem Inv.unwish (I:Inv (X.wish E) pins σ H s):Inv X pins σ H s:=⟨I.ok.unwish,I.os,I.bare,I.base,I.loc,I.cell,I.free,I.freeC,I.pin,I.hok,I.len⟩
theorem SP.unwish {D:Ends} {f:Flow} {s':Shared} (h:SP (X.wish E) pins D f s'):SP X pins D f s':=by
 cases f with
 | next=>obtain ⟨σ',H',I,q⟩:=h; exact ⟨σ',H',I.unwish,q⟩
 | brk=>obtain ⟨σ',H',I,q⟩:=h; exact ⟨σ',H',I.unwish,q⟩
 | cont=>obtain ⟨σ',H',I,q⟩:=h; exact ⟨σ',H',I.unwish,q⟩
 | ret u=>obtain ⟨v,σ',H',I,r,q⟩:=h; exact ⟨v,σ',H',I.unwish,r,q⟩
theorem PSs.nox {st:List Stmt} {t:TS} (h:PSs X.nox st t):PSs X st t:=fun pins s σ H D I hw =>
 wpAny_mono (h pins s σ H D (I.wish _) hw) (fun _ _ q=>q.unwish) fun _ _ z=>False.elim z
end
section
variable {X:Cx} {st:Stmt} {rest:List Stmt} {t u:TS} {e:Expr} {te:TE} {pos:Pos}
def tNext:TS:=fun D σ H=>D.nx σ H
def sA (t u:TS):TS:=fun D σ H=>t { D with nx:=u D } σ H
theorem bj:PSs X [] tNext:=fun _ _ σ H _ I h=>wpAny_execs_nil ⟨σ,H,I,h⟩
theorem am (h1:PS X st t) (h2:PSs X rest u):PSs X (st :: rest) (sA t u):=by
 intro pins s σ H D I h
 refine wpAny_execs_cons (thn (h1 pins s σ H { D with nx:=u D } I h) fun f s1 q=>?_)
 cases f with
 | next =>
   obtain ⟨σ',H',I',q⟩:=q
   exact h2 pins s1 σ' H' D I' q
 | ret v=>exact q
 | brk=>exact q
 | cont=>exact q
theorem ap (h1:PS X st t):PSs X [st] t:=by
 intro pins s σ H D I h
 refine wpAny_execs_cons (thn (h1 pins s σ H D I h) fun f s1 q=>?_)
 cases f with
 | next=>exact wpAny_execs_nil q
 | ret v=>exact q
 | brk=>exact q
 | cont=>exact q
theorem Inv.quiet {pins:List (Addr × Obj)} {σ:St} {H:Hp} {s:Shared} (I:Inv X pins σ H s):interactive X.env=false:=by simp [interactive,I.ok.kind]
def sP (te:TE):TS:=fun D σ H=>te σ H fun _ H1=>D.nx σ H1
theorem b5 (he:PE X e te) (hs:swapsWith e none pos.line X.env=pure false:=by rfl):PS X (.Expr e pos) (sP te):=by
 intro pins s σ H D I h
 exact wpAny_Expr_any (bq (he pins s σ H _ I h) fun v s1 x H1 I1 r1 q1=>⟨σ,H1,I1,q1⟩) I.quiet hs
def zy (te:TE):TS:=fun D σ H=>te σ H D.rt
theorem aG (he:PE X e te):PS X (.Return (some e) pos) (zy te):=by
 intro pins s σ H D I h
 exact wpAny_Return_some (bq (he pins s σ H _ I h) fun v s1 x H1 I1 r1 q1=>⟨x,σ,H1,I1,r1,q1⟩)
def zO:TS:=fun D _ H=>D.rt .non H
def wS (c:TT) (t u:TS):TS:=fun D σ H=>c σ H fun b H1=>if b=true then t D σ H1 else u D σ H1
theorem bW {c:Expr} {a b:List Stmt} {tc:TT} (hc:PT X c tc) (ha:PSs X a t) (hb:PSs X b u):PS X (.If c a b pos) (wS tc t u):=by
 intro pins s σ H D I h
 refine wpAny_If (nA (hc pins s σ H _ I h) fun d s1 H1 I1 q1=>?_)
 cases d with
 | true=>exact ha pins s1 σ H1 D I1 q1
 | false=>exact hb pins s1 σ H1 D I1 q1
def tNever:TS:=fun _ _ _=>False
theorem eK:PS X st tNever:=fun _ _ _ _ _ _ h=>h.elim
end
abbrev TG:=V→St→Hp→(St→Hp→Prop)→Prop
abbrev TGs:=List V→St→Hp→(St→Hp→Prop)→Prop
def PG (X:Cx) (target:Expr) (t:TG):Prop :=
 ∀ (pins:List (Addr × Obj)) (s:Shared) (σ:St) (H:Hp) (v:V) (u:Value) (Q:St→Hp→Prop),Inv X pins σ H s→RelV v u→t v σ H Q →
   wpAny (model X.prog X.w) X.A (assign target X.env u) (fun _ s'=>∃ σ' H',Inv X pins σ' H' s'∧Q σ' H') X.xe s
def PGs (X:Cx) (ts:List Expr) (t:TGs):Prop :=
 ∀ (pins:List (Addr × Obj)) (s:Shared) (σ:St) (H:Hp) (vs:List V) (us:List Value) (Q:St→Hp→Prop),Inv X pins σ H s→Vals vs us→t vs σ H Q →
   wpAny (model X.prog X.w) X.A (assignInOrder ((assignEach ts X.env).map (·.2)) us) (fun _ s'=>∃ σ' H',Inv X pins σ' H' s'∧Q σ' H') X.xe s
abbrev pY:=V→V→V→Hp→(Hp→Prop)→Prop
def xQ (X:Cx) (t:pY):Prop :=
 ∀ (pins:List (Addr × Obj)) (s:Shared) (σ:St) (H:Hp) (o i v:V) (ov iv u:Value) (Q:Hp→Prop),Inv X pins σ H s→RelV o ov→RelV i iv→RelV v u→t o i v H Q →
   wpAny (model X.prog X.w) X.A (setItem ov iv u) (fun _ s'=>∃ H',Inv X pins σ H' s'∧Q H') X.xe s
abbrev TIp:=V→V→Hp→VK→Prop
def PIp (X:Cx) (op:Operator) (t:TIp):Prop :=
 ∀ (pins:List (Addr × Obj)) (s:Shared) (σ:St) (H:Hp) (x y:V) (v u:Value) (Q:VK),Inv X pins σ H s→RelV x v→RelV y u→t x y H Q →
   wpAny (model X.prog X.w) X.A (inplaceOp op v u) (EP X pins σ Q) X.xe s
section
variable {X:Cx} {pos:Pos}
def iV (i:Nat):TG:=fun v σ H Q=>Q (σ.set i (some v)) H
theorem aL {i:Nat} {x:Str} (hN:X.N.Nodup) (hi:X.N[i]?=some x) (hx:Loc X.env.scope x) (hf:X.fn x=true∨X.env.scope.names.lookup x=some .local:=by first | exact .inl rfl | exact .inr rfl | assumption):PG X (.Name x pos) (iV i):=by
 intro pins s σ H v u Q I r h
 exact wpAny_assign_Name (qz I hN hi hx r (fun s' I'=>⟨_,H,I',h⟩) hf)
def gNil:TGs:=fun vs σ H Q=>vs=[]∧Q σ H
def mG (t:TG) (u:TGs):TGs:=fun vs σ H Q=>∃ v r,vs=v :: r∧t v σ H fun σ' H'=>u r σ' H' Q
theorem gD:PGs X [] gNil:=by
 intro pins s σ H vs us Q I r h
 obtain ⟨e,h⟩:=h
 subst e
 cases r
 exact assignInOrder_nil ⟨σ,H,I,h⟩
theorem cj {e:Expr} {es:List Expr} {t:TG} {u:TGs} (h1:PG X e t) (h2:PGs X es u)
   (hs:(assignEach (e :: es) X.env).map (·.2)=assign e X.env :: (assignEach es X.env).map (·.2):=by rfl):PGs X (e :: es) (mG t u):=by
 intro pins s σ H vs us Q I r h
 obtain ⟨v,vr,e1,h⟩:=h
 subst e1
 cases r with
 | cons r rr =>
   rw [hs]
   refine assignInOrder_cons (thn (h1 pins s σ H _ _ _ I r h) fun _ s1 ⟨σ1,H1,I1,q1⟩=>?_)
   exact h2 pins s1 σ1 H1 _ _ Q I1 rr q1
def qy (K:PySem.W.Frag) (n:Nat) (t:TGs):TG:=fun v σ H Q=>∃ a xs,v=.ref a∧SqT K H a xs∧xs.length=n∧t xs σ H Q
theorem ip {es:List Expr} {k:Nat} {t:TGs} {n:Nat} (hc:X.calm=true) (h:PGs X es t)
   (hn:(assignEach es X.env).length=n:=by rfl) (hst:(assignEach es X.env).findIdx? (·.1)=none:=by rfl):PG X (.Tuple es k pos) (qy X.K n t):=by
 intro pins s σ H v u Q I r hw
 obtain ⟨a,xs,e1,hq,hl,hw⟩:=hw
 subst e1
 cases r
 obtain ⟨its,rv,ht,hz⟩:=I.tuple hq
 refine assign_Tuple_tuple (I.ok.hd hc) ht (by simp [hn,← hl,rv.length]) hst fun h' hx=>?_
 have I1:Inv X pins σ H { s with heap:=h' }:=I.kept (t':=s.toks) fun b o e=>hx b o (Nat.ne_of_lt (Heap.lt_size e)) e
 exact h pins _ σ H xs _ Q I1 (by simpa using rv) hw
def y3 (to ti:TE) (t:pY):TG:=fun v σ H Q=>to σ H fun o H1=>ti σ H1 fun i H2=>t o i v H2 fun H3=>Q σ H3
theorem pB {o i:Expr} {to ti:TE} {t:pY} (ho:PE X o to) (hi:PE X i ti) (hs:xQ X t)
   (ha:∀ v,assign (.Subscript o i pos) X.env v=(do
     let ov ← holding [v] (eval o X.env)
     let iv ← holding [v,ov] (eval i X.env)
     standAt pos
     holding [v,ov,iv] (setItem ov iv v)
     release [v,ov,iv] []):=by intro _; rfl):PG X (.Subscript o i pos) (y3 to ti t):=by
 intro pins s σ H v u Q I r h
 rw [ha]
 refine wpAny_bind (wpAny_holding (bq (ho pins s σ H _ I h) fun ov s1 x H1 I1 r1 q1=>?_))
 refine wpAny_bind (wpAny_holding (bq (hi pins s1 σ H1 _ I1 q1) fun iv s2 y H2 I2 r2 q2=>?_))
 refine wpAny_bind (wpAny_standAt (wpAny_bind (wpAny_holding (thn (hs pins s2 σ H2 x y v ov iv u _ I2 r1 r2 r q2) fun _ s3 ⟨H3,I3,q3⟩=>?_))))
 exact wpAny_release ⟨σ,H3,I3,q3⟩
def pL (te:TE) (g:TG):TS:=fun D σ H=>te σ H fun x H1=>g x σ H1 D.nx
theorem qG {tg e:Expr} {te:TE} {g:TG} (he:PE X e te) (hg:PG X tg g) (hs:swapsWithSole [tg] e pos.line X.env=pure false:=by rfl) (hw:swappedStores [tg] e X.env=pure none:=by rfl)
   (h1:(assignEach [tg] X.env).map (·.2)=[assign tg X.env]:=by rfl):PS X (.Assign [tg] e pos) (pL te g):=by
 intro pins s σ H D I h
 refine wpAny_Assign_stores (bq (he pins s σ H _ I h) fun v s1 x H1 I1 r1 q1=>?_) hs hw
 rw [h1]
 exact thn (hg pins s1 σ H1 x v _ I1 r1 q1) fun _ s2 q=>q
theorem aD {i:Nat} {x:Str} {e:Expr} {te:TE} {pos':Pos} (hN:X.N.Nodup) (hi:X.N[i]?=some x) (hx:Loc X.env.scope x) (he:PE X e te) (hs:swapsWith e (some (.Name x pos')) pos.line X.env=pure false:=by rfl) (hf:X.fn x=true∨X.env.scope.names.lookup x=some .local:=by first | exact .inl rfl | exact .inr rfl | assumption) :
   PS X (.Assign [.Name x pos'] e pos) (pL te (iV i)):=by
 intro pins s σ H D I h
 refine wpAny_Assign_Name (bq (he pins s σ H _ I h) fun v s1 y H1 I1 r1 q1=>?_) hs
 exact qz I1 hN hi hx r1 (fun s2 I2=>⟨_,H1,I2,q1⟩) hf
def AQ (i:Nat) (te:TE) (ti:TIp):TS:=fun D σ H=>∃ x,σ[i]?=some (some x)∧te σ H fun y H1=>ti x y H1 fun z H2=>D.nx (σ.set i (some z)) H2
def uj (to ti te:TE) (tget:V→V→Hp→VK→Prop) (tip:TIp) (tset:pY):TS:=fun D σ H=>to σ H fun o H1=>ti σ H1 fun i H2=>tget o i H2 fun x H3=>te σ H3 fun y H4=>tip x y H4 fun z H5=>tset o i z H5 fun H6=>D.nx σ H6
def A3 (X:Cx) (t:V→V→Hp→VK→Prop):Prop :=
 ∀ (pins:List (Addr × Obj)) (s:Shared) (σ:St) (H:Hp) (o i:V) (ov iv:Value) (Q:VK),Inv X pins σ H s→RelV o ov→RelV i iv→t o i H Q →
   wpAny (model X.prog X.w) X.A (getItem ov iv) (EP X pins σ Q) X.xe s
theorem mS {o i e:Expr} {to ti te:TE} {tget:V→V→Hp→VK→Prop} {tip:TIp} {tset:pY} {op:Operator} {tpos:Pos} (ho:PE X o to) (hi:PE X i ti) (hg:A3 X tget) (he:PE X e te) (hp:PIp X op tip) (hs:xQ X tset)
   (ha:∀ ov iv new,augStore i ov iv new=(do holding [new,ov,iv] (setItem ov iv new); release [new,ov,iv] []; pure .next):=by intros; rfl):PS X (.AugAssign (.Subscript o i tpos) op e pos) (uj to ti te tget tip tset):=by
 intro pins s σ H D I h
 refine wpAny_AugAssign_SubscriptAny (bq (ho pins s σ H _ I h) fun ov s1 x1 H1 I1 r1 q1=>?_) ha
 refine bq (hi pins s1 σ H1 _ I1 q1) fun iv s2 x2 H2 I2 r2 q2=>?_
 refine thn (hg pins s2 σ H2 x1 x2 ov iv _ I2 r1 r2 q2) fun old s3 ⟨x3,H3,I3,r3,q3⟩=>?_
 refine bq (he pins s3 σ H3 _ I3 q3) fun v s4 x4 H4 I4 r4 q4=>?_
 refine thn (hp pins s4 σ H4 x3 x4 old v _ I4 r3 r4 q4) fun new s5 ⟨x5,H5,I5,r5,q5⟩=>?_
 exact thn (hs pins s5 σ H5 x1 x2 x5 ov iv new _ I5 r1 r2 r5 q5) fun _ s6 ⟨H6,I6,q6⟩=>⟨σ,H6,I6,q6⟩
def ipI (f:Int→Int→Int):TIp:=fun x y H Q=>∃ i j,x=.int i∧y=.int j∧Q (.int (f i j)) H
theorem uT:PIp X .Add (ipI fun i j=>i + j):=by
 intro pins s σ H x y v u Q I r1 r2 h
 obtain ⟨i,j,e1,e2,q⟩:=h
 subst e1; subst e2
 obtain ⟨t,rfl⟩:=r1
 obtain ⟨t',rfl⟩:=r2
 exact iadd_int ⟨.int _,H,I.tok _,⟨_,rfl⟩,q⟩
theorem A5:PIp X .Sub (ipI fun i j=>i - j):=by
 intro pins s σ H x y v u Q I r1 r2 h
 obtain ⟨i,j,e1,e2,q⟩:=h
 subst e1; subst e2
 obtain ⟨t,rfl⟩:=r1
 obtain ⟨t',rfl⟩:=r2
 exact isub_int ⟨.int _,H,I.tok _,⟨_,rfl⟩,q⟩
end
section
variable {X:Cx} {pos:Pos}
def qM (c:TT) (tb:TS):TS:=fun D σ H=>∃ W:Nat→St→Hp→Prop,(∃ m,W m σ H)∧∀ m σ H,W m σ H →
 c σ H fun b H1=>if b=true then ∃ N:St→Hp→Prop,(∀ σ' H',N σ' H'→∃ m',m' < m∧W m' σ' H')∧tb { D with nx:=N,ct:=N,bk:=D.nx } σ H1 else D.nx σ H1
theorem jh {c:Expr} {body:List Stmt} {tc:TT} {tb:TS} (hp:PassesOwn (model X.prog X.w) X.A X.env X.xe) (hc:PT X c tc) (hb:PSs X body tb):PS X (.While c body [] pos) (qM tc tb):=by
 intro pins s σ H D I h
 obtain ⟨W,⟨m0,w0⟩,turn⟩:=h
 refine wpAny_While (codeAny_whileLoop (fun n s'=>∃ σ' H',Inv X pins σ' H' s'∧W n σ' H') ?_ m0 ⟨σ,H,I,w0⟩)
 rintro n s1 ⟨σ1,H1,I1,w1⟩
 refine wpAny_passesOwn hp (nA (hc pins s1 σ1 H1 _ I1 (turn n σ1 H1 w1)) fun b s2 H2 I2 q2=>?_)
 cases b with
 | true =>
   obtain ⟨N,hN,q2⟩:=q2
   rw [if_pos rfl]
   refine wpAny_passesOwn hp (thn (hb pins s2 σ1 H2 _ I2 q2) fun f s3 q3=>?_)
   cases f with
   | next =>
     obtain ⟨σ3,H3,I3,n3⟩:=q3
     obtain ⟨m',hm,w3⟩:=hN σ3 H3 n3
     exact ⟨m',hm,σ3,H3,I3,w3⟩
   | cont =>
     obtain ⟨σ3,H3,I3,n3⟩:=q3
     obtain ⟨m',hm,w3⟩:=hN σ3 H3 n3
     exact ⟨m',hm,σ3,H3,I3,w3⟩
   | brk=>exact q3
   | ret v=>exact q3
 | false =>
   rw [if_neg Bool.false_ne_true]
   exact wpAny_execs_nil ⟨σ1,H2,I2,q2⟩
end
structure It where
 go:Nat→Hp→Prop
 yld:Nat→Hp→V→Hp→Prop
 stop:Nat→Hp→Prop
def eE (X:Cx) (pins:List (Addr × Obj)) (H:Hp) (b:Addr):Prop :=
 H b=none∧b≠X.env.locals∧b ∉ X.fs∧(b∈X.ex∨X.s₀.heap.objs.size≤b)∧(∀ x c,X.env.cells.lookup x=some c→c≠b)∧∀ p∈X.pn ++ pins,p.1≠b
theorem Inv.fpOk {X:Cx} {pins:List (Addr × Obj)} {σ:St} {H H':Hp} {s:Shared} {b:Addr} (I:Inv X pins σ H s) (hb:s.heap.objs.size≤b) (hn:H' b=none):eE X pins H' b:=by
 refine ⟨hn,Nat.ne_of_gt (Nat.lt_of_lt_of_le I.lt hb),I.nofs hb,.inr (Nat.le_trans I.sz hb),fun x c e z=>?_,fun p hp z=>?_⟩
 · obtain ⟨v,q⟩:=I.cell x c e
   exact absurd (Nat.lt_of_lt_of_le q.lt (by rw [z]; exact hb)) (Nat.lt_irrefl _)
 · exact absurd (Nat.lt_of_lt_of_le (Heap.lt_size (I.pin p hp).1) (by rw [z]; exact hb)) (Nat.lt_irrefl _)
structure Turn (P:Program) (w:World) (K:PySem.W.Frag) (tg:Expr) (J:It) (fp:List Addr) (it:Addr) (tn:Nat→Heap→Prop):Prop where
 mem:it∈fp
 obj:∀ i h,tn i h→∀ b∈fp,∃ o,h.get? b=some o∧∀ v,o.data≠.cell v
 keep:∀ i h h',tn i h→(∀ b∈fp,∀ o,h.get? b=some o→h'.get? b=some o)→tn i h'
 item:∀ (X:Cx),X.prog=P→X.w=w→X.K=K→X.calm=true→∀ (i:Nat) (pins:List (Addr × Obj)) (s:Shared) (σ:St) (H:Hp) (E:Value→Shared→Prop),Inv X pins σ H s→(∀ b∈fp,eE X pins H b)→tn i s.heap→J.go i H →
   wpAny (model P w) X.A (pyNext (.ref it)) (fun r s1=>∃ u,r=some u ∧
     wpAny (model P w) X.A (letOwnedTupleGo tg (.ref it) u) (fun _ s2=>∃ x H',Inv X pins σ H' s2∧RelV x u∧J.yld i H x H'∧tn (i + 1) s2.heap∧∀ b∈fp,H' b=none) E s1) E s
 done:∀ (X:Cx),X.prog=P→X.w=w→X.K=K→X.calm=true→∀ (i:Nat) (pins:List (Addr × Obj)) (s:Shared) (σ:St) (H:Hp) (E:Value→Shared→Prop),Inv X pins σ H s→(∀ b∈fp,eE X pins H b)→tn i s.heap→J.stop i H →
   wpAny (model P w) X.A (pyNext (.ref it)) (fun r s1=>r=none∧Inv X pins σ H s1) E s
 self:∀ (A:Around) (i:Nat) (s:Shared) (Q:Value→Shared→Prop) (E:Value→Shared→Prop),tn i s.heap→Q (.ref it) s→wpAny (model P w) A (pyIter (.ref it)) Q E s
abbrev TI:=St→Hp→(It→Hp→Prop)→Prop
def PIE (X:Cx) (pins:List (Addr × Obj)) (σ:St) (tg:Expr) (R:It→Hp→Prop) (itv:Value) (s2:Shared):Prop :=
 ∃ (it:Addr) (fp:List Addr) (tn:Nat→Heap→Prop) (J:It) (H':Hp),itv=.ref it∧Inv X pins σ H' s2∧Turn X.prog X.w X.K tg J fp it tn∧tn 0 s2.heap∧(∀ b∈fp,eE X pins H' b)∧R J H'
def PI (X:Cx) (tg iter:Expr) (wi:TI):Prop :=
 ∀ (pins:List (Addr × Obj)) (s:Shared) (σ:St) (H:Hp) (R:It→Hp→Prop),Inv X pins σ H s→wi σ H R →
   wpAny (model X.prog X.w) X.A (eval iter X.env) (fun v s1=>wpAny (model X.prog X.w) X.A (pyIter v) (PIE X pins σ tg R) X.xe s1) X.xe s
theorem pi {M:Model} {A:Around} {E:Value→Shared→Prop} {s:Shared} {tg:Expr} {it:Addr} {u:Value} {o:Obj} {n:String} {vs:Array Value} {Q:Unit→Shared→Prop} (ho:s.heap.get? it=some o) (hc:o.cls=.type n) (hd:o.data=.fields vs)
   (hn:["enumerate","zip","dict_itemiterator","dict_reverseitemiterator","odict_iterator","itertools.zip_longest","itertools.pairwise"].contains n=false) (hQ:Q () s):wpAny M A (letOwnedTupleGo tg (.ref it) u) Q E s:=by
 unfold letOwnedTupleGo
 cases tg <;> first
   | exact wpAny_pure hQ
   | (cases u <;> first
       | exact wpAny_pure hQ
       | (refine wpAny_bind (wpAny_load ho ?_)
          rw [hc,hd]
          show wpAny M A (if (["enumerate","zip","dict_itemiterator","dict_reverseitemiterator","odict_iterator","itertools.zip_longest","itertools.pairwise"].contains n && vs[0]? == some (rawInt _))=true then _ else _) Q E s
          rw [if_neg (by intro h; rw [hn,Bool.false_and] at h; cases h)]
          exact wpAny_pure hQ))
def Itl (K:PySem.W.Frag) (a:Addr):It :=
 ⟨fun i H=>∃ xs x,SqL K H a xs∧xs[i]?=some x,fun i H x H'=>H'=H∧∀ xs,SqL K H a xs→xs[i]?=some x,fun i H=>∃ xs,SqL K H a xs∧xs.length≤i⟩
def Itt (K:PySem.W.Frag) (a:Addr):It :=
 ⟨fun i H=>∃ xs x,SqT K H a xs∧xs[i]?=some x,fun i H x H'=>H'=H∧∀ xs,SqT K H a xs→xs[i]?=some x,fun i H=>∃ xs,SqT K H a xs∧xs.length≤i⟩
def Itr (lo:Int) (n:Nat):It:=⟨fun i _=>i < n,fun i H x H'=>H'=H∧x=.int (lo + i),fun i _=>n≤i⟩
theorem uH {P:Program} {w:World} {K:PySem.W.Frag} {tg:Expr} (a it:Addr):Turn P w K tg (Itl K a) [it] it (fun i h=>h.IsListIter it a i) where
 mem:=by simp
 obj:=fun i h st b hb=>by
   have e:b=it:=by simpa using hb
   subst e
   obtain ⟨o,e,c,d⟩:=st
   exact ⟨o,e,fun v z=>by rw [d] at z; cases z⟩
 keep:=fun i h h' st k=>st.at fun o e=>k it (by simp) o e
 item:=by
   intro X hP hw hK hc i pins s σ H E I hf st hg
   subst hP hw hK
   obtain ⟨xs,x,hq,hx⟩:=hg
   obtain ⟨its,rv,p,hz⟩:=I.list hq
   obtain ⟨u,hu,ru⟩:=rv.get hx
   obtain ⟨f0,f1,f2,f3,f4,f5⟩:=hf it (by simp)
   refine wpAny_pyNext_list_item st p.isList (x:=u) (by simpa using hu) fun h' st' sb=>?_
   have I1:Inv X pins σ H { s with heap:=h' }:=I.turned (t':=s.toks) (fun b o hb e=>(sb.2 b hb).trans e) f0 f1 f3 f4 f5
   obtain ⟨o,e,c,d⟩:=id st'
   exact ⟨u,rfl,pi (s:={ s with heap:=h' }) e c d (by decide) ⟨x,H,I1,ru,⟨rfl,fun ys hy=>by rw [I.list_inj hy hq]; exact hx⟩,st',fun b hb=>(hf b hb).1⟩⟩
 done:=by
   intro X hP hw hK hc i pins s σ H E I hf st hg
   subst hP hw hK
   obtain ⟨xs,hq,hx⟩:=hg
   obtain ⟨its,rv,p,hz⟩:=I.list hq
   obtain ⟨f0,f1,f2,f3,f4,f5⟩:=hf it (by simp)
   have hl:=rv.length
   exact wpAny_pyNext_list_end (I.ok.hd hc) st p.isList (by simp; omega) fun h' eb=>⟨rfl,I.turned (t':=s.toks) (fun b o hb e=>eb b o hb e) f0 f1 f3 f4 f5⟩
 self:=fun _ _ _ _ _ st h=>wpAny_pyIter_listiter st h
theorem tH {P:Program} {w:World} {K:PySem.W.Frag} {tg:Expr} (a it:Addr):Turn P w K tg (Itt K a) [it] it (fun i h=>h.IsTupleIter it a i) where
 mem:=by simp
 obj:=fun i h st b hb=>by
   have e:b=it:=by simpa using hb
   subst e
   obtain ⟨o,e,c,d⟩:=st
   exact ⟨o,e,fun v z=>by rw [d] at z; cases z⟩
 keep:=fun i h h' st k=>st.at fun o e=>k it (by simp) o e
 item:=by
   intro X hP hw hK hc i pins s σ H E I hf st hg
   subst hP hw hK
   obtain ⟨xs,x,hq,hx⟩:=hg
   obtain ⟨its,rv,p,hz⟩:=I.tuple hq
   obtain ⟨u,hu,ru⟩:=rv.get hx
   obtain ⟨f0,f1,f2,f3,f4,f5⟩:=hf it (by simp)
   refine wpAny_pyNext_tuple_item st (show s.heap.IsTuple a its.toArray from p) (x:=u) (by simpa using hu) fun h' st' sb=>?_
   have I1:Inv X pins σ H { s with heap:=h' }:=I.turned (t':=s.toks) (fun b o hb e=>(sb.2 b hb).trans e) f0 f1 f3 f4 f5
   obtain ⟨o,e,c,d⟩:=id st'
   exact ⟨u,rfl,pi (s:={ s with heap:=h' }) e c d (by decide) ⟨x,H,I1,ru,⟨rfl,fun ys hy=>by rw [I.tuple_inj hy hq]; exact hx⟩,st',fun b hb=>(hf b hb).1⟩⟩
 done:=by
   intro X hP hw hK hc i pins s σ H E I hf st hg
   subst hP hw hK
   obtain ⟨xs,hq,hx⟩:=hg
   obtain ⟨its,rv,p,hz⟩:=I.tuple hq
   obtain ⟨f0,f1,f2,f3,f4,f5⟩:=hf it (by simp)
   have hl:=rv.length
   exact wpAny_pyNext_tuple_end (I.ok.hd hc) st (show s.heap.IsTuple a its.toArray from p) (by simp; omega) fun h' eb=>⟨rfl,I.turned (t':=s.toks) (fun b o hb e=>eb b o hb e) f0 f1 f3 f4 f5⟩
 self:=fun _ _ _ _ _ st h=>wpAny_pyIter_tupleiter st h
theorem sB {P:Program} {w:World} {K:PySem.W.Frag} {tg:Expr} (it:Addr) (lo:Int) (n:Nat):Turn P w K tg (Itr lo n) [it] it (fun i h=>IsRangeIter h it (lo + (i:Nat) * 1) ((n:Int) - (i:Nat)) 1) where
 mem:=by simp
 obj:=fun i h st b hb=>by
   have e:b=it:=by simpa using hb
   subst e
   exact ⟨_,st,fun v z=>by
     have z':Data.fields _=Data.cell v:=z
     cases z'⟩
 keep:=fun i h h' st k=>k it (by simp) _ st
 item:=by
   intro X hP hw hK hc i pins s σ H E I hf st hg
   subst hP hw hK
   obtain ⟨f0,f1,f2,f3,f4,f5⟩:=hf it (by simp)
   have W:=Walks.range (prog:=X.prog) (w:=X.w) (I.ok.hd hc) it lo 1 n
   refine W.item i s _ _ hg st fun v h' tk hv st' kk=>?_
   obtain ⟨t,rfl⟩:=hv
   have I1:Inv X pins σ H { s with heap:=h',toks:=tk }:=I.turned (fun b o hb e=>kk b o (by simpa using hb) e) f0 f1 f3 f4 f5
   refine ⟨_,rfl,pi (s:={ s with heap:=h',toks:=tk }) (n:="range_iterator") st' rfl rfl (by decide) ⟨.int (lo + i),H,I1,⟨t,?_⟩,⟨rfl,rfl⟩,st',fun b hb=>(hf b hb).1⟩⟩
   rw [Int.mul_one]
 done:=by
   intro X hP hw hK hc i pins s σ H E I hf st hg
   subst hP hw hK
   obtain ⟨f0,f1,f2,f3,f4,f5⟩:=hf it (by simp)
   exact wpAny_pyNext_range_end (I.ok.hd hc) st (by have:n≤i:=hg; omega) fun h' eb=>⟨rfl,I.turned (t':=s.toks) (fun b o hb e=>eb b o hb e) f0 f1 f3 f4 f5⟩
 self:=fun _ _ _ _ _ st h=>wpAny_pyIter_rangeiter st h
end L2
namespace L2
open PySem PySem.Spec PyProof.Rows
section
variable {X:Cx} {tg:Expr}
def ut (K:PySem.W.Frag) (tl:TE):TI:=fun σ H R=>tl σ H fun x H1=>∃ a,x=.ref a∧(∃ xs,SqL K H1 a xs)∧R (Itl K a) H1
def yR (K:PySem.W.Frag) (tl:TE):TI:=fun σ H R=>tl σ H fun x H1=>∃ a,x=.ref a∧(∃ xs,SqT K H1 a xs)∧R (Itt K a) H1
theorem gE {l:Expr} {tl:TE} (hl:PE X l tl):PI X tg l (ut X.K tl):=by
 intro pins s σ H R I h
 refine bq (hl pins s σ H _ I h) fun v s1 x H1 I1 r1 q1=>?_
 obtain ⟨a,e,⟨xs,hq⟩,q⟩:=q1
 subst e
 cases r1
 obtain ⟨its,rv,p,hz⟩:=I1.list hq
 refine wpAny_pyIter_list p.isList ?_
 refine ⟨s1.heap.objs.size,[s1.heap.objs.size],_,_,H1,rfl,I1.kept (t':=s1.toks) fun b o e=>Heap.get?_push_of_some _ e,uH a _,⟨_,Heap.get?_push_size _ rfl,rfl,rfl⟩,fun b hb=>?_,q⟩
 have e:b=s1.heap.objs.size:=by simpa using hb
 subst e
 exact I1.fpOk (Nat.le_refl _) (I1.hok.fresh (Nat.le_refl _))
theorem j8 {l:Expr} {tl:TE} (hl:PE X l tl):PI X tg l (yR X.K tl):=by
 intro pins s σ H R I h
 refine bq (hl pins s σ H _ I h) fun v s1 x H1 I1 r1 q1=>?_
 obtain ⟨a,e,⟨xs,hq⟩,q⟩:=q1
 subst e
 cases r1
 obtain ⟨its,rv,p,hz⟩:=I1.tuple hq
 refine wpAny_pyIter_tuple (show s1.heap.IsTuple a its.toArray from p) ?_
 refine ⟨s1.heap.objs.size,[s1.heap.objs.size],_,_,H1,rfl,I1.kept (t':=s1.toks) fun b o e=>Heap.get?_push_of_some _ e,tH a _,⟨_,Heap.get?_push_size _ rfl,rfl,rfl⟩,fun b hb=>?_,q⟩
 have e:b=s1.heap.objs.size:=by simpa using hb
 subst e
 exact I1.fpOk (Nat.le_refl _) (I1.hok.fresh (Nat.le_refl _))
theorem q8 {pins:List (Addr × Obj)} {σ:St} {H:Hp} {s:Shared} {R:It→Hp→Prop} {E:Value→Shared→Prop} {lo hi:Int} {t u v:Tok} {tk:Nat} (I:Inv X pins σ H s) (h1:-(2 ^ 62)≤lo) (h2:lo < 2 ^ 62) (h3:-(2 ^ 62)≤hi) (h4:hi < 2 ^ 62)
   (q:R (Itr lo (hi - lo).toNat) H):wpAny (model X.prog X.w) X.A (pyIter (.ref s.heap.objs.size)) (PIE X pins σ tg R) E { s with heap:=s.heap.push { cls:=.type "range",data:=.fields #[.int lo t,.int hi u,.int 1 v] },toks:=tk }:=by
 refine wpAny_pyIter_range (IsRange.new ..) (small_one h1 h2 h3 h4) ?_
 have I1:Inv X pins σ H { s with heap:=s.heap.push { cls:=.type "range",data:=.fields #[.int lo t,.int hi u,.int 1 v] },toks:=tk }:=I.kept fun b o e=>Heap.get?_push_of_some _ e
 refine ⟨(s.heap.push { cls:=.type "range",data:=.fields #[.int lo t,.int hi u,.int 1 v] }).objs.size,[(s.heap.push { cls:=.type "range",data:=.fields #[.int lo t,.int hi u,.int 1 v] }).objs.size],_,_,H,rfl,
   I1.kept (t':=tk) fun b o e=>Heap.get?_push_of_some _ e,sB _ lo (hi - lo).toNat,?_,fun b hb=>?_,q⟩
 · have e1:lo + ((0:Nat):Int) * 1=lo:=by simp
   have e2:(((hi - lo).toNat:Nat):Int) - ((0:Nat):Int)=Builtin.Range.rangeSize lo hi 1:=by rw [rangeSize_one]; split <;> omega
   show IsRangeIter _ _ (lo + ((0:Nat):Int) * 1) ((((hi - lo).toNat:Nat):Int) - ((0:Nat):Int)) 1
   rw [e1,e2]
   exact Heap.get?_push_size _ rfl
 · have e:b=(s.heap.push { cls:=.type "range",data:=.fields #[.int lo t,.int hi u,.int 1 v] }).objs.size:=by simpa using hb
   subst e
   exact I1.fpOk (Nat.le_refl _) (I1.hok.fresh (Nat.le_refl _))
def sC (ta:TA):TI:=fun σ H R=>ta σ H fun vs H1=>∃ j:Int,vs=[.int j]∧-(2 ^ 62)≤j∧j < 2 ^ 62∧R (Itr 0 j.toNat) H1
def uc (ta:TA):TI:=fun σ H R=>ta σ H fun vs H1=>∃ i j:Int,vs=[.int i,.int j]∧(-(2 ^ 62)≤i∧i < 2 ^ 62∧-(2 ^ 62)≤j∧j < 2 ^ 62)∧R (Itr i (j - i).toNat) H1
theorem gh {a:Expr} {ta:TA} {p pos:Pos} (hg:Gl X "range") (hm:X.mg "range"=none) (ha:PA X [a] ta) (hs:starEach [a] X.env=[(false,eval a X.env)]:=by rfl):PI X tg (.Call (.Name "range" p) [a] [] pos) (sC ta):=by
 intro pins s σ H R I h
 refine Call_ (gR I hg hm boot_range (PyProof.Rows.callWith_type1 (ik (ha pos pins s σ H _ I h) fun us s1 vs H1 I1 r1 q1=>?_) hs rfl))
 obtain ⟨j,e,q1,q2,q⟩:=q1
 subst e
 cases r1 with
 | cons r rr =>
   cases rr
   obtain ⟨t,rfl⟩:=r
   exact call_range_1 (q8 I1 (by omega) (by omega) q1 q2 (by simpa using q))
theorem oj {a b:Expr} {ta:TA} {p pos:Pos} (hg:Gl X "range") (hm:X.mg "range"=none) (ha:PA X [a,b] ta) (hs:starEach [a,b] X.env=[(false,eval a X.env),(false,eval b X.env)]:=by rfl) (hs2:starEach [b] X.env=[(false,eval b X.env)]:=by rfl) :
   PI X tg (.Call (.Name "range" p) [a,b] [] pos) (uc ta):=by
 intro pins s σ H R I h
 refine Call_ (gR I hg hm boot_range (PyProof.Rows.callWith_type1 (ik (ha pos pins s σ H _ I h) fun us s1 vs H1 I1 r1 q1=>?_) (by rw [hs,hs2]) (by rw [hs2]; rfl)))
 obtain ⟨i,j,e,⟨q1,q2,q3,q4⟩,q⟩:=q1
 subst e
 cases r1 with
 | cons r rr =>
   cases rr with
   | cons r' rr =>
     cases rr
     obtain ⟨t,rfl⟩:=r
     obtain ⟨t',rfl⟩:=r'
     exact call_range_2 (q8 I1 q1 q2 q3 q4 q)
def Ba (wi:TI) (g:TG) (tb:TS):TS:=fun D σ H=>wi σ H fun J H1=>∃ W:Nat→Nat→St→Hp→Prop,(∃ m,W 0 m σ H1)∧∀ i m σ H,W i m σ H →
 (J.stop i H∧D.nx σ H)∨(J.go i H∧∃ N:St→Hp→Prop,(∀ σ' H',N σ' H'→∃ m',m' < m∧W (i + 1) m' σ' H')∧∀ x H',J.yld i H x H'→g x σ H' fun σ2 H2=>tb { D with nx:=N,ct:=N,bk:=D.nx } σ2 H2)
def iL (fp:List Addr) (h:Heap):List (Addr × Obj):=fp.filterMap fun b=>(h.get? b).map fun o=>(b,o)
theorem d6 {fp:List Addr} {h:Heap} {b:Addr} {o:Obj} (hb:b∈fp) (e:h.get? b=some o):(b,o)∈iL fp h:=List.mem_filterMap.mpr ⟨b,hb,by rw [e]; rfl⟩
theorem u5 {fp:List Addr} {h:Heap} {p:Addr × Obj} (hp:p∈iL fp h):p.1∈fp∧h.get? p.1=some p.2:=by
 obtain ⟨b,hb,e⟩:=List.mem_filterMap.mp hp
 cases q:h.get? b with
 | none=>rw [q] at e; cases e
 | some o =>
   rw [q] at e
   have e':(b,o)=p:=Option.some.inj e
   subst e'
   exact ⟨hb,q⟩
theorem Inv.pinned {pins:List (Addr × Obj)} {σ:St} {H:Hp} {s:Shared} {fp:List Addr} (I:Inv X pins σ H s) (hf:∀ b∈fp,eE X pins H b) (ho:∀ b∈fp,∃ o,s.heap.get? b=some o∧∀ v,o.data≠.cell v):Inv X (pins ++ iL fp s.heap) σ H s :=
 I.pins_of fun p hp=>(List.mem_append.mp hp).elim (fun z=>I.pin p (List.mem_append_right _ z)) fun z=>by
   obtain ⟨hb,e⟩:=u5 z
   obtain ⟨f0,f1,f2,_⟩:=hf p.1 hb
   obtain ⟨o,e',d⟩:=ho p.1 hb
   rw [e] at e'; cases e'
   exact ⟨e,f0,f1,f2,d⟩
theorem Inv.unpinned {pins pl:List (Addr × Obj)} {σ:St} {H:Hp} {s:Shared} (I:Inv X (pins ++ pl) σ H s):Inv X pins σ H s:=I.pins_of fun p hp=>I.pin p (List.mem_append_right _ (List.mem_append_left _ hp))
theorem cS {iter:Expr} {body:List Stmt} {wi:TI} {g:TG} {tb:TS} {pos:Pos} (hp:PassesOwn (model X.prog X.w) X.A X.env X.xe) (hc:X.calm=true) (hi:PI X tg iter wi) (hg:PG X tg g) (hb:PSs X body tb)
   (hs:∀ x,foldedSetIterable iter X.env x=pure x:=by intro _; rfl):PS X (.For tg iter body [] pos) (Ba wi g tb):=by
 intro pins s σ H D I h
 refine wpAny_For (thn (hi pins s σ H _ I h) fun v s1 h1=>thn h1 fun itv s2 h2=>?_) hs
 obtain ⟨it,fp,tn,J,H2,e,I2,T,st2,f2,W,⟨m0,w0⟩,turn⟩:=h2
 subst e
 have stat:∀ {H':Hp},(∀ b∈fp,H' b=none)→∀ b∈fp,eE X pins H' b:=fun hn b hb=>⟨hn b hb,(f2 b hb).2⟩
 refine codeAny_forLoop_any (fun n s'=>∃ i σ' H',Inv X pins σ' H' s'∧tn i s'.heap∧(∀ b∈fp,H' b=none)∧W i n σ' H') ?_ m0 ⟨0,σ,H2,I2,st2,fun b hb=>(f2 b hb).1,w0⟩
 rintro n s3 ⟨i,σ3,H3,I3,st3,fr3,w3⟩
 rcases turn i n σ3 H3 w3 with ⟨stop,qn⟩ | ⟨go,N,hN,step⟩
 · refine wpAny_passesOwn hp (thn (T.done X rfl rfl rfl hc i pins s3 σ3 H3 X.xe I3 (stat fr3) st3 stop) fun r s4 ⟨hr,I4⟩=>?_)
   subst hr
   exact wpAny_execs_nil ⟨σ3,H3,I4,qn⟩
 · refine wpAny_passesOwn hp (thn (T.item X rfl rfl rfl hc i pins s3 σ3 H3 X.xe I3 (stat fr3) st3 go) fun r s4 ⟨u,hr,h4⟩=>?_)
   subst hr
   refine wpAny_passesOwn hp (thn h4 fun _ s5 ⟨x,H5,I5,r5,y5,st5,fr5⟩=>?_)
   have I5':=I5.pinned (stat fr5) (T.obj _ _ st5)
   refine wpAny_passesOwn hp (thn (hg _ s5 σ3 H5 x u _ I5' r5 (step x H5 y5)) fun _ s6 ⟨σ6,H6,I6,q6⟩=>?_)
   refine wpAny_passesOwn hp (thn (hb _ s6 σ6 H6 _ I6 q6) fun f s7 q7=>?_)
   have again:∀ {σ7:St} {H7:Hp},Inv X (pins ++ iL fp s5.heap) σ7 H7 s7→N σ7 H7→∃ m,m < n∧∃ i σ' H',Inv X pins σ' H' s7∧tn i s7.heap∧(∀ b∈fp,H' b=none)∧W i m σ' H':=fun {σ7 H7} I7 n7=>by
     obtain ⟨m',hm,w7⟩:=hN σ7 H7 n7
     refine ⟨m',hm,i + 1,σ7,H7,I7.unpinned,T.keep _ _ _ st5 fun b hb o e=>(I7.pin (b,o) (List.mem_append_right _ (List.mem_append_right _ (d6 hb e)))).1,fun b hb=>?_,w7⟩
     obtain ⟨o,e,d⟩:=T.obj _ _ st5 b hb
     exact (I7.pin (b,o) (List.mem_append_right _ (List.mem_append_right _ (d6 hb e)))).2.1
   cases f with
   | next=>obtain ⟨σ7,H7,I7,n7⟩:=q7; exact again I7 n7
   | cont=>obtain ⟨σ7,H7,I7,n7⟩:=q7; exact again I7 n7
   | brk=>obtain ⟨σ7,H7,I7,q7⟩:=q7; exact ⟨σ7,H7,I7.unpinned,q7⟩
   | ret v=>obtain ⟨x7,σ7,H7,I7,r7,q7⟩:=q7; exact ⟨x7,σ7,H7,I7.unpinned,r7,q7⟩
end
theorem qd {K:PySem.W.Frag} {a:Addr} {xs:List V} {g:TG} {tb:TS} {D:Ends} {σ:St} {H:Hp} (Pv:Nat→St→Hp→Prop) (h0:Pv 0 σ H) (hl:∀ i σ H,i≤xs.length→Pv i σ H→SqL K H a xs)
   (hs:∀ i x σ H,xs[i]?=some x→Pv i σ H→g x σ H fun σ2 H2=>tb { D with nx:=Pv (i + 1),ct:=Pv (i + 1),bk:=D.nx } σ2 H2) (hd:∀ σ H,Pv xs.length σ H→D.nx σ H) :
   ∃ W:Nat→Nat→St→Hp→Prop,(∃ m,W 0 m σ H)∧∀ i m σ H,W i m σ H →
     ((Itl K a).stop i H∧D.nx σ H)∨((Itl K a).go i H∧∃ N:St→Hp→Prop,(∀ σ' H',N σ' H'→∃ m',m' < m∧W (i + 1) m' σ' H')∧∀ x H',(Itl K a).yld i H x H'→g x σ H' fun σ2 H2=>tb { D with nx:=N,ct:=N,bk:=D.nx } σ2 H2):=by
 refine ⟨fun i m σ H=>m=xs.length - i∧i≤xs.length∧Pv i σ H,⟨xs.length,by simp,Nat.zero_le _,h0⟩,?_⟩
 rintro i m σ H ⟨rfl,hi,p⟩
 have q:=hl i σ H hi p
 by_cases hlt:i < xs.length
 · refine .inr ⟨⟨xs,xs[i],q,by simp [hlt]⟩,Pv (i + 1),fun σ' H' p'=>⟨xs.length - (i + 1),by omega,rfl,hlt,p'⟩,fun x H' y=>?_⟩
   obtain ⟨e,y⟩:=y
   subst e
   exact hs i x σ _ (y xs q) p
 · have e:i=xs.length:=by omega
   subst e
   exact .inl ⟨⟨xs,q,Nat.le_refl _⟩,hd σ H p⟩
theorem kj {K:PySem.W.Frag} {a:Addr} {xs:List V} {g:TG} {tb:TS} {D:Ends} {σ:St} {H:Hp} (Pv:Nat→St→Hp→Prop) (h0:Pv 0 σ H) (hl:∀ i σ H,i≤xs.length→Pv i σ H→SqT K H a xs)
   (hs:∀ i x σ H,xs[i]?=some x→Pv i σ H→g x σ H fun σ2 H2=>tb { D with nx:=Pv (i + 1),ct:=Pv (i + 1),bk:=D.nx } σ2 H2) (hd:∀ σ H,Pv xs.length σ H→D.nx σ H) :
   ∃ W:Nat→Nat→St→Hp→Prop,(∃ m,W 0 m σ H)∧∀ i m σ H,W i m σ H →
     ((Itt K a).stop i H∧D.nx σ H)∨((Itt K a).go i H∧∃ N:St→Hp→Prop,(∀ σ' H',N σ' H'→∃ m',m' < m∧W (i + 1) m' σ' H')∧∀ x H',(Itt K a).yld i H x H'→g x σ H' fun σ2 H2=>tb { D with nx:=N,ct:=N,bk:=D.nx } σ2 H2):=by
 refine ⟨fun i m σ H=>m=xs.length - i∧i≤xs.length∧Pv i σ H,⟨xs.length,by simp,Nat.zero_le _,h0⟩,?_⟩
 rintro i m σ H ⟨rfl,hi,p⟩
 have q:=hl i σ H hi p
 by_cases hlt:i < xs.length
 · refine .inr ⟨⟨xs,xs[i],q,by simp [hlt]⟩,Pv (i + 1),fun σ' H' p'=>⟨xs.length - (i + 1),by omega,rfl,hlt,p'⟩,fun x H' y=>?_⟩
   obtain ⟨e,y⟩:=y
   subst e
   exact hs i x σ _ (y xs q) p
 · have e:i=xs.length:=by omega
   subst e
   exact .inl ⟨⟨xs,q,Nat.le_refl _⟩,hd σ H p⟩
theorem vL {lo:Int} {n:Nat} {g:TG} {tb:TS} {D:Ends} {σ:St} {H:Hp} (Pv:Nat→St→Hp→Prop) (h0:Pv 0 σ H)
   (hs:∀ i σ H,i < n→Pv i σ H→g (.int (lo + i)) σ H fun σ2 H2=>tb { D with nx:=Pv (i + 1),ct:=Pv (i + 1),bk:=D.nx } σ2 H2) (hd:∀ σ H,Pv n σ H→D.nx σ H) :
   ∃ W:Nat→Nat→St→Hp→Prop,(∃ m,W 0 m σ H)∧∀ i m σ H,W i m σ H →
     ((Itr lo n).stop i H∧D.nx σ H)∨((Itr lo n).go i H∧∃ N:St→Hp→Prop,(∀ σ' H',N σ' H'→∃ m',m' < m∧W (i + 1) m' σ' H')∧∀ x H',(Itr lo n).yld i H x H'→g x σ H' fun σ2 H2=>tb { D with nx:=N,ct:=N,bk:=D.nx } σ2 H2):=by
 refine ⟨fun i m σ H=>m=n - i∧i≤n∧Pv i σ H,⟨n,by simp,Nat.zero_le _,h0⟩,?_⟩
 rintro i m σ H ⟨rfl,hi,p⟩
 by_cases hlt:i < n
 · refine .inr ⟨hlt,Pv (i + 1),fun σ' H' p'=>⟨n - (i + 1),by omega,rfl,hlt,p'⟩,fun x H' y=>?_⟩
   obtain ⟨e,y⟩:=y
   subst e y
   exact hs i σ _ hlt p
 · have e:i=n:=by omega
   subst e
   exact .inl ⟨Nat.le_refl _,hd σ H p⟩
end L2
namespace L2
open PySem PySem.Spec PyProof.Rows
abbrev R2:=V→V→Hp→VK→Prop
def OpR (X:Cx) (f:Value→Value→Sem Value) (r:R2):Prop :=
 ∀ (pins:List (Addr × Obj)) (s:Shared) (σ:St) (H:Hp) (x y:V) (v u:Value) (Q:VK),Inv X pins σ H s→RelV x v→RelV y u→r x y H Q →
   wpAny (model X.prog X.w) X.A (f v u) (EP X pins σ Q) X.xe s
def UnR (X:Cx) (f:Value→Sem Value) (r:V→Hp→VK→Prop):Prop :=
 ∀ (pins:List (Addr × Obj)) (s:Shared) (σ:St) (H:Hp) (x:V) (v:Value) (Q:VK),Inv X pins σ H s→RelV x v→r x H Q →
   wpAny (model X.prog X.w) X.A (f v) (EP X pins σ Q) X.xe s
def eB (X:Cx) (f:Value) (r:List V→Hp→VK→Prop):Prop :=
 ∀ (pins:List (Addr × Obj)) (s:Shared) (σ:St) (H:Hp) (xs:List V) (us:List Value) (Q:VK),Inv X pins σ H s→Vals xs us→r xs H Q →
   wpAny (model X.prog X.w) X.A (call f us) (EP X pins σ Q) X.xe s
def CF (X:Cx) (r:V→Hp→(Bool→Hp→Prop)→Prop):Prop :=
 ∀ (pins:List (Addr × Obj)) (s:Shared) (σ:St) (H:Hp) (x:V) (v:Value) (Q:Bool→Hp→Prop),Inv X pins σ H s→RelV x v→r x H Q →
   wpAny (model X.prog X.w) X.A (truthy v) (TP X pins σ Q) X.xe s
def tOp (r:R2) (ta tb:TE):TE:=fun σ H Q=>ta σ H fun x H1=>tb σ H1 fun y H2=>r x y H2 Q
def tUn (r:V→Hp→VK→Prop) (ta:TE):TE:=fun σ H Q=>ta σ H fun x H1=>r x H1 Q
def rI (C:Int→Int→Prop) (g:Int→Int→V):R2:=fun x y H Q=>∃ i j,x=.int i∧y=.int j∧C i j∧Q (g i j) H
def rI0 (g:Int→Int→V):R2:=fun x y H Q=>∃ i j,x=.int i∧y=.int j∧Q (g i j) H
def rU (g:Int→V):V→Hp→VK→Prop:=fun x H Q=>∃ i,x=.int i∧Q (g i) H
section
variable {X:Cx} {a b c:Expr} {ta tb tc:TE} {pos:Pos}
theorem wc (ha:PE X a ta) (hb:PE X b tb) {pins:List (Addr × Obj)} {s:Shared} {σ:St} {H:Hp} {R:V→V→Hp→Prop} (I:Inv X pins σ H s)
   (h:ta σ H fun x H1=>tb σ H1 fun y H2=>R x y H2) {Q:Value→Shared→Prop} {f:Value→Value→Sem Value}
   (hf:∀ v u s2 x y H2,Inv X pins σ H2 s2→RelV x v→RelV y u→R x y H2→wpAny (model X.prog X.w) X.A (f v u) Q X.xe s2) :
   wpAny (model X.prog X.w) X.A (eval a X.env) (fun v s₁=>wpAny (model X.prog X.w) X.A (eval b X.env) (fun u s₂=>wpAny (model X.prog X.w) X.A (f v u) Q X.xe s₂) X.xe s₁) X.xe s:=by
 refine bq (ha pins s σ H _ I h) fun v s1 x H1 I1 r1 q1=>?_
 refine bq (hb pins s1 σ H1 _ I1 q1) fun u s2 y H2 I2 r2 q2=>?_
 exact hf v u s2 x y H2 I2 r1 r2 q2
theorem ax {op:Operator} {r:R2} (ho:OpR X (binaryOp op) r) (ha:PE X a ta) (hb:PE X b tb):PE X (.BinOp a op b pos) (tOp r ta tb):=by
 intro pins s σ H Q I h
 exact wpAny_BinOp (wc ha hb I h fun v u s2 x y H2 I2 rx ry q=>ho pins s2 σ H2 x y v u Q I2 rx ry q)
theorem mK {op:UnaryOp} {r:V→Hp→VK→Prop} (ho:UnR X (unaryOp op) r) (ha:PE X a ta):PE X (.UnaryOp op a pos) (tUn r ta):=by
 intro pins s σ H Q I h
 exact UnaryOp_ (bq (ha pins s σ H _ I h) fun v s1 x H1 I1 r1 q1=>ho pins s1 σ H1 x v Q I1 r1 q1)
theorem opI {f:Value→Value→Sem Value} {C:Int→Int→Prop} {g:Int→Int→Int}
   (rule:∀ (i j:Int) (t u:Tok) (s:Shared) (Q:Value→Shared→Prop) (E:Value→Shared→Prop),C i j→Q (.int (g i j) s.toks) { s with toks:=s.toks + 1 }→wpAny (model X.prog X.w) X.A (f (.int i t) (.int j u)) Q E s) :
   OpR X f (rI C fun i j=>.int (g i j)):=by
 intro pins s σ H x y v u Q I rx ry h
 obtain ⟨i,j,rfl,rfl,hc,q⟩:=h
 obtain ⟨t,rfl⟩:=rx
 obtain ⟨t',rfl⟩:=ry
 exact rule i j t t' s _ _ hc ⟨.int (g i j),H,I.tok _,⟨_,rfl⟩,q⟩
theorem Ce {f:Value→Value→Sem Value} {g:Int→Int→Int}
   (rule:∀ (i j:Int) (t u:Tok) (s:Shared) (Q:Value→Shared→Prop) (E:Value→Shared→Prop),Q (.int (g i j) s.toks) { s with toks:=s.toks + 1 }→wpAny (model X.prog X.w) X.A (f (.int i t) (.int j u)) Q E s) :
   OpR X f (rI0 fun i j=>.int (g i j)):=by
 intro pins s σ H x y v u Q I rx ry h
 obtain ⟨i,j,rfl,rfl,q⟩:=h
 obtain ⟨t,rfl⟩:=rx
 obtain ⟨t',rfl⟩:=ry
 exact rule i j t t' s _ _ ⟨.int (g i j),H,I.tok _,⟨_,rfl⟩,q⟩
theorem sW {f:Value→Value→Sem Value} {g:Int→Int→Bool}
   (rule:∀ (i j:Int) (t u:Tok) (s:Shared) (Q:Value→Shared→Prop) (E:Value→Shared→Prop),Q (.bool (g i j)) s→wpAny (model X.prog X.w) X.A (f (.int i t) (.int j u)) Q E s) :
   OpR X f (rI0 fun i j=>.bl (g i j)):=by
 intro pins s σ H x y v u Q I rx ry h
 obtain ⟨i,j,rfl,rfl,q⟩:=h
 obtain ⟨t,rfl⟩:=rx
 obtain ⟨t',rfl⟩:=ry
 exact rule i j t t' s _ _ ⟨.bl (g i j),H,I,rfl,q⟩
def AV (i j:Int):Prop:=0 < j∧j < 1073741824
def BZ (i j:Int):Prop:=0≤j∧j≤1000000∧i.natAbs < 2 ^ 64
def CMul (i j:Int):Prop:=(-(2 ^ 64) < i∧i < 2 ^ 64)∨(-(2 ^ 64) < j∧j < 2 ^ 64)
theorem CMul.ok {i j:Int} (h:CMul i j):IntMulOk i j:=by
 rcases h with ⟨h1,h2⟩ | ⟨h1,h2⟩
 · exact .of_left (intBits_le_64 h1 h2)
 · exact .of_right (intBits_le_64 h1 h2)
theorem gP:OpR X (binaryOp .Add) (rI0 fun i j=>.int (i + j)):=Ce fun _ _ _ _ _ _ _ q=>add_int q
theorem j6:OpR X (binaryOp .Sub) (rI0 fun i j=>.int (i - j)):=Ce fun _ _ _ _ _ _ _ q=>sub_int q
theorem fX:OpR X (binaryOp .Mult) (rI CMul fun i j=>.int (i * j)):=opI fun _ _ _ _ _ _ _ hc q=>mul_int q hc.ok
theorem c7:OpR X (binaryOp .FloorDiv) (rI AV fun i j=>.int (i / j)):=opI fun i j _ _ _ _ _ hc q=>by
 have h1:(0:Int) < j:=hc.1
 have h2:j < 1073741824:=hc.2
 exact floordiv_int (by omega) (by rw [Int.fdiv_eq_ediv_of_nonneg i (by omega)]; exact q) (.inl (PyProof.noPylong_small (by omega)))
theorem b8:OpR X (binaryOp .Mod) (rI (fun _ j=>0 < j) fun i j=>.int (i % j)):=opI fun i j _ _ _ _ _ hc q=>by
 have h1:(0:Int) < j:=hc
 exact mod_int' (by omega) (by rw [Int.fmod_eq_emod_of_nonneg i (by omega)]; exact q)
theorem AK:OpR X (binaryOp .Mod) (rI (fun _ j=>j≠0) fun i j=>.int (i.fmod j)):=opI fun _ _ _ _ _ _ _ hc q=>mod_int' hc q
theorem f6:OpR X (binaryOp .Pow) (rI BZ fun i j=>.int (i ^ j.toNat)):=opI fun _ _ _ _ _ _ _ hc q=>pow_int_small hc.1 hc.2.1 hc.2.2 q
theorem unI {f:Value→Sem Value} {g:Int→Int}
   (rule:∀ (i:Int) (t:Tok) (s:Shared) (Q:Value→Shared→Prop) (E:Value→Shared→Prop),Q (.int (g i) s.toks) { s with toks:=s.toks + 1 }→wpAny (model X.prog X.w) X.A (f (.int i t)) Q E s) :
   UnR X f (rU fun i=>.int (g i)):=by
 intro pins s σ H x v Q I rx h
 obtain ⟨i,rfl,q⟩:=h
 obtain ⟨t,rfl⟩:=rx
 exact rule i t s _ _ ⟨.int (g i),H,I.tok _,⟨_,rfl⟩,q⟩
theorem jR:UnR X (unaryOp .USub) (rU fun i=>.int (-i)):=unI fun _ _ _ _ _ q=>neg_int q
end
def iQ:V→V→Bool
 | .non,.non=>true | .non,.int _=>true | .int _,.non=>true | .non,.bl _=>true | .bl _,.non=>true | .non,.str _=>true | .str _,.non=>true
 | .int _,.int _=>true | .bl _,.bl _=>true | .str _,.str _=>true | .byt _,.byt _=>true
 | .int _,.str _=>true | .str _,.int _=>true | .bl _,.str _=>true | .str _,.bl _=>true
 | _,_=>false
def rEq:R2:=fun x y H Q=>iQ x y=true∧Q (.bl (decide (x=y))) H
def rNe:R2:=fun x y H Q=>iQ x y=true∧Q (.bl (!decide (x=y))) H
theorem sk {i j:Int}:decide (V.int i=V.int j)=(i == j):=by
 rw [Bool.eq_iff_iff]
 simp
theorem uO {i j:Bool}:decide (V.bl i=V.bl j)=(i == j):=by
 rw [Bool.eq_iff_iff]
 simp
theorem sg {i j:Str}:decide (V.str i=V.str j)=(i == j):=by
 rw [Bool.eq_iff_iff]
 simp
theorem rX {i j:Array UInt8}:decide (V.byt i=V.byt j)=(i.toList == j.toList):=by
 rw [Bool.eq_iff_iff]
 cases i
 cases j
 simp
section
variable {X:Cx} {a b c:Expr} {ta tb tc:TE} {pos:Pos}
theorem bg {pins:List (Addr × Obj)} {σ:St} {H:Hp} {s:Shared} {Q:VK} {k k':Bool} (I:Inv X pins σ H s) (q:Q (.bl k) H) (e:k=k'):EP X pins σ Q (.bool k') s:=by
 subst e
 exact ⟨.bl k,H,I,rfl,q⟩
theorem dW:OpR X (compareOp .Eq) rEq:=by
 intro pins s σ H x y v u Q I rx ry h
 obtain ⟨hs,q⟩:=h
 cases x with
 | non =>
   cases rx
   cases y with
   | non=>cases ry; exact PySem.EqNone.eq_none_none (bg I q (by simp))
   | bl j=>cases ry; exact PySem.EqNone.eq_none_bool (bg I q (by simp))
   | int j=>obtain ⟨t',rfl⟩:=ry; exact PySem.EqNone.eq_none_int (bg I q (by simp))
   | str j=>obtain ⟨t',rfl⟩:=ry; exact PySem.EqNone.eq_none_str (bg I q (by simp))
   | _=>exact absurd (show false=true from hs) Bool.false_ne_true
 | bl i =>
   cases rx
   cases y with
   | non=>cases ry; exact PySem.EqNone.eq_bool_none (bg I q (by simp))
   | bl j=>cases ry; exact eq_bool (bg I q uO)
   | str j=>obtain ⟨t',rfl⟩:=ry; exact PySem.EqMixed.eq_bool_str (bg I q (by simp))
   | _=>exact absurd (show false=true from hs) Bool.false_ne_true
 | int i =>
   obtain ⟨t,rfl⟩:=rx
   cases y with
   | non=>cases ry; exact PySem.EqNone.eq_int_none (bg I q (by simp))
   | int j=>obtain ⟨t',rfl⟩:=ry; exact eq_int (bg I q sk)
   | str j=>obtain ⟨t',rfl⟩:=ry; exact PySem.EqMixed.eq_int_str (bg I q (by simp))
   | _=>exact absurd (show false=true from hs) Bool.false_ne_true
 | str i =>
   obtain ⟨t,rfl⟩:=rx
   cases y with
   | non=>cases ry; exact PySem.EqNone.eq_str_none (bg I q (by simp))
   | bl j=>cases ry; exact PySem.EqMixed.eq_str_bool (bg I q (by simp))
   | int j=>obtain ⟨t',rfl⟩:=ry; exact PySem.EqMixed.eq_str_int (bg I q (by simp))
   | str j=>obtain ⟨t',rfl⟩:=ry; exact eq_str (bg I q sg)
   | _=>exact absurd (show false=true from hs) Bool.false_ne_true
 | byt i =>
   obtain ⟨t,rfl⟩:=rx
   cases y with
   | byt j=>obtain ⟨t',rfl⟩:=ry; exact PySem.W.eq_bytes (bg I q rX)
   | _=>exact absurd (show false=true from hs) Bool.false_ne_true
 | _=>cases y <;> exact absurd (show false=true from hs) Bool.false_ne_true
theorem me:OpR X (compareOp .NotEq) rNe:=by
 intro pins s σ H x y v u Q I rx ry h
 obtain ⟨hs,q⟩:=h
 cases x with
 | non =>
   cases rx
   cases y with
   | non=>cases ry; exact PySem.EqNone.ne_none_none (bg I q (by simp))
   | bl j=>cases ry; exact PySem.EqNone.ne_none_bool (bg I q (by simp))
   | int j=>obtain ⟨t',rfl⟩:=ry; exact PySem.EqNone.ne_none_int (bg I q (by simp))
   | str j=>obtain ⟨t',rfl⟩:=ry; exact PySem.EqNone.ne_none_str (bg I q (by simp))
   | _=>exact absurd (show false=true from hs) Bool.false_ne_true
 | bl i =>
   cases rx
   cases y with
   | non=>cases ry; exact PySem.EqNone.ne_bool_none (bg I q (by simp))
   | bl j=>cases ry; exact ne_bool (bg I q (congrArg not uO))
   | str j=>obtain ⟨t',rfl⟩:=ry; exact PySem.EqMixed.ne_bool_str (bg I q (by simp))
   | _=>exact absurd (show false=true from hs) Bool.false_ne_true
 | int i =>
   obtain ⟨t,rfl⟩:=rx
   cases y with
   | non=>cases ry; exact PySem.EqNone.ne_int_none (bg I q (by simp))
   | int j=>obtain ⟨t',rfl⟩:=ry; exact ne_int (bg I q (congrArg not sk))
   | str j=>obtain ⟨t',rfl⟩:=ry; exact PySem.EqMixed.ne_int_str (bg I q (by simp))
   | _=>exact absurd (show false=true from hs) Bool.false_ne_true
 | str i =>
   obtain ⟨t,rfl⟩:=rx
   cases y with
   | non=>cases ry; exact PySem.EqNone.ne_str_none (bg I q (by simp))
   | bl j=>cases ry; exact PySem.EqMixed.ne_str_bool (bg I q (by simp))
   | int j=>obtain ⟨t',rfl⟩:=ry; exact PySem.EqMixed.ne_str_int (bg I q (by simp))
   | str j=>obtain ⟨t',rfl⟩:=ry; exact ne_str (bg I q (congrArg not sg))
   | _=>exact absurd (show false=true from hs) Bool.false_ne_true
 | byt i =>
   obtain ⟨t,rfl⟩:=rx
   cases y with
   | byt j=>obtain ⟨t',rfl⟩:=ry; exact PySem.W.ne_bytes (bg I q (congrArg not rX))
   | _=>exact absurd (show false=true from hs) Bool.false_ne_true
 | _=>cases y <;> exact absurd (show false=true from hs) Bool.false_ne_true
theorem pj:OpR X (compareOp .Lt) (rI0 fun i j=>.bl (decide (i < j))):=sW fun _ _ _ _ _ _ _ q=>lt_int q
theorem ml:OpR X (compareOp .LtE) (rI0 fun i j=>.bl (decide (i≤j))):=sW fun _ _ _ _ _ _ _ q=>le_int q
theorem tY:OpR X (compareOp .Gt) (rI0 fun i j=>.bl (decide (j < i))):=sW fun _ _ _ _ _ _ _ q=>gt_int q
theorem sx:OpR X (compareOp .GtE) (rI0 fun i j=>.bl (decide (j≤i))):=sW fun _ _ _ _ _ _ _ q=>ge_int q
theorem bB (b:Expr) {op:CmpOp} (h:op≠.In:=by decide) (h2:op≠.NotIn:=by decide):behindInMarks op b=false:=by
 have e1:(op == CmpOp.In)=false:=by cases op <;> first | rfl | exact absurd rfl h
 have e2:(op == CmpOp.NotIn)=false:=by cases op <;> first | rfl | exact absurd rfl h2
 cases b <;> simp [behindInMarks,e1,e2]
theorem fM {op:CmpOp} {r:R2} (ho:OpR X (compareOp op) r) (ha:PE X a ta) (hb:PE X b tb) (hm:behindInMarks op b=false):PE X (.Compare a [op] [b] pos) (tOp r ta tb):=by
 intro pins s σ H Q I h
 exact wpAny_Compare1 (wc ha hb I h fun v u s2 x y H2 I2 rx ry q=>ho pins s2 σ H2 x y v u Q I2 rx ry q) hm
def ph (t:TE):TT:=fun σ H Q=>t σ H fun x H'=>∃ k,x=.bl k∧Q k H'
theorem bG {op:CmpOp} {r:R2} (ho:OpR X (compareOp op) r) (ha:PE X a ta) (hb:PE X b tb) (hm:behindInMarks op b=false):PT X (.Compare a [op] [b] pos) (ph (tOp r ta tb)):=by
 intro pins s σ H Q I h
 refine wpAny_isTrue_Compare1 (bq (ha pins s σ H _ I h) fun v s1 x H1 I1 r1 q1=>bq (hb pins s1 σ H1 _ I1 q1) fun u s2 y H2 I2 r2 q2 =>
   bq (ho pins s2 σ H2 x y v u _ I2 r1 r2 q2) fun c s3 z H3 I3 r3 ⟨k,e,q3⟩=>?_) hm
 subst e
 cases r3
 exact wpAny_truthy_bool ⟨H3,I3,q3⟩
def lZ (r r':R2) (ta tb tc:TE):TE:=fun σ H Q=>ta σ H fun x H1=>tb σ H1 fun y H2=>r x y H2 fun z H3=>∃ k,z=.bl k ∧
 (if k=true then tc σ H3 fun w' H4=>r' y w' H4 Q else Q (.bl false) H3)
theorem xR {op op':CmpOp} {r r':R2} (ho:OpR X (compareOp op) r) (ho':OpR X (compareOp op') r') (ha:PE X a ta) (hb:PE X b tb) (hc:PE X c tc)
   (hm:lastMarks [op,op'] [b,c]=false:=by with_unfolding_all rfl):PE X (.Compare a [op,op'] [b,c] pos) (lZ r r' ta tb tc):=by
 intro pins s σ H Q I h
 refine Compare_chain (bq (ha pins s σ H _ I h) fun v s1 x H1 I1 r1 q1=>chain_link (bq (hb pins s1 σ H1 _ I1 q1) fun u s2 y H2 I2 r2 q2 =>
   bq (ho pins s2 σ H2 x y v u _ I2 r1 r2 q2) fun d s3 z H3 I3 r3 ⟨k,e,q3⟩=>?_)) hm
 subst e
 cases r3
 refine wpAny_truthy_bool ?_
 cases k with
 | false=>exact ite_ff ⟨.bl false,H3,I3,rfl,q3⟩
 | true=>exact ite_tt (chain_last (thn (hc pins s3 σ H3 _ I3 q3) fun w' s4 ⟨z',H4,I4,r4,q4⟩=>ho' pins s4 σ H4 y z' u w' Q I4 r2 r4 q4))
theorem qP {op op':CmpOp} {r r':R2} (ho:OpR X (compareOp op) r) (ho':OpR X (compareOp op') r') (ha:PE X a ta) (hb:PE X b tb) (hc:PE X c tc)
   (hm:lastMarks [op,op'] [b,c]=false:=by with_unfolding_all rfl):PT X (.Compare a [op,op'] [b,c] pos) (ph (lZ r r' ta tb tc)):=by
 intro pins s σ H Q I h
 refine isTrue_chain (bq (ha pins s σ H _ I h) fun v s1 x H1 I1 r1 q1=>test_link (bq (hb pins s1 σ H1 _ I1 q1) fun u s2 y H2 I2 r2 q2 =>
   bq (ho pins s2 σ H2 x y v u _ I2 r1 r2 q2) fun d s3 z H3 I3 r3 ⟨k,e,q3⟩=>?_)) hm
 subst e
 cases r3
 refine wpAny_truthy_bool ?_
 cases k with
 | false =>
   obtain ⟨k',e',q'⟩:=q3
   cases e'
   exact ite_ff ⟨H3,I3,q'⟩
 | true =>
   refine ite_tt (test_last (thn (hc pins s3 σ H3 _ I3 q3) fun w' s4 ⟨z',H4,I4,r4,q4⟩=>thn (ho' pins s4 σ H4 y z' u w' _ I4 r2 r4 q4) fun d' s5 ⟨z2,H5,I5,r5,k2,e2,q5⟩=>?_))
   subst e2
   cases r5
   exact wpAny_truthy_bool ⟨H5,I5,q5⟩
def AN (K:PySem.W.Frag) (x:V) (H:Hp) (k:Bool):Prop :=
 match x with
 | .non=>k=false
 | .bl b=>k=b
 | .int i=>k=(i != 0)
 | .str y=>y.length≤sizeLine∧k=((y.length:Int) != 0)
 | .byt y=>y.size≤sizeLine∧k=((y.size:Int) != 0)
 | .ref p=>(∃ xs,SqL K H p xs∧k=!xs.isEmpty)∨(∃ xs,SqT K H p xs∧k=!xs.isEmpty)∨∃ kvs,H p=some (.dK kvs)∧k=!kvs.isEmpty
 | _=>False
theorem sT {κ:Type} {kvs:List (κ × V)} {vs:List (κ × Value)} (r:KV kvs vs):(!vs.isEmpty)=!kvs.isEmpty:=by
 cases r <;> rfl
theorem mw {xs:List V} {its:List Value} (r:Vals xs its):(!its.toArray.isEmpty)=!xs.isEmpty:=by
 cases r <;> simp
theorem gG:(sizeLine:Nat) < 2 ^ 63:=by rw [sizeLine_eq]; decide
theorem B8:CF X (fun x H Q=>∃ k,AN X.K x H k∧Q k H):=by
 intro pins s σ H x v Q I rx h
 obtain ⟨k,e,q⟩:=h
 have hl:=gG
 have hs:sizeLine=16777216:=sizeLine_eq
 cases x with
 | non =>
   cases rx
   have e':k=false:=e
   subst e'
   exact truthy_none ⟨H,I,q⟩
 | bl b =>
   cases rx
   have e':k=b:=e
   subst e'
   exact wpAny_truthy_bool ⟨H,I,q⟩
 | int i =>
   obtain ⟨t,rfl⟩:=rx
   have e':k=(i != 0):=e
   subst e'
   exact PySem.P.truthy_int ⟨H,I,q⟩
 | str y =>
   obtain ⟨t,rfl⟩:=rx
   obtain ⟨hy,e'⟩:y.length≤sizeLine∧k=((y.length:Int) != 0):=e
   subst e'
   exact PySem.P.truthy_str (by omega) ⟨H,I.tok _,q⟩
 | byt y =>
   obtain ⟨t,rfl⟩:=rx
   obtain ⟨hy,e'⟩:y.size≤sizeLine∧k=((y.size:Int) != 0):=e
   subst e'
   exact PySem.W.truthy_bytes (by omega) ⟨H,I.tok _,q⟩
 | ref p =>
   cases rx
   have e':(∃ xs,SqL X.K H p xs∧k=!xs.isEmpty)∨(∃ xs,SqT X.K H p xs∧k=!xs.isEmpty)∨∃ kvs,H p=some (.dK kvs)∧k=!kvs.isEmpty:=e
   rcases e' with ⟨xs,hx,e'⟩ | ⟨xs,hx,e'⟩ | ⟨kvs,hx,e'⟩
   · subst e'
     obtain ⟨its,r,pl,hz⟩:=I.list hx
     have hlen:=r.length
     exact wpAny_truthy_list pl.isList (by simp only [List.size_toArray]; omega) ⟨H,I.tok _,by rw [mw r]; exact q⟩
   · subst e'
     obtain ⟨its,r,pl,hz⟩:=I.tuple hx
     have hlen:=r.length
     exact truthy_tuple pl (by simp only [List.size_toArray]; omega) ⟨H,I.tok _,by rw [mw r]; exact q⟩
   · subst e'
     obtain ⟨hz,hS,vs,r,m⟩:kvs.length≤sizeLine∧(p == sysModules)=false∧∃ vs,KV kvs vs∧s.heap.DictOf (cw X.prog X.w) p vs:=I.hok p _ hx
     have hlen:kvs.length=vs.length:=Paired.length r
     exact wpAny_truthy_dict hS m (by omega) ⟨H,I.tok _,by rw [sT r]; exact q⟩
 | _=>exact (show False from e).elim
theorem iX (ha:PE X a ta) (he:∀ whole,isTrue a X.env whole=(do let v ← whole; standAt a.pos; holding [v] (truthy v))) :
   PT X a (fun σ H Q=>ta σ H fun x H'=>∃ k,AN X.K x H' k∧Q k H'):=by
 intro pins s σ H Q I h
 exact isTrue_plain (bq (ha pins s σ H _ I h) fun v s1 x H1 I1 r1 q1=>B8 pins s1 σ H1 x v Q I1 r1 q1) (he _)
theorem gz {x:V} {us:List Value} (r:Vals [x] us):∃ u,us=[u]∧RelV x u:=by
 cases r with
 | cons r1 r2=>cases r2; exact ⟨_,rfl,r1⟩
theorem Cm {x y:V} {us:List Value} (r:Vals [x,y] us):∃ u w',us=[u,w']∧RelV x u∧RelV y w':=by
 cases r with
 | cons r1 r2 =>
   cases r2 with
   | cons r3 r4=>cases r4; exact ⟨_,_,rfl,r1,r3⟩
theorem xY:eB X (.builtin "abs") (fun xs H Q=>∃ i,xs=[.int i]∧Q (.int (if i < 0 then -i else i)) H):=by
 intro pins s σ H xs us Q I r h
 obtain ⟨i,rfl,q⟩:=h
 obtain ⟨u,rfl,t,rfl⟩:=gz r
 exact call_abs_int fun u tk=>⟨.int (if i < 0 then -i else i),H,I.tok _,⟨_,rfl⟩,q⟩
end
end L2
namespace L2
open PySem PySem.Spec PyProof.Rows
structure ObjM (h:Heap) (x dx C:Addr) (mA:Str→Option Value):Prop where
 obj:h.get? x=some (PySem.W.instObj C dx)
 ns:h.Ns1 dx mA
 ne:dx≠x
theorem u9 {h:Heap} {dx:Addr} {mA:Str→Option Value} (n:h.Ns1 dx mA):∃ od,h.get? dx=some od∧∀ name,PySem.W.lookIn name od=some (mA name):=by
 obtain ⟨o,es,ep,ho,hd,hk,_,hm⟩:=n
 refine ⟨o,ho,fun name=>?_⟩
 have e:=hm name
 unfold nsFind findBy at e
 rw [← Array.find?_toList] at e
 unfold PySem.W.lookIn
 rw [hd]
 dsimp only
 split
 · rename_i y q
   rw [q] at e
   exact congrArg some e
 · rename_i q
   rw [q] at e
   have a:es.toList.any (·.refKey)=false:=by
     rw [List.any_eq_false]
     intro y hy
     obtain ⟨z,t,hkey⟩:=hk y (Array.mem_toList_iff.mp hy)
     simp [DictEntry.refKey,hkey]
   have a':¬ es.toList.any (·.refKey)=true:=by rw [a]; exact Bool.false_ne_true
   rw [if_neg a']
   exact congrArg some e
theorem ObjM.look {h:Heap} {x dx C:Addr} {mA:Str→Option Value} (I:ObjM h x dx C mA):∃ od,PySem.W.InstAt h x (PySem.W.instObj C dx) C (some od)∧∀ name,PySem.W.lookIn name od=some (mA name) :=
 let ⟨od,ho,hl⟩:=u9 I.ns
 ⟨od,⟨I.obj,rfl,rfl,ho⟩,hl⟩
section
variable {prog:Program} {w:World} {A:Around} {E:Value→Shared→Prop} {s:Shared} {K:PySem.W.Frag} {x dx C f:Addr} {mA:Str→Option Value} {name:Str} {v:Value}
theorem zV {expr:Bool} {Q:Value→Shared→Prop} (X:K.In s.heap) (I:ObjM s.heap x dx C mA) (hg:PySem.W.plainGet K C name=true) (hh:PySem.W.hasDictIn K C=true)
   (ha:PySem.W.findIn K (.ref C) name=some none) (hv:mA name=some v) (hv':PySem.W.handedIn v=true) (h:Q v { s with toks:=s.toks + 1 }) :
   wpAny (model prog w) A (getAttr (.ref x) name expr) Q E s:=by
 obtain ⟨od,J,hl⟩:=I.look
 exact PySem.W.get_value X J (PySem.W.plainGet_of hg).1 (PySem.W.findObj_own hh ha rfl (by rw [hl,hv])) hv' h
theorem AJ {ns:List Str} {Q:Unit→Shared→Prop} (X:K.In s.heap) (I:ObjM s.heap x dx C mA)
   (hs:PySem.W.findIn K (.ref C) "__setattr__"=some (some (.builtin "object.__setattr__"))) (hp:PySem.W.plainOver K C=true) (ht:PySem.W.takerIn K C name=some none) (hh:PySem.W.hasDictIn K C=true)
   (hw:PySem.Within mA ns) (hsz:ns.length≤sizeLine)
   (h:∀ h',ObjM h' x dx C (fun y=>if y=name then some v else mA y)→Heap.SameBut dx s.heap h'→Q () { s with heap:=h',toks:=s.toks + 2 }) :
   wpAny (model prog w) A (setAttr (.ref x) name v) Q E s:=by
 obtain ⟨od,J,hl⟩:=I.look
 refine PySem.W.set_plain X J hs (PySem.W.osa_open (s:={ s with toks:=s.toks + 1 }) (r:=none) X J hp ht fun b=>?_)
 obtain ⟨cd,hc,hd'⟩:=PySem.W.any_some hh
 have hx:s.heap.get? x=some ⟨.ref C,some dx,.plain,#[]⟩:=I.obj
 refine wpAny_bind (wpAny_pure (wpAny_bind (wpAny_bind (wpAny_loadPart hx (wpAny_bind (PySem.W.Looks.here (s:={ s with toks:=s.toks + 1 }) (PySem.W.looks_clsIn X hc) ?_))))))
 rw [hd']
 refine wpAny_pure (a:=some dx) (wpAny_bind (wpAny_pure (wpAny_bind ?_)))
 refine wpAny_nsSet1 (s:={ s with toks:=s.toks + 1 }) I.ns fun h' hn2 hs2=>?_
 obtain ⟨oD,esD,epD,hoD,hdD,hcD⟩:=hn2.count (PySem.Within.cons name v hw)
 refine wpAny_bind (wpAny_lookBehind hoD (by rw [hdD]; exact pastItsLine_dict (Nat.le_trans hcD (by rw [List.length_cons]; omega))) ?_)
 exact wpAny_pure (h _ ⟨(hs2.2 _ (Ne.symm I.ne)).trans I.obj,hn2,I.ne⟩ hs2)
theorem wk {R:Result→Shared→Prop} {vs:List Value} {kw:List (Str × Value)} (X:K.In s.heap) (hm:PySem.W.makesIn K C=true)
   (hi:PySem.W.findIn K (.ref C) "__init__"=some (some (.ref f))) (hf:PySem.W.typeIn K (.ref f)=some (.type "function"))
   (h:codeAny (model prog w) (A.under (.builtin "type.__call__" ⟨.ref C :: vs,kw⟩)) (.call (.ref f) ⟨.ref (s.heap.objs.size + 1) :: vs,kw⟩) (PySem.W.InitBack (s.heap.objs.size + 1) R)
     { s with heap:=(s.heap.push PySem.W.emptyDict).push (PySem.W.instObj C s.heap.objs.size) }) :
   codeAny (model prog w) A (.call (.ref C) ⟨vs,kw⟩) R s:=by
 obtain ⟨hh,g,d,t,os⟩:=s
 exact PySem.W.make_core (PySem.W.makes_of X hm) (PySem.W.looks_findIn X hi) (fun self=>PySem.W.bind_fn X self hf) (.inl rfl) h
end
def dU (f:Str) (v:V):List (Str × V)→List (Str × V)
 | []=>[(f,v)]
 | (g,x) :: r=>if g=f then (g,v) :: r else (g,x) :: dU f v r
theorem eA (f g:Str) (v:V):∀ fs:List (Str × V),(dU f v fs).lookup g=if g=f then some v else fs.lookup g
 | []=>by
   show List.lookup g [(f,v)]=_
   by_cases h:g=f
   · have hb:(g == f)=true:=beq_iff_eq.mpr h
     simp only [List.lookup,hb,if_pos h]
   · have hb:(g == f)=false:=beq_eq_false_iff_ne.mpr h
     simp only [List.lookup,hb,if_neg h]
 | (k,x) :: r=>by
   have ih:=eA f g v r
   rw [show dU f v ((k,x) :: r)=(if k=f then (k,v) :: r else (k,x) :: dU f v r) from rfl]
   by_cases hk:k=f
   · rw [if_pos hk]
     by_cases h:g=k
     · have hb:(g == k)=true:=beq_iff_eq.mpr h
       simp only [List.lookup,hb,if_pos (h.trans hk)]
     · have hb:(g == k)=false:=beq_eq_false_iff_ne.mpr h
       simp only [List.lookup,hb,if_neg (fun e:g=f=>h (e.trans hk.symm))]
   · rw [if_neg hk]
     by_cases h:g=k
     · have hb:(g == k)=true:=beq_iff_eq.mpr h
       simp only [List.lookup,hb,if_neg (fun e:g=f=>hk (h.symm.trans e))]
     · have hb:(g == k)=false:=beq_eq_false_iff_ne.mpr h
       simp only [List.lookup,hb]
       exact ih
theorem jT (f:Str) (v:V):∀ fs:List (Str × V),f∈(dU f v fs).map (·.1)∧∀ g,g∈fs.map (·.1)→g∈(dU f v fs).map (·.1)
 | []=>⟨by simp [dU],fun g h=>by simp at h⟩
 | (k,x) :: r=>by
   obtain ⟨i1,i2⟩:=jT f v r
   rw [show dU f v ((k,x) :: r)=(if k=f then (k,v) :: r else (k,x) :: dU f v r) from rfl]
   by_cases hk:k=f
   · rw [if_pos hk]
     subst hk
     exact ⟨by simp,fun g h=>by simpa using h⟩
   · rw [if_neg hk]
     refine ⟨?_,fun g h=>?_⟩
     · rw [List.map_cons]
       exact List.mem_cons_of_mem _ i1
     · rw [List.map_cons] at h ⊢
       rcases List.mem_cons.mp h with e | e
       · exact List.mem_cons.mpr (.inl e)
       · exact List.mem_cons_of_mem _ (i2 g e)
theorem kH (f:Str) (v:V):∀ fs:List (Str × V),(dU f v fs).length≤fs.length + 1
 | []=>by simp [dU]
 | (k,x) :: r=>by
   have ih:=kH f v r
   rw [show dU f v ((k,x) :: r)=(if k=f then (k,v) :: r else (k,x) :: dU f v r) from rfl]
   by_cases hk:k=f
   · rw [if_pos hk,List.length_cons,List.length_cons]; omega
   · rw [if_neg hk,List.length_cons,List.length_cons]; omega
theorem RelO.some_of {v:V} {o:Option Value} (r:RelO (some v) o):∃ u,o=some u∧RelV v u:=by
 cases o with
 | none=>exact (show False from r).elim
 | some u=>exact ⟨u,rfl,r⟩
theorem uK {v:V} {u:Value} (r:RelV v u):PySem.W.handedIn u=true:=by
 cases v with
 | non=>cases (show u=Value.none from r); rfl
 | bl b=>cases (show u=Value.bool b from r); rfl
 | int i=>obtain ⟨t,e⟩:=(show ∃ t,u=Value.int i t from r); cases e; rfl
 | str x=>obtain ⟨t,e⟩:=(show ∃ t,u=Value.str x t from r); cases e; rfl
 | byt b=>obtain ⟨t,e⟩:=(show ∃ t,u=Value.bytes b t from r); cases e; rfl
 | flt b=>obtain ⟨t,e⟩:=(show ∃ t,u=Value.float b t from r); cases e; rfl
 | ref a=>cases (show u=Value.ref a from r); rfl
 | ty n=>cases (show u=Value.type n from r); rfl
section
variable {P:Program} {w:World} {H H':Hp} {h h':Heap} {a C dx:Addr} {fs fs':List (Str × V)}
theorem rO (hok:HOk P w H h) (e:H a=some (.ins C dx fs)):∃ mA,ObjM h a dx C mA∧(∀ f,RelO (fs.lookup f) (mA f))∧PySem.Within mA (fs.map (·.1))∧fs.length≤1000∧H dx=some (.own a):=by
 obtain ⟨d,z,ne,ob,mA,n,r,q⟩:=(show ObjOk P w H h a (.ins C dx fs) from hok a _ e)
 exact ⟨mA,⟨ob,n,ne⟩,r,q,z,d⟩
end
structure Cls (K:PySem.W.Frag) (C:Addr):Prop where
 pg:PySem.W.plainGet K C Str.empty=true
 hd:PySem.W.hasDictIn K C=true
 po:PySem.W.plainOver K C=true
 sa:PySem.W.findIn K (.ref C) "__setattr__"=some (some (.builtin "object.__setattr__"))
theorem Cls.get {K:PySem.W.Frag} {C:Addr} (c:Cls K C) (f:Str):PySem.W.plainGet K C f=true:=c.pg
def NoAttr (K:PySem.W.Frag) (C:Addr) (f:Str):Prop:=PySem.W.findIn K (.ref C) f=some none
theorem NoAttr.taker {K:PySem.W.Frag} {C:Addr} {f:Str} (n:NoAttr K C f):PySem.W.takerIn K C f=some none:=by
 unfold PySem.W.takerIn
 rw [show PySem.W.findIn K (.ref C) f=some none from n]
 rfl
section
variable {X:Cx} {pins:List (Addr × Obj)} {σ:St} {H:Hp} {s:Shared} {a C dx:Addr} {fs:List (Str × V)} {f:Str} {v:V} {A:Around} {E:Value→Shared→Prop}
theorem sN {b:Bool} {Q:Value→Shared→Prop} (I:Inv X pins σ H s) (e:H a=some (.ins C dx fs)) (c:Cls X.K C) (n:NoAttr X.K C f) (l:fs.lookup f=some v)
   (h:∀ u s',Inv X pins σ H s'→RelV v u→Q u s'):wpAny (model X.prog X.w) A (getAttr (.ref a) f b) Q E s:=by
 obtain ⟨mA,O,r,_,_,_⟩:=rO I.hok e
 obtain ⟨u,hu,ru⟩:=RelO.some_of (v:=v) (o:=mA f) (by rw [← l]; exact r f)
 exact zV I.kIn O (c.get f) c.hd n hu (uK ru) (h u _ (I.tok _) ru)
theorem tZ {y:V} {u:Value} {Q:Unit→Shared→Prop} (I:Inv X pins σ H s) (e:H a=some (.ins C dx fs)) (c:Cls X.K C) (n:NoAttr X.K C f) (hl:fs.length < 1000) (ry:RelV y u)
   (h:∀ s',Inv X pins σ (upd H a (.ins C dx (dU f y fs))) s'→Q () s'):wpAny (model X.prog X.w) A (setAttr (.ref a) f u) Q E s:=by
 obtain ⟨mA,O,r,wi,_,ho⟩:=rO I.hok e
 have hz:(fs.map (·.1)).length≤sizeLine:=by rw [List.length_map,sizeLine_eq]; omega
 refine AJ I.kIn O c.sa c.po n.taker c.hd wi hz fun h' O' sb=>h _ ?_
 have hd:∃ o,h'.get? dx=some o:=let ⟨o,_,_,e',_⟩:=O'.ns; ⟨o,e'⟩
 refine I.write (x:=a) (e:=dx) (by rw [e]; exact True.intro) (.inr ho) (fun b q hb z=>(sb.2 b hb).trans z) hd ?_
 refine ⟨by rw [aq O.ne]; exact ho,?_,O.ne,O'.obj,_,O'.ns,fun g=>?_,fun g hg=>?_⟩
 · have:=kH f y fs; omega
 · show RelO ((dU f y fs).lookup g) (if g=f then some u else mA g)
   rw [eA]
   by_cases q:g=f
   · rw [if_pos q,if_pos q]; exact ry
   · rw [if_neg q,if_neg q]; exact r g
 · by_cases q:g=f
   · rw [q]; exact (jT f y fs).1
   · refine (jT f y fs).2 g (wi g fun z=>hg ?_)
     show (if g=f then some u else mA g)=none
     rw [if_neg q]; exact z
theorem Inv.made (I:Inv X pins σ H s):Inv X pins σ (upd (upd H s.heap.objs.size (.own (s.heap.objs.size + 1))) (s.heap.objs.size + 1) (.ins C s.heap.objs.size []))
   { s with heap:=(s.heap.push PySem.W.emptyDict).push (PySem.W.instObj C s.heap.objs.size) }:=by
 have e1:(s.heap.push PySem.W.emptyDict).get? s.heap.objs.size=some PySem.W.emptyDict:=Heap.get?_push_size s.heap rfl
 have e2:((s.heap.push PySem.W.emptyDict).push (PySem.W.instObj C s.heap.objs.size)).get? (s.heap.objs.size + 1)=some (PySem.W.instObj C s.heap.objs.size):=by
   have:=Heap.get?_push_size (s.heap.push PySem.W.emptyDict) (o:=PySem.W.instObj C s.heap.objs.size) rfl
   rwa [Heap.size_push] at this
 have e3:(s.heap.push PySem.W.emptyDict).Ns s.heap.objs.size (fun _=>none):=⟨PySem.W.emptyDict,#[],_,e1,rfl,(fun e he=>absurd he (by simp)),fun _=>rfl⟩
 have I1:=I.laid (a:=s.heap.objs.size) (o:=.own (s.heap.objs.size + 1)) (h':=s.heap.push PySem.W.emptyDict) (t':=s.toks) (fun b u q=>Heap.get?_push_of_some _ q) (Nat.le_refl _) ⟨_,e1⟩
 refine I1.laid (a:=s.heap.objs.size + 1) (o:=.ins C s.heap.objs.size []) (t':=s.toks) (fun b u q=>Heap.get?_push_of_some _ q) (Nat.le_of_eq (Heap.size_push _ _)) ?_
 have ne:s.heap.objs.size≠s.heap.objs.size + 1:=Nat.ne_of_lt (Nat.lt_succ_self _)
 refine ⟨by rw [aq ne,aj],Nat.zero_le _,ne,e2,fun _=>none,(Heap.Ns1.of_empty e3).at fun o q=>Heap.get?_push_of_some _ q,fun _=>True.intro,fun y hy=>absurd rfl hy⟩
theorem AI {prog:Program} {w:World} {env:Env} {e:Expr} {f:Str} {pos:Pos} {s:Shared} {Q:Value→Shared→Prop} (hb:attributeBase e f env (eval e env)=eval e env)
   (h:wpAny (model prog w) A (eval e env) (fun o s₁=>wpAny (model prog w) A (getAttr o f true) Q E s₁) E s):wpAny (model prog w) A (eval (.Attribute e f pos) env) Q E s :=
 Attribute_any_ h (by rw [arm_eval_Attribute,hb])
end
def yW (K:PySem.W.Frag) (ta:TE) (f:Str):TE:=fun σ H Q=>ta σ H fun x H1=>∃ a C dx fs v,x=.ref a∧H1 a=some (.ins C dx fs)∧Cls K C∧NoAttr K C f∧fs.lookup f=some v∧Q v H1
def yc (K:PySem.W.Frag) (ta tv:TE) (f:Str):TS:=fun D σ H=>tv σ H fun y H1=>ta σ H1 fun x H2=>∃ a C dx fs,x=.ref a∧H2 a=some (.ins C dx fs)∧Cls K C∧NoAttr K C f∧fs.length < 1000 ∧
 D.nx σ (upd H2 a (.ins C dx (dU f y fs)))
section
variable {X:Cx} {o e value:Expr} {f:Str} {pos pos' tpos:Pos} {ta tv:TE}
theorem dZ (he:PE X e ta) (hb:attributeBase e f X.env (eval e X.env)=eval e X.env):PE X (.Attribute e f pos) (yW X.K ta f):=by
 intro pins s σ H Q I h
 refine AI hb (bq (he pins s σ H _ I h) fun u s1 x H1 I1 rx ⟨a,C,dx,fs,v,ex,ea,c,n,l,q⟩=>?_)
 subst ex
 obtain rfl:u=Value.ref a:=rx
 exact sN I1 ea c n l fun u' s2 I2 ru=>⟨v,H1,I2,ru,q⟩
theorem vc (ha:PE X o ta) (hv:PE X value tv) (hs:swapsWith value (some (.Attribute o f pos')) pos.line X.env=pure false):PS X (.Assign [.Attribute o f pos'] value pos) (yc X.K ta tv f):=by
 intro pins s σ H D I h
 refine plainObj_wpAny_Assign_Attribute (bq (hv pins s σ H _ I h) fun u s1 y H1 I1 ry q=>bq (ha pins s1 σ H1 _ I1 q) fun ov s2 x H2 I2 rx ⟨a,C,dx,fs,ex,ea,c,n,l,q2⟩=>?_) hs
 subst ex
 obtain rfl:ov=Value.ref a:=rx
 exact tZ I2 ea c n l ry fun s3 I3=>⟨σ,_,I3,q2⟩
end
section
variable {X:Cx} {pins:List (Addr × Obj)} {σ:St} {H:Hp} {s:Shared} {A:Around} {E:Value→Shared→Prop} {Q:Value→Shared→Prop} {c:Value} {b:Bool}
end
end L2
namespace L2
open PySem PySem.Spec PyProof.Rows
structure Room (k:Nat) (A:Around):Prop where
 hd:A.handled=none
 dp:A.depth + 3 * k + 5 < recursionLimit
 un:A.units + 16 * k + 200 < cLine
theorem Room.mono {j k:Nat} {A:Around} (r:Room k A) (h:j≤k):Room j A:=⟨r.hd,by have:=r.dp; omega,by have:=r.un; omega⟩
theorem Room.deeper {k:Nat} {A:Around} (r:Room (k + 1) A) (env:Env):Room k (A.deeper env) :=
 ⟨r.hd,by have:=r.dp; show A.depth + 1 + 3 * k + 5 < _; omega,by have:=r.un; show A.units + 3 + 16 * k + 200 < _; omega⟩
theorem tP {A:Around} {C:Addr} {us:List Value} {kw:List (Str × Value)}:(A.under (.builtin "type.__call__" ⟨.ref C :: us,kw⟩)).depth=A.depth + 1:=by
 first | rfl | simp [Around.under,Code.weight,Code.isCreation,Code.isGuard,Code.isCaller,Code.frames,Code.isFrame,guardIds]
theorem sQ {A:Around} {C:Addr} {us:List Value} {kw:List (Str × Value)}:(A.under (.builtin "type.__call__" ⟨.ref C :: us,kw⟩)).units=A.units + 1:=by
 first | rfl | simp [Around.under,Code.cUnits,Code.frames,Code.isFrame]
theorem Room.make {k:Nat} {A:Around} (r:Room (k + 1) A) (C:Addr) (us:List Value) (kw:List (Str × Value)):Room k (A.under (.builtin "type.__call__" ⟨.ref C :: us,kw⟩)) :=
 ⟨r.hd,by have:=r.dp; rw [tP]; omega,by have:=r.un; rw [sQ]; omega⟩
theorem Room.depth {k:Nat} {A:Around} (r:Room k A):A.depth < recursionLimit:=by have:=r.dp; omega
theorem Room.units {k:Nat} {A:Around} (r:Room k A):A.units + 64 < cLine:=by have:=r.un; omega
def tNil:TA:=fun _ H Q=>Q [] H
def uk (ta:TE) (tr:TA):TA:=fun σ H Q=>ta σ H fun x H1=>tr σ H1 fun xs H2=>Q (x :: xs) H2
section
variable {X:Cx} {e:Expr} {es:List Expr} {te:TE} {t:TA} {pos:Pos}
theorem ah:PA X [] tNil:=fun _ _ _ _ H Q I h=>Calls.spliced_nil ⟨[],H,I,.nil,h⟩
theorem ag (ha:PE X e te) (hr:PA X es t) (hs:starEach (e :: es) X.env=(false,eval e X.env) :: starEach es X.env:=by rfl):PA X (e :: es) (uk te t):=by
 intro pos pins s σ H Q I h
 rw [hs]
 show wpAny _ _ (spliced ((false,eval e X.env) :: backTo pos (starEach es X.env))) _ _ s
 refine Calls.spliced_cons (bq (ha pins s σ H _ I h) fun u s1 x H1 I1 r1 q1=>?_)
 exact ik (hr pos pins s1 σ H1 _ I1 q1) fun us s2 xs H2 I2 r2 q2=>⟨x :: xs,H2,I2,.cons r1 r2,q2⟩
def zb (t:TA):TE:=fun σ H Q=>t σ H fun xs H1=>xs.length≤sizeLine∧∀ p,H1 p=none→Q (.ref p) (upd H1 p (.tup xs))
def vW (t:TA):TE:=fun σ H Q=>t σ H fun xs H1=>xs.length≤sizeLine∧∀ p,H1 p=none→Q (.ref p) (upd H1 p (.lst xs))
theorem fk {x1} (h:PA X es t):PE X (.Tuple es x1 pos) (zb t):=by
 intro pins s σ H Q I hq
 refine wpAny_Tuple_spliced (ik (h pos pins s σ H _ I hq) fun us s1 xs H1 I1 r ⟨z,q⟩=>⟨by rw [← r.length]; exact z,?_⟩)
 have hf:H1 s1.heap.objs.size=none:=I1.hok.fresh (Nat.le_refl _)
 refine ⟨.ref s1.heap.objs.size,upd H1 s1.heap.objs.size (.tup xs),I1.laid (t':=s1.toks) (fun b u e=>Heap.get?_push_of_some _ e) (Nat.le_refl _) ?_,rfl,q _ hf⟩
 exact ⟨z,us,r,⟨_,Heap.get?_push_size _ rfl,rfl,_,rfl⟩⟩
theorem dc (h:PA X es t):PE X (.List es pos) (vW t):=by
 intro pins s σ H Q I hq
 refine wpAny_List_spliced (ik (h pos pins s σ H _ I hq) fun us s1 xs H1 I1 r ⟨z,q⟩=>⟨by rw [← r.length]; exact z,?_⟩)
 have hf:H1 s1.heap.objs.size=none:=I1.hok.fresh (Nat.le_refl _)
 refine ⟨.ref s1.heap.objs.size,upd H1 s1.heap.objs.size (.lst xs),I1.laid (t':=s1.toks) (fun b u e=>Heap.get?_push_of_some _ e) (Nat.le_refl _) ?_,rfl,q _ hf⟩
 exact ⟨z,us,0,r,Heap.get?_push_size _ rfl⟩
end
abbrev Sp:=List V→Hp→VK→XK→Prop
abbrev CXT:=List Env→Hp→Shared→XK→Value→Shared→Prop
structure Env0 (P:Program) (w:World) (K:PySem.W.Frag) (mg:Str→Option Value) (base:Heap) (A:Around) (outer:List Env) (s:Shared) (H:Hp):Prop where
 frames:A.frames=some outer
 mod:Mod K mg base
 bs:∀ b o,base.get? b=some o→s.heap.get? b=some o∧H b=none
 bsz:base.objs.size≤s.heap.objs.size
 funs:s.heap.FunFrames base outer
 frf:∀ b∈frs outer,H b=none
 hok:HOk P w H s.heap
 bare:AllBare s.gens
def CE (outer:List Env) (P:Program) (w:World) (H:Hp) (s:Shared) (Q:VK) (u:Value) (s':Shared):Prop :=
 ∃ v H',s'.os=s.os∧AllBare s'.gens∧Un (frs outer) [] H H' s.heap s'.heap∧HOk P w H' s'.heap∧RelV v u∧Q v H'
def CR (CX:CXT) (outer:List Env) (P:Program) (w:World) (H:Hp) (s:Shared) (Q:VK) (E:XK) (r:Result) (s':Shared):Prop :=
 match r with
 | .ok (.ret u)=>CE outer P w H s Q u s'
 | .ok _=>False
 | .error e=>CX outer H s E e s'
structure FnOk (P:Program) (w:World) (K:PySem.W.Frag) (mg:Str→Option Value) (base:Heap) (CX:CXT) (k:Nat) (f:Addr) (fd:FuncData) (ps:List Str) (sp:Sp):Prop where
 len:∀ vs H Q E,sp vs H Q E→vs.length=ps.length
 run:∀ (A:Around) (outer:List Env) (s:Shared) (H:Hp) (args:Args) (us:List Value) (vs:List V) (Q:VK) (E:XK),Room k A→Env0 P w K mg base A outer s H→BindsTo s fd args (ps.zip us)→Vals vs us→sp vs H Q E →
   codeAny (model P w) A (.call (.ref f) args) (CR CX outer P w H s Q E) s
theorem Env0.make {P:Program} {w:World} {K:PySem.W.Frag} {mg:Str→Option Value} {base:Heap} {A:Around} {outer:List Env} {s:Shared} {H:Hp} (e:Env0 P w K mg base A outer s H) (C:Addr) (us:List Value) (kw:List (Str × Value)) :
   Env0 P w K mg base (A.under (.builtin "type.__call__" ⟨.ref C :: us,kw⟩)) outer s H:=⟨by first | exact e.frames | (simpa [Around.under,Code.envs,Code.isFrame,pushEnvs] using e.frames),e.mod,e.bs,e.bsz,e.funs,e.frf,e.hok,e.bare⟩
section
variable {X:Cx} {pins:List (Addr × Obj)} {σ:St} {H:Hp} {s s':Shared}
theorem Inv.env0 (I:Inv X pins σ H s):Env0 X.prog X.w X.K X.mg X.base X.A X.stack s H :=
 ⟨I.ok.frames,I.ok.mod,I.bs,Nat.le_trans I.ok.bsz I.sz,I.stack,I.stkFree,I.hok,I.bare⟩
theorem Inv.after {Q:VK} {u:Value} (I:Inv X pins σ H s) (h:CE X.stack X.prog X.w H s Q u s'):EP X pins σ Q u s':=by
 obtain ⟨v,H',os,bare,un,hok,r,q⟩:=h
 obtain ⟨hh,g,d,t,os'⟩:=s'
 obtain rfl:os'=s.os:=os
 exact ⟨v,H',I.call (h':=hh) (g':=g) (d':=d) (t':=t) (ch:=[]) un hok bare (fun b z=>absurd z (by simp)),r,q⟩
end
def tL (sp:Sp) (dvs:List V) (E:XK) (t:TA):TE:=fun σ H Q=>t σ H fun vs H1=>sp (vs ++ dvs) H1 Q E
def tz (C:Addr) (sp:Sp) (dvs:List V) (E:XK) (t:TA):TE:=fun σ H Q=>t σ H fun vs H1=>∀ x dx,H1 x=none→H1 dx=none→dx≠x →
 sp (.ref x :: (vs ++ dvs)) (upd (upd H1 dx (.own x)) x (.ins C dx [])) (fun v H2=>v=.non∧Q (.ref x) H2) E
def Binds (K:PySem.W.Frag) (fd:FuncData) (ps:List Str) (ds:List Value):Prop :=
 ∀ (s:Shared) (us:List Value),K.In s.heap→(us ++ ds).length=ps.length→BindsTo s fd ⟨us,[]⟩ (ps.zip (us ++ ds))
theorem Binds.all {K:PySem.W.Frag} {fd:FuncData} {ps:List Str} (h:∀ us:List Value,us.length=ps.length→bindArgs fd ⟨us,[]⟩=pure (ps.zip us)):Binds K fd ps []:=fun s us _ hl=>by
 rw [List.append_nil] at hl ⊢
 exact .of_eq (h us hl)
def iP (CX:CXT) (X:Cx) (E:XK):Prop:=∀ (pins:List (Addr × Obj)) (σ:St) (H:Hp) (s:Shared) (e:Value) (s':Shared),Inv X pins σ H s→CX X.stack H s E e s'→X.xe e s'
section
variable {X:Cx} {CX:CXT} {k:Nat} {f C:Addr} {fd:FuncData} {ps:List Str} {sp:Sp} {dvs:List V} {ds:List Value} {E:XK} {x m:Str} {p pos apos:Pos} {e o:Expr} {es:List Expr} {ta:TE} {t:TA}
theorem Bz {pins:List (Addr × Obj)} {σ:St} {H:Hp} {s:Shared} {Q:VK} {us:List Value} {vs:List V} (F:FnOk X.prog X.w X.K X.mg X.base CX k f fd ps sp) (hr:Room k X.A) (hb:Binds X.K fd ps ds) (hd:Vals dvs ds) (hx:iP CX X E)
   (I:Inv X pins σ H s) (r:Vals vs us) (h:sp (vs ++ dvs) H Q E):wpAny (model X.prog X.w) X.A (call (.ref f) us) (EP X pins σ Q) X.xe s:=by
 have r2:Vals (vs ++ dvs) (us ++ ds):=r.append hd
 have hl:(us ++ ds).length=ps.length:=by rw [← r2.length]; exact F.len _ _ _ _ h
 refine wpAny_call (codeAny_mono (F.run X.A X.stack s H ⟨us,[]⟩ (us ++ ds) (vs ++ dvs) Q E hr I.env0 (hb s us I.kIn hl) r2 h) fun r s' hq=>?_)
 cases r with
 | error e=>exact hx pins σ H s e s' I hq
 | ok fl =>
   cases fl with
   | ret u=>exact I.after hq
   | next=>exact False.elim hq
   | brk=>exact False.elim hq
   | cont=>exact False.elim hq
theorem ao (F:FnOk X.prog X.w X.K X.mg X.base CX k f fd ps sp) (hr:Room k X.A) (hg:Gl X x) (hm:X.mg x=some (.ref f)) (hk:PySem.W.keepIn X.K (.ref f)=true) (hb:Binds X.K fd ps ds) (hd:Vals dvs ds) (hx:iP CX X E)
   (ha:PA X (e :: es) t) (hdb:(x == ("__debug__":Str))=false:=by decide) (he:starEach (e :: es) X.env=(false,eval e X.env) :: starEach es X.env:=by rfl) (hpl:(backTo pos (starEach es X.env)).any (·.1)=false:=by rfl) :
   PE X (.Call (.Name x p) (e :: es) [] pos) (tL sp dvs E t):=by
 intro pins s σ H Q I h
 refine wpAny_Call_Name_kw (ki I hg hm ?_ hdb)
 refine PySem.W.callWith_K (h₀:=X.base) I.ok.mod.kin hk (ik (ha pos pins s σ H _ I h) fun us s1 vs H1 I1 r q=>⟨I1.kIn,?_⟩) he hpl
 exact Bz F hr hb hd hx I1 r q
structure Mk (K:PySem.W.Frag) (C f:Addr):Prop where
 makes:PySem.W.makesIn K C=true
 init:PySem.W.findIn K (.ref C) "__init__"=some (some (.ref f))
 fn:PySem.W.isFn K (.ref f)=true
 kp:PySem.W.keepIn K (.ref C)=true
theorem wY {pins:List (Addr × Obj)} {σ:St} {H:Hp} {s:Shared} {Q:VK} {us:List Value} {vs:List V} (M:Mk X.K C f) (F:FnOk X.prog X.w X.K X.mg X.base CX k f fd ps sp) (hr:Room (k + 1) X.A) (hb:Binds X.K fd ps ds) (hd:Vals dvs ds)
   (hx:iP CX X E) (I:Inv X pins σ H s) (r:Vals vs us)
   (h:∀ x dx,H x=none→H dx=none→dx≠x→sp (.ref x :: (vs ++ dvs)) (upd (upd H dx (.own x)) x (.ins C dx [])) (fun v H2=>v=.non∧Q (.ref x) H2) E) :
   wpAny (model X.prog X.w) X.A (call (.ref C) us) (EP X pins σ Q) X.xe s:=by
 have hq:=h (s.heap.objs.size + 1) s.heap.objs.size (I.hok.fresh (Nat.le_succ _)) (I.hok.fresh (Nat.le_refl _)) (Nat.ne_of_lt (Nat.lt_succ_self _))
 have I2:=Inv.made (C:=C) I
 have r2:Vals (V.ref (s.heap.objs.size + 1) :: (vs ++ dvs)) (Value.ref (s.heap.objs.size + 1) :: (us ++ ds)):=.cons rfl (r.append hd)
 have hl:(Value.ref (s.heap.objs.size + 1) :: us ++ ds).length=ps.length:=by
   have e:=r2.length
   rw [F.len _ _ _ _ hq] at e
   exact e.symm
 refine wpAny_call (wk (f:=f) I.kIn M.makes M.init (beq_iff_eq.mp M.fn) (codeAny_mono (F.run _ X.stack _ _ ⟨Value.ref (s.heap.objs.size + 1) :: us,[]⟩ (Value.ref (s.heap.objs.size + 1) :: (us ++ ds)) _ _ E (hr.make C us [])
   (I2.env0.make C us []) (hb _ (Value.ref (s.heap.objs.size + 1) :: us) I2.kIn hl) r2 hq) fun r s' hq'=>?_))
 cases r with
 | error e=>exact hx pins σ _ _ e s' I2 hq'
 | ok fl =>
   cases fl with
   | ret u =>
     obtain ⟨v,H',I3,rv,ev,q3⟩:=I2.after hq'
     subst ev
     exact ⟨rv,⟨V.ref (s.heap.objs.size + 1),H',I3,rfl,q3⟩⟩
   | next=>exact False.elim hq'
   | brk=>exact False.elim hq'
   | cont=>exact False.elim hq'
theorem Ad (M:Mk X.K C f) (F:FnOk X.prog X.w X.K X.mg X.base CX k f fd ps sp) (hr:Room (k + 1) X.A) (hg:Gl X x) (hm:X.mg x=some (.ref C)) (hb:Binds X.K fd ps ds) (hd:Vals dvs ds) (hx:iP CX X E)
   (ha:PA X (e :: es) t) (hdb:(x == ("__debug__":Str))=false:=by decide) (he:starEach (e :: es) X.env=(false,eval e X.env) :: starEach es X.env:=by rfl) (hpl:(backTo pos (starEach es X.env)).any (·.1)=false:=by rfl) :
   PE X (.Call (.Name x p) (e :: es) [] pos) (tz C sp dvs E t):=by
 intro pins s σ H Q I h
 refine wpAny_Call_Name_kw (ki I hg hm ?_ hdb)
 refine PySem.W.callWith_K (h₀:=X.base) I.ok.mod.kin M.kp (ik (ha pos pins s σ H _ I h) fun us s1 vs H1 I1 r q=>⟨I1.kIn,?_⟩) he hpl
 exact wY M F hr hb hd hx I1 r q
end
section
variable {X:Cx} {CX:CXT} {k:Nat} {f C:Addr} {fd:FuncData} {ps ks:List Str} {sp:Sp} {E:XK} {x m:Str} {p pos apos kpos:Pos} {e o:Expr} {es:List Expr} {kws:List Keyword} {te ta:TE} {t tk:TA} {nm:Option Str}
variable {g:List Value→List Value→List Value} {gV:List V→List V→List V}
end
structure FnScope (N P:List Str) (sc:Scope):Prop where
 kind:sc.kind=.function
 co:sc.isCoroutine=false
 gen:sc.isGenerator=false
 nd:N.Nodup
 pre:N.take P.length=P
 par:∀ x∈P,sc.names.lookup x=some .local∨sc.names.lookup x=some .cell
 nofree:∀ y∈sc.names,y.2≠.free
theorem nU {kindOf:Str→Option NameKind} {x:Str}:∀ {binds:List (Str × Value)} {m:Str→Option Value},(∀ v,(x,v) ∉ binds)→bindL kindOf binds m x=m x
 | [],_,_=>rfl
 | (n,v) :: r,m,h=>by
   unfold bindL
   rw [nU fun w hw=>h w (List.mem_cons_of_mem _ hw)]
   split
   · have:x≠n:=by rintro rfl; exact h v List.mem_cons_self
     simp [this]
   · rfl
theorem oh {kindOf:Str→Option NameKind} {x:Str}:∀ {binds:List (Str × Value)} {m:Str→Option Value},(∀ v,(x,v) ∉ binds)→bindC kindOf binds m x=m x
 | [],_,_=>rfl
 | (n,v) :: r,m,h=>by
   unfold bindC
   rw [oh fun w hw=>h w (List.mem_cons_of_mem _ hw)]
   split
   · rfl
   · have:x≠n:=by rintro rfl; exact h v List.mem_cons_self
     simp [this]
theorem oC {kindOf:Str→Option NameKind} {x:Str} {v:Value}:∀ {P:List Str} {vs:List Value} {i:Nat} {m:Str→Option Value},P.Nodup→P[i]?=some x→vs[i]?=some v→kindOf x=some .local →
   bindL kindOf (P.zip vs) m x=some v
 | [],_,_,_,_,h,_,_=>by simp at h
 | _ :: _,[],_,_,_,_,h,_=>by simp at h
 | p :: P,w :: vs,0,m,nd,h1,h2,hk=>by
   simp at h1 h2; subst h1; subst h2
   show bindL kindOf ((p,w) :: P.zip vs) m p=_
   unfold bindL
   rw [nU fun v hv=>(List.nodup_cons.mp nd).1 (List.of_mem_zip hv).1,if_pos hk]
   simp
 | p :: P,w :: vs,i + 1,m,nd,h1,h2,hk=>by
   show bindL kindOf ((p,w) :: P.zip vs) m x=_
   unfold bindL
   exact oC (i:=i) (List.nodup_cons.mp nd).2 (by simpa using h1) (by simpa using h2) hk
theorem oF {kindOf:Str→Option NameKind} {x:Str} {v:Value}:∀ {P:List Str} {vs:List Value} {i:Nat} {m:Str→Option Value},P.Nodup→P[i]?=some x→vs[i]?=some v→kindOf x≠some .local →
   bindC kindOf (P.zip vs) m x=some v
 | [],_,_,_,_,h,_,_=>by simp at h
 | _ :: _,[],_,_,_,_,h,_=>by simp at h
 | p :: P,w :: vs,0,m,nd,h1,h2,hk=>by
   simp at h1 h2; subst h1; subst h2
   show bindC kindOf ((p,w) :: P.zip vs) m p=_
   unfold bindC
   rw [oh fun v hv=>(List.nodup_cons.mp nd).1 (List.of_mem_zip hv).1,if_neg hk]
   simp
 | p :: P,w :: vs,i + 1,m,nd,h1,h2,hk=>by
   show bindC kindOf ((p,w) :: P.zip vs) m x=_
   unfold bindC
   exact oF (i:=i) (List.nodup_cons.mp nd).2 (by simpa using h1) (by simpa using h2) hk
def start (N:List Str) (vs:List V):St:=vs.map some ++ List.replicate (N.length - vs.length) none
def gk (CX:CXT) (P:Program) (w:World) (K:PySem.W.Frag) (mg:Str→Option Value) (base:Heap) (N:List Str) (qual:Str) (scope:Scope) (f:Addr) (cd:Value) (A:Around) (outer:List Env) (s:Shared) (H:Hp) (E:XK):Cx where
 prog:=P
 w:=w
 K:=K
 mg:=mg
 base:=base
 A:=A.deeper (envOfC qual scope s.heap.objs.size f cd)
 N:=N
 s₀:=s
 H₀:=H
 env:=envOfC qual scope s.heap.objs.size f cd
 outer:=outer
 stack:=envOfC qual scope s.heap.objs.size f cd :: outer
 ex:=[]
 calm:=true
 fn:=fun _=>true
 pn:=[]
 xe:=fun e s'=>wpAny (model P w) (A.deeper (envOfC qual scope s.heap.objs.size f cd)) (leaving (envOfC qual scope s.heap.objs.size f cd) e) (fun _ s''=>CX outer H s E e s'') (fun e' s''=>CX outer H s E e' s'') s'
theorem cR {sc:Scope} {n:Nat} {x:Str} (h:sc.names.lookup x=some .cell):∃ c,(cellsFrom n sc.names []).lookup x=some c:=by
 have q:=PySem.W.cellsFrom_some sc.names n [] (.inl h)
 exact Option.isSome_iff_exists.mp q
theorem vq {CX:CXT} {P:Program} {w:World} {K:PySem.W.Frag} {mg:Str→Option Value} {base:Heap} {N ps:List Str} {qual:Str} {scope:Scope} {f:Addr} {cd:Value} {A:Around} {outer:List Env} {s s1:Shared} {H:Hp} {E:XK} {us:List Value} {vs:List V}
   (S:FnScope N ps scope) (hd:A.handled=none) (e0:Env0 P w K mg base A outer s H) (hl:vs.length=ps.length) (r:Vals vs us)
   (x:InCallC s s.heap.objs.size (bindL (envOfC qual scope s.heap.objs.size f cd).kindOf (ps.zip us) fun _=>none) (cellsFrom (s.heap.objs.size + 1) scope.names []) (bindC (envOfC qual scope s.heap.objs.size f cd).kindOf (ps.zip us) fun _=>none) s1) :
   Inv (gk CX P w K mg base N qual scope f cd A outer s H E) [] (start N vs) H s1:=by
 have hpl:ps.length≤N.length:=by have:=congrArg List.length S.pre; rw [List.length_take] at this; omega
 obtain ⟨h1,tk,rfl,hk⟩:=x.done
 have noA:∀ b:Addr,b ∉ (gk CX P w K mg base N qual scope f cd A outer s H E).ex:=fun b z=>absurd (show b∈([]:List Addr) from z) (by simp)
 refine ⟨⟨e0.mod,S.kind,rfl,rfl,Nat.le_refl _,fun y z c h1 h2=>?_,fun y hy=>?_,fun y c _ h=>?_,fun _=>hd,Around.frames_deeper e0.frames,.inr ⟨rfl,rfl⟩,fun b z=>absurd z (noA b),e0.bs,e0.bsz,fun b _ _=>noA b,fun b z=>absurd z (noA b),e0.funs,e0.frf⟩,
   rfl,e0.bare,Un.kept hk,⟨_,x.toInCall.ns,fun i y v h1 h2 h3=>?_⟩,fun y c h=>⟨_,x.cell y c h⟩,e0.hok.fresh (Nat.le_refl _),fun y c h=>?_,fun p hp=>absurd (show p∈([]:List (Addr × Obj)) from hp) (by simp),e0.hok.kept hk,?_⟩
 · exact name_of_addr x.apart (PySem.mem_of_lookup h1) (PySem.mem_of_lookup h2)
 · have hy:scope.names.lookup y=some .cell∨scope.names.lookup y=some .free:=hy
   rcases hy with hy | hy
   · exact cR hy
   · exact absurd rfl (S.nofree _ (PySem.mem_of_lookup hy))
 · exact Nat.le_of_lt (x.above y c (PySem.mem_of_lookup h))
 · have hi:i < vs.length:=by
     unfold start at h2
     by_cases hi:i < vs.length
     · exact hi
     · rw [List.getElem?_append_right (by simpa using hi)] at h2
       rw [List.getElem?_replicate] at h2
       split at h2 <;> cases h2
   have ha:vs[i]?=some v:=by
     unfold start at h2
     rw [List.getElem?_append_left (by simpa using hi),List.getElem?_map] at h2
     cases e:vs[i]? with
     | none=>rw [e] at h2; cases h2
     | some a=>rw [e] at h2; cases h2; rfl
   obtain ⟨u,hu,rv⟩:=r.get ha
   have hp:ps[i]?=some y:=by
     rw [← S.pre,List.getElem?_take_of_lt (by omega)]; exact h1
   have ndP:ps.Nodup:=by rw [← S.pre]; exact S.nd.sublist (List.take_sublist _ _)
   refine ⟨u,rv,?_⟩
   rcases S.par y (List.mem_of_getElem? hp) with k | k
   · exact .inl ⟨k,oC ndP hp hu k⟩
   · obtain ⟨c,e⟩:=cR (n:=s.heap.objs.size + 1) k
     refine .inr ⟨.inl k,c,e,?_⟩
     have q:=x.cell y c e
     rw [oF ndP hp hu (by show scope.names.lookup y≠_; rw [k]; decide)] at q
     exact q
 · exact e0.hok.fresh (Nat.le_of_lt (x.above y c (PySem.mem_of_lookup h)))
 · unfold start
   show _=N.length
   rw [List.length_append,List.length_map,List.length_replicate]
   omega
theorem zN {CX:CXT} {P:Program} {w:World} {K:PySem.W.Frag} {mg:Str→Option Value} {base:Heap} {k:Nat} {f:Addr} {name qual:Str} {params:Arguments} {body:List Stmt} {scope:Scope} {dV kV doc pm cdv ct oc:Value} {an od:Option Addr}
   {osl:Array (Option Value)} {N ps:List Str} {sp:Sp} (lk:K.lookup f=some ⟨oc,od,.func (PySem.W.fnOf name qual params body scope dV kV doc pm an cdv ct),osl⟩) (hcd:PySem.W.codeIn K cdv qual=true) (S:FnScope N ps scope)
   (len:∀ vs H Q E,sp vs H Q E→vs.length=ps.length)
   (hbody:∀ (A:Around) (outer:List Env) (s:Shared) (H:Hp) (vs:List V) (Q:VK) (E:XK),Room k (A.deeper (envOfC qual scope s.heap.objs.size f cdv))→sp vs H Q E →
     ∃ t,PSs (gk CX P w K mg base N qual scope f cdv A outer s H E) body t∧t { nx:=fun _ H'=>Q .non H',rt:=Q } (start N vs) H) :
   FnOk P w K mg base CX (k + 1) f (PySem.W.fnOf name qual params body scope dV kV doc pm an cdv ct) ps sp:=by
 refine ⟨len,fun A outer s H args us vs Q E hr e0 hb r hsp=>?_⟩
 have hl:=len _ _ _ _ hsp
 have KX:K.In s.heap:=e0.mod.kin.keeps fun b o e=>(e0.bs b o e).1
 have lim:s.heap.NoLimit:=e0.mod.nolimit.keeps fun b o e=>(e0.bs b o e).1
 have hkind:∀ y∈ps.zip us,scope.names.lookup y.1=some .local∨(scope.names.lookup y.1=some .cell∧((cellsFrom (s.heap.objs.size + 1) scope.names []).lookup y.1).isSome=true):=fun ⟨n,v⟩ hy=>by
   rcases S.par n (List.of_mem_zip hy).1 with q | q
   · exact .inl q
   · exact .inr ⟨q,PySem.W.cellsFrom_some _ _ _ (.inl q)⟩
 refine codeAny_call_function hr.depth (KX _ _ lk) rfl S.co S.gen rfl (PySem.W.codeRec_of KX hcd) (hb _ _ _ _ ?_)
 refine wpAny_newFunctionEnv_cells S.kind hkind fun env he s1 x=>?_
 subst he
 refine ⟨lim.keeps x.toInCall.keep,codeAny_func ?_⟩
 obtain ⟨t,ht,hq⟩:=hbody A outer s H vs Q E (hr.deeper _) hsp
 have I:Inv (gk CX P w K mg base N qual scope f cdv A outer s H E) [] (start N vs) H s1:=vq S hr.hd e0 hl r x
 refine wpAny_mono (ht [] s1 (start N vs) H _ I hq) (fun fl s' hs=>?_) fun e s' hs=>hs
 have fin:∀ {σ':St} {H':Hp} {v:V} {u:Value},Inv (gk CX P w K mg base N qual scope f cdv A outer s H E) [] σ' H' s'→RelV v u→Q v H'→CE outer P w H s Q u s' :=
   fun {σ' H' v u} J rv q=>⟨v,H',J.os,J.bare,J.base,J.hok,rv,q⟩
 cases fl with
 | ret u =>
   obtain ⟨v,σ',H',J,rv,q⟩:=hs
   exact fin J rv q
 | next =>
   obtain ⟨σ',H',J,q⟩:=hs
   exact fin (v:=V.non) (u:=Value.none) J rfl q
 | brk =>
   obtain ⟨_,_,_,q⟩:=hs
   exact False.elim q
 | cont =>
   obtain ⟨_,_,_,q⟩:=hs
   exact False.elim q
end L2
namespace L2
open PySem PySem.Spec PyProof.Rows
section
variable {X:Cx} {x:Str} {p pos:Pos} {e:Expr} {es:List Expr} {t:TA} {id T:String} {r:List V→Hp→VK→Prop}
def tCB (r:List V→Hp→VK→Prop) (t:TA):TE:=fun σ H Q=>t σ H fun vs H1=>r vs H1 Q
theorem cB (hc:eB X (.builtin id) r) (hg:Gl X x) (hm:X.mg x=none) (hv:bootBuiltins x=some (.builtin id)) (ha:PA X (e :: es) t) (hn:x≠"__name__":=by decide) (hdb:(x == ("__debug__":Str))=false:=by decide)
   (he:starEach (e :: es) X.env=(false,eval e X.env) :: starEach es X.env:=by rfl) (hpl:(backTo pos (starEach es X.env)).any (·.1)=false:=by rfl):PE X (.Call (.Name x p) (e :: es) [] pos) (tCB r t):=by
 intro pins s σ H Q I h
 refine wpAny_Call_Name_kw (gR I hg hm hv ?_ hn hdb)
 exact PyProof.Rows.callWith_builtin1 (ik (ha pos pins s σ H _ I h) fun us s1 vs H1 I1 r1 q1=>hc pins s1 σ H1 vs us Q I1 r1 q1) he hpl
theorem d3 (hc:eB X (.type T) r) (hg:Gl X x) (hm:X.mg x=none) (hv:bootBuiltins x=some (.type T)) (ha:PA X (e :: es) t) (hn:x≠"__name__":=by decide) (hdb:(x == ("__debug__":Str))=false:=by decide)
   (he:starEach (e :: es) X.env=(false,eval e X.env) :: starEach es X.env:=by rfl) (hpl:(backTo pos (starEach es X.env)).any (·.1)=false:=by rfl):PE X (.Call (.Name x p) (e :: es) [] pos) (tCB r t):=by
 intro pins s σ H Q I h
 refine wpAny_Call_Name_kw (gR I hg hm hv ?_ hn hdb)
 exact PyProof.Rows.callWith_type1 (ik (ha pos pins s σ H _ I h) fun us s1 vs H1 I1 r1 q1=>hc pins s1 σ H1 vs us Q I1 r1 q1) he hpl
end
end L2
namespace HT
open PySem PyProof.Rows
section
open PySem.SeqAt
open PySem.AutoSeq1 (wpAny_loadPart')
open PySem.MeetsSeq PySem.MeetsSeq2 PySem.MeetsSeq3
end
section
variable {prog:Program} {w:World} {A:Around} {E:Value→Shared→Prop} {s:Shared}
end
end HT
namespace L2
open PySem PySem.Spec PyProof.Rows
abbrev TO:=St→Hp→(Option Int→Hp→Prop)→Prop
def PO (X:Cx) (e:Option Expr) (t:TO):Prop :=
 ∀ (pins:List (Addr × Obj)) (s:Shared) (σ:St) (H:Hp) (Q:Option Int→Hp→Prop),Inv X pins σ H s→t σ H Q →
   wpAny (model X.prog X.w) X.A (evalPart e X.env) (fun u s'=>∃ o H',Inv X pins σ H' s'∧IsPart u o∧Q o H') X.xe s
section
variable {X:Cx} {e:Expr} {te:TE} {lo hi:Option Expr} {tl th:TO} {pos p2:Pos}
end
end L2
namespace L2
open PySem PySem.Spec PyProof.Rows
def ixN (n:Nat) (i:Int):Option Nat:=if 0≤i then (if i < n then some i.toNat else none) else if -(n:Int)≤i then some (i + n).toNat else none
def atI {α:Type} (xs:List α) (i:Int):Option α:=(ixN xs.length i).bind fun j=>xs[j]?
theorem sf {n:Nat} {i:Int} {j:Nat} (h:ixN n i=some j):seqIndex? i n=some j∧j < n∧-(n:Int)≤i∧i < n:=by
 unfold ixN at h
 by_cases h0:0≤i
 · rw [if_pos h0] at h
   by_cases h1:i < n
   · rw [if_pos h1] at h
     have e:i.toNat=j:=Option.some.inj h
     exact ⟨by rw [seqIndex_of h0 h1,e],by omega,by omega,h1⟩
   · rw [if_neg h1] at h; cases h
 · rw [if_neg h0] at h
   by_cases h1:-(n:Int)≤i
   · rw [if_pos h1] at h
     have e:(i + n).toNat=j:=Option.some.inj h
     exact ⟨by rw [seqIndex_neg (by omega) h1,e],by omega,h1,by omega⟩
   · rw [if_neg h1] at h; cases h
theorem nJ {α:Type} {xs:List α} {i:Int} {v:α} (h:atI xs i=some v):∃ j,seqIndex? i xs.length=some j∧xs[j]?=some v∧j < xs.length∧-(xs.length:Int)≤i∧i < xs.length:=by
 unfold atI at h
 cases e:ixN xs.length i with
 | none=>rw [e] at h; cases h
 | some j =>
   rw [e] at h
   obtain ⟨h1,h2,h3,h4⟩:=sf e
   exact ⟨j,h1,h,h2,h3,h4⟩
theorem mP {α:Type} {xs:List α} {j:Nat} {v:α} (h:xs[j]?=some v):atI xs (j:Int)=some v:=by
 have hj:j < xs.length:=(List.getElem?_eq_some_iff.mp h).1
 have e:ixN xs.length (j:Int)=some j:=by
   unfold ixN
   rw [if_pos (by omega),if_pos (by omega)]; simp
 unfold atI; rw [e]; exact h
theorem lN {α:Type} (xs:List α) (v:α):atI (xs ++ [v]) (-1)=some v:=by
 have hl:(xs ++ [v]).length=xs.length + 1:=by simp
 have e:ixN (xs ++ [v]).length (-1)=some xs.length:=by
   unfold ixN
   rw [hl,if_neg (by decide),if_pos (by omega)]
   congr 1
   omega
 unfold atI
 rw [e]
 show (xs ++ [v])[xs.length]?=some v
 simp
def Ag (b:Expr):Prop:=∀ o i,subscripted b false o i=operate [o,i] (getItem o i)
def IxR (X:Cx) (r:R2):Prop :=
 ∀ (value slice:Expr) (pins:List (Addr × Obj)) (s:Shared) (σ:St) (H:Hp) (x y:V) (v u:Value) (Q:VK),Inv X pins σ H s→RelV x v→RelV y u→r x y H Q →
   subscripted slice false v u=operate [v,u] (getItem v u)→wpAny (model X.prog X.w) X.A (subscriptTail value slice v u) (EP X pins σ Q) X.xe s
def MtR (X:Cx) (id:String) (r:V→List V→Hp→VK→Prop):Prop :=
 ∀ (pins:List (Addr × Obj)) (s:Shared) (σ:St) (H:Hp) (x:V) (xs:List V) (v:Value) (us:List Value) (Q:VK),Inv X pins σ H s→RelV x v→Vals xs us→r x xs H Q →
   wpAny (model X.prog X.w) X.A (call (.builtin id) (v :: us)) (EP X pins σ Q) X.xe s
section
variable {X:Cx} {a b:Expr} {ta tb:TE} {pos:Pos}
theorem aH {r:R2} (hr:IxR X r) (ha:PE X a ta) (hb:PE X b tb) (hs:Ag b):PE X (.Subscript a b pos) (tOp r ta tb):=by
 intro pins s σ H Q I h
 exact Subscript_ (wc ha hb I h fun v u s2 x y H2 I2 rx ry q=>hr a b pins s2 σ H2 x y v u Q I2 rx ry q (hs _ _))
def qe (K:PySem.W.Frag):R2:=fun x y H Q=>∃ p xs i v,x=.ref p∧y=.int i∧SqL K H p xs∧atI xs i=some v∧Q v H
def ud (K:PySem.W.Frag):R2:=fun x y H Q=>∃ p xs i v,x=.ref p∧y=.int i∧SqT K H p xs∧atI xs i=some v∧Q v H
theorem cC:IxR X (qe X.K):=by
 intro value slice pins s σ H x y v u Q I rx ry h hs
 obtain ⟨p,xs,i,z,rfl,rfl,hq,he,q⟩:=h
 cases rx
 obtain ⟨t,rfl⟩:=ry
 obtain ⟨its,r,pl,hz⟩:=I.list hq
 obtain ⟨j,h1,h2,h3,h4,h5⟩:=nJ he
 obtain ⟨w,ew,rw'⟩:=r.get h2
 have hl:=r.length
 have hn:=gG
 have fin:EP X pins σ Q w s:=⟨z,H,I,rw',q⟩
 by_cases h0:0≤i
 · have hj:i.toNat=j:=by
     rw [seqIndex_of h0 h5] at h1
     exact Option.some.inj h1
   exact item_listR pl.isList h0 (by omega) (by rw [hj]; simpa using ew) fin hs
 · have hj:(i + (its.toArray.size:Int)).toNat=j:=by
     rw [seqIndex_neg (by omega) h4] at h1
     rw [List.size_toArray,← hl]
     exact Option.some.inj h1
   exact subscriptTail_builtinR (x:=w) pl.isList.typeIs slot_list_getitem.lookup
     (wpAny_getItem_list_neg (Q:=fun r s'=>r=w∧EP X pins σ Q r s') pl.isList (by omega) (by rw [List.size_toArray] <;> omega) (by omega) (by rw [hj]; simpa using ew) ⟨rfl,fin⟩) hs
theorem aQ:IxR X (ud X.K):=by
 intro value slice pins s σ H x y v u Q I rx ry h hs
 obtain ⟨p,xs,i,z,rfl,rfl,hq,he,q⟩:=h
 cases rx
 obtain ⟨t,rfl⟩:=ry
 obtain ⟨its,r,pl,hz⟩:=I.tuple hq
 obtain ⟨j,h1,h2,h3,h4,h5⟩:=nJ he
 obtain ⟨w,ew,rw'⟩:=r.get h2
 have hl:=r.length
 have hn:=gG
 have fin:EP X pins σ Q w s:=⟨z,H,I,rw',q⟩
 exact subscriptTail_builtinR (x:=w) pl.typeIs slot_tuple_getitem.lookup
   (getItem_tuple (j:=j) (Q:=fun r s'=>r=w∧EP X pins σ Q r s') pl (by omega) (by omega) (by rw [List.size_toArray,← hl]; exact h1) (by simpa using ew) ⟨rfl,fin⟩) hs
theorem sX (its:List Value) (n j:Nat) (u:Value):Obj.mapSeq (·.setIfInBounds j u) { cls:=.type "list",data:=.seq its.toArray n }={ cls:=.type "list",data:=.seq (its.set j u).toArray n }:=by
 simp [Obj.mapSeq]
theorem Inv.lst {pins:List (Addr × Obj)} {σ:St} {H:Hp} {s:Shared} {p:Addr} {xs:List V} (I:Inv X pins σ H s) (h:H p=some (.lst xs)) :
   ∃ (its:List Value) (n:Nat),Vals xs its∧s.heap.get? p=some { cls:=.type "list",data:=.seq its.toArray n }∧xs.length≤sizeLine:=by
 obtain ⟨z,its,n,r,e⟩:=I.hok p _ h
 exact ⟨its,n,r,e,z⟩
theorem Inv.lstUpd {pins:List (Addr × Obj)} {σ:St} {H:Hp} {s:Shared} {p:Addr} {xs ys:List V} {its its':List Value} {n n':Nat} {f:Obj→Obj} (I:Inv X pins σ H s) (h:H p=some (.lst xs))
   (ho:s.heap.get? p=some { cls:=.type "list",data:=.seq its.toArray n }) (hf:f { cls:=.type "list",data:=.seq its.toArray n }={ cls:=.type "list",data:=.seq its'.toArray n' }) (r:Vals ys its') (hz:ys.length≤sizeLine) (t:Nat) :
   Inv X pins σ (upd H p (.lst ys)) { s with heap:=s.heap.update p f,toks:=t }:=by
 have e:(s.heap.update p f).get? p=some { cls:=.type "list",data:=.seq its'.toArray n' }:=by
   rw [Heap.get?_update_self f ho (by rw [hf] <;> rfl),hf]
 refine I.write (x:=p) (e:=p) (by rw [h]; trivial) (.inl rfl) (fun b u hb q=>(Heap.get?_update_other _ _ (Ne.symm hb)).trans q) ⟨_,e⟩ ?_
 exact ⟨hz,its',n',r,e⟩
def rSetL:V→V→V→Hp→(Hp→Prop)→Prop:=fun o i v H Q=>∃ p xs k j,o=.ref p∧i=.int k∧H p=some (.lst xs)∧ixN xs.length k=some j∧Q (upd H p (.lst (xs.set j v)))
theorem fE:xQ X rSetL:=by
 intro pins s σ H o i v ov iv u Q I ro ri rv h
 obtain ⟨p,xs,k,j,rfl,rfl,hp,hj,q⟩:=h
 cases ro
 obtain ⟨t,rfl⟩:=ri
 obtain ⟨its,n,r,ho,hz⟩:=I.lst hp
 obtain ⟨h1,h2,h3,h4⟩:=sf hj
 have hl:=r.length
 have hn:=gG
 have I':Inv X pins σ (upd H p (.lst (xs.set j v))) { s with heap:=s.heap.update p (Obj.mapSeq (·.setIfInBounds j u)) } :=
   I.lstUpd hp ho (sX its n j u) (r.set rv j) (by rw [List.length_set]; exact hz) s.toks
 by_cases h0:0≤k
 · have hk:k.toNat=j:=by
     rw [seqIndex_of h0 h4] at h1
     exact Option.some.inj h1
   exact PySem.W.ki_setAt ho h0 (by omega) (by rw [List.size_toArray,← hl]; exact h4) (by rw [hk]; exact ⟨_,I',q⟩)
 · have hk:(k + (its.toArray.size:Int)).toNat=j:=by
     rw [seqIndex_neg (by omega) h3] at h1
     rw [List.size_toArray,← hl]
     exact Option.some.inj h1
   exact PySem.W.ki_setBack ho (by omega) (by rw [List.size_toArray,← hl]; exact h3) (by omega) (by rw [hk]; exact ⟨_,I',q⟩)
def gA:V→Bool
 | .non=>true
 | .bl _=>true
 | .int _=>true
 | .str _=>true
 | _=>false
def eqV:V→V→Bool
 | .non,.non=>true
 | .bl a,.bl b=>a == b
 | .bl a,.int b=>(if a then 1 else 0) == b
 | .int a,.bl b=>a == (if b then 1 else 0)
 | .int a,.int b=>a == b
 | .str a,.str b=>a == b
 | _,_=>false
theorem BC {A:Around} {s:Shared} {y x:V} {u v:Value} (ry:RelV y u) (rx:RelV x v) (fy:gA y=true) (fx:gA x=true):SeqAt.EqAt A s u v (eqV y x):=by
 cases y with
 | non =>
   cases ry
   cases x with
   | non=>cases rx; exact SeqAt.EqAt.same _
   | bl b=>cases rx; exact SeqAt.EqAt.none_bool b
   | int b=>obtain ⟨t,rfl⟩:=rx; exact SeqAt.EqAt.none_int b t
   | str b=>obtain ⟨t,rfl⟩:=rx; exact SeqAt.EqAt.none_str b t
   | _=>exact absurd (show false=true from fx) Bool.false_ne_true
 | bl a =>
   cases ry
   cases x with
   | non=>cases rx; exact SeqAt.EqAt.bool_none a
   | bl b=>cases rx; exact SeqAt.EqAt.bool_bool a b
   | int b=>obtain ⟨t,rfl⟩:=rx; exact SeqAt.EqAt.bool_int a b t
   | str b=>obtain ⟨t,rfl⟩:=rx; exact SeqAt.EqAt.bool_str a b t
   | _=>exact absurd (show false=true from fx) Bool.false_ne_true
 | int a =>
   obtain ⟨t',rfl⟩:=ry
   cases x with
   | non=>cases rx; exact SeqAt.EqAt.int_none a t'
   | bl b=>cases rx; exact SeqAt.EqAt.int_bool a t' b
   | int b=>obtain ⟨t,rfl⟩:=rx; exact SeqAt.EqAt.int_int a t' b t
   | str b=>obtain ⟨t,rfl⟩:=rx; exact SeqAt.EqAt.int_str a t' b t
   | _=>exact absurd (show false=true from fx) Bool.false_ne_true
 | str a =>
   obtain ⟨t',rfl⟩:=ry
   cases x with
   | non=>cases rx; exact SeqAt.EqAt.str_none a t'
   | bl b=>cases rx; exact SeqAt.EqAt.str_bool a t' b
   | int b=>obtain ⟨t,rfl⟩:=rx; exact SeqAt.EqAt.str_int a t' b t
   | str b=>obtain ⟨t,rfl⟩:=rx; exact SeqAt.EqAt.str_str a t' b t
   | _=>exact absurd (show false=true from fx) Bool.false_ne_true
 | _=>exact absurd (show false=true from fy) Bool.false_ne_true
def eqU (x:V) (u:Value):Bool:=match u with
 | .none=>eqV .non x
 | .bool b=>eqV (.bl b) x
 | .int i _=>eqV (.int i) x
 | .str z _=>eqV (.str z) x
 | _=>false
theorem vh {x y:V} {u:Value} (r:RelV y u) (f:gA y=true):eqU x u=eqV y x:=by
 cases y with
 | non=>cases r; rfl
 | bl b=>cases r; rfl
 | int i=>obtain ⟨t,rfl⟩:=r; rfl
 | str z=>obtain ⟨t,rfl⟩:=r; rfl
 | _=>exact absurd (show false=true from f) Bool.false_ne_true
theorem m3 {x:V}:∀ {xs:List V} {us:List Value},Vals xs us→xs.all gA=true→us.any (eqU x)=xs.any fun y=>eqV y x
 | _,_,.nil,_=>rfl
 | y :: xs,u :: us,.cons r t,f=>by
   rw [List.all_cons,Bool.and_eq_true] at f
   rw [List.any_cons,List.any_cons,vh r f.1,m3 t f.2]
theorem lM {A:Around} {s:Shared} {x:V} {v:Value} (rx:RelV x v) (fx:gA x=true):∀ {xs:List V} {us:List Value},Vals xs us→xs.all gA=true→∀ u∈us,SeqAt.EqAt A s u v (eqU x u)
 | _,_,.nil,_=>fun u hu=>by cases hu
 | y :: xs,u :: us,.cons r t,f=>fun u' hu=>by
   rw [List.all_cons,Bool.and_eq_true] at f
   rcases List.mem_cons.mp hu with rfl | hu
   · rw [vh r f.1]; exact BC r rx f.1 fx
   · exact lM rx fx t f.2 u' hu
def inV (x:V) (xs:List V):Bool:=xs.any fun y=>eqV y x
def rIn (K:PySem.W.Frag) (neg:Bool):R2:=fun x y H Q=>∃ p xs,y=.ref p∧(SqL K H p xs∨SqT K H p xs)∧gA x=true∧xs.all gA=true∧Q (.bl (if neg then !inV x xs else inV x xs)) H
theorem vP:OpR X (compareOp .In) (rIn X.K false):=by
 intro pins s σ H x y v u Q I rx ry h
 obtain ⟨p,xs,rfl,hq,fx,fs,q⟩:=h
 cases ry
 rcases hq with hq | hq
 · obtain ⟨its,r,pl,hz⟩:=I.list hq
   refine SeqAt.in_listAt (eqU x) pl.isList (fun w hw=>lM rx fx r fs w (by simpa using hw)) ⟨.bl _,H,I,rfl,?_⟩
   rw [show its.toArray.any (eqU x)=its.any (eqU x) by simp,m3 r fs]
   exact q
 · obtain ⟨its,r,pl,hz⟩:=I.tuple hq
   refine SeqAt.in_tupleAt (eqU x) pl (fun w hw=>lM rx fx r fs w (by simpa using hw)) ⟨.bl _,H,I,rfl,?_⟩
   rw [show its.toArray.any (eqU x)=its.any (eqU x) by simp,m3 r fs]
   exact q
theorem dA:eB X (.builtin "len") (fun xs H Q=>∃ p ys,xs=[.ref p]∧(SqL X.K H p ys∨SqT X.K H p ys)∧Q (.int ys.length) H):=by
 intro pins s σ H xs us Q I r h
 obtain ⟨p,ys,rfl,hq,q⟩:=h
 obtain ⟨u,rfl,rx⟩:=gz r
 cases rx
 have hn:=gG
 rcases hq with hq | hq
 · obtain ⟨its,r',pl,hz⟩:=I.list hq
   have hlen:=r'.length
   exact Calls.call_len_list pl.isList (by simp only [List.size_toArray] <;> omega) ⟨.int ys.length,H,I.tok _,⟨s.toks + 1,by rw [List.size_toArray,hlen]⟩,q⟩
 · obtain ⟨its,r',pl,hz⟩:=I.tuple hq
   have hlen:=r'.length
   exact len_tuple pl (by simp only [List.size_toArray] <;> omega) ⟨.int ys.length,H,I.tok _,⟨s.toks + 1,by rw [List.size_toArray,hlen]⟩,q⟩
theorem gF:eB X (.type "list") (fun xs H Q=>∃ p ys,xs=[.ref p]∧(SqL X.K H p ys∨SqT X.K H p ys)∧∀ l,H l=none→Q (.ref l) (upd H l (.lst ys))):=by
 intro pins s σ H xs us Q I r h
 obtain ⟨p,ys,rfl,hq,q⟩:=h
 obtain ⟨u,rfl,rx⟩:=gz r
 cases rx
 have fin:∀ (its:List Value),Vals ys its→ys.length≤sizeLine→∀ (h':Heap) (c':Nat),(∀ b o',s.heap.get? b=some o'→h'.get? b=some o') →
     h'.get? s.heap.objs.size=some { cls:=.type "list",dict:=none,data:=.seq its.toArray c',slots:=#[] }→EP X pins σ Q (.ref s.heap.objs.size) { s with heap:=h' }:=fun its r' hz h' c' kp e =>
   ⟨.ref s.heap.objs.size,_,I.laid (t':=s.toks) kp (Nat.le_refl _) (show ObjOk X.prog X.w _ h' _ (.lst ys) from ⟨hz,its,c',r',e⟩),rfl,q _ (I.hok.fresh (Nat.le_refl _))⟩
 rcases hq with hq | hq
 · obtain ⟨its,r',pl,hz⟩:=I.list hq
   have hlen:=r'.length
   obtain ⟨o,ho,hc,n,hd⟩:=pl.isList
   exact call_list_seq p (.inl rfl) ho hc hd (fun h' c' kp e=>fin its r' hz h' c' kp e) (by simp only [List.size_toArray] <;> omega)
 · obtain ⟨its,r',pl,hz⟩:=I.tuple hq
   have hlen:=r'.length
   obtain ⟨o,ho,hc,n,hd⟩:=pl
   exact call_list_seq p (.inr rfl) ho hc hd (fun h' c' kp e=>fin its r' hz h' c' kp e) (by simp only [List.size_toArray] <;> omega)
theorem eD:eB X (.type "tuple") (fun xs H Q=>∃ p ys,xs=[.ref p]∧((SqL X.K H p ys∧∀ l,H l=none→Q (.ref l) (upd H l (.tup ys)))∨(SqT X.K H p ys∧Q (.ref p) H))):=by
 intro pins s σ H xs us Q I r h
 obtain ⟨p,ys,rfl,h⟩:=h
 obtain ⟨u,rfl,rx⟩:=gz r
 cases rx
 rcases h with ⟨hq,q⟩ | ⟨hq,q⟩
 · obtain ⟨its,r',pl,hz⟩:=I.list hq
   have hlen:=r'.length
   refine call_tuple_list pl.isList (fun h' kp=>?_) (by simp only [List.size_toArray] <;> omega)
   have I1:Inv X pins σ H { s with heap:=h' }:=I.kept (t':=s.toks) kp
   have I2:Inv X pins σ (upd H h'.objs.size (.tup ys)) { s with heap:=h'.push { cls:=.type "tuple",data:=.seq its.toArray } } :=
     I1.laid (t':=s.toks) (fun b o e=>Heap.get?_push_of_some _ e) (Nat.le_refl _) (show ObjOk X.prog X.w _ _ _ (.tup ys) from ⟨hz,its,r',IsTup.new _ _⟩)
   exact ⟨.ref h'.objs.size,_,I2,rfl,q _ (I1.hok.fresh (Nat.le_refl _))⟩
 · obtain ⟨its,r',pl,hz⟩:=I.tuple hq
   exact call_tuple_same pl ⟨.ref p,H,I,rfl,q⟩
def tyV (K:PySem.W.Frag) (T:String) (x:V) (H:Hp):Prop:=match x with
 | .str _=>T="str"
 | .int _=>T="int"
 | .ref p=>(T="list"∧∃ xs,SqL K H p xs)∨(T="tuple"∧∃ o,K.lookup p=some o∧o.cls=.type "tuple"∧o.dict=none) ∨
     (T="dict"∧((∃ kvs,H p=some (.dK kvs))∨∃ kvs,H p=some (.dT kvs)))∨(T="set"∧∃ S n,H p=some (.set S n))
 | _=>False
theorem uX {pins:List (Addr × Obj)} {σ:St} {H:Hp} {s:Shared} {T:String} {x:V} {v:Value} (I:Inv X pins σ H s) (r:RelV x v) (ty:tyV X.K T x H) :
   s.TypeIs v T∧∀ a,v=.ref a→∃ ob,s.heap.get? a=some ob∧ob.dict=none:=by
 cases x with
 | str z =>
   obtain ⟨t,rfl⟩:=r
   cases (show T="str" from ty)
   exact ⟨typeIs_str s z t,fun _ e=>nomatch e⟩
 | int i =>
   obtain ⟨t,rfl⟩:=r
   cases (show T="int" from ty)
   exact ⟨typeIs_int s i t,fun _ e=>nomatch e⟩
 | ref p =>
   cases r
   rcases ty with ⟨rfl,xs,hq⟩ | ⟨rfl,o,hk,hc,hd⟩ | ⟨rfl,hk⟩ | ⟨rfl,S,n,hk⟩
   · obtain ⟨its,_,pl,_⟩:=I.list hq
     refine ⟨pl.isList.typeIs,fun a e=>?_⟩
     cases e
     obtain ⟨o,n,e,c,hd,_⟩:=pl
     exact ⟨o,e,hd⟩
   · refine ⟨⟨o,I.kIn p o hk,hc⟩,fun a e=>?_⟩
     cases e
     exact ⟨o,I.kIn _ o hk,hd⟩
   · have z:∃ o,s.heap.get? p=some o∧o.ExactDict:=by
       rcases hk with ⟨kvs,hk⟩ | ⟨kvs,hk⟩
       · obtain ⟨_,_,_,_,o,_,_,e,ex,_⟩:=I.hok p _ hk
         exact ⟨o,e,ex⟩
       · obtain ⟨_,_,_,_,o,_,_,e,ex,_⟩:=I.hok p _ hk
         exact ⟨o,e,ex⟩
     obtain ⟨o,e,ex⟩:=z
     refine ⟨⟨o,e,ex.1⟩,fun a e2=>?_⟩
     cases e2
     exact ⟨o,e,ex.2.1⟩
   · obtain ⟨o,_,_,_,e,ex,_⟩:=I.hok p _ hk
     refine ⟨⟨o,e,ex.1⟩,fun a e2=>?_⟩
     cases e2
     exact ⟨o,e,ex.2.1⟩
 | _=>exact False.elim ty
def xP (K:PySem.W.Frag) (T:String) (r:V→List V→Hp→VK→Prop) (to:TE):TE:=fun σ H Q=>to σ H fun x H1=>tyV K T x H1∧r x [] H1 Q
def tBM (K:PySem.W.Frag) (T:String) (r:V→List V→Hp→VK→Prop) (to:TE) (t:TA):TE:=fun σ H Q=>to σ H fun x H1=>tyV K T x H1∧t σ H1 fun xs H2=>r x xs H2 Q
variable {o e:Expr} {es:List Expr} {to:TE} {t:TA} {name:Str} {apos cpos:Pos} {T id:String} {r:V→List V→Hp→VK→Prop}
theorem qc (pa:PlainAttrs T) (slot:Slot T name id) (hty:typeOf (.builtin id)=pure (.type "method_descriptor")) (hm:MtR X id r) (ho:PE X o to)
   (hbase:attributeBase o name X.env (eval o X.env)=eval o X.env:=by rfl) (hline:(apos.endLine == cpos.line)=true:=by rfl):PE X (.Call (.Attribute o name apos) [] [] cpos) (xP X.K T r to):=by
 intro pins s σ H Q I h
 refine wpAny_Call_method0_late hbase hline (bq (ho pins s σ H _ I h) fun v s1 x H1 I1 r1 ⟨ty,q1⟩=>?_)
 obtain ⟨h1,h2⟩:=uX I1 r1 ty
 exact ⟨T,id,pa,slot,hty,h1,h2,Calls.callWith_builtin rfl (PySem.evalArgs_none (hm pins s1 σ H1 x [] v [] Q I1 r1 .nil q1))⟩
theorem fP (pa:PlainAttrs T) (slot:Slot T name id) (hty:typeOf (.builtin id)=pure (.type "method_descriptor")) (hm:MtR X id r) (ho:PE X o to) (ha:PA X (e :: es) t)
   (hbase:attributeBase o name X.env (eval o X.env)=eval o X.env:=by rfl)
   (hfew:((backTo cpos (starEach (e :: es) X.env)).all (fun x=>!x.1) && (backToKw cpos (keywordEach [] X.env)).all (fun x=>x.1.isSome)
     && decide ((e :: es).length + ([]:List Keyword).length + (if ([]:List Keyword).isEmpty then 0 else 1) < 30))=true:=by rfl)
   (hline:(apos.endLine == cpos.line)=true:=by rfl) (hs:starEach (e :: es) X.env=(false,eval e X.env) :: starEach es X.env:=by rfl) (hplain:(backTo cpos (starEach es X.env)).any (·.1)=false:=by rfl) :
   PE X (.Call (.Attribute o name apos) (e :: es) [] cpos) (tBM X.K T r to t):=by
 intro pins s σ H Q I h
 refine wpAny_Call_method_late hbase hfew hline rfl (bq (ho pins s σ H _ I h) fun v s1 x H1 I1 r1 ⟨ty,q1⟩=>?_)
 obtain ⟨h1,h2⟩:=uX I1 r1 ty
 refine ⟨T,id,pa,slot,hty,h1,h2,?_⟩
 have hA:=ha cpos pins s1 σ H1 _ I1 q1
 rw [hs] at hA ⊢
 refine Calls.callWith_builtin (by show (false || (backTo cpos (starEach es X.env)).any (·.1))=false; rw [hplain] <;> rfl) (Calls.evalArgs_plain ?_)
 exact thn hA fun us s2 ⟨vs,H2,I2,r2,q2⟩=>hm pins s2 σ H2 x vs v us Q I2 r1 r2 q2
end
end L2
namespace L2
open PySem PySem.Spec PyProof.Rows
def MtM (X:Cx) (id:String) (r:V→List V→Hp→VK→Prop):Prop :=
 ∀ (pins:List (Addr × Obj)) (s:Shared) (σ:St) (H:Hp) (x:V) (xs:List V) (v:Value) (us:List Value) (Q:VK),Inv X pins σ H s→RelV x v→Vals xs us→r x xs H Q →
   wpAny (model X.prog X.w) X.A (call (.builtin id) (v :: us)) (EP X pins σ Q) X.xe s
theorem Vals.one {x:V} {us:List Value} (h:Vals [x] us):∃ u,us=[u]∧RelV x u:=by
 cases h with
 | cons r t=>cases t; exact ⟨_,rfl,r⟩
theorem Vals.two {x y:V} {us:List Value} (h:Vals [x,y] us):∃ u v,us=[u,v]∧RelV x u∧RelV y v:=by
 cases h with
 | cons r t =>
   obtain ⟨v,e,q⟩:=Vals.one t
   subst e
   exact ⟨_,v,rfl,r,q⟩
theorem Vals.zero:∀ {us:List Value},Vals [] us→us=[]
 | _,.nil=>rfl
theorem Vals.dropLast {xs:List V} {us:List Value} (h:Vals xs us):Vals xs.dropLast us.dropLast:=by
 induction h with
 | nil=>exact .nil
 | cons r t ih =>
   cases t with
   | nil=>exact .nil
   | cons q t'=>exact .cons r ih
theorem Vals.rep {xs:List V} {us:List Value} (h:Vals xs us):∀ k:Nat,Vals (List.replicate k xs).flatten (List.replicate k us).flatten
 | 0=>.nil
 | k + 1=>by
   rw [List.replicate_succ,List.replicate_succ,List.flatten_cons,List.flatten_cons]
   exact Vals.append h (Vals.rep h k)
theorem uh {α:Type} (l:List α):l.eraseIdx (l.length - 1)=l.dropLast:=by
 induction l with
 | nil=>rfl
 | cons a r ih =>
   cases r with
   | nil=>rfl
   | cons b r =>
     have e:(a :: b :: r).length - 1=((b :: r).length - 1) + 1:=by
       have h1:(a :: b :: r).length=r.length + 2:=rfl
       have h2:(b :: r).length=r.length + 1:=rfl
       omega
     rw [e,List.eraseIdx_cons_succ,ih]
     all_goals rfl
theorem nL (its:List Value):∀ (k:Nat) (acc:List Value),
   List.foldl (fun x1 x2=>x1 ++ x2) acc.toArray (List.replicate k its.toArray)=(acc ++ (List.replicate k its).flatten).toArray
 | 0,acc=>by simp
 | k + 1,acc=>by
   have e:acc.toArray ++ its.toArray=(acc ++ its).toArray:=by simp
   have e2:(acc ++ its) ++ (List.replicate k its).flatten=acc ++ (List.replicate (k + 1) its).flatten:=by
     rw [List.replicate_succ,List.flatten_cons,List.append_assoc]
   rw [← e2,← nL its k (acc ++ its),← e,List.replicate_succ,List.foldl_cons]
section
variable {X:Cx} {pins:List (Addr × Obj)} {σ:St} {H:Hp} {s:Shared} {l b:Addr} {xs ys zs:List V}
theorem Inv.lset {its its':List Value} {n:Nat} {f:Array Value→Array Value} {t':Nat} (I:Inv X pins σ H s) (hH:H l=some (.lst xs))
   (e:s.heap.get? l=some { cls:=.type "list",data:=.seq its.toArray n }) (hf:f its.toArray=its'.toArray) (hv:Vals ys its') (hz:ys.length≤sizeLine) :
   Inv X pins σ (upd H l (.lst ys)) { s with heap:=s.heap.update l (Obj.mapSeq f),toks:=t' }:=by
 have q:=PySem.IsL.update e f
 rw [hf] at q
 refine I.write (x:=l) (e:=l) (by rw [hH]; exact trivial) (.inl rfl) (fun b' u hb hu=>(Heap.get?_update_other s.heap (Obj.mapSeq f) (Ne.symm hb)).trans hu) ⟨_,q⟩ ?_
 exact ⟨hz,its',_,hv,q⟩
theorem Inv.lnew {its:List Value} {t':Nat} (I:Inv X pins σ H s) (hv:Vals ys its) (hz:ys.length≤sizeLine) :
   Inv X pins σ (upd H s.heap.objs.size (.lst ys)) { s with heap:=s.heap.push { cls:=.type "list",data:=.seq its.toArray },toks:=t' } :=
 I.laid (fun _ _ q=>Heap.get?_push_of_some _ q) (Nat.le_refl _) ⟨hz,its,0,hv,Heap.get?_push_size _ rfl⟩
theorem Inv.fresh (I:Inv X pins σ H s):H s.heap.objs.size=none:=I.hok.fresh (Nat.le_refl _)
theorem Inv.lstM (I:Inv X pins σ H s) (hH:H l=some (.lst xs)):xs.length≤sizeLine∧∃ (its:List Value) (n:Nat),Vals xs its∧xs.length=its.length∧s.heap.get? l=some { cls:=.type "list",data:=.seq its.toArray n }:=by
 obtain ⟨z,its,n,r,e⟩:=I.hok l _ hH
 exact ⟨z,its,n,r,r.length,e⟩
theorem xf {n:Nat} (h:n≤sizeLine):Builtin.List.listTooLong n=false:=by
 unfold Builtin.List.listTooLong
 exact decide_eq_false (by omega)
end
section
variable {X:Cx}
def rAppend:V→List V→Hp→VK→Prop:=fun x vs H Q=>∃ l xs y,x=.ref l∧vs=[y]∧H l=some (.lst xs)∧xs.length < sizeLine∧Q .non (upd H l (.lst (xs ++ [y])))
theorem cG:MtM X "list.append" rAppend:=by
 intro pins s σ H x vs v us Q I rx rv h
 obtain ⟨l,xs,y,rfl,rfl,hH,hz,q⟩:=h
 cases rx
 obtain ⟨u,rfl,ru⟩:=rv.one
 obtain ⟨z,its,n,r,hl,e⟩:=I.lstM hH
 refine call_meets F.slot_list_append ⟨_,e,rfl⟩ F.entry_list_append (F.args_list_append_2 _ _) (PySem.list_append l its.toArray n u (by rw [List.size_toArray]; omega)) ⟨e,?_⟩
 refine ⟨.non,_,I.lset (its':=its ++ [u]) hH e (by simp) (r.append (.cons ru .nil)) ?_,rfl,q⟩
 rw [List.length_append,List.length_singleton]
 omega
def rPop:V→List V→Hp→VK→Prop:=fun x vs H Q=>∃ l xs y,x=.ref l∧vs=[]∧H l=some (.lst xs)∧xs[xs.length - 1]?=some y∧Q y (upd H l (.lst xs.dropLast))
theorem pH:MtM X "list.pop" rPop:=by
 intro pins s σ H x vs v us Q I rx rv h
 obtain ⟨l,xs,y,rfl,rfl,hH,hy,q⟩:=h
 cases rx
 have hus:=rv.zero
 subst hus
 obtain ⟨z,its,n,r,hl,e⟩:=I.lstM hH
 obtain ⟨u,hu,ru⟩:=r.get hy
 have hy':its.toArray[its.toArray.size - 1]?=some u:=by
   show its.toArray[its.length - 1]?=some u
   rw [← Array.getElem?_toList,← hl]
   exact hu
 refine call_meets F.slot_list_pop ⟨_,e,rfl⟩ F.entry_list_pop (F.args_list_pop_1 _) (MeetsSeq.list_pop_last l its.toArray n u hy' (by rw [List.size_toArray]; omega)) ⟨e,?_⟩
 refine ⟨y,_,I.lset (its':=its.dropLast) hH e ?_ r.dropLast ?_,ru,q⟩
 · show its.toArray.eraseIdxIfInBounds (its.toArray.size - 1)=its.dropLast.toArray
   rw [List.size_toArray,List.eraseIdxIfInBounds_toArray,uh]
 · rw [List.length_dropLast]
   omega
def rRep:R2:=fun x y H Q=>∃ l k xs,x=.ref l∧y=.int k∧H l=some (.lst xs)∧-(2 ^ 63)≤k∧k < 2 ^ 63∧xs.length * k.toNat≤sizeLine ∧
 ∀ p,H p=none→Q (.ref p) (upd H p (.lst (List.replicate k.toNat xs).flatten))
theorem z3 {α:Type} (xs:List α) (k:Nat):(List.replicate k xs).flatten.length=k * xs.length:=by
 induction k with
 | zero=>simp
 | succ k ih=>rw [List.replicate_succ,List.flatten_cons,List.length_append,ih,Nat.succ_mul,Nat.add_comm]
theorem qt:OpR X (binaryOp .Mult) rRep:=by
 intro pins s σ H x y v u Q I rx ry h
 obtain ⟨l,k,xs,rfl,rfl,hH,h1,h2,hz,q⟩:=h
 cases rx
 obtain ⟨t,rfl⟩:=ry
 obtain ⟨z,its,n,r,hl,e⟩:=I.lstM hH
 have hlen:its.toArray.size * k.toNat≤sizeLine:=by rw [List.size_toArray,← hl]; exact hz
 have hcap:¬ its.toArray.size * k.toNat > (2 ^ 63 - 1) / 8:=by
   have:(sizeLine:Nat)≤(2 ^ 63 - 1) / 8:=by decide
   omega
 have hfit:¬ (!Builtin.List.listFitsIndex k)=true:=by
   rw [fitsIndex_both h1 h2]
   exact Bool.false_ne_true
 have hlong:¬ Builtin.List.listTooLong (its.toArray.size * k.toNat)=true:=by
   rw [xf hlen]
   exact Bool.false_ne_true
 have hnew:List.foldl (fun x1 x2=>x1 ++ x2) #[] (List.replicate (if its.toArray.isEmpty=true then 0 else k.toNat) its.toArray)=(List.replicate k.toNat its).flatten.toArray:=by
   have f0:∀ m:Nat,List.foldl (fun x1 x2=>x1 ++ x2) #[] (List.replicate m its.toArray)=(List.replicate m its).flatten.toArray:=fun m=>by
     have:=nL its m []
     rw [List.nil_append] at this
     exact this
   rw [f0]
   cases its with
   | nil=>simp
   | cons a r'=>rw [if_neg (by simp)]
 refine wpAny_binaryOp_repeat_ref (T:="list") (U:="int") (by decide) ⟨_,e,rfl⟩ (fun s'=>typeIs_int s' k t) noFill_list_mul F.fills_int_mul F.slot_int_rmul repeat_list F.slot_int_index.lookup
   (call_meets F.slot_int_rmul (typeIs_int s k t) F.entry_int_rmul (F.args_int_rmul_2 _ _) (int___rmul___int_list k t l its.toArray n)
     ⟨e,rfl,⟨_,e,rfl⟩,call_meets F.slot_list_mul ⟨_,e,rfl⟩ F.entry_list_mul (F.args_list_mul_2 _ _) (AutoListH.list___mul___list_int_3 l its.toArray n k t hfit hcap hlong) ⟨e,?_⟩⟩)
 rw [hnew]
 exact ⟨.ref _,_,I.lnew (t':=s.toks) (r.rep k.toNat) (by rw [z3,Nat.mul_comm]; exact hz),rfl,q _ I.fresh⟩
end
section
variable {prog:Program} {w:World} {A:Around} {E:Value→Shared→Prop} {s:Shared}
set_option maxRecDepth 100000 in
end
section
variable {X:Cx}
end
end L2
namespace L2
open PySem PySem.Spec PyProof.Rows
section
variable {κ:Type} [DecidableEq κ]
def fA (kvs:List (κ × V)) (k:κ):Option V:=(kvs.find? fun kv=>decide (kv.1=k)).map (·.2)
def dQ (kvs:List (κ × V)) (k:κ) (v:V):List (κ × V) :=
 if (kvs.any fun kv=>decide (kv.1=k))=true then kvs.map (fun kv=>if kv.1=k then (kv.1,v) else kv) else kvs ++ [(k,v)]
theorem jg {p:κ × V} {r:List (κ × V)} {k:κ} (e:p.1=k):fA (p :: r) k=some p.2:=by simp [fA,List.find?_cons,e]
theorem jm {p:κ × V} {r:List (κ × V)} {k:κ} (e:¬ p.1=k):fA (p :: r) k=fA r k:=by simp [fA,List.find?_cons,e]
theorem k6 (k:κ):∀ kvs:List (κ × V),(kvs.any fun kv=>decide (kv.1=k))=(fA kvs k).isSome
 | []=>rfl
 | p :: r=>by
   rw [List.any_cons]
   by_cases e:p.1=k
   · simp only [jg e,decide_eq_true e,Bool.true_or,Option.isSome_some]
   · rw [jm e,decide_eq_false e,Bool.false_or]; exact k6 k r
theorem ii (kvs:List (κ × V)) (k:κ) (v:V):(dQ kvs k v).length≤kvs.length + 1:=by
 unfold dQ
 split
 · rw [List.length_map]; omega
 · rw [List.length_append,List.length_cons,List.length_nil]; omega
theorem zg {kvs:List (κ × V)} {k:κ} (v:V) (h:fA kvs k=none):dQ kvs k v=kvs ++ [(k,v)]:=by
 unfold dQ
 rw [k6,h]
 exact if_neg (by decide)
theorem RelO.isSome_eq {o:Option V} {u:Option Value} (r:RelO o u):o.isSome=u.isSome:=by
 cases o with
 | none=>cases u with
   | none=>rfl
   | some _=>exact (show False from r).elim
 | some _=>cases u with
   | none=>exact (show False from r).elim
   | some _=>rfl
theorem KV.val {kvs:List (κ × V)} {vs:List (κ × Value)} (r:KV kvs vs) (k:κ):RelO (fA kvs k) (valueAt vs k):=by
 unfold KV at r
 induction r with
 | nil=>exact True.intro
 | @cons p q ps qs h t ih =>
   obtain ⟨h1,h2⟩:=h
   by_cases e:p.1=k
   · have e':q.1=k:=h1.symm.trans e
     have b:valueAt (q :: qs) k=some q.2:=by simp [valueAt,List.find?_cons,e']
     rw [jg e,b]; exact h2
   · have e':¬ q.1=k:=fun z=>e (h1.trans z)
     have b:valueAt (q :: qs) k=valueAt qs k:=by simp [valueAt,List.find?_cons,e']
     rw [jm e,b]; exact ih
theorem KV.any {kvs:List (κ × V)} {vs:List (κ × Value)} (r:KV kvs vs) (k:κ):(kvs.any fun kv=>decide (kv.1=k))=vs.any fun kv=>decide (kv.1=k):=by
 unfold KV at r
 induction r with
 | nil=>rfl
 | cons h t ih=>rw [List.any_cons,List.any_cons,ih,h.1]
theorem KV.repl {kvs:List (κ × V)} {vs:List (κ × Value)} (r:KV kvs vs) (k:κ) {y:V} {u:Value} (ry:RelV y u) :
   KV (kvs.map fun kv=>if kv.1=k then (kv.1,y) else kv) (vs.map fun kv=>if kv.1=k then (kv.1,u) else kv):=by
 unfold KV at r ⊢
 induction r with
 | nil=>exact .nil
 | @cons p q ps qs h t ih =>
   rw [List.map_cons,List.map_cons]
   refine .cons ?_ ih
   obtain ⟨h1,h2⟩:=h
   by_cases e:p.1=k
   · rw [if_pos e,if_pos (h1.symm.trans e)]; exact ⟨h1,ry⟩
   · rw [if_neg e,if_neg (fun z=>e (h1.trans z))]; exact ⟨h1,h2⟩
theorem KV.put {kvs:List (κ × V)} {vs:List (κ × Value)} (r:KV kvs vs) (k:κ) {y:V} {u:Value} (ry:RelV y u):KV (dQ kvs k y) (stored vs k u):=by
 unfold dQ stored
 rw [r.any k]
 by_cases e:(vs.any fun kv=>decide (kv.1=k))=true
 · rw [if_pos e,if_pos e]; exact r.repl k ry
 · rw [if_neg e,if_neg e]; exact Paired.snoc r ⟨rfl,ry⟩
theorem KV.length {kvs:List (κ × V)} {vs:List (κ × Value)} (r:KV kvs vs):kvs.length=vs.length:=Paired.length r
end
theorem pd {P:Program} {w:World} {k:Key} {u:Value} (r:RelV (kV k) u):(cw P w).is k u=true:=by
 cases k with
 | inl i=>obtain ⟨t,e⟩:=(show ∃ t,u=Value.int i t from r); subst e; exact rp P w i t
 | inr x=>obtain ⟨t,e⟩:=(show ∃ t,u=Value.str x t from r); subst e; exact rF P w x t
theorem oJ {P:Program} {w:World}:∀ {ks:List Key} {us:List Value},Vals (ks.map kV) us→ItemsAre (cw P w) ks us
 | [],_,r=>by rw [List.map_nil] at r; cases r; exact .nil
 | k :: ks,_,r=>by
   rw [List.map_cons] at r
   cases r with
   | cons h t=>exact .cons (pd h) (oJ t)
abbrev KT (H:Hp):List (List Key × V)→List (List Key × Addr × Value)→Prop:=Paired fun p q=>p.1=q.1∧H q.2.1=some (.tup (p.1.map kV))∧RelV p.2 q.2.2
theorem KT.val {H:Hp} {kvs:List (List Key × V)} {xs:List (List Key × Addr × Value)} (r:KT H kvs xs) (k:List Key):RelO (fA kvs k) ((atKey xs k).map (·.2)):=by
 induction r with
 | nil=>exact True.intro
 | @cons p q ps qs h t ih =>
   obtain ⟨h1,_,h2⟩:=h
   by_cases e:p.1=k
   · have e':q.1=k:=h1.symm.trans e
     have b:atKey (q :: qs) k=some q.2:=by simp [atKey,List.find?_cons,e']
     rw [jg e,b]; exact h2
   · have e':¬ q.1=k:=fun z=>e (h1.trans z)
     have b:atKey (q :: qs) k=atKey qs k:=by simp [atKey,List.find?_cons,e']
     rw [jm e,b]; exact ih
theorem KT.repl {H:Hp} {kvs:List (List Key × V)} {xs:List (List Key × Addr × Value)} (r:KT H kvs xs) (k:List Key) {y:V} {u:Value} (ry:RelV y u) :
   KT H (kvs.map fun kv=>if kv.1=k then (kv.1,y) else kv) (xs.map (putAt k u)):=by
 induction r with
 | nil=>exact .nil
 | @cons p q ps qs h t ih =>
   rw [List.map_cons,List.map_cons]
   refine .cons ?_ ih
   obtain ⟨h1,h2,h3⟩:=h
   unfold putAt
   by_cases e:p.1=k
   · rw [if_pos e,if_pos (h1.symm.trans e)]; exact ⟨h1,h2,ry⟩
   · rw [if_neg e,if_neg (fun z=>e (h1.trans z))]; exact ⟨h1,h2,h3⟩
theorem KT.put {H:Hp} {kvs:List (List Key × V)} {xs:List (List Key × Addr × Value)} (r:KT H kvs xs) (k:List Key) {b:Addr} {y:V} {u:Value} (hb:H b=some (.tup (k.map kV))) (ry:RelV y u) :
   KT H (dQ kvs k y) (storedH xs k b u):=by
 have e:(kvs.any fun kv=>decide (kv.1=k))=(atKey xs k).isSome:=by
   rw [k6,(r.val k).isSome_eq,Option.isSome_map]
 unfold dQ storedH
 rw [e]
 by_cases q:(atKey xs k).isSome=true
 · rw [if_pos q,if_pos q]; exact r.repl k ry
 · rw [if_neg q,if_neg q]; exact Paired.snoc r ⟨rfl,hb,ry⟩
theorem KT.keeps {H H':Hp} {kvs:List (List Key × V)} {xs:List (List Key × Addr × Value)} (r:KT H kvs xs) (ht:∀ b ys,H b=some (.tup ys)→H' b=some (.tup ys)):KT H' kvs xs :=
 Paired.mapP r fun _ _ z=>⟨z.1,ht _ _ z.2.1,z.2.2⟩
section
variable {P:Program} {w:World} {H:Hp} {h:Heap} {a:Addr}
theorem zR {u:HO} (ok:HOk P w H h) (e:Rd H a u):ObjOk P w H h a u:=e.ok ok
theorem tF {kvs:List (Key × V)} (ok:HOk P w H h) (e:Rd H a (.dK kvs)):kvs.length≤sizeLine∧(a == sysModules)=false∧∃ vs,KV kvs vs∧h.DictOf (cw P w) a vs :=
 show ObjOk P w H h a (.dK kvs) from zR ok e
theorem zH {kvs:List (Key × V)} (ok:HOk P w H h) (e:H a=some (.dK kvs)):kvs.length≤sizeLine∧(a == sysModules)=false∧∃ vs,KV kvs vs∧h.DictOf (cw P w) a vs:=tF ok (.inl e)
theorem pG {ks:List Key} (ok:HOk P w H h) (e:H a=some (.tup (ks.map kV))):(tupleKind (cw P w)).is h ks a:=by
 obtain ⟨_,its,r,o,h1,h2,n,h3⟩:=(show ObjOk P w H h a (.tup (ks.map kV)) from ok a _ e)
 exact ⟨o,its.toArray,n,h1,h2,h3,by simpa using oJ r⟩
theorem zF {kvs:List (List Key × V)} (ok:HOk P w H h) (e:Rd H a (.dT kvs)):kvs.length≤sizeLine∧(a == sysModules)=false ∧
   ∃ xs,KT H kvs xs∧h.DictOfH (tupleKind (cw P w)) a xs:=by
 obtain ⟨z,y,xs,r,o,es,ep,h1,h2,h3,h4,h5⟩:=(show ObjOk P w H h a (.dT kvs) from zR ok e)
 refine ⟨z,y,xs,r,o,es,ep,h1,h2,h3,h4,fun x hx=>?_,h5⟩
 have all:∀ {l:List (List Key × V)} {m:List (List Key × Addr × Value)},KT H l m→∀ x∈m,(tupleKind (cw P w)).is h x.1 x.2.1:=by
   intro l m q
   induction q with
   | nil=>intro x hx; exact nomatch hx
   | @cons p q ps qs hq t ih =>
     intro x hx
     rcases List.mem_cons.mp hx with e | hx
     · subst e
       exact pG ok (by rw [← hq.1]; exact hq.2.1)
     · exact ih x hx
 exact all r x hx
theorem Ct {kvs:List (List Key × V)} (ok:HOk P w H h) (e:H a=some (.dT kvs)):kvs.length≤sizeLine∧(a == sysModules)=false ∧
   ∃ xs,KT H kvs xs∧h.DictOfH (tupleKind (cw P w)) a xs:=zF ok (.inl e)
end
def DGet (H:Hp) (a:Addr) (y:V) (r:Option V):Prop :=
 (∃ kvs k,Rd H a (.dK kvs)∧y=kV k∧r=fA kvs k)∨∃ kvs k b,Rd H a (.dT kvs)∧y=.ref b∧H b=some (.tup (k.map kV))∧r=fA kvs k
def DPut (H:Hp) (a:Addr) (y v:V) (H':Hp):Prop :=
 (∃ kvs k,H a=some (.dK kvs)∧y=kV k∧kvs.length < sizeLine∧H'=upd H a (.dK (dQ kvs k v))) ∨
 ∃ kvs k b,H a=some (.dT kvs)∧y=.ref b∧H b=some (.tup (k.map kV))∧kvs.length < sizeLine∧H'=upd H a (.dT (dQ kvs k v))
theorem DGet.k {H:Hp} {a:Addr} {kvs:List (Key × V)} {k:Key} (e:H a=some (.dK kvs)):DGet H a (kV k) (fA kvs k):=.inl ⟨kvs,k,.inl e,rfl,rfl⟩
theorem DPut.k {H:Hp} {a:Addr} {kvs:List (Key × V)} {k:Key} {v:V} (e:H a=some (.dK kvs)) (hl:kvs.length < sizeLine):DPut H a (kV k) v (upd H a (.dK (dQ kvs k v))):=.inl ⟨kvs,k,e,rfl,hl,rfl⟩
section
variable {X:Cx} {pins:List (Addr × Obj)} {σ:St} {H:Hp} {s:Shared} {a:Addr} {y v:V} {u r:Value} {o:Option V} {A:Around} {E:Value→Shared→Prop}
theorem Inv.big (I:Inv X pins σ H s):sysModules < s.heap.objs.size:=by
 have h:mainGlobals < s.heap.objs.size:=(I.mod.glob.keeps I.bk).lt
 exact Nat.lt_trans (by decide) h
theorem Ar {Q:Value→Shared→Prop} (hu:A.units + 1 < cLine) (I:Inv X pins σ H s) (g:DGet H a y o) (ry:RelV y u) (h:∀ s',Inv X pins σ H s'→Q (.bool (!o.isSome)) s') :
   wpAny (model X.prog X.w) A (compareOp .NotIn u (.ref a)) Q E s:=by
 rcases g with ⟨kvs,k,e,ey,l⟩ | ⟨kvs,k,b,e,ey,eb,l⟩
 · subst ey
   obtain ⟨z,hd,vs,rel,dd⟩:=tF I.hok e
   refine wpAny_notIn_of (pd ry) hd dd.mapOf ?_
   rw [← (rel.val k).isSome_eq,← l]
   exact h _ (I.tok _)
 · subst ey
   cases (show u=Value.ref b from ry)
   obtain ⟨z,hd,xs,rel,dd⟩:=zF I.hok e
   refine wpAny_notIn_heap (tupleKind_room_in1 hu) (pG I.hok eb) hd dd ?_
   have q:=(rel.val k).isSome_eq
   rw [Option.isSome_map] at q
   rw [← q,← l]
   exact h _ (I.tok _)
theorem nD {h':Heap} {t':Nat} {ob:HO} (I:Inv X pins σ H s) (mu:Mut (H a)) (hs:Heap.SameBut a s.heap h') (he:∃ q,h'.get? a=some q) (new:ObjOk X.prog X.w (upd H a ob) h' a ob) :
   Inv X pins σ (upd H a ob) { s with heap:=h',toks:=t' } :=
 I.write (x:=a) (e:=a) mu (.inl rfl) (fun b q hb z=>(hs.2 b hb).trans z) he new
theorem vw {P:Program} {w:World} {H':Hp} {h':Heap} {kvs:List (Key × V)} {vs:List (Key × Value)} (z:kvs.length≤sizeLine) (hd:(a == sysModules)=false) (rel:KV kvs vs) (dd:h'.DictOf (cw P w) a vs) :
   ObjOk P w H' h' a (.dK kvs):=⟨z,hd,vs,rel,dd⟩
theorem uW {H':Hp} {Q:Unit→Shared→Prop} (hu:A.units + 1 < cLine) (I:Inv X pins σ H s) (g:DPut H a y v H') (ry:RelV y u) (rv:RelV v r) (h:∀ s',Inv X pins σ H' s'→Q () s') :
   wpAny (model X.prog X.w) A (setItem (.ref a) u r) Q E s:=by
 rcases g with ⟨kvs,k,e,ey,l,eH⟩ | ⟨kvs,k,b,e,ey,eb,l,eH⟩
 · subst ey eH
   obtain ⟨z,hd,vs,rel,dd⟩:=zH I.hok e
   have hz:vs.length≤sizeLine:=by rw [← rel.length]; exact z
   have hl:(dQ kvs k v).length≤sizeLine:=by have:=ii kvs k v; omega
   refine wpAny_setItem_pairs (hsz:=hz) (pd ry) dd fun h' dd' hs=>h _ ?_
   have he:∃ q,h'.get? a=some q:=let ⟨q,_,_,hq,_⟩:=dd'; ⟨q,hq⟩
   exact nD I (by rw [e]; exact True.intro) hs he (vw hl hd (rel.put k rv) dd')
 · subst ey eH
   cases (show u=Value.ref b from ry)
   obtain ⟨z,hd,xs,rel,dd⟩:=Ct I.hok e
   have hz:xs.length≤sizeLine:=by rw [← Paired.length rel]; exact z
   have hl:(dQ kvs k v).length≤sizeLine:=by have:=ii kvs k v; omega
   refine wpAny_setItem_heap (hsz:=hz) (tupleKind_room_in1 hu) (pG I.hok eb) dd fun h' dd' hs=>h _ ?_
   obtain ⟨q,es,ep,hq,h2,h3,h4,_,h5⟩:=dd'
   refine nD I (by rw [e]; exact True.intro) hs ⟨q,hq⟩ ⟨hl,hd,_,(rel.put k eb rv).keeps fun c ys ec=>?_,q,es,ep,hq,h2,h3,h4,h5⟩
   rw [aq (dk ec e (fun z=>nomatch z))]
   exact ec
end
section
variable {X:Cx} {pins:List (Addr × Obj)} {σ:St} {H:Hp} {s:Shared} {a:Addr} {kvs:List (Key × V)} {k:Key} {u:Value} {A:Around} {E:Value→Shared→Prop}
theorem Cv {Q:Value→Shared→Prop} (I:Inv X pins σ H s) (e:Rd H a (.dK kvs)) (h:∀ t s',Inv X pins σ H s'→Q (.int kvs.length t) s'):wpAny (model X.prog X.w) A (call (.builtin "len") [.ref a]) Q E s:=by
 obtain ⟨z,hd,vs,rel,dd⟩:=tF I.hok e
 refine call_len_dict hd dd (by rw [← rel.length]; rw [sizeLine_eq] at z; omega) ?_
 rw [← rel.length]
 exact h _ _ (I.tok _)
end
def zC (td ty:TE):TE:=fun σ H Q=>td σ H fun x H1=>ty σ H1 fun y H2=>∃ a v,x=.ref a∧DGet H2 a y (some v)∧Q v H2
def AX (ty td:TE):TE:=fun σ H Q=>ty σ H fun y H1=>td σ H1 fun x H2=>∃ a o,x=.ref a∧DGet H2 a y o∧Q (.bl o.isSome) H2
def mN (ty td:TE):TE:=fun σ H Q=>ty σ H fun y H1=>td σ H1 fun x H2=>∃ a o,x=.ref a∧DGet H2 a y o∧Q (.bl (!o.isSome)) H2
def tW (td ty tv:TE):TS:=fun D σ H=>tv σ H fun v H1=>td σ H1 fun x H2=>ty σ H2 fun y H3=>∃ a H4,x=.ref a∧DPut H3 a y v H4∧D.nx σ H4
section
variable {X:Cx} {o i e value:Expr} {pos pos' tpos:Pos} {td ty tv:TE}
theorem uD (hu:X.A.units + 1 < cLine) (hi:PE X i ty) (ho:PE X o td):PC X .NotIn i o (mN ty td):=by
 intro pins s σ H Q I h
 refine bq (hi pins s σ H _ I h) fun iv s1 y H1 I1 ry q1=>bq (ho pins s1 σ H1 _ I1 q1) fun u s2 x H2 I2 rx ⟨a,ov,ex,g,q2⟩=>?_
 subst ex
 obtain rfl:u=Value.ref a:=rx
 exact Ar hu I2 g ry fun s3 I3=>⟨.bl (!ov.isSome),H2,I3,rfl,q2⟩
theorem zW (hu:X.A.units + 1 < cLine) (ho:PE X o td) (hi:PE X i ty) (hv:PE X value tv) (hs:swapsWith value (some (.Subscript o i pos')) pos.line X.env=pure false) :
   PS X (.Assign [.Subscript o i pos'] value pos) (tW td ty tv):=by
 intro pins s σ H D I h
 refine wpAny_Assign_Subscript (bq (hv pins s σ H _ I h) fun r s1 v H1 I1 rv q1=>bq (ho pins s1 σ H1 _ I1 q1) fun u s2 x H2 I2 rx q2=>bq (hi pins s2 σ H2 _ I2 q2) fun iv s3 y H3 I3 ry ⟨a,H4,ex,g,q3⟩=>?_) hs
 subst ex
 obtain rfl:u=Value.ref a:=rx
 exact uW hu I3 g ry rv fun s4 I4=>⟨σ,H4,I4,q3⟩
end
theorem y8 {P:Program} {w:World} {H:Hp} (h:Heap) (hb:sysModules < h.objs.size):ObjOk P w H (h.push { cls:=.type "dict",data:=.dict #[] }) h.objs.size (.dK []) :=
 ⟨Nat.zero_le _,beq_eq_false_iff_ne.mpr (Ne.symm (Nat.ne_of_lt hb)),[],.nil,Heap.DictOf.new h⟩
def u8:TE:=fun _ H Q=>∀ p,H p=none→Q (.ref p) (upd H p (.dK []))
def vN:TE:=fun _ H Q=>∀ p,H p=none→Q (.ref p) (upd H p (.dT []))
section
variable {X:Cx} {pos:Pos}
end
def iz:List (TE × TE)→St→Hp→(List (V × V)→Hp→Prop)→Prop
 | [],_,H,Q=>Q [] H
 | (tk,tv) :: r,σ,H,Q=>tk σ H fun x H1=>tv σ H1 fun y H2=>iz r σ H2 fun ps H3=>Q ((x,y) :: ps) H3
abbrev VV:List (V × V)→List (Value × Value)→Prop:=Paired fun p q=>RelV p.1 q.1∧RelV p.2 q.2
def PPs (X:Cx) (pos:Pos) (keys:List (Option Expr)) (values:List Expr) (trs:List (TE × TE)):Prop :=
 ∀ (pins:List (Addr × Obj)) (s:Shared) (σ:St) (H:Hp) (Q:List (V × V)→Hp→Prop),Inv X pins σ H s→iz trs σ H Q →
   wpAny (model X.prog X.w) X.A (evalPairs (pairTrees keys values X.env pos)) (fun vs s'=>∃ ps H',Inv X pins σ H' s'∧VV ps vs∧Q ps H') X.xe s
theorem Aj {X:Cx} {pos:Pos}:PPs X pos [] [] []:=fun pins s σ H Q I h=>pairTrees_nil_walk ⟨[],H,I,.nil,h⟩
theorem yD {X:Cx} {pos:Pos} {k v:Expr} {ks:List (Option Expr)} {vs:List Expr} {tk tv:TE} {trs:List (TE × TE)} (hk:PE X k tk) (hv:PE X v tv) (hr:PPs X pos ks vs trs) :
   PPs X pos (some k :: ks) (v :: vs) ((tk,tv) :: trs):=fun pins s σ H Q I h =>
 pairTrees_cons_walk (bq (hk pins s σ H _ I h) fun u s1 x H1 I1 rx q1=>bq (hv pins s1 σ H1 _ I1 q1) fun w2 s2 y H2 I2 ry q2 =>
   thn (hr pins s2 σ H2 _ I2 q2) fun ws s3 ⟨ps,H3,I3,rel,q3⟩=>⟨(x,y) :: ps,H3,I3,.cons ⟨rx,ry⟩ rel,q3⟩)
def iK (kvs more:List (Key × V)):List (Key × V):=more.foldl (fun acc kv=>dQ acc kv.1 kv.2) kvs
theorem KV.merge:∀ {more:List (Key × V)} {rs:List (Key × Value)} {kvs:List (Key × V)} {vs:List (Key × Value)},KV more rs→KV kvs vs→KV (iK kvs more) (merged vs rs):=by
 intro more rs kvs vs r
 unfold KV at r
 induction r generalizing kvs vs with
 | nil=>intro q; exact q
 | @cons p q ps qs h t ih =>
   intro r0
   have e:KV (dQ kvs p.1 p.2) (stored vs q.1 q.2):=by
     have:=r0.put p.1 h.2
     rw [← h.1]; exact this
   exact ih e
theorem jo:∀ (more kvs:List (Key × V)),(iK kvs more).length≤kvs.length + more.length
 | [],kvs=>by show kvs.length≤kvs.length + 0; omega
 | p :: r,kvs=>by
   have h1:=jo r (dQ kvs p.1 p.2)
   have h2:=ii kvs p.1 p.2
   show (iK (dQ kvs p.1 p.2) r).length≤_
   rw [List.length_cons]; omega
theorem mI {P:Program} {w:World}:∀ {kvs:List (Key × V)} {ws:List (Value × Value)},VV (kvs.map fun kv=>(kV kv.1,kv.2)) ws→∃ rs,Carries (cw P w) ws rs∧KV kvs rs
 | [],_,r=>by rw [List.map_nil] at r; cases r; exact ⟨[],True.intro,.nil⟩
 | p :: kvs,_,r=>by
   rw [List.map_cons] at r
   cases r with
   | @cons a b as bs h t =>
     obtain ⟨rs,c,q⟩:=mI (P:=P) (w:=w) t
     obtain ⟨b1,b2⟩:=b
     exact ⟨(p.1,b2) :: rs,⟨pd h.1,rfl,c⟩,.cons ⟨rfl,h.2⟩ q⟩
def sK (trs:List (TE × TE)):TE:=fun σ H Q=>∀ p,H p=none→iz trs σ (upd H p (.dK [])) fun ps H2=>H2 p=some (.dK [])∧∃ kvs:List (Key × V),ps=kvs.map (fun kv=>(kV kv.1,kv.2))∧kvs.length≤15∧Q (.ref p) (upd H2 p (.dK (iK [] kvs)))
theorem z9 {X:Cx} {pos:Pos} {keys:List (Option Expr)} {values:List Expr} {trs:List (TE × TE)} (h:PPs X pos keys values trs) (hall:keys.all (·.isSome)=true) (hl:keys.length=values.length) (h0:keys≠[])
   (h15:keys.length≤15):PE X (.Dict keys values pos) (sK trs):=by
 intro pins s σ H Q I q
 have hn:=I.hok.fresh (Nat.le_refl s.heap.objs.size)
 have I1:=I.laid (a:=s.heap.objs.size) (o:=.dK []) (h':=s.heap.push { cls:=.type "dict",data:=.dict #[] }) (t':=s.toks) (fun _ _ q=>Heap.get?_push_of_some _ q) (Nat.le_refl _) (y8 s.heap I.big)
 refine wpAny_Dict_walk (knd:=cw X.prog X.w) hall hl h0 h15 (thn (h pins _ σ _ _ I1 (q _ hn)) fun ws s2 ⟨ps,H2,I2,rel,e,kvs,ep,lk,q2⟩=>?_)
 subst ep
 obtain ⟨rs,c,rk⟩:=mI (P:=X.prog) (w:=X.w) rel
 obtain ⟨z,hd,vs0,r0,dd⟩:=zH I2.hok e
 cases r0
 refine ⟨rs,c,dd,fun h' dd' hs=>⟨.ref s.heap.objs.size,_,?_,rfl,q2⟩⟩
 have hz:(iK [] kvs).length≤sizeLine:=by
   have h1:=jo kvs []
   rw [List.length_nil] at h1
   rw [sizeLine_eq]; omega
 have he:∃ q,h'.get? s.heap.objs.size=some q:=let ⟨q,_,_,hq,_⟩:=dd'; ⟨q,hq⟩
 exact nD I2 (by rw [e]; exact True.intro) hs he (vw hz hd (rk.merge .nil) dd')
section
variable {X:Cx} {pins:List (Addr × Obj)} {σ:St} {H:Hp} {s:Shared} {a:Addr} {y d:V} {u r:Value} {o:Option V} {A:Around} {E:Value→Shared→Prop}
end
section
variable {X:Cx} {o e f:Expr} {apos cpos:Pos} {td ty tx:TE}
end
section
variable {X:Cx} {pins:List (Addr × Obj)} {σ:St} {H:Hp} {s:Shared} {a:Addr} {kvs:List (Key × V)} {A:Around} {E:Value→Shared→Prop}
end
section
variable {X:Cx} {pins:List (Addr × Obj)} {σ:St} {H:Hp} {s:Shared} {a:Addr} {y:V} {u:Value} {A:Around} {E:Value→Shared→Prop}
end
end L2
namespace Att
open PySem PySem.W PySem.Calls PyProof.Rows
theorem mE {P:Params} {h:Heap}:∀ (ns:List Int) (vs:List Value),WellAll P h vs (ns.map WData.int)→IntsAre vs ns:=by
 intro ns
 induction ns with
 | nil =>
   intro vs w
   rw [List.map_nil] at w
   cases w
   exact .nil
 | cons n ns ih =>
   intro vs w
   rw [List.map_cons] at w
   cases w with
   | cons a b =>
     cases a
     exact .cons _ _ (ih _ b)
theorem uB {l:OpenLaw} {n:Nat} (hn:l.most=some n) {P:Params} {h:Heap} {args:List WData} {vals:List Value}
   (hpre:l.row.toRowW.claim.pre args=true) (hwl:WellAll P h vals args) :
   ∃ a vs ns,vals=[Value.ref a]∧args=[WData.list (ns.map WData.int)]∧h.get? a=some { cls:=.type "list",data:=.seq vs.toArray }∧IntsAre vs ns∧ns.length≤n:=by
 have hsh:WShape.hasAll [] args [.list .int]=true:=(pre_splitW hpre).1
 have hc:l.pre.holds [] { args:=args }=true:=(pre_splitW hpre).2
 obtain ⟨d,r,rfl,h1,h2⟩:=hasAllW_cons hsh
 obtain rfl:=hasAllW_nil h2
 obtain ⟨xs,rfl,h3⟩:=hasW_list h1
 obtain ⟨ns,rfl⟩:=items_int h3
 have hlen:ns.length≤n:=by
   unfold OpenLaw.pre at hc
   have h4:(WTm.not (.lt (.lit (.int (n:Int))) (.len (.arg 0)))).holds [] { args:=[.list (ns.map .int)] }=true:=by
     have h4:=(holds_andW hc).1
     rw [hn] at h4
     exact h4
   have h5:=condW_of h4 (w_not (w_lt w_lit (w_len_list (w_arg rfl))))
   rw [List.length_map] at h5
   refine Nat.le_of_not_lt fun q=>?_
   have q':(n:Int) < ((ns.length:Nat):Int):=by omega
   first
     | (rw [decide_eq_true q'] at h5; exact absurd h5 (by decide))
     | (simp at h5; omega)
 cases hwl with
 | cons w1 w2 =>
   cases w2
   cases w1 with
   | list ho hall=>exact ⟨_,_,ns,rfl,rfl,ho,mE ns _ hall,hlen⟩
theorem vO (l:OpenLaw) (args:List WData):l.row.toRowW.claim.post args (.bool true) args=true :=
 postW_of (r:=l.row.toRowW) (X:=(true == true))
   (show WShape.has [] (.bool true) .bool=true by first | rfl | decide | simp [WShape.has,WShape.arms,WShape.armsAll])
   (show (WTm.eq .res (.lit (.bool true))).value [] { args:=args,res:=some (.bool true),after:=args }=some (.bool (true == true)) from w_eq_bool (w_res rfl) w_lit) rfl
theorem attach_call {l:OpenLaw} {n:Nat} {q:Program} {loose:List Str} {XP:(Str→Option Value)→Heap→Prop} {YP:World→Heap→Prop} {d:DefRec}
   (hn:l.most=some n) (hdf:d.params.defaults=[])
   (call:∀ (w:World) (s₀ s₁:Shared) (mg mb:Str→Option Value) (fa:Addr) (o:Obj) (pm cd doc:Value) (a:Addr) (vs:List Value) (ns:List Int),
     Ground q loose [] XP w s₀ mg mb s₁.heap→YP w s₁.heap →
     s₁.heap.get? fa=some o→o.data=.func (docDef d.name d.params d.body d.scope pm cd doc)→s₁.heap.CodeRec cd d.name→mg d.name=some (.ref fa) →
     s₁.heap.get? a=some { cls:=.type "list",data:=.seq vs.toArray }→IntsAre vs ns→ns.length≤n→s₁.gens=#[] →
     codeAny (model l.prog w) callerA (.call (.ref fa) ⟨[.ref a],[]⟩) (fun r s'=>r=.ok (.ret (.bool true))∧OldK s₁.heap s'.heap∧s'.os=s₁.os∧AllBare s'.gens) s₁) :
   WalkO q loose XP YP l.row.toRowW d [] (fun f vs=>PySem.call f vs):=by
 intro w s₀ s₁ mg mb G Y fa o pm cd doc dV kV ho hd hcd hD hmg hg args vals as hpre hlay hrd hwl hlo
 obtain rfl:dV=.none:=Dflts.none hD hdf
 obtain rfl:kV=.none:=Dflts.noKw hD
 obtain ⟨a,vs,ns,rfl,rfl,hobj,hints,hlen⟩:=uB hn hpre hwl
 refine enter_call (codeAny_mono (call w s₀ s₁ mg mb fa o pm cd doc a vs ns G Y ho (fd_plain hd) hcd hmg hobj hints hlen hg) fun r s' hq=>?_)
 obtain ⟨rfl,h2,h3,h4⟩:=hq
 exact ⟨.inl ⟨.bool true,.bool true,[],rfl,fun _=>rfl,.bool true,vO l _,fun _=>⟨List.Pairwise.nil,fun _ hm=>(nomatch hm)⟩⟩,h2,h3,h4⟩
section
variable {prog:Program} {w:World} {A:Around} {E:Value→Shared→Prop} {s:Shared} {K:Frag}
end
end Att
namespace L2
open PySem PySem.Spec PyProof.Rows
theorem nX:∀ {vs:List Value} {ns:List Int},IntsAre vs ns→Vals (ns.map V.int) vs
 | _,_,.nil=>.nil
 | _,_,.cons n t h=>.cons ⟨t,rfl⟩ (nX h)
def yg (H:Hp):Prop:=∀ b,H b=none∨∃ o xs,H b=some (.frz o (.lst xs))
theorem xm {P:Program} {w:World} {K:PySem.W.Frag} {mg mb:Str→Option Value} {CX:CXT} {k:Nat} {fa a:Addr} {fd:FuncData} {x:Str} {sp:Sp} {s₁:Shared} {vs:List Value} {ns:List Int}
   (KX:K.In s₁.heap) (hns:s₁.heap.Ns mainGlobals mg) (hb:s₁.heap.Ns builtinsNs mb) (hbb:∀ x:Str,x≠"__name__"→mb x=bootBuiltins x) (hlim:s₁.heap.NoLimit) (hg:s₁.gens=#[])
   (ha:s₁.heap.get? a=some { cls:=.type "list",data:=.seq vs.toArray }) (hi:IntsAre vs ns) (hl:ns.length≤sizeLine) (hr:Room k callerA)
   (F:∀ base:Heap,K.In base→base.Ns mainGlobals mg→FnOk P w K mg base CX k fa fd [x] sp) (hbind:∀ (s:Shared) (u:Value),BindsTo s fd ⟨[u],[]⟩ [(x,u)])
   (hsp:∀ H:Hp,yg H→SqL K H a (ns.map V.int)→sp [.ref a] H (fun v _=>v=.bl true) fun _ _ _=>False)
   (hCX:∀ H e s',CX [] H s₁ (fun _ _ _=>False) e s'→False) :
   codeAny (model P w) callerA (.call (.ref fa) ⟨[.ref a],[]⟩) (fun r s'=>r=.ok (.ret (.bool true))∧OldK s₁.heap s'.heap∧s'.os=s₁.os∧AllBare s'.gens) s₁:=by
 have rv:=nX hi
 have lenV:=hi.length
 have core:∀ H:Hp,yg H→SqL K H a (ns.map V.int)→HOk P w H s₁.heap→(∀ b,H b≠none→b=a)→(H a≠none→K.lookup a=none) →
     codeAny (model P w) callerA (.call (.ref fa) ⟨[.ref a],[]⟩) (fun r s'=>r=.ok (.ret (.bool true))∧OldK s₁.heap s'.heap∧s'.os=s₁.os∧AllBare s'.gens) s₁:=by
   intro H hO hS hok hA hK
   have base_of:∀ {b:Addr} {o:Obj},s₁.heap.get? b=some o→H b=none→(jk s₁.heap H).get? b=some o:=fun e n=>zv e n
   have noA:∀ {b:Addr} {o:Obj} {es:Array DictEntry} {ep:Nat},s₁.heap.get? b=some o→o.data=.dict es ep→H b=none:=fun {b o es ep} e d=>by
     cases q:H b with
     | none=>rfl
     | some u =>
       have e':b=a:=hA b (by rw [q]; simp)
       subst e'
       rw [ha] at e; cases e
       have d':Data.seq vs.toArray _=Data.dict es ep:=d
       cases d'
   have nsK:∀ {b:Addr} {m:Str→Option Value},s₁.heap.Ns b m→(jk s₁.heap H).Ns b m:=fun {b m} ⟨o,es,ep,e,d,r⟩=>⟨o,es,ep,base_of e (noA e d),d,r⟩
   have hKb:K.In (jk s₁.heap H):=fun b o e=>base_of (KX b o e) (by
     cases q:H b with
     | none=>rfl
     | some u =>
       have e':b=a:=hA b (by rw [q]; simp)
       subst e'
       rw [hK (by rw [q]; simp)] at e; cases e)
   have hM:Mod K mg (jk s₁.heap H):=⟨hKb,nsK hns,⟨mb,nsK hb,hbb⟩,let ⟨mc,h1,h2⟩:=hlim; ⟨mc,nsK h1,h2⟩⟩
   have e0:Env0 P w K mg (jk s₁.heap H) callerA [] s₁ H:=⟨rfl,hM,fun b o e=>Ah e,Nat.le_of_eq (uY _ _),trivial,fun b hb=>absurd (show b∈([]:List Addr) from hb) (by simp),hok,.of_eq hg⟩
   refine codeAny_mono ((F _ hKb (nsK hns)).run callerA [] s₁ H ⟨[.ref a],[]⟩ [.ref a] [.ref a] _ _ hr e0 (hbind s₁ (.ref a)) (.cons rfl .nil) (hsp H hO hS)) fun r s' h=>?_
   cases r with
   | error e=>exact (hCX H e s' h).elim
   | ok fl =>
     cases fl with
     | next=>exact False.elim h
     | brk=>exact False.elim h
     | cont=>exact False.elim h
     | ret u =>
       obtain ⟨v,H',os,bare,un,hok',r',q⟩:=h
       have q':v=.bl true:=q
       subst q'
       obtain rfl:u=Value.bool true:=r'
       refine ⟨rfl,OldK.of_keep fun b o e=>?_,os,bare⟩
       cases q:H b with
       | none=>exact un.keep b o e q (by intro z; exact absurd (show b∈([]:List Addr) from z) (by simp)) (by simp)
       | some u =>
         rcases hO b with z | ⟨ob,xs,z⟩
         · rw [q] at z; cases z
         · have z2:=un.frzs b ob _ z
           obtain ⟨e1,_⟩:=hok b _ z
           obtain ⟨e2,_⟩:=hok' b _ z2
           rw [e] at e1; cases e1
           exact e2
 cases hk:K.lookup a with
 | some o =>
   have e:=KX a o hk
   rw [ha] at e
   cases e
   refine core (fun _=>none) (fun _=>.inl rfl) (.inr ⟨_,vs.toArray,_,hk,rfl,rfl,rfl,by rw [List.size_toArray,lenV]; exact hl,by simpa using rv⟩) (fun b u z=>by have z':(none:Option HO)=some u:=z; cases z') (fun b z=>absurd rfl z) fun z=>absurd rfl z
 | none =>
   refine core (fun b=>if b=a then some (.frz { cls:=.type "list",data:=.seq vs.toArray } (.lst (ns.map V.int))) else none) (fun b=>?_) (.inl (.inr ⟨{ cls:=.type "list",data:=.seq vs.toArray },if_pos rfl⟩)) (fun b u z=>?_) (fun b z=>?_) fun _=>hk
   · by_cases hb:b=a
     · exact .inr ⟨_,_,if_pos hb⟩
     · exact .inl (if_neg hb)
   · by_cases hb:b=a
     · have z':=(if_pos hb).symm.trans z
       cases z'
       subst hb
       exact ⟨ha,by rw [List.length_map]; exact hl,vs,_,rv,ha⟩
     · have z':=(if_neg hb).symm.trans z
       cases z'
   · by_cases hb:b=a
     · exact hb
     · exact absurd (if_neg hb) z
end L2
namespace L2
open PySem PySem.Spec PyProof.Rows
theorem walk_of {l:PySem.W.OpenLaw} {n k:Nat} {q:Program} {loose:List Str} {XP:(Str→Option Value)→Heap→Prop} {YP:World→Heap→Prop} {d:DefRec} {K:Params→PySem.W.Frag} {CX:World→CXT} {sp:World→Sp} {x:Str}
   (hn:l.most=some n) (hn2:n≤sizeLine) (hdf:d.params.defaults=[]) (hr:Room k callerA)
   (hY:∀ (w:World) (h:Heap),YP w h→(K w.params).In h)
   (F:∀ (w:World) (mg:Str→Option Value) (fa:Addr) (h:Heap),(K w.params).In h→h.Ns mainGlobals mg→mg d.name=some (.ref fa) →
     ∃ fd:FuncData,(∀ (s:Shared) (u:Value),BindsTo s fd ⟨[u],[]⟩ [(x,u)]) ∧
       ∀ base:Heap,(K w.params).In base→base.Ns mainGlobals mg→FnOk l.prog w (K w.params) mg base (CX w) k fa fd [x] (sp w))
   (hsp:∀ (w:World) (H:Hp) (a:Addr) (ns:List Int),ns.length≤n→yg H→SqL (K w.params) H a (ns.map V.int)→sp w [.ref a] H (fun v _=>v=.bl true) fun _ _ _=>False)
   (hCX:∀ (w:World) (H:Hp) (s:Shared) (e:Value) (s':Shared),CX w [] H s (fun _ _ _=>False) e s'→False) :
   PySem.W.WalkO q loose XP YP l.row.toRowW d [] (fun f vs=>PySem.call f vs):=by
 refine Att.attach_call hn hdf fun w s₀ s₁ mg mb fa o pm cd doc a vs ns G Y ho hd hcd hmg hobj hints hlen hg=>?_
 have KX:=hY w _ Y
 obtain ⟨fd,hb,hF⟩:=F w mg fa _ KX G.T.g hmg
 exact xm KX G.T.g G.T.b G.T.builtins G.T.nolimit hg hobj hints (Nat.le_trans hlen hn2) hr hF hb (fun H hO hS=>hsp w H a ns hlen hO hS) fun H e s'=>hCX w H s₁ e s'
end L2
namespace L2
open PySem PySem.Spec PyProof.Rows
def zT (s:Stmt) (j:Nat):Stmt:=match s with
 | .ClassDef _ _ _ body _ _ _ _ _ _ _=>body.getD j (.Pass ⟨0,0,0,0⟩)
 | _=>.Pass ⟨0,0,0,0⟩
def az (s:Stmt):Arguments:=match s with
 | .FunctionDef _ a _ _ _ _ _ _ _ _=>a
 | _=>{ posonlyargs:=[],args:=[],vararg:=none,kwonlyargs:=[],kw_defaults:=[],kwarg:=none,defaults:=[] }
def aw (s:Stmt):List Stmt:=match s with
 | .FunctionDef _ _ b _ _ _ _ _ _ _=>b
 | _=>[]
def aa (s:Stmt):Scope:=match s with
 | .FunctionDef _ _ _ _ _ _ sc _ _ _=>sc
 | _=>{ kind:=.function,names:=[],isGenerator:=false,isCoroutine:=false }
abbrev CX0:CXT:=fun _ _ _ _ _ _=>False
abbrev E0:XK:=fun _ _ _=>False
structure Fun (K:PySem.W.Frag) (x qual:Str) (st:Stmt) (f:Addr) (fd:FuncData):Prop where
 ex:∃ (oc:Value) (od:Option Addr) (kV doc pm:Value) (an:Option Addr) (cdv ct:Value) (osl:Array (Option Value)),
   fd=PySem.W.fnOf x qual (az st) (aw st) (aa st) .none kV doc pm an cdv ct∧K.lookup f=some ⟨oc,od,.func fd,osl⟩∧PySem.W.codeIn K cdv qual=true
 kp:PySem.W.keepIn K (.ref f)=true
section
variable {P:Program} {w:World} {K:PySem.W.Frag} {mg:Str→Option Value} {base:Heap}
theorem Fun.binds {x qual:Str} {st:Stmt} {f:Addr} {fd:FuncData} {ps:List Str} (F:Fun K x qual st f fd)
   (h:∀ (kV doc pm:Value) (an:Option Addr) (cdv ct:Value) (us:List Value),us.length=ps.length→bindArgs (PySem.W.fnOf x qual (az st) (aw st) (aa st) .none kV doc pm an cdv ct) ⟨us,[]⟩=pure (ps.zip us)):Binds K fd ps []:=by
 obtain ⟨oc,od,kV,doc,pm,an,cdv,ct,osl,rfl,lk,hcd⟩:=F.ex
 exact .all (h kV doc pm an cdv ct)
theorem aF {x qual:Str} {st:Stmt} {f:Addr} {oc:Value} {od an:Option Addr} {osl:Array (Option Value)} {kV doc pm cdv ct:Value} (l:K.lookup f=some ⟨oc,od,.func (PySem.W.fnOf x qual (az st) (aw st) (aa st) .none kV doc pm an cdv ct),osl⟩)
   (c:PySem.W.codeIn K cdv qual=true) (k:PySem.W.keepIn K (.ref f)=true):Fun K x qual st f (PySem.W.fnOf x qual (az st) (aw st) (aa st) .none kV doc pm an cdv ct):=⟨⟨oc,od,kV,doc,pm,an,cdv,ct,osl,rfl,l,c⟩,k⟩
end
theorem Cu {A:Around} {k:Nat} (hr:Room k A):A.units + 1 < cLine:=Nat.lt_of_le_of_lt (Nat.add_le_add_left (by decide:1≤64) _) hr.units
section
variable {X:Cx}
theorem pv (i:Nat) {x:Str} {pos:Pos} (hN:X.N[i]?=some x:=by rfl) (hv:Vis X.env.scope x:=by first | exact Or.inl rfl | exact Or.inr (Or.inl rfl) | exact Or.inr (Or.inr rfl)) (hd:(x == ("__debug__":Str))=false:=by decide)
   (hcd:(x == ("__classdict__":Str))=false:=by decide):PE X (.Name x pos) (ng i):=pU hN hv hd hcd
end
theorem CD {A B:Prop} (h:B):if false=true then A else B:=by
 rw [if_neg Bool.false_ne_true]
 exact h
theorem CJ {A B:Prop} (h:A):if true=true then A else B:=by
 rw [if_pos rfl]
 exact h
def Same (H H':Hp):Prop:=∀ b o,H b=some o→H' b=some o
theorem Same.refl (H:Hp):Same H H:=fun _ _ h=>h
theorem Same.trans {H H1 H2:Hp} (a:Same H H1) (b:Same H1 H2):Same H H2:=fun c o h=>b c o (a c o h)
theorem Same.free {H H':Hp} (e:Same H H') {l:Addr} (h:H' l=Option.none):H l=Option.none:=by
 cases q:H l with
 | none=>rfl
 | some o =>
   rw [e l o q] at h
   cases h
theorem Same.seq {K:PySem.W.Frag} {H H':Hp} {a:Addr} {xs:List V} (e:Same H H') (h:SqL K H a xs):SqL K H' a xs:=by
 rcases h with (h | ⟨o,h⟩) | h
 · exact .inl (.inl (e _ _ h))
 · exact .inl (.inr ⟨o,e _ _ h⟩)
 · exact .inr h
end L2
namespace L2
open PySem PySem.Spec PyProof.Rows
section
variable {X:Cx}
theorem uM:eB X (.builtin "len") (fun xs H Q=>∃ a kvs,xs=[V.ref a]∧H a=some (.dK kvs)∧Q (.int kvs.length) H):=by
 intro pins s σ H xs us Q I r h
 obtain ⟨a,kvs,rfl,ha,q⟩:=h
 obtain ⟨u,rfl,ru⟩:=gz r
 cases ru
 exact Cv I (.inl ha) fun t s' I'=>⟨.int kvs.length,H,I',⟨t,rfl⟩,q⟩
end
section
variable {κ:Type} [DecidableEq κ]
end
end L2
set_option Elab.async false
set_option linter.all false
set_option maxRecDepth 100000
namespace L2
open PySem PySem.Spec PyProof.Rows
def Cx.comp (X:Cx) (Nc:List Str) (scope:Scope) (cl:List (Str × Addr)) (C:Addr) (s₂:Shared) (H₁:Hp) (fp:List Addr):Cx where
 prog:=X.prog
 w:=X.w
 K:=X.K
 mg:=X.mg
 base:=X.base
 A:=X.A
 N:=Nc
 s₀:=s₂
 H₀:=H₁
 env:=compEnvC scope cl C X.env
 outer:=X.stack
 stack:=X.stack
 ex:=fp
 fn:=fun _=>false
 calm:=X.calm
 pn:=[]
 xe:=fun _ _=>False
structure CompTxt (X:Cx) (Nc:List Str) (own:Nat) (js:List Nat) (scope:Scope) (cl:List (Str × Addr)):Prop where
 clos:closureFor scope X.env=pure cl
 kind:scope.kind=.function
 nocell:∀ y∈scope.names,y.2≠.cell
 names:∀ y∈scope.names,y.2=.local→scope.names.lookup y.1=some .local
 cells:∀ x c,cl.lookup x=some c→X.env.cells.lookup x=some c
 has:∀ x,((relabel scope X.env).names.lookup x=some .cell∨(relabel scope X.env).names.lookup x=some .free)→∃ c,cl.lookup x=some c
 len:Nc.length=own + js.length
 outer:∀ i x,Nc[own + i]?=some x→∃ j,js[i]?=some j∧X.N[j]?=some x∧X.env.scope.names.lookup x=some .cell∧(relabel scope X.env).names.lookup x=some .cell
def dJ (own:Nat) (js:List Nat) (σ:St):St:=List.replicate own none ++ js.map fun j=>(σ[j]?).getD none
def uw (own:Nat) (js:List Nat) (wi:TI) (g:TG) (tc:TT) (te:TE):TE:=fun σ H Q=>wi σ H fun J H1=>∀ p,H1 p=none →
 ∃ W:Nat→Nat→List V→St→Hp→Prop,(∃ m,W 0 m [] (dJ own js σ) (upd H1 p (.lst [])))∧∀ i m ys σc Hc,W i m ys σc Hc →
   (J.stop i Hc∧Q (.ref p) Hc)∨(J.go i Hc∧∀ x H',J.yld i Hc x H'→g x σc H' fun σ2 H2=>tc σ2 H2 fun b H3 =>
     if b=true then te σ2 H3 fun y H4=>H4 p=some (.lst ys)∧ys.length < sizeLine∧∃ m',m' < m∧W (i + 1) m' (ys ++ [y]) σ2 (upd H4 p (.lst (ys ++ [y])))
     else ∃ m',m' < m∧W (i + 1) m' ys σ2 H3)
def PTs (X:Cx) (ifs:List Expr) (t:TT):Prop :=
 ∀ (pins:List (Addr × Obj)) (s:Shared) (σ:St) (H:Hp) (Q:Bool→Hp→Prop),Inv X pins σ H s→t σ H Q →
   wpAny (model X.prog X.w) X.A (forIn ifs true fun c r=>if r=true then do let ok ← isTrue c X.env (eval c X.env); pure (ForInStep.yield ok) else pure (ForInStep.yield r)) (TP X pins σ Q) X.xe s
def tYes:TT:=fun _ H Q=>Q true H
theorem dP {X:Cx}:PTs X [] tYes:=fun pins s σ H Q I h=>wpAny_tests_nil ⟨H,I,h⟩
theorem mW {X:Cx} {c:Expr} {t:TT} (h:PT X c t):PTs X [c] t:=fun pins s σ H Q I q=>wpAny_tests_one (h pins s σ H Q I q)
section
variable {prog:Program} {w:World} {A:Around} {E:Value→Shared→Prop} {R:Result→Shared→Prop} {s:Shared}
theorem kJ {elt target iter:Expr} {ifs:List Expr} {scope:Scope} {pos:Pos} {it acc:Value} {env:Env} (I:Nat→Shared→Prop)
   (turn:∀ n s,I n s→wpAny (model prog w) A (pyNext it) (fun r s₁=>match r with
     | none=>R (.ok .next) s₁
     | some v=>wpAny (model prog w) A (letOwnedTupleGo target it v) (fun _ s₁'=>wpAny (model prog w) A (assign target env v) (fun _ s₂ =>
         wpAny (model prog w) A (forIn ifs true fun c r=>if r=true then do let ok ← isTrue c env (eval c env); pure (ForInStep.yield ok) else pure (ForInStep.yield r)) (fun ok s₃ =>
           if ok=true then wpAny (model prog w) A (eval elt env) (fun x s₄ =>
             wpAny (model prog w) A (call (.builtin "list.append") [acc,x]) (fun _ s₅=>∃ m,m < n∧I m s₅) (fun _ _=>False) s₄) (fun _ _=>False) s₃
           else ∃ m,m < n∧I m s₃) (fun _ _=>False) s₂) (fun _ _=>False) s₁') (fun _ _=>False) s₁) (fun _ _=>False) s)
   (n:Nat) (h:I n s) :
   codeAny (model prog w) A (.compLoop (.ListComp elt [⟨target,iter,ifs,0⟩] scope pos) 0 it acc env) R s:=by
 refine codeAny_loop rfl I (fun n s hI=>?_) n h
 show wpAny _ A ((compTurn (.ListComp elt [⟨target,iter,ifs,0⟩] scope pos) 0 it acc env).onRaise (fun x=>do noteFrame x env; theTreesLotGoes x)) _ _ s
 refine wpAny_noted ?_
 rw [compTurn_list]
 refine wpAny_bind (wpAny_standAt (wpAny_bind (wpAny_mono (turn n s hI) (fun r s₁ h₁=>?_) fun _ _ h'=>h'.elim)))
 cases r with
 | none=>exact wpAny_pure h₁
 | some v =>
   refine wpAny_bind (wpAny_mono h₁ (fun _ s₁' h₁'=>?_) fun _ _ h'=>h'.elim)
   refine wpAny_bind (wpAny_mono h₁' (fun _ s₂ h₂=>wpAny_bind (wpAny_mono h₂ (fun ok s₃ h₃=>?_) fun _ _ h'=>h'.elim)) fun _ _ h'=>h'.elim)
   cases ok with
   | true =>
     rw [if_pos rfl] at h₃
     simp only [if_true]
     exact wpAny_bind (wpAny_bind (wpAny_mono h₃ (fun x s₄ h₄=>wpAny_bind (wpAny_mono h₄ (fun _ s₅ h₅=>wpAny_pure (wpAny_pure ⟨rfl,h₅⟩)) fun _ _ h'=>h'.elim)) fun _ _ h'=>h'.elim))
   | false =>
     rw [if_neg Bool.false_ne_true] at h₃
     simp only [Bool.false_eq_true,if_false]
     first
       | exact wpAny_pure ⟨rfl,h₃⟩
       | exact wpAny_bind (wpAny_pure (wpAny_pure ⟨rfl,h₃⟩))
end
end L2
set_option Elab.async false
set_option linter.all false
set_option maxRecDepth 100000
namespace L2
open PySem PySem.Spec PyProof.Rows
section
variable {X:Cx} {Nc:List Str} {own:Nat} {js:List Nat} {scope:Scope} {cl:List (Str × Addr)}
theorem mR {pins:List (Addr × Obj)} {σ:St} {H₁:Hp} {s₂:Shared} {C:Addr} {fp:List Addr} (T:CompTxt X Nc own js scope cl) (I:Inv X pins σ H₁ s₂) (hC:s₂.heap.objs.size≤C)
   (f1:∀ b∈fp,eE X pins H₁ b) (hlt:∀ b∈fp,b < s₂.heap.objs.size):(X.comp Nc scope cl C s₂ H₁ fp).Ok where
 mod:=I.ok.mod
 kind:=by show (relabel scope X.env).kind=_; exact T.kind
 glob:=I.ok.glob
 blt:=I.ok.blt
 above:=hC
 inj:=fun x y c h1 h2=>I.ok.inj x y c (T.cells x c h1) (T.cells y c h2)
 has:=fun x h=>T.has x h
 cab:=fun x c h=>by cases h
 hd:=I.ok.hd
 frames:=I.ok.frames
 stk:=.inl rfl
 exf:=fun b hb=>⟨Nat.ne_of_lt (Nat.lt_of_lt_of_le (hlt b hb) hC),fun x c h=>(f1 b hb).2.2.2.2.1 x c (T.cells x c h)⟩
 bs:=I.bs
 bsz:=Nat.le_trans I.ok.bsz I.sz
 noex:=fun b o e hb=>by
   rcases (f1 b hb).2.2.2.1 with z | z
   · exact I.ok.noex b o e z
   · exact absurd (Nat.lt_of_lt_of_le (Heap.lt_size (I.ok.bs b o e).1) z) (Nat.lt_irrefl _)
 exfs:=fun b hb hs=>by
   rcases List.mem_cons.mp (I.stkSub b hs) with z | z
   · exact (f1 b hb).2.1 z
   · exact (f1 b hb).2.2.1 z
 funs:=I.stack
 frf:=I.stkFree
theorem qm {pins:List (Addr × Obj)} {σ:St} {H₁:Hp} {s₂:Shared} {C D:Addr} {fp:List Addr} {h₁:Heap} {t:Nat} {m:Str→Option Value} (T:CompTxt X Nc own js scope cl) (I:Inv X pins σ H₁ s₂) (hC:s₂.heap.objs.size≤C)
   (hD:s₂.heap.objs.size≤D) (hDC:D≠C) (f1:∀ b∈fp,eE X pins H₁ b) (hlt:∀ b∈fp,b < s₂.heap.objs.size) (old:∀ b o,s₂.heap.get? b=some o→h₁.get? b=some o) (hns:h₁.Ns C m)
   (hacc:∃ n,h₁.get? D=some { cls:=.type "list",data:=.seq ([]:List Value).toArray n }) :
   Inv (X.comp Nc scope cl C s₂ H₁ fp) [] (dJ own js σ) (upd H₁ D (.lst [])) { s₂ with heap:=h₁,toks:=t }:=by
 obtain ⟨na,hacc⟩:=hacc
 have cellK:∀ c v,s₂.heap.IsCell c v→h₁.IsCell c v:=fun c v ⟨o,ho,hd⟩=>⟨o,old c o ho,hd⟩
 refine ⟨mR T I hC f1 hlt,rfl,I.bare,Un.laid old hD (I.hok.fresh hD),⟨m,hns,fun i x v e1 e2 e3=>?_⟩,fun x c e=>?_,?_,fun x c e=>?_,fun p hp=>(by cases hp),I.hok.laid old hD ?_,?_⟩
 · have hN:Nc[i]?=some x:=e1
   have hσ:(dJ own js σ)[i]?=some (some v):=e2
   unfold dJ at hσ
   by_cases hi:i < own
   · rw [List.getElem?_append_left (by simpa using hi),List.getElem?_replicate] at hσ
     simp [hi] at hσ
   · obtain ⟨k,rfl⟩:∃ k,i=own + k:=⟨i - own,by omega⟩
     rw [List.getElem?_append_right (by simp)] at hσ
     simp only [List.length_replicate,Nat.add_sub_cancel_left,List.getElem?_map] at hσ
     obtain ⟨j,hj,hx,hk,hr⟩:=T.outer k x hN
     rw [hj] at hσ
     replace hσ:some (σ[j]?.getD none)=some (some v):=hσ
     have hσj:σ[j]?=some (some v):=by
       cases q:σ[j]? with
       | none=>rw [q] at hσ; simp at hσ
       | some y=>rw [q] at hσ; simpa using hσ
     obtain ⟨m0,hn0,hl0⟩:=I.loc
     obtain ⟨u,ru,lk⟩:=hl0 j x v hx hσj (.inr (.inl hk))
     refine ⟨u,ru,.inr ⟨.inl hr,?_⟩⟩
     rcases lk with ⟨z,_⟩ | ⟨_,c,hc,hcell⟩
     · have z':X.env.scope.names.lookup x=some .local:=z
       rw [hk] at z'; cases z'
     · obtain ⟨c',hc'⟩:=T.has x (.inl hr)
       have:=T.cells x c' hc'
       rw [hc] at this; cases this
       exact ⟨c,hc',cellK c _ hcell⟩
 · obtain ⟨v,z⟩:=I.cell x c (T.cells x c e)
   exact ⟨v,cellK c v z⟩
 · show upd H₁ D (.lst []) C=none
   rw [aq (Ne.symm hDC)]
   exact I.hok.fresh hC
 · have e':=T.cells x c e
   obtain ⟨v,o,ho,_⟩:=I.cell x c e'
   rw [aq (Nat.ne_of_lt (Nat.lt_of_lt_of_le (Heap.lt_size ho) hD))]
   exact I.freeC x c e'
 · exact ⟨Nat.zero_le _,[],na,.nil,hacc⟩
 · show (dJ own js σ).length=Nc.length
   rw [T.len]
   simp [dJ]
theorem nY {pins:List (Addr × Obj)} {σ σc:St} {H₁ H':Hp} {s₂ s':Shared} {C:Addr} {fp:List Addr} {h':Heap} (I:Inv X pins σ H₁ s₂) (hC:s₂.heap.objs.size≤C)
   (f1:∀ b∈fp,eE X pins H₁ b) (I':Inv (X.comp Nc scope cl C s₂ H₁ fp) [] σc H' s') (hs:Heap.SameBut C s'.heap h'):Inv X pins σ H' { s' with heap:=h' }:=by
 have u:Un (frs X.stack) fp H₁ H' s₂.heap s'.heap:=I'.base
 have ne:∀ b o,s₂.heap.get? b=some o→b≠C:=fun b o e=>Nat.ne_of_lt (Nat.lt_of_lt_of_le (Heap.lt_size e) hC)
 have k:∀ b o,b≠C→s'.heap.get? b=some o→h'.get? b=some o:=fun b o n e=>hs.extBut b o n e
 have u':Un (frs X.stack) fp H₁ H' s₂.heap h':=⟨fun b o e n hb hx=>k b o (ne b o e) (u.keep b o e n hb hx),fun b o e n hb hx=>let ⟨sl,q⟩:=u.slot b o e n hb hx; ⟨sl,k b _ (ne b o e) q⟩,
   u.free,fun b o e hx=>let ⟨o',q⟩:=u.there b o e hx; ⟨o',k b o' (ne b o e) q⟩,u.tups,u.frzs,u.tbls⟩
 have hfree:H' C=none:=I'.free
 have hok':HOk X.prog X.w H' h':=fun a o e=>(I'.hok a o e).stay (fun b v hb q=>k b v (fun z=>by
   rcases hb with y | y
   · rw [y] at z; rw [z,hfree] at e; cases e
   · rw [z,hfree] at y; cases y) q) (fun _ q=>q) fun _ _ q=>q
 exact I.call' (s':={ s' with heap:=h' }) (ch:=fp) I'.os u' hok' I'.bare fun b hb=>⟨(f1 b hb).2.2.2.1,(f1 b hb).2.1,(f1 b hb).2.2.2.2.1,(f1 b hb).2.2.2.2.2⟩
theorem c8 {elt target iter:Expr} {ifs:List Expr} {pos:Pos} {wi:TI} {g:TG} {tc:TT} {te:TE} (hc:X.calm=true) (T:CompTxt X Nc own js scope cl)
   (hi:PI X target iter wi) (hg:∀ C s₂ H₁ fp,PG (X.comp Nc scope cl C s₂ H₁ fp) target g) (ht:∀ C s₂ H₁ fp,PTs (X.comp Nc scope cl C s₂ H₁ fp) ifs tc)
   (he:∀ C s₂ H₁ fp,PE (X.comp Nc scope cl C s₂ H₁ fp) elt te) (hs:∀ x,foldedSetIterable iter X.env x=pure x:=by intro _; rfl) :
   PE X (.ListComp elt [⟨target,iter,ifs,0⟩] scope pos) (uw own js wi g tc te):=by
 intro pins s σ H Q I h
 rw [eval_ListComp]
 refine wpAny_comprehension_free (use:=none) rfl hs T.clos T.kind T.names (thn (hi pins s σ H _ I h) fun v s1 h1=>thn h1 fun itv s2 h2=>?_)
 obtain ⟨it,fp,tn,J,H1,rfl,I1,Tn,st,f1,R⟩:=h2
 have hfp:∀ b∈fp,b < s2.heap.objs.size:=fun b hb=>let ⟨o,e,_⟩:=Tn.obj _ _ st b hb; Heap.lt_size e
 refine wpAny_newObj_type (wpAny_newFunctionEnv T.nocell (by intro y hy; simp at hy) (fun h₁ hns₁ hsb₁=>?_) T.kind)
 dsimp only at hns₁ hsb₁ ⊢
 generalize hH2:s2.heap.push { cls:=.type "list",dict:=none,data:=.seq ([]:List Value).toArray }=H2 at hns₁ hsb₁ ⊢
 have hC:H2.objs.size=s2.heap.objs.size + 1:=by rw [← hH2,Heap.size_push]
 have hDC:s2.heap.objs.size≠H2.objs.size:=by rw [hC]; exact Nat.ne_of_lt (Nat.lt_succ_self _)
 have hCle:s2.heap.objs.size≤H2.objs.size:=by rw [hC]; exact Nat.le_succ _
 have below:∀ b,b < s2.heap.objs.size→b≠H2.objs.size:=fun b hb=>by rw [hC]; exact Nat.ne_of_lt (Nat.lt_succ_of_lt hb)
 have old:∀ b o,s2.heap.get? b=some o→h₁.get? b=some o:=fun b o e=>hsb₁.extBut b o (below b (Heap.lt_size e)) (Heap.get?_push_of_some _ (hH2 ▸ Heap.get?_push_of_some _ e))
 have hacc:∃ n,h₁.get? s2.heap.objs.size=some { cls:=.type "list",data:=.seq ([]:List Value).toArray n }:=⟨_,hsb₁.extBut _ _ hDC (Heap.get?_push_of_some _ (hH2 ▸ Heap.get?_push_size _ rfl))⟩
 have st₁:tn 0 h₁:=Tn.keep _ _ _ st fun b _ o e=>old b o e
 obtain ⟨W,⟨m0,w0⟩,turn⟩:=R s2.heap.objs.size I1.fresh
 have Ic:=qm (t:=s2.toks + ([]:List (Str × Value)).length) T I1 hCle (Nat.le_refl _) hDC f1 hfp old hns₁ hacc
 generalize hXc:X.comp Nc scope cl H2.objs.size s2 H1 fp=Xc at Ic
 have stat:∀ {H':Hp},(∀ b∈fp,H' b=none)→∀ b∈fp,eE Xc [] H' b:=fun {H'} hn b hb=>by
   subst hXc
   exact ⟨hn b hb,below b (hfp b hb),(mR T I1 hCle f1 hfp).exfs b hb,.inl hb,fun x c e=>(f1 b hb).2.2.2.2.1 x c (T.cells x c e),fun p hp=>by cases hp⟩
 have fr0:∀ b∈fp,upd H1 s2.heap.objs.size (.lst []) b=none:=fun b hb=>by
   rw [aq (Nat.ne_of_lt (hfp b hb))]
   exact (f1 b hb).1
 have calmc:Xc.calm=true:=by subst hXc; exact hc
 have loop:∀ s₃:Shared,s₃={ s2 with heap:=h₁,toks:=s2.toks + ([]:List (Str × Value)).length } →
     codeAny (model X.prog X.w) X.A (.compLoop (.ListComp elt [⟨target,iter,ifs,0⟩] scope pos) 0 (.ref it) (.ref s2.heap.objs.size) (compEnvC scope cl H2.objs.size X.env))
       (compPost (model X.prog X.w) X.A X.xe none (EP X pins σ Q) (.ref s2.heap.objs.size) H2.objs.size) s₃:=by
   rintro s₃ rfl
   refine kJ (fun n s'=>∃ i ys σ' H',Inv Xc [] σ' H' s'∧tn i s'.heap∧(∀ b∈fp,H' b=none)∧W i n ys σ' H') ?_ m0 ⟨0,[],_,_,Ic,st₁,fr0,w0⟩
   rintro n s3 ⟨i,ys,σ3,H3,I3,st3,fr3,w3⟩
   rcases turn i n ys σ3 H3 w3 with ⟨stop,q⟩ | ⟨go,step⟩
   · subst hXc
     refine thn (Tn.done (X.comp Nc scope cl H2.objs.size s2 H1 fp) rfl rfl rfl hc i [] s3 σ3 H3 _ I3 (stat fr3) st3 stop) fun r s4 ⟨hr,I4⟩=>?_
     subst hr
     obtain ⟨m4,hn4,_⟩:=id I4.loc
     exact ⟨m4,hn4,fun h' hs'=>⟨.ref s2.heap.objs.size,H3,nY I1 hCle f1 I4 hs',rfl,q⟩⟩
   · subst hXc
     refine thn (Tn.item (X.comp Nc scope cl H2.objs.size s2 H1 fp) rfl rfl rfl hc i [] s3 σ3 H3 _ I3 (stat fr3) st3 go) fun r s4 ⟨u,hr,h4⟩=>?_
     subst hr
     refine thn h4 fun _ s5 ⟨x,H5,I5,r5,y5,st5,fr5⟩=>?_
     have I5':=I5.pinned (stat fr5) (Tn.obj _ _ st5)
     have back:∀ {σ7:St} {H7:Hp} {s7:Shared},Inv (X.comp Nc scope cl H2.objs.size s2 H1 fp) ([] ++ iL fp s5.heap) σ7 H7 s7→Inv (X.comp Nc scope cl H2.objs.size s2 H1 fp) [] σ7 H7 s7∧tn (i + 1) s7.heap∧∀ b∈fp,H7 b=none:=fun {σ7 H7 s7} I7=>by
       refine ⟨I7.unpinned,Tn.keep _ _ _ st5 fun b hb o e=>(I7.pin (b,o) (List.mem_append_right _ (List.mem_append_right _ (d6 hb e)))).1,fun b hb=>?_⟩
       obtain ⟨o,e,d⟩:=Tn.obj _ _ st5 b hb
       exact (I7.pin (b,o) (List.mem_append_right _ (List.mem_append_right _ (d6 hb e)))).2.1
     refine thn (hg _ _ _ _ _ s5 σ3 H5 x u _ I5' r5 (step x H5 y5)) fun _ s6 ⟨σ6,H6,I6,q6⟩=>?_
     refine nA (ht _ _ _ _ _ s6 σ6 H6 _ I6 q6) fun ok s7 H7 I7 q7=>?_
     cases ok with
     | false =>
       rw [if_neg Bool.false_ne_true] at q7 ⊢
       obtain ⟨m',hm,w7⟩:=q7
       obtain ⟨J1,J2,J3⟩:=back I7
       exact ⟨m',hm,i + 1,ys,σ6,H7,J1,J2,J3,w7⟩
     | true =>
       rw [if_pos rfl] at q7 ⊢
       refine bq (he _ _ _ _ _ s7 σ6 H7 _ I7 q7) fun y s8 yv H8 I8 r8 ⟨hp8,hl8,m',hm,w8⟩=>?_
       refine thn (cG _ s8 σ6 H8 (.ref s2.heap.objs.size) [yv] _ [y] (fun v' H'=>W (i + 1) m' (ys ++ [yv]) σ6 H') I8 rfl (.cons r8 .nil) ⟨_,ys,yv,rfl,rfl,hp8,hl8,w8⟩) fun v9 s9 ⟨_,H9,I9,_,w9⟩=>?_
       obtain ⟨J1,J2,J3⟩:=back I9
       exact ⟨m',hm,i + 1,ys ++ [yv],σ6,H9,J1,J2,J3,w9⟩
 exact codeAny_compStart_list (loop _ rfl) (Tn.self _ 0 _ _ _ st₁ (loop _ rfl))
end
end L2
set_option Elab.async false
set_option linter.all false
set_option maxRecDepth 100000
namespace L2
open PySem PySem.Spec PyProof.Rows
section
variable {X:Cx}
def rInsert:V→List V→Hp→VK→Prop:=fun x vs H Q=>∃ (l:Addr) (xs:List V) (i:Int) (y:V),x=.ref l∧vs=[.int i,y]∧H l=some (.lst xs)∧0≤i∧i≤xs.length∧xs.length < sizeLine∧Q .non (upd H l (.lst (xs.take i.toNat ++ y :: xs.drop i.toNat)))
theorem u7:MtM X "list.insert" rInsert:=by
 intro pins s σ H x vs v us Q I rx rv h
 obtain ⟨l,xs,i,y,rfl,rfl,hH,h0,hk,hz,q⟩:=h
 cases rx
 obtain ⟨u1,u2,rfl,⟨t,rfl⟩,ru⟩:=rv.two
 obtain ⟨z,its,n,r,hl,e⟩:=I.lstM hH
 have hn:=gG
 have hf:Builtin.List.listFitsIndex i=true:=by
   unfold Builtin.List.listFitsIndex
   rw [Bool.and_eq_true]
   exact ⟨decide_eq_true (by omega),decide_eq_true (by omega)⟩
 have hf':¬ (!Builtin.List.listFitsIndex i)=true:=by rw [hf]; decide
 have hzz:its.toArray.size≤sizeLine:=by rw [List.size_toArray,← hl]; exact z
 refine call_meets PySem.F.slot_list_insert ⟨_,e,rfl⟩ PySem.F.entry_list_insert (PySem.F.args_list_insert_3 _ _ _) (PySem.AutoSeq1.list_insert_list_int_val_1 l its.toArray n i t u2 hf' hzz) ⟨e,?_⟩
 refine ⟨.non,_,I.lset (its':=its.take i.toNat ++ u2 :: its.drop i.toNat) hH e ?_ ((r.take i.toNat).append (.cons ru (r.drop i.toNat))) ?_,rfl,q⟩
 · show (its.toArray.extract 0 (if i < 0 then (i + (its.toArray.size:Int)).toNat else min i.toNat its.toArray.size)).push u2 ++ its.toArray.extract (if i < 0 then (i + (its.toArray.size:Int)).toNat else min i.toNat its.toArray.size)=_
   have e0:(if i < 0 then (i + (its.toArray.size:Int)).toNat else min i.toNat its.toArray.size)=i.toNat:=by
     rw [if_neg (by omega),List.size_toArray]
     omega
   rw [e0]
   exact PySem.W.kl_ins_eq its i.toNat u2
 · rw [List.length_append,List.length_cons,List.length_take,List.length_drop]
   omega
theorem eT:OpR X (binaryOp .Mult) (rI (fun i j=>IntMulOk i j) fun i j=>.int (i * j)):=opI fun i j t u s Q E h q=>PyProof.Rows.mul_int q h
theorem vT (hc:X.calm=true):eB X (.builtin "all") (fun xs H Q=>∃ (p:Addr) (bs:List Bool),xs=[.ref p]∧SqL X.K H p (bs.map V.bl)∧Q (.bl (bs.all id)) H):=by
 intro pins s σ H xs us Q I r h
 obtain ⟨p,bs,rfl,hp,q⟩:=h
 obtain ⟨u,rfl,ru⟩:=gz r
 cases ru
 obtain ⟨its,rv,pl,hz⟩:=I.list hp
 have hl:=pl.isList
 have hlt:=pl.lt
 have hh:X.A.in1.handled=none:=I.ok.hd hc
 have hlen:its.length=bs.length:=by rw [← rv.length,List.length_map]
 refine call_all_walk (wpAny_pyIter_list hl ?_)
 refine ⟨s.heap.objs.size,[s.heap.objs.size,p],[s.heap.objs.size],its.toArray.size,_,_,fun i=>(bs[i]?).getD true,rfl,Walks.list (A:=X.A.in1) hh _ p (Nat.ne_of_lt hlt) its.toArray,
   ⟨⟨_,Heap.get?_push_size _ rfl,rfl,rfl⟩,hl.push _⟩,fun i v s' Q' E' hP hQ=>?_,fun h' tk hk=>?_⟩
 · have hi:its[i]?=some v:=by simpa using hP
   have hib:i < bs.length:=by rw [← hlen]; exact (List.getElem?_eq_some_iff.mp hi).1
   obtain ⟨u,hu,ru⟩:=rv.get (i:=i) (x:=V.bl bs[i]) (by rw [List.getElem?_map,List.getElem?_eq_getElem hib]; rfl)
   rw [hi] at hu; cases hu
   cases ru
   replace hQ:Q' (bs[i]?.getD true) s':=hQ
   rw [List.getElem?_eq_getElem hib] at hQ
   exact wpAny_truthy_bool hQ
 · have e:((List.range its.toArray.size).all fun i=>(bs[i]?).getD true)=bs.all id:=by
     rw [List.size_toArray,hlen]
     rw [Bool.eq_iff_iff,List.all_eq_true,List.all_eq_true]
     constructor
     · intro z b hb
       obtain ⟨i,hi,rfl⟩:=List.getElem_of_mem hb
       have:=z i (List.mem_range.mpr hi)
       rw [List.getElem?_eq_getElem hi] at this
       exact this
     · intro z i hi
       have hi':=List.mem_range.mp hi
       rw [List.getElem?_eq_getElem hi']
       exact z _ (List.getElem_mem hi')
   have kk:∀ b o,s.heap.get? b=some o→h'.get? b=some o:=fun b o eb=>hk b o (fun hm=>by rw [List.mem_singleton.mp hm] at eb; exact Nat.lt_irrefl _ (Heap.lt_size eb)) (Heap.get?_push_of_some _ eb)
   rw [e]
   exact ⟨.bl _,H,I.kept (t':=tk) kk,rfl,q⟩
end
section
variable {X:Cx}
end
end L2
set_option Elab.async false
set_option linter.all false
set_option maxRecDepth 100000
namespace L2
open PySem PySem.Spec PyProof.Rows
structure SubF (P:Program) (w:World) (l:Addr) (ob:Obj) (src:Heap→Array Value→Prop) (at':Addr→Nat→Heap→Prop):Prop where
 start:∀ (A:Around) (s:Shared) (vs:Array Value) (Q:Value→Shared→Prop) (E:Value→Shared→Prop),src s.heap vs→Q (.ref s.heap.objs.size) { s with heap:=s.heap.push ob }→wpAny (model P w) A (pyIter (.ref l)) Q E s
 first:∀ it h,h.get? it=some ob→at' it 0 h
 atK:∀ it i h h',at' it i h→(∀ o,h.get? it=some o→h'.get? it=some o)→at' it i h'
 srcK:∀ h h' vs,src h vs→(∀ o,h.get? l=some o→h'.get? l=some o)→src h' vs
 obj:∀ it i h,at' it i h→∃ o,h.get? it=some o∧∀ v,o.data≠.cell v
 item:∀ (A:Around) (s:Shared) (it:Addr) (i:Nat) (vs:Array Value) (x:Value) (Q:Value→Shared→Prop) (E:Value→Shared→Prop),at' it i s.heap→src s.heap vs→vs[i]?=some x →
   (∀ h',at' it (i + 1) h'→Heap.SameBut it s.heap h'→Q x { s with heap:=h' })→wpAny (model P w) A (Builtin.SmallTypes.nextOf (.ref it)) Q E s
 fin:∀ (A:Around) (s:Shared) (it:Addr) (i:Nat) (vs:Array Value) (Q:Value→Shared→Prop) (E:Value→Shared→Prop),A.handled=none→at' it i s.heap→src s.heap vs→vs[i]?=none →
   (∀ h' e,Heap.ExtBut it s.heap h'→(∃ o,h'.get? e=some o∧o.cls=.type "StopIteration")→E (.ref e) { s with heap:=h' })→wpAny (model P w) A (Builtin.SmallTypes.nextOf (.ref it)) Q E s
theorem uJ {P:Program} {w:World} (l:Addr):SubF P w l { cls:=.type "list_iterator",data:=.fields #[.ref l,.int 0 0] } (fun h vs=>h.IsList l vs) (fun it i h=>h.IsListIter it l i) where
 start:=fun A s vs Q E hl hq=>wpAny_pyIter_list hl hq
 first:=fun it h e=>⟨_,e,rfl,rfl⟩
 atK:=fun it i h h' x k=>x.at k
 srcK:=fun h h' vs x k=>x.at k
 obj:=fun it i h x=>by
   obtain ⟨o,ho,_,hd⟩:=x
   exact ⟨o,ho,fun v z=>by rw [hd] at z; cases z⟩
 item:=fun A s it i vs x Q E ha hs hx hq=>wpAny_nextOf_list_item ha hs hx hq
 fin:=fun A s it i vs Q E hh ha hs hx hq=>wpAny_nextOf_list_end hh ha hs hx hq
section
variable {P:Program} {w:World} {A:Around} {E:Value→Shared→Prop} {s:Shared}
theorem kG {it t:Addr} {i:Nat} {vs:Array Value} {x:Value} {Q:Value→Shared→Prop} (hi:s.heap.IsTupleIter it t i) (ht:s.heap.IsTuple t vs) (hx:vs[i]?=some x)
   (hq:∀ h',h'.IsTupleIter it t (i + 1)→Heap.SameBut it s.heap h'→Q x { s with heap:=h' }):wpAny (model P w) A (Builtin.SmallTypes.nextOf (.ref it)) Q E s:=by
 obtain ⟨oi,hoi,hci,hdi⟩:=id hi
 obtain ⟨ot,hot,_,nt,hdt⟩:=ht
 unfold Builtin.SmallTypes.nextOf
 refine wpAny_bind (wpAny_callSpecial?_slot (name:=Str.ofString "__next__") hi.typeIs F.slot_tuple_iterator_next (wpAny_call_entry F.slot_tuple_iterator_next hi.typeIs F.entry_tuple_iterator_next ?_ (F.args_tuple_iterator_next_1 _)))
 show wpAny (model P w) _ (field (.ref it) 0 >>= _) _ _ s
 refine wpAny_bind (wpAny_field hoi hdi (x:=.ref t) rfl ?_)
 show wpAny (model P w) _ (if (Value.ref t == Value.none)=true then _ else _) _ _ s
 rw [if_neg (by exact Bool.false_ne_true)]
 show wpAny (model P w) _ (field (.ref it) 1 >>= _) _ _ s
 refine wpAny_bind (wpAny_field hoi hdi (x:=.int i 0) rfl ?_)
 show wpAny (model P w) _ (seqItems? (.ref t) >>= _) _ _ s
 refine wpAny_bind (wpAny_seqItems hot hdt ?_)
 simp only [Int.toNat_natCast,hx]
 refine wpAny_bind (wpAny_setField hoi hdi (by simp) (wpAny_pure ⟨x,rfl,wpAny_pure (hq _ ?_ (Heap.SameBut.update ..))⟩))
 exact ⟨_,Heap.get?_update_self _ hoi (Obj.isFreed_of_fields (Obj.data_mapFields hdi _)),(Obj.cls_mapFields ..).trans hci,by rw [Obj.data_mapFields hdi]; simp [rawInt]⟩
theorem lB {it t:Addr} {i:Nat} {vs:Array Value} {Q:Value→Shared→Prop} (hh:A.handled=none) (hi:s.heap.IsTupleIter it t i) (ht:s.heap.IsTuple t vs) (hx:vs[i]?=none)
   (hE:∀ h' e,Heap.ExtBut it s.heap h'→(∃ o,h'.get? e=some o∧o.cls=.type "StopIteration")→E (.ref e) { s with heap:=h' }):wpAny (model P w) A (Builtin.SmallTypes.nextOf (.ref it)) Q E s:=by
 obtain ⟨oi,hoi,hci,hdi⟩:=id hi
 obtain ⟨ot,hot,_,nt,hdt⟩:=ht
 unfold Builtin.SmallTypes.nextOf
 refine wpAny_bind (wpAny_callSpecial?_slot (name:=Str.ofString "__next__") hi.typeIs F.slot_tuple_iterator_next (wpAny_call_entry F.slot_tuple_iterator_next hi.typeIs F.entry_tuple_iterator_next ?_ (F.args_tuple_iterator_next_1 _)))
 show wpAny (model P w) _ (field (.ref it) 0 >>= _) _ _ s
 refine wpAny_bind (wpAny_field hoi hdi (x:=.ref t) rfl ?_)
 show wpAny (model P w) _ (if (Value.ref t == Value.none)=true then _ else _) _ _ s
 rw [if_neg (by exact Bool.false_ne_true)]
 show wpAny (model P w) _ (field (.ref it) 1 >>= _) _ _ s
 refine wpAny_bind (wpAny_field hoi hdi (x:=.int i 0) rfl ?_)
 show wpAny (model P w) _ (seqItems? (.ref t) >>= _) _ _ s
 refine wpAny_bind (wpAny_seqItems hot hdt ?_)
 simp only [Int.toNat_natCast,hx]
 refine wpAny_bind (wpAny_rule (wpAny_bind (wpAny_setField hoi hdi (by simp) ?_)))
 show wpAny (model P w) _ (newExc (.type "StopIteration") [] >>= _) _ _ _
 refine wpAny_bind ?_
 simp only [newExc,newTuple]
 refine wpAny_bind (wpAny_newObj_type ?_ (by size_fits))
 refine wpAny_bind (m:=firstArgMember _ _) (wpAny_of_eq (a:=Value.none) (by first | rfl | (simp only [firstArgMember]; rfl)) ?_)
 refine wpAny_newObj_type ?_ (by size_fits)
 simp only [raiseNew]
 refine wpAny_bind (wpAny_handled ?_)
 first | rw [show A.in1.handled=none from hh] | rw [hh]
 refine wpAny_bind (wpAny_pure (wpAny_throw ?_))
 exact hE _ _ (((Heap.SameBut.update ..).extBut.push _).push _) ⟨_,Heap.get?_push_size _ rfl,rfl⟩
end
theorem xJ {P:Program} {w:World} (l:Addr):SubF P w l { cls:=.type "tuple_iterator",data:=.fields #[.ref l,.int 0 0] } (fun h vs=>h.IsTuple l vs) (fun it i h=>h.IsTupleIter it l i) where
 start:=fun A s vs Q E hl hq=>wpAny_pyIter_tuple hl hq
 first:=fun it h e=>⟨_,e,rfl,rfl⟩
 atK:=fun it i h h' x k=>let ⟨o,ho,r⟩:=x; ⟨o,k o ho,r⟩
 srcK:=fun h h' vs x k=>let ⟨o,ho,r⟩:=x; ⟨o,k o ho,r⟩
 obj:=fun it i h x=>by
   obtain ⟨o,ho,_,hd⟩:=x
   exact ⟨o,ho,fun v z=>by rw [hd] at z; cases z⟩
 item:=fun A s it i vs x Q E ha hs hx hq=>kG ha hs hx hq
 fin:=fun A s it i vs Q E hh ha hs hx hq=>lB hh ha hs hx hq
end L2
set_option Elab.async false
set_option linter.all false
set_option maxRecDepth 100000
namespace L2
open PySem PySem.Spec PyProof.Rows
structure ZAp (z TI TO i1 i2 l1 l2:Addr):Prop where
 a1:TI≠z
 a2:TO≠z
 a3:i1≠z
 a4:i2≠z
 a5:TI≠TO
 a6:TI≠i1
 a7:TI≠i2
 a8:TO≠i1
 a9:TO≠i2
 a0:i1≠i2
 b1:l1≠z∧l1≠TO∧l1≠i1∧l1≠i2
 b2:l2≠z∧l2≠TO∧l2≠i1∧l2≠i2
section
variable {P:Program} {w:World} {A:Around} {E:Value→Shared→Prop} {s:Shared} {l1 l2:Addr} {ob1 ob2:Obj} {src1 src2:Heap→Array Value→Prop} {at1 at2:Addr→Nat→Heap→Prop}
theorem qI (S1:SubF P w l1 ob1 src1 at1) (S2:SubF P w l2 ob2 src2 at2) {z TI TO i1 i2:Addr} {k1 k2:Nat} {xs ys:Array Value} {x y a b:Value} {Q:Value→Shared→Prop} (D:ZAp z TI TO i1 i2 l1 l2)
   (Hz:IsZip s.heap z TI TO .none) (HI:IsPair s.heap TI (.ref i1) (.ref i2)) (HO':IsPair s.heap TO a b) (p1:at1 i1 k1 s.heap) (p2:at2 i2 k2 s.heap) (q1:src1 s.heap xs) (q2:src2 s.heap ys) (hx:xs[k1]?=some x) (hy:ys[k2]?=some y)
   (hQ:∀ h',IsZip h' z TI TO (rawInt s.heap.objs.size)→IsPair h' TO x y→at1 i1 (k1 + 1) h'→at2 i2 (k2 + 1) h'→IsPair h' s.heap.objs.size x y→h'.objs.size=s.heap.objs.size + 1 →
     (∀ c o,c≠z→c≠TO→c≠i1→c≠i2→s.heap.get? c=some o→h'.get? c=some o)→Q (.ref s.heap.objs.size) { s with heap:=h' }) :
   wpAny (model P w) A (Builtin.«zip.__next__» ⟨[.ref z],[]⟩) (fun fn s'=>∃ v,fn=.done (.ret v)∧Q v s') E s:=by
 show wpAny (model P w) _ (field (.ref z) 2 >>= _) _ _ _
 refine wpAny_bind (wpAny_field Hz rfl (x:=.bool false) rfl ?_)
 show wpAny (model P w) _ (field (.ref z) 3 >>= _) _ _ _
 refine wpAny_bind (wpAny_field Hz rfl (x:=.ref TI) rfl ?_)
 refine wpAny_bind (wpAny_seqItems HI rfl ?_)
 show wpAny (model P w) _ (Builtin.SmallTypes.ownedTupleIsFree (.ref z) >>= _) _ _ _
 refine wpAny_bind ?_
 unfold Builtin.SmallTypes.ownedTupleIsFree
 refine wpAny_bind (wpAny_field Hz rfl (x:=.none) rfl (wpAny_pure ?_))
 simp only [if_true]
 refine wpAny_bind (wpAny_rule ?_)
 refine wpAny_bind (wpAny_field Hz rfl (x:=.ref TO) rfl ?_)
 refine wpAny_bind (wpAny_setField_rec Hz (by simp) fun g1 z1 e1=>?_)
 replace z1:IsZip g1 z TI TO .ellipsis:=z1
 refine wpAny_bind ?_
 simp only [List.zipIdx_cons,List.zipIdx_nil,List.forIn_cons,List.forIn_nil]
 refine wpAny_bind (wpAny_bind (wpAny_onRaise ?_))
 show wpAny (model P w) _ (Builtin.SmallTypes.nextOf (.ref i1) >>= _) _ _ _
 refine wpAny_bind (S1.item _ { s with heap:=g1 } i1 k1 xs x _ _ (S1.atK _ _ _ _ p1 fun o e=>e1.extBut _ _ D.a3 e) (S1.srcK _ _ _ q1 fun o e=>e1.extBut _ _ D.b1.1 e) hx fun g2 p1b e2=>wpAny_pure ?_)
 have o2:IsPair g2 TO a b:=e2.extBut _ _ D.a8 (e1.extBut _ _ D.a2 HO')
 refine wpAny_bind (wpAny_seqItems o2 rfl ?_)
 refine wpAny_bind (wpAny_updateSeq_pair o2 fun g3 o3 e3=>?_)
 replace o3:IsPair g3 TO x b:=o3
 refine wpAny_bind (wpAny_letGo (wpAny_pure ?_))
 refine wpAny_bind (wpAny_bind (wpAny_onRaise ?_))
 show wpAny (model P w) _ (Builtin.SmallTypes.nextOf (.ref i2) >>= _) _ _ _
 refine wpAny_bind (S2.item _ { s with heap:=g3 } i2 k2 ys y _ _ (S2.atK _ _ _ _ p2 fun o e=>e3.extBut _ _ D.a9.symm (e2.extBut _ _ D.a0.symm (e1.extBut _ _ D.a4 e))) (S2.srcK _ _ _ q2 fun o e=>e3.extBut _ _ D.b2.2.1 (e2.extBut _ _ D.b2.2.2.1 (e1.extBut _ _ D.b2.1 e))) hy fun g4 p2b e4=>wpAny_pure ?_)
 have o4:IsPair g4 TO x b:=e4.extBut _ _ D.a9 o3
 refine wpAny_bind (wpAny_seqItems o4 rfl ?_)
 refine wpAny_bind (wpAny_updateSeq_pair o4 fun g5 o5 e5=>?_)
 replace o5:IsPair g5 TO x y:=o5
 refine wpAny_bind (wpAny_letGo (wpAny_pure (wpAny_pure ?_)))
 refine wpAny_bind (wpAny_seqItems o5 rfl ?_)
 refine wpAny_bind (wpAny_newTuple ?_)
 have sz:g5.objs.size=s.heap.objs.size:=by rw [e5.1,e4.1,e3.1,e2.1,e1.1]
 have z5:IsZip g5 z TI TO .ellipsis:=e5.extBut _ _ D.a2.symm (e4.extBut _ _ D.a4.symm (e3.extBut _ _ D.a2.symm (e2.extBut _ _ D.a3.symm z1)))
 have k5:∀ c o,c≠z→c≠TO→c≠i1→c≠i2→s.heap.get? c=some o→g5.get? c=some o:=fun c o c1 c2 c3 c4 e =>
   e5.extBut _ _ c2 (e4.extBut _ _ c4 (e3.extBut _ _ c2 (e2.extBut _ _ c3 (e1.extBut _ _ c1 e))))
 have p15:at1 i1 (k1 + 1) g5:=S1.atK _ _ _ _ p1b fun o e=>e5.extBut _ _ D.a8.symm (e4.extBut _ _ D.a0 (e3.extBut _ _ D.a8.symm e))
 have p25:at2 i2 (k2 + 1) g5:=S2.atK _ _ _ _ p2b fun o e=>e5.extBut _ _ D.a9.symm e
 have zlt:z < g5.objs.size:=Heap.lt_size z5
 show wpAny (model P w) _ (Builtin.SmallTypes.ownedTupleHandOut (.ref z) (.ref g5.objs.size) >>= _) _ _ _
 refine wpAny_bind ?_
 unfold Builtin.SmallTypes.ownedTupleHandOut
 have z6:IsZip (g5.push { cls:=.type "tuple",data:=.seq #[x,y] }) z TI TO .ellipsis:=Heap.get?_push_of_some _ z5
 refine wpAny_bind (wpAny_setField_rec z6 (by simp) fun g7 z7 e7=>?_)
 replace z7:IsZip g7 z TI TO (rawInt g5.objs.size):=z7
 refine wpAny_setField_rec z7 (by simp) fun g8 z8 e8=>?_
 replace z8:IsZip g8 z TI TO (rawInt g5.objs.size):=z8
 have up:∀ c o,c≠z→g5.get? c=some o→g8.get? c=some o:=fun c o c1 e=>e8.extBut _ _ c1 (e7.extBut _ _ c1 (Heap.get?_push_of_some _ e))
 have t8:IsPair g8 g5.objs.size x y:=e8.extBut _ _ (Nat.ne_of_gt zlt) (e7.extBut _ _ (Nat.ne_of_gt zlt) (Heap.get?_push_size _ rfl))
 have s8:g8.objs.size=g5.objs.size + 1:=by rw [e8.1,e7.1,Heap.size_push]
 rw [sz] at z8 t8 s8
 refine wpAny_pure ⟨_,rfl,?_⟩
 show Q (.ref g5.objs.size) _
 rw [sz]
 exact hQ g8 z8 (up _ _ D.a2 o5) (S1.atK _ _ _ _ p15 fun o e=>up _ o D.a3 e) (S2.atK _ _ _ _ p25 fun o e=>up _ o D.a4 e) t8 s8 fun c o c1 c2 c3 c4 e=>up c o c1 (k5 c o c1 c2 c3 c4 e)
theorem rd (S1:SubF P w l1 ob1 src1 at1) (S2:SubF P w l2 ob2 src2 at2) {z TI TO i1 i2:Addr} {k1 k2:Nat} {xs ys:Array Value} {a b:Value} {Q:Fin→Shared→Prop} (hh:A.handled=none) (D:ZAp z TI TO i1 i2 l1 l2)
   (Hz:IsZip s.heap z TI TO .none) (HI:IsPair s.heap TI (.ref i1) (.ref i2)) (HO':IsPair s.heap TO a b) (p1:at1 i1 k1 s.heap) (p2:at2 i2 k2 s.heap) (q1:src1 s.heap xs) (q2:src2 s.heap ys) (hend:xs[k1]?=none∨ys[k2]?=none)
   (hE:∀ h' e,(∀ c o,c≠z→c≠TO→c≠i1→c≠i2→s.heap.get? c=some o→h'.get? c=some o)→(∃ o,h'.get? e=some o∧o.cls=.type "StopIteration")→E (.ref e) { s with heap:=h' }) :
   wpAny (model P w) A (Builtin.«zip.__next__» ⟨[.ref z],[]⟩) Q E s:=by
 show wpAny (model P w) _ (field (.ref z) 2 >>= _) _ _ _
 refine wpAny_bind (wpAny_field Hz rfl (x:=.bool false) rfl ?_)
 show wpAny (model P w) _ (field (.ref z) 3 >>= _) _ _ _
 refine wpAny_bind (wpAny_field Hz rfl (x:=.ref TI) rfl ?_)
 refine wpAny_bind (wpAny_seqItems HI rfl ?_)
 show wpAny (model P w) _ (Builtin.SmallTypes.ownedTupleIsFree (.ref z) >>= _) _ _ _
 refine wpAny_bind ?_
 unfold Builtin.SmallTypes.ownedTupleIsFree
 refine wpAny_bind (wpAny_field Hz rfl (x:=.none) rfl (wpAny_pure ?_))
 simp only [if_true]
 refine wpAny_bind (wpAny_rule ?_)
 refine wpAny_bind (wpAny_field Hz rfl (x:=.ref TO) rfl ?_)
 refine wpAny_bind (wpAny_setField_rec Hz (by simp) fun g1 z1 e1=>?_)
 replace z1:IsZip g1 z TI TO .ellipsis:=z1
 refine wpAny_bind ?_
 simp only [List.zipIdx_cons,List.zipIdx_nil,List.forIn_cons,List.forIn_nil]
 refine wpAny_bind (wpAny_bind (wpAny_onRaise ?_))
 show wpAny (model P w) _ (Builtin.SmallTypes.nextOf (.ref i1) >>= _) _ _ _
 have p1a:at1 i1 k1 g1:=S1.atK _ _ _ _ p1 fun o e=>e1.extBut _ _ D.a3 e
 have q1a:src1 g1 xs:=S1.srcK _ _ _ q1 fun o e=>e1.extBut _ _ D.b1.1 e
 cases hx:xs[k1]? with
 | none =>
   refine wpAny_bind (S1.fin _ { s with heap:=g1 } i1 k1 xs _ _ hh p1a q1a hx fun g2 e e2 he=>?_)
   obtain ⟨oe,hoe,hce⟩:=he
   have z2:IsZip g2 z TI TO .ellipsis:=e2 _ _ D.a3.symm z1
   have ez:e≠z:=fun t=>by subst t; rw [z2] at hoe; cases hoe; simp at hce
   refine wpAny_setField_rec z2 (by simp) fun g3 _ e3=>hE g3 e (fun c o c1 _ c3 _ t=>e3.extBut _ _ c1 (e2 _ _ c3 (e1.extBut _ _ c1 t))) ⟨oe,e3.extBut _ _ ez hoe,hce⟩
 | some x =>
   have hy:ys[k2]?=none:=by
     rcases hend with h | h
     · rw [hx] at h; cases h
     · exact h
   refine wpAny_bind (S1.item _ { s with heap:=g1 } i1 k1 xs x _ _ p1a q1a hx fun g2 p1b e2=>wpAny_pure ?_)
   have o2:IsPair g2 TO a b:=e2.extBut _ _ D.a8 (e1.extBut _ _ D.a2 HO')
   refine wpAny_bind (wpAny_seqItems o2 rfl ?_)
   refine wpAny_bind (wpAny_updateSeq_pair o2 fun g3 o3 e3=>?_)
   refine wpAny_bind (wpAny_letGo (wpAny_pure ?_))
   refine wpAny_bind (wpAny_bind (wpAny_onRaise ?_))
   show wpAny (model P w) _ (Builtin.SmallTypes.nextOf (.ref i2) >>= _) _ _ _
   refine wpAny_bind (S2.fin _ { s with heap:=g3 } i2 k2 ys _ _ hh (S2.atK _ _ _ _ p2 fun o e=>e3.extBut _ _ D.a9.symm (e2.extBut _ _ D.a0.symm (e1.extBut _ _ D.a4 e))) (S2.srcK _ _ _ q2 fun o e=>e3.extBut _ _ D.b2.2.1 (e2.extBut _ _ D.b2.2.2.1 (e1.extBut _ _ D.b2.1 e))) hy fun g4 e e4 he=>?_)
   obtain ⟨oe,hoe,hce⟩:=he
   have z4:IsZip g4 z TI TO .ellipsis:=e4 _ _ D.a4.symm (e3.extBut _ _ D.a2.symm (e2.extBut _ _ D.a3.symm z1))
   have ez:e≠z:=fun t=>by subst t; rw [z4] at hoe; cases hoe; simp at hce
   refine wpAny_setField_rec z4 (by simp) fun g5 _ e5=>hE g5 e (fun c o c1 c2 c3 c4 t=>e5.extBut _ _ c1 (e4 _ _ c4 (e3.extBut _ _ c2 (e2.extBut _ _ c3 (e1.extBut _ _ c1 t))))) ⟨oe,e5.extBut _ _ ez hoe,hce⟩
abbrev zp1 (h:Heap) (ob1 ob2:Obj):Heap:=(h.push ob1).push ob2
abbrev zp2 (h:Heap) (ob1 ob2:Obj):Heap:=(zp1 h ob1 ob2).push { cls:=.type "tuple",data:=.seq #[.ref h.objs.size,.ref (h.push ob1).objs.size] }
abbrev zp3 (h:Heap) (ob1 ob2:Obj):Heap:=(zp2 h ob1 ob2).push { cls:=.type "tuple",data:=.seq #[.none,.none] }
abbrev zp4 (h:Heap) (ob1 ob2:Obj):Heap:=(zp3 h ob1 ob2).push { cls:=.type "zip",data:=.fields #[.none,.bool false,.bool false,.ref (zp1 h ob1 ob2).objs.size,.ref (zp2 h ob1 ob2).objs.size] }
theorem oV (S1:∀ P w,SubF P w l1 ob1 src1 at1) (S2:∀ P w,SubF P w l2 ob2 src2 at2) (ne:∀ h vs,src2 h vs→∃ o,h.get? l2=some o) (xs ys:Array Value) :
   Meets (Builtin.«zip.__new__» ⟨[.type "zip",.ref l1,.ref l2],[]⟩) (fun _ R s=>src1 s.heap xs∧src2 s.heap ys∧R (.ok (.ret (.ref (zp3 s.heap ob1 ob2).objs.size))) { s with heap:=zp4 s.heap ob1 ob2 }) :=
 .of_wp fun prog w A R s hyp=>by
   obtain ⟨hp,g,d,tk,os⟩:=s
   obtain ⟨q1,q2,r⟩:=hyp
   have zsub:=sub_zip
   have B1:src1 (Shared.heap ⟨hp,g,d,tk,os⟩) xs:=q1
   have B2:src2 (Shared.heap ⟨hp.push ob1,g,d,tk,os⟩) ys:=(S2 prog w).srcK _ _ _ q2 fun o e=>Heap.get?_push_of_some _ e
   wp_walk using ((S1 prog w).start _ _ _ _ _ B1),((S2 prog w).start _ _ _ _ _ B2)
   exact ⟨_,rfl,r⟩
theorem yd (S1:∀ P w,SubF P w l1 ob1 src1 at1) (S2:∀ P w,SubF P w l2 ob2 src2 at2) (ne:∀ h vs,src2 h vs→∃ o,h.get? l2=some o) {xs ys:Array Value} {Q:Value→Shared→Prop} (q1:src1 s.heap xs) (q2:src2 s.heap ys)
   (h:∀ h',IsZip h' (s.heap.objs.size + 4) (s.heap.objs.size + 2) (s.heap.objs.size + 3) .none→IsPair h' (s.heap.objs.size + 2) (.ref s.heap.objs.size) (.ref (s.heap.objs.size + 1)) →
     IsPair h' (s.heap.objs.size + 3) .none .none→at1 s.heap.objs.size 0 h'→at2 (s.heap.objs.size + 1) 0 h' →
     (∀ c o,s.heap.get? c=some o→h'.get? c=some o)→Q (.ref (s.heap.objs.size + 4)) { s with heap:=h' }) (f1:ob1.isFreed=false) (f2:ob2.isFreed=false) :
   wpAny (model P w) A (call (.type "zip") [.ref l1,.ref l2]) Q E s:=by
 refine callType_new F.called_zip (by decide) (F.typeCall_zip_2 _ _) (F.newCall_zip_2 _ _) (fun obj=>F.args_object_init_3 obj _ _) F.entry_zip_new (oV S1 S2 ne xs ys) ⟨q1,q2,?_⟩
 have n0:(s.heap.push ob1).objs.size=s.heap.objs.size + 1:=Heap.size_push ..
 have n1:(zp1 s.heap ob1 ob2).objs.size=s.heap.objs.size + 2:=by rw [Heap.size_push,n0]
 have n2:(zp2 s.heap ob1 ob2).objs.size=s.heap.objs.size + 3:=by rw [Heap.size_push,n1]
 have n3:(zp3 s.heap ob1 ob2).objs.size=s.heap.objs.size + 4:=by rw [Heap.size_push,n2]
 have c5:(zp4 s.heap ob1 ob2).get? (zp3 s.heap ob1 ob2).objs.size=some _:=Heap.get?_push_size _ rfl
 have c4:(zp4 s.heap ob1 ob2).get? (zp2 s.heap ob1 ob2).objs.size=some _:=Heap.get?_push_of_some _ (Heap.get?_push_size _ rfl)
 have c3:(zp4 s.heap ob1 ob2).get? (zp1 s.heap ob1 ob2).objs.size=some _:=Heap.get?_push_of_some _ (Heap.get?_push_of_some _ (Heap.get?_push_size _ rfl))
 have c2:(zp4 s.heap ob1 ob2).get? (s.heap.push ob1).objs.size=some ob2:=Heap.get?_push_of_some _ (Heap.get?_push_of_some _ (Heap.get?_push_of_some _ (Heap.get?_push_size _ f2)))
 have c1:(zp4 s.heap ob1 ob2).get? s.heap.objs.size=some ob1:=Heap.get?_push_of_some _ (Heap.get?_push_of_some _ (Heap.get?_push_of_some _ (Heap.get?_push_of_some _ (Heap.get?_push_size _ f1))))
 show _∧_
 rw [n1,n2,n3] at c5
 rw [n0,n1] at c3
 rw [n2] at c4
 rw [n0] at c2
 rw [n3]
 exact ⟨⟨_,c5,rfl⟩,h _ c5 c3 c4 ((S1 P w).first _ _ c1) ((S2 P w).first _ _ c2) fun c o e=>Heap.get?_push_of_some _ (Heap.get?_push_of_some _ (Heap.get?_push_of_some _ (Heap.get?_push_of_some _ (Heap.get?_push_of_some _ e))))⟩
end
def SqX (K:PySem.W.Frag):Bool→Hp→Addr→List V→Prop
 | true,H,a,xs=>SqL K H a xs
 | false,H,a,xs=>SqT K H a xs
def Itz (K:PySem.W.Frag) (c d:Bool) (a b:Addr):It :=
 ⟨fun i H=>∃ xs ys x y,SqX K c H a xs∧SqX K d H b ys∧xs[i]?=some x∧ys[i]?=some y,
  fun i H v H'=>∃ p x y,H p=none∧v=.ref p∧H'=upd H p (.tup [x,y])∧(∀ xs,SqX K c H a xs→xs[i]?=some x)∧∀ ys,SqX K d H b ys→ys[i]?=some y,
  fun i H=>∃ xs ys,SqX K c H a xs∧SqX K d H b ys∧(xs.length≤i∨ys.length≤i)⟩
def BL (a:Addr):Bool→Obj
 | true=>{ cls:=.type "list_iterator",data:=.fields #[.ref a,.int 0 0] }
 | false=>{ cls:=.type "tuple_iterator",data:=.fields #[.ref a,.int 0 0] }
def sO (a:Addr):Bool→Heap→Array Value→Prop
 | true,h,vs=>h.IsList a vs
 | false,h,vs=>h.IsTuple a vs
def zAt (a:Addr):Bool→Addr→Nat→Heap→Prop
 | true,it,i,h=>h.IsListIter it a i
 | false,it,i,h=>h.IsTupleIter it a i
theorem cL (a:Addr) (c:Bool) (P:Program) (w:World):SubF P w a (BL a c) (sO a c) (zAt a c):=by
 cases c
 · exact xJ a
 · exact uJ a
theorem j4 (a:Addr) (c:Bool):(BL a c).isFreed=false:=by cases c <;> rfl
theorem gx (a:Addr) (c:Bool) (h:Heap) (vs:Array Value) (e:sO a c h vs):∃ o,h.get? a=some o:=by
 cases c
 · obtain ⟨o,ho,_⟩:=e; exact ⟨o,ho⟩
 · obtain ⟨o,ho,_⟩:=e; exact ⟨o,ho⟩
theorem Inv.sqX {X:Cx} {pins:List (Addr × Obj)} {σ:St} {H:Hp} {s:Shared} {c:Bool} {a:Addr} {xs:List V} (I:Inv X pins σ H s) (h:SqX X.K c H a xs):∃ its:List Value,Vals xs its∧sO a c s.heap its.toArray:=by
 cases c with
 | true =>
   obtain ⟨its,r,pl,_⟩:=I.list h
   exact ⟨its,r,pl.isList⟩
 | false =>
   obtain ⟨its,r,⟨o,ho,hc,n,hd⟩,_⟩:=I.tuple h
   exact ⟨its,r,⟨o,ho,hc,n,hd⟩⟩
theorem Inv.sqX_inj {X:Cx} {pins:List (Addr × Obj)} {σ:St} {H:Hp} {s:Shared} {c:Bool} {a:Addr} {xs ys:List V} (I:Inv X pins σ H s) (h:SqX X.K c H a xs) (h':SqX X.K c H a ys):xs=ys:=by
 cases c with
 | true=>exact I.list_inj h h'
 | false=>exact I.tuple_inj h h'
theorem zB {P:Program} {w:World} {K:PySem.W.Frag} {elts:List Expr} {x1} {tpos:Pos} (c d:Bool) (a b z TI TO i1 i2:Addr) (D:ZAp z TI TO i1 i2 a b) :
   Turn P w K (.Tuple elts x1 tpos) (Itz K c d a b) [z,TI,TO,i1,i2] z (fun i h=>IsZip h z TI TO .none∧IsPair h TI (.ref i1) (.ref i2)∧(∃ u v,IsPair h TO u v)∧zAt a c i1 i h∧zAt b d i2 i h) where
 mem:=by simp
 obj:=fun i h t e he=>by
   obtain ⟨t1,t2,⟨u,v,t3⟩,t4,t5⟩:=t
   simp only [List.mem_cons,List.mem_nil_iff,or_false] at he
   rcases he with rfl | rfl | rfl | rfl | rfl
   · exact ⟨_,t1,fun v z=>by cases z⟩
   · exact ⟨_,t2,fun v z=>by cases z⟩
   · exact ⟨_,t3,fun v z=>by cases z⟩
   · exact (cL a c P w).obj _ _ _ t4
   · exact (cL b d P w).obj _ _ _ t5
 keep:=fun i h h' t k=>by
   obtain ⟨t1,t2,⟨u,v,t3⟩,t4,t5⟩:=t
   exact ⟨k z (by simp) _ t1,k TI (by simp) _ t2,⟨u,v,k TO (by simp) _ t3⟩,(cL a c P w).atK _ _ _ _ t4 fun o e=>k i1 (by simp) o e,(cL b d P w).atK _ _ _ _ t5 fun o e=>k i2 (by simp) o e⟩
 item:=fun X e1 e2 e3 hc i pins s σ H E I f t g=>by
   subst e1 e2 e3
   obtain ⟨t1,t2,⟨u,v,t3⟩,t4,t5⟩:=t
   obtain ⟨xs,ys,x,y,s1,s2,hx,hy⟩:=g
   obtain ⟨us,r1,q1⟩:=I.sqX s1
   obtain ⟨vs,r2,q2⟩:=I.sqX s2
   obtain ⟨xu,hxu,rx⟩:=r1.get hx
   obtain ⟨yu,hyu,ry⟩:=r2.get hy
   have hT:s.TypeIs (.ref z) "zip":=⟨_,t1,rfl⟩
   unfold pyNext
   refine wpAny_bind (wpAny_attempt (wpAny_callSpecial?_slot (name:=Str.ofString "__next__") hT F.slot_zip_next (wpAny_call_entry F.slot_zip_next hT F.entry_zip_next
     (qI (cL a c _ _) (cL b d _ _) D t1 t2 t3 t4 t5 q1 q2 (x:=xu) (y:=yu) (by simpa using hxu) (by simpa using hyu) fun h' w1 w2 w3 w4 w5 w6 w7=>wpAny_pure ?_) (F.args_zip_next_1 _))))
   refine ⟨_,rfl,wpAny_letOwnedTupleGo_zip w1 fun h2 n1 n2=>?_⟩
   have fz:∀ q∈[z,TI,TO,i1,i2],eE X pins H q:=f
   have lt0:s.heap.objs.size≠z:=Nat.ne_of_gt (Heap.lt_size t1)
   have new:IsPair h2 s.heap.objs.size xu yu:=n2.extBut _ _ lt0 w5
   have kp:∀ q o,q ∉ [z,TI,TO,i1,i2]→s.heap.get? q=some o→h2.get? q=some o:=fun q o hq e=>by
     simp only [List.mem_cons,List.mem_nil_iff,or_false,not_or] at hq
     exact n2.extBut _ _ hq.1 (w7 q o hq.1 hq.2.2.1 hq.2.2.2.1 hq.2.2.2.2 e)
   have kTI:h2.get? TI=some _:=n2.extBut _ _ D.a1 (w7 TI _ D.a1 D.a5 D.a6 D.a7 t2)
   have Hn:∀ q u,H q=some u→q ∉ [z,TI,TO,i1,i2]:=fun q u e hq=>by rw [(fz q hq).1] at e; cases e
   have I2:Inv X pins σ H { s with heap:=h2 }:=by
     refine I.step (g':=s.gens) (d':=s.drawn) (t':=s.toks) (ch:=[z,TI,TO,i1,i2]) (fun q hq=>⟨(fz q hq).2.2.2.1,(fz q hq).2.1,(fz q hq).2.2.2.2.1,(fz q hq).2.2.2.2.2⟩) (fun q o _ _ hq e _=>kp q o hq e) (fun q o _ _ hq e _=>⟨o.slots,kp q o hq e⟩) (fun _ _ _ _ n=>n)
       (fun q o hq e=>⟨o,kp q o hq e⟩) (fun _ _ e=>e) (fun _ _ _ e=>e) (fun q ps e=>⟨#[],by rw [e]; simp⟩) (fun m hm=>?_) (fun q u e=>?_) I.bare
     · obtain ⟨o,es,ep,ho,r⟩:=hm
       exact ⟨o,es,ep,kp _ o (fun hq=>(fz _ hq).2.1 rfl) ho,r⟩
     · refine (I.hok q u e).stay (fun q' v hq' e'=>kp q' v ?_ e') (fun _ e'=>e') fun _ _ e'=>e'
       rcases hq' with rfl | hq'
       · exact Hn _ u e
       · exact Hn _ _ hq'
   have nH:H s.heap.objs.size=none:=I.fresh
   have I3:Inv X pins σ (upd H s.heap.objs.size (.tup [x,y])) { s with heap:=h2 }:=by
     refine ⟨I2.ok,I2.os,I2.bare,?_,I2.loc,I2.cell,?_,fun n c e=>?_,fun p hp=>?_,fun q u e=>?_,I2.len⟩
     · refine ⟨I2.base.keep,I2.base.slot,fun q o e n hx=>?_,I2.base.there,fun q xs e=>?_,fun q o u e=>?_,fun q ps e=>?_⟩
       · have lt:q < X.s₀.heap.objs.size:=Heap.lt_size e
         rw [aq (Nat.ne_of_lt (Nat.lt_of_lt_of_le lt I.sz))]
         exact I2.base.free q o e n hx
       · have e':=I2.base.tups q xs e
         rw [aq (fun z=>by rw [z,nH] at e'; cases e')]
         exact e'
       · have e':=I2.base.frzs q o u e
         rw [aq (fun z=>by rw [z,nH] at e'; cases e')]
         exact e'
       · obtain ⟨more,e'⟩:=I2.base.tbls q ps e
         exact ⟨more,by rw [aq (fun z=>by rw [z,nH] at e'; cases e')]; exact e'⟩
     · rw [aq (Nat.ne_of_lt I.lt)]
       exact I2.free
     · obtain ⟨vv,o,ho,_⟩:=I.cell n c e
       rw [aq (Nat.ne_of_lt (Heap.lt_size ho))]
       exact I2.freeC n c e
     · obtain ⟨k1,k2,k3⟩:=I.pin p hp
       rw [aq (Nat.ne_of_lt (Heap.lt_size k1))]
       exact I2.pin p hp
     · by_cases hq:q=s.heap.objs.size
       · subst hq
         rw [aj] at e; cases e
         exact ⟨by show 2≤sizeLine; decide,[xu,yu],.cons rx (.cons ry .nil),_,new,rfl,_,rfl⟩
       · rw [aq hq] at e
         refine (I2.hok q u e).stay (fun _ _ _ e'=>e') (fun q' e'=>?_) fun q' xs e'=>?_
         · rw [aq (fun z=>by rw [z,nH] at e'; cases e')]; exact e'
         · rw [aq (fun z=>by rw [z,nH] at e'; cases e')]; exact e'
   refine ⟨.ref s.heap.objs.size,_,I3,rfl,⟨_,x,y,nH,rfl,rfl,fun xs' q=>?_,fun ys' q=>?_⟩,⟨n1,kTI,⟨_,_,n2.extBut _ _ D.a2 w2⟩,(cL a c X.prog X.w).atK _ _ _ _ w3 fun o e=>n2.extBut _ _ D.a3 e,(cL b d X.prog X.w).atK _ _ _ _ w4 fun o e=>n2.extBut _ _ D.a4 e⟩,fun q hq=>?_⟩
   · rw [← I.sqX_inj s1 q]; exact hx
   · rw [← I.sqX_inj s2 q]; exact hy
   · have hlt:q < s.heap.objs.size:=by
       simp only [List.mem_cons,List.mem_nil_iff,or_false] at hq
       rcases hq with rfl | rfl | rfl | rfl | rfl
       · exact Heap.lt_size t1
       · exact Heap.lt_size t2
       · exact Heap.lt_size t3
       · exact let ⟨o,e,_⟩:=(cL a c X.prog X.w).obj _ _ _ t4; Heap.lt_size e
       · exact let ⟨o,e,_⟩:=(cL b d X.prog X.w).obj _ _ _ t5; Heap.lt_size e
     rw [aq (Nat.ne_of_lt hlt)]
     exact (fz q hq).1
 done:=fun X e1 e2 e3 hc i pins s σ H E I f t g=>by
   subst e1 e2 e3
   obtain ⟨t1,t2,⟨u,v,t3⟩,t4,t5⟩:=t
   obtain ⟨xs,ys,s1,s2,hend⟩:=g
   obtain ⟨us,r1,q1⟩:=I.sqX s1
   obtain ⟨vs,r2,q2⟩:=I.sqX s2
   have fz:∀ q∈[z,TI,TO,i1,i2],eE X pins H q:=f
   have hh:X.A.handled=none:=I.ok.hd hc
   have hT:s.TypeIs (.ref z) "zip":=⟨_,t1,rfl⟩
   have hend':us.toArray[i]?=none∨vs.toArray[i]?=none:=by
     rcases hend with e | e
     · exact .inl (by have:=r1.length; simp; omega)
     · exact .inr (by have:=r2.length; simp; omega)
   unfold pyNext
   refine wpAny_bind (wpAny_attempt (wpAny_callSpecial?_slot (name:=Str.ofString "__next__") hT F.slot_zip_next (wpAny_call_entry F.slot_zip_next hT F.entry_zip_next
     (rd (cL a c _ _) (cL b d _ _) hh D t1 t2 t3 t4 t5 q1 q2 hend' fun h' e hk he=>?_) (F.args_zip_next_1 _))))
   obtain ⟨o,ho,hcl⟩:=he
   refine wpAny_bind (wpAny_isInstance (T:="StopIteration") (b:=true) ⟨o,ho,hcl⟩ isSubtype_stop (wpAny_pure ⟨rfl,?_⟩))
   have kp:∀ q o,q ∉ [z,TI,TO,i1,i2]→s.heap.get? q=some o→h'.get? q=some o:=fun q o hq e=>by
     simp only [List.mem_cons,List.mem_nil_iff,or_false,not_or] at hq
     exact hk q o hq.1 hq.2.2.1 hq.2.2.2.1 hq.2.2.2.2 e
   have Hn:∀ q u,H q=some u→q ∉ [z,TI,TO,i1,i2]:=fun q u e hq=>by rw [(fz q hq).1] at e; cases e
   refine I.step (g':=s.gens) (d':=s.drawn) (t':=s.toks) (ch:=[z,TI,TO,i1,i2]) (fun q hq=>⟨(fz q hq).2.2.2.1,(fz q hq).2.1,(fz q hq).2.2.2.2.1,(fz q hq).2.2.2.2.2⟩) (fun q o _ _ hq e _=>kp q o hq e) (fun q o _ _ hq e _=>⟨o.slots,kp q o hq e⟩) (fun _ _ _ _ n=>n)
     (fun q o hq e=>⟨o,kp q o hq e⟩) (fun _ _ e=>e) (fun _ _ _ e=>e) (fun q ps e=>⟨#[],by rw [e]; simp⟩) (fun m hm=>?_) (fun q u e=>?_) I.bare
   · obtain ⟨o,es,ep,ho,r⟩:=hm
     exact ⟨o,es,ep,kp _ o (fun hq=>(fz _ hq).2.1 rfl) ho,r⟩
   · refine (I.hok q u e).stay (fun q' v hq' e'=>kp q' v ?_ e') (fun _ e'=>e') fun _ _ e'=>e'
     rcases hq' with rfl | hq'
     · exact Hn _ u e
     · exact Hn _ _ hq'
 self:=fun A i s Q E t q=>wpAny_pyIter_zip t.1 q
end L2
set_option Elab.async false
set_option linter.all false
set_option maxRecDepth 100000
namespace L2
open PySem PySem.Spec PyProof.Rows
section
variable {X:Cx} {pins:List (Addr × Obj)} {σ:St} {H H2:Hp} {s s2:Shared} {a:Addr} {o:HO}
end
section
variable {P:Program} {w:World} {A:Around} {E:Value→Shared→Prop} {s:Shared}
end
end L2
set_option Elab.async false
set_option linter.all false
set_option maxRecDepth 100000
namespace L2
open PySem PySem.Spec PyProof.Rows
section
variable {P:Program} {w:World} {A:Around} {E:Value→Shared→Prop} {s:Shared} {R:Result→Shared→Prop}
end
section
variable {X:Cx} {e:Expr} {te:TE} {p1 p2 pos pos2:Pos}
end
end L2
set_option Elab.async false
set_option linter.all false
set_option maxRecDepth 100000
namespace L2
open PySem PySem.Spec PyProof.Rows
theorem cW {a b:Nat} (h:a < b∨b < a):a≠b:=by omega
theorem Bf (n a b:Nat) (h1:a < n) (h2:b < n):ZAp (n + 4) (n + 2) (n + 3) n (n + 1) a b :=
 ⟨cW (by omega),cW (by omega),cW (by omega),cW (by omega),cW (by omega),cW (by omega),cW (by omega),cW (by omega),cW (by omega),cW (by omega),⟨cW (by omega),cW (by omega),cW (by omega),cW (by omega)⟩,⟨cW (by omega),cW (by omega),cW (by omega),cW (by omega)⟩⟩
section
variable {X:Cx}
def wx (K:PySem.W.Frag) (c d:Bool) (ta:TA):TI:=fun σ H R=>ta σ H fun vs H1=>∃ a b,vs=[.ref a,.ref b]∧(∃ xs,SqX K c H1 a xs)∧(∃ ys,SqX K d H1 b ys)∧R (Itz K c d a b) H1
theorem AY {elts:List Expr} {x1} {tpos:Pos} {ea eb:Expr} {ta:TA} {p pos:Pos} (c d:Bool) (hg:Gl X "zip") (hm:X.mg "zip"=none) (ha:PA X [ea,eb] ta)
   (hs:starEach [ea,eb] X.env=[(false,eval ea X.env),(false,eval eb X.env)]:=by rfl) (hs2:starEach [eb] X.env=[(false,eval eb X.env)]:=by rfl) :
   PI X (.Tuple elts x1 tpos) (.Call (.Name "zip" p) [ea,eb] [] pos) (wx X.K c d ta):=by
 intro pins s σ H R I h
 refine Call_ (gR I hg hm boot_zip (PyProof.Rows.callWith_type1 (ik (ha pos pins s σ H _ I h) fun us s1 vs H1 I1 r1 q1=>?_) (by rw [hs,hs2]) (by rw [hs2]; rfl)))
 obtain ⟨a,b,e,⟨xs,sa⟩,⟨ys,sb⟩,q⟩:=q1
 subst e
 obtain ⟨u,v,rfl,ru,rv⟩:=Cm r1
 cases ru
 cases rv
 obtain ⟨us,r1,q1⟩:=I1.sqX sa
 obtain ⟨vs,r2,q2⟩:=I1.sqX sb
 obtain ⟨oa,hoa⟩:=gx a c _ _ q1
 obtain ⟨ob,hob⟩:=gx b d _ _ q2
 have la:=Heap.lt_size hoa
 have lb:=Heap.lt_size hob
 refine yd (cL a c) (cL b d) (gx b d) q1 q2 (fun h' w1 w2 w3 w4 w5 w6=>?_) (j4 a c) (j4 b d)
 refine wpAny_pyIter_zip w1 ?_
 have D:=Bf s1.heap.objs.size a b la lb
 refine ⟨_,[s1.heap.objs.size + 4,s1.heap.objs.size + 2,s1.heap.objs.size + 3,s1.heap.objs.size,s1.heap.objs.size + 1],_,_,H1,rfl,I1.kept (t':=s1.toks) w6,zB c d a b _ _ _ _ _ D,⟨w1,w2,⟨_,_,w3⟩,w4,w5⟩,fun q hq=>?_,q⟩
 have hle:s1.heap.objs.size≤q:=by
   simp only [List.mem_cons,List.mem_nil_iff,or_false] at hq
   rcases hq with rfl | rfl | rfl | rfl | rfl
   · exact Nat.le_add_right _ 4
   · exact Nat.le_add_right _ 2
   · exact Nat.le_add_right _ 3
   · exact Nat.le_refl _
   · exact Nat.le_add_right _ 1
 exact I1.fpOk hle (I1.hok.fresh hle)
end
end L2
set_option linter.all false
namespace Pb
structure Road where
 a:Int
 b:Int
 t:Int
 u:Int
 deriving DecidableEq
def va (m:Int) (rs:List Road):Prop:=∀ S:Int→Prop,S 0→(∀ r∈rs,(S r.a↔S r.b))→∀ v,0≤v→v < m→S v
structure RoadOk (m:Int) (r:Road):Prop where
 a0:0≤r.a
 a1:r.a < m
 b0:0≤r.b
 b1:r.b < m
 ne:r.a≠r.b
 t0:2≤r.t
 t1:r.t≤1000000
 u0:2≤r.u
 u1:r.u≤1000000
structure Good (m:Int) (rs:List Road):Prop where
 m1:1≤m
 m24:m≤24
 len:(rs.length:Int)=m - 1
 ok:∀ r∈rs,RoadOk m r
 jn:va m rs
theorem fw {α:Type} [DecidableEq α]:∀ {l l':List α},l.Nodup→(∀ x∈l,x∈l')→l.length≤l'.length
 | [],_,_,_=>Nat.zero_le _
 | x :: r,l',hn,hs=>by
   obtain ⟨h1,h2⟩:=List.nodup_cons.mp hn
   have hx:x∈l':=hs x List.mem_cons_self
   have:r.length≤(l'.erase x).length:=fw h2 fun y hy=>(List.mem_erase_of_ne (fun (e:y=x)=>h1 (by rw [← e]; exact hy))).mpr (hs y (List.mem_cons_of_mem _ hy))
   rw [List.length_erase_of_mem hx] at this
   have hp:0 < l'.length:=List.length_pos_of_mem hx
   rw [List.length_cons]
   omega
def below (n:Nat):List Int:=(List.range n).map fun (k:Nat)=>(k:Int)
theorem mem_below {n:Nat} {v:Int}:v∈below n↔0≤v∧v < n:=by
 unfold below
 rw [List.mem_map]
 constructor
 · rintro ⟨k,hk,rfl⟩
   have:=List.mem_range.mp hk
   omega
 · rintro ⟨h0,h1⟩
   exact ⟨v.toNat,List.mem_range.mpr (by omega),by omega⟩
theorem aK (n:Nat):(below n).length=n:=by simp [below]
theorem b7 (n:Nat):(below n).Nodup:=by
 unfold below
 refine List.Pairwise.map _ (fun a b h=>?_) (List.nodup_range (n:=n))
 intro e
 exact h (by omega)
theorem ci {m:Int} {l:List Int} (hm:0≤m) (hn:l.Nodup) (h:∀ x∈l,0≤x∧x < m):(l.length:Int)≤m:=by
 have:=fw (l':=below m.toNat) hn fun x hx=>mem_below.mpr ⟨(h x hx).1,by have:=(h x hx).2; omega⟩
 rw [aK] at this
 omega
theorem wI {m:Int} {l:List Int} (hm:0≤m) (h:∀ v,0≤v→v < m→v∈l):m≤(l.length:Int):=by
 have:=fw (l:=below m.toNat) (l':=l) (b7 _) fun x hx=>by
   obtain ⟨h0,h1⟩:=mem_below.mp hx
   exact h x h0 (by omega)
 rw [aK] at this
 omega
def hB (p:Int) (r:Road):List Int:=(if r.a=p then [r.b] else []) ++ (if r.b=p then [r.a] else [])
def bC (rs:List Road) (p:Int):List Int:=rs.flatMap (hB p)
theorem mem_ends {rs:List Road} {p e:Int}:e∈bC rs p↔∃ r∈rs,(r.a=p∧r.b=e)∨(r.b=p∧r.a=e):=by
 unfold bC hB
 rw [List.mem_flatMap]
 constructor
 · rintro ⟨r,hr,h⟩
   refine ⟨r,hr,?_⟩
   rcases List.mem_append.mp h with h | h
   · by_cases c:r.a=p
     · rw [if_pos c] at h
       exact .inl ⟨c,(List.mem_singleton.mp h).symm⟩
     · rw [if_neg c] at h; cases h
   · by_cases c:r.b=p
     · rw [if_pos c] at h
       exact .inr ⟨c,(List.mem_singleton.mp h).symm⟩
     · rw [if_neg c] at h; cases h
 · rintro ⟨r,hr,h⟩
   refine ⟨r,hr,List.mem_append.mpr ?_⟩
   rcases h with ⟨h1,h2⟩ | ⟨h1,h2⟩
   · exact .inl (by rw [if_pos h1,h2]; exact List.mem_singleton.mpr rfl)
   · exact .inr (by rw [if_pos h1,h2]; exact List.mem_singleton.mpr rfl)
theorem qN (rs:List Road) (p:Int):(bC rs p).length≤2 * rs.length:=by
 unfold bC
 induction rs with
 | nil=>simp
 | cons r rs ih =>
   rw [List.flatMap_cons,List.length_append,List.length_cons]
   have:(hB p r).length≤2:=by
     unfold hB
     rw [List.length_append]
     by_cases c:r.a=p <;> by_cases d:r.b=p <;> simp [c,d]
   omega
theorem gX (rs:List Road) (r:Road) (p:Int):bC (rs ++ [r]) p=bC rs p ++ hB p r:=by
 unfold bC
 rw [List.flatMap_append]
 simp
def lW (c:List Int × List Int) (e:Int):List Int × List Int:=if e∈c.1 then c else (c.1 ++ [e],c.2 ++ [e])
structure JInv (m:Int) (rs:List Road) (ks ws:List Int):Prop where
 nd:ks.Nodup
 zero:0∈ks
 rng:∀ k∈ks,0≤k∧k < m
 sub:∀ w∈ws,w∈ks
 cl:∀ k∈ks,k ∉ ws→∀ e∈bC rs k,e∈ks
 wl:ws.length≤ks.length
theorem tE {l:List Int} {e:Int} (h:l.Nodup) (he:e ∉ l):(l ++ [e]).Nodup:=by
 rw [List.nodup_append]
 refine ⟨h,by simp,fun a ha b hb=>?_⟩
 rw [List.mem_singleton.mp hb]
 exact fun z=>he (z ▸ ha)
structure JMid (m:Int) (rs:List Road) (p:Int) (es ks ws ks0:List Int) (n0:Nat):Prop where
 nd:ks.Nodup
 zero:0∈ks
 rng:∀ k∈ks,0≤k∧k < m
 sub:∀ w∈ws,w∈ks
 cl:∀ k∈ks,k ∉ ws→k=p∨∀ e∈bC rs k,e∈ks
 seen:∀ e∈es,e∈ks
 pin:p∈ks
 mu:ks.length + n0=ks0.length + ws.length
 up:ks0.length≤ks.length
 wl:ws.length≤ks.length
theorem JMid.start {m:Int} {rs:List Road} {ks ws:List Int} {p:Int} (h:JInv m rs ks (ws ++ [p])):JMid m rs p [] ks ws ks ws.length where
 nd:=h.nd
 zero:=h.zero
 rng:=h.rng
 sub:=fun w hw=>h.sub w (List.mem_append_left _ hw)
 cl:=fun k hk hw=>by
   by_cases e:k=p
   · exact .inl e
   · exact .inr (h.cl k hk fun z=>by
       rcases List.mem_append.mp z with z | z
       · exact hw z
       · exact e (List.mem_singleton.mp z))
 seen:=fun e he=>by cases he
 pin:=h.sub p (List.mem_append_right _ (List.mem_singleton.mpr rfl))
 mu:=rfl
 up:=Nat.le_refl _
 wl:=by have:=h.wl; rw [List.length_append] at this; simp at this; omega
theorem JMid.step {m:Int} {rs:List Road} {p:Int} {es ks ws ks0:List Int} {n0:Nat} {e:Int} (h:JMid m rs p es ks ws ks0 n0) (h0:0≤e) (h1:e < m) :
   JMid m rs p (es ++ [e]) (lW (ks,ws) e).1 (lW (ks,ws) e).2 ks0 n0:=by
 unfold lW
 by_cases c:e∈ks
 · rw [if_pos c]
   refine ⟨h.nd,h.zero,h.rng,h.sub,h.cl,fun x hx=>?_,h.pin,h.mu,h.up,h.wl⟩
   rcases List.mem_append.mp hx with z | z
   · exact h.seen x z
   · rw [List.mem_singleton.mp z]; exact c
 · rw [if_neg c]
   dsimp only
   refine ⟨tE h.nd c,List.mem_append_left _ h.zero,fun k hk=>?_,fun w hw=>?_,fun k hk hw=>?_,fun x hx=>?_,List.mem_append_left _ h.pin,?_,by have:=h.up; simp; omega,by have:=h.wl; simp; exact this⟩
   · rcases List.mem_append.mp hk with z | z
     · exact h.rng k z
     · rw [List.mem_singleton.mp z]; exact ⟨h0,h1⟩
   · rcases List.mem_append.mp hw with z | z
     · exact List.mem_append_left _ (h.sub w z)
     · exact List.mem_append_right _ z
   · rcases List.mem_append.mp hk with z | z
     · rcases h.cl k z fun y=>hw (List.mem_append_left _ y) with y | y
       · exact .inl y
       · exact .inr fun x hx=>List.mem_append_left _ (y x hx)
     · exact absurd (List.mem_append_right _ z) hw
   · rcases List.mem_append.mp hx with z | z
     · exact List.mem_append_left _ (h.seen x z)
     · exact List.mem_append_right _ z
   · have:=h.mu
     simp only [List.length_append,List.length_cons,List.length_nil]
     omega
theorem JMid.done {m:Int} {rs:List Road} {p:Int} {ks ws ks0:List Int} {n0:Nat} (h:JMid m rs p (bC rs p) ks ws ks0 n0):JInv m rs ks ws where
 nd:=h.nd
 zero:=h.zero
 rng:=h.rng
 sub:=h.sub
 cl:=fun k hk hw=>by
   rcases h.cl k hk hw with z | z
   · rw [z]; exact h.seen
   · exact z
 wl:=h.wl
theorem JInv.start {m:Int} {rs:List Road} (hm:1≤m):JInv m rs [0] [0] where
 nd:=by simp
 zero:=by simp
 rng:=fun k hk=>by rw [List.mem_singleton.mp hk]; omega
 sub:=fun w hw=>hw
 cl:=fun k hk hw=>absurd hk hw
 wl:=by simp
theorem JInv.all {m:Int} {rs:List Road} {ks:List Int} (h:JInv m rs ks []) (hm:1≤m) (j:va m rs):(ks.length:Int)=m:=by
 have up:=ci (by omega) h.nd h.rng
 have:∀ v,0≤v→v < m→v∈ks:=j (fun v=>v∈ks) h.zero fun r hr=>by
   constructor
   · intro ha
     exact h.cl r.a ha (by simp) r.b (mem_ends.mpr ⟨r,hr,.inl ⟨rfl,rfl⟩⟩)
   · intro hb
     exact h.cl r.b hb (by simp) r.a (mem_ends.mpr ⟨r,hr,.inr ⟨rfl,rfl⟩⟩)
 have:=wI (by omega) this
 omega
theorem xh {m:Int} {rs:List Road} (h:∀ r∈rs,RoadOk m r) {p e:Int} (he:e∈bC rs p):0≤e∧e < m:=by
 obtain ⟨r,hr,z⟩:=mem_ends.mp he
 have k:=h r hr
 rcases z with ⟨_,rfl⟩ | ⟨_,rfl⟩
 · exact ⟨k.b0,k.b1⟩
 · exact ⟨k.a0,k.a1⟩
structure Row where
 k:Int
 un:Int
 t:Int
 u:Int
 sw:Int
 sp:Int
structure RowOk (r:Row):Prop where
 u0:0≤r.un
 u1:r.un < r.k
 t0:2≤r.t
 t1:r.t≤1000000
 v0:2≤r.u
 v1:r.u≤1000000
 s0:0≤r.sp
 s1:r.sp < r.k
structure Rows (n:Nat) (rows:List Row):Prop where
 len:rows.length=n
 ok:∀ (i:Nat) (r:Row),rows[i]?=some r→r.k=(i:Int) + 1∧RowOk r
structure Labels (n:Nat) (ls:List Int):Prop where
 len:ls.length=n
 nd:ls.Nodup
 all:∀ v:Int,0≤v→v < n→v∈ls
 rng:∀ v∈ls,0≤v∧v < n
theorem mem_insert {α:Type} {l:List α} {k:Nat} {x y:α}:y∈l.take k ++ x :: l.drop k↔y=x∨y∈l:=by
 rw [List.mem_append,List.mem_cons]
 constructor
 · rintro (h | h | h)
   · exact .inr (List.mem_of_mem_take h)
   · exact .inl h
   · exact .inr (List.mem_of_mem_drop h)
 · rintro (h | h)
   · exact .inr (.inl h)
   · rw [← List.take_append_drop k l] at h
     rcases List.mem_append.mp h with z | z
     · exact .inl z
     · exact .inr (.inr z)
def dv (ls:List Int) (r:Row):Road:=if r.sw=1 then ⟨ls.getD r.un.toNat 0,ls.getD r.k.toNat 0,r.t,r.u⟩ else ⟨ls.getD r.k.toNat 0,ls.getD r.un.toNat 0,r.t,r.u⟩
structure Put (ls:List Int) (rows:List Row) (rs:List Road):Prop where
 len:rs.length=rows.length
 of:∀ r∈rs,∃ w∈rows,r=dv ls w
 to:∀ w∈rows,dv ls w∈rs
theorem Put.nil (ls:List Int):Put ls [] []:=⟨rfl,fun r h=>(by cases h),fun r h=>(by cases h)⟩
theorem Put.step {ls:List Int} {rows:List Row} {rs:List Road} (h:Put ls rows rs) (w:Row) (k:Nat):Put ls (rows ++ [w]) (rs.take k ++ dv ls w :: rs.drop k) where
 len:=by
   rw [List.length_append,List.length_cons,List.length_take,List.length_drop,List.length_append,h.len]
   simp
   omega
 of:=fun r hr=>by
   rcases mem_insert.mp hr with z | z
   · exact ⟨w,by simp,z⟩
   · obtain ⟨w',hw,e⟩:=h.of r z
     exact ⟨w',List.mem_append_left _ hw,e⟩
 to:=fun w' hw=>by
   rw [mem_insert]
   rcases List.mem_append.mp hw with z | z
   · exact .inr (h.to w' z)
   · exact .inl (by rw [List.mem_singleton.mp z])
theorem kd {ls:List Int} {n:Nat} (h:Labels n ls) {i:Nat} (hi:i < n):ls[i]?=some (ls.getD i 0):=by
 have:i < ls.length:=by rw [h.len]; exact hi
 simp [List.getD,List.getElem?_eq_getElem this]
theorem pE {ls:List Int} {n:Nat} (h:Labels n ls) {i:Nat} (hi:i < n):ls.getD i 0∈ls:=List.mem_of_getElem? (kd h hi)
theorem xx {ls:List Int} {n:Nat} (h:Labels n ls) {i j:Nat} (hi:i < n) (hj:j < n) (e:ls.getD i 0=ls.getD j 0):i=j:=by
 have h1:i < ls.length:=by rw [h.len]; exact hi
 have h2:j < ls.length:=by rw [h.len]; exact hj
 have e1:=kd h hi
 have e2:=kd h hj
 rw [e] at e1
 have e3:ls[i]'h1=ls[j]'h2:=by
   rw [List.getElem?_eq_getElem h1] at e1
   rw [List.getElem?_eq_getElem h2] at e2
   exact Option.some.inj (e1.trans e2.symm)
 have nd:=List.pairwise_iff_getElem.mp h.nd
 rcases Nat.lt_trichotomy i j with z | z | z
 · exact absurd e3 (nd i j h1 h2 z)
 · exact z
 · exact absurd e3.symm (nd j i h2 h1 z)
theorem AL {n:Nat} {ls:List Int} {rows:List Row} {rs:List Road} (h1:1≤n) (h24:n≤24) (L:Labels n ls) (W:Rows (n - 1) rows) (P:Put ls rows rs):Good n rs where
 m1:=by omega
 m24:=by omega
 len:=by rw [P.len,W.len]; omega
 ok:=fun r hr=>by
   obtain ⟨w,hw,rfl⟩:=P.of r hr
   obtain ⟨i,hi⟩:=List.getElem?_of_mem hw
   obtain ⟨ek,ok⟩:=W.ok i w hi
   have hil:i < rows.length:=(List.getElem?_eq_some_iff.mp hi).1
   rw [W.len] at hil
   have hk:w.k.toNat < n:=by omega
   have hu:w.un.toNat < n:=by have:=ok.u0; have:=ok.u1; omega
   have r1:=L.rng _ (pE L hk)
   have r2:=L.rng _ (pE L hu)
   have ne:ls.getD w.k.toNat 0≠ls.getD w.un.toNat 0:=fun e=>by
     have:=xx L hk hu e
     have:=ok.u0; have:=ok.u1
     omega
   unfold dv
   by_cases c:w.sw=1
   · rw [if_pos c]
     exact ⟨r2.1,r2.2,r1.1,r1.2,ne.symm,ok.t0,ok.t1,ok.v0,ok.v1⟩
   · rw [if_neg c]
     exact ⟨r1.1,r1.2,r2.1,r2.2,ne,ok.t0,ok.t1,ok.v0,ok.v1⟩
 jn:=by
   intro S s0 hS
   have key:∀ i:Nat,i < n→(S (ls.getD i 0)↔S (ls.getD 0 0)):=by
     intro i
     induction i using Nat.strongRecOn with
     | ind i ih =>
       intro hi
       by_cases z:i=0
       · rw [z]
       · have hil:i - 1 < rows.length:=by rw [W.len]; omega
         obtain ⟨ek,ok⟩:=W.ok (i - 1) rows[i - 1] (List.getElem?_eq_getElem hil)
         have hm:=P.to rows[i - 1] (List.getElem_mem hil)
         have hr:=hS _ hm
         have hk:(rows[i - 1]).k.toNat=i:=by omega
         have hu:(rows[i - 1]).un.toNat < i:=by have:=ok.u0; have:=ok.u1; omega
         have hh:=ih _ hu (by omega)
         unfold dv at hr
         rw [hk] at hr
         by_cases c:(rows[i - 1]).sw=1
         · rw [if_pos c] at hr
           exact hr.symm.trans hh
         · rw [if_neg c] at hr
           exact hr.trans hh
   have at_:∀ v,0≤v→v < (n:Int)→∃ i,i < n∧ls.getD i 0=v:=fun v h0 h1=>by
     obtain ⟨i,hi⟩:=List.getElem?_of_mem (L.all v h0 h1)
     have hil:i < n:=by have:=(List.getElem?_eq_some_iff.mp hi).1; rw [L.len] at this; exact this
     refine ⟨i,hil,?_⟩
     have:=kd L hil
     rw [hi] at this
     exact (Option.some.inj this).symm
   intro v h0 hv
   obtain ⟨i,hi,rfl⟩:=at_ v h0 hv
   obtain ⟨j,hj,ej⟩:=at_ 0 (by omega) (by omega)
   refine (key i hi).mpr ((key j hj).mp ?_)
   rw [ej]
   exact s0
end Pb
set_option linter.all false
namespace Pb
def Adj (rs:List Road) (a b:Int):Prop:=∃ x∈rs,(x.a=a∧x.b=b)∨(x.b=a∧x.a=b)
theorem Adj.symm {rs:List Road} {a b:Int} (h:Adj rs a b):Adj rs b a:=by
 obtain ⟨x,hx,h⟩:=h
 rcases h with ⟨h1,h2⟩ | ⟨h1,h2⟩
 · exact ⟨x,hx,.inr ⟨h2,h1⟩⟩
 · exact ⟨x,hx,.inl ⟨h2,h1⟩⟩
theorem pR {rs:List Road} {a b:Int}:b∈bC rs a↔Adj rs a b:=mem_ends
theorem Good.adj {m:Int} {rs:List Road} (g:Good m rs) {a b:Int} (h:Adj rs a b):(0≤a∧a < m)∧(0≤b∧b < m)∧a≠b:=by
 obtain ⟨x,hx,h⟩:=h
 have k:=g.ok x hx
 rcases h with ⟨h1,h2⟩ | ⟨h1,h2⟩
 · subst h1 h2; exact ⟨⟨k.a0,k.a1⟩,⟨k.b0,k.b1⟩,k.ne⟩
 · subst h1 h2; exact ⟨⟨k.b0,k.b1⟩,⟨k.a0,k.a1⟩,k.ne.symm⟩
theorem Good.from {m:Int} {rs:List Road} (g:Good m rs) {r:Int} (h0:0≤r) (h1:r < m) (S:Int→Prop) (sr:S r) (hS:∀ x∈rs,(S x.a↔S x.b)):∀ v,0≤v→v < m→S v:=by
 have key:∀ v,0≤v→v < m→(S v↔S 0):=g.jn (fun v=>S v↔S 0) Iff.rfl fun x hx=>by
   have:=hS x hx
   exact ⟨fun h=>this.symm.trans h,fun h=>this.trans h⟩
 intro v a b
 exact (key v a b).mpr ((key r h0 h1).mp sr)
inductive Dist (rs:List Road) (r:Int):Nat→Int→Prop
 | zero:Dist rs r 0 r
 | step {n:Nat} {u v:Int}:Dist rs r n u→Adj rs u v→Dist rs r (n + 1) v
theorem pA {P:Nat→Prop}:∀ n,P n→∃ k,P k∧∀ j,j < k→¬ P j:=by
 intro n
 induction n using Nat.strongRecOn with
 | ind n ih =>
   intro h
   by_cases z:∃ j,j < n∧P j
   · obtain ⟨j,hj,hp⟩:=z
     exact ih j hj hp
   · exact ⟨n,h,fun j hj hp=>z ⟨j,hj,hp⟩⟩
structure Rooted (m:Int) (rs:List Road) (r:Int) (par:Int→Int) (dep:Int→Nat):Prop where
 root:dep r=0
 up:∀ v,0≤v→v < m→v≠r→(0≤par v∧par v < m)∧Adj rs v (par v)∧dep (par v) + 1=dep v
 road:∀ x∈rs,(x.a≠r∧par x.a=x.b)∨(x.b≠r∧par x.b=x.a)
 one:(rs.map fun x=>if x.a≠r∧par x.a=x.b then x.a else x.b).Nodup
theorem Am {n:Nat} {l:List Nat} (hn:l.Nodup) (hl:l.length=n) (hb:∀ x∈l,x < n):∀ i,i < n→i∈l:=by
 intro i hi
 by_cases z:i∈l
 · exact z
 · have:=fw (l:=i :: l) (l':=List.range n) (List.nodup_cons.mpr ⟨z,hn⟩) fun x hx=>by
     rcases List.mem_cons.mp hx with rfl | hx
     · exact List.mem_range.mpr hi
     · exact List.mem_range.mpr (hb x hx)
   rw [List.length_cons,List.length_range] at this
   omega
theorem fW {m:Int} {rs:List Road} (g:Good m rs) {r:Int} (h0:0≤r) (h1:r < m):∃ par dep,Rooted m rs r par dep:=by
 classical
 have reach:∀ v,0≤v→v < m→∃ n,Dist rs r n v:=g.from h0 h1 (fun v=>∃ n,Dist rs r n v) ⟨0,.zero⟩ fun x hx=>by
   constructor
   · rintro ⟨n,d⟩; exact ⟨n + 1,d.step ⟨x,hx,.inl ⟨rfl,rfl⟩⟩⟩
   · rintro ⟨n,d⟩; exact ⟨n + 1,d.step ⟨x,hx,.inr ⟨rfl,rfl⟩⟩⟩
 have hd:∀ v,∃ k,(0≤v∧v < m)→Dist rs r k v∧∀ j,j < k→¬ Dist rs r j v:=fun v=>by
   by_cases z:0≤v∧v < m
   · obtain ⟨n,d⟩:=reach v z.1 z.2
     obtain ⟨k,h⟩:=pA (P:=fun k=>Dist rs r k v) n d
     exact ⟨k,fun _=>h⟩
   · exact ⟨0,fun h=>absurd h z⟩
 let dep:Int→Nat:=fun v=>(hd v).choose
 have dspec:∀ v,0≤v→v < m→Dist rs r (dep v) v∧∀ j,j < dep v→¬ Dist rs r j v:=fun v a b=>(hd v).choose_spec ⟨a,b⟩
 have dr:dep r=0:=by
   have:=(dspec r h0 h1).2 0
   by_cases z:dep r=0
   · exact z
   · exact absurd Dist.zero (this (by omega))
 have hp:∀ v,∃ u,(0≤v∧v < m∧v≠r)→Adj rs v u∧dep u + 1=dep v:=fun v=>by
   by_cases z:0≤v∧v < m∧v≠r
   · obtain ⟨a,b,c⟩:=z
     obtain ⟨d,dm⟩:=dspec v a b
     generalize hk:dep v=k at d dm
     cases d with
     | zero=>exact absurd rfl c
     | @step n u _ d e =>
       refine ⟨u,fun _=>⟨e.symm,?_⟩⟩
       obtain ⟨⟨u0,u1⟩,_⟩:=g.adj e
       have l1:dep u≤n:=by
         by_cases w:dep u≤n
         · exact w
         · exact absurd d ((dspec u u0 u1).2 n (by omega))
       have l2:¬ dep u < n:=fun w=>dm (dep u + 1) (by omega) ((dspec u u0 u1).1.step e)
       omega
   · exact ⟨0,fun h=>absurd h z⟩
 let par:Int→Int:=fun v=>(hp v).choose
 have pspec:∀ v,0≤v→v < m→v≠r→Adj rs v (par v)∧dep (par v) + 1=dep v:=fun v a b c=>(hp v).choose_spec ⟨a,b,c⟩
 have hi:∀ v,∃ i:Nat,(0≤v∧v < m∧v≠r)→∃ x,rs[i]?=some x∧((x.a=v∧x.b=par v)∨(x.b=v∧x.a=par v)):=fun v=>by
   by_cases z:0≤v∧v < m∧v≠r
   · obtain ⟨x,hx,h⟩:=(pspec v z.1 z.2.1 z.2.2).1
     obtain ⟨i,e⟩:=List.getElem?_of_mem hx
     exact ⟨i,fun _=>⟨x,e,h⟩⟩
   · exact ⟨0,fun h=>absurd h z⟩
 let ix:Int→Nat:=fun v=>(hi v).choose
 have ispec:∀ v,0≤v→v < m→v≠r→∃ x,rs[ix v]?=some x∧((x.a=v∧x.b=par v)∨(x.b=v∧x.a=par v)):=fun v a b c=>(hi v).choose_spec ⟨a,b,c⟩
 have inj:∀ v u,0≤v→v < m→v≠r→0≤u→u < m→u≠r→ix v=ix u→v=u:=by
   intro v u a b c a' b' c' e
   obtain ⟨x,hx,h⟩:=ispec v a b c
   obtain ⟨y,hy,h'⟩:=ispec u a' b' c'
   rw [e,hy] at hx
   cases hx
   have d1:=(pspec v a b c).2
   have d2:=(pspec u a' b' c').2
   rcases h with ⟨p,q⟩ | ⟨p,q⟩ <;> rcases h' with ⟨p',q'⟩ | ⟨p',q'⟩
   · exact p.symm.trans p'
   · exfalso
     have e1:v=par u:=p.symm.trans q'
     have e2:u=par v:=p'.symm.trans q
     rw [← e1] at d2
     rw [← e2] at d1
     omega
   · exfalso
     have e1:v=par u:=p.symm.trans q'
     have e2:u=par v:=p'.symm.trans q
     rw [← e1] at d2
     rw [← e2] at d1
     omega
   · exact p.symm.trans p'
 let vs:List Int:=(below m.toNat).filter fun v=>decide (v≠r)
 have mv:∀ v,v∈vs↔(0≤v∧v < m∧v≠r):=fun v=>by
   rw [List.mem_filter,mem_below,decide_eq_true_eq]
   constructor
   · rintro ⟨⟨a,b⟩,c⟩; exact ⟨a,by omega,c⟩
   · rintro ⟨a,b,c⟩; exact ⟨⟨a,by omega⟩,c⟩
 have nv:vs.Nodup:=(b7 _).filter _
 have lv:vs.length=rs.length:=by
   have e1:(r :: vs).length≤(below m.toNat).length:=fw (List.nodup_cons.mpr ⟨fun h=>((mv r).mp h).2.2 rfl,nv⟩) fun x hx=>by
     rcases List.mem_cons.mp hx with rfl | hx
     · exact mem_below.mpr ⟨h0,by omega⟩
     · have:=(mv x).mp hx
       exact mem_below.mpr ⟨this.1,by omega⟩
   have e2:(below m.toNat).length≤(r :: vs).length:=fw (b7 _) fun x hx=>by
     have:=mem_below.mp hx
     by_cases z:x=r
     · rw [z]; exact List.mem_cons_self
     · exact List.mem_cons_of_mem _ ((mv x).mpr ⟨this.1,by omega,z⟩)
   rw [aK,List.length_cons] at e1 e2
   have:=g.len
   have:=g.m1
   omega
 have il:(vs.map ix).Nodup:=by
   have:∀ (l:List Int),l.Nodup→(∀ v∈l,0≤v∧v < m∧v≠r)→(l.map ix).Nodup:=by
     intro l
     induction l with
     | nil=>intro _ _; simp
     | cons v l ih =>
       intro hn hm
       obtain ⟨n1,n2⟩:=List.nodup_cons.mp hn
       rw [List.map_cons]
       refine List.nodup_cons.mpr ⟨fun z=>?_,ih n2 fun u hu=>hm u (List.mem_cons_of_mem _ hu)⟩
       obtain ⟨u,hu,e⟩:=List.mem_map.mp z
       obtain ⟨a,b,c⟩:=hm v List.mem_cons_self
       obtain ⟨a',b',c'⟩:=hm u (List.mem_cons_of_mem _ hu)
       exact n1 (inj u v a' b' c' a b c e ▸ hu)
   exact this vs nv fun v hv=>(mv v).mp hv
 have ib:∀ i∈vs.map ix,i < rs.length:=fun i hi'=>by
   obtain ⟨v,hv,rfl⟩:=List.mem_map.mp hi'
   obtain ⟨a,b,c⟩:=(mv v).mp hv
   obtain ⟨x,hx,_⟩:=ispec v a b c
   exact (List.getElem?_eq_some_iff.mp hx).1
 have all:=Am il (by rw [List.length_map,lv]) ib
 have back:∀ i x,rs[i]?=some x→∃ v,(0≤v∧v < m∧v≠r)∧ix v=i∧((x.a=v∧x.b=par v)∨(x.b=v∧x.a=par v)):=fun i x e=>by
   obtain ⟨v,hv,rfl⟩:=List.mem_map.mp (all i (List.getElem?_eq_some_iff.mp e).1)
   obtain ⟨a,b,c⟩:=(mv v).mp hv
   obtain ⟨y,hy,h⟩:=ispec v a b c
   rw [e] at hy
   cases hy
   exact ⟨v,⟨a,b,c⟩,rfl,h⟩
 have noback:∀ v,0≤v→v < m→v≠r→par v≠r→par (par v)≠v:=fun v a b c c' z=>by
   have d1:=pspec v a b c
   obtain ⟨_,⟨a',b'⟩,_⟩:=g.adj d1.1
   have d2:=pspec (par v) a' b' c'
   rw [z] at d2
   omega
 have kid:∀ i x,rs[i]?=some x→∃ v,(0≤v∧v < m∧v≠r)∧ix v=i∧(if x.a≠r∧par x.a=x.b then x.a else x.b)=v:=fun i x e=>by
   obtain ⟨v,⟨a,b,c⟩,hv,h⟩:=back i x e
   refine ⟨v,⟨a,b,c⟩,hv,?_⟩
   rcases h with ⟨p,q⟩ | ⟨p,q⟩
   · rw [if_pos ⟨by rw [p]; exact c,by rw [p]; exact q.symm⟩]
     exact p
   · rw [if_neg]
     · exact p
     · rintro ⟨z1,z2⟩
       rw [q] at z1 z2
       exact noback v a b c z1 (z2.trans p)
 refine ⟨par,dep,dr,fun v a b c=>?_,fun x hx=>?_,?_⟩
 · obtain ⟨p,q⟩:=pspec v a b c
   obtain ⟨_,w,_⟩:=g.adj p
   exact ⟨w,p,q⟩
 · obtain ⟨i,e⟩:=List.getElem?_of_mem hx
   obtain ⟨v,⟨a,b,c⟩,_,h⟩:=back i x e
   rcases h with ⟨p,q⟩ | ⟨p,q⟩
   · exact .inl ⟨by rw [p]; exact c,by rw [p]; exact q.symm⟩
   · exact .inr ⟨by rw [p]; exact c,by rw [p]; exact q.symm⟩
 · refine List.pairwise_iff_getElem.mpr fun i j hi' hj' lt=>?_
   rw [List.length_map] at hi' hj'
   rw [List.getElem_map,List.getElem_map]
   intro z
   obtain ⟨v,_,e1,k1⟩:=kid i rs[i] (List.getElem?_eq_getElem hi')
   obtain ⟨u,_,e2,k2⟩:=kid j rs[j] (List.getElem?_eq_getElem hj')
   rw [k1,k2] at z
   rw [z] at e1
   omega
theorem sM {m:Int} {rs:List Road} (g:Good m rs) {p:Int} (h0:0≤p) (h1:p < m):(bC rs p).Nodup:=by
 obtain ⟨par,dep,R⟩:=fW g h0 h1
 have one:=R.one
 have ok:=g.ok
 have road:=R.road
 clear R g
 induction rs with
 | nil=>simp [bC]
 | cons x l ih =>
   have ox:=ok x List.mem_cons_self
   have ol:∀ y∈l,RoadOk m y:=fun y hy=>ok y (List.mem_cons_of_mem _ hy)
   rw [List.map_cons] at one
   obtain ⟨n1,n2⟩:=List.nodup_cons.mp one
   have il:=ih n2 ol fun y hy=>road y (List.mem_cons_of_mem _ hy)
   have e:bC (x :: l) p=hB p x ++ bC l p:=by unfold bC; rw [List.flatMap_cons]
   rw [e]
   have kid:∀ y,RoadOk m y→((y.a≠p∧par y.a=y.b)∨(y.b≠p∧par y.b=y.a))→(y.a=p→(if y.a≠p∧par y.a=y.b then y.a else y.b)=y.b)∧(y.b=p→(if y.a≠p∧par y.a=y.b then y.a else y.b)=y.a):=fun y oy hy=>by
     constructor
     · intro z
       rw [if_neg (fun w=>w.1 z)]
     · intro z
       rcases hy with hy | hy
       · rw [if_pos hy]
       · exact absurd z hy.1
   have kx:=kid x ox (road x List.mem_cons_self)
   have inl:∀ e∈bC l p,e∈l.map fun y=>if y.a≠p∧par y.a=y.b then y.a else y.b:=fun e he=>by
     obtain ⟨y,hy,h⟩:=mem_ends.mp he
     have ky:=kid y (ol y hy) (road y (List.mem_cons_of_mem _ hy))
     refine List.mem_map.mpr ⟨y,hy,?_⟩
     rcases h with ⟨p1,q1⟩ | ⟨p1,q1⟩
     · rw [ky.1 p1]; exact q1
     · rw [ky.2 p1]; exact q1
   unfold hB
   by_cases c:x.a=p
   · have d:¬ x.b=p:=fun z=>ox.ne (c.trans z.symm)
     rw [if_pos c,if_neg d,List.append_nil]
     refine List.nodup_cons.mpr ⟨fun z=>n1 ?_,il⟩
     rw [kx.1 c]
     exact inl _ z
   · rw [if_neg c,List.nil_append]
     by_cases d:x.b=p
     · rw [if_pos d]
       refine List.nodup_cons.mpr ⟨fun z=>n1 ?_,il⟩
       rw [kx.2 d]
       exact inl _ z
     · rw [if_neg d]
       exact il
def bM (m:Int) (rs:List Road) (p:Int):List Int:=(below m.toNat).filter fun q=>decide (q∈bC rs p)
theorem nQ:∀ {l l':List Int},l.Perm l'→l.Pairwise (·≤·)→l'.Pairwise (·≤·)→l=l'
 | [],l',p,_,_=>(List.Perm.nil_eq p)
 | a :: l,l',p,h,h'=>by
   cases l' with
   | nil=>exact absurd p.symm.nil_eq (by simp)
   | cons b r =>
     obtain ⟨h1,h2⟩:=List.pairwise_cons.mp h
     obtain ⟨h1',h2'⟩:=List.pairwise_cons.mp h'
     have e:a=b:=by
       have ma:a∈b :: r:=p.subset List.mem_cons_self
       have mb:b∈a :: l:=p.symm.subset List.mem_cons_self
       rcases List.mem_cons.mp ma with z | z
       · exact z
       · rcases List.mem_cons.mp mb with w | w
         · exact w.symm
         · have:=h1 b w
           have:=h1' a z
           omega
     subst e
     rw [nQ (List.Perm.cons_inv p) h2 h2']
theorem qg (n:Nat):(below n).Pairwise (·≤·):=by
 unfold below
 refine List.Pairwise.map _ (fun a b (h:a < b)=>?_) List.pairwise_lt_range
 omega
theorem rH (m:Int) (rs:List Road) (p:Int):(bM m rs p).Pairwise (·≤·):=(qg _).filter _
theorem mC (m:Int) (rs:List Road) (p:Int):(bM m rs p).Nodup:=(b7 _).filter _
theorem cU {m:Int} {rs:List Road} (g:Good m rs) {p q:Int}:q∈bM m rs p↔Adj rs p q:=by
 unfold bM
 rw [List.mem_filter,decide_eq_true_eq,pR,mem_below]
 constructor
 · exact fun h=>h.2
 · intro h
   obtain ⟨_,⟨a,b⟩,_⟩:=g.adj h
   exact ⟨⟨a,by omega⟩,h⟩
theorem eC:∀ {l l':List Int},l.Nodup→l'.Nodup→(∀ x,x∈l↔x∈l')→l.Perm l'
 | [],l',_,_,h=>by
   cases l' with
   | nil=>exact .nil
   | cons b r=>exact absurd ((h b).mpr List.mem_cons_self) (by simp)
 | a :: l,l',n,n',h=>by
   obtain ⟨n1,n2⟩:=List.nodup_cons.mp n
   have ma:a∈l':=(h a).mp List.mem_cons_self
   refine List.Perm.trans (List.Perm.cons a ?_) (List.perm_cons_erase ma).symm
   refine eC n2 (n'.erase a) fun x=>?_
   constructor
   · intro hx
     have ne:x≠a:=fun z=>n1 (z ▸ hx)
     exact (List.mem_erase_of_ne ne).mpr ((h x).mp (List.mem_cons_of_mem _ hx))
   · intro hx
     have:x≠a:=fun z=>by
       subst z
       exact (List.Nodup.not_mem_erase n') hx
     rcases List.mem_cons.mp ((h x).mpr (List.mem_of_mem_erase hx)) with z | z
     · exact absurd z this
     · exact z
theorem zU {m:Int} {rs:List Road} (g:Good m rs) {p:Int} (h0:0≤p) (h1:p < m) {zs:List Int} (hp:zs.Perm (bC rs p)) (hs:zs.Pairwise (·≤·)):zs=bM m rs p:=by
 refine nQ (hp.trans (eC (sM g h0 h1) (mC m rs p) fun x=>?_)) hs (rH m rs p)
 rw [cU g,pR]
def cY (a b:Int) (x:Road):Option Int:=if x.a=a∧x.b=b then some x.t else if x.a=b∧x.b=a then some x.u else none
def bD (rs:List Road) (a b:Int):Option Int:=rs.findSome? (cY a b)
theorem toll_adj {rs:List Road} {a b:Int}:(bD rs a b).isSome=true↔Adj rs a b:=by
 unfold bD
 rw [List.findSome?_isSome_iff]
 constructor
 · rintro ⟨x,hx,h⟩
   unfold cY at h
   by_cases c:x.a=a∧x.b=b
   · exact ⟨x,hx,.inl c⟩
   · rw [if_neg c] at h
     by_cases d:x.a=b∧x.b=a
     · exact ⟨x,hx,.inr ⟨d.2,d.1⟩⟩
     · rw [if_neg d] at h; cases h
 · rintro ⟨x,hx,h⟩
   refine ⟨x,hx,?_⟩
   unfold cY
   rcases h with h | h
   · rw [if_pos h]; rfl
   · by_cases c:x.a=a∧x.b=b
     · rw [if_pos c]; rfl
     · rw [if_neg c,if_pos ⟨h.2,h.1⟩]; rfl
def kn (x:Road) (a b:Int):Prop:=(x.a=a∧x.b=b)∨(x.b=a∧x.a=b)
theorem vB {m:Int} {rs:List Road} (g:Good m rs) {a b:Int} {i j:Nat} {x y:Road} (hi:rs[i]?=some x) (hj:rs[j]?=some y) (jx:kn x a b) (jy:kn y a b):i=j:=by
 obtain ⟨⟨a0,a1⟩,_,_⟩:=g.adj (show Adj rs a b from ⟨x,List.mem_of_getElem? hi,jx⟩)
 obtain ⟨par,dep,R⟩:=fW g a0 a1
 have kid:∀ z∈rs,kn z a b→(if z.a≠a∧par z.a=z.b then z.a else z.b)=b:=fun z hz jz=>by
   rcases jz with ⟨p,q⟩ | ⟨p,q⟩
   · rw [if_neg (fun w=>w.1 p)]
     exact q
   · rcases R.road z hz with w | w
     · rw [if_pos w]
       exact q
     · exact absurd p w.1
 have li:=(List.getElem?_eq_some_iff.mp hi)
 have lj:=(List.getElem?_eq_some_iff.mp hj)
 obtain ⟨li,ei⟩:=li
 obtain ⟨lj,ej⟩:=lj
 have nd:=List.pairwise_iff_getElem.mp R.one
 have vi:(rs.map fun z=>if z.a≠a∧par z.a=z.b then z.a else z.b)[i]'(by rw [List.length_map]; exact li)=b:=by
   rw [List.getElem_map]
   exact kid _ (List.getElem_mem li) (ei ▸ jx)
 have vj:(rs.map fun z=>if z.a≠a∧par z.a=z.b then z.a else z.b)[j]'(by rw [List.length_map]; exact lj)=b:=by
   rw [List.getElem_map]
   exact kid _ (List.getElem_mem lj) (ej ▸ jy)
 rcases Nat.lt_trichotomy i j with z | z | z
 · exact absurd (vi.trans vj.symm) (nd i j _ _ z)
 · exact z
 · exact absurd (vj.trans vi.symm) (nd j i _ _ z)
theorem tR {a b:Int} {x:Road} (h:¬ kn x a b):cY a b x=none:=by
 unfold cY
 rw [if_neg (fun z=>h (.inl z)),if_neg (fun z=>h (.inr ⟨z.2,z.1⟩))]
theorem ge {m:Int} {rs:List Road} (g:Good m rs) {a b:Int} {i:Nat} {x:Road} (hi:rs[i]?=some x) (j:kn x a b):bD rs a b=cY a b x:=by
 have lt:=(List.getElem?_eq_some_iff.mp hi)
 obtain ⟨lt,ex⟩:=lt
 have e:rs=rs.take i ++ x :: rs.drop (i + 1):=by rw [← ex,List.getElem_cons_drop,List.take_append_drop]
 have pre:bD (rs.take i) a b=none:=by
   unfold bD
   rw [List.findSome?_eq_none_iff]
   intro y hy
   refine tR fun jy=>?_
   obtain ⟨k,hk⟩:=List.getElem?_of_mem hy
   have lk:=(List.getElem?_eq_some_iff.mp hk).1
   rw [List.length_take] at lk
   rw [List.getElem?_take_of_lt (by omega)] at hk
   have:=vB g hk hi jy j
   omega
 have hx:(cY a b x).isSome=true:=by
   unfold cY
   rcases j with z | z
   · rw [if_pos z]; rfl
   · by_cases c:x.a=a∧x.b=b
     · rw [if_pos c]; rfl
     · rw [if_neg c,if_pos ⟨z.2,z.1⟩]; rfl
 obtain ⟨v,hv⟩:=Option.isSome_iff_exists.mp hx
 have:bD (rs.take i ++ x :: rs.drop (i + 1)) a b=cY a b x:=by
   unfold bD at pre ⊢
   rw [List.findSome?_append,pre,List.findSome?_cons,hv]
   rfl
 rw [← e] at this
 exact this
section
variable {m:Int} {row:List Int} {rs rs':List Road}
end
end Pb
set_option Elab.async false
set_option linter.all false
set_option maxRecDepth 100000
namespace L2
open PySem PySem.Spec PyProof.Rows
def aJ (CX:CXT):Prop:=∀ outer H s e s',¬ CX outer H s E0 e s'
theorem ay {CX:CXT} (q:aJ CX) {X:Cx}:iP CX X E0:=fun _ _ _ _ _ _ _ h=>(q _ _ _ _ _ h).elim
structure Df (K:PySem.W.Frag) (mg:Str→Option Value) (x:Str) (st:Stmt) (ps:List Str) (f:Addr) (fd:FuncData):Prop where
 F:Fun K x x st f fd
 m:mg x=some (.ref f)
 b:Binds K fd ps []
section
variable {P:Program} {w:World} {K:PySem.W.Frag} {mg:Str→Option Value} {base:Heap} {CX:CXT}
theorem Fun.okC {x qual:Str} {st:Stmt} {f:Addr} {fd:FuncData} {N ps:List Str} {k:Nat} {sp:Sp} (F:Fun K x qual st f fd) (S:FnScope N ps (aa st)) (len:∀ vs H Q E,sp vs H Q E→vs.length=ps.length)
   (hbody:∀ (cdv:Value) (A:Around) (outer:List Env) (s:Shared) (H:Hp) (vs:List V) (Q:VK) (E:XK),Room k (A.deeper (envOfC qual (aa st) s.heap.objs.size f cdv))→sp vs H Q E →
     ∃ t,PSs (gk CX P w K mg base N qual (aa st) f cdv A outer s H E).nox (aw st) t∧t { nx:=fun _ H'=>Q .non H',rt:=Q } (start N vs) H):FnOk P w K mg base CX (k + 1) f fd ps sp:=by
 obtain ⟨oc,od,kV,doc,pm,an,cdv,ct,osl,rfl,lk,hcd⟩:=F.ex
 refine zN lk hcd S len fun A outer s H vs Q E hr hsp=>?_
 obtain ⟨t,h,q⟩:=hbody cdv A outer s H vs Q E hr hsp
 exact ⟨t,h.nox,q⟩
end
structure NmL (sc:Scope) (x:Str):Prop where
 l:sc.names.lookup x=some .local
 d:(x == ("__debug__":Str))=false
 c:(x == ("__classdict__":Str))=false
structure NmC (sc:Scope) (x:Str):Prop where
 l:sc.names.lookup x=some .cell
 d:(x == ("__debug__":Str))=false
 c:(x == ("__classdict__":Str))=false
structure NmG (sc:Scope) (x:Str):Prop where
 g:sc.names.lookup x=some .globalImplicit
 d:(x == ("__debug__":Str))=false
 n:x≠"__name__"
theorem us1 {us:List Value} (h:us.length=1):∃ a0,us=[a0]:=List.length_eq_one_iff.mp h
theorem us2 {us:List Value} (h:us.length=2):∃ a0 a1,us=[a0,a1]:=by
 cases us with
 | nil=>cases h
 | cons a0 t =>
   obtain ⟨a1,e⟩:=us1 (Nat.succ.inj h)
   subst e
   exact ⟨a0,a1,rfl⟩
theorem us3 {us:List Value} (h:us.length=3):∃ a0 a1 a2,us=[a0,a1,a2]:=by
 cases us with
 | nil=>cases h
 | cons a0 t =>
   obtain ⟨a1,a2,e⟩:=us2 (Nat.succ.inj h)
   subst e
   exact ⟨a0,a1,a2,rfl⟩
def nmL (sc:Scope) (x:Str):Bool:=decide (sc.names.lookup x=some .local) && !(x == ("__debug__":Str)) && !(x == ("__classdict__":Str))
def nmC (sc:Scope) (x:Str):Bool:=decide (sc.names.lookup x=some .cell) && !(x == ("__debug__":Str)) && !(x == ("__classdict__":Str))
def nmG (sc:Scope) (x:Str):Bool:=decide (sc.names.lookup x=some .globalImplicit) && !(x == ("__debug__":Str)) && !decide (x="__name__")
theorem NmL.of {sc:Scope} {x:Str} (h:nmL sc x=true):NmL sc x:=by
 unfold nmL at h
 simp only [Bool.and_eq_true,decide_eq_true_eq,Bool.not_eq_true'] at h
 exact ⟨h.1.1,h.1.2,h.2⟩
theorem NmC.of {sc:Scope} {x:Str} (h:nmC sc x=true):NmC sc x:=by
 unfold nmC at h
 simp only [Bool.and_eq_true,decide_eq_true_eq,Bool.not_eq_true'] at h
 exact ⟨h.1.1,h.1.2,h.2⟩
theorem NmG.of {sc:Scope} {x:Str} (h:nmG sc x=true):NmG sc x:=by
 unfold nmG at h
 simp only [Bool.and_eq_true,decide_eq_true_eq,Bool.not_eq_true',decide_eq_false_iff_not] at h
 exact ⟨h.1.1,h.1.2,h.2⟩
def B9 (N ps:List Str) (sc:Scope):Bool:=decide (sc.kind=.function) && !sc.isCoroutine && !sc.isGenerator && decide N.Nodup && decide (N.take ps.length=ps) && (ps.all fun x=>decide (sc.names.lookup x=some .local∨sc.names.lookup x=some .cell)) && (sc.names.all fun y=>decide (y.2≠.free))
theorem FnScope.of {N ps:List Str} {sc:Scope} (h:B9 N ps sc=true):FnScope N ps sc:=by
 unfold B9 at h
 simp only [Bool.and_eq_true,decide_eq_true_eq,Bool.not_eq_true',List.all_eq_true] at h
 obtain ⟨⟨⟨⟨⟨⟨h1,h2⟩,h3⟩,h4⟩,h5⟩,h6⟩,h7⟩:=h
 exact ⟨h1,h2,h3,h4,h5,h6,h7⟩
theorem pvl {X:Cx} (i:Nat) {x:Str} {pos:Pos} (n:NmL X.env.scope x) (hN:X.N[i]?=some x:=by rfl):PE X (.Name x pos) (ng i):=pU hN (.inl n.l) n.d n.c
theorem pvc {X:Cx} (i:Nat) {x:Str} {pos:Pos} (n:NmC X.env.scope x) (hN:X.N[i]?=some x:=by rfl):PE X (.Name x pos) (ng i):=pU hN (.inr (.inl n.l)) n.d n.c
theorem vE {CX:CXT} {P:Program} {w:World} {K:PySem.W.Frag} {mg:Str→Option Value} {base:Heap} {N:List Str} {qual:Str} {scope:Scope} {f:Addr} {cd:Value} {A:Around} {outer:List Env} {s:Shared} {H:Hp} {E:XK} :
   (gk CX P w K mg base N qual scope f cd A outer s H E).K=K:=rfl
theorem ou (D:Ends) (σ:St) (H:Hp):tNever D σ H=False:=rfl
theorem AB (i j:Int):iQ (.int i) (.int j)=true:=rfl
theorem AH (i j:Bool):iQ (.bl i) (.bl j)=true:=rfl
theorem Ax (i:Int):iQ (.int i) .non=true:=rfl
theorem Ap (i:Int):iQ .non (.int i)=true:=rfl
theorem AG:iQ .non .non=true:=rfl
theorem Az (i j:Str):iQ (.str i) (.str j)=true:=rfl
theorem ixT {K:PySem.W.Frag} {H:Hp} {p:Addr} {xs:List V} {i:Int} {v:V} {Q:VK} (h:H p=some (.tup xs)) (e:atI xs i=some v) (q:Q v H):ud K (.ref p) (.int i) H Q:=⟨p,xs,i,v,rfl,rfl,SqT.of h,e,q⟩
theorem ixL {K:PySem.W.Frag} {H:Hp} {p:Addr} {xs:List V} {i:Int} {v:V} {Q:VK} (h:H p=some (.lst xs)) (e:atI xs i=some v) (q:Q v H):qe K (.ref p) (.int i) H Q:=⟨p,xs,i,v,rfl,rfl,SqL.of h,e,q⟩
theorem ixS {K:PySem.W.Frag} {H:Hp} {p:Addr} {xs:List V} {i:Int} {v:V} {Q:VK} (h:SqL K H p xs) (e:atI xs i=some v) (q:Q v H):qe K (.ref p) (.int i) H Q:=⟨p,xs,i,v,rfl,rfl,h,e,q⟩
theorem tyL {K:PySem.W.Frag} {H:Hp} {l:Addr} {xs:List V} (h:H l=some (.lst xs)):tyV K "list" (.ref l) H:=.inl ⟨rfl,_,SqL.of h⟩
theorem io {H:Hp} {l:Addr} {xs:List V} {y:V} {Q:VK} (h:H l=some (.lst xs)) (hz:xs.length < sizeLine) (q:Q .non (upd H l (.lst (xs ++ [y])))):rAppend (.ref l) [y] H Q:=⟨l,xs,y,rfl,rfl,h,hz,q⟩
theorem Cw {H:Hp} {l:Addr} {xs:List V} {i:Int} {y:V} {Q:VK} (h:H l=some (.lst xs)) (h0:0≤i) (h1:i≤xs.length) (hz:xs.length < sizeLine) (q:Q .non (upd H l (.lst (xs.take i.toNat ++ y :: xs.drop i.toNat)))):rInsert (.ref l) [.int i,y] H Q :=
 ⟨l,xs,i,y,rfl,rfl,h,h0,h1,hz,q⟩
theorem yP {H:Hp} {l:Addr} {xs:List V} {y:V} {Q:VK} (h:H l=some (.lst (xs ++ [y]))) (q:Q y (upd H l (.lst xs))):rPop (.ref l) [] H Q :=
 ⟨l,xs ++ [y],y,rfl,rfl,h,by simp,by rw [List.dropLast_concat]; exact q⟩
theorem bX {n:Nat} (h:n≤100000):n < sizeLine:=Nat.lt_of_le_of_lt h (by decide)
theorem bN {n:Nat} (h:n≤100000):n≤sizeLine:=Nat.le_of_lt (bX h)
theorem kb {α:Type} {xs:List α} {i:Int} {v:α} (h0:0≤i) (h:xs[i.toNat]?=some v):atI xs i=some v:=by
 obtain ⟨n,rfl⟩:∃ n:Nat,i=n:=⟨i.toNat,by omega⟩
 exact mP (by simpa using h)
theorem ld {X:Cx} {x:Str} {i:Int} {pos:Pos} (hg:Gl X x) (hm:∃ t,X.mg x=some (.int i t)) (hd:(x == ("__debug__":Str))=false:=by decide):PE X (.Name x pos) (tC (.int i)):=by
 obtain ⟨t,e⟩:=hm
 exact kt hg e ⟨t,rfl⟩ hd
def Itx (K:PySem.W.Frag):Bool→Addr→It
 | true,a=>Itl K a
 | false,a=>Itt K a
def yA (K:PySem.W.Frag) (c:Bool) (tl:TE):TI:=fun σ H R=>tl σ H fun x H1=>∃ a,x=.ref a∧(∃ xs,SqX K c H1 a xs)∧R (Itx K c a) H1
theorem gO {X:Cx} {tg l:Expr} {tl:TE} (c:Bool) (hl:PE X l tl):PI X tg l (yA X.K c tl):=by
 cases c
 · exact j8 hl
 · exact gE hl
theorem Ab {K:PySem.W.Frag} {c:Bool} {a:Addr} {xs:List V} {g:TG} {tb:TS} {D:Ends} {σ:St} {H:Hp} (Pv:Nat→St→Hp→Prop) (h0:Pv 0 σ H) (hl:∀ i σ H,i≤xs.length→Pv i σ H→SqX K c H a xs)
   (hs:∀ i x σ H,xs[i]?=some x→Pv i σ H→g x σ H fun σ2 H2=>tb { D with nx:=Pv (i + 1),ct:=Pv (i + 1),bk:=D.nx } σ2 H2) (hd:∀ σ H,Pv xs.length σ H→D.nx σ H) :
   ∃ W:Nat→Nat→St→Hp→Prop,(∃ m,W 0 m σ H)∧∀ i m σ H,W i m σ H →
     ((Itx K c a).stop i H∧D.nx σ H)∨((Itx K c a).go i H∧∃ N:St→Hp→Prop,(∀ σ' H',N σ' H'→∃ m',m' < m∧W (i + 1) m' σ' H')∧∀ x H',(Itx K c a).yld i H x H'→g x σ H' fun σ2 H2=>tb { D with nx:=N,ct:=N,bk:=D.nx } σ2 H2):=by
 cases c
 · exact kj Pv h0 hl hs hd
 · exact qd Pv h0 hl hs hd
def jN (J:It) (p:Addr) (Q:VK) (g:TG) (tc:TT) (te:TE) (σ0:St) (H0:Hp):Prop :=
 ∃ W:Nat→Nat→List V→St→Hp→Prop,(∃ m,W 0 m [] σ0 H0)∧∀ i m ys σc Hc,W i m ys σc Hc →
   (J.stop i Hc∧Q (.ref p) Hc)∨(J.go i Hc∧∀ x H',J.yld i Hc x H'→g x σc H' fun σ2 H2=>tc σ2 H2 fun b H3 =>
     if b=true then te σ2 H3 fun y H4=>H4 p=some (.lst ys)∧ys.length < sizeLine∧∃ m',m' < m∧W (i + 1) m' (ys ++ [y]) σ2 (upd H4 p (.lst (ys ++ [y])))
     else ∃ m',m' < m∧W (i + 1) m' ys σ2 H3)
theorem nV {own:Nat} {js:List Nat} {wi:TI} {g:TG} {tc:TT} {te:TE} {σ:St} {H:Hp} {Q:VK}:uw own js wi g tc te σ H Q=wi σ H fun J H1=>∀ p,H1 p=none→jN J p Q g tc te (dJ own js σ) (upd H1 p (.lst [])):=rfl
def fQ (J:It) (D:Ends) (g:TG) (tb:TS) (σ:St) (H:Hp):Prop:=∃ W:Nat→Nat→St→Hp→Prop,(∃ m,W 0 m σ H)∧∀ i m σ H,W i m σ H →
 (J.stop i H∧D.nx σ H)∨(J.go i H∧∃ N:St→Hp→Prop,(∀ σ' H',N σ' H'→∃ m',m' < m∧W (i + 1) m' σ' H')∧∀ x H',J.yld i H x H'→g x σ H' fun σ2 H2=>tb { D with nx:=N,ct:=N,bk:=D.nx } σ2 H2)
theorem sd {wi:TI} {g:TG} {tb:TS} {D:Ends} {σ:St} {H:Hp}:Ba wi g tb D σ H=wi σ H fun J H1=>fQ J D g tb σ H1:=rfl
theorem eJ {K:PySem.W.Frag} {c:Bool} {a p:Addr} {xs:List V} {Q:VK} {g:TG} {tc:TT} {te:TE} {σ0:St} {H0:Hp} (Pv:Nat→List V→St→Hp→Prop) (h0:Pv 0 [] σ0 H0) (hl:∀ i ys σ H,i≤xs.length→Pv i ys σ H→SqX K c H a xs)
   (hs:∀ (i:Nat) (x:V) (ys:List V) (σ:St) (H:Hp) (N:List V→St→Hp→Prop),(∀ ys' σ' H',Pv (i + 1) ys' σ' H'→N ys' σ' H')→xs[i]?=some x→Pv i ys σ H→g x σ H fun σ2 H2=>tc σ2 H2 fun b H3 =>
     if b=true then te σ2 H3 fun y H4=>H4 p=some (.lst ys)∧ys.length < sizeLine∧N (ys ++ [y]) σ2 (upd H4 p (.lst (ys ++ [y]))) else N ys σ2 H3)
   (hd:∀ ys σ H,Pv xs.length ys σ H→Q (.ref p) H):jN (Itx K c a) p Q g tc te σ0 H0:=by
 refine ⟨fun i m ys σ H=>m=xs.length - i∧i≤xs.length∧Pv i ys σ H,⟨xs.length,by simp,Nat.zero_le _,h0⟩,?_⟩
 rintro i m ys σ H ⟨rfl,hi,pv⟩
 have q:=hl i ys σ H hi pv
 by_cases hlt:i < xs.length
 · refine .inr ⟨?_,fun x H' y=>?_⟩
   · cases c
     · exact ⟨xs,xs[i],q,by simp [hlt]⟩
     · exact ⟨xs,xs[i],q,by simp [hlt]⟩
   · have e:H'=H∧xs[i]?=some x:=by
       cases c
       · exact ⟨y.1,y.2 xs q⟩
       · exact ⟨y.1,y.2 xs q⟩
     obtain ⟨rfl,hx⟩:=e
     exact hs i x ys σ _ (fun ys' σ' H'=>∃ m',m' < xs.length - i∧(m'=xs.length - (i + 1)∧i + 1≤xs.length∧Pv (i + 1) ys' σ' H')) (fun ys' σ' H' pv'=>⟨xs.length - (i + 1),by omega,rfl,hlt,pv'⟩) hx pv
 · have e:i=xs.length:=by omega
   subst e
   refine .inl ⟨?_,hd ys σ H pv⟩
   cases c
   · exact ⟨xs,q,Nat.le_refl _⟩
   · exact ⟨xs,q,Nat.le_refl _⟩
theorem gC {lo:Int} {n:Nat} {p:Addr} {Q:VK} {g:TG} {tc:TT} {te:TE} {σ0:St} {H0:Hp} (Pv:Nat→List V→St→Hp→Prop) (h0:Pv 0 [] σ0 H0)
   (hs:∀ (i:Nat) (ys:List V) (σ:St) (H:Hp) (N:List V→St→Hp→Prop),(∀ ys' σ' H',Pv (i + 1) ys' σ' H'→N ys' σ' H')→i < n→Pv i ys σ H→g (.int (lo + i)) σ H fun σ2 H2=>tc σ2 H2 fun b H3 =>
     if b=true then te σ2 H3 fun y H4=>H4 p=some (.lst ys)∧ys.length < sizeLine∧N (ys ++ [y]) σ2 (upd H4 p (.lst (ys ++ [y]))) else N ys σ2 H3)
   (hd:∀ ys σ H,Pv n ys σ H→Q (.ref p) H):jN (Itr lo n) p Q g tc te σ0 H0:=by
 refine ⟨fun i m ys σ H=>m=n - i∧i≤n∧Pv i ys σ H,⟨n,by simp,Nat.zero_le _,h0⟩,?_⟩
 rintro i m ys σ H ⟨rfl,hi,pv⟩
 by_cases hlt:i < n
 · refine .inr ⟨hlt,fun x H' y=>?_⟩
   obtain ⟨rfl,rfl⟩:=y
   exact hs i ys σ _ (fun ys' σ' H'=>∃ m',m' < n - i∧(m'=n - (i + 1)∧i + 1≤n∧Pv (i + 1) ys' σ' H')) (fun ys' σ' H' pv'=>⟨n - (i + 1),by omega,rfl,hlt,pv'⟩) hlt pv
 · have e:i=n:=by omega
   subst e
   exact .inl ⟨Nat.le_refl _,hd ys σ H pv⟩
theorem gL:bootBuiltins "len"=some (.builtin "len"):=by decide +kernel
theorem Be:bootBuiltins "all"=some (.builtin "all"):=by decide +kernel
theorem Bl:bootBuiltins "min"=some (.builtin "min"):=by decide +kernel
theorem vD:bootBuiltins "sorted"=some (.builtin "sorted"):=by decide +kernel
theorem mY:bootBuiltins "list"=some (.type "list"):=by decide +kernel
theorem iT:bootBuiltins "tuple"=some (.type "tuple"):=by decide +kernel
section
variable {X:Cx} {a b o e:Expr} {es:List Expr} {ta tb to:TE} {t:TA} {pos apos cpos:Pos} {f name:Str} {T id:String} {r:V→List V→Hp→VK→Prop}
theorem nu (K:PySem.W.Frag) (h:X.K=K):eB X (.type "tuple") (fun xs H Q=>∃ p ys,xs=[.ref p]∧((SqL K H p ys∧∀ l,H l=none→Q (.ref l) (upd H l (.tup ys)))∨(SqT K H p ys∧Q (.ref p) H))):=by subst h; exact eD
theorem lI (K:PySem.W.Frag) (h:X.K=K):IxR X (qe K):=by subst h; exact cC
theorem kq (K:PySem.W.Frag) (h:X.K=K):IxR X (ud K):=by subst h; exact aQ
end
theorem lV {x:Str} {k:NameKind}:∀ {l:List (Str × NameKind)},l.lookup x=some k→∃ y,(y,k)∈l
 | [],h=>by simp at h
 | (n,j) :: r,h=>by
   rw [List.lookup_cons] at h
   cases q:x == n with
   | true =>
     rw [q] at h
     cases h
     exact ⟨n,List.mem_cons_self⟩
   | false =>
     rw [q] at h
     obtain ⟨y,hy⟩:=lV h
     exact ⟨y,List.mem_cons_of_mem _ hy⟩
theorem jf {X:Cx} {Nc:List Str} {scope:Scope} (own:Nat) (hf:∀ y∈scope.names,y.2≠.free) (hc:∀ y∈scope.names,y.2≠.cell) (hk:scope.kind=.function) (hn:∀ y∈scope.names,y.2=.local→scope.names.lookup y.1=some .local)
   (hl:Nc.length=own):CompTxt X Nc own [] scope [] where
 clos:=closureFor_none hf
 kind:=hk
 nocell:=hc
 names:=hn
 cells:=fun x c h=>by cases h
 has:=fun x h=>by
   have key:∀ k,(relabel scope X.env).names.lookup x=some k→k≠.cell∧k≠.free:=fun k e=>by
     obtain ⟨y,hy⟩:=lV e
     obtain ⟨⟨n,k0⟩,hm,e2⟩:=List.mem_map.mp hy
     have h1:=hf _ hm
     have h2:=hc _ hm
     have e3:(k0 == NameKind.free)=false:=by simpa using h1
     simp only [e3,Bool.false_and,Bool.false_eq_true,if_false] at e2
     cases e2
     exact ⟨h2,h1⟩
   rcases h with h | h
   · exact absurd rfl (key _ h).1
   · exact absurd rfl (key _ h).2
 len:=by simpa using hl
 outer:=fun i x h=>by
   rw [List.getElem?_eq_none (by omega)] at h
   cases h
theorem wM {K:PySem.W.Frag} {c:Bool} {a:Addr} {xs:List V} {g:TG} {tb:TS} {D:Ends} {σ:St} {H:Hp} (Pv:Nat→St→Hp→Prop) (h0:Pv 0 σ H) (hl:∀ i σ H,i≤xs.length→Pv i σ H→SqX K c H a xs)
   (hs:∀ (i:Nat) (x:V) (σ:St) (H:Hp) (N:St→Hp→Prop),(∀ σ' H',Pv (i + 1) σ' H'→N σ' H')→xs[i]?=some x→Pv i σ H→g x σ H fun σ2 H2=>tb { D with nx:=N,ct:=N,bk:=D.nx } σ2 H2) (hd:∀ σ H,Pv xs.length σ H→D.nx σ H) :
   fQ (Itx K c a) D g tb σ H:=Ab Pv h0 hl (fun i x σ H hx p=>hs i x σ H (Pv (i + 1)) (fun _ _ z=>z) hx p) hd
theorem oA {K:PySem.W.Frag} {a:Addr} {xs:List V} {g:TG} {tb:TS} {D:Ends} {σ:St} {H:Hp} (Pv:Nat→St→Hp→Prop) (h0:Pv 0 σ H) (hl:∀ i σ H,i≤xs.length→Pv i σ H→SqL K H a xs)
   (hs:∀ (i:Nat) (x:V) (σ:St) (H:Hp) (N:St→Hp→Prop),(∀ σ' H',Pv (i + 1) σ' H'→N σ' H')→xs[i]?=some x→Pv i σ H→g x σ H fun σ2 H2=>tb { D with nx:=N,ct:=N,bk:=D.nx } σ2 H2) (hd:∀ σ H,Pv xs.length σ H→D.nx σ H) :
   fQ (Itl K a) D g tb σ H:=qd Pv h0 hl (fun i x σ H hx p=>hs i x σ H (Pv (i + 1)) (fun _ _ z=>z) hx p) hd
theorem qJ {K:PySem.W.Frag} {a:Addr} {xs:List V} {g:TG} {tb:TS} {D:Ends} {σ:St} {H:Hp} (Pv:Nat→St→Hp→Prop) (h0:Pv 0 σ H) (hl:∀ i σ H,i≤xs.length→Pv i σ H→SqT K H a xs)
   (hs:∀ (i:Nat) (x:V) (σ:St) (H:Hp) (N:St→Hp→Prop),(∀ σ' H',Pv (i + 1) σ' H'→N σ' H')→xs[i]?=some x→Pv i σ H→g x σ H fun σ2 H2=>tb { D with nx:=N,ct:=N,bk:=D.nx } σ2 H2) (hd:∀ σ H,Pv xs.length σ H→D.nx σ H) :
   fQ (Itt K a) D g tb σ H:=kj Pv h0 hl (fun i x σ H hx p=>hs i x σ H (Pv (i + 1)) (fun _ _ z=>z) hx p) hd
theorem iY {lo:Int} {n:Nat} {g:TG} {tb:TS} {D:Ends} {σ:St} {H:Hp} (Pv:Nat→St→Hp→Prop) (h0:Pv 0 σ H)
   (hs:∀ (i:Nat) (σ:St) (H:Hp) (N:St→Hp→Prop),(∀ σ' H',Pv (i + 1) σ' H'→N σ' H')→i < n→Pv i σ H→g (.int (lo + i)) σ H fun σ2 H2=>tb { D with nx:=N,ct:=N,bk:=D.nx } σ2 H2) (hd:∀ σ H,Pv n σ H→D.nx σ H) :
   fQ (Itr lo n) D g tb σ H:=vL Pv h0 (fun i σ H hi p=>hs i σ H (Pv (i + 1)) (fun _ _ z=>z) hi p) hd
theorem rT {c:TT} {tb:TS} {D:Ends} {σ:St} {H:Hp} (W:Nat→St→Hp→Prop) (n0:Nat) (h0:W n0 σ H)
   (hs:∀ (n:Nat) (σ:St) (H:Hp) (N:St→Hp→Prop),(∀ n' σ' H',n' < n→W n' σ' H'→N σ' H')→(∀ σ' H',N σ' H'→∃ m',m' < n∧W m' σ' H')→W n σ H →
     c σ H fun b H1=>if b=true then ∃ N:St→Hp→Prop,(∀ σ' H',N σ' H'→∃ m',m' < n∧W m' σ' H')∧tb { D with nx:=N,ct:=N,bk:=D.nx } σ H1 else D.nx σ H1):qM c tb D σ H :=
 ⟨W,⟨n0,h0⟩,fun n σ H w=>hs n σ H (fun σ' H'=>∃ m',m' < n∧W m' σ' H') (fun n' _ _ hn w'=>⟨n',hn,w'⟩) (fun _ _ z=>z) w⟩
theorem p60:(0:Int) < 10 ^ (60:Int).toNat:=Int.pow_pos (by decide)
theorem r6 {a:Int} {n:Nat} (h:a.natAbs < 2 ^ n):Builtin.Int.intBits a≤n:=by
 unfold Builtin.Int.intBits
 by_cases z:a=0
 · subst z; simp
 · have hz:(a == 0)=false:=by simpa using z
   rw [hz]
   simp only [Bool.false_eq_true,if_false]
   have:=(Nat.log2_lt (by omega)).mpr h
   omega
theorem fT {a b:Int} (ha:a.natAbs < 2 ^ 4000) (hb:b.natAbs < 2 ^ 4000):IntMulOk a b :=
 IntMulOk.of_bits (Nat.le_trans (r6 ha) (by decide)) (Nat.le_trans (r6 hb) (by decide))
theorem lA {a b:Int} {n:Nat} (ha:a.natAbs < 2 ^ n) (hb:b.natAbs < 2 ^ n):(a + b).natAbs < 2 ^ (n + 1):=by
 have:=Int.natAbs_add_le a b
 rw [Nat.pow_succ]
 omega
theorem cT {a b:Int} {m n:Nat} (ha:a.natAbs < 2 ^ m) (hb:b.natAbs < 2 ^ n):(a * b).natAbs < 2 ^ (m + n):=by
 rw [Int.natAbs_mul,Nat.pow_add]
 exact Nat.mul_lt_mul'' ha hb
theorem bR {a:Int} {m n:Nat} (h:a.natAbs < 2 ^ m) (hm:m≤n):a.natAbs < 2 ^ n:=Nat.lt_of_lt_of_le h (Nat.pow_le_pow_right (by decide) hm)
open Pb
def d5 (r:Road):List V:=[.int r.a,.int r.b,.int r.t,.int r.u]
abbrev RoadsAt (H:Hp):List Addr→List Road→Prop:=Paired fun p r=>H p=some (.tup (d5 r))
theorem RoadsAt.same {H H':Hp} (e:Same H H') {ps:List Addr} {rs:List Road} (h:RoadsAt H ps rs):RoadsAt H' ps rs:=Paired.imp' (fun p r q=>e p _ q) h
theorem RoadsAt.get {H:Hp}:∀ {ps:List Addr} {rs:List Road} {i:Nat} {x:V},RoadsAt H ps rs→(ps.map V.ref)[i]?=some x→∃ p r,x=.ref p∧ps[i]?=some p∧rs[i]?=some r∧H p=some (.tup (d5 r))
 | _,_,i,x,.nil,e=>by simp at e
 | _,_,0,x,.cons (a:=p) (b:=r) h hs,e=>⟨p,r,by simpa using e.symm,by simp,by simp,h⟩
 | a :: l1,_,i + 1,x,.cons h hs,e=>by
   have e':(List.map V.ref l1)[i]?=some x:=by simpa using e
   obtain ⟨p,r,h1,h2,h3,h4⟩:=RoadsAt.get hs e'
   exact ⟨p,r,h1,by simpa using h2,by simpa using h3,h4⟩
theorem Same.tup {K:PySem.W.Frag} {H H':Hp} {a:Addr} {xs:List V} (e:Same H H') (h:SqT K H a xs):SqT K H' a xs:=by
 rcases h with (h | ⟨o,h⟩) | h
 · exact .inl (.inl (e _ _ h))
 · exact .inl (.inr ⟨o,e _ _ h⟩)
 · exact .inr h
theorem Same.sqX {K:PySem.W.Frag} {H H':Hp} {c:Bool} {a:Addr} {xs:List V} (e:Same H H') (h:SqX K c H a xs):SqX K c H' a xs:=by
 cases c
 · exact Same.tup e h
 · exact Same.seq e h
theorem Same.new {H:Hp} {p:Addr} (o:HO) (h:H p=none):Same H (upd H p o):=fun b u e=>by rw [aq (bo e h)]; exact e
end L2
set_option Elab.async false
set_option linter.all false
set_option maxRecDepth 100000
namespace L2
open PySem PySem.Spec PyProof.Rows
abbrev bmV:List Value:=[.type "ValueError",.type "Exception",.type "BaseException",.type "object"]
section
variable {prog:Program} {w:World} {A:Around} {E:Value→Shared→Prop} {s:Shared} {K:PySem.W.Frag} {x C:Addr} {ox:Obj} {od:Option Obj}
end
end L2
set_option Elab.async false
set_option linter.all false
set_option maxRecDepth 100000
namespace L2
open PySem PySem.Spec PyProof.Rows
def eX (h:Heap) (ea:Addr) (cls:Value) (od:Option Addr) (head:Value):Prop:=∃ oe vs,h.get? ea=some oe∧oe.cls=cls∧oe.dict=od∧oe.data=.fields vs∧vs[1]?=some head
def TbO (h:Heap) (T:Addr) (fl:Value):Prop:=∃ oT ts,h.get? T=some oT∧oT.data=.fields ts∧ts[3]?=some fl
structure Err (h:Heap) (ea T:Addr) (cls:Value) (od:Option Addr) (fl:Value):Prop where
 e:eX h ea cls od (.ref T)
 t:TbO h T fl
 ne:T≠ea
structure Kept (fs xs:List Addr) (h h':Heap):Prop where
 keep:∀ b o,h.get? b=some o→b ∉ fs→b ∉ xs→h'.get? b=some o
 slot:∀ b o,h.get? b=some o→b∈fs→b ∉ xs→∃ sl,h'.get? b=some { o with slots:=sl }
 there:∀ b o,h.get? b=some o→∃ o',h'.get? b=some o'
theorem Kept.mono {fs xs ys:List Addr} {h h':Heap} (k:Kept fs xs h h') (s:∀ b∈xs,b∈ys):Kept fs ys h h':=⟨fun b o e f x=>k.keep b o e f fun z=>x (s b z),fun b o e f x=>k.slot b o e f fun z=>x (s b z),k.there⟩
theorem Kept.trans {fs xs:List Addr} {h h1 h2:Heap} (a:Kept fs xs h h1) (b:Kept fs xs h1 h2):Kept fs xs h h2 where
 keep:=fun c o e f x=>b.keep c o (a.keep c o e f x) f x
 slot:=fun c o e f x=>by
   obtain ⟨s1,e1⟩:=a.slot c o e f x
   obtain ⟨s2,e2⟩:=b.slot c _ e1 f x
   exact ⟨s2,e2⟩
 there:=fun c o e=>by
   obtain ⟨o1,e1⟩:=a.there c o e
   exact b.there c o1 e1
theorem Kept.of_all {fs xs:List Addr} {h h':Heap} (k:∀ b o,h.get? b=some o→h'.get? b=some o):Kept fs xs h h':=⟨fun b o e _ _=>k b o e,fun b o e _ _=>⟨o.slots,k b o e⟩,fun b o e=>⟨o,k b o e⟩⟩
theorem kW {fs xs:List Addr} {h:Heap} {a:Addr} {oa:Obj} {vs:Array Value} {i:Nat} {v:Value} (ha:h.get? a=some oa) (hd:oa.data=.fields vs) (hx:a∈xs):Kept fs xs h (h.update a (Obj.mapFields (·.setIfInBounds i v))):=by
 have oth:∀ b o,h.get? b=some o→b ∉ xs→(h.update a (Obj.mapFields (·.setIfInBounds i v))).get? b=some o:=fun b o e x=>by
   rw [Heap.get?_update_other _ _ (fun (z:a=b)=>x (z ▸ hx))]
   exact e
 refine ⟨fun b o e _ x=>oth b o e x,fun b o e _ x=>⟨o.slots,oth b o e x⟩,fun b o e=>?_⟩
 by_cases z:b=a
 · subst z
   exact ⟨_,Heap.get?_update_self _ ha (Obj.isFreed_of_fields (Obj.data_mapFields hd _))⟩
 · rw [Heap.get?_update_other _ _ (Ne.symm z)]
   exact ⟨o,e⟩
theorem yJ {h:Heap} {ea:Addr} {cls hd v:Value} {od:Option Addr} (e:eX h ea cls od hd):eX (h.update ea (Obj.mapFields (·.setIfInBounds 1 v))) ea cls od v:=by
 obtain ⟨oe,vs,h1,h2,h3,h4,h5⟩:=e
 have sz:1 < vs.size:=(Array.getElem?_eq_some_iff.mp h5).1
 refine ⟨_,_,Heap.get?_update_self _ h1 (Obj.isFreed_of_fields (Obj.data_mapFields h4 _)),?_,?_,Obj.data_mapFields h4 _,by simp [sz]⟩
 · rw [← h2]; exact Obj.cls_mapFields _ _
 · rw [← h3]; obtain ⟨c,d,dt,sl⟩:=oe; cases dt <;> rfl
theorem md {h:Heap} {ea a:Addr} {cls hd:Value} {od:Option Addr} {f:Obj→Obj} (e:eX h ea cls od hd) (ne:a≠ea):eX (h.update a f) ea cls od hd:=by
 obtain ⟨oe,vs,h1,h2⟩:=e
 exact ⟨oe,vs,by rw [Heap.get?_update_other _ _ ne]; exact h1,h2⟩
theorem oI {h h':Heap} {ea:Addr} {cls hd:Value} {od:Option Addr} (e:eX h ea cls od hd) (k:∀ o,h.get? ea=some o→h'.get? ea=some o):eX h' ea cls od hd:=by
 obtain ⟨oe,vs,h1,h2⟩:=e
 exact ⟨oe,vs,k _ h1,h2⟩
theorem uP {h base:Heap} {ea:Addr} {cls hd:Value} {od:Option Addr} {l:List Env} (e:eX h ea cls od hd) (f:h.FunFrames base l):ea ∉ frs l:=fun z=>by
 obtain ⟨oe,vs,h1,_,_,h4,_⟩:=e
 obtain ⟨_,o,ho,hn⟩:=f.mem z
 rw [h1] at ho
 cases ho
 exact hn vs h4
theorem ya {h base:Heap} {T:Addr} {fl:Value} {l:List Env} (e:TbO h T fl) (f:h.FunFrames base l):T ∉ frs l:=fun z=>by
 obtain ⟨oe,vs,h1,h4,_⟩:=e
 obtain ⟨_,o,ho,hn⟩:=f.mem z
 rw [h1] at ho
 cases ho
 exact hn vs h4
section
variable {M:Model} {A:Around} {E:Value→Shared→Prop} {s:Shared} {Q:Unit→Shared→Prop} {fs:List Addr} {ea T L:Addr} {cls fl hd:Value} {od:Option Addr} {base:Heap} {env:Env} {outer:List Env}
theorem rQ (r:Err s.heap ea T cls od fl) (h:∀ h',Err h' ea T cls od .none→Kept fs [T] s.heap h'→Q () { s with heap:=h' }):wpAny M A (setFlight (.ref ea) none) Q E s:=by
 obtain ⟨⟨oe,vs,h1,h2,h3,h4,h5⟩,⟨oT,ts,t1,t2,t3⟩,ne⟩:=r
 have sz:3 < ts.size:=(Array.getElem?_eq_some_iff.mp t3).1
 unfold setFlight
 refine wpAny_bind (wpAny_field h1 h4 h5 ?_)
 rw [if_pos (by simp:(Value.ref T != Value.none)=true)]
 refine wpAny_setField t1 t2 sz (h _ ⟨md ⟨oe,vs,h1,h2,h3,h4,h5⟩ ne,⟨_,_,Heap.get?_update_self _ t1 (Obj.isFreed_of_fields (Obj.data_mapFields t2 _)),Obj.data_mapFields t2 _,by simp [sz]⟩,ne⟩ (kW t1 t2 (by simp)))
theorem qK {head:Value} {hadNext:Bool} (hfr:A.frames=some (env :: outer)) (hl:s.heap.FunFrames base (env :: outer)) (hf:env.frame=some L) (r:eX s.heap ea cls od hd)
   (h:∀ h' T',Err h' ea T' cls od (rawInt L)→Kept (frs (env :: outer)) [ea] s.heap h'→s.heap.get? T'=none→Q () { s with heap:=h' }) :
   wpAny M A (do let a ← frameOf env; let pl ← entryPlaceOf L hadNext; let b ← EntryCells.newEntry head a .none (rawInt L) .none pl; setField (.ref ea) 1 b) Q E s:=by
 have nf:=uP r hl
 refine wpAny_bind (wpAny_frameOf_fun hfr hl hf fun g1 so=>wpAny_bind (wpAny_entryPlaceOf fun pl hpl=>?_))
 unfold EntryCells.newEntry newFields
 refine wpAny_bind (wpAny_newObj_type ?_ (hpl.sizeOk5 _ _ _ _ _))
 have r1:eX g1 ea cls od hd:=oI r fun o e=>(so.2.1 ea nf).trans e
 generalize ht:({ cls:=.type "traceback",dict:=none,data:=.fields ([head,.ref L,.none,rawInt L,.none] ++ (if pl.isEmpty then List.replicate 6 Value.none else pl)).toArray }:Obj)=tb
 have r2:eX (g1.push tb) ea cls od hd:=oI r1 fun o e=>Heap.get?_push_of_some _ e
 obtain ⟨oe,vs,e1,e2,e3,e4,e5⟩:=id r2
 have lt:ea < g1.objs.size:=by
   obtain ⟨_,_,e,_⟩:=r1
   exact Heap.lt_size e
 have hT:(g1.push tb).get? g1.objs.size=some tb:=Heap.get?_push_size g1 (by rw [← ht]; rfl)
 refine wpAny_setField e1 e4 (Array.getElem?_eq_some_iff.mp e5).1 (h _ g1.objs.size ⟨yJ r2,⟨tb,([head,.ref L,.none,rawInt L,.none] ++ (if pl.isEmpty then List.replicate 6 Value.none else pl)).toArray,?_,by rw [← ht],by simp⟩,Nat.ne_of_gt lt⟩ ?_ ?_)
 · rw [Heap.get?_update_other _ _ (Nat.ne_of_lt lt)]
   exact hT
 · have k1:Kept (frs (env :: outer)) [ea] s.heap g1:=⟨fun b o e f _=>(so.2.1 b f).trans e,fun b o e _ _=>so.2.2 b o e,fun b o e=>by
     obtain ⟨sl,z⟩:=so.2.2 b o e
     exact ⟨_,z⟩⟩
   exact k1.trans ((Kept.of_all fun b o e=>Heap.get?_push_of_some _ e).trans (kW e1 e4 (by simp)))
 · exact Heap.get?_none_of_le (by rw [so.1]; exact Nat.le_refl _)
theorem wd (hfr:A.frames=some (env :: outer)) (hl:s.heap.FunFrames base (env :: outer)) (hf:env.frame=some L) (r:eX s.heap ea cls od .none)
   (h:∀ h' T',Err h' ea T' cls od (rawInt L)→Kept (frs (env :: outer)) [ea] s.heap h'→s.heap.get? T'=none→Q () { s with heap:=h' }):wpAny M A (noteFrame (.ref ea) env) Q E s:=by
 obtain ⟨oe,vs,e1,e2,e3,e4,e5⟩:=id r
 unfold noteFrame
 simp only [hf]
 refine wpAny_bind (wpAny_field e1 e4 e5 ?_)
 rw [if_neg (by decide)]
 exact qK hfr hl hf r h
theorem As (hfr:A.frames=some (env :: outer)) (hl:s.heap.FunFrames base (env :: outer)) (hf:env.frame=some L) (r:Err s.heap ea T cls od .none)
   (h:∀ h' T',Err h' ea T' cls od (rawInt L)→Kept (frs (env :: outer)) [ea,T] s.heap h'→s.heap.get? T'=none→Q () { s with heap:=h' }):wpAny M A (noteFrame (.ref ea) env) Q E s:=by
 have nT:=ya r.t hl
 obtain ⟨⟨oe,vs,e1,e2,e3,e4,e5⟩,⟨oT,ts,t1,t2,t3⟩,ne⟩:=id r
 unfold noteFrame
 simp only [hf]
 refine wpAny_bind (wpAny_field e1 e4 e5 ?_)
 rw [if_pos (by simp:(Value.ref T != Value.none)=true)]
 refine wpAny_bind (wpAny_field t1 t2 t3 ?_)
 rw [if_neg (by simp [rawInt])]
 have k1:Kept (frs (env :: outer)) [ea,T] s.heap (s.heap.update T (Obj.mapFields (·.setIfInBounds 3 Value.none))):=kW t1 t2 (by simp)
 refine wpAny_bind (wpAny_setField t1 t2 (Array.getElem?_eq_some_iff.mp t3).1 ?_)
 refine qK hfr (hl.of_keeps fun b o e nf=>⟨o,?_,rfl⟩) hf (md r.e ne) fun h' T' r' k2 n=>h h' T' r' (k1.trans (k2.mono (by simp))) ?_
 · by_cases z:b=T
   · subst z
     rw [t1] at e
     cases e
     exact absurd t2 (nf ts)
   · rw [Heap.get?_update_other _ _ (Ne.symm z)]
     exact e
 · cases q:s.heap.get? T' with
   | none=>rfl
   | some o =>
     obtain ⟨o',z⟩:=k1.there T' o q
     rw [z] at n
     cases n
theorem vx (hfr:A.frames=some (env :: outer)) (hl:s.heap.FunFrames base (env :: outer)) (hf:env.frame=some L) (r:eX s.heap ea cls od .none)
   (h:∀ h' T',Err h' ea T' cls od .none→Kept (frs (env :: outer)) [ea] s.heap h'→s.heap.get? T'=none→Q () { s with heap:=h' }):wpAny M A (leaving env (.ref ea)) Q E s:=by
 unfold leaving
 refine wpAny_bind (wd hfr hl hf r fun h1 T1 r1 k1 n1=>rQ (fs:=frs (env :: outer)) (s:={ s with heap:=h1 }) r1 fun h2 r2 k2=>h h2 T1 r2 ⟨fun b o e f x=>k2.keep b o (k1.keep b o e f x) f ?_,fun b o e f x=>?_,fun b o e=>?_⟩ n1)
 · simp only [List.mem_singleton]
   rintro rfl
   rw [n1] at e
   cases e
 · obtain ⟨s1,e1⟩:=k1.slot b o e f x
   obtain ⟨s2,e2⟩:=k2.slot b _ e1 f (by
     simp only [List.mem_singleton]
     rintro rfl
     rw [n1] at e
     cases e)
   exact ⟨s2,e2⟩
 · obtain ⟨o1,e1⟩:=k1.there b o e
   exact k2.there b o1 e1
theorem wX (hfr:A.frames=some (env :: outer)) (hl:s.heap.FunFrames base (env :: outer)) (hf:env.frame=some L) (r:Err s.heap ea T cls od .none)
   (h:∀ h' T',Err h' ea T' cls od .none→Kept (frs (env :: outer)) [ea,T] s.heap h'→s.heap.get? T'=none→Q () { s with heap:=h' }):wpAny M A (leaving env (.ref ea)) Q E s:=by
 unfold leaving
 refine wpAny_bind (As hfr hl hf r fun h1 T1 r1 k1 n1=>rQ (fs:=frs (env :: outer)) (s:={ s with heap:=h1 }) r1 fun h2 r2 k2=>h h2 T1 r2 ⟨fun b o e f x=>k2.keep b o (k1.keep b o e f x) f ?_,fun b o e f x=>?_,fun b o e=>?_⟩ n1)
 · simp only [List.mem_singleton]
   rintro rfl
   rw [n1] at e
   cases e
 · obtain ⟨s1,e1⟩:=k1.slot b o e f x
   obtain ⟨s2,e2⟩:=k2.slot b _ e1 f (by
     simp only [List.mem_singleton]
     rintro rfl
     rw [n1] at e
     cases e)
   exact ⟨s2,e2⟩
 · obtain ⟨o1,e1⟩:=k1.there b o e
   exact k2.there b o1 e1
end
def CXe (P:Program) (w:World):CXT:=fun outer H s E e s'=>∃ (ea T:Addr) (cls:Value) (od:Option Addr) (H':Hp),e=.ref ea∧s'.os=s.os∧AllBare s'.gens∧Un (frs outer) [] H H' s.heap s'.heap∧HOk P w H' s'.heap ∧
 H' ea=none∧H' T=none∧s.heap.get? ea=none∧s.heap.get? T=none∧Err s'.heap ea T cls od .none∧E cls od H'
theorem aE {P:Program} {w:World}:aJ (CXe P w):=fun outer H s e s' h=>by
 obtain ⟨_,_,_,_,_,_,_,_,_,_,_,_,_,_,_,z⟩:=h
 exact z
theorem pN {P:Program} {w:World} {H:Hp} {h h':Heap} {fs xs:List Addr} (x:HOk P w H h) (k:Kept fs xs h h') (f:∀ b∈fs,H b=none) (u:∀ b∈xs,H b=none):HOk P w H h':=fun a o e=>by
 refine (x a o e).stay (fun b ob hb q=>k.keep b ob q ?_ ?_) (fun _ q=>q) fun _ _ q=>q
 · intro z
   rcases hb with rfl | hb
   · rw [f _ z] at e; cases e
   · rw [f _ z] at hb; cases hb
 · intro z
   rcases hb with rfl | hb
   · rw [u _ z] at e; cases e
   · rw [u _ z] at hb; cases hb
theorem tG {P:Program} {w:World} {H:Hp} {h:Heap} {b:Addr} (x:HOk P w H h) (n:h.get? b=none):H b=none:=by
 cases q:H b with
 | none=>rfl
 | some o =>
   have lt:=x.lt q
   cases z:h.get? b with
   | some o'=>rw [z] at n; cases n
   | none =>
     exfalso
     have:=(x b o q)
     cases o with
     | lst xs=>obtain ⟨_,_,_,_,e⟩:=this; rw [n] at e; cases e
     | tup xs=>obtain ⟨_,_,_,ob,e,_⟩:=this; rw [n] at e; cases e
     | dK kvs=>obtain ⟨_,_,_,_,ob,_,_,e,_⟩:=this; rw [n] at e; cases e
     | dT kvs=>obtain ⟨_,_,_,_,ob,_,_,e,_⟩:=this; rw [n] at e; cases e
     | set S m=>obtain ⟨ob,_,_,_,e,_⟩:=this; rw [n] at e; cases e
     | ins C dx fs=>obtain ⟨_,_,_,e,_⟩:=this; rw [n] at e; cases e
     | own y=>obtain ⟨_,e⟩:=this; rw [n] at e; cases e
     | xd fs=>obtain ⟨_,⟨_,_,_,e,_⟩,_⟩:=this; rw [n] at e; cases e
     | rng lo hi=>obtain ⟨_,_,_,e⟩:=this; rw [n] at e; cases e
     | frz ob u=>obtain ⟨e,_⟩:=this; rw [n] at e; cases e
     | tbl ps=>have e:h.get? b=some _:=this; rw [n] at e; cases e
     | met f y=>have e:h.get? b=some _:=this; rw [n] at e; cases e
     | ext φ=>obtain ⟨_,⟨_,e⟩,_⟩:=this; rw [n] at e; cases e
section
variable {P:Program} {w:World} {K:PySem.W.Frag} {mg:Str→Option Value} {base:Heap} {N:List Str} {qual:Str} {scope:Scope} {f:Addr} {cd:Value} {A:Around} {outer:List Env} {s:Shared} {H:Hp} {E:XK}
theorem qX {CX:CXT} {pins:List (Addr × Obj)} {σ:St} {H':Hp} {s':Shared} {h':Heap} {xs:List Addr} (J:Inv (gk CX P w K mg base N qual scope f cd A outer s H E) pins σ H' s') (k:Kept (frs (envOfC qual scope s.heap.objs.size f cd :: outer)) xs s'.heap h') (nx:∀ b∈xs,s.heap.get? b=none) :
   Un (frs outer) [] H H' s.heap h':=by
 have b0:Un (frs outer) [] H H' s.heap s'.heap:=J.base
 have nl:∀ b o,s.heap.get? b=some o→b ∉ xs:=fun b o e z=>by rw [nx b z] at e; cases e
 have nf:∀ b o,s.heap.get? b=some o→b ∉ frs outer→b ∉ frs (envOfC qual scope s.heap.objs.size f cd :: outer):=fun b o e z m=>by
   unfold frs at m z
   rw [List.filterMap_cons] at m
   have:(envOfC qual scope s.heap.objs.size f cd).frame=some s.heap.objs.size:=rfl
   rw [this] at m
   rcases List.mem_cons.mp m with m | m
   · exact absurd (Heap.lt_size e) (by rw [m]; exact Nat.lt_irrefl _)
   · exact z m
 refine ⟨fun b o e n hf hx=>k.keep b o (b0.keep b o e n hf hx) (nf b o e hf) (nl b o e),fun b o e n hf hx=>?_,b0.free,fun b o e hx=>?_,b0.tups,b0.frzs,b0.tbls⟩
 · obtain ⟨sl,e1⟩:=b0.slot b o e n hf hx
   by_cases m:b∈frs (envOfC qual scope s.heap.objs.size f cd :: outer)
   · obtain ⟨s2,e2⟩:=k.slot b _ e1 m (nl b o e)
     exact ⟨s2,e2⟩
   · exact ⟨sl,k.keep b _ e1 m (nl b o e)⟩
 · obtain ⟨o1,e1⟩:=b0.there b o e hx
   exact k.there b o1 e1
theorem fu {CX:CXT} {pins:List (Addr × Obj)} {σ:St} {H':Hp} {s':Shared} (J:Inv (gk CX P w K mg base N qual scope f cd A outer s H E) pins σ H' s') {b:Addr} (n:s'.heap.get? b=none):s.heap.get? b=none:=by
 cases q:s.heap.get? b with
 | none=>rfl
 | some o =>
   have b0:Un (frs outer) [] H H' s.heap s'.heap:=J.base
   obtain ⟨o',e⟩:=b0.there b o q (by simp)
   rw [n] at e
   cases e
theorem cv:iP (CXe P w) (gk (CXe P w) P w K mg base N qual scope f cd A outer s H E) E:=by
 intro pins σ H1 s1 e s' I h
 obtain ⟨ea,T,cls,od,H',rfl,os,bare,un,hok,n1,n2,f1,f2,er,q⟩:=h
 have J:=I.call' (ch:=[]) os un hok bare (by simp)
 refine wX (base:=base) J.ok.frames J.stack rfl er fun h' T' er' k nT=>?_
 have fr:∀ b∈frs (envOfC qual scope s.heap.objs.size f cd :: outer),H' b=none:=J.stkFree
 refine ⟨ea,T',cls,od,H',rfl,J.os,J.bare,qX J k ?_,pN hok k fr ?_,n1,tG hok nT,fu I f1,fu J nT,er',q⟩
 · intro b hb
   simp only [List.mem_cons,List.not_mem_nil,or_false] at hb
   rcases hb with rfl | rfl
   · exact fu I f1
   · exact fu I f2
 · intro b hb
   simp only [List.mem_cons,List.not_mem_nil,or_false] at hb
   rcases hb with rfl | rfl
   · exact n1
   · exact n2
end
def uZ (X:Cx) (E:XK):Prop:=∀ (pins:List (Addr × Obj)) (σ:St) (H:Hp) (s:Shared) (ea:Addr) (cls:Value) (od:Option Addr) (h':Heap) (tk:Nat),Inv X pins σ H s→(∀ b o,s.heap.get? b=some o→h'.get? b=some o)→s.heap.get? ea=none→eX h' ea cls od .none→E cls od H →
 X.xe (.ref ea) { s with heap:=h',toks:=tk }
section
variable {P:Program} {w:World} {K:PySem.W.Frag} {mg:Str→Option Value} {base:Heap} {N:List Str} {qual:Str} {scope:Scope} {f:Addr} {cd:Value} {A:Around} {outer:List Env} {s:Shared} {H:Hp} {E:XK}
theorem mQ:uZ (gk (CXe P w) P w K mg base N qual scope f cd A outer s H E) E:=by
 intro pins σ H1 s1 ea cls od h' tk I kp nw er q
 have J:=I.kept (t':=tk) kp
 refine vx (base:=base) J.ok.frames J.stack rfl er fun h2 T' er' k nT=>?_
 have fr:∀ b∈frs (envOfC qual scope s.heap.objs.size f cd :: outer),H1 b=none:=J.stkFree
 refine ⟨ea,T',cls,od,H1,rfl,J.os,J.bare,qX J k ?_,pN J.hok k fr ?_,tG I.hok nw,tG J.hok nT,fu I nw,fu J nT,er',q⟩
 · intro b hb
   rw [List.mem_singleton.mp hb]
   exact fu I nw
 · intro b hb
   rw [List.mem_singleton.mp hb]
   exact tG I.hok nw
end
end L2
set_option Elab.async false
set_option linter.all false
set_option maxRecDepth 100000
namespace L2
open PySem PySem.Spec PyProof.Rows
def qE (K:PySem.W.Frag) (C:Addr):Prop:=∃ (nm qn:Str) (N:Addr) (bs bm:List Value) (hdct:Bool) (sn:List Str) (sub:List Value) (ab:Bool) (col:Option Bool) (dd:Option Addr) (k0 k1 k2 k3 k5:Option Value),
   K.lookup C=some (excClassObj nm qn C N bs bm hdct sn sub ab col dd k0 k1 k2 k3 k5 "ValueError.__new__")∧PySem.W.nsOkIn K N=true∧PySem.W.nsIn K N "__init__"=some none∧PySem.W.tailIn K bmV bm=true
theorem mZ {K:PySem.W.Frag} {C:Addr} {o:Obj} (nm qn:Str) (N:Addr) (bs bm:List Value) (hdct:Bool) (sn:List Str) (sub:List Value) (ab:Bool) (col:Option Bool) (dd:Option Addr) (k0 k1 k2 k3 k5:Option Value) (l:K.lookup C=some o)
   (e:o=excClassObj nm qn C N bs bm hdct sn sub ab col dd k0 k1 k2 k3 k5 "ValueError.__new__") (a:PySem.W.nsOkIn K N=true) (b:PySem.W.nsIn K N "__init__"=some none) (c:PySem.W.tailIn K bmV bm=true):qE K C:=by
 subst e
 exact ⟨_,_,_,_,_,_,_,_,_,_,_,_,_,_,_,_,l,a,b,c⟩
def u6 (C:Addr) (E:XK) (t:TA):TS:=fun _ σ H=>t σ H fun vs H1=>vs.length≤sizeLine∧E (.ref C) none H1
section
variable {X:Cx} {x:Str} {np cpos pos:Pos} {e0:Expr} {es:List Expr} {t:TA} {C:Addr} {E:XK}
theorem lH (q:qE X.K C) (hc:X.calm=true) (hR:uZ X E) (hg:Gl X x) (hm:X.mg x=some (.ref C)) (ha:PA X (e0 :: es) t) (hdb:(x == ("__debug__":Str))=false:=by decide)
   (he:starEach (e0 :: es) X.env=(false,eval e0 X.env) :: starEach es X.env:=by rfl) (hpl:(backTo cpos (starEach es X.env)).any (·.1)=false:=by rfl):PS X (.Raise (some (.Call (.Name x np) (e0 :: es) [] cpos)) none pos) (u6 C E t):=by
 intro pins s σ H D I h
 obtain ⟨nm,qn,N,bs,bm,hdct,sn,sub,ab,col,dd,k0,k1,k2,k3,k5,ho,z5,z6,z4⟩:=q
 have B:=I.mod.kin
 have T0:=PySem.W.tail_of_in B z4
 have N0:X.base.Ns N (X.base.nsMap N):=.of_isNs (PySem.W.isNs_of_in B z5)
 have hp:(backTo cpos (starEach (e0 :: es) X.env)).any (·.1)=false:=by
   rw [he]
   show (false || (backTo cpos (starEach es X.env)).any (·.1))=false
   rw [hpl]
   rfl
 refine wpAny_Raise_call_subT (C:=C) (nm:=nm) (q:=qn) (N:=N) (bs:=bs) (bm:=bm) (hdct:=hdct) (sn:=sn) (sub:=sub) (ab:=ab) (col:=col) (dd:=dd) (k0:=k0) (k1:=k1) (k2:=k2) (k3:=k3) (k5:=k5) PySem.F.excBase_ValueError
   (T0.hasType (by decide +kernel)) (I.ok.hd hc) hp (PySem.W.nsMap_none_of_in B z5 z6) (ki I hg hm ⟨rfl,?_⟩ hdb)
 have g:=ha cpos pins s σ H _ I h
 rw [he] at g ⊢
 refine Calls.evalArgs_plain (thn g fun us s1 ⟨vs,H1,I1,r1,q1⟩=>⟨rfl,by show us.length≤_; rw [← r1.length]; exact q1.1,I1.bk _ _ (B _ _ ho),N0.keeps I1.bk,T0.keeps I1.bk,fun h' ea m=>?_⟩)
 obtain ⟨tt,m1,_,_⟩:=m.there
 exact hR pins σ H1 s1 ea (.ref C) none h' s1.toks I1 m.keeps m.new ⟨_,_,m1,rfl,rfl,rfl,rfl⟩ q1.2
end
section
variable {CX:CXT} {X:Cx} {k:Nat} {f C:Addr} {fd:FuncData} {ps:List Str} {sp:Sp} {dvs:List V} {ds:List Value} {x:Str} {p pos:Pos} {e:Expr} {es:List Expr} {te:TE} {t:TA} {st:Stmt} {sts:List Stmt} {ts:TS} {tx ux:(St→XK)→TS} {ex:XK→TE}
end
end L2
set_option Elab.async false
set_option linter.all false
set_option maxRecDepth 100000
namespace L2
open PySem PySem.Spec PyProof.Rows
section
variable {X:Cx} {pins:List (Addr × Obj)} {σ:St} {H:Hp} {s:Shared}
end
section
variable {K:PySem.W.Frag} {C C':Addr} {x:Addr} {ox:Obj} {od:Option Obj} {M:Model} {A:Around} {E:Value→Shared→Prop} {s:Shared} {b:Bool} {Q:Bool→Shared→Prop}
end
end L2
set_option Elab.async false
set_option linter.all false
set_option maxRecDepth 100000
namespace L2
open PySem PySem.Spec PyProof.Rows
def ExO (ea:Addr) (cls:Value) (od:Option Addr):HO:=.ext fun h=>∃ oe vs,h.get? ea=some oe∧oe.cls=cls∧oe.dict=od∧oe.data=.fields vs
section
variable {X:Cx} {pins:List (Addr × Obj)} {σ:St} {H:Hp} {s:Shared}
end
abbrev TH:=Ends→St→Value→Option Addr→Hp→Prop
def Ends.less (D:Ends) (i:Nat):Ends:={ nx:=fun σ H=>D.nx (σ.set i none) H,rt:=D.rt,bk:=fun σ H=>D.bk (σ.set i none) H,ct:=fun σ H=>D.ct (σ.set i none) H }
def Cs (K:PySem.W.Frag) (C':Addr) (i:Nat) (ts:TS) (tr:TH):TH:=fun D σ cls od H=>∃ C b,cls=.ref C∧PySem.W.mroIn K C (.ref C')=some b ∧
 if b=true then ∀ ea,H ea=none→ts (D.less i) (σ.set i (some (.ref ea))) (upd H ea (ExO ea cls od)) else tr D σ cls od H
section
variable {X:Cx} {x n:Str} {np pos:Pos} {i:Nat} {C':Addr} {b0:Stmt} {suite:List Stmt} {rest:List ExceptHandler} {ts:TS} {tr:TH}
def CB (tb:(St→XK)→TS) (th:TH):TS:=fun D σ H=>tb (fun σ' cls od H'=>th D σ' cls od H') D σ H
end
end L2
set_option Elab.async false
set_option linter.all false
set_option maxRecDepth 100000
namespace L2
open PySem PySem.Spec PyProof.Rows
section
variable {P:Program} {w:World} {K:PySem.W.Frag} {mg:Str→Option Value} {base:Heap}
end
section
variable {X:Cx} {k:Nat} {f:Addr} {fd:FuncData} {ps:List Str} {sp:Sp} {x:Str} {p pos:Pos} {e:Expr} {es:List Expr} {t:TA}
end
section
variable {X:Cx}
end
def ic (cells:List (Str × Addr)):List (Str × NameKind)→List (Str × Addr)→List (Str × Addr)
 | [],acc=>acc
 | (n,k) :: r,acc=>if k == .free then ic cells r ((n,(cells.lookup n).getD 0) :: acc) else ic cells r acc
theorem sF {scope:Scope} {env:Env} (h:∀ y∈scope.names,y.2=.free→(env.cells.lookup y.1).isSome=true):closureFor scope env=pure (ic env.cells scope.names []):=by
 have key:∀ (l:List (Str × NameKind)) (acc:List (Str × Addr)),(∀ y∈l,y.2=.free→(env.cells.lookup y.1).isSome=true) →
     (forIn l acc fun (y:Str × NameKind) (c:List (Str × Addr))=>(if y.2 == NameKind.free then do let a ← cellOf env y.1; pure (ForInStep.yield ((y.1,a) :: c)) else pure (ForInStep.yield c):Sem (ForInStep (List (Str × Addr)))))=(pure (ic env.cells l acc):Sem (List (Str × Addr))):=by
   intro l
   induction l with
   | nil=>intro acc _; rfl
   | cons y l ih =>
     obtain ⟨n,k⟩:=y
     intro acc hh
     have h1:=hh (n,k) List.mem_cons_self
     have h2:∀ y∈l,y.2=.free→(env.cells.lookup y.1).isSome=true:=fun y hy=>hh y (List.mem_cons_of_mem _ hy)
     rw [List.forIn_cons]
     unfold ic
     cases q:k == NameKind.free with
     | false =>
       simp only [Bool.false_eq_true,if_false,pure_bind]
       exact ih acc h2
     | true =>
       obtain ⟨c,hc⟩:=Option.isSome_iff_exists.mp (h1 (by simpa using q))
       dsimp only at hc
       simp only [if_true,cellOf,hc,pure_bind,Option.getD_some]
       exact ih _ h2
 have:=key scope.names [] h
 unfold closureFor
 simp only [bind_pure]
 exact this
theorem lC {cells:List (Str × Addr)} {x:Str} {c:Addr}:∀ {l:List (Str × NameKind)} {acc:List (Str × Addr)},(∀ y∈l,y.2=.free→(cells.lookup y.1).isSome=true)→(∀ x c,acc.lookup x=some c→cells.lookup x=some c)→(ic cells l acc).lookup x=some c→cells.lookup x=some c
 | [],acc,_,h2,h3=>h2 x c h3
 | (n,k) :: r,acc,h1,h2,h3=>by
   have h1':∀ y∈r,y.2=.free→(cells.lookup y.1).isSome=true:=fun y hy=>h1 y (List.mem_cons_of_mem _ hy)
   unfold ic at h3
   cases q:k == NameKind.free with
   | false =>
     rw [q] at h3
     exact lC h1' h2 (by simpa using h3)
   | true =>
     rw [q] at h3
     simp only [if_true] at h3
     obtain ⟨a,ha⟩:=Option.isSome_iff_exists.mp (h1 (n,k) List.mem_cons_self (by simpa using q))
     dsimp only at ha
     rw [ha] at h3
     refine lC h1' (fun y d hy=>?_) h3
     rw [List.lookup_cons] at hy
     cases z:y == n with
     | true =>
       rw [z] at hy
       cases hy
       rw [eq_of_beq z]
       exact ha
     | false =>
       rw [z] at hy
       exact h2 y d hy
theorem lP {cells:List (Str × Addr)} {x:Str}:∀ {l:List (Str × NameKind)} {acc:List (Str × Addr)},((∃ c,acc.lookup x=some c)∨(x,NameKind.free)∈l)→∃ c,(ic cells l acc).lookup x=some c
 | [],acc,h=>by
   rcases h with h | h
   · exact h
   · cases h
 | (n,k) :: r,acc,h=>by
   unfold ic
   cases q:k == NameKind.free with
   | false =>
     simp only [Bool.false_eq_true,if_false]
     refine lP ?_
     rcases h with h | h
     · exact .inl h
     · rcases List.mem_cons.mp h with z | z
       · cases z
         simp at q
       · exact .inr z
   | true =>
     simp only [if_true]
     refine lP ?_
     by_cases z:x=n
     · subst z
       exact .inl ⟨(cells.lookup x).getD 0,by rw [List.lookup_cons]; simp⟩
     · rcases h with ⟨c,h⟩ | h
       · refine .inl ⟨c,?_⟩
         rw [List.lookup_cons]
         have:(x == n)=false:=by simpa using z
         rw [this]
         exact h
       · rcases List.mem_cons.mp h with y | y
         · cases y
           exact absurd rfl z
         · exact .inr y
theorem fN {env:Env} {x:Str} {k:NameKind}:∀ {l:List (Str × NameKind)},l.lookup x=some k →
   (l.map fun (n,k)=>if (k == NameKind.free && env.scope.kind == .function && env.kindOf n == some .cell) then (n,NameKind.cell) else (n,k)).lookup x=some (if (k == NameKind.free && env.scope.kind == .function && env.kindOf x == some .cell) then NameKind.cell else k)
 | [],h=>by simp at h
 | (n,j) :: r,h=>by
   have ih:=@fN env x k r
   rw [List.map_cons]
   rw [List.lookup_cons] at h
   cases z:x == n with
   | true =>
     rw [z] at h
     cases h
     have e:=eq_of_beq z
     subst e
     by_cases q:(k == NameKind.free && env.scope.kind == .function && env.kindOf x == some .cell)=true
     · simp only [q,if_true,List.lookup_cons,z]
     · simp only [q,if_false,List.lookup_cons,z,Bool.false_eq_true]
   | false =>
     rw [z] at h
     dsimp only
     by_cases q:(j == NameKind.free && env.scope.kind == .function && env.kindOf n == some .cell)=true
     · rw [if_pos q,List.lookup_cons,z]
       exact ih h
     · rw [if_neg q,List.lookup_cons,z]
       exact ih h
theorem d8 {X:Cx} {Nc:List Str} {scope:Scope} (own:Nat) (js:List Nat) (hc:∀ y∈scope.names,y.2≠.cell) (hk:scope.kind=.function) (hn:∀ y∈scope.names,y.2=.local→scope.names.lookup y.1=some .local) (hl:Nc.length=own + js.length)
   (hf:∀ y∈scope.names,y.2=.free→X.env.scope.names.lookup y.1=some .cell) (hX:X.env.scope.kind=.function) (hcell:∀ x,X.env.scope.names.lookup x=some .cell→∃ c,X.env.cells.lookup x=some c)
   (hU:∀ i,i < js.length→∃ x j,Nc[own + i]?=some x∧js[i]?=some j∧X.N[j]?=some x∧scope.names.lookup x=some .free):CompTxt X Nc own js scope (ic X.env.cells scope.names []):=by
 have hs:∀ y∈scope.names,y.2=.free→(X.env.cells.lookup y.1).isSome=true:=fun y hy e=>by
   obtain ⟨c,q⟩:=hcell _ (hf y hy e)
   rw [q]
   rfl
 have free_cell:∀ x,scope.names.lookup x=some .free→X.env.scope.names.lookup x=some .cell:=fun x h=>hf (x,.free) (PySem.mem_of_lookup h) rfl
 refine ⟨sF hs,hk,hc,hn,fun x c h=>lC hs (fun x c z=>by simp at z) h,fun x h=>?_,hl,fun i x h=>?_⟩
 · cases q:scope.names.lookup x with
   | none =>
     exfalso
     have:(relabel scope X.env).names.lookup x=none:=by
       unfold relabel
       dsimp only
       revert q
       generalize scope.names=l
       induction l with
       | nil=>intro _; rfl
       | cons y l ih =>
         obtain ⟨n,k⟩:=y
         intro q
         rw [List.lookup_cons] at q
         cases z:x == n with
         | true=>rw [z] at q; cases q
         | false =>
           rw [z] at q
           rw [List.map_cons]
           dsimp only
           by_cases w:(k == NameKind.free && X.env.scope.kind == .function && X.env.kindOf n == some .cell)=true
           · rw [if_pos w,List.lookup_cons,z]
             exact ih q
           · rw [if_neg w,List.lookup_cons,z]
             exact ih q
     rw [this] at h
     rcases h with h | h <;> cases h
   | some k =>
     have r:(relabel scope X.env).names.lookup x=some _:=fN (env:=X.env) q
     cases k with
     | free=>exact lP (.inr (PySem.mem_of_lookup q))
     | cell=>exact absurd rfl (hc _ (PySem.mem_of_lookup q))
     | _ =>
       rw [r] at h
       simp at h
 · have hi:i < js.length:=by
     have:=(List.getElem?_eq_some_iff.mp h).1
     omega
   obtain ⟨y,j,e1,e2,e3,e4⟩:=hU i hi
   rw [h] at e1
   cases e1
   have fc:=free_cell x e4
   refine ⟨j,e2,e3,fc,?_⟩
   have r:(relabel scope X.env).names.lookup x=some _:=fN (env:=X.env) e4
   rw [r]
   have:X.env.kindOf x=some .cell:=fc
   rw [this,hX]
   rfl
end L2
set_option Elab.async false
set_option linter.all false
set_option maxRecDepth 100000
namespace L2
open PySem PySem.Spec PyProof.Rows
theorem sv:∀ {ns:List Int} {us:List Value},Vals (ns.map V.int) us→IntsAre us ns
 | [],_,h=>by cases h; exact .nil
 | n :: ns,_,h=>by
   cases h with
   | cons r t =>
     obtain ⟨k,rfl⟩:=(show ∃ t,_=Value.int n t from r)
     exact .cons n k (sv t)
theorem sj:∀ {ns:List Int} {us:List Value},IntsAre us ns→Vals (ns.map V.int) us
 | _,_,.nil=>.nil
 | _,_,.cons n t r=>.cons ⟨t,rfl⟩ (sj r)
section
variable {X:Cx}
theorem rz:eB X (.builtin "sorted") (fun xs H Q=>∃ (p:Addr) (ns:List Int),xs=[.ref p]∧SqL X.K H p (ns.map V.int)∧ns.length < 64∧∀ (l:Addr) (zs:List Int),H l=none→zs.Perm ns→zs.Pairwise (·≤·)→Q (.ref l) (upd H l (.lst (zs.map V.int)))):=by
 intro pins s σ H xs us Q I r h
 obtain ⟨p,ns,rfl,hp,h64,q⟩:=h
 obtain ⟨u,rfl,ru⟩:=gz r
 cases ru
 obtain ⟨its,rv,pl,hz⟩:=I.list hp
 have hi:=sv rv
 have e1:=IntsAre.length hi
 refine sorted_ints pl.isList hi (by omega) fun out zs a1 a2 a3=>?_
 obtain ⟨e,he⟩:=sortedAll_at s.heap its out
 have hn:H (s.heap.objs.size + 1)=none:=I.hok.fresh (Nat.le_succ _)
 have ln:zs.length=ns.length:=a2.length_eq
 refine ⟨.ref (s.heap.objs.size + 1),_,I.laid (a:=s.heap.objs.size + 1) (o:=.lst (zs.map V.int)) (t':=s.toks) (fun b o e=>sortedAll_old e) (Nat.le_succ _) ⟨?_,out.toList,e,sj a1,?_⟩,rfl,q _ zs hn a2 a3⟩
 · rw [List.length_map,ln]
   exact bN (by omega)
 · exact he
end
section
variable {K:PySem.W.Frag} {T C:Addr} {c0:Value} {dd:Option Addr} {cd:ClassData} {sl:Array (Option Value)}
end
section
variable {P:Program} {w:World} {K:PySem.W.Frag} {mg:Str→Option Value} {base:Heap}
theorem Fun.okX {x qual:Str} {st:Stmt} {f:Addr} {fd:FuncData} {N ps:List Str} {k:Nat} {sp:Sp} (F:Fun K x qual st f fd) (S:FnScope N ps (aa st)) (len:∀ vs H Q E,sp vs H Q E→vs.length=ps.length)
   (hbody:∀ (cdv:Value) (A:Around) (outer:List Env) (s:Shared) (H:Hp) (vs:List V) (Q:VK) (E:XK),Room k (A.deeper (envOfC qual (aa st) s.heap.objs.size f cdv))→sp vs H Q E →
     ∃ t,PSs (gk (CXe P w) P w K mg base N qual (aa st) f cdv A outer s H E) (aw st) t∧t { nx:=fun _ H'=>Q .non H',rt:=Q } (start N vs) H):FnOk P w K mg base (CXe P w) (k + 1) f fd ps sp:=by
 obtain ⟨oc,od,kV,doc,pm,an,cdv,ct,osl,rfl,lk,hcd⟩:=F.ex
 exact zN lk hcd S len fun A outer s H vs Q E hr hsp=>hbody cdv A outer s H vs Q E hr hsp
end
theorem nR {C:Addr} {E:XK} {t:TA} {D:Ends} {σ:St} {H:Hp}:u6 C E t D σ H=t σ H fun vs H1=>vs.length≤sizeLine∧E (.ref C) none H1:=rfl
theorem rY {tb:(St→XK)→TS} {th:TH} {D:Ends} {σ:St} {H:Hp}:CB tb th D σ H=tb (fun σ' cls od H'=>th D σ' cls od H') D σ H:=rfl
theorem pW {K:PySem.W.Frag} {C':Addr} {i:Nat} {ts:TS} {tr:TH} {D:Ends} {σ:St} {cls:Value} {od:Option Addr} {H:Hp}:Cs K C' i ts tr D σ cls od H=∃ C b,cls=.ref C∧PySem.W.mroIn K C (.ref C')=some b ∧
 if b=true then ∀ ea,H ea=none→ts (D.less i) (σ.set i (some (.ref ea))) (upd H ea (ExO ea cls od)) else tr D σ cls od H:=rfl
theorem Same.put {H H':Hp} {l:Addr} (e:Same H H') (n:H l=none) (o:HO):Same H (upd H' l o):=fun b u h=>by rw [aq (bo h n)]; exact e b u h
theorem qu (i:Int):∀ ns:List Int,inV (.int i) (ns.map V.int)=decide (i∈ns)
 | []=>by simp [inV]
 | n :: ns=>by
   have ih:=qu i ns
   unfold inV at ih ⊢
   rw [List.map_cons,List.any_cons,ih]
   have e:eqV (.int n) (.int i)=decide (n=i):=by first | rfl | simp [eqV]
   rw [e]
   by_cases h:i=n
   · subst h; simp
   · simp [h,Ne.symm h]
theorem oz:∀ ns:List Int,(ns.map V.int).all gA=true
 | []=>rfl
 | n :: ns=>by rw [List.map_cons,List.all_cons,oz ns]; rfl
theorem inL {K:PySem.W.Frag} {neg:Bool} {H:Hp} {p:Addr} {i:Int} {ns:List Int} {Q:VK} (h:H p=some (.lst (ns.map V.int))) (q:Q (.bl (if neg then !decide (i∈ns) else decide (i∈ns))) H):rIn K neg (.int i) (.ref p) H Q:=by
 refine ⟨p,_,rfl,.inl (SqL.of h),rfl,oz ns,?_⟩
 rw [qu]
 exact q
end L2
set_option Elab.async false
set_option linter.all false
set_option maxRecDepth 100000
namespace L2
open PySem PySem.Spec PyProof.Rows
theorem zm {M:Model} {A:Around} {E:Value→Shared→Prop} {s:Shared} {env:Env} {x:Str} {px:Pos} {v:Value} {Q:Unit→Shared→Prop} (h:wpAny M A (storeName env x v) Q E s):wpAny M A (assign (.Name x px) env v) Q E s:=by
 show wpAny M A (do standAt px; bindName env x v) Q E s
 exact wpAny_bind (wpAny_standAt (wpAny_bindName h))
section
variable {X:Cx} {Nc:List Str} {own:Nat} {js:List Nat} {scope:Scope} {cl:List (Str × Addr)}
theorem sI {i:Nat} {x:Str} {px pos:Pos} {elt target iter:Expr} {ifs:List Expr} {cpos:Pos} {wi:TI} {g:TG} {tc:TT} {te:TE} (hN:X.N.Nodup) (hxi:X.N[i]?=some x) (hxl:X.env.scope.names.lookup x=some .local) (hc:X.calm=true) (T:CompTxt X Nc own js scope cl)
   (hi:PI X target iter wi) (hg:∀ C s₂ H₁ fp,PG (X.comp Nc scope cl C s₂ H₁ fp) target g) (ht:∀ C s₂ H₁ fp,PTs (X.comp Nc scope cl C s₂ H₁ fp) ifs tc)
   (he:∀ C s₂ H₁ fp,PE (X.comp Nc scope cl C s₂ H₁ fp) elt te) (hs:∀ x,foldedSetIterable iter X.env x=pure x:=by intro _; rfl)
   (hsw:swapsWith (.ListComp elt [⟨target,iter,ifs,0⟩] scope cpos) (some (.Name x px)) pos.line X.env=pure true:=by rfl) :
   PS X (.Assign [.Name x px] (.ListComp elt [⟨target,iter,ifs,0⟩] scope cpos) pos) (pL (uw own js wi g tc te) (iV i)):=by
 intro pins s σ H D I h
 rw [exec_Assign_Name_used _ _ _ _ hsw]
 refine wpAny_bind (wpAny_standAt (wpAny_bind ?_))
 rw [arm_evalThenUse_ListComp]
 refine wpAny_bind ?_
 refine wpAny_comprehension_free (use:=some (assign (.Name x px) X.env)) rfl hs T.clos T.kind T.names (thn (hi pins s σ H _ I h) fun v s1 h1=>thn h1 fun itv s2 h2=>?_)
 obtain ⟨it,fp,tn,J,H1,rfl,I1,Tn,st,f1,R⟩:=h2
 have hfp:∀ b∈fp,b < s2.heap.objs.size:=fun b hb=>let ⟨o,e,_⟩:=Tn.obj _ _ st b hb; Heap.lt_size e
 refine wpAny_newObj_type (wpAny_newFunctionEnv T.nocell (by intro y hy; simp at hy) (fun h₁ hns₁ hsb₁=>?_) T.kind)
 dsimp only at hns₁ hsb₁ ⊢
 generalize hH2:s2.heap.push { cls:=.type "list",dict:=none,data:=.seq ([]:List Value).toArray }=H2 at hns₁ hsb₁ ⊢
 have hC:H2.objs.size=s2.heap.objs.size + 1:=by rw [← hH2,Heap.size_push]
 have hDC:s2.heap.objs.size≠H2.objs.size:=by rw [hC]; exact Nat.ne_of_lt (Nat.lt_succ_self _)
 have hCle:s2.heap.objs.size≤H2.objs.size:=by rw [hC]; exact Nat.le_succ _
 have below:∀ b,b < s2.heap.objs.size→b≠H2.objs.size:=fun b hb=>by rw [hC]; exact Nat.ne_of_lt (Nat.lt_succ_of_lt hb)
 have old:∀ b o,s2.heap.get? b=some o→h₁.get? b=some o:=fun b o e=>hsb₁.extBut b o (below b (Heap.lt_size e)) (Heap.get?_push_of_some _ (hH2 ▸ Heap.get?_push_of_some _ e))
 have hacc:∃ n,h₁.get? s2.heap.objs.size=some { cls:=.type "list",data:=.seq ([]:List Value).toArray n }:=⟨_,hsb₁.extBut _ _ hDC (Heap.get?_push_of_some _ (hH2 ▸ Heap.get?_push_size _ rfl))⟩
 have st₁:tn 0 h₁:=Tn.keep _ _ _ st fun b _ o e=>old b o e
 obtain ⟨W,⟨m0,w0⟩,turn⟩:=R s2.heap.objs.size I1.fresh
 have Ic:=qm (t:=s2.toks + ([]:List (Str × Value)).length) T I1 hCle (Nat.le_refl _) hDC f1 hfp old hns₁ hacc
 generalize hXc:X.comp Nc scope cl H2.objs.size s2 H1 fp=Xc at Ic
 have stat:∀ {H':Hp},(∀ b∈fp,H' b=none)→∀ b∈fp,eE Xc [] H' b:=fun {H'} hn b hb=>by
   subst hXc
   exact ⟨hn b hb,below b (hfp b hb),(mR T I1 hCle f1 hfp).exfs b hb,.inl hb,fun x c e=>(f1 b hb).2.2.2.2.1 x c (T.cells x c e),fun p hp=>by cases hp⟩
 have fr0:∀ b∈fp,upd H1 s2.heap.objs.size (.lst []) b=none:=fun b hb=>by
   rw [aq (Nat.ne_of_lt (hfp b hb))]
   exact (f1 b hb).1
 have calmc:Xc.calm=true:=by subst hXc; exact hc
 have loop:∀ s₃:Shared,s₃={ s2 with heap:=h₁,toks:=s2.toks + ([]:List (Str × Value)).length } →
     codeAny (model X.prog X.w) X.A (.compLoop (.ListComp elt [⟨target,iter,ifs,0⟩] scope cpos) 0 (.ref it) (.ref s2.heap.objs.size) (compEnvC scope cl H2.objs.size X.env))
       (compPost (model X.prog X.w) X.A X.xe (some (assign (.Name x px) X.env)) (fun _ s'=>wpAny (model X.prog X.w) X.A (pure ()) (fun _ s''=>wpAny (model X.prog X.w) X.A (pure Flow.next) (SP X pins D) X.xe s'') X.xe s') (.ref s2.heap.objs.size) H2.objs.size) s₃:=by
   rintro s₃ rfl
   refine kJ (fun n s'=>∃ i ys σ' H',Inv Xc [] σ' H' s'∧tn i s'.heap∧(∀ b∈fp,H' b=none)∧W i n ys σ' H') ?_ m0 ⟨0,[],_,_,Ic,st₁,fr0,w0⟩
   rintro n s3 ⟨i,ys,σ3,H3,I3,st3,fr3,w3⟩
   rcases turn i n ys σ3 H3 w3 with ⟨stop,q⟩ | ⟨go,step⟩
   · subst hXc
     refine thn (Tn.done (X.comp Nc scope cl H2.objs.size s2 H1 fp) rfl rfl rfl hc i [] s3 σ3 H3 _ I3 (stat fr3) st3 stop) fun r s4 ⟨hr,I4⟩=>?_
     subst hr
     obtain ⟨m4,hn4,_⟩:=id I4.loc
     have J:=nY I1 hCle f1 I4 (h':=s4.heap) (Heap.SameBut.refl _ _)
     have cl0:H2.objs.size≠X.env.locals:=Nat.ne_of_gt (Nat.lt_of_lt_of_le I1.lt hCle)
     have cy:X.s₀.heap.objs.size≤H2.objs.size:=Nat.le_trans I1.sz hCle
     have cc:∀ y c,X.env.cells.lookup y=some c→c≠H2.objs.size:=fun y c e=>by
       obtain ⟨v',o',ho',_⟩:=I1.cell y c e
       exact Nat.ne_of_lt (Nat.lt_of_lt_of_le (Heap.lt_size ho') hCle)
     have cp:∀ p∈X.pn ++ pins,p.1≠H2.objs.size:=fun p hp=>by
       obtain ⟨ho',_⟩:=I1.pin p hp
       exact Nat.ne_of_lt (Nat.lt_of_lt_of_le (Heap.lt_size ho') hCle)
     refine zm (nP (v:=.ref s2.heap.objs.size) J hN hxi (.inl hxl) rfl (fun s5 I5 ⟨ad,sb,had⟩=>?_) (.inr hxl))
     have nad:H2.objs.size≠ad:=by
       rcases had with rfl | had
       · exact cl0
       · exact (cc _ _ had).symm
     obtain ⟨oo,es,ep,e1,e2⟩:=hn4
     refine ⟨m4,⟨oo,es,ep,(sb.2 _ nad).trans e1,e2⟩,fun h' hs'=>wpAny_pure (wpAny_pure ⟨_,H3,?_,q⟩)⟩
     exact I5.turned (it:=H2.objs.size) (t':=s5.toks) (fun b o n e=>hs'.extBut b o n e) I4.free cl0 (.inr cy) cc cp
   · subst hXc
     refine thn (Tn.item (X.comp Nc scope cl H2.objs.size s2 H1 fp) rfl rfl rfl hc i [] s3 σ3 H3 _ I3 (stat fr3) st3 go) fun r s4 ⟨u,hr,h4⟩=>?_
     subst hr
     refine thn h4 fun _ s5 ⟨x,H5,I5,r5,y5,st5,fr5⟩=>?_
     have I5':=I5.pinned (stat fr5) (Tn.obj _ _ st5)
     have back:∀ {σ7:St} {H7:Hp} {s7:Shared},Inv (X.comp Nc scope cl H2.objs.size s2 H1 fp) ([] ++ iL fp s5.heap) σ7 H7 s7→Inv (X.comp Nc scope cl H2.objs.size s2 H1 fp) [] σ7 H7 s7∧tn (i + 1) s7.heap∧∀ b∈fp,H7 b=none:=fun {σ7 H7 s7} I7=>by
       refine ⟨I7.unpinned,Tn.keep _ _ _ st5 fun b hb o e=>(I7.pin (b,o) (List.mem_append_right _ (List.mem_append_right _ (d6 hb e)))).1,fun b hb=>?_⟩
       obtain ⟨o,e,d⟩:=Tn.obj _ _ st5 b hb
       exact (I7.pin (b,o) (List.mem_append_right _ (List.mem_append_right _ (d6 hb e)))).2.1
     refine thn (hg _ _ _ _ _ s5 σ3 H5 x u _ I5' r5 (step x H5 y5)) fun _ s6 ⟨σ6,H6,I6,q6⟩=>?_
     refine nA (ht _ _ _ _ _ s6 σ6 H6 _ I6 q6) fun ok s7 H7 I7 q7=>?_
     cases ok with
     | false =>
       rw [if_neg Bool.false_ne_true] at q7 ⊢
       obtain ⟨m',hm,w7⟩:=q7
       obtain ⟨J1,J2,J3⟩:=back I7
       exact ⟨m',hm,i + 1,ys,σ6,H7,J1,J2,J3,w7⟩
     | true =>
       rw [if_pos rfl] at q7 ⊢
       refine bq (he _ _ _ _ _ s7 σ6 H7 _ I7 q7) fun y s8 yv H8 I8 r8 ⟨hp8,hl8,m',hm,w8⟩=>?_
       refine thn (cG _ s8 σ6 H8 (.ref s2.heap.objs.size) [yv] _ [y] (fun v' H'=>W (i + 1) m' (ys ++ [yv]) σ6 H') I8 rfl (.cons r8 .nil) ⟨_,ys,yv,rfl,rfl,hp8,hl8,w8⟩) fun v9 s9 ⟨_,H9,I9,_,w9⟩=>?_
       obtain ⟨J1,J2,J3⟩:=back I9
       exact ⟨m',hm,i + 1,ys ++ [yv],σ6,H9,J1,J2,J3,w9⟩
 exact codeAny_compStart_list (loop _ rfl) (Tn.self _ 0 _ _ _ st₁ (loop _ rfl))
end
end L2
set_option Elab.async false
set_option linter.all false
set_option maxRecDepth 100000
namespace L2
open PySem PySem.Spec PyProof.Rows
end L2
set_option Elab.async false
set_option linter.all false
set_option maxRecDepth 100000
namespace Pb
open L2 PySem
def front (r:Int) (par:Int→Int) (p:Int):V:=if p=r then .non else .int (par p)
def aY (m:Int) (rs:List Road) (fv:V) (p:Int):List Int:=(bM m rs p).filter fun v=>decide (V.int v≠fv)
variable {m:Int} {rs:List Road} {r:Int} {par:Int→Int} {dep:Int→Nat}
theorem Rooted.ne (R:Rooted m rs r par dep) {v:Int} (h0:0≤v) (h1:v < m) (hr:v≠r):par v≠v:=fun z=>by
 have:=(R.up v h0 h1 hr).2.2
 rw [z] at this
 omega
theorem cQ (g:Good m rs) (R:Rooted m rs r par dep) {p v:Int} (p0:0≤p) (p1:p < m):v∈aY m rs (front r par p) p↔(0≤v∧v < m)∧v≠r∧par v=p:=by
 unfold aY
 rw [List.mem_filter,cU g,decide_eq_true_eq]
 constructor
 · rintro ⟨ad,hf⟩
   obtain ⟨_,hv,_⟩:=g.adj ad
   refine ⟨hv,?_⟩
   obtain ⟨x,hx,j⟩:=ad
   have key:∀ u w:Int,(u≠r∧par u=w)∨(w≠r∧par w=u)→u=p→w=v→v≠r∧par v=p:=fun u w h e1 e2=>by
     subst e1 e2
     rcases h with h | h
     · exfalso
       apply hf
       unfold front
       rw [if_neg h.1,h.2]
     · exact h
   rcases j with ⟨a,b⟩ | ⟨a,b⟩
   · exact key x.a x.b (R.road x hx) a b
   · exact key x.b x.a (R.road x hx).symm a b
 · rintro ⟨hv,hr,hp⟩
   have u:=R.up v hv.1 hv.2 hr
   rw [hp] at u
   refine ⟨?_,fun z=>?_⟩
   · obtain ⟨x,hx,j⟩:=u.2.1
     exact ⟨x,hx,j.elim (fun q=>.inr ⟨q.2,q.1⟩) (fun q=>.inl ⟨q.2,q.1⟩)⟩
   · unfold front at z
     by_cases c:p=r
     · rw [if_pos c] at z; cases z
     · rw [if_neg c] at z
       have e:v=par p:=by injection z
       have w:=(R.up p p0 p1 c).2.2
       have w2:=u.2.2
       rw [← e] at w
       omega
theorem i9 {fv:V} {p:Int}:(aY m rs fv p).Nodup:=(mC m rs p).filter _
def nl (m:Int) (par:Int→Int) (ks:List Int):List V:=(below m.toNat).map fun v=>if v∈ks then .int (par v) else .non
def ie (m r:Int) (par:Int→Int):List V:=(below m.toNat).map (front r par)
theorem h9 {ks:List Int}:(nl m par ks).length=m.toNat:=by unfold nl; rw [List.length_map,aK]
theorem eR {n i:Nat} (h:i < n):(below n)[i]?=some (i:Int):=by unfold below; rw [List.getElem?_map,List.getElem?_range h]; rfl
theorem vJ {ks:List Int} {v:Int} (h0:0≤v) (h1:v < m):(nl m par ks)[v.toNat]?=some (if v∈ks then .int (par v) else .non):=by
 unfold nl
 rw [List.getElem?_map,eR (by omega)]
 show some (if ((v.toNat:Nat):Int)∈ks then V.int (par ((v.toNat:Nat):Int)) else V.non)=_
 rw [Int.toNat_of_nonneg h0]
theorem Bp {ks:List Int} {v:Int} (h0:0≤v) (h1:v < m):(nl m par ks).set v.toNat (.int (par v))=nl m par (ks ++ [v]):=by
 refine List.ext_getElem? fun i=>?_
 rw [List.getElem?_set]
 by_cases c:i < m.toNat
 · have e:∀ l:List Int,(nl m par l)[i]?=some (if (i:Int)∈l then .int (par (i:Int)) else .non):=fun l=>by
     have:=vJ (par:=par) (ks:=l) (v:=(i:Int)) (m:=m) (by omega) (by omega)
     rwa [Int.toNat_natCast] at this
   rw [e,h9]
   by_cases z:v.toNat=i
   · have z2:v=(i:Int):=by omega
     rw [if_pos z,if_pos (by omega),e,if_pos (by rw [z2]; simp),← z2]
   · rw [if_neg z,e]
     have z2:¬ ((i:Int)=v):=by omega
     simp [z2]
 · have e:∀ l:List Int,(nl m par l)[i]?=none:=fun l=>List.getElem?_eq_none (by rw [h9]; omega)
   rw [e,e,h9]
   by_cases z:v.toNat=i
   · omega
   · rw [if_neg z]
structure AInv (m:Int) (rs:List Road) (r:Int) (par:Int→Int) (ks ws:List Int):Prop where
 nd:ks.Nodup
 rng:∀ k∈ks,0≤k∧k < m
 nr:r ∉ ks
 sub:∀ w∈ws,w=r∨w∈ks
 wnd:ws.Nodup
 ok:∀ v∈ks,par v ∉ ws∧(par v=r∨par v∈ks)
 dn:∀ v,0≤v→v < m→v≠r→(par v=r∨par v∈ks)→par v ∉ ws→v∈ks
theorem AInv.start:AInv m rs r par [] [r] where
 nd:=List.nodup_nil
 rng:=fun _ h=>by cases h
 nr:=fun h=>by cases h
 sub:=fun w h=>.inl (List.mem_singleton.mp h)
 wnd:=by simp
 ok:=fun _ h=>by cases h
 dn:=fun v _ _ _ h n=>by
   rcases h with h | h
   · exact absurd (by rw [h]; simp) n
   · cases h
theorem AInv.at_ (J:AInv m rs r par ks ws) (r0:0≤r) (r1:r < m) {p:Int} (hp:p∈ws):0≤p∧p < m:=by
 rcases J.sub p hp with h | h
 · rw [h]; exact ⟨r0,r1⟩
 · exact J.rng p h
theorem AInv.front (J:AInv m rs r par ks ws) {p:Int} (hp:p∈ws):(if p∈ks then V.int (par p) else V.non)=front r par p:=by
 unfold Pb.front
 by_cases c:p=r
 · rw [if_pos c,if_neg (by rw [c]; exact J.nr)]
 · rw [if_neg c,if_pos ((J.sub p hp).resolve_left c)]
theorem AInv.step (g:Good m rs) (R:Rooted m rs r par dep) (r0:0≤r) (r1:r < m) {ks ws ws':List Int} {p:Int} (J:AInv m rs r par ks ws) (e:ws.Perm (p :: ws')):AInv m rs r par (ks ++ aY m rs (Pb.front r par p) p) (ws' ++ aY m rs (Pb.front r par p) p):=by
 have hp:p∈ws:=e.mem_iff.mpr List.mem_cons_self
 have pr:=J.at_ r0 r1 hp
 have mk:∀ v,v∈aY m rs (Pb.front r par p) p↔(0≤v∧v < m)∧v≠r∧par v=p:=fun v=>cQ g R pr.1 pr.2
 have nk:(aY m rs (Pb.front r par p) p).Nodup:=i9
 generalize aY m rs (Pb.front r par p) p=kk at mk nk ⊢
 have dis:∀ v∈kk,v ∉ ks:=fun v hv z=>(J.ok v z).1 (by rw [((mk v).mp hv).2.2]; exact hp)
 obtain ⟨n1,n2⟩:=List.nodup_cons.mp (e.nodup_iff.mp J.wnd)
 have sw:∀ w∈ws',w∈ws:=fun w hw=>e.mem_iff.mpr (List.mem_cons_of_mem _ hw)
 refine ⟨?_,?_,?_,?_,?_,?_,?_⟩
 · rw [List.nodup_append]
   exact ⟨J.nd,nk,fun a ha b hb z=>dis b hb (z ▸ ha)⟩
 · intro k hk
   rcases List.mem_append.mp hk with h | h
   · exact J.rng k h
   · exact ((mk k).mp h).1
 · intro z
   rcases List.mem_append.mp z with h | h
   · exact J.nr h
   · exact ((mk r).mp h).2.1 rfl
 · intro w hw
   rcases List.mem_append.mp hw with h | h
   · exact (J.sub w (sw w h)).imp id (List.mem_append_left _)
   · exact .inr (List.mem_append_right _ h)
 · rw [List.nodup_append]
   refine ⟨n2,nk,fun a ha b hb z=>?_⟩
   subst z
   rcases J.sub a (sw a ha) with h | h
   · exact ((mk a).mp hb).2.1 h
   · exact dis a hb h
 · intro v hv
   rcases List.mem_append.mp hv with h | h
   · obtain ⟨o1,o2⟩:=J.ok v h
     refine ⟨fun z=>?_,o2.imp id (List.mem_append_left _)⟩
     rcases List.mem_append.mp z with z | z
     · exact o1 (sw _ z)
     · rcases o2 with o | o
       · exact ((mk _).mp z).2.1 o
       · exact dis _ z o
   · obtain ⟨q1,q2,q3⟩:=(mk v).mp h
     rw [q3]
     refine ⟨fun z=>?_,(J.sub p hp).imp id (List.mem_append_left _)⟩
     rcases List.mem_append.mp z with z | z
     · exact n1 z
     · obtain ⟨w1,w2,w3⟩:=(mk p).mp z
       exact R.ne w1.1 w1.2 w2 w3
 · intro v v0 v1 vr h n
   have nk2:par v ∉ kk:=fun z=>n (List.mem_append_right _ z)
   have h':par v=r∨par v∈ks:=h.imp id fun z=>(List.mem_append.mp z).resolve_right nk2
   by_cases c:par v=p
   · exact List.mem_append_right _ ((mk v).mpr ⟨⟨v0,v1⟩,vr,c⟩)
   · refine List.mem_append_left _ (J.dn v v0 v1 vr h' fun z=>?_)
     rcases List.mem_cons.mp (e.mem_iff.mp z) with z | z
     · exact c z
     · exact n (List.mem_append_left _ z)
theorem AInv.perm {ks ws ws2:List Int} (J:AInv m rs r par ks ws) (e:ws.Perm ws2):AInv m rs r par ks ws2 where
 nd:=J.nd
 rng:=J.rng
 nr:=J.nr
 sub:=fun w h=>J.sub w (e.mem_iff.mpr h)
 wnd:=e.nodup_iff.mp J.wnd
 ok:=fun v h=>⟨fun z=>(J.ok v h).1 (e.mem_iff.mpr z),(J.ok v h).2⟩
 dn:=fun v h0 h1 hr h n=>J.dn v h0 h1 hr h fun z=>n (e.mem_iff.mp z)
theorem AInv.all (R:Rooted m rs r par dep) {ks:List Int} (J:AInv m rs r par ks []):∀ v,0≤v→v < m→v≠r→v∈ks:=by
 have key:∀ n v,dep v=n→0≤v→v < m→v≠r→v∈ks:=by
   intro n
   induction n with
   | zero =>
     intro v e v0 v1 vr
     have:=(R.up v v0 v1 vr).2.2
     omega
   | succ n ih =>
     intro v e v0 v1 vr
     have u:=R.up v v0 v1 vr
     refine J.dn v v0 v1 vr ?_ (by simp)
     by_cases c:par v=r
     · exact .inl c
     · exact .inr (ih (par v) (by omega) u.1.1 u.1.2 c)
 exact fun v=>key _ v rfl
theorem AInv.done (R:Rooted m rs r par dep) {ks:List Int} (J:AInv m rs r par ks []):nl m par ks=ie m r par:=by
 unfold nl ie
 refine List.map_congr_left fun v hv=>?_
 have hv':0≤v∧v < m:=by
   unfold below at hv
   obtain ⟨k,hk,rfl⟩:=List.mem_map.mp hv
   have:=List.mem_range.mp hk
   omega
 unfold Pb.front
 by_cases c:v=r
 · rw [if_pos c,if_neg (by rw [c]; exact J.nr)]
 · rw [if_neg c,if_pos (J.all R v hv'.1 hv'.2 c)]
theorem yK (n:Nat) (v:V):(List.replicate n [v]).flatten=List.replicate n v:=by
 induction n with
 | zero=>rfl
 | succ n ih=>rw [List.replicate_succ,List.flatten_cons,ih,List.replicate_succ]; rfl
theorem Bj:nl m par []=List.replicate m.toNat V.non:=by
 unfold nl
 refine List.ext_getElem? fun i=>?_
 by_cases c:i < m.toNat
 · rw [List.getElem?_map,eR c,List.getElem?_replicate,if_pos c]
   simp
 · rw [List.getElem?_eq_none (by rw [List.length_map,aK]; omega),List.getElem?_eq_none (by rw [List.length_replicate]; omega)]
def dC (par:Int→Int):Nat→Int→List Int
 | 0,v=>[v]
 | n + 1,v=>v :: dC par n (par v)
def dS (par:Int→Int) (dep:Int→Nat) (v:Int):List Int:=dC par (dep v) v
theorem Rooted.pos (R:Rooted m rs r par dep) {v:Int} (h0:0≤v) (h1:v < m) (hr:v≠r):dep v=dep (par v) + 1:=(R.up v h0 h1 hr).2.2.symm
theorem iS (R:Rooted m rs r par dep):∀ (n:Nat) (v:Int),dep v=n→0≤v→v < m→(dC par n v).Nodup∧(∀ x∈dC par n v,(0≤x∧x < m)∧dep x≤n)∧(dC par n v).length=n + 1
 | 0,v,e,h0,h1=>⟨by unfold dC; simp,fun x hx=>by
     unfold dC at hx
     rw [List.mem_singleton.mp hx]
     exact ⟨⟨h0,h1⟩,by omega⟩,rfl⟩
 | n + 1,v,e,h0,h1=>by
   have hr:v≠r:=fun z=>by rw [z,R.root] at e; omega
   have u:=R.up v h0 h1 hr
   obtain ⟨i1,i2,i3⟩:=iS R n (par v) (by omega) u.1.1 u.1.2
   unfold dC
   refine ⟨List.nodup_cons.mpr ⟨fun z=>?_,i1⟩,fun x hx=>?_,by rw [List.length_cons,i3]⟩
   · have:=(i2 v z).2
     omega
   · rcases List.mem_cons.mp hx with rfl | hx
     · exact ⟨⟨h0,h1⟩,by omega⟩
     · exact ⟨(i2 x hx).1,by have:=(i2 x hx).2; omega⟩
theorem mj (R:Rooted m rs r par dep) {v:Int} (h0:0≤v) (h1:v < m):dep v + 1≤m.toNat:=by
 obtain ⟨i1,i2,i3⟩:=iS R _ v rfl h0 h1
 have:=ci (m:=m) (by omega) i1 fun x hx=>(i2 x hx).1
 omega
theorem jM (R:Rooted m rs r par dep):dS par dep r=[r]:=by unfold dS; rw [R.root]; rfl
theorem eO (R:Rooted m rs r par dep) {v:Int} (h0:0≤v) (h1:v < m) (hr:v≠r):dS par dep v=v :: dS par dep (par v):=by
 unfold dS
 rw [R.pos h0 h1 hr]
 rfl
theorem nM (v:Int):∃ l,dS par dep v=v :: l:=by
 unfold dS
 cases dep v with
 | zero=>exact ⟨[],rfl⟩
 | succ n=>exact ⟨_,rfl⟩
theorem qh {v:Int} (h0:0≤v) (h1:v < m):(ie m r par)[v.toNat]?=some (front r par v):=by
 unfold ie
 rw [List.getElem?_map,eR (by omega)]
 show some (front r par ((v.toNat:Nat):Int))=_
 rw [Int.toNat_of_nonneg h0]
def A9 (rs:List Road) (par:Int→Int):Nat→Int→Int
 | 0,_=>1
 | n + 1,v=>(bD rs v (par v)).getD 0 * A9 rs par n (par v)
def gr (rs:List Road) (par:Int→Int) (dep:Int→Nat) (v:Int):Int:=A9 rs par (dep v) v
theorem n9 (R:Rooted m rs r par dep):gr rs par dep r=1:=by unfold gr; rw [R.root]; rfl
theorem jS (R:Rooted m rs r par dep) {v:Int} (h0:0≤v) (h1:v < m) (hr:v≠r):gr rs par dep v=(bD rs v (par v)).getD 0 * gr rs par dep (par v):=by
 unfold gr
 rw [R.pos h0 h1 hr]
 rfl
theorem kg (g:Good m rs) (R:Rooted m rs r par dep) {v:Int} (h0:0≤v) (h1:v < m) (hr:v≠r):∃ k,bD rs v (par v)=some k∧2≤k∧k≤1000000:=by
 obtain ⟨x,hx,j⟩:=(R.up v h0 h1 hr).2.1
 obtain ⟨i,hi⟩:=List.getElem?_of_mem hx
 have ok:=g.ok x hx
 rw [ge g hi j]
 unfold cY
 by_cases c:x.a=v∧x.b=par v
 · rw [if_pos c]
   exact ⟨_,rfl,ok.t0,ok.t1⟩
 · rw [if_neg c]
   have c2:x.a=par v∧x.b=v:=by
     rcases j with j | j
     · exact absurd j c
     · exact ⟨j.2,j.1⟩
   rw [if_pos c2]
   exact ⟨_,rfl,ok.u0,ok.u1⟩
def gt (m:Int) (rs:List Road) (r:Int) (par:Int→Int):Nat→Int→List Int
 | 0,v=>[v]
 | n + 1,v=>v :: (aY m rs (front r par v) v).flatMap (gt m rs r par n)
def cI (m:Int) (rs:List Road) (r:Int) (par:Int→Int) (dep:Int→Nat) (v:Int):List Int:=gt m rs r par (m.toNat - 1 - dep v) v
theorem iw {f h:Int→List Int}:∀ {l:List Int},(∀ x∈l,f x=h x)→l.flatMap f=l.flatMap h
 | [],_=>rfl
 | a :: l,e=>by rw [List.flatMap_cons,List.flatMap_cons,e a List.mem_cons_self,iw fun x hx=>e x (List.mem_cons_of_mem _ hx)]
theorem fU (g:Good m rs) (R:Rooted m rs r par dep) {v:Int} (h0:0≤v) (h1:v < m):cI m rs r par dep v=v :: (aY m rs (front r par v) v).flatMap (cI m rs r par dep):=by
 have mk:∀ u,u∈aY m rs (front r par v) v→(0≤u∧u < m)∧u≠r∧par u=v:=fun u=>(cQ g R h0 h1).mp
 have du:∀ u∈aY m rs (front r par v) v,dep u=dep v + 1∧dep u + 1≤m.toNat:=fun u hu=>by
   obtain ⟨w1,w2,w3⟩:=mk u hu
   have:=R.pos w1.1 w1.2 w2
   rw [w3] at this
   exact ⟨this,mj R w1.1 w1.2⟩
 unfold cI
 cases e:m.toNat - 1 - dep v with
 | zero =>
   have:aY m rs (front r par v) v=[]:=List.eq_nil_iff_forall_not_mem.mpr fun u hu=>by
     have:=du u hu
     omega
   rw [this]
   rfl
 | succ n =>
   show v :: (aY m rs (front r par v) v).flatMap (gt m rs r par n)=_
   rw [iw fun u hu=>show gt m rs r par n u=gt m rs r par (m.toNat - 1 - dep u) u by rw [show m.toNat - 1 - dep u=n by have:=du u hu; omega]]
def up (par:Int→Int):Nat→Int→Int
 | 0,x=>x
 | k + 1,x=>par (up par k x)
theorem l9 {f:Int→List Int}:∀ {l:List Int},l.Nodup→(∀ u∈l,(f u).Nodup)→(∀ u∈l,∀ w∈l,∀ x,x∈f u→x∈f w→u=w)→(l.flatMap f).Nodup
 | [],_,_,_=>by simp
 | a :: l,n,h1,h2=>by
   obtain ⟨n1,n2⟩:=List.nodup_cons.mp n
   rw [List.flatMap_cons,List.nodup_append]
   refine ⟨h1 a List.mem_cons_self,l9 n2 (fun u hu=>h1 u (List.mem_cons_of_mem _ hu)) (fun u hu w hw=>h2 u (List.mem_cons_of_mem _ hu) w (List.mem_cons_of_mem _ hw)),fun x hx y hy z=>?_⟩
   subst z
   obtain ⟨w,hw,hxw⟩:=List.mem_flatMap.mp hy
   have:=h2 a List.mem_cons_self w (List.mem_cons_of_mem _ hw) x hx hxw
   exact n1 (this ▸ hw)
theorem km (g:Good m rs) (R:Rooted m rs r par dep):∀ (n:Nat) (v:Int),0≤v→v < m→(gt m rs r par n v).Nodup∧∀ x∈gt m rs r par n v,(0≤x∧x < m)∧∃ k,dep x=dep v + k∧up par k x=v
 | 0,v,h0,h1=>⟨by unfold gt; simp,fun x hx=>by
     unfold gt at hx
     rw [List.mem_singleton.mp hx]
     exact ⟨⟨h0,h1⟩,0,rfl,rfl⟩⟩
 | n + 1,v,h0,h1=>by
   have mk:∀ u,u∈aY m rs (front r par v) v→(0≤u∧u < m)∧u≠r∧par u=v:=fun u=>(cQ g R h0 h1).mp
   have nk:(aY m rs (front r par v) v).Nodup:=i9
   have ih:=fun u hu=>km g R n u (mk u hu).1.1 (mk u hu).1.2
   have du:∀ u∈aY m rs (front r par v) v,dep u=dep v + 1:=fun u hu=>by
     obtain ⟨w1,w2,w3⟩:=mk u hu
     have:=R.pos w1.1 w1.2 w2
     rw [w3] at this
     exact this
   unfold gt
   refine ⟨List.nodup_cons.mpr ⟨fun z=>?_,l9 nk (fun u hu=>(ih u hu).1) fun u hu w hw x hx hy=>?_⟩,fun x hx=>?_⟩
   · obtain ⟨u,hu,hv⟩:=List.mem_flatMap.mp z
     obtain ⟨_,k,e,_⟩:=(ih u hu).2 v hv
     have:=du u hu
     omega
   · obtain ⟨_,k1,e1,f1⟩:=(ih u hu).2 x hx
     obtain ⟨_,k2,e2,f2⟩:=(ih w hw).2 x hy
     have d1:=du u hu
     have d2:=du w hw
     have:k1=k2:=by omega
     rw [← f1,← f2,this]
   · rcases List.mem_cons.mp hx with rfl | hx
     · exact ⟨⟨h0,h1⟩,0,rfl,rfl⟩
     · obtain ⟨u,hu,hv⟩:=List.mem_flatMap.mp hx
       obtain ⟨xr,k,e,f⟩:=(ih u hu).2 x hv
       exact ⟨xr,k + 1,by rw [e,du u hu]; omega,by show par (up par k x)=v; rw [f]; exact (mk u hu).2.2⟩
theorem lr (g:Good m rs) (R:Rooted m rs r par dep) {v:Int} (h0:0≤v) (h1:v < m):(cI m rs r par dep v).length≤24:=by
 obtain ⟨n1,n2⟩:=km g R (m.toNat - 1 - dep v) v h0 h1
 have:=ci (m:=m) (by omega) n1 fun x hx=>(n2 x hx).1
 have:=g.m24
 unfold cI
 omega
end Pb
set_option Elab.async false
set_option linter.all false
set_option maxRecDepth 100000
namespace L2
open PySem PySem.Spec PyProof.Rows
def Itv (K:PySem.W.Frag) (a:Addr) (n:Nat):It :=
 ⟨fun i H=>i < n∧∃ xs x,SqL K H a xs∧xs[n - 1 - i]?=some x,fun i H x H'=>H'=H∧∀ xs,SqL K H a xs→xs[n - 1 - i]?=some x,fun i H=>n≤i⟩
theorem yo {P:Program} {w:World} {K:PySem.W.Frag} {tg:Expr} (a it:Addr) (n:Nat):Turn P w K tg (Itv K a n) [it] it (fun i h=>i≤n∧h.IsRevIter it a ((n:Int) - 1 - (i:Int))) where
 mem:=by simp
 obj:=fun i h st b hb=>by
   have e:b=it:=by simpa using hb
   subst e
   obtain ⟨_,o,e,c,d⟩:=st
   exact ⟨o,e,fun v z=>by rw [d] at z; cases z⟩
 keep:=fun i h h' st k=>⟨st.1,st.2.at fun o e=>k it (by simp) o e⟩
 item:=by
   intro X hP hw hK hc i pins s σ H E I hf st hg
   subst hP hw hK
   obtain ⟨hi,xs,x,hq,hx⟩:=hg
   obtain ⟨its,rv,p,hz⟩:=I.list hq
   obtain ⟨u,hu,ru⟩:=rv.get hx
   obtain ⟨f0,f1,f2,f3,f4,f5⟩:=hf it (by simp)
   have e0:(n:Int) - 1 - (i:Int)=((n - 1 - i:Nat):Int):=by omega
   have st2:=st.2
   rw [e0] at st2
   refine wpAny_pyNext_rev_item st2 p.isList (x:=u) (by simpa using hu) fun h' st' sb=>?_
   have I1:Inv X pins σ H { s with heap:=h' }:=I.turned (t':=s.toks) (fun b o hb e=>(sb.2 b hb).trans e) f0 f1 f3 f4 f5
   obtain ⟨o,e,c,d⟩:=id st'
   have e1:((n - 1 - i:Nat):Int) - 1=(n:Int) - 1 - ((i + 1:Nat):Int):=by omega
   rw [e1] at st'
   exact ⟨u,rfl,pi (s:={ s with heap:=h' }) e c d (by decide) ⟨x,H,I1,ru,⟨rfl,fun ys hy=>by rw [I.list_inj hy hq]; exact hx⟩,⟨hi,st'⟩,fun b hb=>(hf b hb).1⟩⟩
 done:=by
   intro X hP hw hK hc i pins s σ H E I hf st hg
   subst hP hw hK
   have hg':n≤i:=hg
   obtain ⟨f0,f1,f2,f3,f4,f5⟩:=hf it (by simp)
   have st2:=st.2
   have st1:=st.1
   rw [show (n:Int) - 1 - (i:Int)=-1 by omega] at st2
   exact wpAny_pyNext_rev_end (I.ok.hd hc) st2 fun h' eb=>⟨rfl,I.turned (t':=s.toks) (fun b o hb e=>eb b o hb e) f0 f1 f3 f4 f5⟩
 self:=fun _ _ _ _ _ st h=>wpAny_pyIter_revIter st.2 h
def yN (K:PySem.W.Frag) (tl:TE):TI:=fun σ H R=>tl σ H fun x H1=>∃ a xs,x=.ref a∧SqL K H1 a xs∧R (Itv K a xs.length) H1
section
variable {X:Cx} {tg e:Expr} {te:TE} {p2 pos:Pos}
theorem pP (hg:Gl X "reversed") (hm:X.mg "reversed"=none) (he:PE X e te) (h2:starEach [e] X.env=[(false,eval e X.env)]:=by rfl):PI X tg (.Call (.Name "reversed" p2) [e] [] pos) (yN X.K te):=by
 intro pins s σ H R I h
 refine Call_ (gR I hg hm boot_reversed (PyProof.Rows.callWith_type1 ?_ h2 rfl))
 rw [h2]
 show wpAny _ _ (spliced ((false,eval e X.env) :: backTo pos [])) _ _ s
 refine Calls.spliced_cons (bq (he pins s σ H _ I h) fun u s1 x H1 I1 r1 q1=>Calls.spliced_nil ?_)
 obtain ⟨a,ys,ex,sa,q⟩:=q1
 subst ex
 cases r1
 obtain ⟨its,rv,pl,hz⟩:=I1.list sa
 refine call_reversed_list pl.isList ?_
 have sz:its.toArray.size=ys.length:=by rw [List.size_toArray,rv.length]
 rw [sz]
 refine wpAny_pyIter_revIter (i:=(ys.length:Int) - 1) (l:=a) ⟨_,Heap.get?_push_size _ rfl,rfl,rfl⟩ ?_
 refine ⟨s1.heap.objs.size,[s1.heap.objs.size],_,_,H1,rfl,I1.kept (t':=s1.toks) fun b o e=>Heap.get?_push_of_some _ e,yo a _ ys.length,⟨Nat.zero_le _,?_⟩,fun b hb=>?_,q⟩
 · exact ⟨_,Heap.get?_push_size _ rfl,rfl,by simp [revObj]⟩
 · have e:b=s1.heap.objs.size:=by simpa using hb
   subst e
   exact I1.fpOk (Nat.le_refl _) (I1.hok.fresh (Nat.le_refl _))
end
theorem pF {K:PySem.W.Frag} {a:Addr} {xs:List V} {g:TG} {tb:TS} {D:Ends} {σ:St} {H:Hp} (Pv:Nat→St→Hp→Prop) (h0:Pv 0 σ H) (hl:∀ i σ H,i≤xs.length→Pv i σ H→SqL K H a xs)
   (hs:∀ (i:Nat) (x:V) (σ:St) (H:Hp) (N:St→Hp→Prop),(∀ σ' H',Pv (i + 1) σ' H'→N σ' H')→xs.reverse[i]?=some x→Pv i σ H→g x σ H fun σ2 H2=>tb { D with nx:=N,ct:=N,bk:=D.nx } σ2 H2) (hd:∀ σ H,Pv xs.length σ H→D.nx σ H) :
   fQ (Itv K a xs.length) D g tb σ H:=by
 refine ⟨fun i m σ H=>m=xs.length - i∧i≤xs.length∧Pv i σ H,⟨xs.length,by simp,Nat.zero_le _,h0⟩,?_⟩
 rintro i m σ H ⟨rfl,hi,p⟩
 have q:=hl i σ H hi p
 by_cases hlt:i < xs.length
 · have hx:xs[xs.length - 1 - i]?=some xs[xs.length - 1 - i]:=List.getElem?_eq_getElem (by omega)
   refine .inr ⟨⟨hlt,xs,_,q,hx⟩,fun σ' H'=>∃ m',m' < xs.length - i∧(m'=xs.length - (i + 1)∧i + 1≤xs.length∧Pv (i + 1) σ' H'),fun σ' H' z=>z,fun x H' y=>?_⟩
   obtain ⟨e,y⟩:=y
   subst e
   exact hs i x σ _ _ (fun σ' H' p'=>⟨xs.length - (i + 1),by omega,rfl,hlt,p'⟩) (by rw [List.getElem?_reverse hlt]; exact y xs q) p
 · have e:i=xs.length:=by omega
   subst e
   exact .inl ⟨Nat.le_refl _,hd σ H p⟩
end L2
set_option Elab.async false
set_option linter.all false
set_option maxRecDepth 100000
namespace L2
open PySem PySem.Spec PyProof.Rows
def vy (te:TE):TE:=fun σ H Q=>te σ H fun x H1=>∃ i,x=.int i∧0≤i∧i≤100000∧∀ l,H1 l=none→Q (.ref l) (upd H1 l (.lst ((Pb.below i.toNat).map V.int)))
section
variable {X:Cx} {e:Expr} {te:TE} {p1 p2 pos pos2:Pos}
end
end L2
set_option Elab.async false
set_option linter.all false
set_option maxRecDepth 100000
namespace L2
open PySem PySem.Spec PyProof.Rows PySem.W
section
variable {X:Cx}
end
end L2
set_option Elab.async false
set_option linter.all false
set_option maxRecDepth 100000
namespace L2
open PySem PySem.Spec PyProof.Rows
theorem vG:bootBuiltins "sum"=some (.builtin "sum"):=by decide +kernel
theorem kO (ns:List Int):∀ n,n≤ns.length→preSum (fun i=>ns.getD i 0) n=(ns.take n).sum
 | 0,_=>by simp [preSum]
 | n + 1,h=>by
   have ih:=kO ns n (by omega)
   have hn:n < ns.length:=by omega
   rw [List.take_succ,List.getElem?_eq_getElem hn,List.sum_append,← ih]
   simp [preSum,List.getD,hn]
section
variable {X:Cx}
theorem qZ (hc:X.calm=true):eB X (.builtin "sum") (fun xs H Q=>∃ (p:Addr) (ns:List Int),xs=[.ref p]∧(SqL X.K H p (ns.map V.int)∨SqT X.K H p (ns.map V.int))∧Q (.int ns.sum) H):=by
 intro pins s σ H xs us Q I r h
 obtain ⟨p,ns,rfl,hp,q⟩:=h
 obtain ⟨u,rfl,ru⟩:=gz r
 cases ru
 have hh:X.A.in1.handled=none:=I.ok.hd hc
 have vals:∀ {its:List Value},Vals (ns.map V.int) its→its.length=ns.length∧∀ (i:Nat) (v:Value),its.toArray[i]?=some v→∃ t,v=Value.int (ns.getD i 0) t:=by
   intro its rv
   have hlen:its.length=ns.length:=by rw [← rv.length,List.length_map]
   refine ⟨hlen,fun i v hP=>?_⟩
   have hi:its[i]?=some v:=by simpa using hP
   have hib:i < ns.length:=by rw [← hlen]; exact (List.getElem?_eq_some_iff.mp hi).1
   obtain ⟨u,hu,ru⟩:=rv.get (i:=i) (x:=V.int ns[i]) (by rw [List.getElem?_map,List.getElem?_eq_getElem hib]; rfl)
   rw [hi] at hu; cases hu
   obtain ⟨t,e⟩:=(show ∃ t,v=Value.int ns[i] t from ru)
   exact ⟨t,by rw [e]; simp [List.getD,hib]⟩
 have fin:∀ {n:Nat},n=ns.length→preSum (fun i=>ns.getD i 0) n=ns.sum:=fun {n} e=>by rw [kO ns n (by omega),List.take_of_length_le (by omega)]
 rcases hp with hp | hp
 · obtain ⟨its,rv,pl,hz⟩:=I.list hp
   obtain ⟨hlen,hv⟩:=vals rv
   have hl:=pl.isList
   have hlt:=pl.lt
   refine call_sum_walkG (wpAny_pyIter_list hl ?_)
   refine ⟨s.heap.objs.size,[s.heap.objs.size,p],[s.heap.objs.size],its.toArray.size,_,_,fun i=>ns.getD i 0,rfl,Walks.list (A:=X.A.in1) hh _ p (Nat.ne_of_lt hlt) its.toArray,
     ⟨⟨_,Heap.get?_push_size _ rfl,rfl,rfl⟩,hl.push _⟩,fun b hb=>?_,fun i v hP=>hv i v hP,fun h' tk t' hk=>?_⟩
   · simp only [Heap.push,Array.size_push]
     rcases List.mem_cons.mp hb with e | e
     · rw [e]; exact Nat.lt_succ_self _
     · rw [List.mem_singleton.mp e]; exact Nat.lt_succ_of_lt hlt
   · have kk:∀ b o,s.heap.get? b=some o→h'.get? b=some o:=fun b o eb=>hk b o (fun hm=>by rw [List.mem_singleton.mp hm] at eb; exact Nat.lt_irrefl _ (Heap.lt_size eb)) (Heap.get?_push_of_some _ eb)
     rw [fin (by rw [List.size_toArray,hlen])]
     exact ⟨.int _,H,I.kept (t':=tk) kk,⟨t',rfl⟩,q⟩
 · obtain ⟨its,rv,pl,hz⟩:=I.tuple hp
   obtain ⟨hlen,hv⟩:=vals rv
   have hl:s.heap.IsTuple p its.toArray:=pl
   have hlt:p < s.heap.objs.size:=by
     obtain ⟨o,e,_⟩:=id hl
     exact Heap.lt_size e
   refine call_sum_walkG (wpAny_pyIter_tuple hl ?_)
   refine ⟨s.heap.objs.size,[s.heap.objs.size,p],[s.heap.objs.size],its.toArray.size,_,_,fun i=>ns.getD i 0,rfl,Walks.tuple (A:=X.A.in1) hh _ p (Nat.ne_of_lt hlt) its.toArray,
     ⟨⟨_,Heap.get?_push_size _ rfl,rfl,rfl⟩,hl.push _⟩,fun b hb=>?_,fun i v hP=>hv i v hP,fun h' tk t' hk=>?_⟩
   · simp only [Heap.push,Array.size_push]
     rcases List.mem_cons.mp hb with e | e
     · rw [e]; exact Nat.lt_succ_self _
     · rw [List.mem_singleton.mp e]; exact Nat.lt_succ_of_lt hlt
   · have kk:∀ b o,s.heap.get? b=some o→h'.get? b=some o:=fun b o eb=>hk b o (fun hm=>by rw [List.mem_singleton.mp hm] at eb; exact Nat.lt_irrefl _ (Heap.lt_size eb)) (Heap.get?_push_of_some _ eb)
     rw [fin (by rw [List.size_toArray,hlen])]
     exact ⟨.int _,H,I.kept (t':=tk) kk,⟨t',rfl⟩,q⟩
end
def Cq (_ j:Int):Prop:=0 < j∧j < 18446744073709551616
theorem pI {X:Cx}:OpR X (binaryOp .FloorDiv) (rI Cq fun i j=>.int (i / j)):=opI fun i j _ _ _ _ _ hc q=>by
 have h1:(0:Int) < j:=hc.1
 have h2:j < 18446744073709551616:=hc.2
 refine floordiv_int (by omega) (by rw [Int.fdiv_eq_ediv_of_nonneg i (by omega)]; exact q) (.inl ?_)
 have h3:j.natAbs.log2 < 64:=(Nat.log2_lt (by omega)).mpr (by omega)
 unfold Builtin.divisionGoesByPylong
 have hz:(j == 0)=false:=by simp; omega
 simp only [hz,Bool.false_eq_true,if_false]
 have:¬ (j.natAbs.log2 / 30 + 1 > 300):=by omega
 simp [this]
theorem Ao {X:Cx} (K:PySem.W.Frag) (hK:X.K=K) {es:List Expr} {k:Nat} {pos:Pos} {t:TGs} {n:Nat} (hc:X.calm=true) (h:PGs X es t)
   (hn:(assignEach es X.env).length=n:=by rfl) (hst:(assignEach es X.env).findIdx? (·.1)=none:=by rfl):PG X (.Tuple es k pos) (qy K n t):=by
 subst hK
 exact ip hc h hn hst
theorem xa {K:PySem.W.Frag} {c d:Bool} {a b p:Addr} {xs zs:List V} {Q:VK} {g:TG} {tc:TT} {te:TE} {σ0:St} {H0:Hp} (Pv:Nat→List V→St→Hp→Prop) (h0:Pv 0 [] σ0 H0) (hl:∀ i ys σ H,Pv i ys σ H→SqX K c H a xs∧SqX K d H b zs)
   (hs:∀ (i:Nat) (x z:V) (ys:List V) (σ:St) (H:Hp) (q:Addr) (N:List V→St→Hp→Prop),(∀ ys' σ' H',Pv (i + 1) ys' σ' H'→N ys' σ' H')→xs[i]?=some x→zs[i]?=some z→Pv i ys σ H→H q=none→g (.ref q) σ (upd H q (.tup [x,z])) fun σ2 H2=>tc σ2 H2 fun b H3 =>
     if b=true then te σ2 H3 fun y H4=>H4 p=some (.lst ys)∧ys.length < sizeLine∧N (ys ++ [y]) σ2 (upd H4 p (.lst (ys ++ [y]))) else N ys σ2 H3)
   (hd:∀ ys σ H,Pv (min xs.length zs.length) ys σ H→Q (.ref p) H):jN (Itz K c d a b) p Q g tc te σ0 H0:=by
 refine ⟨fun i m ys σ H=>m=min xs.length zs.length - i∧i≤min xs.length zs.length∧Pv i ys σ H,⟨_,rfl,Nat.zero_le _,h0⟩,?_⟩
 rintro i m ys σ H ⟨rfl,hi,pv⟩
 obtain ⟨q1,q2⟩:=hl i ys σ H pv
 by_cases hlt:i < min xs.length zs.length
 · refine .inr ⟨⟨xs,zs,xs[i]'(by omega),zs[i]'(by omega),q1,q2,List.getElem?_eq_getElem (by omega),List.getElem?_eq_getElem (by omega)⟩,fun x H' y=>?_⟩
   obtain ⟨p',x',y',hp,rfl,rfl,e1,e2⟩:=y
   exact hs i x' y' ys σ H p' (fun ys' σ' H'=>∃ m',m' < min xs.length zs.length - i∧(m'=min xs.length zs.length - (i + 1)∧i + 1≤min xs.length zs.length∧Pv (i + 1) ys' σ' H')) (fun ys' σ' H' pv'=>⟨min xs.length zs.length - (i + 1),by omega,rfl,hlt,pv'⟩) (e1 xs q1) (e2 zs q2) pv hp
 · have e:i=min xs.length zs.length:=by omega
   subst e
   exact .inl ⟨⟨xs,zs,q1,q2,by omega⟩,hd ys σ H pv⟩
theorem pD {H:Hp} {l:Addr} {xs:List V} {i:Int} {v:V} {Q:Hp→Prop} (h:H l=some (.lst xs)) (i0:0≤i) (i1:i < xs.length) (q:Q (upd H l (.lst (xs.set i.toNat v)))):rSetL (.ref l) (.int i) v H Q :=
 ⟨l,xs,i,i.toNat,rfl,rfl,h,by unfold ixN; rw [if_pos i0,if_pos (by omega)],q⟩
theorem atG {xs:List Int} {i:Int} (i0:0≤i) (i1:i < xs.length):atI (xs.map V.int) i=some (.int (xs.getD i.toNat 0)):=kb i0 (by
 have h:i.toNat < xs.length:=by omega
 rw [List.getElem?_map,List.getElem?_eq_getElem h]
 simp [List.getD,h])
theorem zM (n:Nat) (v:V):(List.replicate n [v]).flatten=List.replicate n v:=by
 induction n with
 | zero=>rfl
 | succ n ih=>rw [List.replicate_succ,List.flatten_cons,ih,List.replicate_succ]; rfl
theorem vg {xs:List Int} {n:Nat} {v:Int} (h:∀ x∈xs,0≤x) (hv:0≤v):∀ x∈xs.set n v,0≤x:=fun x hx=>by
 rcases List.mem_or_eq_of_mem_set hx with h1 | h1
 · exact h x h1
 · rw [h1]; exact hv
theorem ku {xs:List Int} (h:∀ x∈xs,0≤x) (n:Nat):0≤xs.getD n 0:=by
 by_cases z:n < xs.length
 · rw [List.getD,List.getElem?_eq_getElem z]; exact h _ (List.getElem_mem z)
 · rw [List.getD,List.getElem?_eq_none (by omega)]; exact Int.le_refl _
theorem lO {X:Cx}:A3 X (qe X.K):=by
 intro pins s σ H x y v u Q I rx ry h
 obtain ⟨p,xs,i,z,rfl,rfl,hq,he,q⟩:=h
 cases rx
 obtain ⟨t,rfl⟩:=ry
 obtain ⟨its,r,pl,hz⟩:=I.list hq
 obtain ⟨j,h1,h2,h3,h4,h5⟩:=nJ he
 obtain ⟨w,ew,rw'⟩:=r.get h2
 have hl:=r.length
 have hn:=gG
 have fin:EP X pins σ Q w s:=⟨z,H,I,rw',q⟩
 by_cases h0:0≤i
 · have hj:i.toNat=j:=by
     rw [seqIndex_of h0 h5] at h1
     exact Option.some.inj h1
   exact wpAny_getItem_list pl.isList h0 (by omega) (by rw [hj]; simpa using ew) fin
 · have hj:(i + (its.toArray.size:Int)).toNat=j:=by
     rw [seqIndex_neg (by omega) h4] at h1
     rw [List.size_toArray,← hl]
     exact Option.some.inj h1
   exact wpAny_getItem_list_neg pl.isList (by omega) (by rw [List.size_toArray] <;> omega) (by omega) (by rw [hj]; simpa using ew) fin
theorem xF {K:PySem.W.Frag} {a p:Addr} {xs:List V} {Q:VK} {g:TG} {tc:TT} {te:TE} {σ0:St} {H0:Hp} (Pv:Nat→List V→St→Hp→Prop) (h0:Pv 0 [] σ0 H0) (hl:∀ i ys σ H,i≤xs.length→Pv i ys σ H→SqL K H a xs)
   (hs:∀ (i:Nat) (x:V) (ys:List V) (σ:St) (H:Hp) (N:List V→St→Hp→Prop),(∀ ys' σ' H',Pv (i + 1) ys' σ' H'→N ys' σ' H')→xs.reverse[i]?=some x→Pv i ys σ H→g x σ H fun σ2 H2=>tc σ2 H2 fun b H3 =>
     if b=true then te σ2 H3 fun y H4=>H4 p=some (.lst ys)∧ys.length < sizeLine∧N (ys ++ [y]) σ2 (upd H4 p (.lst (ys ++ [y]))) else N ys σ2 H3)
   (hd:∀ ys σ H,Pv xs.length ys σ H→Q (.ref p) H):jN (Itv K a xs.length) p Q g tc te σ0 H0:=by
 refine ⟨fun i m ys σ H=>m=xs.length - i∧i≤xs.length∧Pv i ys σ H,⟨xs.length,by simp,Nat.zero_le _,h0⟩,?_⟩
 rintro i m ys σ H ⟨rfl,hi,pv⟩
 have q:=hl i ys σ H hi pv
 by_cases hlt:i < xs.length
 · have hx:xs[xs.length - 1 - i]?=some xs[xs.length - 1 - i]:=List.getElem?_eq_getElem (by omega)
   refine .inr ⟨⟨hlt,xs,_,q,hx⟩,fun x H' y=>?_⟩
   obtain ⟨e,y⟩:=y
   subst e
   exact hs i x ys σ _ (fun ys' σ' H'=>∃ m',m' < xs.length - i∧(m'=xs.length - (i + 1)∧i + 1≤xs.length∧Pv (i + 1) ys' σ' H')) (fun ys' σ' H' pv'=>⟨xs.length - (i + 1),by omega,rfl,hlt,pv'⟩) (by rw [List.getElem?_reverse hlt]; exact y xs q) pv
 · have e:i=xs.length:=by omega
   subst e
   exact .inl ⟨Nat.le_refl _,hd ys σ H pv⟩
end L2
set_option Elab.async false
set_option linter.all false
set_option maxRecDepth 100000
namespace Pb
open L2
def After (par:Int→Int):List Int→List Int→Prop
 | _,[]=>True
 | S,c :: t=>par c∈S∧After par (c :: S) t
section
variable {m:Int} {rs:List Road} {r:Int} {par:Int→Int} {dep:Int→Nat}
theorem After.mono:∀ {l S S':List Int},(∀ x∈S,x∈S')→After par S l→After par S' l
 | [],_,_,_,_=>trivial
 | c :: t,S,S',h,a=>⟨h _ a.1,After.mono (fun x hx=>by
     rcases List.mem_cons.mp hx with e | e
     · exact List.mem_cons.mpr (.inl e)
     · exact List.mem_cons_of_mem _ (h x e)) a.2⟩
theorem After.append:∀ {l1 l2 S:List Int},After par S l1→After par S l2→After par S (l1 ++ l2)
 | [],_,_,_,b=>b
 | c :: t,l2,S,a,b=>⟨a.1,After.append a.2 (b.mono fun x hx=>List.mem_cons_of_mem _ hx)⟩
theorem After.up:∀ {A B S:List Int},After par S (A ++ B)→∀ k∈A,par k∈S∨par k∈A
 | [],_,_,_,k,hk=>by cases hk
 | c :: t,B,S,a,k,hk=>by
   rcases List.mem_cons.mp hk with e | e
   · rw [e]; exact .inl a.1
   · rcases After.up (A:=t) (B:=B) a.2 k e with h | h
     · rcases List.mem_cons.mp h with h | h
       · exact .inr (by rw [h]; exact List.mem_cons_self)
       · exact .inl h
     · exact .inr (List.mem_cons_of_mem _ h)
structure Order (m r:Int) (par:Int→Int) (t:List Int):Prop where
 nd:(r :: t).Nodup
 rng:∀ v∈t,0≤v∧v < m
 all:∀ v,0≤v→v < m→v=r∨v∈t
 af:After par [r] t
theorem Order.ne {t:List Int} (O:Order m r par t) {v:Int} (h:v∈t):v≠r:=fun z=>(List.nodup_cons.mp O.nd).1 (z ▸ h)
theorem lS (g:Good m rs) (R:Rooted m rs r par dep):∀ (n:Nat) (v:Int) (S:List Int),0≤v→v < m→par v∈S→After par S (gt m rs r par n v)
 | 0,v,S,_,_,h=>⟨h,trivial⟩
 | n + 1,v,S,h0,h1,h=>by
   refine ⟨h,?_⟩
   have:∀ (ks:List Int) (S:List Int),v∈S→(∀ u∈ks,u∈aY m rs (front r par v) v)→After par S (ks.flatMap (gt m rs r par n)):=by
     intro ks
     induction ks with
     | nil=>intro S _ _; exact trivial
     | cons u ks ih =>
       intro S hv hk
       rw [List.flatMap_cons]
       obtain ⟨w1,w2,w3⟩:=(cQ g R h0 h1).mp (hk u List.mem_cons_self)
       exact (lS g R n u S w1.1 w1.2 (by rw [w3]; exact hv)).append (ih S hv fun x hx=>hk x (List.mem_cons_of_mem _ hx))
   exact this _ _ List.mem_cons_self fun u hu=>hu
theorem mf (g:Good m rs) (R:Rooted m rs r par dep) (r0:0≤r) (r1:r < m) (nd:(cI m rs r par dep r).Nodup) (al:∀ v,v∈cI m rs r par dep r↔0≤v∧v < m):∃ t,cI m rs r par dep r=r :: t∧Order m r par t:=by
 have e:=fU g R r0 r1
 refine ⟨_,e,?_⟩
 rw [e] at nd al
 refine ⟨nd,fun v hv=>(al v).mp (List.mem_cons_of_mem _ hv),fun v h0 h1=>List.mem_cons.mp ((al v).mpr ⟨h0,h1⟩),?_⟩
 have:∀ ks:List Int,(∀ u∈ks,u∈aY m rs (front r par r) r)→After par [r] (ks.flatMap (cI m rs r par dep)):=by
   intro ks
   induction ks with
   | nil=>intro _; exact trivial
   | cons u ks ih =>
     intro hk
     rw [List.flatMap_cons]
     obtain ⟨w1,w2,w3⟩:=(cQ g R r0 r1).mp (hk u List.mem_cons_self)
     exact (lS g R _ u [r] w1.1 w1.2 (by rw [w3]; exact List.mem_cons_self)).append (ih fun x hx=>hk x (List.mem_cons_of_mem _ hx))
 exact this _ fun u hu=>hu
def ji (m:Int) (rs:List Road) (r:Int) (par:Int→Int) (held:Int→Int) (con:Int→Int→Int):Nat→Int→Int
 | 0,v=>held v
 | n + 1,v=>held v + ((aY m rs (front r par v) v).map fun c=>con c (ji m rs r par held con n c)).sum
def gat (m:Int) (rs:List Road) (r:Int) (par:Int→Int) (dep:Int→Nat) (held:Int→Int) (con:Int→Int→Int) (v:Int):Int:=ji m rs r par held con (m.toNat - 1 - dep v) v
variable {held:Int→Int} {con:Int→Int→Int}
theorem kZ (g:Good m rs) (R:Rooted m rs r par dep) {v:Int} (h0:0≤v) (h1:v < m):gat m rs r par dep held con v=held v + ((aY m rs (front r par v) v).map fun c=>con c (gat m rs r par dep held con c)).sum:=by
 have mk:∀ u,u∈aY m rs (front r par v) v→(0≤u∧u < m)∧u≠r∧par u=v:=fun u=>(cQ g R h0 h1).mp
 have du:∀ u∈aY m rs (front r par v) v,dep u=dep v + 1∧dep u + 1≤m.toNat:=fun u hu=>by
   obtain ⟨w1,w2,w3⟩:=mk u hu
   have:=R.pos w1.1 w1.2 w2
   rw [w3] at this
   exact ⟨this,mj R w1.1 w1.2⟩
 unfold gat
 cases e:m.toNat - 1 - dep v with
 | zero =>
   have:aY m rs (front r par v) v=[]:=List.eq_nil_iff_forall_not_mem.mpr fun u hu=>by
     have:=du u hu
     omega
   rw [this]
   simp [ji]
 | succ n =>
   show held v + _=_
   rw [List.map_congr_left fun u hu=>show con u (ji m rs r par held con n u)=con u (ji m rs r par held con (m.toNat - 1 - dep u) u) by rw [show m.toNat - 1 - dep u=n by have:=du u hu; omega]]
theorem ly {l l':List Int} (h:l.Perm l'):l.sum=l'.sum:=by
 induction h with
 | nil=>rfl
 | cons x _ ih=>rw [List.sum_cons,List.sum_cons,ih]
 | swap x y l=>simp only [List.sum_cons]; omega
 | trans _ _ h1 h2=>exact h1.trans h2
def ke (par:Int→Int) (con:Int→Int→Int) (cs:List Int) (v:Int):List Int:=cs.set (par v).toNat (cs.getD (par v).toNat 0 + con v (cs.getD v.toNat 0))
structure Sofar (m:Int) (rs:List Road) (r:Int) (par:Int→Int) (dep:Int→Nat) (held:Int→Int) (con:Int→Int→Int) (t cs:List Int):Prop where
 len:(cs.length:Int)=m
 val:∀ v,0≤v→v < m→cs.getD v.toNat 0=held v + ((t.filter fun c=>decide (par c=v)).map fun c=>con c (gat m rs r par dep held con c)).sum
theorem Sofar.nil {hs:List Int} (h:(hs.length:Int)=m):Sofar m rs r par dep (fun v=>hs.getD v.toNat 0) con [] hs:=⟨h,fun v _ _=>by simp⟩
theorem im (g:Good m rs) (R:Rooted m rs r par dep) {t:List Int} (nd:t.Nodup) (tr:∀ x∈t,(0≤x∧x < m)∧x≠r) {v:Int} (h0:0≤v) (h1:v < m) (hk:∀ k,0≤k→k < m→k≠r→par k=v→k∈t):(t.filter fun c=>decide (par c=v)).Perm (aY m rs (front r par v) v):=by
 refine eC (nd.filter _) i9 fun x=>?_
 rw [List.mem_filter,cQ g R h0 h1,decide_eq_true_eq]
 exact ⟨fun h=>⟨(tr x h.1).1,(tr x h.1).2,h.2⟩,fun h=>⟨hk x h.1.1 h.1.2 h.2.1 h.2.2,h.2.2⟩⟩
theorem Sofar.full (g:Good m rs) (R:Rooted m rs r par dep) {t cs:List Int} (s:Sofar m rs r par dep held con t cs) (nd:t.Nodup) (tr:∀ x∈t,(0≤x∧x < m)∧x≠r) {v:Int} (h0:0≤v) (h1:v < m) (hk:∀ k,0≤k→k < m→k≠r→par k=v→k∈t):cs.getD v.toNat 0=gat m rs r par dep held con v:=by
 rw [s.val v h0 h1,kZ g R h0 h1,ly ((im g R nd tr h0 h1 hk).map _)]
theorem Sofar.step (g:Good m rs) (R:Rooted m rs r par dep) {t cs:List Int} (s:Sofar m rs r par dep held con t cs) {v:Int} (h0:0≤v) (h1:v < m) (hr:v≠r) (e:cs.getD v.toNat 0=gat m rs r par dep held con v):Sofar m rs r par dep held con (v :: t) (ke par con cs v) where
 len:=by unfold ke; rw [List.length_set]; exact s.len
 val:=fun u u0 u1=>by
   have pu:=(R.up v h0 h1 hr).1
   have sl:=s.len
   have vu:=s.val u u0 u1
   unfold ke
   rw [e]
   by_cases c:par v=u
   · have hl:u.toNat < cs.length:=by omega
     rw [List.filter_cons_of_pos (by simpa using c),List.map_cons,List.sum_cons,c]
     rw [show (cs.set u.toNat (cs.getD u.toNat 0 + con v (gat m rs r par dep held con v))).getD u.toNat 0=cs.getD u.toNat 0 + con v (gat m rs r par dep held con v) by simp [List.getD,hl],vu]
     omega
   · rw [List.filter_cons_of_neg (by simpa using c),← vu]
     have:(par v).toNat≠u.toNat:=by omega
     simp [List.getD,List.getElem?_set_ne this]
theorem Order.places {t:List Int} (O:Order m r par t):∀ x∈t,(0≤x∧x < m)∧x≠r:=fun x hx=>⟨O.rng x hx,O.ne hx⟩
theorem Order.turn (g:Good m rs) (R:Rooted m rs r par dep) {t cs:List Int} (O:Order m r par t) {i:Nat} {v:Int} (s:Sofar m rs r par dep held con (t.drop (t.length - i)) cs) (hv:t.reverse[i]?=some v) :
   ((0≤v∧v < m)∧v≠r)∧cs.getD v.toNat 0=gat m rs r par dep held con v∧Sofar m rs r par dep held con (t.drop (t.length - (i + 1))) (ke par con cs v):=by
 have hi:i < t.length:=by
   have:=(List.getElem?_eq_some_iff.mp hv).1
   rwa [List.length_reverse] at this
 rw [List.getElem?_reverse hi] at hv
 generalize hj:t.length - 1 - i=j at hv
 have ej:t.length - i=j + 1:=by omega
 have ej':t.length - (i + 1)=j:=by omega
 rw [ej] at s
 rw [ej']
 have hjl:j < t.length:=by omega
 have vm:v∈t:=List.mem_of_getElem? hv
 have vp:=O.places v vm
 have ed:t.drop j=v :: t.drop (j + 1):=by
   rw [List.drop_eq_getElem_cons hjl]
   rw [List.getElem?_eq_getElem hjl] at hv
   cases hv
   rfl
 have es:t=t.take j ++ v :: t.drop (j + 1):=by rw [← ed,List.take_append_drop]
 have ndt:=(List.nodup_cons.mp O.nd).2
 have nd2:=ndt
 rw [es] at nd2
 have av:v ∉ t.take j:=fun z=>(List.nodup_append.mp nd2).2.2 v z v List.mem_cons_self rfl
 have e:=s.full g R (ndt.sublist (List.drop_sublist _ _)) (fun x hx=>O.places x (List.mem_of_mem_drop hx)) vp.1.1 vp.1.2 fun k k0 k1 kr pk=>by
   rcases O.all k k0 k1 with z | z
   · exact absurd z kr
   · rw [es] at z
     rcases List.mem_append.mp z with z | z
     · have af:=O.af
       rw [es] at af
       rcases af.up k z with w | w
       · rw [pk] at w
         exact absurd (List.mem_singleton.mp w) vp.2
       · rw [pk] at w
         exact absurd w av
     · rcases List.mem_cons.mp z with z | z
       · subst z
         exact absurd pk (R.ne k0 k1 kr)
       · exact z
 exact ⟨vp,e,by rw [ed]; exact s.step g R vp.1.1 vp.1.2 vp.2 e⟩
def iW (m:Int) (rs:List Road) (r:Int) (par:Int→Int) (dep:Int→Nat) (held:Int→Int) (con:Int→Int→Int):List Int:=(below m.toNat).map (gat m rs r par dep held con)
theorem pO {v:Int} (h0:0≤v) (h1:v < m):(iW m rs r par dep held con).getD v.toNat 0=gat m rs r par dep held con v:=by
 unfold iW
 rw [List.getD,List.getElem?_map,eR (by omega),Int.toNat_of_nonneg h0]
 rfl
theorem Order.done (g:Good m rs) (R:Rooted m rs r par dep) {t cs:List Int} (O:Order m r par t) (s:Sofar m rs r par dep held con t cs):cs=iW m rs r par dep held con:=by
 have sl:=s.len
 refine List.ext_getElem? fun i=>?_
 by_cases h:i < m.toNat
 · have hc:i < cs.length:=by omega
   have e:=s.full g R (List.nodup_cons.mp O.nd).2 O.places (v:=(i:Int)) (by omega) (by omega) fun k k0 k1 kr pk=>(O.all k k0 k1).resolve_left kr
   unfold iW
   rw [List.getElem?_map,eR h]
   rw [Int.toNat_natCast,List.getD,List.getElem?_eq_getElem hc] at e
   rw [List.getElem?_eq_getElem hc]
   exact congrArg some e
 · unfold iW
   rw [List.getElem?_eq_none (by omega),List.getElem?_eq_none (by rw [List.length_map,aK]; omega)]
def giv (rs:List Road) (par:Int→Int) (v x:Int):Int:=x / (bD rs v (par v)).getD 1
theorem Rooted.adj (R:Rooted m rs r par dep) {a b:Int} (h:Adj rs a b):(b≠r∧par b=a)∨(a≠r∧par a=b):=by
 obtain ⟨x,hx,j⟩:=h
 have:=R.road x hx
 rcases j with ⟨e1,e2⟩ | ⟨e1,e2⟩
 · subst e1; subst e2
   exact this.symm
 · subst e1; subst e2
   exact this
end
end Pb
set_option Elab.async false
set_option linter.all false
set_option maxRecDepth 100000
namespace Pb
open L2
section
variable {m:Int} {rs:List Road} {r:Int} {par:Int→Int} {dep:Int→Nat} {held:Int→Int}
theorem Order.kids (R:Rooted m rs r par dep) {tl P S:List Int} {v:Int} (O:Order m r par tl) (es:tl=P ++ v :: S):∀ k,0≤k→k < m→k≠r→par k=v→k∈S:=by
 intro k k0 k1 kr pk
 have vm:v∈tl:=by rw [es]; simp
 have vp:=O.places v vm
 have nd2:=(List.nodup_cons.mp O.nd).2
 rw [es] at nd2
 have av:v ∉ P:=fun z=>(List.nodup_append.mp nd2).2.2 v z v List.mem_cons_self rfl
 rcases O.all k k0 k1 with z | z
 · exact absurd z kr
 · rw [es] at z
   rcases List.mem_append.mp z with z | z
   · have af:=O.af
     rw [es] at af
     rcases af.up k z with w | w
     · rw [pk] at w
       exact absurd (List.mem_singleton.mp w) vp.2
     · rw [pk] at w
       exact absurd w av
   · rcases List.mem_cons.mp z with z | z
     · subst z
       exact absurd pk (R.ne k0 k1 kr)
     · exact z
def tol (rs:List Road) (par:Int→Int) (v:Int):Int:=(bD rs v (par v)).getD 1
def tms (m:Int) (rs:List Road) (r:Int) (par:Int→Int) (dep:Int→Nat) (held:Int→Int) (v:Int):Int:=giv rs par v (gat m rs r par dep held (giv rs par) v)
theorem rR (hz:∀ v,0≤held v) (hc:∀ v x,0≤x→0≤giv rs par v x):∀ (n:Nat) (v:Int),0≤ji m rs r par held (giv rs par) n v
 | 0,v=>hz v
 | n + 1,v=>by
   show 0≤held v + _
   have:∀ l:List Int,0≤(l.map fun c=>giv rs par c (ji m rs r par held (giv rs par) n c)).sum:=by
     intro l
     induction l with
     | nil=>exact Int.le_refl _
     | cons c l ih =>
       rw [List.map_cons,List.sum_cons]
       have:=hc c _ (rR hz hc n c)
       omega
   have h1:=this (aY m rs (front r par v) v)
   have h2:=hz v
   omega
theorem uL (g:Good m rs) (v x:Int) (h:0≤x):0≤giv rs par v x:=by
 unfold giv
 refine Int.ediv_nonneg h ?_
 cases e:bD rs v (par v) with
 | none=>decide
 | some k =>
   have ad:=toll_adj.mp (show (bD rs v (par v)).isSome=true by rw [e]; rfl)
   obtain ⟨x,hx,j⟩:=ad
   obtain ⟨i,hi⟩:=List.getElem?_of_mem hx
   have ok:=g.ok x hx
   rw [ge g hi (by rcases j with ⟨a,b⟩ | ⟨a,b⟩; exact .inl ⟨a,b⟩; exact .inr ⟨a,b⟩)] at e
   unfold cY at e
   have t0:=ok.t0
   have u0:=ok.u0
   show 0≤k
   split at e
   · cases e; omega
   · split at e
     · cases e; omega
     · cases e
theorem qQ (g:Good m rs) (hz:∀ v,0≤held v) (v:Int):0≤gat m rs r par dep held (giv rs par) v:=rR hz (uL g) _ _
theorem Cj (g:Good m rs) (hz:∀ v,0≤held v) (v:Int):0≤tms m rs r par dep held v:=uL g _ _ (qQ g hz v)
theorem nO (f:Int→Int) (p:Int→Bool) (v:Int) (t:List Int):(((v :: t).filter p).map f).sum=(if p v=true then f v else 0) + ((t.filter p).map f).sum:=by
 by_cases c:p v=true
 · rw [List.filter_cons_of_pos c,List.map_cons,List.sum_cons,if_pos c]
 · rw [List.filter_cons_of_neg c,if_neg c,Int.zero_add]
structure Walkd (m:Int) (rs:List Road) (r:Int) (par:Int→Int) (dep:Int→Nat) (held:Int→Int) (t now:List Int):Prop where
 len:(now.length:Int)=m
 val:∀ v,0≤v→v < m→now.getD v.toNat 0=held v + ((t.filter fun c=>decide (par c=v)).map (tms m rs r par dep held)).sum - (if v∈t then tms m rs r par dep held v * tol rs par v else 0)
theorem Walkd.nil {hs:List Int} (h:(hs.length:Int)=m):Walkd m rs r par dep (fun v=>hs.getD v.toNat 0) [] hs:=⟨h,fun v _ _=>by simp⟩
theorem Walkd.skip {t now:List Int} (w:Walkd m rs r par dep held t now) {v:Int} (h:tms m rs r par dep held v=0):Walkd m rs r par dep held (v :: t) now where
 len:=w.len
 val:=fun u u0 u1=>by
   rw [w.val u u0 u1,nO]
   have e1:(if (fun c=>decide (par c=u)) v=true then tms m rs r par dep held v else 0)=0:=by
     rw [h]; exact ite_self _
   have e2:(if u∈v :: t then tms m rs r par dep held u * tol rs par u else 0)=if u∈t then tms m rs r par dep held u * tol rs par u else 0:=by
     by_cases c:u=v
     · subst c
       rw [h,Int.zero_mul,ite_self,ite_self]
     · by_cases d:u∈t
       · rw [if_pos d,if_pos (List.mem_cons_of_mem _ d)]
       · rw [if_neg d,if_neg (fun z=>by rcases List.mem_cons.mp z with z | z; exact c z; exact d z)]
   rw [e1,e2,Int.zero_add]
theorem Walkd.own (g:Good m rs) (R:Rooted m rs r par dep) {t now:List Int} (w:Walkd m rs r par dep held t now) {v:Int} (h0:0≤v) (h1:v < m) (nd:t.Nodup) (tr:∀ x∈t,(0≤x∧x < m)∧x≠r) (vt:v ∉ t) (hk:∀ k,0≤k→k < m→k≠r→par k=v→k∈t):now.getD v.toNat 0=gat m rs r par dep held (giv rs par) v:=by
 rw [w.val v h0 h1,if_neg vt,Int.sub_zero,kZ g R h0 h1,ly ((im g R nd tr h0 h1 hk).map (tms m rs r par dep held))]
 rfl
def py (rs:List Road) (par:Int→Int) (k:Int) (now:List Int) (v:Int):List Int :=
 (now.set v.toNat (now.getD v.toNat 0 - k * tol rs par v)).set (par v).toNat ((now.set v.toNat (now.getD v.toNat 0 - k * tol rs par v)).getD (par v).toNat 0 + k)
theorem cV (l:List Int) (i j:Nat) (x:Int) (h:i < l.length):(l.set i x).getD j 0=if i=j then x else l.getD j 0:=by
 by_cases c:i=j
 · subst c
   rw [if_pos rfl]
   simp [List.getD,h]
 · rw [if_neg c]
   simp [List.getD,List.getElem?_set_ne c]
theorem Walkd.step (R:Rooted m rs r par dep) {t now:List Int} (w:Walkd m rs r par dep held t now) {v:Int} (h0:0≤v) (h1:v < m) (hr:v≠r) (vt:v ∉ t):Walkd m rs r par dep held (v :: t) (py rs par (tms m rs r par dep held v) now v) where
 len:=by unfold py; rw [List.length_set,List.length_set]; exact w.len
 val:=fun u u0 u1=>by
   have pu:=(R.up v h0 h1 hr).1
   have ne:=R.ne h0 h1 hr
   have sl:=w.len
   have vu:=w.val u u0 u1
   have vv:=w.val v h0 h1
   unfold py
   rw [cV _ _ _ _ (by rw [List.length_set]; omega),cV _ _ _ _ (by omega),cV _ _ _ _ (by omega),nO]
   rw [if_neg (show ¬ v.toNat=(par v).toNat by omega)]
   by_cases c:u=v
   · subst c
     rw [if_neg (show ¬ (par u).toNat=u.toNat by omega),if_pos rfl,if_pos List.mem_cons_self,if_neg (show ¬ (fun c=>decide (par c=u)) u=true by simpa using ne),Int.zero_add]
     rw [if_neg vt,Int.sub_zero] at vv
     rw [vv]
   · have e2:(if u∈v :: t then tms m rs r par dep held u * tol rs par u else 0)=if u∈t then tms m rs r par dep held u * tol rs par u else 0:=by
       by_cases d:u∈t
       · rw [if_pos d,if_pos (List.mem_cons_of_mem _ d)]
       · rw [if_neg d,if_neg (fun z=>by rcases List.mem_cons.mp z with z | z; exact c z; exact d z)]
     rw [e2]
     by_cases d:par v=u
     · subst d
       rw [if_pos rfl,if_pos (show (fun c=>decide (par c=par v)) v=true by simp),vu]
       omega
     · rw [if_neg (show ¬ (par v).toNat=u.toNat by omega),if_neg (show ¬ v.toNat=u.toNat by omega),if_neg (show ¬ (fun c=>decide (par c=u)) v=true by simpa using d),Int.zero_add,vu]
theorem Bg (g:Good m rs) (R:Rooted m rs r par dep) (hz:∀ v,0≤held v) {v:Int} (h0:0≤v) (h1:v < m) (hr:v≠r):tms m rs r par dep held v * tol rs par v≤gat m rs r par dep held (giv rs par) v:=by
 obtain ⟨k,hk,k0,k1⟩:=kg g R h0 h1 hr
 unfold tms giv tol
 rw [hk]
 exact Int.ediv_mul_le _ (by show k≠0; omega)
def aO (m:Int) (rs:List Road) (r:Int) (par:Int→Int) (dep:Int→Nat) (held:Int→Int) (l:List Int):List Int:=l.filter fun v=>decide (0 < tms m rs r par dep held v)
theorem sJ {l:List Int} {v:Int} (c:0 < tms m rs r par dep held v):aO m rs r par dep held (l ++ [v])=aO m rs r par dep held l ++ [v]:=by
 unfold aO
 rw [List.filter_append]
 congr 1
 exact List.filter_cons_of_pos (l:=[]) (decide_eq_true c)
theorem ui {l:List Int} {v:Int} (c:¬ 0 < tms m rs r par dep held v):aO m rs r par dep held (l ++ [v])=aO m rs r par dep held l:=by
 unfold aO
 rw [List.filter_append]
 have:[v].filter (fun v=>decide (0 < tms m rs r par dep held v))=[]:=List.filter_cons_of_neg (l:=[]) (fun z=>c (of_decide_eq_true z))
 rw [this,List.append_nil]
structure Onway (m:Int) (rs:List Road) (r:Int) (par:Int→Int) (dep:Int→Nat) (held:Int→Int) (tl:List Int) (i:Nat) (now:List Int):Prop where
 ex:∃ A B,tl.reverse=A ++ B∧aO m rs r par dep held A=(aO m rs r par dep held tl.reverse).take i∧aO m rs r par dep held B=(aO m rs r par dep held tl.reverse).drop i∧Walkd m rs r par dep held A.reverse now
theorem pw (g:Good m rs) (hz:∀ v,0≤held v) {now:List Int}:∀ {B t:List Int},(∀ x∈B,¬ decide (0 < tms m rs r par dep held x)=true)→Walkd m rs r par dep held t now→Walkd m rs r par dep held (B.reverse ++ t) now
 | [],t,_,w=>w
 | b :: B,t,h,w=>by
   rw [List.reverse_cons,List.append_assoc]
   have h1:=h b List.mem_cons_self
   have h2:=Cj (dep:=dep) (r:=r) (par:=par) g hz b
   exact pw g hz (fun x hx=>h x (List.mem_cons_of_mem _ hx)) (w.skip (v:=b) (by simp at h1; omega))
theorem Onway.start {hs:List Int} {tl:List Int} (h:(hs.length:Int)=m):Onway m rs r par dep (fun v=>hs.getD v.toNat 0) tl 0 hs:=⟨[],tl.reverse,rfl,rfl,rfl,Walkd.nil h⟩
theorem Onway.turn (g:Good m rs) (R:Rooted m rs r par dep) (hz:∀ v,0≤held v) {tl now:List Int} (O:Order m r par tl) {i:Nat} (w:Onway m rs r par dep held tl i now) {v:Int} (hv:(aO m rs r par dep held tl.reverse)[i]?=some v) :
   ((0≤v∧v < m)∧v≠r)∧0 < tms m rs r par dep held v∧now.getD v.toNat 0=gat m rs r par dep held (giv rs par) v∧(now.length:Int)=m∧Onway m rs r par dep held tl (i + 1) (py rs par (tms m rs r par dep held v) now v):=by
 obtain ⟨A,B,e,fa,fb,w⟩:=w.ex
 have hi:=(List.getElem?_eq_some_iff.mp hv).1
 have hd:(aO m rs r par dep held tl.reverse).drop i=v :: (aO m rs r par dep held tl.reverse).drop (i + 1):=by
   rw [List.drop_eq_getElem_cons hi]
   rw [List.getElem?_eq_getElem hi] at hv
   cases hv
   rfl
 rw [hd] at fb
 obtain ⟨B1,B2,eb,n1,pv,fb2⟩:=List.filter_eq_cons_iff.mp fb
 have w1:=pw g hz n1 w
 rw [← List.reverse_append] at w1
 have es:tl=B2.reverse ++ v :: (A ++ B1).reverse:=by
   have:=congrArg List.reverse e
   rw [List.reverse_reverse,eb] at this
   rw [this]
   simp
 have vm:v∈tl:=by rw [es]; simp
 have vp:=O.places v vm
 have nd2:=(List.nodup_cons.mp O.nd).2
 have nd3:=nd2
 rw [es] at nd3
 have nd4:=List.nodup_cons.mp (List.nodup_append.mp nd3).2.1
 have sub:∀ x∈(A ++ B1).reverse,x∈tl:=fun x hx=>by rw [es]; exact List.mem_append_right _ (List.mem_cons_of_mem _ hx)
 have own:=w1.own g R vp.1.1 vp.1.2 nd4.2 (fun x hx=>O.places x (sub x hx)) nd4.1 (O.kids R es)
 refine ⟨vp,of_decide_eq_true pv,own,w1.len,A ++ B1 ++ [v],B2,by rw [e,eb]; simp,?_,fb2,?_⟩
 · have f1:aO m rs r par dep held B1=[]:=List.filter_eq_nil_iff.mpr n1
   have f0:aO m rs r par dep held (A ++ B1 ++ [v])=aO m rs r par dep held A ++ aO m rs r par dep held B1 ++ aO m rs r par dep held [v]:=by
     unfold aO
     rw [List.filter_append,List.filter_append]
   have f2:aO m rs r par dep held [v]=[v]:=List.filter_cons_of_pos (l:=[]) pv
   rw [f0,f1,f2,List.append_nil,fa,List.take_succ,hv]
   rfl
 · have:=w1.step R vp.1.1 vp.1.2 vp.2 nd4.1
   rw [show (A ++ B1 ++ [v]).reverse=v :: (A ++ B1).reverse by simp]
   exact this
theorem Onway.done (g:Good m rs) (R:Rooted m rs r par dep) (hz:∀ v,0≤held v) (r0:0≤r) (r1:r < m) {tl now:List Int} (O:Order m r par tl) (w:Onway m rs r par dep held tl (aO m rs r par dep held tl.reverse).length now):now.getD r.toNat 0=gat m rs r par dep held (giv rs par) r∧(now.length:Int)=m:=by
 obtain ⟨A,B,e,fa,fb,w⟩:=w.ex
 rw [List.drop_length] at fb
 have w1:=pw g hz (List.filter_eq_nil_iff.mp fb) w
 have es:tl=B.reverse ++ A.reverse:=by
   have:=congrArg List.reverse e
   rw [List.reverse_reverse,List.reverse_append] at this
   exact this
 rw [← es] at w1
 have nd:=List.nodup_cons.mp O.nd
 exact ⟨w1.own g R r0 r1 nd.2 O.places nd.1 fun k k0 k1 kr _=>(O.all k k0 k1).resolve_left kr,w1.len⟩
end
section
open PySem
def tf (m:Int) (rs:List Road) (r:Int) (par:Int→Int) (dep:Int→Nat) (held:Int→Int) (v:Int):List V:=[.int v,.int (par v),.int (tms m rs r par dep held v)]
abbrev BringAt (H:Hp) (m:Int) (rs:List Road) (r:Int) (par:Int→Int) (dep:Int→Nat) (held:Int→Int):List Addr→List Int→Prop:=Paired fun q v=>H q=some (.tup (tf m rs r par dep held v))
theorem BringAt.snoc {H:Hp} {m:Int} {rs:List Road} {r:Int} {par:Int→Int} {dep:Int→Nat} {held:Int→Int} {q:Addr} {v:Int} (e:H q=some (.tup (tf m rs r par dep held v))):∀ {qs:List Addr} {vs:List Int},BringAt H m rs r par dep held qs vs→BringAt H m rs r par dep held (qs ++ [q]) (vs ++ [v])
 | _,_,.nil=>.cons e .nil
 | _,_,.cons x xs=>.cons x (BringAt.snoc e xs)
end
end Pb
set_option Elab.async false
set_option linter.all false
set_option maxRecDepth 100000
namespace L2
open PySem PySem.Spec PyProof.Rows
end L2
set_option Elab.async false
set_option linter.all false
set_option maxRecDepth 100000
namespace L2
open PySem PySem.Spec PyProof.Rows
def CH (lo st:Int) (n:Nat):It:=⟨fun i _=>i < n,fun i H x H'=>H'=H∧x=.int (lo + i * st),fun i _=>n≤i⟩
def zI (ta:TA):TI:=fun σ H R=>ta σ H fun vs H1=>∃ i j c:Int,vs=[.int i,.int j,.int c]∧(0≤i∧i≤1000000∧0≤j∧j≤1000000∧0 < c∧c≤1000000)∧R (CH i c (Builtin.Range.rangeSize i j c).toNat) H1
section
variable {X:Cx} {tg:Expr}
end
end L2
set_option Elab.async false
set_option linter.all false
set_option maxRecDepth 100000
namespace L2
open PySem PySem.Spec PyProof.Rows
theorem eI {K:PySem.W.Frag} {H:Hp} {p:Addr} {xs:List V} {i:Int} {v:V} {Q:VK} (h:SqT K H p xs) (e:atI xs i=some v) (q:Q v H):ud K (.ref p) (.int i) H Q:=⟨p,xs,i,v,rfl,rfl,h,e,q⟩
end L2
namespace Pb
open L2 PySem
theorem rV {α β:Type} {R:α→β→Prop}:∀ (n:Nat) {l₁:List α} {l₂:List β},Paired R l₁ l₂→Paired R (l₁.take n) (l₂.take n)
 | 0,_,_,_=>by rw [List.take_zero,List.take_zero]; exact .nil
 | _ + 1,_,_,.nil=>.nil
 | n + 1,_,_,.cons x xs=>.cons x (rV n xs)
theorem rN {α β:Type} {R:α→β→Prop}:∀ (n:Nat) {l₁:List α} {l₂:List β},Paired R l₁ l₂→Paired R (l₁.drop n) (l₂.drop n)
 | 0,_,_,h=>h
 | _ + 1,_,_,.nil=>.nil
 | n + 1,_,_,.cons x xs=>rN n xs
theorem pQ {α β:Type} {R:α→β→Prop} {k₁:List α} {k₂:List β} (h:Paired R k₁ k₂):∀ {l₁:List α} {l₂:List β},Paired R l₁ l₂→Paired R (l₁ ++ k₁) (l₂ ++ k₂)
 | _,_,.nil=>h
 | _,_,.cons x xs=>.cons x (pQ h xs)
theorem Ch {α β:Type} {R:α→β→Prop} {ps:List α} {rs:List β} {q:α} {r:β} (n:Nat) (h:Paired R ps rs) (e:R q r):Paired R (ps.take n ++ q :: ps.drop n) (rs.take n ++ r :: rs.drop n):=pQ (.cons e (rN n h)) (rV n h)
theorem qU (n:Nat):Labels n (below n):=⟨aK n,b7 n,fun v h0 h1=>mem_below.mpr ⟨h0,h1⟩,fun v h=>mem_below.mp h⟩
theorem mz {n:Nat} {v:Int} (h0:0≤v) (h1:v < n):(below n).getD v.toNat 0=v:=by
 rw [List.getD,eR (by omega),Int.toNat_of_nonneg h0]
 rfl
theorem uE {n:Nat} {rows:List Row} {row:Row} (R:Rows n rows) (k:row.k=(n:Int) + 1) (ok:RowOk row):Rows (n + 1) (rows ++ [row]):=by
 have rl:=R.len
 refine ⟨by rw [List.length_append,rl]; rfl,fun j r hj=>?_⟩
 by_cases hjl:j < rows.length
 · rw [List.getElem?_append_left hjl] at hj
   exact R.ok j r hj
 · have hj2:j=rows.length:=by
     have:=(List.getElem?_eq_some_iff.mp hj).1
     rw [List.length_append] at this
     simp at this
     omega
   rw [hj2,List.getElem?_append_right (Nat.le_refl _),Nat.sub_self] at hj
   cases hj
   exact ⟨by rw [hj2,rl]; exact k,ok⟩
section
variable {m:Int} {rs:List Road} {r:Int} {par:Int→Int} {dep:Int→Nat}
theorem jc (i:Nat):below (i + 1)=below i ++ [(i:Int)]:=by
 unfold below
 rw [List.range_succ,List.map_append]
 rfl
end
end Pb
set_option Elab.async false
set_option linter.all false
set_option maxRecDepth 100000
namespace L2
open PySem PySem.Spec PyProof.Rows
theorem pT {P:Program} {w:World} {A:Around} {l:Addr} (c:Bool) {it:Addr} (hh:A.handled=none) (ne:l≠it) (its:Array Value):Draws P w A it [it,l] its.size (fun i v=>its[i]?=some v) (fun i h=>zAt l c it i h∧sO l c h its) where
 live:=fun i h st=>let ⟨o,e,_⟩:=(cL l c P w).obj _ _ _ st.1; ⟨o,e⟩
 frame:=fun i h h' st k=>⟨(cL l c P w).atK _ _ _ _ st.1 fun o e=>k it (by simp) o e,(cL l c P w).srcK _ _ _ st.2 fun o e=>k l (by simp) o e⟩
 item:=fun i s Q E hi st hq=>(cL l c P w).item A s it i its its[i] Q E st.1 st.2 (by simp [hi]) fun h' at' sb=>hq its[i] h' s.toks (by simp [hi]) ⟨at',(cL l c P w).srcK _ _ _ st.2 fun o e=>sb.extBut _ _ ne e⟩ sb
 done:=fun s Q E st hq=>(cL l c P w).fin A s it its.size its Q E hh st.1 st.2 (by simp) fun h' e eb he=>hq h' e eb he
section
variable {P:Program} {w:World} {A:Around} {E:Value→Shared→Prop} {s:Shared} {l:Addr} {ob:Obj} {src:Heap→Array Value→Prop} {at':Addr→Nat→Heap→Prop}
abbrev o8 (n:Nat):Obj:={ cls:=.type "enumerate",data:=.fields #[.none,.bool false,.ref n,rawInt 0,.none,.none] }
theorem nI (S:∀ P w,SubF P w l ob src at') (xs:Array Value) :
   Meets (Builtin.«enumerate.__new__» ⟨[.type "enumerate",.ref l],[]⟩) (fun _ R s=>src s.heap xs∧R (.ok (.ret (.ref (s.heap.push ob).objs.size))) { s with heap:=(s.heap.push ob).push (o8 s.heap.objs.size) }) :=
 .of_wp fun prog w A R s hyp=>by
   obtain ⟨hp,g,d,tk,os⟩:=s
   obtain ⟨q1,r⟩:=hyp
   have zsub:=sub_enumerate
   have B1:src (Shared.heap ⟨hp,g,d,tk,os⟩) xs:=q1
   wp_walk using ((S prog w).start _ _ _ _ _ B1)
   refine wpAny_stack_any fun st=>?_
   dsimp only
   refine wpAny_pure ?_
   have go:∀ b:Bool,b=true∨b=false:=fun b=>by cases b <;> simp
   split
   · rename_i c _ _ _ _ _
     rcases go (c == Value.type "enumerate") with z | z
     · rw [z]
       wp_walk using ((S prog w).start _ _ _ _ _ B1)
       exact ⟨_,rfl,r⟩
     · rw [z]
       wp_walk using ((S prog w).start _ _ _ _ _ B1)
       exact ⟨_,rfl,r⟩
   · wp_walk using ((S prog w).start _ _ _ _ _ B1)
     exact ⟨_,rfl,r⟩
theorem vI (S:∀ P w,SubF P w l ob src at') {xs:Array Value} {Q:Value→Shared→Prop} (q1:src s.heap xs) (f1:ob.isFreed=false)
   (h:∀ h',IsEnum h' (s.heap.objs.size + 1) s.heap.objs.size 0 .none→at' s.heap.objs.size 0 h'→(∀ c o,s.heap.get? c=some o→h'.get? c=some o)→Q (.ref (s.heap.objs.size + 1)) { s with heap:=h' }) :
   wpAny (model P w) A (call (.type "enumerate") [.ref l]) Q E s:=by
 refine callType_new F.called_enumerate (by decide) (F.typeCall_enumerate_1 _) (F.newCall_enumerate_1 _) (fun obj=>F.args_object_init_2 obj _) F.entry_enumerate_new (nI S xs) ⟨q1,?_⟩
 have n0:(s.heap.push ob).objs.size=s.heap.objs.size + 1:=Heap.size_push ..
 have c2:((s.heap.push ob).push (o8 s.heap.objs.size)).get? (s.heap.push ob).objs.size=some (o8 s.heap.objs.size):=Heap.get?_push_size _ rfl
 have c1:((s.heap.push ob).push (o8 s.heap.objs.size)).get? s.heap.objs.size=some ob:=Heap.get?_push_of_some _ (Heap.get?_push_size _ f1)
 show _∧_
 rw [n0] at c2
 rw [n0]
 exact ⟨⟨_,c2,rfl⟩,h _ c2 ((S P w).first _ _ c1) fun c o e=>Heap.get?_push_of_some _ (Heap.get?_push_of_some _ e)⟩
end
def Ite (K:PySem.W.Frag) (c:Bool) (a:Addr):It :=
 ⟨fun i H=>∃ xs x,SqX K c H a xs∧xs[i]?=some x,
  fun i H v H'=>∃ p x,H p=none∧v=.ref p∧H'=upd H p (.tup [.int i,x])∧∀ xs,SqX K c H a xs→xs[i]?=some x,
  fun i H=>∃ xs,SqX K c H a xs∧xs.length=i⟩
theorem vo {P:Program} {w:World} {K:PySem.W.Frag} {elts:List Expr} {x1} {tpos:Pos} (c:Bool) (a e it:Addr) (ne:e≠it) (ae:a≠e) (ai:a≠it) :
   Turn P w K (.Tuple elts x1 tpos) (Ite K c a) [e,it] e (fun i h=>(∃ old,IsEnum h e it (i:Nat) old)∧zAt a c it i h) where
 mem:=by simp
 obj:=fun i h t b hb=>by
   obtain ⟨⟨old,t1⟩,t2⟩:=t
   simp only [List.mem_cons,List.mem_nil_iff,or_false] at hb
   rcases hb with rfl | rfl
   · exact ⟨_,t1,fun v z=>by cases z⟩
   · exact (cL a c P w).obj _ _ _ t2
 keep:=fun i h h' t k=>by
   obtain ⟨⟨old,t1⟩,t2⟩:=t
   exact ⟨⟨old,k e (by simp) _ t1⟩,(cL a c P w).atK _ _ _ _ t2 fun o e=>k it (by simp) o e⟩
 item:=fun X e1 e2 e3 hc i pins s σ H E I f t g=>by
   subst e1 e2 e3
   obtain ⟨⟨old,t1⟩,t2⟩:=t
   obtain ⟨xs,x,s1,hx⟩:=g
   obtain ⟨us,r1,q1⟩:=I.sqX s1
   obtain ⟨xu,hxu,rx⟩:=r1.get hx
   have hh:X.A.in1.handled=none:=I.ok.hd hc
   have fz:∀ q∈[e,it],eE X pins H q:=f
   have W:=WalksT.enumerateD (A:=X.A) (pT (P:=X.prog) (w:=X.w) (A:=X.A.in1) (l:=a) c (it:=it) hh ai us.toArray) e ne (by simp; exact ⟨ne,ae.symm⟩) (by simp)
   have hil:i < us.toArray.size:=by
     have:=(List.getElem?_eq_some_iff.mp hxu).1
     simpa using this
   refine W.item i s _ _ hil ⟨⟨old,t1⟩,t2,q1⟩ fun T vals h' tk pt le tup mid keep=>?_
   refine ⟨_,rfl,W.go elts x1 tpos i T { s with heap:=h',toks:=tk } _ _ mid fun h2 st2 keep2=>?_⟩
   obtain ⟨tt,xv,px,ev⟩:=pt
   have exv:xv=xu:=by
     have h1:us[i]?=some xv:=by simpa using px
     rw [hxu] at h1
     cases h1
     rfl
   subst exv
   have Tw:T ∉ [e,it]:=W.apart i T h' mid
   have kp:∀ q o,q ∉ [e,it]→s.heap.get? q=some o→h2.get? q=some o:=fun q o hq eo=>keep2 q o hq (keep q o hq eo)
   obtain ⟨ot,ht,hct,nt,hdt⟩:=tup
   have new:h2.get? T=some ot:=keep2 T ot Tw ht
   have Hn:∀ q u,H q=some u→q ∉ [e,it]:=fun q u e hq=>by rw [(fz q hq).1] at e; cases e
   have nH:H T=none:=I.hok.fresh le
   have Tb:∀ q o,s.heap.get? q=some o→q≠T:=fun q o eo=>Nat.ne_of_lt (Nat.lt_of_lt_of_le (Heap.lt_size eo) le)
   have I2:Inv X pins σ H { s with heap:=h2,toks:=tk }:=by
     refine I.step (g':=s.gens) (d':=s.drawn) (t':=tk) (ch:=[e,it]) (fun q hq=>⟨(fz q hq).2.2.2.1,(fz q hq).2.1,(fz q hq).2.2.2.2.1,(fz q hq).2.2.2.2.2⟩) (fun q o _ _ hq e _=>kp q o hq e) (fun q o _ _ hq e _=>⟨o.slots,kp q o hq e⟩) (fun _ _ _ _ n=>n)
       (fun q o hq e=>⟨o,kp q o hq e⟩) (fun _ _ e=>e) (fun _ _ _ e=>e) (fun q ps e=>⟨#[],by rw [e]; simp⟩) (fun m hm=>?_) (fun q u e=>?_) I.bare
     · obtain ⟨o,es,ep,ho,r⟩:=hm
       exact ⟨o,es,ep,kp _ o (fun hq=>(fz _ hq).2.1 rfl) ho,r⟩
     · refine (I.hok q u e).stay (fun q' v hq' e'=>kp q' v ?_ e') (fun _ e'=>e') fun _ _ e'=>e'
       rcases hq' with rfl | hq'
       · exact Hn _ u e
       · exact Hn _ _ hq'
   have I3:Inv X pins σ (upd H T (.tup [.int i,x])) { s with heap:=h2,toks:=tk }:=by
     refine ⟨I2.ok,I2.os,I2.bare,?_,I2.loc,I2.cell,?_,fun n c e=>?_,fun p hp=>?_,fun q u e=>?_,I2.len⟩
     · refine ⟨I2.base.keep,I2.base.slot,fun q o e n hx=>?_,I2.base.there,fun q xs e=>?_,fun q o u e=>?_,fun q ps e=>?_⟩
       · have lt:q < X.s₀.heap.objs.size:=Heap.lt_size e
         rw [aq (Nat.ne_of_lt (Nat.lt_of_lt_of_le lt (Nat.le_trans I.sz le)))]
         exact I2.base.free q o e n hx
       · have e':=I2.base.tups q xs e
         rw [aq (fun z=>by rw [z,nH] at e'; cases e')]
         exact e'
       · have e':=I2.base.frzs q o u e
         rw [aq (fun z=>by rw [z,nH] at e'; cases e')]
         exact e'
       · obtain ⟨more,e'⟩:=I2.base.tbls q ps e
         exact ⟨more,by rw [aq (fun z=>by rw [z,nH] at e'; cases e')]; exact e'⟩
     · rw [aq (Nat.ne_of_lt (Nat.lt_of_lt_of_le I.lt le))]
       exact I2.free
     · obtain ⟨vv,o,ho,_⟩:=I.cell n c e
       rw [aq (Tb _ _ ho)]
       exact I2.freeC n c e
     · obtain ⟨k1,k2,k3⟩:=I.pin p hp
       rw [aq (Tb _ _ k1)]
       exact I2.pin p hp
     · by_cases hq:q=T
       · subst hq
         rw [aj] at e; cases e
         refine ⟨by show 2≤sizeLine; decide,[.int (i:Nat) tt,xv],.cons ⟨tt,rfl⟩ (.cons rx .nil),ot,new,hct,nt,?_⟩
         rw [hdt,ev]
       · rw [aq hq] at e
         refine (I2.hok q u e).stay (fun _ _ _ e'=>e') (fun q' e'=>?_) fun q' xs e'=>?_
         · rw [aq (fun z=>by rw [z,nH] at e'; cases e')]; exact e'
         · rw [aq (fun z=>by rw [z,nH] at e'; cases e')]; exact e'
   refine ⟨.ref T,_,I3,rfl,⟨T,x,nH,rfl,rfl,fun xs' q=>?_⟩,⟨st2.1,st2.2.1⟩,fun q hq=>?_⟩
   · rw [← I.sqX_inj s1 q]; exact hx
   · have hlt:q≠T:=by
       simp only [List.mem_cons,List.mem_nil_iff,or_false] at hq
       rcases hq with rfl | rfl
       · exact Tb _ _ t1
       · exact let ⟨o,e,_⟩:=(cL a c X.prog X.w).obj _ _ _ t2; Tb _ _ e
     rw [aq hlt]
     exact (fz q hq).1
 done:=fun X e1 e2 e3 hc i pins s σ H E I f t g=>by
   subst e1 e2 e3
   obtain ⟨⟨old,t1⟩,t2⟩:=t
   obtain ⟨xs,s1,hend⟩:=g
   obtain ⟨us,r1,q1⟩:=I.sqX s1
   have hh:X.A.in1.handled=none:=I.ok.hd hc
   have fz:∀ q∈[e,it],eE X pins H q:=f
   have W:=WalksT.enumerateD (A:=X.A) (pT (P:=X.prog) (w:=X.w) (A:=X.A.in1) (l:=a) c (it:=it) hh ai us.toArray) e ne (by simp; exact ⟨ne,ae.symm⟩) (by simp)
   have ei:i=us.toArray.size:=by
     have:=r1.length
     simp
     omega
   subst ei
   refine W.done s _ _ ⟨⟨old,t1⟩,t2,q1⟩ fun h' tk keep=>⟨rfl,?_⟩
   have kp:∀ q o,q ∉ [e,it]→s.heap.get? q=some o→h'.get? q=some o:=fun q o hq e=>keep q o hq e
   have Hn:∀ q u,H q=some u→q ∉ [e,it]:=fun q u e hq=>by rw [(fz q hq).1] at e; cases e
   refine I.step (g':=s.gens) (d':=s.drawn) (t':=tk) (ch:=[e,it]) (fun q hq=>⟨(fz q hq).2.2.2.1,(fz q hq).2.1,(fz q hq).2.2.2.2.1,(fz q hq).2.2.2.2.2⟩) (fun q o _ _ hq e _=>kp q o hq e) (fun q o _ _ hq e _=>⟨o.slots,kp q o hq e⟩) (fun _ _ _ _ n=>n)
     (fun q o hq e=>⟨o,kp q o hq e⟩) (fun _ _ e=>e) (fun _ _ _ e=>e) (fun q ps e=>⟨#[],by rw [e]; simp⟩) (fun m hm=>?_) (fun q u e=>?_) I.bare
   · obtain ⟨o,es,ep,ho,r⟩:=hm
     exact ⟨o,es,ep,kp _ o (fun hq=>(fz _ hq).2.1 rfl) ho,r⟩
   · refine (I.hok q u e).stay (fun q' v hq' e'=>kp q' v ?_ e') (fun _ e'=>e') fun _ _ e'=>e'
     rcases hq' with rfl | hq'
     · exact Hn _ u e
     · exact Hn _ _ hq'
 self:=fun A i s Q E t q=>by
   obtain ⟨⟨old,t1⟩,t2⟩:=t
   exact wpAny_pyIter_enum t1 q
def ug (K:PySem.W.Frag) (c:Bool) (tl:TE):TI:=fun σ H R=>tl σ H fun x H1=>∃ a,x=.ref a∧(∃ xs,SqX K c H1 a xs)∧R (Ite K c a) H1
section
variable {X:Cx} {e:Expr} {te:TE} {p2 pos:Pos}
theorem An {elts:List Expr} {x1} {tpos:Pos} (c:Bool) (hg:Gl X "enumerate") (hm:X.mg "enumerate"=none) (he:PE X e te) (h2:starEach [e] X.env=[(false,eval e X.env)]:=by rfl):PI X (.Tuple elts x1 tpos) (.Call (.Name "enumerate" p2) [e] [] pos) (ug X.K c te):=by
 intro pins s σ H R I h
 refine Call_ (gR I hg hm boot_enumerate (PyProof.Rows.callWith_type1 ?_ h2 rfl))
 rw [h2]
 show wpAny _ _ (spliced ((false,eval e X.env) :: backTo pos [])) _ _ s
 refine Calls.spliced_cons (bq (he pins s σ H _ I h) fun u s1 x H1 I1 r1 q1=>Calls.spliced_nil ?_)
 obtain ⟨a,ex,⟨xs,sa⟩,q⟩:=q1
 subst ex
 cases r1
 obtain ⟨us,r1,q1⟩:=I1.sqX sa
 obtain ⟨oa,hoa⟩:=gx a c _ _ q1
 have la:=Heap.lt_size hoa
 refine vI (cL a c) q1 (j4 a c) fun h' w1 w2 w3=>?_
 refine wpAny_pyIter_enum w1 ?_
 refine ⟨_,[s1.heap.objs.size + 1,s1.heap.objs.size],_,_,H1,rfl,I1.kept (t':=s1.toks) w3,vo c a _ _ (Nat.succ_ne_self _) (Nat.ne_of_lt (Nat.lt_succ_of_lt la)) (Nat.ne_of_lt la),⟨⟨_,w1⟩,w2⟩,fun b hb=>?_,q⟩
 have hle:s1.heap.objs.size≤b:=by
   simp only [List.mem_cons,List.mem_nil_iff,or_false] at hb
   rcases hb with rfl | rfl
   · exact Nat.le_succ _
   · exact Nat.le_refl _
 exact I1.fpOk hle (I1.hok.fresh hle)
end
theorem wt {K:PySem.W.Frag} {c:Bool} {a:Addr} {xs:List V} {g:TG} {tb:TS} {D:Ends} {σ:St} {H:Hp} (Pv:Nat→St→Hp→Prop) (h0:Pv 0 σ H) (hl:∀ i σ H,Pv i σ H→SqX K c H a xs)
   (hs:∀ (i:Nat) (x:V) (σ:St) (H:Hp) (p:Addr) (N:St→Hp→Prop),(∀ σ' H',Pv (i + 1) σ' H'→N σ' H')→xs[i]?=some x→Pv i σ H→H p=none→g (.ref p) σ (upd H p (.tup [.int i,x])) fun σ2 H2=>tb { D with nx:=N,ct:=N,bk:=D.nx } σ2 H2)
   (hd:∀ σ H,Pv xs.length σ H→D.nx σ H):fQ (Ite K c a) D g tb σ H:=by
 refine ⟨fun i m σ H=>m=xs.length - i∧i≤xs.length∧Pv i σ H,⟨_,rfl,Nat.zero_le _,h0⟩,?_⟩
 rintro i m σ H ⟨rfl,hi,p⟩
 have q1:=hl i σ H p
 by_cases hlt:i < xs.length
 · refine .inr ⟨⟨xs,xs[i],q1,List.getElem?_eq_getElem hlt⟩,fun σ' H'=>∃ m',m' < xs.length - i∧(m'=xs.length - (i + 1)∧i + 1≤xs.length∧Pv (i + 1) σ' H'),fun σ' H' z=>z,fun x H' y=>?_⟩
   obtain ⟨p',x',hp,rfl,rfl,e1⟩:=y
   exact hs i x' σ H p' _ (fun σ' H' p'=>⟨xs.length - (i + 1),by omega,rfl,hlt,p'⟩) (e1 xs q1) p hp
 · have e:i=xs.length:=by omega
   subst e
   exact .inl ⟨⟨xs,q1,rfl⟩,hd σ H p⟩
end L2
set_option Elab.async false
set_option linter.all false
set_option maxRecDepth 100000
namespace Pb
open L2 PySem
abbrev Stp:=Int × Int × Int
def vSt (s:Stp):List V:=[.int s.1,.int s.2.1,.int s.2.2]
abbrev StepsAt (H:Hp):List Addr→List Stp→Prop:=Paired fun q s=>H q=some (.tup (vSt s))
theorem StepsAt.same {H H':Hp} {qs:List Addr} {ss:List Stp} (e:Same H H') (h:StepsAt H qs ss):StepsAt H' qs ss:=Paired.imp' (fun q v x=>e q _ x) h
theorem StepsAt.get {H:Hp}:∀ {ps:List Addr} {vs:List Stp} {i:Nat} {x:V},StepsAt H ps vs→(ps.map V.ref)[i]?=some x→∃ p v,x=.ref p∧ps[i]?=some p∧vs[i]?=some v∧H p=some (.tup (vSt v))
 | _,_,i,x,.nil,e=>by simp at e
 | _,_,0,x,.cons (a:=p) (b:=r) h hs,e=>⟨p,r,by simpa using e.symm,by simp,by simp,h⟩
 | a :: l1,_,i + 1,x,.cons h hs,e=>by
   have e':(List.map V.ref l1)[i]?=some x:=by simpa using e
   obtain ⟨p,r,h1,h2,h3,h4⟩:=StepsAt.get hs e'
   exact ⟨p,r,h1,by simpa using h2,by simpa using h3,h4⟩
theorem fL {α β:Type} {R:α→β→Prop} {a:α} {b:β} (h:R a b):∀ {l₁:List α} {l₂:List β},Paired R l₁ l₂→Paired R (l₁ ++ [a]) (l₂ ++ [b])
 | _,_,.nil=>.cons h .nil
 | _,_,.cons x xs=>.cons x (fL h xs)
theorem gc {α β:Type} {R:α→β→Prop}:∀ {ps:List α} {vs:List β} {i:Nat} {x:α},Paired R ps vs→ps[i]?=some x→∃ v,vs[i]?=some v∧R x v
 | _,_,i,x,.nil,e=>by simp at e
 | _,_,0,x,.cons (a:=p) (b:=r) h hs,e=>by
   have:p=x:=by simpa using e
   subst this
   exact ⟨r,by simp,h⟩
 | a :: l1,_,i + 1,x,.cons h hs,e=>by
   have e':l1[i]?=some x:=by simpa using e
   obtain ⟨v,h1,h2⟩:=gc hs e'
   exact ⟨v,by simpa using h1,h2⟩
abbrev vf (H:Hp):List Addr→List (List Int)→Prop:=Paired fun q xs=>H q=some (.tup (xs.map V.int))
def aB (rs:List Road) (a b:Int):Int:=(bD rs a b).getD 1
def bS (rs:List Road) (xs:List Int) (s:Stp):List Int :=
 (xs.set s.1.toNat (xs.getD s.1.toNat 0 - s.2.2 * aB rs s.1 s.2.1)).set s.2.1.toNat ((xs.set s.1.toNat (xs.getD s.1.toNat 0 - s.2.2 * aB rs s.1 s.2.1)).getD s.2.1.toNat 0 + s.2.2)
theorem eN (rs:List Road) (xs:List Int) (s:Stp):(bS rs xs s).length=xs.length:=by unfold bS; rw [List.length_set,List.length_set]
def dF (m:Int) (rs:List Road) (s:Stp):Bool:=decide (0≤s.1) && decide (s.1 < m) && decide (s.2.1∈bM m rs s.1) && decide (1≤s.2.2)
def da (m:Int) (rs:List Road) (xs:List Int) (s:Stp):Bool:=dF m rs s && decide (s.2.2 * aB rs s.1 s.2.1≤xs.getD s.1.toNat 0)
def dz (rs:List Road) (xs:List Int) (ss:List Stp) (i:Nat):List Int:=(ss.take i).foldl (bS rs) xs
def gZ (rs:List Road) (xs:List Int) (ss:List Stp):List (List Int):=(List.range (ss.length + 1)).map (dz rs xs ss)
def iu (m:Int) (rs:List Road) (xs:List Int) (ss:List Stp):Prop:=∀ i s,ss[i]?=some s→da m rs (dz rs xs ss i) s=true
theorem lQ (rs:List Road) (xs:List Int) (ss:List Stp) (i:Nat):(dz rs xs ss i).length=xs.length:=by
 unfold dz
 have:∀ (l:List Stp) (ys:List Int),(l.foldl (bS rs) ys).length=ys.length:=by
   intro l
   induction l with
   | nil=>intro ys; rfl
   | cons s l ih=>intro ys; rw [List.foldl_cons,ih,eN]
 exact this _ _
theorem eS {rs:List Road} {xs:List Int} {ss:List Stp} {i:Nat} {s:Stp} (h:ss[i]?=some s):dz rs xs ss (i + 1)=bS rs (dz rs xs ss i) s:=by
 unfold dz
 rw [List.take_succ,h,List.foldl_append]
 rfl
theorem jG (rs:List Road) (xs:List Int) (ss:List Stp):(gZ rs xs ss).length=ss.length + 1:=by unfold gZ; rw [List.length_map,List.length_range]
theorem hV {rs:List Road} {xs:List Int} {ss:List Stp} {i:Nat} (h:i≤ss.length):(gZ rs xs ss)[i]?=some (dz rs xs ss i):=by
 unfold gZ
 rw [List.getElem?_map,List.getElem?_range (by omega)]
 rfl
theorem dD (rs:List Road) (xs:List Int) (ss:List Stp):dz rs xs ss 0=xs:=by unfold dz; rw [List.take_zero]; rfl
theorem di {m:Int} {rs:List Road} {s:Stp} (h:dF m rs s=true):(0≤s.1∧s.1 < m)∧s.2.1∈bM m rs s.1∧1≤s.2.2:=by
 unfold dF at h
 rw [Bool.and_eq_true,Bool.and_eq_true,Bool.and_eq_true] at h
 exact ⟨⟨of_decide_eq_true h.1.1.1,of_decide_eq_true h.1.1.2⟩,of_decide_eq_true h.1.2,of_decide_eq_true h.2⟩
theorem dE {m:Int} {rs:List Road} (g:Good m rs) {a b:Int} (h:Adj rs a b):∃ k,bD rs a b=some k∧2≤k∧k≤1000000:=by
 obtain ⟨x,hx,j⟩:=h
 obtain ⟨i,hi⟩:=List.getElem?_of_mem hx
 have ok:=g.ok x hx
 have jj:kn x a b:=j
 rw [ge g hi jj]
 unfold cY
 by_cases c:x.a=a∧x.b=b
 · rw [if_pos c]
   exact ⟨_,rfl,ok.t0,ok.t1⟩
 · rw [if_neg c]
   have c2:x.a=b∧x.b=a:=by
     rcases jj with w | w
     · exact absurd w c
     · exact ⟨w.2,w.1⟩
   rw [if_pos c2]
   exact ⟨_,rfl,ok.u0,ok.u1⟩
theorem hG {m:Int} {rs:List Road} (g:Good m rs) {s:Stp} (h:dF m rs s=true):∃ k,bD rs s.1 s.2.1=some k∧aB rs s.1 s.2.1=k∧(2≤k∧k≤1000000)∧(0≤s.2.1∧s.2.1 < m):=by
 obtain ⟨h1,h2,h3⟩:=di h
 have ad:=(cU g).mp h2
 obtain ⟨k,e,r⟩:=dE g ad
 exact ⟨k,e,by unfold aB; rw [e]; rfl,r,(g.adj ad).2.1⟩
end Pb
namespace L2
open PySem PySem.Spec PyProof.Rows
def zG (i j k:Nat) (ta:TA):TS:=fun D σ H=>ta σ H fun vs H1=>∃ v w z,vs=[v,w,z]∧D.nx (((σ.set i (some v)).set j (some w)).set k (some z)) H1
end L2
set_option Elab.async false
set_option linter.all false
set_option maxRecDepth 100000
namespace Pb
open L2
section
variable {m:Int} {rs:List Road} {r:Int} {par:Int→Int} {dep:Int→Nat} {held held':Int→Int} {con:Int→Int→Int}
def cF (m:Int) (rs:List Road) (r:Int) (par:Int→Int) (dep:Int→Nat) (held:Int→Int) (l:List Int):List Stp:=(aO m rs r par dep held l).map fun v=>(v,par v,tms m rs r par dep held v)
theorem Onway.full (g:Good m rs) (hz:∀ v,0≤held v) {tl now:List Int} (w:Onway m rs r par dep held tl (aO m rs r par dep held tl.reverse).length now):Walkd m rs r par dep held tl now:=by
 obtain ⟨A,B,e,fa,fb,w⟩:=w.ex
 rw [List.drop_length] at fb
 have w1:=pw g hz (List.filter_eq_nil_iff.mp fb) w
 have es:tl=B.reverse ++ A.reverse:=by
   have:=congrArg List.reverse e
   rw [List.reverse_reverse,List.reverse_append] at this
   exact this
 rw [← es] at w1
 exact w1
theorem qC (g:Good m rs) (R:Rooted m rs r par dep) {xs tl:List Int} (x0:∀ x∈xs,0≤x) (xl:(xs.length:Int)=m) (O:Order m r par tl):∀ i,i≤(aO m rs r par dep (fun v=>xs.getD v.toNat 0) tl.reverse).length→Onway m rs r par dep (fun v=>xs.getD v.toNat 0) tl i (dz rs xs (cF m rs r par dep (fun v=>xs.getD v.toNat 0) tl.reverse) i):=by
 intro i
 have hz:∀ v:Int,0≤xs.getD v.toNat 0:=fun v=>ku x0 _
 induction i with
 | zero=>intro _; rw [dD]; exact Onway.start xl
 | succ i ih =>
   intro hi
   have hil:i < (aO m rs r par dep (fun v=>xs.getD v.toNat 0) tl.reverse).length:=by omega
   have hv:=List.getElem?_eq_getElem hil
   obtain ⟨vr,tp,own,nl,ow⟩:=(ih (by omega)).turn g R hz O hv
   rw [eS (s:=((aO m rs r par dep (fun v=>xs.getD v.toNat 0) tl.reverse)[i],par (aO m rs r par dep (fun v=>xs.getD v.toNat 0) tl.reverse)[i],tms m rs r par dep (fun v=>xs.getD v.toNat 0) (aO m rs r par dep (fun v=>xs.getD v.toNat 0) tl.reverse)[i])) (by unfold cF; rw [List.getElem?_map,hv]; rfl)]
   exact ow
theorem jH (g:Good m rs) (R:Rooted m rs r par dep) {xs tl:List Int} (x0:∀ x∈xs,0≤x) (xl:(xs.length:Int)=m) (O:Order m r par tl):iu m rs xs (cF m rs r par dep (fun v=>xs.getD v.toNat 0) tl.reverse):=by
 intro i s hs
 have hz:∀ v:Int,0≤xs.getD v.toNat 0:=fun v=>ku x0 _
 unfold cF at hs
 rw [List.getElem?_map] at hs
 obtain ⟨v,hv,rfl⟩:=Option.map_eq_some_iff.mp hs
 have hil:=(List.getElem?_eq_some_iff.mp hv).1
 obtain ⟨⟨vr,vn⟩,tp,own,nl,ow⟩:=(qC g R x0 xl O i (by omega)).turn g R hz O hv
 have le:=Bg (held:=fun v=>xs.getD v.toNat 0) g R hz vr.1 vr.2 vn
 have nb:par v∈bM m rs v:=(cU g).mpr (R.up v vr.1 vr.2 vn).2.1
 unfold da dF
 simp only [Bool.and_eq_true,decide_eq_true_eq]
 exact ⟨⟨⟨⟨vr.1,vr.2⟩,nb⟩,by omega⟩,by rw [own]; exact le⟩
theorem jW (g:Good m rs) (R:Rooted m rs r par dep) {xs tl:List Int} (r0:0≤r) (r1:r < m) (x0:∀ x∈xs,0≤x) (xl:(xs.length:Int)=m) (O:Order m r par tl) {es:List Int} (he:es=dz rs xs (cF m rs r par dep (fun v=>xs.getD v.toNat 0) tl.reverse) (cF m rs r par dep (fun v=>xs.getD v.toNat 0) tl.reverse).length) :
   es.getD r.toNat 0=gat m rs r par dep (fun v=>xs.getD v.toNat 0) (giv rs par) r∧(es.length:Int)=m∧(∀ x∈es,0≤x)∧gat m rs r par dep (fun v=>es.getD v.toNat 0) (giv rs par) r=gat m rs r par dep (fun v=>xs.getD v.toNat 0) (giv rs par) r∧aO m rs r par dep (fun v=>es.getD v.toNat 0) tl.reverse=[]:=by
 have hz:∀ v:Int,0≤xs.getD v.toNat 0:=fun v=>ku x0 _
 have bl:(cF m rs r par dep (fun v=>xs.getD v.toNat 0) tl.reverse).length=(aO m rs r par dep (fun v=>xs.getD v.toNat 0) tl.reverse).length:=by unfold cF; rw [List.length_map]
 have on:=qC g R x0 xl O _ (Nat.le_refl _)
 rw [← bl,← he,bl] at on
 obtain ⟨d1,d2⟩:=on.done g R hz r0 r1 O
 have W:=on.full g hz
 have nd:=List.nodup_cons.mp O.nd
 have left:∀ v,0≤v→v < m→v≠r→0≤es.getD v.toNat 0∧giv rs par v (es.getD v.toNat 0)=0:=fun v v0 v1 vr=>by
   have vt:=(O.all v v0 v1).resolve_left vr
   have e:=W.val v v0 v1
   rw [if_pos vt,ly ((im g R nd.2 O.places v0 v1 fun k k0 k1 kr _=>(O.all k k0 k1).resolve_left kr).map (tms m rs r par dep fun v=>xs.getD v.toNat 0))] at e
   have e2:(fun v=>xs.getD v.toNat 0) v + ((aY m rs (front r par v) v).map (tms m rs r par dep fun v=>xs.getD v.toNat 0)).sum=gat m rs r par dep (fun v=>xs.getD v.toNat 0) (giv rs par) v:=(kZ (held:=fun v=>xs.getD v.toNat 0) (con:=giv rs par) g R v0 v1).symm
   obtain ⟨k,hk,k0,k1⟩:=kg g R v0 v1 vr
   have e3:es.getD v.toNat 0=gat m rs r par dep (fun v=>xs.getD v.toNat 0) (giv rs par) v - gat m rs r par dep (fun v=>xs.getD v.toNat 0) (giv rs par) v / k * k:=by
     rw [e]
     have:tms m rs r par dep (fun v=>xs.getD v.toNat 0) v * tol rs par v=gat m rs r par dep (fun v=>xs.getD v.toNat 0) (giv rs par) v / k * k:=by
       unfold tms tol
       rw [hk]
       unfold giv
       rw [hk]
       rfl
     rw [this,← e2]
   have e4:=Int.emod_add_mul_ediv (gat m rs r par dep (fun v=>xs.getD v.toNat 0) (giv rs par) v) k
   have e5:=Int.emod_nonneg (gat m rs r par dep (fun v=>xs.getD v.toNat 0) (giv rs par) v) (show k≠0 by omega)
   have e6:=Int.emod_lt_of_pos (gat m rs r par dep (fun v=>xs.getD v.toNat 0) (giv rs par) v) (show 0 < k by omega)
   have e7:es.getD v.toNat 0=gat m rs r par dep (fun v=>xs.getD v.toNat 0) (giv rs par) v % k:=by
     rw [e3,Int.mul_comm]
     omega
   rw [e7]
   refine ⟨e5,?_⟩
   unfold giv
   rw [hk]
   exact Int.ediv_eq_zero_of_lt e5 e6
 have lone:∀ (n:Nat) (v:Int),0≤v→v < m→ji m rs r par (fun v=>es.getD v.toNat 0) (giv rs par) n v=es.getD v.toNat 0:=by
   intro n
   induction n with
   | zero=>intro v _ _; rfl
   | succ n ih =>
     intro v v0 v1
     show es.getD v.toNat 0 + _=_
     have:∀ l:List Int,(∀ u∈l,u∈aY m rs (front r par v) v)→(l.map fun c=>giv rs par c (ji m rs r par (fun v=>es.getD v.toNat 0) (giv rs par) n c)).sum=0:=by
       intro l
       induction l with
       | nil=>intro _; rfl
       | cons c l ihl =>
         intro hl
         obtain ⟨w1,w2,w3⟩:=(cQ g R v0 v1).mp (hl c List.mem_cons_self)
         rw [List.map_cons,List.sum_cons,ihl fun u hu=>hl u (List.mem_cons_of_mem _ hu),ih c w1.1 w1.2,(left c w1.1 w1.2 w2).2]
         rfl
     rw [this _ fun u hu=>hu]
     omega
 refine ⟨d1,d2,fun x hx=>?_,?_,?_⟩
 · obtain ⟨j,hj,ej⟩:=List.getElem_of_mem hx
   by_cases z:(j:Int)=r
   · have:es.getD r.toNat 0=x:=by rw [← z,Int.toNat_natCast,List.getD,List.getElem?_eq_getElem hj]; exact ej
     rw [← this,d1]
     exact qQ g hz r
   · have h:=(left (j:Int) (by omega) (by omega) z).1
     rw [Int.toNat_natCast,List.getD,List.getElem?_eq_getElem hj] at h
     rw [← ej]
     exact h
 · unfold gat
   rw [lone _ r r0 r1,d1]
   rfl
 · unfold aO
   refine List.filter_eq_nil_iff.mpr fun v hv=>?_
   obtain ⟨vr,vn⟩:=O.places v (List.mem_reverse.mp hv)
   have e:tms m rs r par dep (fun v=>es.getD v.toNat 0) v=0:=by
     unfold tms gat
     rw [lone _ v vr.1 vr.2]
     exact (left v vr.1 vr.2 vn).2
   rw [e]
   decide
end
end Pb
set_option Elab.async false
set_option linter.all false
set_option maxRecDepth 100000
namespace L2
open PySem PySem.Spec PyProof.Rows
end L2
namespace Pb
open L2 PySem
theorem gI {m:Int} {rs:List Road} {xs:List Int} {s:Stp} (h:da m rs xs s=true):dF m rs s=true∧s.2.2 * aB rs s.1 s.2.1≤xs.getD s.1.toNat 0:=by
 unfold da at h
 rw [Bool.and_eq_true] at h
 exact ⟨h.1,of_decide_eq_true h.2⟩
theorem zZ {m:Int} {rs:List Road} (g:Good m rs) {xs:List Int} (xl:(xs.length:Int)=m) (x0:∀ x∈xs,0≤x) {s:Stp} (h:da m rs xs s=true):∀ x∈bS rs xs s,0≤x:=by
 obtain ⟨is,le⟩:=gI h
 obtain ⟨ar,nb,n1⟩:=di is
 have h1:∀ x∈xs.set s.1.toNat (xs.getD s.1.toNat 0 - s.2.2 * aB rs s.1 s.2.1),0≤x:=vg x0 (by omega)
 unfold bS
 exact vg h1 (by have:=ku h1 s.2.1.toNat; omega)
end Pb
set_option Elab.async false
set_option linter.all false
set_option maxRecDepth 100000
namespace Pb
open L2 PySem
section
variable {m:Int} {rs:List Road}
theorem nB:∀ (l:List Int) (i:Nat) (v:Int),i < l.length→(l.set i v).sum=l.sum - l.getD i 0 + v
 | [],i,v,h=>by simp at h
 | a :: l,0,v,_=>by simp; omega
 | a :: l,i + 1,v,h=>by
   have ih:=nB l i v (by simpa using h)
   have e:(a :: l).getD (i + 1) 0=l.getD i 0:=by simp [List.getD]
   rw [List.set_cons_succ,List.sum_cons,List.sum_cons,ih,e]
   omega
theorem g9 (g:Good m rs) {xs:List Int} (xl:(xs.length:Int)=m) {s:Stp} (is:dF m rs s=true) (v:Int):(bS rs xs s).getD v.toNat 0=if v.toNat=s.2.1.toNat then xs.getD v.toNat 0 + s.2.2 else if v.toNat=s.1.toNat then xs.getD v.toNat 0 - s.2.2 * aB rs s.1 s.2.1 else xs.getD v.toNat 0:=by
 obtain ⟨ar,nb,n1⟩:=di is
 have ad:=(cU g).mp nb
 have br:=(g.adj ad).2.1
 have ab:=(g.adj ad).2.2
 unfold bS
 rw [cV _ _ _ _ (by rw [List.length_set]; omega),cV _ _ _ _ (by omega),cV _ _ _ _ (by omega)]
 by_cases c:s.2.1.toNat=v.toNat
 · rw [if_pos c,if_pos c.symm,if_neg (by omega),c]
 · have c':¬ v.toNat=s.2.1.toNat:=fun z=>c z.symm
   simp only [if_neg c,if_neg c']
   by_cases d:s.1.toNat=v.toNat
   · have d':=d.symm
     simp only [if_pos d,if_pos d',d]
   · have d':¬ v.toNat=s.1.toNat:=fun z=>d z.symm
     simp only [if_neg d,if_neg d']
theorem xo {xs ys:List Int} (hl:xs.length=ys.length) (h:∀ v:Int,xs.getD v.toNat 0=ys.getD v.toNat 0):xs=ys:=by
 refine List.ext_getElem hl fun i h1 h2=>?_
 have:=h (i:Int)
 rw [Int.toNat_natCast,List.getD,List.getElem?_eq_getElem h1,List.getD,List.getElem?_eq_getElem h2] at this
 exact this
theorem sS (g:Good m rs) {xs:List Int} (xl:(xs.length:Int)=m) {a b n f:Int} (cd:da m rs xs (a,b,n)=true) (f1:1≤f) (f2:f < n):iu m rs xs [(a,b,f),(a,b,n - f)]∧bS rs (bS rs xs (a,b,f)) (a,b,n - f)=bS rs xs (a,b,n):=by
 obtain ⟨is,le⟩:=gI cd
 obtain ⟨ar,nb,n1⟩:=di is
 obtain ⟨kk,ek,et,kr,br⟩:=hG g is
 have ad:=(cU g).mp nb
 have ab:a≠b:=(g.adj ad).2.2
 have mk:∀ z:Int,1≤z→dF m rs (a,b,z)=true:=fun z hz=>by
   unfold dF
   simp only [Bool.and_eq_true,decide_eq_true_eq]
   exact ⟨⟨⟨ar.1,ar.2⟩,nb⟩,hz⟩
 have is1:=mk f f1
 have is2:=mk (n - f) (by omega)
 have et':aB rs a b=kk:=et
 have le':n * kk≤xs.getD a.toNat 0:=by rw [← et']; exact le
 have xl2:((bS rs xs (a,b,f)).length:Int)=m:=by rw [eN]; exact xl
 have ar':0≤a∧a < m:=ar
 have br':0≤b∧b < m:=br
 have ga:(bS rs xs (a,b,f)).getD a.toNat 0=xs.getD a.toNat 0 - f * kk:=by
   rw [g9 g xl is1 a]
   show (if a.toNat=b.toNat then _ else if a.toNat=a.toNat then _ else _)=_
   rw [if_neg (by omega),if_pos rfl]
   show _ - f * aB rs a b=_
   rw [et']
 have mulf:f * kk≤n * kk:=Int.mul_le_mul_of_nonneg_right (by omega) (by omega)
 refine ⟨fun i s hs=>?_,?_⟩
 · match i,hs with
   | 0,hs =>
     cases hs
     rw [dD]
     unfold da
     rw [is1,Bool.true_and,decide_eq_true_eq]
     show f * aB rs a b≤xs.getD a.toNat 0
     rw [et']
     omega
   | 1,hs =>
     cases hs
     rw [eS (s:=(a,b,f)) rfl,dD]
     unfold da
     rw [is2,Bool.true_and,decide_eq_true_eq]
     show (n - f) * aB rs a b≤(bS rs xs (a,b,f)).getD a.toNat 0
     rw [et',ga,Int.sub_mul]
     omega
   | i + 2,hs=>simp at hs
 · refine xo (by rw [eN,eN,eN]) fun v=>?_
   rw [g9 g xl2 is2 v,g9 g xl is1 v,g9 g xl is v]
   show (if v.toNat=b.toNat then (if v.toNat=b.toNat then xs.getD v.toNat 0 + f else if v.toNat=a.toNat then xs.getD v.toNat 0 - f * aB rs a b else xs.getD v.toNat 0) + (n - f) else if v.toNat=a.toNat then (if v.toNat=b.toNat then xs.getD v.toNat 0 + f else if v.toNat=a.toNat then xs.getD v.toNat 0 - f * aB rs a b else xs.getD v.toNat 0) - (n - f) * aB rs a b else (if v.toNat=b.toNat then xs.getD v.toNat 0 + f else if v.toNat=a.toNat then xs.getD v.toNat 0 - f * aB rs a b else xs.getD v.toNat 0))=if v.toNat=b.toNat then xs.getD v.toNat 0 + n else if v.toNat=a.toNat then xs.getD v.toNat 0 - n * aB rs a b else xs.getD v.toNat 0
   by_cases c:v.toNat=b.toNat
   · simp only [if_pos c]
     omega
   · simp only [if_neg c]
     by_cases d:v.toNat=a.toNat
     · simp only [if_pos d]
       rw [Int.sub_mul]
       omega
     · simp only [if_neg d]
end
def AtX (c:Bool) (H:Hp) (a:Addr) (xs:List V):Prop:=H a=some (if c then .lst xs else .tup xs)
theorem AtX.sq {K:PySem.W.Frag} {c:Bool} {H:Hp} {a:Addr} {xs:List V} (h:AtX c H a xs):SqX K c H a xs:=by
 cases c
 · exact SqT.of h
 · exact SqL.of h
end Pb
set_option Elab.async false
set_option linter.all false
set_option maxRecDepth 100000
namespace L2
open PySem PySem.Spec PyProof.Rows
section
variable {X:Cx} {i o:Expr} {ty td:TE}
def zP (ty td:TE):TE:=fun σ H Q=>ty σ H fun y H1=>td σ H1 fun x H2=>∃ a,x=.ref a∧((∃ o,DGet H2 a y o∧Q (.bl o.isSome) H2)∨(y=.non∧(∃ kvs,H2 a=some (.dK kvs))∧Q (.bl false) H2))
end
end L2
set_option Elab.async false
set_option linter.all false
set_option maxRecDepth 100000
namespace Pb
open L2 PySem
section
variable {m:Int} {rs:List Road} {r b:Int} {par:Int→Int} {dep:Int→Nat}
def mV (par:Int→Int) (b:Int):Nat→Int→Bool
 | 0,v=>decide (v=b)
 | n + 1,v=>decide (v=b) || mV par b n (par v)
def ben (par:Int→Int) (dep:Int→Nat) (b v:Int):Bool:=mV par b (dep v) v
theorem vS (R:Rooted m rs r par dep) {v:Int} (v0:0≤v) (v1:v < m) (hr:v≠r):ben par dep b v=(decide (v=b) || ben par dep b (par v)):=by
 unfold ben
 rw [R.pos v0 v1 hr]
 rfl
end
end Pb
namespace L2
theorem dj {A B:TS} {D:Ends} {σ:St} {H:Hp} (h:∀ N:St→Hp→Prop,(∀ σ' H',B D σ' H'→N σ' H')→A { D with nx:=N } σ H):sA A B D σ H:=h (B D) fun _ _ z=>z
end L2
set_option Elab.async false
set_option linter.all false
set_option maxRecDepth 100000
namespace L2
open PySem
theorem jQ {K:PySem.W.Frag} {a:Addr} {xs:List V} {g:TG} {tb:TS} {D:Ends} {σ:St} {H:Hp} (Pv:Nat→St→Hp→Prop) (h0:Pv 0 σ H) (hl:∀ i σ H,i≤xs.length→Pv i σ H→SqL K H a xs)
   (hs:∀ (i:Nat) (x:V) (σ:St) (H:Hp) (N B:St→Hp→Prop),(∀ σ H,(g x σ H fun σ2 H2=>tb { D with nx:=N,ct:=N,bk:=D.nx } σ2 H2)→B σ H)→(∀ σ' H',Pv (i + 1) σ' H'→N σ' H')→xs[i]?=some x→Pv i σ H→B σ H)
   (hd:∀ (B:St→Hp→Prop) σ H,(∀ σ H,D.nx σ H→B σ H)→Pv xs.length σ H→B σ H):fQ (Itl K a) D g tb σ H :=
 oA Pv h0 hl (fun i x σ H N hN hx p=>hs i x σ H N (fun σ H=>g x σ H fun σ2 H2=>tb { D with nx:=N,ct:=N,bk:=D.nx } σ2 H2) (fun _ _ z=>z) hN hx p) fun σ H p=>hd (fun σ H=>D.nx σ H) σ H (fun _ _ z=>z) p
theorem tU {lo:Int} {n:Nat} {g:TG} {tb:TS} {D:Ends} {σ:St} {H:Hp} (Pv:Nat→St→Hp→Prop) (h0:Pv 0 σ H)
   (hs:∀ (i:Nat) (σ:St) (H:Hp) (N B:St→Hp→Prop),(∀ σ H,(g (.int (lo + i)) σ H fun σ2 H2=>tb { D with nx:=N,ct:=N,bk:=D.nx } σ2 H2)→B σ H)→(∀ σ' H',Pv (i + 1) σ' H'→N σ' H')→i < n→Pv i σ H→B σ H)
   (hd:∀ (B:St→Hp→Prop) σ H,(∀ σ H,D.nx σ H→B σ H)→Pv n σ H→B σ H):fQ (Itr lo n) D g tb σ H :=
 iY Pv h0 (fun i σ H N hN hi p=>hs i σ H N (fun σ H=>g (.int (lo + i)) σ H fun σ2 H2=>tb { D with nx:=N,ct:=N,bk:=D.nx } σ2 H2) (fun _ _ z=>z) hN hi p) fun σ H p=>hd (fun σ H=>D.nx σ H) σ H (fun _ _ z=>z) p
theorem m9 {c:TT} {tb:TS} {D:Ends} {σ:St} {H:Hp} (W:Nat→St→Hp→Prop) (n0:Nat) (h0:W n0 σ H)
   (hs:∀ (n:Nat) (σ:St) (H:Hp) (N:St→Hp→Prop) (B:Nat→St→Hp→Prop),(∀ n σ H,(c σ H fun b H1=>if b=true then ∃ N:St→Hp→Prop,(∀ σ' H',N σ' H'→∃ m',m' < n∧W m' σ' H')∧tb { D with nx:=N,ct:=N,bk:=D.nx } σ H1 else D.nx σ H1)→B n σ H)→(∀ n' σ' H',n' < n→W n' σ' H'→N σ' H')→(∀ σ' H',N σ' H'→∃ m',m' < n∧W m' σ' H')→W n σ H→B n σ H):qM c tb D σ H :=
 rT W n0 h0 fun n σ H N hN hN2 w=>hs n σ H N (fun n σ H=>c σ H fun b H1=>if b=true then ∃ N:St→Hp→Prop,(∀ σ' H',N σ' H'→∃ m',m' < n∧W m' σ' H')∧tb { D with nx:=N,ct:=N,bk:=D.nx } σ H1 else D.nx σ H1) (fun _ _ _ z=>z) hN hN2 w
theorem ex6 {α0:Sort _} {α1:Sort _} {α2:Sort _} {α3:Sort _} {α4:Sort _} {α5:Sort _} {P:α0→α1→α2→α3→α4→α5→Prop} (a0:α0) (a1:α1) (a2:α2) (a3:α3) (a4:α4) (a5:α5) (h:P a0 a1 a2 a3 a4 a5):∃ a0 a1 a2 a3 a4 a5,P a0 a1 a2 a3 a4 a5:=⟨a0,a1,a2,a3,a4,a5,h⟩
theorem ex7 {α0:Sort _} {α1:Sort _} {α2:Sort _} {α3:Sort _} {α4:Sort _} {α5:Sort _} {α6:Sort _} {P:α0→α1→α2→α3→α4→α5→α6→Prop} (a0:α0) (a1:α1) (a2:α2) (a3:α3) (a4:α4) (a5:α5) (a6:α6) (h:P a0 a1 a2 a3 a4 a5 a6):∃ a0 a1 a2 a3 a4 a5 a6,P a0 a1 a2 a3 a4 a5 a6:=⟨a0,a1,a2,a3,a4,a5,a6,h⟩
theorem ex8 {α0:Sort _} {α1:Sort _} {α2:Sort _} {α3:Sort _} {α4:Sort _} {α5:Sort _} {α6:Sort _} {α7:Sort _} {P:α0→α1→α2→α3→α4→α5→α6→α7→Prop} (a0:α0) (a1:α1) (a2:α2) (a3:α3) (a4:α4) (a5:α5) (a6:α6) (a7:α7) (h:P a0 a1 a2 a3 a4 a5 a6 a7):∃ a0 a1 a2 a3 a4 a5 a6 a7,P a0 a1 a2 a3 a4 a5 a6 a7:=⟨a0,a1,a2,a3,a4,a5,a6,a7,h⟩
theorem ex9 {α0:Sort _} {α1:Sort _} {α2:Sort _} {α3:Sort _} {α4:Sort _} {α5:Sort _} {α6:Sort _} {α7:Sort _} {α8:Sort _} {P:α0→α1→α2→α3→α4→α5→α6→α7→α8→Prop} (a0:α0) (a1:α1) (a2:α2) (a3:α3) (a4:α4) (a5:α5) (a6:α6) (a7:α7) (a8:α8) (h:P a0 a1 a2 a3 a4 a5 a6 a7 a8):∃ a0 a1 a2 a3 a4 a5 a6 a7 a8,P a0 a1 a2 a3 a4 a5 a6 a7 a8:=⟨a0,a1,a2,a3,a4,a5,a6,a7,a8,h⟩
theorem CC {α0:Sort _} {α1:Sort _} {α2:Sort _} {α3:Sort _} {α4:Sort _} {α5:Sort _} {α6:Sort _} {α7:Sort _} {α8:Sort _} {α9:Sort _} {α10:Sort _} {α11:Sort _} {P:α0→α1→α2→α3→α4→α5→α6→α7→α8→α9→α10→α11→Prop} (a0:α0) (a1:α1) (a2:α2) (a3:α3) (a4:α4) (a5:α5) (a6:α6) (a7:α7) (a8:α8) (a9:α9) (a10:α10) (a11:α11) (h:P a0 a1 a2 a3 a4 a5 a6 a7 a8 a9 a10 a11):∃ a0 a1 a2 a3 a4 a5 a6 a7 a8 a9 a10 a11,P a0 a1 a2 a3 a4 a5 a6 a7 a8 a9 a10 a11:=⟨a0,a1,a2,a3,a4,a5,a6,a7,a8,a9,a10,a11,h⟩
theorem an4 {p0 p1 p2 p3:Prop} (h0:p0) (h1:p1) (h2:p2) (h3:p3):p0∧p1∧p2∧p3:=⟨h0,h1,h2,h3⟩
theorem an5 {p0 p1 p2 p3 p4:Prop} (h0:p0) (h1:p1) (h2:p2) (h3:p3) (h4:p4):p0∧p1∧p2∧p3∧p4:=⟨h0,h1,h2,h3,h4⟩
theorem an6 {p0 p1 p2 p3 p4 p5:Prop} (h0:p0) (h1:p1) (h2:p2) (h3:p3) (h4:p4) (h5:p5):p0∧p1∧p2∧p3∧p4∧p5:=⟨h0,h1,h2,h3,h4,h5⟩
theorem an7 {p0 p1 p2 p3 p4 p5 p6:Prop} (h0:p0) (h1:p1) (h2:p2) (h3:p3) (h4:p4) (h5:p5) (h6:p6):p0∧p1∧p2∧p3∧p4∧p5∧p6:=⟨h0,h1,h2,h3,h4,h5,h6⟩
theorem an9 {p0 p1 p2 p3 p4 p5 p6 p7 p8:Prop} (h0:p0) (h1:p1) (h2:p2) (h3:p3) (h4:p4) (h5:p5) (h6:p6) (h7:p7) (h8:p8):p0∧p1∧p2∧p3∧p4∧p5∧p6∧p7∧p8:=⟨h0,h1,h2,h3,h4,h5,h6,h7,h8⟩
end L2
set_option Elab.async false
set_option linter.all false
set_option maxRecDepth 100000
namespace Pb
open L2 PySem
inductive Wlk (rs:List Road):Int→List Int→Int→Prop
 | nil (a:Int):Wlk rs a [] a
 | cons {a b c:Int} {l:List Int} (h:Adj rs a b) (t:Wlk rs b l c):Wlk rs a (b :: l) c
def f9 (rs:List Road):Int→List Int→Int
 | _,[]=>1
 | a,b :: l=>(bD rs a b).getD 0 * f9 rs b l
section
variable {m:Int} {rs:List Road} {r:Int} {par:Int→Int} {dep:Int→Nat}
theorem Wlk.app {a b c:Int} {l k:List Int} (h:Wlk rs a l b) (t:Wlk rs b k c):Wlk rs a (l ++ k) c:=by
 induction h with
 | nil a=>exact t
 | cons ad w ih=>exact .cons ad (ih t)
theorem uA {a b:Int} {l:List Int} (h:Wlk rs a l b) (k:List Int):f9 rs a (l ++ k)=f9 rs a l * f9 rs b k:=by
 induction h with
 | nil a=>show f9 rs a k=1 * _; rw [Int.one_mul]
 | cons ad w ih=>show _ * f9 rs _ (_ ++ k)=_ * f9 rs _ _ * _; rw [ih,Int.mul_assoc]
theorem Wlk.rev {a c:Int} {l:List Int} (h:Wlk rs a l c):∃ k,(a :: l).reverse=c :: k∧Wlk rs c k a:=by
 induction h with
 | nil a=>exact ⟨[],rfl,.nil a⟩
 | @cons a b c l ad w ih =>
   obtain ⟨k,e,w'⟩:=ih
   exact ⟨k ++ [a],by rw [List.reverse_cons,e]; rfl,w'.app (.cons ad.symm (.nil a))⟩
theorem Wlk.last {a b:Int} {l:List Int} (h:Wlk rs a l b):a :: l=(a :: l).dropLast ++ [b]:=by
 induction h with
 | nil a=>rfl
 | @cons a b c l ad w ih =>
   show a :: (b :: l)=a :: ((b :: l).dropLast ++ [c])
   rw [← ih]
theorem Wlk.at_ {a c b:Int} {l:List Int} (h:Wlk rs a l c) (hb:b∈a :: l):∃ l1 l2,l=l1 ++ l2∧Wlk rs a l1 b∧Wlk rs b l2 c:=by
 induction h with
 | nil a =>
   rw [List.mem_singleton.mp hb]
   exact ⟨[],[],rfl,.nil a,.nil a⟩
 | @cons a x c l ad w ih =>
   rcases List.mem_cons.mp hb with z | z
   · rw [z]
     exact ⟨[],x :: l,rfl,.nil a,.cons ad w⟩
   · obtain ⟨l1,l2,e,h1,h2⟩:=ih z
     exact ⟨x :: l1,l2,by rw [e]; rfl,.cons ad h1,h2⟩
theorem lY (R:Rooted m rs r par dep):∀ (n:Nat) (a:Int),dep a=n→0≤a→a < m→∃ l,dS par dep a=a :: l∧Wlk rs a l r∧f9 rs a l=gr rs par dep a:=by
 intro n
 induction n with
 | zero =>
   intro a ha a0 a1
   by_cases z:a=r
   · subst z
     exact ⟨[],jM R,.nil _,(n9 R).symm⟩
   · have:=R.pos a0 a1 z
     omega
 | succ n ih =>
   intro a ha a0 a1
   have z:a≠r:=fun z=>by rw [z,R.root] at ha; omega
   have u:=R.up a a0 a1 z
   obtain ⟨l,e,w,p⟩:=ih (par a) (by omega) u.1.1 u.1.2
   refine ⟨par a :: l,by rw [eO R a0 a1 z,e],.cons u.2.1 w,?_⟩
   rw [jS R a0 a1 z,← p]
   rfl
theorem nS (R:Rooted m rs r par dep) {a:Int} (a0:0≤a) (a1:a < m):(dS par dep a).Nodup:=(iS R _ a rfl a0 a1).1
theorem Wlk.through (g:Good m rs) (R:Rooted m rs r par dep) {a:Int} {l:List Int} (h:Wlk rs a l r):∀ x∈dS par dep a,x∈a :: l:=by
 generalize hc:r=c at h
 induction h with
 | nil a=>intro x hx; rw [← hc,jM R] at hx; rw [← hc]; exact hx
 | @cons a b c l ad w ih =>
   intro x hx
   have ih:=ih hc
   have ra:=(g.adj ad).1
   have rb:=(g.adj ad).2.1
   rcases R.adj ad with ⟨h1,h2⟩ | ⟨h1,h2⟩
   · refine List.mem_cons_of_mem _ (ih x ?_)
     rw [eO R rb.1 rb.2 h1,h2]
     exact List.mem_cons_of_mem _ hx
   · rw [eO R ra.1 ra.2 h1,h2] at hx
     rcases List.mem_cons.mp hx with z | z
     · rw [z]; exact List.mem_cons_self
     · exact List.mem_cons_of_mem _ (ih x z)
theorem Wlk.uniq (g:Good m rs) (R:Rooted m rs r par dep) {a:Int} {l:List Int} (h:Wlk rs a l r) (nd:(a :: l).Nodup):a :: l=dS par dep a:=by
 generalize hc:r=c at h
 induction h with
 | nil a=>rw [← hc,jM R]
 | @cons a b c l ad w ih =>
   have ra:=(g.adj ad).1
   have rb:=(g.adj ad).2.1
   have nd':=List.nodup_cons.mp nd
   rcases R.adj ad with ⟨h1,h2⟩ | ⟨h1,h2⟩
   · refine absurd (Wlk.through g R (hc ▸ w) a ?_) nd'.1
     rw [eO R rb.1 rb.2 h1,h2]
     obtain ⟨k,e⟩:=nM (par:=par) (dep:=dep) a
     rw [e]
     exact List.mem_cons_of_mem _ List.mem_cons_self
   · rw [eO R ra.1 ra.2 h1,h2,ih nd'.2 hc]
variable {para parb parc:Int→Int} {depa depb depc:Int→Nat} {a b c:Int}
theorem vY (g:Good m rs) (A:Rooted m rs a para depa) (C:Rooted m rs c parc depc) (a0:0≤a) (a1:a < m):dS para depa c=(dS parc depc a).reverse:=by
 obtain ⟨l,e,w,_⟩:=lY C _ a rfl a0 a1
 obtain ⟨k,e',w'⟩:=w.rev
 have nd:=nS C a0 a1
 rw [e] at nd ⊢
 rw [e',w'.uniq g A (by rw [← e']; exact (List.reverse_perm _).nodup_iff.mpr nd)]
theorem Br (g:Good m rs) (B:Rooted m rs b parb depb) (C:Rooted m rs c parc depc) (a0:0≤a) (a1:a < m) (b0:0≤b) (b1:b < m) (h:b∈dS parc depc a) :
   (dS parb depb a).dropLast ++ dS parc depc b=dS parc depc a∧gr rs parb depb a * gr rs parc depc b=gr rs parc depc a:=by
 obtain ⟨l,e,w,p⟩:=lY C _ a rfl a0 a1
 have nd:=nS C a0 a1
 rw [e] at h nd
 obtain ⟨l1,l2,el,w1,w2⟩:=w.at_ h
 rw [el,← List.cons_append,List.nodup_append] at nd
 have e1:=w1.uniq g B nd.1
 have bm:b∈a :: l1:=by rw [w1.last]; exact List.mem_append_right _ (List.mem_singleton.mpr rfl)
 have e2:=w2.uniq g C (List.nodup_cons.mpr ⟨fun z=>nd.2.2 b bm b z rfl,nd.2.1⟩)
 refine ⟨?_,?_⟩
 · rw [← e1,← e2,e,el,← List.cons_append]
   conv=>rhs; rw [w1.last]
   rw [List.append_assoc]
   rfl
 · obtain ⟨l1',e1',_,p1⟩:=lY B _ a rfl a0 a1
   obtain ⟨l2',e2',_,p2⟩:=lY C _ b rfl b0 b1
   rw [← e1] at e1'
   rw [← e2] at e2'
   injection e1' with _ e1'
   injection e2' with _ e2'
   rw [← p1,← p2,← p,← e1',← e2',el,uA w1]
end
section
variable {m:Int} {rs:List Road} {r b:Int} {par:Int→Int} {dep:Int→Nat}
theorem se:∀ (n:Nat) (v:Int),mV par b n v=decide (b∈dC par n v)
 | 0,v=>by
   show decide (v=b)=decide (b∈[v])
   exact decide_eq_decide.mpr ⟨fun z=>by rw [z]; exact List.mem_cons_self,fun z=>(List.mem_singleton.mp z).symm⟩
 | n + 1,v=>by
   show (decide (v=b) || mV par b n (par v))=decide (b∈v :: dC par n (par v))
   rw [se n (par v)]
   by_cases c:v=b
   · rw [decide_eq_true c,Bool.true_or,decide_eq_true (by rw [c]; exact List.mem_cons_self)]
   · rw [decide_eq_false c,Bool.false_or]
     exact decide_eq_decide.mpr ⟨fun z=>List.mem_cons_of_mem _ z,fun z=>by
       rcases List.mem_cons.mp z with z | z
       · exact absurd z.symm c
       · exact z⟩
end
end Pb
set_option Elab.async false
set_option linter.all false
set_option maxRecDepth 100000
namespace Pb
open L2 PySem
section
variable {m:Int} {rs:List Road} {r b:Int} {par:Int→Int} {dep:Int→Nat}
theorem zE:∀ (k:Nat) (x:Int),up par (k + 1) x=up par k (par x)
 | 0,_=>rfl
 | k + 1,x=>by show par (up par (k + 1) x)=par (up par k (par x)); rw [zE k x]
theorem kQ:∀ (n k:Nat) (x:Int),k≤n→up par k x∈dC par n x
 | 0,0,x,_=>List.mem_cons_self
 | n + 1,0,x,_=>List.mem_cons_self
 | n + 1,k + 1,x,h=>by
   rw [zE]
   exact List.mem_cons_of_mem _ (kQ n k (par x) (by omega))
theorem rM {f:Int→List Int}:∀ {l:List Int} {k:Nat} {p:Int},(l.flatMap f)[k]?=some p→∃ u∈l,∃ k' rest,(f u)[k']?=some p∧(l.flatMap f).drop k=(f u).drop k' ++ rest
 | [],k,p,h=>by simp at h
 | u :: l,k,p,h=>by
   rw [List.flatMap_cons] at h ⊢
   by_cases c:k < (f u).length
   · rw [List.getElem?_append_left c] at h
     exact ⟨u,List.mem_cons_self,k,l.flatMap f,h,List.drop_append_of_le_length (Nat.le_of_lt c)⟩
   · rw [List.getElem?_append_right (by omega)] at h
     obtain ⟨w,hw,k',rest,h1,h2⟩:=rM h
     refine ⟨w,List.mem_cons_of_mem _ hw,k',rest,h1,?_⟩
     rw [← h2,List.drop_append,List.drop_eq_nil_of_le (by omega),List.nil_append]
theorem yE (g:Good m rs) (R:Rooted m rs r par dep):∀ (n:Nat) (v:Int),m.toNat - 1 - dep v=n→0≤v→v < m→∀ (k:Nat) (p:Int),(cI m rs r par dep v)[k]?=some p→∃ rest,(cI m rs r par dep v).drop k=cI m rs r par dep p ++ rest:=by
 intro n
 induction n with
 | zero =>
   intro v hn v0 v1 k p h
   have e:cI m rs r par dep v=[v]:=by unfold cI; rw [hn]; rfl
   cases k with
   | zero =>
     have:p=v:=by rw [e] at h; exact (Option.some.inj h).symm
     rw [this]
     exact ⟨[],by rw [List.append_nil]; rfl⟩
   | succ k=>rw [e] at h; simp at h
 | succ n ih =>
   intro v hn v0 v1 k p h
   have e:=fU g R v0 v1
   cases k with
   | zero =>
     have:p=v:=by rw [e] at h; exact (Option.some.inj h).symm
     rw [this]
     exact ⟨[],by rw [List.append_nil]; rfl⟩
   | succ k =>
     rw [e,List.getElem?_cons_succ] at h
     obtain ⟨u,hu,k',rest,h1,h2⟩:=rM h
     obtain ⟨ur,un,up⟩:=(cQ g R v0 v1).mp hu
     have du:=R.pos ur.1 ur.2 un
     rw [up] at du
     have dl:=mj R ur.1 ur.2
     obtain ⟨rest',h3⟩:=ih u (by omega) ur.1 ur.2 k' p h1
     exact ⟨rest' ++ rest,by rw [e,List.drop_succ_cons,h2,h3,List.append_assoc]⟩
theorem lm (g:Good m rs) (R:Rooted m rs r par dep) {v:Int} (v0:0≤v) (v1:v < m):v∈cI m rs r par dep v:=by
 rw [fU g R v0 v1]
 exact List.mem_cons_self
theorem Al (g:Good m rs) (R:Rooted m rs r par dep) {p:Int} (p0:0≤p) (p1:p < m) (x:Int):x∈cI m rs r par dep p↔(0≤x∧x < m)∧ben par dep p x=true:=by
 constructor
 · intro h
   obtain ⟨xr,k,e1,e2⟩:=(km g R _ p p0 p1).2 x h
   refine ⟨xr,?_⟩
   unfold ben
   rw [se]
   refine decide_eq_true ?_
   rw [← e2]
   exact kQ _ _ _ (by omega)
 · rintro ⟨xr,h⟩
   generalize hn:dep x=n
   induction n generalizing x with
   | zero =>
     by_cases z:x=r
     · subst z
       have:p=x:=by
         unfold ben at h
         rw [R.root] at h
         exact (of_decide_eq_true h).symm
       rw [this]
       exact lm g R xr.1 xr.2
     · have:=R.pos xr.1 xr.2 z
       omega
   | succ n ih =>
     have z:x≠r:=fun z=>by rw [z,R.root] at hn; omega
     have u:=R.up x xr.1 xr.2 z
     rw [vS R xr.1 xr.2 z] at h
     by_cases y:x=p
     · rw [y]; exact lm g R p0 p1
     · rw [decide_eq_false y,Bool.false_or] at h
       have hp:=ih (par x) u.1 h (by omega)
       obtain ⟨k,hk⟩:=List.getElem?_of_mem hp
       obtain ⟨rest,e⟩:=yE g R _ p rfl p0 p1 k _ hk
       refine List.mem_of_mem_drop (i:=k) ?_
       rw [e,fU g R u.1.1 u.1.2]
       refine List.mem_append_left _ (List.mem_cons_of_mem _ (List.mem_flatMap.mpr ⟨x,(cQ g R u.1.1 u.1.2).mpr ⟨xr,z,rfl⟩,lm g R xr.1 xr.2⟩))
end
end Pb
set_option Elab.async false
set_option linter.all false
namespace L2
open PySem
def Cn (_ j:Int):Prop:=0 < j∧j.natAbs.log2 < 9000
theorem qH {X:Cx}:OpR X (binaryOp .FloorDiv) (rI Cn fun i j=>.int (i / j)):=opI fun i j _ _ _ _ _ hc q=>by
 have h1:(0:Int) < j:=hc.1
 exact PyProof.Rows.floordiv_int (by omega) (by rw [Int.fdiv_eq_ediv_of_nonneg i (by omega)]; exact q) (.inl (PyProof.noPylong_of_log2 hc.2))
end L2
namespace Pb
open PySem L2
end Pb
set_option Elab.async false
set_option linter.all false
set_option maxRecDepth 100000
set_option exponentiation.threshold 5000
namespace Pb
open L2 PySem
section
variable {m:Int} {rs:List Road} {r:Int} {par:Int→Int} {dep:Int→Nat}
variable {op:Int→Int→Int} {held:Int→Int} {con:Int→Int→Int}
end
end Pb
set_option Elab.async false
set_option linter.all false
set_option maxRecDepth 100000
namespace L2
open PySem PySem.Spec PyProof.Rows
section
variable {X:Cx}
end
end L2
namespace Pb
end Pb
set_option Elab.async false
set_option linter.all false
set_option maxRecDepth 100000
namespace L2
open PySem PySem.Spec PyProof.Rows
section
variable {X:Cx}
end
end L2
set_option Elab.async false
set_option linter.all false
set_option maxRecDepth 100000
namespace L2
open PySem PySem.Spec PyProof.Rows
section
variable {P:Program} {w:World} {A:Around} {R:Result→Shared→Prop} {I S:Addr} {fp wr:List Addr} {n:Nat} {Pv:Nat→Value→Prop} {St:Nat→Heap→Prop} {bt:Nat→Nat→Bool} {kw:List (Str × Value)}
end
theorem kM (f:Nat→Int):∀ n,argBest (fun i j=>decide (f i < f j)) n≤n∧∀ i,i≤n→f (argBest (fun i j=>decide (f i < f j)) n)≤f i
 | 0=>⟨Nat.le_refl _,fun i h=>by rw [show i=0 by omega]; exact Int.le_refl _⟩
 | n + 1=>by
   obtain ⟨h1,h2⟩:=kM f n
   show (if decide (f (n + 1) < f (argBest (fun i j=>decide (f i < f j)) n))=true then n + 1 else argBest (fun i j=>decide (f i < f j)) n)≤n + 1∧∀ i,i≤n + 1→f (if decide (f (n + 1) < f (argBest (fun i j=>decide (f i < f j)) n))=true then n + 1 else argBest (fun i j=>decide (f i < f j)) n)≤f i
   by_cases c:f (n + 1) < f (argBest (fun i j=>decide (f i < f j)) n)
   · rw [if_pos (decide_eq_true c)]
     refine ⟨Nat.le_refl _,fun i h=>?_⟩
     by_cases z:i=n + 1
     · rw [z]; exact Int.le_refl _
     · have:=h2 i (by omega)
       omega
   · rw [if_neg (by simpa using c)]
     refine ⟨by omega,fun i h=>?_⟩
     by_cases z:i=n + 1
     · rw [z]; omega
     · exact h2 i (by omega)
section
variable {X:Cx} {x:Str} {p pos kpos:Pos} {e de:Expr} {t tk:TA}
def zQ (K:PySem.W.Frag) (t tk:TA):TE:=fun σ H Q=>t σ H fun vs H1=>tk σ H1 fun zs H2=>∃ (q:Addr) (ns:List Int) (d:V),vs=[.ref q]∧zs=[d]∧SqL K H2 q (ns.map V.int)∧ns≠[]∧∀ y,y∈ns→(∀ x∈ns,y≤x)→Q (.int y) H2
def zK (t:TE):TE:=fun σ H Q=>t σ H fun x H1=>∃ b,x=.bl b∧Q (.bl (b != true)) H1
end
end L2
set_option Elab.async false
set_option linter.all false
set_option maxRecDepth 100000
namespace Pb
open L2 PySem
section
variable {m:Int} {rs:List Road} {r:Int} {par:Int→Int} {dep:Int→Nat}
variable {ch:Int→Option Int} {w:Int} {cn:Int→Int}
end
end Pb
set_option Elab.async false
set_option linter.all false
set_option maxRecDepth 100000
namespace L2
open PySem PySem.Spec PyProof.Rows PySem.W
section
variable {n:Nat}
variable (hn:0 < n)
include hn
end
section
variable {prog:Program} {w:World} {A:Around} {E:Value→Shared→Prop} {s:Shared}
end
end L2
set_option Elab.async false
set_option linter.all false
set_option maxRecDepth 100000
namespace L2
open PySem PySem.Spec PyProof.Rows PySem.W Pb
section
variable {prog:Program} {w:World} {A:Around} {E:Value→Shared→Prop} {s:Shared} {it d:Addr} {i ep:Nat} {es:Array DictEntry}
end
section
variable {prog:Program} {w:World} {A:Around} {E:Value→Shared→Prop} {s:Shared} {fin:Bool} {C:Bool→Shared→Prop}
end
section
variable {prog:Program} {w:World} {A:Around} {E:Value→Shared→Prop} {s:Shared}
end
section
variable {X:Cx}
end
end L2
set_option Elab.async false
set_option linter.all false
set_option maxRecDepth 100000
namespace L2
end L2
namespace Pb
open L2 PySem
section
variable {m:Int} {rs:List Road} {r:Int} {par:Int→Int} {dep:Int→Nat}
end
section
end
end Pb
set_option Elab.async false
set_option linter.all false
set_option maxRecDepth 100000
namespace L2
open PySem PySem.Spec PyProof.Rows
def vH (tk tv:TE):TE:=fun σ H Q=>∀ p,H p=none→iz [(tk,tv)] σ (upd H p (.dT [])) fun ps H2=>H2 p=some (.dT [])∧∃ (k:List Key) (b:Addr) (y:V),ps=[(.ref b,y)]∧H2 b=some (.tup (k.map kV))∧Q (.ref p) (upd H2 p (.dT [(k,y)]))
end L2
set_option Elab.async false
set_option linter.all false
set_option maxRecDepth 100000
namespace Pb
open L2 PySem
inductive Come (m:Int) (rs:List Road) (xs:List Int):List Int→Prop
 | start:Come m rs xs xs
 | step {z:List Int} {a b:Int}:Come m rs xs z→da m rs z (a,b,1)=true→Come m rs xs (bS rs z (a,b,1))
theorem qW:∀ {z:List Int},(∀ x∈z,0≤x)→0≤z.sum
 | [],_=>Int.le_refl 0
 | x :: z,h=>by
   have h1:=h x (.head _)
   have h2:=qW fun y hy=>h y (.tail _ hy)
   rw [List.sum_cons]
   omega
end Pb
namespace Pb
open L2 PySem
section
variable {m:Int} {rs:List Road} {xs:List Int}
theorem Come.len {z:List Int} (h:Come m rs xs z):z.length=xs.length:=by
 induction h with
 | start=>rfl
 | step _ _ ih=>rw [eN]; exact ih
theorem Come.nn (g:Good m rs) (xl:(xs.length:Int)=m) (x0:∀ x∈xs,0≤x) {z:List Int} (h:Come m rs xs z):∀ x∈z,0≤x:=by
 induction h with
 | start=>exact x0
 | @step z a b hz c ih=>exact zZ g (by rw [Come.len hz]; exact xl) ih c
theorem Come.many (g:Good m rs) (xl:(xs.length:Int)=m):∀ (n:Nat) {z:List Int} {a b:Int},Come m rs xs z→da m rs z (a,b,(n:Int) + 1)=true→Come m rs xs (bS rs z (a,b,(n:Int) + 1))
 | 0,z,a,b,h,c=>Come.step h c
 | n + 1,z,a,b,h,c=>by
   have zl:(z.length:Int)=m:=by rw [h.len]; exact xl
   obtain ⟨ca,e⟩:=sS g zl c (f:=1) (by decide) (by omega)
   have c0:=ca 0 _ rfl
   rw [dD] at c0
   have c1:=ca 1 _ rfl
   rw [eS (s:=(a,b,1)) rfl,dD] at c1
   have e1:((n + 1:Nat):Int) + 1 - 1=(n:Int) + 1:=by omega
   rw [e1] at c1 e
   rw [← e]
   exact Come.many g xl n (Come.step h c0) c1
theorem Come.times (g:Good m rs) (xl:(xs.length:Int)=m) {z:List Int} {s:Stp} (h:Come m rs xs z) (c:da m rs z s=true):Come m rs xs (bS rs z s):=by
 obtain ⟨a,b,n⟩:=s
 have n1:=(di (gI c).1).2.2
 have e:n=((n - 1).toNat:Int) + 1:=by simp only at n1; omega
 rw [e] at c ⊢
 exact Come.many g xl _ h c
theorem Come.all (g:Good m rs) (xl:(xs.length:Int)=m) {ss:List Stp} (ca:iu m rs xs ss):∀ i,i≤ss.length→Come m rs xs (dz rs xs ss i)
 | 0,_=>by rw [dD]; exact .start
 | i + 1,h=>by
   have hs:ss[i]?=some ss[i]:=List.getElem?_eq_getElem h
   rw [eS hs]
   exact Come.times g xl (Come.all g xl ca i (by omega)) (ca i _ hs)
variable {r:Int} {par:Int→Int} {dep:Int→Nat}
end
end Pb
set_option Elab.async false
set_option linter.all false
set_option maxRecDepth 100000
namespace L2
open PySem PySem.Spec PyProof.Rows Pb
section
variable {X:Cx}
end
end L2
set_option Elab.async false
set_option linter.all false
set_option maxRecDepth 100000
namespace L2
open PySem PySem.Spec PyProof.Rows
theorem BH:bootBuiltins "abs"=some (.builtin "abs"):=by decide +kernel
def pM (_ j:Int):Prop:=j≠0∧j.natAbs.log2 < 9000
theorem nZ {X:Cx}:OpR X (binaryOp .FloorDiv) (rI pM fun i j=>.int (i.fdiv j)):=opI fun i j _ _ _ _ _ hc q=>PyProof.Rows.floordiv_int hc.1 q (.inl (PyProof.noPylong_of_log2 hc.2))
theorem lF {j:Int} {n:Nat} (h0:j≠0) (h:j.natAbs < 2 ^ n) (hn:n≤9000):j.natAbs.log2 < 9000:=Nat.lt_of_lt_of_le ((Nat.log2_lt (by omega)).mpr h) hn
end L2
namespace Pb
theorem BE (a b:Int):Int.gcd b (a.fmod b)=Int.gcd a b:=by
 rw [Int.fmod_def,Int.gcd_sub_mul_left_right,Int.gcd_comm]
theorem uS {a b:Int} (h:b≠0):(a.fmod b).natAbs < b.natAbs:=by
 have h1:=Int.emod_nonneg a h
 have h2:=Int.emod_lt a h
 rw [Int.fmod_eq_emod]
 split
 · omega
 · rename_i z
   have:a % b≠0:=fun e=>z (.inr (Int.dvd_of_emod_eq_zero e))
   omega
structure Frc (t b p q:Int):Prop where
 pos:0 < q
 one:p.gcd q=1
 eq:p * b=t * q
theorem BS {t b c:Int} (h:b≠0) (hc:c.natAbs=t.gcd b) (hs:0 < c↔0 < b):Frc t b (t.fdiv c) (b.fdiv c):=by
 have gp:=Int.gcd_pos_of_ne_zero_right t h
 have c0:c≠0:=by omega
 obtain ⟨x,hx⟩:c ∣ t:=Int.natAbs_dvd.mp (by rw [hc]; exact Int.gcd_dvd_left ..)
 obtain ⟨y,hy⟩:c ∣ b:=Int.natAbs_dvd.mp (by rw [hc]; exact Int.gcd_dvd_right ..)
 have e:c.natAbs * x.gcd y=c.natAbs * 1:=by rw [← Int.gcd_mul_left,← hx,← hy,← hc,Nat.mul_one]
 subst hx hy
 rw [Int.mul_fdiv_cancel_left _ c0,Int.mul_fdiv_cancel_left _ c0]
 refine ⟨?_,Nat.eq_of_mul_eq_mul_left (by omega) e,?_⟩
 · rcases Int.lt_or_gt_of_ne c0 with z | z
   · have:c * y≤0:=by omega
     rcases Int.lt_trichotomy y 0 with w | w | w
     · have:=Int.mul_pos_of_neg_of_neg z w; omega
     · subst w; simp at h
     · exact w
   · exact Int.pos_of_mul_pos_right (hs.mp z) z
 · rw [Int.mul_left_comm,Int.mul_assoc]
theorem ko {p q p' q':Int} (one:p.gcd q=1) (e:p * q'=p' * q):q.natAbs ∣ q'.natAbs:=by
 have h:Nat.Coprime q.natAbs p.natAbs:=by
   show Nat.gcd _ _=1
   rw [Nat.gcd_comm]
   exact one
 refine h.dvd_of_dvd_mul_left (m:=p.natAbs) ?_
 rw [← Int.natAbs_mul,e,Int.natAbs_mul]
 exact Nat.dvd_mul_left ..
theorem BF {p q p' q':Int} (h0:0 < q) (h1:p.gcd q=1) (h0':0 < q') (h1':p'.gcd q'=1) (e:p * q'=p' * q):p=p'∧q=q':=by
 have d1:=ko h1 e
 have d2:=ko h1' e.symm
 have:=Nat.dvd_antisymm d1 d2
 have e2:q=q':=by omega
 subst e2
 exact ⟨Int.eq_of_mul_eq_mul_right (Int.ne_of_gt h0) e,rfl⟩
theorem A2 (i:Int):(if i < 0 then -i else i)=(i.natAbs:Int):=by split <;> omega
theorem eu {t b p q:Int} (h:Frc t b p q) (b0:b≠0):p.natAbs≤t.natAbs∧q.natAbs≤b.natAbs:=by
 refine ⟨?_,Nat.le_of_dvd (by omega) (ko h.one h.eq)⟩
 by_cases c:t=0
 · have e:=h.eq
   rw [c,Int.zero_mul] at e
   rcases Int.mul_eq_zero.mp e with z | z
   · rw [z]; exact Nat.zero_le _
   · exact absurd z b0
 · refine Nat.le_of_dvd (by omega) ?_
   refine ko (p:=q) (p':=b) (by rw [Int.gcd_comm]; exact h.one) ?_
   rw [Int.mul_comm,← h.eq,Int.mul_comm]
theorem AR {t b t' b' p q:Int} (h:Frc t b p q) (e:t * b'=t' * b) (b0:b≠0):Frc t' b' p q:=by
 refine ⟨h.pos,h.one,Int.eq_of_mul_eq_mul_right b0 ?_⟩
 calc (p * b') * b=(p * b) * b':=by ac_rfl
   _=(t * b') * q:=by rw [h.eq]; ac_rfl
   _=(t' * q) * b:=by rw [e]; ac_rfl
def gK (fs:List (Int × Int)) (tb:Int × Int):Int × Int:=fs.foldl (fun z f=>(z.1 * f.2 + f.1 * z.2,z.2 * f.2)) tb
theorem qL {B:Int}:∀ {fs:List (Int × Int)} {S:Int} {tb:Int × Int},(∀ f∈fs,f.2 ∣ B)→S * tb.2=tb.1 * B→(S + (fs.map fun f=>f.1 * (B / f.2)).sum) * (gK fs tb).2=(gK fs tb).1 * B
 | [],S,tb,_,e=>by
   show (S + 0) * tb.2=tb.1 * B
   rw [Int.add_zero]
   exact e
 | f :: fs,S,tb,h,e=>by
   have ih:=qL (fs:=fs) (S:=S + f.1 * (B / f.2)) (tb:=(tb.1 * f.2 + f.1 * tb.2,tb.2 * f.2)) (fun g hg=>h g (.tail _ hg)) (by
     show (S + f.1 * (B / f.2)) * (tb.2 * f.2)=(tb.1 * f.2 + f.1 * tb.2) * B
     have d:B / f.2 * f.2=B:=Int.ediv_mul_cancel (h f (.head _))
     calc (S + f.1 * (B / f.2)) * (tb.2 * f.2)=(S * tb.2) * f.2 + f.1 * tb.2 * (B / f.2 * f.2):=by rw [Int.add_mul]; congr 1 <;> ac_rfl
       _=(tb.1 * f.2 + f.1 * tb.2) * B:=by rw [e,d,Int.add_mul]; congr 1; ac_rfl)
   rw [List.map_cons,List.sum_cons,← Int.add_assoc]
   exact ih
theorem gS:∀ {fs:List (Int × Int)} {tb:Int × Int},(∀ f∈fs,0 < f.2)→0 < tb.2→0 < (gK fs tb).2
 | [],_,_,h=>h
 | f :: fs,tb,h,h2=>gS (fs:=fs) (tb:=(tb.1 * f.2 + f.1 * tb.2,tb.2 * f.2)) (fun g hg=>h g (.tail _ hg)) (Int.mul_pos h2 (h f (.head _)))
theorem yL {b q:Int} (b0:0 < b) (q0:0 < q):0 < b * (q / (b.gcd q:Int))∧q ∣ b * (q / (b.gcd q:Int)):=by
 obtain ⟨x,hx⟩:=Int.gcd_dvd_left b q
 obtain ⟨y,hy⟩:=Int.gcd_dvd_right b q
 have gp:(0:Int) < b.gcd q:=by have:=Int.gcd_pos_of_ne_zero_right b (Int.ne_of_gt q0); omega
 have e:q / (b.gcd q:Int)=y:=by
   conv=>lhs; arg 1; rw [hy]
   exact Int.mul_ediv_cancel_left _ (Int.ne_of_gt gp)
 rw [e]
 have yp:0 < y:=Int.pos_of_mul_pos_right (by rw [← hy]; exact q0) gp
 refine ⟨Int.mul_pos b0 yp,x,?_⟩
 calc b * y=(b.gcd q * x) * y:=by rw [← hx]
   _=(b.gcd q * y) * x:=by ac_rfl
   _=q * x:=by rw [← hy]
end Pb
namespace L2
open PySem Pb
abbrev FrsAt (H:Hp):List Addr→List (Int × Int)→Prop:=Paired fun q f=>H q=some (.tup [.int f.1,.int f.2])
theorem FrsAt.same {H H':Hp} {qs:List Addr} {fs:List (Int × Int)} (e:Same H H') (h:FrsAt H qs fs):FrsAt H' qs fs:=Paired.imp' (fun q v x=>e q _ x) h
def FrB (n:Nat) (f:Int × Int):Prop:=0 < f.2∧f.1.natAbs < 2 ^ n∧f.2.natAbs < 2 ^ n
end L2
namespace L2
open PySem
theorem Cr {K:PySem.W.Frag} {i j:Nat} {a:Addr} {x y:V} {σ:St} {H:Hp} {Q:St→Hp→Prop} (h:SqT K H a [x,y]) (q:Q ((σ.set i (some x)).set j (some y)) H):qy K 2 (mG (iV i) (mG (iV j) gNil)) (.ref a) σ H Q :=
 ⟨a,_,rfl,h,rfl,_,_,rfl,_,_,rfl,rfl,q⟩
end L2
namespace L2
open PySem
end L2
namespace L2
open PySem PySem.Spec PyProof.Rows Pb
theorem fY {n:Nat}:∀ {fs:List (Int × Int)} {tb:Int × Int} {b:Nat},(∀ f∈fs,FrB n f)→tb.1.natAbs < 2 ^ b→tb.2.natAbs < 2 ^ b→(gK fs tb).1.natAbs < 2 ^ (b + fs.length * (n + 1))∧(gK fs tb).2.natAbs < 2 ^ (b + fs.length * (n + 1))
 | [],tb,b,_,h1,h2=>by
   rw [List.length_nil,Nat.zero_mul,Nat.add_zero]
   exact ⟨h1,h2⟩
 | f :: fs,tb,b,h,h1,h2=>by
   obtain ⟨f0,fb1,fb2⟩:=h f (.head _)
   have a1:(tb.1 * f.2 + f.1 * tb.2).natAbs < 2 ^ (b + n + 1):=lA (cT h1 fb2) (by rw [Int.mul_comm]; exact cT h2 fb1)
   have a2:(tb.2 * f.2).natAbs < 2 ^ (b + n + 1):=bR (cT h2 fb2) (by omega)
   have ih:=fY (fs:=fs) (tb:=(tb.1 * f.2 + f.1 * tb.2,tb.2 * f.2)) (b:=b + n + 1) (fun g hg=>h g (.tail _ hg)) a1 a2
   rw [List.length_cons,show b + (fs.length + 1) * (n + 1)=b + n + 1 + fs.length * (n + 1) by rw [Nat.succ_mul]; omega]
   exact ih
end L2
namespace L2
open PySem
abbrev Ck (K:PySem.W.Frag) (H:Hp):List Addr→List (Int × Int)→Prop:=Paired fun q f=>SqT K H q [.int f.1,.int f.2]
theorem FrsAt.k {K:PySem.W.Frag} {H:Hp} {qs:List Addr} {fs:List (Int × Int)} (h:FrsAt H qs fs):Ck K H qs fs:=Paired.imp' (fun q v x=>SqT.of x) h
def TupK (K:PySem.W.Frag) (a:Addr) (xs:List V):Prop:=∃ (o:Obj) (its:Array Value) (n:Nat),K.lookup a=some o∧o.cls=.type "tuple"∧o.data=.seq its n∧its.size≤sizeLine∧Vals xs its.toList
theorem zJ {K:PySem.W.Frag} {a:Addr} {od:Option Addr} {i j:Int} {t u:Tok} {n:Nat} {sl:Array (Option Value)} (h:K.lookup a=some ⟨.type "tuple",od,.seq #[.int i t,.int j u] n,sl⟩):TupK K a [.int i,.int j] :=
 ⟨_,_,_,h,rfl,rfl,(by show 2≤sizeLine; decide),.cons ⟨_,rfl⟩ (.cons ⟨_,rfl⟩ .nil)⟩
theorem TupK.sq {K:PySem.W.Frag} {H:Hp} {a:Addr} {xs:List V} (h:TupK K a xs):SqT K H a xs:=.inr h
end L2
set_option Elab.async false
set_option linter.all false
set_option maxRecDepth 100000
namespace Pb
open L2 PySem
section
variable {m:Int} {rs:List Road} {r:Int} {par:Int→Int} {dep:Int→Nat}
theorem vz (g:Good m rs) {z:List Int} (zl:(z.length:Int)=m) {a b:Int} (c:da m rs z (a,b,1)=true):(bS rs z (a,b,1)).sum < z.sum:=by
 obtain ⟨is,en⟩:=gI c
 obtain ⟨ar,nb,_⟩:=di is
 obtain ⟨k,ek,tk,kk,br⟩:=hG g is
 have ad:=g.adj ((cU g).mp nb)
 simp only at ar nb ek tk br en ad
 unfold bS
 show ((z.set a.toNat (z.getD a.toNat 0 - 1 * aB rs a b)).set b.toNat ((z.set a.toNat (z.getD a.toNat 0 - 1 * aB rs a b)).getD b.toNat 0 + 1)).sum < z.sum
 rw [nB _ _ _ (by rw [List.length_set]; omega),nB _ _ _ (by omega),tk]
 omega
end
section
variable {m:Int} {rs:List Road} {xs:List Int}
theorem Come.sum_le (g:Good m rs) (xl:(xs.length:Int)=m) {z:List Int} (h:Come m rs xs z):z.sum≤xs.sum:=by
 induction h with
 | start=>exact Int.le_refl _
 | step hz c ih=>exact Int.le_trans (Int.le_of_lt (vz g (by rw [hz.len]; exact xl) c)) ih
end
end Pb
set_option Elab.async false
set_option linter.all false
set_option maxRecDepth 100000
namespace L2
open PySem PySem.Spec PyProof.Rows PySem.W Pb
section
variable {X:Cx} {pins:List (Addr × Obj)} {σ:St} {H:Hp} {s:Shared}
end
def Itd (d:Addr) (o:Obj) (kvs:List (List Key × V)):It :=
 ⟨fun i H=>H d=some (.frz o (.dT kvs))∧i < kvs.length,fun i H x H'=>H'=H∧∃ (q:Addr) (k:List Key) (v:V),x=.ref q∧kvs[i]?=some (k,v)∧H q=some (.tup (k.map kV)),fun i H=>H d=some (.frz o (.dT kvs))∧i=kvs.length⟩
def zS (tl:TE) (g:TG) (tb:TS):TS:=fun D σ H=>tl σ H fun x H1=>∃ (d:Addr) (kvs:List (List Key × V)),x=.ref d∧H1 d=some (.dT kvs) ∧
 ∀ o,fQ (Itd d o kvs) { D with nx:=fun σ' H'=>H' d=some (.frz o (.dT kvs))∧D.nx σ' (upd H' d (.dT kvs)) } g tb σ (upd H1 d (.frz o (.dT kvs)))
section
variable {X:Cx} {tg:Expr}
end
end L2
set_option Elab.async false
set_option linter.all false
set_option maxRecDepth 100000
namespace Pb
open L2 PySem
def aA {α:Type} (l:List α) (f:α→Rat):Rat:=l.foldr (fun x s=>f x + s) 0
section
variable {α β:Type}
theorem aI (x:α) (l:List α) (f:α→Rat):aA (x :: l) f=f x + aA l f:=rfl
theorem dG (l:List α) (f h:α→Rat):aA l (fun x=>f x + h x)=aA l f + aA l h:=by
 induction l with
 | nil=>exact (Rat.add_zero 0).symm
 | cons x l ih=>rw [aI,aI,aI,ih]; grind
theorem bz {l:List α} {f h:α→Rat} (e:∀ x∈l,f x=h x):aA l f=aA l h:=by
 induction l with
 | nil=>rfl
 | cons x l ih=>rw [aI,aI,e x (.head _),ih fun y hy=>e y (.tail _ hy)]
theorem fZ (l:List α):aA l (fun _=>0)=0:=by
 induction l with
 | nil=>rfl
 | cons x l ih=>rw [aI,ih,Rat.add_zero]
theorem eF (l:List α) (f:α→Rat) (c:Rat):aA l (fun x=>f x * c)=aA l f * c:=by
 induction l with
 | nil=>exact (Rat.zero_mul c).symm
 | cons x l ih=>rw [aI,aI,ih]; grind
theorem oE (l:List α) (l':List β) (F:α→β→Rat):aA l (fun x=>aA l' (fun y=>F x y))=aA l' (fun y=>aA l (fun x=>F x y)):=by
 induction l with
 | nil=>exact (fZ l').symm
 | cons x l ih =>
   rw [aI,ih,← dG]
   rfl
theorem ij (l:List α) (p:α→Bool) (f:α→Rat):aA (l.filter p) f=aA l (fun x=>if p x=true then f x else 0):=by
 induction l with
 | nil=>rfl
 | cons x l ih =>
   rw [aI]
   by_cases c:p x=true
   · rw [List.filter_cons_of_pos c,aI,ih,if_pos c]
   · rw [List.filter_cons_of_neg c,ih,if_neg c,Rat.zero_add]
theorem wP (l:List α) (k:α→β) (f:β→Rat):aA (l.map k) f=aA l (fun x=>f (k x)):=by
 induction l with
 | nil=>rfl
 | cons x l ih=>rw [List.map_cons,aI,aI,ih]
theorem uV {l l':List α} (h:l.Perm l') (f:α→Rat):aA l f=aA l' f:=by
 induction h with
 | nil=>rfl
 | cons x _ ih=>rw [aI,aI,ih]
 | swap x y l=>rw [aI,aI,aI,aI]; grind
 | trans _ _ h1 h2=>rw [h1,h2]
theorem iR [DecidableEq α] {l:List α} (nd:l.Nodup) {x:α} (hx:x∈l) (f:α→Rat):aA l f=f x + aA (l.filter fun y=>decide (y≠x)) f:=by
 induction l with
 | nil=>cases hx
 | cons y l ih =>
   obtain ⟨n1,n2⟩:=List.nodup_cons.mp nd
   rw [aI]
   by_cases c:y=x
   · subst c
     rw [List.filter_cons_of_neg (by simp)]
     congr 1
     rw [ij]
     refine bz fun z hz=>?_
     rw [if_pos (show decide (z≠y)=true from decide_eq_true (fun e=>n1 (by rw [← e]; exact hz)))]
   · rw [List.filter_cons_of_pos (by simpa using c),aI]
     rcases List.mem_cons.mp hx with e | e
     · exact absurd e.symm c
     · rw [ih n2 e]; grind
theorem k7 [DecidableEq α] {l:List α} (nd:l.Nodup) {x:α} (hx:x∈l) (f:α→Rat):aA l (fun y=>if x=y then f y else 0)=f x:=by
 rw [iR nd hx,if_pos rfl,bz (h:=fun _=>0) fun y hy=>?_,fZ,Rat.add_zero]
 have:=of_decide_eq_true (List.mem_filter.mp hy).2
 rw [if_neg fun e=>this e.symm]
end
section
variable {m:Int} {rs:List Road} {r:Int} {par:Int→Int} {dep:Int→Nat}
theorem kR (g:Good m rs) (R:Rooted m rs r par dep) (F:Int→Int→Rat):aA (below m.toNat) (fun u=>aA (bM m rs u) (F u))=aA ((below m.toNat).filter fun c=>decide (c≠r)) (fun c=>F c (par c) + F (par c) c):=by
 have nb:(below m.toNat).Nodup:=b7 _
 have rg:∀ {u:Int},u∈below m.toNat→0≤u∧u < m:=fun h=>by have:=mem_below.mp h; omega
 have e1:∀ u∈below m.toNat,aA (bM m rs u) (F u)=aA (below m.toNat) (fun x=>if u≠r∧par u=x then F u x else 0) + aA (below m.toNat) (fun x=>if x≠r∧par x=u then F u x else 0):=fun u hu=>by
   obtain ⟨u0,u1⟩:=rg hu
   rw [← dG]
   show aA ((below m.toNat).filter fun q=>decide (q∈bC rs u)) (F u)=_
   rw [ij]
   refine bz fun x hx=>?_
   obtain ⟨x0,x1⟩:=rg hx
   have iff:decide (x∈bC rs u)=true↔Adj rs u x:=by
     rw [← cU g]
     exact ⟨fun h=>List.mem_filter.mpr ⟨hx,h⟩,fun h=>(List.mem_filter.mp h).2⟩
   by_cases c1:u≠r∧par u=x
   · have h2:=R.up u u0 u1 c1.1
     rw [c1.2] at h2
     rw [if_pos (iff.mpr h2.2.1),if_pos c1,if_neg fun c2=>?_,Rat.add_zero]
     have h3:=R.up x x0 x1 c2.1
     rw [c2.2] at h3
     omega
   · rw [if_neg c1,Rat.zero_add]
     by_cases c2:x≠r∧par x=u
     · have h3:=R.up x x0 x1 c2.1
       rw [c2.2] at h3
       rw [if_pos (iff.mpr h3.2.1.symm),if_pos c2]
     · rw [if_neg c2,if_neg fun h=>?_]
       rcases R.adj (iff.mp h) with h | h
       · exact c2 h
       · exact c1 h
 have e2:∀ (G:Int→Rat) (u:Int),u∈below m.toNat→aA (below m.toNat) (fun x=>if u≠r∧par u=x then G x else 0)=if decide (u≠r)=true then G (par u) else 0:=fun G u hu=>by
   obtain ⟨u0,u1⟩:=rg hu
   by_cases c:u=r
   · rw [if_neg (by rw [decide_eq_true_eq]; exact fun h=>h c),bz (h:=fun _=>0) fun x _=>if_neg fun h=>h.1 c,fZ]
   · have h2:=(R.up u u0 u1 c).1
     rw [if_pos (decide_eq_true c),bz (h:=fun x=>if par u=x then G x else 0) fun x _=>?_]
     · exact k7 nb (mem_below.mpr (by omega)) G
     · by_cases c2:par u=x
       · rw [if_pos ⟨c,c2⟩,if_pos c2]
       · rw [if_neg fun h=>c2 h.2,if_neg c2]
 rw [bz e1,dG,oE (F:=fun u x=>if x≠r∧par x=u then F u x else 0),ij,← dG]
 refine bz fun u hu=>?_
 rw [e2 (F u) u hu,e2 (fun x=>F x u) u hu]
 by_cases c:decide (u≠r)=true
 · rw [if_pos c,if_pos c,if_pos c]
 · rw [if_neg c,if_neg c,if_neg c,Rat.add_zero]
theorem tN (g:Good m rs) (F:Int→Int→Rat):aA (below m.toNat) (fun u=>aA (bM m rs u) (F u))=aA rs (fun x=>F x.a x.b + F x.b x.a):=by
 obtain ⟨par,dep,R⟩:=fW g (Int.le_refl 0) (show 0 < m by have:=g.m1; omega)
 rw [kR g R]
 have kid:∀ z∈rs,((0≤(if z.a≠0∧par z.a=z.b then z.a else z.b)∧(if z.a≠0∧par z.a=z.b then z.a else z.b) < m)∧(if z.a≠0∧par z.a=z.b then z.a else z.b)≠0)∧F (if z.a≠0∧par z.a=z.b then z.a else z.b) (par (if z.a≠0∧par z.a=z.b then z.a else z.b)) + F (par (if z.a≠0∧par z.a=z.b then z.a else z.b)) (if z.a≠0∧par z.a=z.b then z.a else z.b)=F z.a z.b + F z.b z.a:=fun z hz=>by
   have ok:=g.ok z hz
   by_cases c:z.a≠0∧par z.a=z.b
   · rw [if_pos c,c.2]
     exact ⟨⟨⟨ok.a0,ok.a1⟩,c.1⟩,rfl⟩
   · rw [if_neg c]
     rcases R.road z hz with w | w
     · exact absurd w c
     · rw [w.2]
       exact ⟨⟨⟨ok.b0,ok.b1⟩,w.1⟩,Rat.add_comm _ _⟩
 have pm:((below m.toNat).filter fun c=>decide (c≠(0:Int))).Perm (rs.map fun z=>if z.a≠0∧par z.a=z.b then z.a else z.b):=by
   refine eC ((b7 _).filter _) R.one fun x=>?_
   rw [List.mem_filter,mem_below,decide_eq_true_eq,List.mem_map]
   constructor
   · rintro ⟨h1,h2⟩
     obtain ⟨u1,⟨z,hz,j⟩,u3⟩:=R.up x h1.1 (by omega) h2
     refine ⟨z,hz,?_⟩
     rcases j with ⟨j1,j2⟩ | ⟨j1,j2⟩
     · rw [if_pos ⟨by rw [j1]; exact h2,by rw [j1]; exact j2.symm⟩]
       exact j1
     · rw [if_neg fun c=>?_]
       · exact j1
       · have h3:=R.up z.a (by rw [j2]; exact u1.1) (by rw [j2]; exact u1.2) c.1
         rw [c.2,j1,j2] at h3
         omega
   · rintro ⟨z,hz,rfl⟩
     have:=(kid z hz).1
     exact ⟨⟨this.1.1,by omega⟩,this.2⟩
 rw [uV pm,wP]
 exact bz fun z hz=>(kid z hz).2
def evp (rs:List Road) (u x:Int):Rat:=((aB rs u x:Int) - 1:Rat) / (aB rs u x * aB rs x u - 1)
def sep (rs:List Road) (u x:Int):Rat:=((aB rs x u:Int) - 1:Rat) / (aB rs x u * aB rs u x - 1)
def shr (m:Int) (rs:List Road) (F:Int→Int→Rat) (u:Int):Rat:=1 - aA (bM m rs u) (F u)
theorem fK (g:Good m rs) {u x:Int} (h:Adj rs u x):2≤aB rs u x∧aB rs u x≤1000000:=by
 obtain ⟨k,e,h1,h2⟩:=dE g h
 unfold aB
 rw [e]
 exact ⟨h1,h2⟩
theorem Ae {a b:Int} (ha:2≤a) (hb:2≤b):(a:Rat) * (b:Rat) - 1≠0:=by
 have h1:4≤a * b:=by
   have:=Int.mul_le_mul ha hb (by decide) (by omega)
   omega
 intro z
 have z2:((a * b:Int):Rat)=((1:Int):Rat):=by
   rw [Rat.intCast_mul]
   have:(a:Rat) * (b:Rat)=1:=by grind
   rw [this]
   rfl
 have:=Rat.intCast_inj.mp z2
 omega
theorem cN {a:Int} (ha:a≠0):(a:Rat)≠0:=fun z=>ha (Rat.intCast_inj.mp (z.trans rfl))
theorem uI (g:Good m rs) (R:Rooted m rs r par dep) (r0:0≤r) (r1:r < m) {F:Int→Int→Rat} {P:Int→Rat} (Pr:P r=1) (bal:∀ c,0≤c→c < m→c≠r→1 / P c - F c (par c) / P c - F (par c) c / P (par c)=0) :
   aA (below m.toNat) (fun u=>shr m rs F u / P u)=1:=by
 have e1:∀ u∈below m.toNat,shr m rs F u / P u=1 / P u + aA (bM m rs u) (fun x=>F u x / P u) * (-1):=fun u _=>by
   have:aA (bM m rs u) (fun x=>F u x / P u)=aA (bM m rs u) (F u) * (P u)⁻¹:=by
     rw [← eF]
     exact bz fun x _=>Rat.div_def _ _
   rw [this]
   unfold shr
   rw [Rat.div_def,Rat.div_def]
   grind
 rw [bz e1,dG,eF,kR g R (fun u x=>F u x / P u),iR (b7 _) (x:=r) (mem_below.mpr (by omega)) (fun u=>1 / P u),Pr,← eF]
 have e2:=dG ((below m.toNat).filter fun c=>decide (c≠r)) (fun u=>1 / P u) (fun u=>(F u (par u) / P u + F (par u) u / P (par u)) * (-1))
 have e3:aA ((below m.toNat).filter fun c=>decide (c≠r)) (fun u=>1 / P u + (F u (par u) / P u + F (par u) u / P (par u)) * (-1))=0:=by
   rw [← fZ ((below m.toNat).filter fun c=>decide (c≠r))]
   refine bz fun c hc=>?_
   obtain ⟨h1,h2⟩:=List.mem_filter.mp hc
   have h3:=mem_below.mp h1
   have:=bal c h3.1 (by omega) (of_decide_eq_true h2)
   grind
 grind
theorem tI (g:Good m rs) (R:Rooted m rs r par dep) (r0:0≤r) (r1:r < m) {P:Int→Int} (P0:∀ c,0≤c→c < m→P c≠0) (Pr:P r=1) (Pc:∀ c,0≤c→c < m→c≠r→P c=aB rs (par c) c * P (par c)) :
   aA (below m.toNat) (fun u=>shr m rs (sep rs) u / (P u:Rat))=1:=by
 refine uI g R r0 r1 (P:=fun u=>(P u:Rat)) (by show ((P r:Int):Rat)=1; rw [Pr]; rfl) fun c c0 c1 cr=>?_
 obtain ⟨u1,ad,u3⟩:=R.up c c0 c1 cr
 have b2:=(fK g ad).1
 have a2:=(fK g ad.symm).1
 have n1:=Ae b2 a2
 have n2:=cN (P0 (par c) u1.1 u1.2)
 have n3:((aB rs (par c) c:Int):Rat)≠0:=cN (by omega)
 show 1 / ((P c:Int):Rat) - sep rs c (par c) / ((P c:Int):Rat) - sep rs (par c) c / ((P (par c):Int):Rat)=0
 rw [Pc c c0 c1 cr,Rat.intCast_mul]
 unfold sep
 generalize ((aB rs c (par c):Int):Rat)=b at *
 generalize ((aB rs (par c) c:Int):Rat)=a at *
 generalize ((P (par c):Int):Rat)=p at *
 have n4:a * b - 1≠0:=by rw [Rat.mul_comm]; exact n1
 grind
theorem uy (l:List Int):aA l (fun _=>1)=((l.length:Int):Rat):=by
 induction l with
 | nil=>rfl
 | cons x l ih =>
   rw [aI,ih,List.length_cons,Int.natCast_add,Rat.intCast_add]
   exact Rat.add_comm _ _
theorem og (g:Good m rs) (F:Int→Int→Rat):aA (below m.toNat) (shr m rs F)=(m:Rat) + aA rs (fun x=>F x.a x.b + F x.b x.a) * (-1):=by
 have e1:∀ u∈below m.toNat,shr m rs F u=1 + aA (bM m rs u) (F u) * (-1):=fun u _=>by unfold shr; grind
 rw [bz e1,dG,eF,tN g F,uy,aK,Int.toNat_of_nonneg (by have:=g.m1; omega)]
theorem uu (g:Good m rs) {x:Road} (hx:x∈rs):aB rs x.a x.b=x.t∧aB rs x.b x.a=x.u:=by
 obtain ⟨i,hi⟩:=List.getElem?_of_mem hx
 have ne:=(g.adj (show Adj rs x.a x.b from ⟨x,hx,.inl ⟨rfl,rfl⟩⟩)).2.2
 unfold aB
 rw [ge g hi (.inl ⟨rfl,rfl⟩),ge g hi (.inr ⟨rfl,rfl⟩)]
 unfold cY
 rw [if_pos ⟨rfl,rfl⟩,if_neg fun h=>ne h.1,if_pos ⟨rfl,rfl⟩]
 exact ⟨rfl,rfl⟩
theorem gQ:∀ {fs:List (Int × Int)} {tb:Int × Int},(∀ f∈fs,f.2≠0)→tb.2≠0→(((gK fs tb).1:Int):Rat) / (gK fs tb).2=(tb.1:Rat) / tb.2 + aA fs (fun f=>(f.1:Rat) / f.2)
 | [],tb,_,_=>(Rat.add_zero _).symm
 | f :: fs,tb,h,h2=>by
   have f2:=h f (.head _)
   have ih:=gQ (fs:=fs) (tb:=(tb.1 * f.2 + f.1 * tb.2,tb.2 * f.2)) (fun g hg=>h g (.tail _ hg)) (Int.mul_ne_zero h2 f2)
   rw [aI]
   have n1:=cN f2
   have n2:=cN h2
   refine ih.trans ?_
   show ((tb.1 * f.2 + f.1 * tb.2:Int):Rat) / ((tb.2 * f.2:Int):Rat) + _=_
   rw [Rat.intCast_add,Rat.intCast_mul,Rat.intCast_mul,Rat.intCast_mul]
   grind
theorem dN {t b p q:Int} (h:Frc t b p q) (b0:b≠0):(p:Rat) / q=(t:Rat) / b:=by
 have n1:=cN b0
 have n2:=cN (Int.ne_of_gt h.pos)
 have e:(p:Rat) * b=t * q:=by rw [← Rat.intCast_mul,← Rat.intCast_mul,h.eq]
 grind
end
end Pb
namespace Pb
open L2 PySem
theorem eM {α:Type} (l:List α) (x:α) (f:α→Rat):aA (l ++ [x]) f=aA l f + f x:=by
 induction l with
 | nil=>show f x + 0=0 + f x; grind
 | cons y l ih=>rw [List.cons_append,aI,aI,ih]; grind
def Bt (tl:Int→Int) (par:Int→Int):Nat→Int→Int
 | 0,_=>1
 | n + 1,u=>tl u * Bt tl par n (par u)
def tlf (rs:List Road) (par:Int→Int) (to:Bool) (u:Int):Int:=if to=true then aB rs u (par u) else aB rs (par u) u
def prc (rs:List Road) (par:Int→Int) (dep:Int→Nat) (to:Bool) (u:Int):Int:=Bt (tlf rs par to) par (dep u) u
section
variable {m:Int} {rs:List Road} {r:Int} {par:Int→Int} {dep:Int→Nat} {to:Bool}
theorem fC (R:Rooted m rs r par dep):prc rs par dep to r=1:=by unfold prc; rw [R.root]; rfl
theorem gi (R:Rooted m rs r par dep) {c:Int} (c0:0≤c) (c1:c < m) (cr:c≠r):prc rs par dep to c=tlf rs par to c * prc rs par dep to (par c):=by
 have:=(R.up c c0 c1 cr).2.2
 unfold prc
 rw [← this]
 rfl
theorem Av (g:Good m rs) (R:Rooted m rs r par dep) {c:Int} (c0:0≤c) (c1:c < m) (cr:c≠r):2≤tlf rs par to c∧tlf rs par to c≤1000000:=by
 have ad:=(R.up c c0 c1 cr).2.1
 unfold tlf
 split
 · exact fK g ad
 · exact fK g ad.symm
theorem gU (g:Good m rs) (R:Rooted m rs r par dep):∀ (n:Nat) {c:Int},dep c=n→0≤c→c < m→0 < prc rs par dep to c∧(prc rs par dep to c).natAbs < 2 ^ (n * 20 + 1):=by
 intro n
 induction n with
 | zero =>
   intro c e c0 c1
   unfold prc
   rw [e]
   show (0:Int) < 1∧(1:Int).natAbs < 2 ^ 1
   exact ⟨by decide,by decide⟩
 | succ n ih =>
   intro c e c0 c1
   have cr:c≠r:=fun z=>by rw [z,R.root] at e; cases e
   obtain ⟨u1,_,u3⟩:=R.up c c0 c1 cr
   obtain ⟨h1,h2⟩:=ih (c:=par c) (by omega) u1.1 u1.2
   obtain ⟨t1,t2⟩:=Av (to:=to) g R c0 c1 cr
   rw [gi R c0 c1 cr]
   refine ⟨Int.mul_pos (by omega) h1,?_⟩
   rw [show (n + 1) * 20 + 1=20 + (n * 20 + 1) by omega]
   exact cT (by omega) h2
end
end Pb
namespace Pb
open L2 PySem
theorem iU {α β:Type} {f:α→Rat} {k:β→Rat}:∀ {l:List α} {l':List β},l.length=l'.length→(∀ (i:Nat) x y,l[i]?=some x→l'[i]?=some y→f x=k y)→aA l f=aA l' k
 | [],[],_,_=>rfl
 | x :: l,y :: l',hl,h=>by
   rw [aI,aI,h 0 x y rfl rfl,iU (l:=l) (l':=l') (by simpa using hl) fun i x y h1 h2=>h (i + 1) x y (by simpa using h1) (by simpa using h2)]
theorem kX {n i:Nat} {u:Int} (h:(below n)[i]?=some u):u=(i:Int):=by
 have hl:=(List.getElem?_eq_some_iff.mp h).1
 rw [aK] at hl
 unfold below at h
 rw [List.getElem?_map,List.getElem?_range hl] at h
 exact (Option.some.inj h).symm
theorem zY {m:Int} {fs:List (Int × Int)} {S:Int→Rat} {P:Int→Int} (fl:(fs.length:Int)=m) (fv:∀ (i:Nat) f,fs[i]?=some f→(f.1:Rat) / f.2=S i):aA (fs.zip ((below m.toNat).map P)) (fun z=>(z.1.1:Rat) / z.1.2 / z.2)=aA (below m.toNat) (fun u=>S u / (P u:Rat)):=by
 refine iU (by rw [List.length_zip,List.length_map,aK]; omega) fun i z u h1 h2=>?_
 rw [List.getElem?_zip_eq_some,List.getElem?_map,h2] at h1
 have e:=kX h2
 obtain ⟨h3,h4⟩:=h1
 rw [fv i z.1 h3,← Option.some.inj h4,e]
end Pb
namespace Pb
open L2 PySem
end Pb
set_option Elab.async false
set_option linter.all false
set_option maxRecDepth 100000
namespace L2
open PySem PySem.Spec PyProof.Rows
section
variable {X:Cx} {cx:Str} {Nc:List Str} {own:Nat} {js:List Nat} {scope:Scope} {cl:List (Str × Addr)}
end
section
variable {X:Cx} {cx:Str} {Nc:List Str} {own:Nat} {js:List Nat} {scope:Scope} {cl:List (Str × Addr)}
end
end L2
set_option Elab.async false
set_option linter.all false
set_option maxRecDepth 100000
namespace L2
open PySem PySem.Spec PyProof.Rows PySem.W
section
variable {X:Cx}
end
def Its (z:Str):It:=⟨fun i _=>i < z.cps.size,fun i H x H'=>H'=H∧∃ c,z.cps[i]?=some c∧x=.str ⟨#[c]⟩,fun i _=>z.cps.size≤i⟩
section
variable {X:Cx} {tg:Expr}
def AZ (tl:TE):TI:=fun σ H R=>tl σ H fun x H1=>∃ z,x=.str z∧z.cps.all (· < 128)=true∧R (Its z) H1
end
section
variable {P:Program} {w:World} {A:Around} {E:Value→Shared→Prop} {s:Shared}
end
section
variable {X:Cx} {e:Expr} {te:TE} {p2 apos cpos pos2:Pos} {z:Str} {zp:Pos} {zk:Nat}
def uC (K:PySem.W.Frag) (z:Str) (te:TE):TE:=fun σ H Q=>te σ H fun x H1=>∃ (a:Addr) (ys:List Str),x=.ref a∧SqL K H1 a (ys.map V.str)∧(ys.map (·.length)).sum + ys.length * z.length≤16777216∧Q (.str (Str.join z ys.reverse)) H1
end
end L2
set_option Elab.async false
set_option linter.all false
set_option maxRecDepth 100000
namespace Pb
open L2 PySem PySem.W NumText
end Pb
set_option Elab.async false
set_option linter.all false
set_option maxRecDepth 100000
namespace L2
open PySem PySem.Spec PyProof.Rows PySem.W
end L2
namespace Pb
open L2 PySem PySem.W NumText
open PySem.StrLaws (At ChainG occ_tight partsBetween_eq partsFrom strSub_toList subAt_eq sub_whole)
section
variable {X:Str} {u c v:Nat}
end
end Pb
set_option Elab.async false
set_option linter.all false
set_option maxRecDepth 100000
namespace L2
open PySem PySem.Spec PyProof.Rows PySem.W
end L2
namespace Pb
open L2 PySem PySem.W NumText
end Pb
set_option Elab.async false
set_option linter.all false
set_option maxRecDepth 100000
namespace Pb
open L2 PySem
section
variable {m:Int} {rs:List Road} {r:Int} {par:Int→Int} {dep:Int→Nat} {held:Int→Int}
theorem sZ:∀ (xs:List Int),(List.range xs.length).map (fun i=>xs.getD i 0)=xs:=fun xs=>by
 refine List.ext_getElem? fun i=>?_
 rw [List.getElem?_map]
 by_cases h:i < xs.length
 · rw [List.getElem?_range h,List.getElem?_eq_getElem h]
   show some (xs.getD i 0)=_
   rw [List.getD,List.getElem?_eq_getElem h]
   rfl
 · rw [List.getElem?_eq_none (by rw [List.length_range]; omega),List.getElem?_eq_none (by omega)]
   rfl
theorem rS (R:Rooted m rs r par dep):∀ (n:Nat) (v:Int),dep v=n→0≤v→v < m→mV par r n v=true
 | 0,v,e,h0,h1=>by
   refine decide_eq_true (Classical.byContradiction fun h=>?_)
   have:=R.pos h0 h1 h
   omega
 | n + 1,v,e,h0,h1=>by
   show (decide (v=r) || mV par r n (par v))=true
   by_cases h:v=r
   · rw [decide_eq_true h]; rfl
   · have u:=R.up v h0 h1 h
     rw [rS R n (par v) (by omega) u.1.1 u.1.2,Bool.or_true]
theorem oG (g:Good m rs) (R:Rooted m rs r par dep) (r0:0≤r) (r1:r < m):∃ t,cI m rs r par dep r=r :: t∧Order m r par t :=
 mf g R r0 r1 (km g R _ r r0 r1).1 fun v=>by
   rw [Al g R r0 r1]
   exact ⟨fun h=>h.1,fun h=>⟨h,rS R _ v rfl h.1 h.2⟩⟩
structure Pso (m:Int) (rs:List Road) (r:Int) (par:Int→Int) (dep:Int→Nat) (to:Bool) (t cs:List Int):Prop where
 len:(cs.length:Int)=m
 val:∀ u∈r :: t,cs.getD u.toNat 0=prc rs par dep to u
theorem Pso.ahead (R:Rooted m rs r par dep) {tl:List Int} (O:Order m r par tl) {i:Nat} {v:Int} (hv:tl[i]?=some v):par v∈r :: tl.take i∧v ∉ r :: tl.take i:=by
 have vm:=List.mem_of_getElem? hv
 have vr:=O.rng v vm
 have vn:=O.ne vm
 have ndt:=(List.nodup_cons.mp O.nd).2
 have es:tl=tl.take (i + 1) ++ tl.drop (i + 1):=(List.take_append_drop _ _).symm
 have et:tl.take (i + 1)=tl.take i ++ [v]:=by rw [List.take_succ,hv]; rfl
 have nv:v ∉ tl.take i:=fun z=>by
   have nd:=ndt
   rw [es,et] at nd
   exact (List.nodup_append.mp (List.nodup_append.mp nd).1).2.2 v z v (List.mem_singleton.mpr rfl) rfl
 refine ⟨?_,fun z=>(List.mem_cons.mp z).elim vn nv⟩
 have af:=O.af
 rw [es] at af
 rcases af.up v (by rw [et]; exact List.mem_append_right _ (.head _)) with x | x
 · rw [List.mem_singleton.mp x]; exact .head _
 · rw [et] at x
   rcases List.mem_append.mp x with x | x
   · exact .tail _ x
   · exact absurd (List.mem_singleton.mp x) (R.ne vr.1 vr.2 vn)
theorem Pso.step (R:Rooted m rs r par dep) {to:Bool} {tl cs:List Int} (O:Order m r par tl) (r0:0≤r) {i:Nat} {v y:Int} (S:Pso m rs r par dep to (tl.take i) cs) (hv:tl[i]?=some v) (hy:y=cs.getD (par v).toNat 0 * tlf rs par to v):Pso m rs r par dep to (tl.take (i + 1)) (cs.set v.toNat y):=by
 have sl:=S.len
 have vm:=List.mem_of_getElem? hv
 have vr:=O.rng v vm
 have vn:=O.ne vm
 obtain ⟨pa,nv⟩:=Pso.ahead R O hv
 have et:tl.take (i + 1)=tl.take i ++ [v]:=by rw [List.take_succ,hv]; rfl
 refine ⟨by rw [List.length_set]; exact sl,fun u hu=>?_⟩
 rw [et,← List.cons_append] at hu
 rcases List.mem_append.mp hu with hu | hu
 · have ur:0≤u:=by
     rcases List.mem_cons.mp hu with h | h
     · rw [h]; exact r0
     · exact (O.rng u ((List.take_sublist i tl).subset h)).1
   have un:u≠v:=fun z=>nv (z ▸ hu)
   rw [cV _ _ _ _ (by omega),if_neg (by omega)]
   exact S.val u hu
 · rw [List.mem_singleton.mp hu,cV _ _ _ _ (by omega),if_pos rfl,hy,S.val _ pa,gi R vr.1 vr.2 vn,Int.mul_comm]
theorem Pso.done (g:Good m rs) {to:Bool} {tl cs:List Int} (O:Order m r par tl) (S:Pso m rs r par dep to tl cs):cs=(below m.toNat).map (prc rs par dep to):=by
 have sl:=S.len
 have h:(below m.toNat).map (prc rs par dep to)=(below m.toNat).map fun v=>cs.getD v.toNat 0:=List.map_congr_left fun v hv=>by
   obtain ⟨v0,v1⟩:=mem_below.mp hv
   exact (S.val v (List.mem_cons.mpr (O.all v v0 (by omega)))).symm
 rw [h]
 unfold below
 rw [List.map_map,show m.toNat=cs.length by omega]
 exact (sZ cs).symm
end
end Pb
set_option Elab.async false
set_option linter.all false
set_option maxRecDepth 100000
namespace L2
open PySem PySem.Spec PyProof.Rows
section
variable {prog:Program} {w:World} {A:Around} {E:Value→Shared→Prop} {R:Result→Shared→Prop} {s:Shared}
end
section
variable {M:Model} {A:Around} {E:Value→Shared→Prop} {s:Shared} {Q:Unit→Shared→Prop} {fs:List Addr} {ea T L:Addr} {cls fl hd:Value} {od:Option Addr} {base:Heap} {env:Env} {outer:List Env}
end
section
variable {P:Program} {w:World} {K:PySem.W.Frag} {mg:Str→Option Value} {base:Heap} {N:List Str} {qual:Str} {scope:Scope} {f:Addr} {cd:Value} {A:Around} {outer:List Env} {s:Shared} {H:Hp} {E:XK}
end
section
variable {X:Cx} {Nc:List Str} {own:Nat} {js:List Nat} {scope:Scope} {cl:List (Str × Addr)}
end
section
variable {X:Cx} {Nc:List Str} {own:Nat} {js:List Nat} {scope:Scope} {cl:List (Str × Addr)}
end
section
variable {X:Cx}
end
end L2
set_option Elab.async false
set_option linter.all false
set_option maxRecDepth 100000
namespace L2
open PySem PySem.Spec PyProof.Rows
section
variable {prog:Program} {w:World} {A:Around} {E:Value→Shared→Prop} {h:Heap} {g:Array GenState} {d:Drawn} {t:Nat} {os:OsState}
variable {nm q:Str} {C N:Addr} {bs bm bmB:List Value} {hdct:Bool} {sn:List Str} {sub:List Value} {ab:Bool} {col:Option Bool} {dd:Option Addr} {k0 k1 k2 k3 k5:Option Value} {B newId initId:String}
end
section
variable {M:Model} {A:Around} {E:Value→Shared→Prop} {env:Env}
variable {nm q:Str} {C N:Addr} {bs bm:List Value} {hdct:Bool} {sn:List Str} {sub:List Value} {ab:Bool} {col:Option Bool} {dd:Option Addr} {k0 k1 k2 k3 k5:Option Value} {newId:String}
end
section
variable {prog:Program} {w:World} {A:Around} {E:Value→Shared→Prop} {s:Shared} {env:Env}
variable {nm q:Str} {C N:Addr} {bs bm bmB:List Value} {hdct:Bool} {sn:List Str} {sub:List Value} {ab:Bool} {col:Option Bool} {dd:Option Addr} {k0 k1 k2 k3 k5:Option Value} {B newId initId:String}
end
section
variable {X:Cx} {pins:List (Addr × Obj)} {σ:St} {H:Hp} {s:Shared}
end
section
variable {P:Program} {w:World} {K:PySem.W.Frag} {mg:Str→Option Value} {base:Heap} {N:List Str} {qual:Str} {scope:Scope} {f:Addr} {cd:Value} {A:Around} {outer:List Env} {s:Shared} {H:Hp} {E:XK}
end
section
variable {X:Cx} {x:Str} {np cpos pos:Pos} {e0:Expr} {es:List Expr} {t:TA} {C fI:Addr} {E:XK} {CX:CXT} {k:Nat} {fd:FuncData} {ps:List Str} {sp:Sp}
end
section
variable {X:Cx} {x:Str} {np apos pos:Pos} {e0:Expr} {es:List Expr} {t:TA} {Tl:Addr} {pl:Sem Bool}
end
end L2
set_option Elab.async false
set_option linter.all false
set_option maxRecDepth 100000
namespace L2
open PySem PySem.Spec PyProof.Rows PySem.W PySem.Builtin PySem.Builtin.ObjectAttr
section
variable {K:PySem.W.Frag} {prog:Program} {w:World} {A:Around} {s:Shared} {x C Tl:Addr} {R:Result→Shared→Prop}
end
section
variable {X:Cx} {pins:List (Addr × Obj)} {σ:St} {H:Hp} {s:Shared}
end
section
variable {X:Cx} {pins:List (Addr × Obj)} {σ:St} {H:Hp} {s:Shared} {A:Around} {E:Value→Shared→Prop} {ea C Tl:Addr} {f:Str}
end
section
variable {X:Cx} {o value:Expr} {ta tv:TE} {f:Str} {pos pos':Pos}
end
section
variable {prog:Program} {w:World} {A:Around} {E:Value→Shared→Prop} {s:Shared} {K:PySem.W.Frag} {x C:Addr} {ox:Obj} {od:Obj}
end
section
variable {X:Cx} {o:Expr} {ta:TE} {f:Str} {pos:Pos}
end
end L2
set_option Elab.async false
set_option linter.all false
set_option maxRecDepth 100000
namespace L2
open PySem
def vF (K:PySem.W.Frag) (C':Addr) (ts:TS) (tr:TH):TH:=fun D σ cls od H=>∃ C b,cls=.ref C∧PySem.W.mroIn K C (.ref C')=some b∧if b=true then ts D σ H else tr D σ cls od H
section
variable {X:Cx} {x:Str} {np pos:Pos} {C':Addr} {b0:Stmt} {suite:List Stmt} {rest:List ExceptHandler} {ts:TS} {tr:TH}
end
end L2
namespace Pb
open L2 PySem
end Pb
set_option Elab.async false
set_option linter.all false
set_option maxRecDepth 100000
namespace Pb
open L2 PySem
section
variable {m:Int} {rs:List Road}
def dlt (rs:List Road) (v:Int) (s:Stp):Int:=(if s.2.1=v then s.2.2 else 0) - (if s.1=v then s.2.2 * aB rs s.1 s.2.1 else 0)
def Cl (m:Int) (s:Stp):Prop:=(0≤s.1∧s.1 < m)∧(0≤s.2.1∧s.2.1 < m)∧s.1≠s.2.1
theorem xc {xs:List Int} (xl:(xs.length:Int)=m) {s:Stp} (ps:Cl m s) {v:Int} (v0:0≤v) (v1:v < m):(bS rs xs s).getD v.toNat 0=xs.getD v.toNat 0 + dlt rs v s:=by
 obtain ⟨a,b,n⟩:=s
 obtain ⟨ar,br,ne⟩:=ps
 change 0≤a∧a < m at ar
 change 0≤b∧b < m at br
 change a≠b at ne
 unfold bS dlt
 show ((xs.set a.toNat (xs.getD a.toNat 0 - n * aB rs a b)).set b.toNat ((xs.set a.toNat (xs.getD a.toNat 0 - n * aB rs a b)).getD b.toNat 0 + n)).getD v.toNat 0=xs.getD v.toNat 0 + ((if b=v then n else 0) - (if a=v then n * aB rs a b else 0))
 generalize n * aB rs a b=k
 rw [cV _ _ _ _ (by rw [List.length_set]; omega),cV _ _ _ _ (by omega),cV _ _ _ _ (by omega)]
 by_cases c:b=v
 · subst c
   rw [if_pos rfl,if_pos rfl,if_neg ne,if_neg (show ¬ a.toNat=b.toNat by omega)]
   omega
 · rw [if_neg (show ¬ b.toNat=v.toNat by omega),if_neg c]
   by_cases d:a=v
   · subst d
     rw [if_pos rfl,if_pos rfl]
     omega
   · rw [if_neg (show ¬ a.toNat=v.toNat by omega),if_neg d]
     omega
end
section
variable {m:Int} {rs:List Road} {r:Int} {par:Int→Int} {dep:Int→Nat} {st:Int→Int} {xs ys:List Int}
theorem ni {ys:List Int} (y0:∀ y∈ys,0≤y) (i:Nat):0≤ys.getD i 0:=by
 rw [List.getD]
 cases e:ys[i]? with
 | none=>exact Int.le_refl _
 | some y=>exact y0 y (List.mem_of_getElem? e)
end
end Pb
set_option Elab.async false
set_option linter.all false
set_option maxRecDepth 100000
namespace L2
open PySem PySem.Spec PyProof.Rows
section
variable {X:Cx}
theorem uU (hc:X.calm=true):eB X (.builtin "min") (fun xs H Q=>∃ (p:Addr) (ns:List Int),xs=[.ref p]∧SqL X.K H p (ns.map V.int)∧ns≠[]∧∀ y,y∈ns→(∀ x∈ns,y≤x)→Q (.int y) H):=by
 intro pins s σ H xs us Q I r h
 obtain ⟨p,ns,rfl,hp,hne,q⟩:=h
 obtain ⟨u,rfl,ru⟩:=gz r
 cases ru
 have hh:X.A.in1.handled=none:=I.ok.hd hc
 obtain ⟨its,rv,pl,hz⟩:=I.list hp
 have hlen:its.length=ns.length:=by rw [← rv.length,List.length_map]
 have hv:∀ (i:Nat) (v:Value),its.toArray[i]?=some v→∃ t,v=Value.int (ns.getD i 0) t:=fun i v hP=>by
   have hi:its[i]?=some v:=by simpa using hP
   have hib:i < ns.length:=by rw [← hlen]; exact (List.getElem?_eq_some_iff.mp hi).1
   obtain ⟨u,hu,ru⟩:=rv.get (i:=i) (x:=V.int ns[i]) (by rw [List.getElem?_map,List.getElem?_eq_getElem hib]; rfl)
   rw [hi] at hu; cases hu
   obtain ⟨t,e⟩:=(show ∃ t,v=Value.int ns[i] t from ru)
   exact ⟨t,by rw [e]; simp [List.getD,hib]⟩
 have hl:=pl.isList
 have hlt:=pl.lt
 have n0:0 < ns.length:=List.length_pos_iff.mpr hne
 refine call_min_walk (wpAny_pyIter_list hl ?_)
 refine ⟨s.heap.objs.size,[s.heap.objs.size,p],[s.heap.objs.size],its.toArray.size,_,_,_,rfl,Walks.list (A:=X.A.in1) hh _ p (Nat.ne_of_lt hlt) its.toArray,
   ⟨⟨_,Heap.get?_push_size _ rfl,rfl,rfl⟩,hl.push _⟩,fun b hb=>?_,by rw [List.size_toArray,hlen]; exact n0,CmpOf.ints_lt (fun i=>ns.getD i 0) fun i v hP=>hv i v hP,fun v h' tk hP hk=>?_⟩
 · simp only [Heap.push,Array.size_push]
   rcases List.mem_cons.mp hb with e | e
   · rw [e]; exact Nat.lt_succ_self _
   · rw [List.mem_singleton.mp e]; exact Nat.lt_succ_of_lt hlt
 · have kk:∀ b o,s.heap.get? b=some o→h'.get? b=some o:=fun b o eb=>hk b o (fun hm=>by rw [List.mem_singleton.mp hm] at eb; exact Nat.lt_irrefl _ (Heap.lt_size eb)) (Heap.get?_push_of_some _ eb)
   obtain ⟨t,rfl⟩:=hv _ v hP
   obtain ⟨a1,a2⟩:=kM (fun i=>ns.getD i 0) (its.toArray.size - 1)
   rw [List.size_toArray,hlen] at a1 a2 ⊢
   generalize argBest (fun i j=>decide (ns.getD i 0 < ns.getD j 0)) (ns.length - 1)=b at a1 a2 ⊢
   have hb:b < ns.length:=by omega
   refine ⟨.int _,H,I.kept (t':=tk) kk,⟨t,rfl⟩,q _ ?_ fun x hx=>?_⟩
   · rw [List.getD,List.getElem?_eq_getElem hb]
     exact List.getElem_mem hb
   · obtain ⟨i,hi,rfl⟩:=List.getElem_of_mem hx
     have:=a2 i (by omega)
     have e:ns.getD i 0=ns[i]:=by rw [List.getD,List.getElem?_eq_getElem hi]; rfl
     rw [e] at this
     exact this
end
end L2
namespace Pb
open L2 PySem
theorem mU {α:Type} {f h:α→Rat}:∀ {l:List α},(∀ x∈l,f x≤h x)→aA l f≤aA l h
 | [],_=>Rat.le_refl
 | x :: l,e=>by
   rw [aI,aI]
   exact Rat.le_trans (Rat.add_le_add_right.mpr (e x List.mem_cons_self)) (Rat.add_le_add_left.mpr (mU fun y hy=>e y (List.mem_cons_of_mem _ hy)))
theorem z0 {α:Type} {f:α→Rat} {l:List α} (e:∀ x∈l,0≤f x):0≤aA l f:=by
 have:=mU (f:=fun _=>0) (h:=f) (l:=l) e
 rw [fZ] at this
 exact this
theorem ny {a:Int} (h:0≤a):(0:Rat)≤(a:Rat):=Rat.intCast_le_intCast.mpr h
theorem eU {a:Int} (h:0 < a):(0:Rat) < (a:Rat):=Rat.intCast_lt_intCast.mpr h
theorem p9 {a b:Rat} (h:0≤a) (k:0 < b):0≤a / b:=by
 rw [Rat.div_def]
 exact Rat.mul_nonneg h (Rat.le_of_lt (Rat.inv_pos.mpr k))
def wth (m:Int) (P:Int→Int) (xs:List Int):Rat:=aA (below m.toNat) (fun u=>((xs.getD u.toNat 0:Int):Rat) / (P u:Rat))
section
variable {m:Int} {rs:List Road} {r:Int} {par:Int→Int} {dep:Int→Nat} {P:Int→Int} {xs:List Int}
theorem BO {n p q k t:Rat} (hn:0≤n) (hp:0 < p) (hk:1≤k) (ht:1≤t) (e:q=k * p):n / q≤n * t / p:=by
 have hk0:k≠0:=by intro z; rw [z] at hk; exact absurd hk (by decide)
 have hp0:p≠0:=fun z=>by rw [z] at hp; exact absurd hp (by decide)
 have e1:n * t / p=n / q + n * (t * k - 1) / (k * p):=by rw [e]; grind
 have h1:0≤t * k - 1:=by
   have h0:(0:Rat)≤(t - 1) * k:=Rat.mul_nonneg (by grind) (by grind)
   have:t * k - 1=(t - 1) * k + (k - 1):=by grind
   grind
 have h2:0≤n * (t * k - 1) / (k * p):=p9 (Rat.mul_nonneg hn h1) (Rat.mul_pos (by grind) hp)
 grind
theorem yT (g:Good m rs) (R:Rooted m rs r par dep) (P0:∀ c,0≤c→c < m→0 < P c) (Pc:∀ c,0≤c→c < m→c≠r→P c=aB rs c (par c) * P (par c)) (xl:(xs.length:Int)=m) {s:Stp} (hc:da m rs xs s=true):wth m P (bS rs xs s)≤wth m P xs:=by
 have is:=(gI hc).1
 obtain ⟨ar,nb,n1⟩:=di is
 have ad:=(cU g).mp nb
 obtain ⟨_,br,ne⟩:=g.adj ad
 obtain ⟨a,b,n⟩:=s
 change 0≤a∧a < m at ar
 change 0≤b∧b < m at br
 change a≠b at ne
 change 1≤n at n1
 change Adj rs a b at ad
 have e:wth m P (bS rs xs (a,b,n))=wth m P xs + ((n:Rat) / (P b:Rat) + -((n * aB rs a b:Int):Rat) / (P a:Rat)):=by
   unfold wth
   have h1:aA (below m.toNat) (fun u=>(((bS rs xs (a,b,n)).getD u.toNat 0:Int):Rat) / (P u:Rat))=aA (below m.toNat) (fun u=>((xs.getD u.toNat 0:Int):Rat) / (P u:Rat) + ((if b=u then (n:Rat) / (P u:Rat) else 0) + (if a=u then -((n * aB rs a b:Int):Rat) / (P u:Rat) else 0))):=by
     refine bz fun u hu=>?_
     obtain ⟨u0,u1⟩:=mem_below.mp hu
     rw [xc xl ⟨ar,br,ne⟩ u0 (by omega)]
     unfold dlt
     show ((xs.getD u.toNat 0 + ((if b=u then n else 0) - (if a=u then n * aB rs a b else 0)):Int):Rat) / _=_
     by_cases z:b=u
     · have z2:¬ a=u:=fun w=>ne (w.trans z.symm)
       rw [if_pos z,if_neg z2,if_pos z,if_neg z2,Int.sub_zero,Rat.intCast_add,Rat.add_zero]
       rw [Rat.div_def,Rat.add_mul,Rat.div_def,Rat.div_def]
     · rw [if_neg z,if_neg z]
       by_cases y:a=u
       · rw [if_pos y,if_pos y,Int.zero_sub,Rat.intCast_add,Rat.intCast_neg,Rat.zero_add]
         rw [Rat.div_def,Rat.add_mul,Rat.div_def,Rat.div_def]
       · rw [if_neg y,if_neg y,Int.sub_zero,Int.add_zero,Rat.add_zero,Rat.add_zero]
   rw [h1,dG,dG,k7 (b7 _) (mem_below.mpr ⟨br.1,by omega⟩),k7 (b7 _) (mem_below.mpr ⟨ar.1,by omega⟩)]
 rw [e]
 have pa:=P0 a ar.1 ar.2
 have pb:=P0 b br.1 br.2
 have pa':=eU pa
 have pb':=eU pb
 have n0:(0:Rat)≤(n:Rat):=ny (by omega)
 have t2:=(fK g ad).1
 have key:(n:Rat) / (P b:Rat)≤((n * aB rs a b:Int):Rat) / (P a:Rat):=by
   rw [Rat.intCast_mul]
   have t1:(1:Rat)≤((aB rs a b:Int):Rat):=Rat.intCast_le_intCast.mpr (show (1:Int)≤aB rs a b by omega)
   obtain ⟨x,hx,j⟩:=id ad
   have cs:(a≠r∧par a=b)∨(b≠r∧par b=a):=by
     rcases R.road x hx with ⟨w1,w2⟩ | ⟨w1,w2⟩ <;> rcases j with ⟨y1,y2⟩ | ⟨y1,y2⟩
     · rw [← y1,← y2]; exact .inl ⟨w1,w2⟩
     · rw [← y1,← y2]; first | exact .inr ⟨w1,w2⟩ | exact .inl ⟨w1,w2⟩
     · rw [← y1,← y2]; first | exact .inr ⟨w1,w2⟩ | exact .inl ⟨w1,w2⟩
     · rw [← y1,← y2]; first | exact .inr ⟨w1,w2⟩ | exact .inl ⟨w1,w2⟩
   rcases cs with ⟨w1,w2⟩ | ⟨w1,w2⟩
   · have ep:=Pc a ar.1 ar.2 w1
     rw [w2] at ep
     rw [ep,Rat.intCast_mul]
     have q1:((aB rs a b:Int):Rat)≠0:=cN (by omega)
     have q2:((P b:Int):Rat)≠0:=cN (by omega)
     have:(n:Rat) / (P b:Rat)=(n:Rat) * ((aB rs a b:Int):Rat) / (((aB rs a b:Int):Rat) * ((P b:Int):Rat)):=by grind
     rw [this]
     exact Rat.le_refl
   · have ep:=Pc b br.1 br.2 w1
     rw [w2] at ep
     have k2:=(fK g ad.symm).1
     refine BO n0 pa' (Rat.intCast_le_intCast.mpr (show (1:Int)≤aB rs b a by omega)) t1 ?_
     rw [ep,Rat.intCast_mul]
 have e2:-((n * aB rs a b:Int):Rat) / (P a:Rat)=-(((n * aB rs a b:Int):Rat) / (P a:Rat)):=by
   rw [Rat.div_def,Rat.div_def,Rat.neg_mul]
 rw [e2]
 grind
theorem rZ (g:Good m rs) (R:Rooted m rs r par dep) (P0:∀ c,0≤c→c < m→0 < P c) (Pc:∀ c,0≤c→c < m→c≠r→P c=aB rs c (par c) * P (par c)) (xl:(xs.length:Int)=m) {ss:List Stp} (ca:iu m rs xs ss):∀ i,i≤ss.length→wth m P (dz rs xs ss i)≤wth m P xs:=by
 intro i
 induction i with
 | zero=>intro _; rw [dD]; exact Rat.le_refl
 | succ i ih =>
   intro hi
   have hs:=List.getElem?_eq_getElem (show i < ss.length by omega)
   rw [eS hs]
   exact Rat.le_trans (yT g R P0 Pc (by rw [lQ]; exact xl) (ca i _ hs)) (ih (by omega))
theorem B7 (P0:∀ c,0≤c→c < m→0 < P c) (Pr:P r=1) (r0:0≤r) (r1:r < m) (x0:∀ x∈xs,0≤x):((xs.getD r.toNat 0:Int):Rat)≤wth m P xs:=by
 unfold wth
 rw [iR (b7 _) (mem_below.mpr ⟨r0,by omega⟩),Pr]
 have:0≤aA ((below m.toNat).filter fun y=>decide (y≠r)) (fun u=>((xs.getD u.toNat 0:Int):Rat) / (P u:Rat)):=z0 fun u hu=>by
   obtain ⟨u0,u1⟩:=mem_below.mp (List.mem_filter.mp hu).1
   exact p9 (ny (ni x0 _)) (eU (P0 u u0 (by omega)))
 have e:((xs.getD r.toNat 0:Int):Rat) / ((1:Int):Rat)=((xs.getD r.toNat 0:Int):Rat):=by
   show _ / (1:Rat)=_
   grind
 rw [e]
 grind
theorem pC (g:Good m rs) (R:Rooted m rs r par dep) (r0:0≤r) (r1:r < m) (P0:∀ c,0≤c→c < m→0 < P c) (Pr:P r=1) (Pc:∀ c,0≤c→c < m→c≠r→P c=aB rs c (par c) * P (par c)) (xl:(xs.length:Int)=m) (x0:∀ x∈xs,0≤x) {tl:List Int} (O:Order m r par tl):((gat m rs r par dep (fun v=>xs.getD v.toNat 0) (giv rs par) r:Int):Rat)≤wth m P xs:=by
 obtain ⟨h1,h2,h3,_⟩:=jW g R r0 r1 x0 xl O rfl
 rw [← h1]
 exact Rat.le_trans (B7 P0 Pr r0 r1 h3) (rZ g R P0 Pc xl (jH g R x0 xl O) _ (Nat.le_refl _))
theorem qp (g:Good m rs) (R:Rooted m rs r par dep):∀ (n:Nat) {c:Int},dep c=n→0≤c→c < m→prc rs par dep true c=gr rs par dep c:=by
 intro n
 induction n with
 | zero =>
   intro c e c0 c1
   unfold prc gr
   rw [e]
   rfl
 | succ n ih =>
   intro c e c0 c1
   have cr:c≠r:=fun z=>by rw [z,R.root] at e; cases e
   obtain ⟨u1,ad,u3⟩:=R.up c c0 c1 cr
   obtain ⟨k,hk,_⟩:=dE g ad
   rw [gi R c0 c1 cr,jS R c0 c1 cr,ih (by omega) u1.1 u1.2]
   unfold tlf aB
   rw [if_pos rfl,hk]
   rfl
theorem Aa (g:Good m rs) {PAR:Int→Int→Int} {DEP:Int→Int→Nat} (RR:∀ r,0≤r→r < m→Rooted m rs r (PAR r) (DEP r)) {u:Int} (u0:0≤u) (u1:u < m):∀ (n:Nat) {c:Int},DEP u c=n→0≤c→c < m→prc rs (PAR u) (DEP u) false c=prc rs (PAR c) (DEP c) true u:=by
 intro n
 have U:=RR u u0 u1
 induction n with
 | zero =>
   intro c e c0 c1
   have ec:c=u:=by
     by_cases z:c=u
     · exact z
     · have:=(U.up c c0 c1 z).2.2
       omega
   rw [ec,fC U,fC U]
 | succ n ih =>
   intro c e c0 c1
   have cu:c≠u:=fun z=>by rw [z,U.root] at e; cases e
   obtain ⟨p1,ad,u3⟩:=U.up c c0 c1 cu
   have C:=RR c c0 c1
   have B:=RR (PAR u c) p1.1 p1.2
   rw [gi U c0 c1 cu,ih (by omega) p1.1 p1.2,qp g B _ rfl u0 u1,qp g C _ rfl u0 u1]
   have hin:PAR u c∈dS (PAR c) (DEP c) u:=by
     rw [vY g C U c0 c1,eO U c0 c1 cu]
     obtain ⟨l,hl⟩:=nM (par:=PAR u) (dep:=DEP u) (PAR u c)
     rw [hl]
     simp
   rw [← (Br g B C u0 u1 p1.1 p1.2 hin).2]
   have pc:PAR u c≠c:=U.ne c0 c1 cu
   have pp:PAR c (PAR u c)=c:=by
     obtain ⟨x,hx,j⟩:=id ad
     rcases C.road x hx with ⟨w1,w2⟩ | ⟨w1,w2⟩ <;> rcases j with ⟨y1,y2⟩ | ⟨y1,y2⟩
     · exact absurd y1 w1
     · rw [← y2,w2]; exact y1
     · rw [← y2,w2]; exact y1
     · exact absurd y1 w1
   obtain ⟨k,hk,_⟩:=dE g ad.symm
   have e2:gr rs (PAR c) (DEP c) (PAR u c)=k:=by
     rw [jS C p1.1 p1.2 pc,pp,n9 C,hk]
     exact Int.mul_one _
   rw [e2,Int.mul_comm]
   unfold tlf aB
   rw [if_neg (by decide),hk]
   rfl
theorem rm (g:Good m rs) {PAR:Int→Int→Int} {DEP:Int→Int→Nat} (RR:∀ r,0≤r→r < m→Rooted m rs r (PAR r) (DEP r)):aA (below m.toNat) (fun u=>((xs.getD u.toNat 0:Int):Rat))=aA (below m.toNat) (fun v=>wth m (prc rs (PAR v) (DEP v) true) xs * shr m rs (sep rs) v):=by
 have h1:∀ u∈below m.toNat,((xs.getD u.toNat 0:Int):Rat)=aA (below m.toNat) (fun v=>((xs.getD u.toNat 0:Int):Rat) / ((prc rs (PAR v) (DEP v) true u:Int):Rat) * shr m rs (sep rs) v):=fun u hu=>by
   obtain ⟨u0,u1⟩:=mem_below.mp hu
   have U:=RR u u0 (by omega)
   have one:=tI g U u0 (by omega) (P:=prc rs (PAR u) (DEP u) false) (fun c c0 c1=>by have:=(gU (to:=false) g U _ rfl c0 c1).1; omega) (fC U) (fun c c0 c1 cr=>by rw [gi U c0 c1 cr]; rfl)
   have e:aA (below m.toNat) (fun v=>((xs.getD u.toNat 0:Int):Rat) / ((prc rs (PAR v) (DEP v) true u:Int):Rat) * shr m rs (sep rs) v)=aA (below m.toNat) (fun v=>shr m rs (sep rs) v / ((prc rs (PAR u) (DEP u) false v:Int):Rat) * ((xs.getD u.toNat 0:Int):Rat)):=by
     refine bz fun v hv=>?_
     obtain ⟨v0,v1⟩:=mem_below.mp hv
     rw [Aa g RR u0 (by omega) _ rfl v0 (by omega)]
     rw [Rat.div_def,Rat.div_def]
     grind
   rw [e,eF,one,Rat.one_mul]
 rw [bz h1,oE]
 refine bz fun v hv=>?_
 rw [eF]
 rfl
theorem rE (g:Good m rs):aA (below m.toNat) (shr m rs (evp rs))=aA (below m.toNat) (shr m rs (sep rs)):=by
 rw [og g,og g]
 congr 2
 refine bz fun x hx=>?_
 obtain ⟨h1,h2⟩:=uu g hx
 unfold evp sep
 rw [h1,h2]
 grind
theorem q9 (g:Good m rs) {PAR:Int→Int→Int} {DEP:Int→Int→Nat} (RR:∀ r,0≤r→r < m→Rooted m rs r (PAR r) (DEP r)) (xl:(xs.length:Int)=m) (x0:∀ x∈xs,0≤x) (s0:∀ v,0≤v→v < m→0≤shr m rs (sep rs) v) {y:Int} (hy:∀ v,0≤v→v < m→y≤gat m rs v (PAR v) (DEP v) (fun w=>xs.getD w.toNat 0) (giv rs (PAR v)) v) :
   aA (below m.toNat) (shr m rs (evp rs)) * (y:Rat)≤aA (below m.toNat) (fun u=>((xs.getD u.toNat 0:Int):Rat)):=by
 rw [rm g RR,rE g,← eF]
 refine mU fun v hv=>?_
 obtain ⟨v0,v1⟩:=mem_below.mp hv
 have v1':v < m:=by omega
 have R:=RR v v0 v1'
 obtain ⟨tl,et,O⟩:=oG g R v0 v1'
 have h1:=pC (P:=prc rs (PAR v) (DEP v) true) g R v0 v1' (fun c c0 c1=>(gU (to:=true) g R _ rfl c0 c1).1) (fC R) (fun c c0 c1 cr=>by rw [gi R c0 c1 cr]; rfl) xl x0 O
 have h2:(y:Rat)≤((gat m rs v (PAR v) (DEP v) (fun w=>xs.getD w.toNat 0) (giv rs (PAR v)) v:Int):Rat):=Rat.intCast_le_intCast.mpr (hy v v0 v1')
 rw [Rat.mul_comm]
 exact Rat.mul_le_mul_of_nonneg_right (Rat.le_trans h2 h1) (s0 v v0 v1')
end
def dH (m:Int) (rs:List Road) (v:Int):Bool:=decide (shr m rs (evp rs) v < 0) || decide (shr m rs (sep rs) v < 0)
theorem mL {p q:Int} (h:0 < q):((p:Rat) / q < 0)↔p < 0:=by
 have hq:=eU h
 constructor
 · intro z
   refine Int.not_le.mp fun w=>?_
   exact absurd (p9 (ny w) hq) (Rat.not_le.mpr z)
 · intro z
   refine Rat.not_le.mp fun w=>?_
   have e:(p:Rat)=(p:Rat) / q * q:=by
     have:(q:Rat)≠0:=cN (by omega)
     grind
   have:=Rat.mul_nonneg w (Rat.le_of_lt hq)
   rw [← e] at this
   have:=Rat.intCast_le_intCast.mp (show ((0:Int):Rat)≤(p:Rat) from this)
   omega
theorem lG {f g:Int × Int} (hf:0 < f.2) (hg:0 < g.2):f.1 * g.2 < g.1 * f.2↔(f.1:Rat) / f.2 < (g.1:Rat) / g.2:=by
 have h1:=eU hf
 have h2:=eU hg
 have n1:(f.2:Rat)≠0:=cN (by omega)
 have n2:(g.2:Rat)≠0:=cN (by omega)
 have e:(f.1:Rat) / f.2 - (g.1:Rat) / g.2=((f.1 * g.2 - g.1 * f.2:Int):Rat) / ((f.2 * g.2:Int):Rat):=by
   rw [Rat.intCast_sub,Rat.intCast_mul,Rat.intCast_mul,Rat.intCast_mul]
   grind
 have k:=mL (p:=f.1 * g.2 - g.1 * f.2) (q:=f.2 * g.2) (Int.mul_pos hf hg)
 rw [← e] at k
 constructor
 · intro z
   have:=k.mpr (by omega)
   grind
 · intro z
   have:=k.mp (by grind)
   omega
theorem kh {x p q:Int} (h:Frc x 1 p q):p=x∧q=1:=BF h.pos h.one (by decide) (by simp) (by have:=h.eq; omega)
theorem rP {α β γ:Type} {R:α→β→Prop} {R':α→γ→Prop} {f:β→γ} (h:∀ a b,R a b→R' a (f b)):∀ {l₁:List α} {l₂:List β},Paired R l₁ l₂→Paired R' l₁ (l₂.map f)
 | _,_,.nil=>.nil
 | _,_,.cons x xs=>.cons (h _ _ x) (rP h xs)
theorem oq:∀ xs:List Int,aA xs (fun x=>(x:Rat))=((xs.sum:Int):Rat)
 | []=>rfl
 | x :: xs=>by rw [aI,oq xs,List.sum_cons,Rat.intCast_add]
theorem vK {m:Int} {xs:List Int} (xl:(xs.length:Int)=m):aA (below m.toNat) (fun u=>((xs.getD u.toNat 0:Int):Rat))=((xs.sum:Int):Rat):=by
 rw [← oq]
 refine iU (by rw [aK]; omega) fun i u x hu hx=>?_
 rw [kX hu,Int.toNat_natCast,List.getD,hx]
 rfl
theorem vV {m:Int} {fs:List (Int × Int)} {S:Int→Rat} (fl:(fs.length:Int)=m) (fv:∀ (i:Nat) f,fs[i]?=some f→(f.1:Rat) / f.2=S i):aA fs (fun f=>(f.1:Rat) / f.2)=aA (below m.toNat) S:=by
 refine iU (by rw [aK]; omega) fun i f u hf hu=>?_
 rw [kX hu]
 exact fv i f hf
theorem yn {m:Int} {rs:List Road} (h:(below m.toNat).filter (dH m rs)=[]) {v:Int} (v0:0≤v) (v1:v < m):0≤shr m rs (evp rs) v∧0≤shr m rs (sep rs) v:=by
 have:=List.filter_eq_nil_iff.mp h v (mem_below.mpr ⟨v0,by omega⟩)
 unfold dH at this
 simp only [Bool.or_eq_true,decide_eq_true_eq,not_or] at this
 exact ⟨Rat.not_lt.mp this.1,Rat.not_lt.mp this.2⟩
end Pb
set_option Elab.async false
set_option linter.all false
set_option maxRecDepth 100000
set_option maxHeartbeats 4000000
namespace Pk
open PySem L2 Pb
seal L2.PSs L2.PS L2.PE L2.PT L2.PW L2.PA L2.PG L2.PGs L2.PI L2.PTs L2.PC L2.PPs L2.PO
abbrev top (i:Nat):Stmt:=Hd.top i
local macro_rules | `(tactic| walk_at "rd") => `(tactic| ((try dsimp only [tYes, AO, zD, Ends.less, nR, rY, pW, vF, sd, zS, AZ, uC, nV, yR, ut, yA, sC, uc, zI, ug, yN, wx, vE, ou, vy, zy, zO, sA, tNext, pL, iV, qy, mG, gNil, y3, zG, uj, AQ, zQ, zK, ipI, wS, sP, ph, tB, lZ, tC, ng, tOp, tUn, rI0, rI, rU, rEq, rNe, tL, tz, uk, tNil, zb, vW, tCB, tBM, xP, yW, yc, AX, zP, mN, tW, zC, sK, vH, iz, u8, vN, xI, tOr, xq, sL, B3, ua, tIf, List.nil_append, List.append_nil, List.set_cons_zero, List.set_cons_succ, List.getElem?_cons_zero, List.getElem?_cons_succ]); (try simp only [tYes, AO, zD, Ends.less, nR, rY, pW, vF, sd, zS, AZ, uC, nV, yR, ut, yA, sC, uc, zI, ug, yN, wx, vE, ou, vy, zy, zO, sA, tNext, pL, iV, qy, mG, gNil, y3, zG, uj, AQ, zQ, zK, ipI, wS, sP, ph, tB, lZ, tC, ng, tOp, tUn, rI0, rI, rU, rEq, rNe, AB, AH, Ax, Ap, AG, Az, tL, tz, uk, tNil, zb, vW, tCB, tBM, xP, yW, yc, AX, zP, mN, tW, zC, sK, vH, iz, u8, vN, xI, tOr, xq, sL, B3, ua, tIf, List.nil_append, List.append_nil, List.set_cons_zero, List.set_cons_succ, List.getElem?_cons_zero, List.getElem?_cons_succ, Option.some.injEq, V.int.injEq, V.bl.injEq, V.ref.injEq, List.cons.injEq, exists_eq_left, exists_eq_left', exists_and_left, exists_const, and_true, true_and, decide_eq_true_eq, Bool.not_eq_true', decide_eq_false_iff_not, Bool.true_eq_false, Bool.false_eq_true, if_true, if_false])))
set_option genSizeOf false in
set_option genInjectivity false in
structure Txt (K:PySem.W.Frag) (mg:Str→Option Value) where
 BadWeb:Addr
 m_BadWeb:mg "BadWeb"=some (.ref BadWeb)
 NoPlace:Addr
 m_NoPlace:mg "NoPlace"=some (.ref NoPlace)
 NoRoad:Addr
 m_NoRoad:mg "NoRoad"=some (.ref NoRoad)
 BadLaying:Addr
 m_BadLaying:mg "BadLaying"=some (.ref BadLaying)
 BadStep:Addr
 m_BadStep:mg "BadStep"=some (.ref BadStep)
 Web:Addr
 m_Web:mg "Web"=some (.ref Web)
 e_NoPlace:qE K NoPlace
 e_NoRoad:qE K NoRoad
 e_BadLaying:qE K BadLaying
 range:mg "range"=none
 zip:mg "zip"=none
 len:mg "len"=none
 all:mg "all"=none
 int:mg "int"=none
 tuple:mg "tuple"=none
 list:mg "list"=none
 reversed:mg "reversed"=none
 sorted:mg "sorted"=none
 min:mg "min"=none
 enumerate:mg "enumerate"=none
 sum:mg "sum"=none
 str:mg "str"=none
 abs:mg "abs"=none
 c_MOST_PLACES:∃ t,mg "MOST_PLACES"=some (.int 24 t)
 c_LEAST_TOLL:∃ t,mg "LEAST_TOLL"=some (.int 2 t)
 c_MOST_TOLL:∃ t,mg "MOST_TOLL"=some (.int 1000000 t)
 NOUGHT:Addr
 m_NOUGHT:mg "NOUGHT"=some (.ref NOUGHT)
 k_NOUGHT:TupK K NOUGHT [.int 0,.int 1]
 ONE:Addr
 m_ONE:mg "ONE"=some (.ref ONE)
 k_ONE:TupK K ONE [.int 1,.int 1]
 cl_Web:Cls K Web
 n_many:NoAttr K Web "many"
 n_roads:NoAttr K Web "roads"
section
variable {P:Program} {w:World} {K:PySem.W.Frag} {mg:Str→Option Value} {base:Heap} {CX:CXT}
/-! #### check_counts -/
def gY (T:Txt K mg):Sp:=fun vs H Q _=>∃ (m:Int) (t:Addr) (xs:List V),vs=[.int m,.ref t]∧SqT K H t xs∧1≤m∧m≤24∧(xs.length:Int)=m - 1∧Q .non H
abbrev bc:Stmt:=top 24
theorem lU:FnScope ["many","roads"] ["many","roads"] (aa bc):=FnScope.of (by kernel_rfl)
theorem fe:NmL (aa bc) "many":=.of (by kernel_rfl)
theorem iE:NmL (aa bc) "roads":=.of (by kernel_rfl)
theorem n_check_counts__MOST_PLACES:NmG (aa bc) "MOST_PLACES":=.of (by kernel_rfl)
theorem rh:NmG (aa bc) "BadWeb":=.of (by kernel_rfl)
theorem n_check_counts__len:NmG (aa bc) "len":=.of (by kernel_rfl)

theorem mH (T:Txt K mg) (hq:aJ (CXe P w)) {f:Addr} {fd:FuncData} (D:Df K mg "check_counts" bc ["many","roads"] f fd):FnOk P w K mg base (CXe P w) 1 f fd ["many","roads"] (gY T):=by
 refine D.F.okC lU (fun vs H Q E h=>?_) (fun cdv A outer s H vs Q E hr h=>?_)
 · obtain ⟨m,t,xs,rfl,_⟩:=h
   rfl
 · obtain ⟨m,t,xs,rfl,ht,h1,h2,hl,k⟩:=h
   refine ⟨_,(am (bW (fV (qP ml ml ak (pvl 0 fe) (ld n_check_counts__MOST_PLACES.g T.c_MOST_PLACES (hd:=n_check_counts__MOST_PLACES.d)))) (ap eK) bj) (ap (bW (bG me (cB dA n_check_counts__len.g T.len gL (ag (pvl 1 iE) ah) (hn:=n_check_counts__len.n) (hdb:=n_check_counts__len.d)) (ax j6 (pvl 0 fe) ak) (bB _)) (ap eK) bj))),?_⟩
   rw [show L2.start ["many","roads"] [V.int m,V.ref t]=[some (V.int m),some (V.ref t)] from rfl]
   walk_at "rd"
   rw [if_pos h1,if_neg (by omega)]
   exact ⟨xs,.inr ht,by rw [if_neg (by omega)]; exact k⟩
/-! #### is_place -/
def fS (T:Txt K mg):Sp:=fun vs H Q _=>∃ m n:Int,vs=[.int m,.int n]∧Q (.bl (decide (0≤n) && decide (n < m))) H
abbrev ce:Stmt:=top 23
theorem rK:FnScope ["many","number"] ["many","number"] (aa ce):=FnScope.of (by kernel_rfl)
theorem lq:NmL (aa ce) "many":=.of (by kernel_rfl)
theorem jX:NmL (aa ce) "number":=.of (by kernel_rfl)

theorem rL (T:Txt K mg) (hq:aJ (CXe P w)) {f:Addr} {fd:FuncData} (D:Df K mg "is_place" ce ["many","number"] f fd):FnOk P w K mg base (CXe P w) 1 f fd ["many","number"] (fS T):=by
 refine D.F.okC rK (fun vs H Q E h=>?_) (fun cdv A outer s H vs Q E hr h=>?_)
 · obtain ⟨m,n,rfl,_⟩:=h
   rfl
 · obtain ⟨m,n,rfl,k⟩:=h
   refine ⟨_,(ap (aG (xR ml pj ak (pvl 1 jX) (pvl 0 lq)))),?_⟩
   rw [show L2.start ["many","number"] [V.int m,V.int n]=[some (V.int m),some (V.int n)] from rfl]
   walk_at "rd"
   by_cases c:0≤n
   · simpa [c] using k
   · simpa [c] using k
/-! #### check_ends -/
def jv (T:Txt K mg):Sp:=fun vs H Q _=>∃ (m:Int) (p:Addr) (r:Road),vs=[.int m,.ref p]∧H p=some (.tup (d5 r))∧0≤r.a∧r.a < m∧0≤r.b∧r.b < m∧r.a≠r.b∧Q .non H
abbrev bK:Stmt:=top 25
theorem o7:FnScope ["many","road"] ["many","road"] (aa bK):=FnScope.of (by kernel_rfl)
theorem f7:NmL (aa bK) "many":=.of (by kernel_rfl)
theorem dg:NmL (aa bK) "road":=.of (by kernel_rfl)
theorem n_check_ends__is_place:NmG (aa bK) "is_place":=.of (by kernel_rfl)
theorem uo:NmG (aa bK) "BadWeb":=.of (by kernel_rfl)

theorem oZ (T:Txt K mg) (hq:aJ (CXe P w)) {f:Addr} {fd:FuncData} (D:Df K mg "check_ends" bK ["many","road"] f fd) {f_is_place:Addr} {fd_is_place:FuncData} (D_is_place:Df K mg "is_place" ce ["many","number"] f_is_place fd_is_place) (G_is_place:FnOk P w K mg base (CXe P w) 1 f_is_place fd_is_place ["many","number"] (fS T)):FnOk P w K mg base (CXe P w) 2 f fd ["many","road"] (jv T):=by
 refine D.F.okC o7 (fun vs H Q E h=>?_) (fun cdv A outer s H vs Q E hr h=>?_)
 · obtain ⟨m,p,r,rfl,_⟩:=h
   rfl
 · obtain ⟨m,p,r,rfl,hp,a0,a1,b0,b1,ne,k⟩:=h
   refine ⟨_,(am (bW (PW.pt (zL (fV (fh (ao G_is_place (hr.mono (by decide)) n_check_ends__is_place.g D_is_place.m D_is_place.F.kp D_is_place.b .nil (ay hq) (ag (pvl 0 f7) (ag (aH aQ (pvl 1 dg) ak (fun _ _=>rfl)) ah)) (hdb:=n_check_ends__is_place.d)))) (uF (fV (fh (ao G_is_place (hr.mono (by decide)) n_check_ends__is_place.g D_is_place.m D_is_place.F.kp D_is_place.b .nil (ay hq) (ag (pvl 0 f7) (ag (aH aQ (pvl 1 dg) ak (fun _ _=>rfl)) ah)) (hdb:=n_check_ends__is_place.d))))))) (ap eK) bj) (ap (bW (bG dW (aH aQ (pvl 1 dg) ak (fun _ _=>rfl)) (aH aQ (pvl 1 dg) ak (fun _ _=>rfl)) (bB _)) (ap eK) bj))),?_⟩
   rw [show L2.start ["many","road"] [V.int m,V.ref p]=[some (V.int m),some (V.ref p)] from rfl]
   walk_at "rd"
   refine ixT hp rfl ⟨m,r.a,rfl,_,rfl,?_⟩
   rw [if_neg (by simp [a0,a1])]
   refine ixT hp rfl ⟨m,r.b,rfl,_,rfl,?_⟩
   rw [if_neg (by simp [b0,b1])]
   refine ixT hp rfl (ixT hp rfl ⟨rfl,?_⟩)
   rw [if_neg (by simpa using ne)]
   exact k
/-! #### other_ends -/
def gu (T:Txt K mg):Sp:=fun vs H Q _=>∃ (t:Addr) (ps:List Addr) (rs:List Road) (n:Int),vs=[.ref t,.int n]∧SqT K H t (ps.map V.ref)∧RoadsAt H ps rs∧rs.length≤1000 ∧
 ∀ l H',H l=none→Same H H'→H' l=some (.lst ((bC rs n).map V.int))→Q (.ref l) H'
abbrev bE:Stmt:=top 28
theorem sc_other_ends:FnScope ["roads","place","ends","road"] ["roads","place"] (aa bE):=FnScope.of (by kernel_rfl)
theorem jA:NmL (aa bE) "roads":=.of (by kernel_rfl)
theorem fq:NmL (aa bE) "place":=.of (by kernel_rfl)
theorem n_other_ends__ends:NmL (aa bE) "ends":=.of (by kernel_rfl)
theorem n_other_ends__road:NmL (aa bE) "road":=.of (by kernel_rfl)

theorem oO (T:Txt K mg) (hq:aJ (CXe P w)) {f:Addr} {fd:FuncData} (D:Df K mg "other_ends" bE ["roads","place"] f fd):FnOk P w K mg base (CXe P w) 1 f fd ["roads","place"] (gu T):=by
 refine D.F.okC sc_other_ends (fun vs H Q E h=>?_) (fun cdv A outer s H vs Q E hr h=>?_)
 · obtain ⟨t,ps,rs,n,rfl,_⟩:=h
   rfl
 · obtain ⟨t,ps,rs,n,rfl,ht,hp,hl,k⟩:=h
   refine ⟨_,(am (aD (i:=2) sc_other_ends.nd rfl (Or.inl n_other_ends__ends.l) (dc ah)) (am (cS PassesOwn.never rfl (j8 (pvl 0 jA)) (aL (i:=3) sc_other_ends.nd rfl (Or.inl n_other_ends__road.l)) (am (bW (bG dW (aH aQ (pvl 3 n_other_ends__road) ak (fun _ _=>rfl)) (pvl 1 fq) (bB _)) (ap (b5 (fP PySem.F.plainAttrs_list PySem.F.slot_list_append PySem.F.type_list_append cG (pvl 2 n_other_ends__ends) (ag (aH aQ (pvl 3 n_other_ends__road) ak (fun _ _=>rfl)) ah)))) bj) (ap (bW (bG dW (aH aQ (pvl 3 n_other_ends__road) ak (fun _ _=>rfl)) (pvl 1 fq) (bB _)) (ap (b5 (fP PySem.F.plainAttrs_list PySem.F.slot_list_append PySem.F.type_list_append cG (pvl 2 n_other_ends__ends) (ag (aH aQ (pvl 3 n_other_ends__road) ak (fun _ _=>rfl)) ah)))) bj)))) (ap (aG (pvl 2 n_other_ends__ends))))),?_⟩
   rw [show L2.start ["roads","place","ends","road"] [V.ref t,V.int n]=[some (V.ref t),some (V.int n),none,none] from rfl]
   walk_at "rd"
   refine ⟨by decide,fun l hn=>?_⟩
   have hlen:ps.length=rs.length:=Paired.length hp
   refine ⟨⟨_,Same.tup (Same.new _ hn) ht⟩,kj (xs:=ps.map V.ref) (fun i σ H2=>H2=upd H l (.lst ((bC (rs.take i) n).map V.int))∧∃ v,σ=[some (.ref t),some (.int n),some (.ref l),v]) ⟨rfl,_,rfl⟩ (fun i σ H2 _ z=>by rw [z.1]; exact Same.tup (Same.new _ hn) ht) ?_ ?_⟩
   · rintro i x σ H2 hi ⟨rfl,v,rfl⟩
     obtain ⟨p,r,rfl,h1,h2,h3⟩:=hp.get hi
     have np:p≠l:=bo h3 hn
     have hil:i < rs.length:=(List.getElem?_eq_some_iff.mp h2).1
     have et:rs.take (i + 1)=rs.take i ++ [r]:=by rw [List.take_succ,h2]; rfl
     have hb:(bC (rs.take i) n).length≤2000:=Nat.le_trans (qN _ _) (by rw [List.length_take]; omega)
     have hx:∀ o,upd H l o p=some (.tup (d5 r)):=fun o=>by rw [aq np]; exact h3
     walk_at "rd"
     refine ixT (hx _) rfl ?_
     walk_at "rd"
     have fin:∀ (ys:List Int),(bC (rs.take i) n ++ ys)=bC (rs.take (i + 1)) n→upd H l (.lst ((bC (rs.take i) n).map V.int ++ ys.map V.int))=upd H l (.lst ((bC (rs.take (i + 1)) n).map V.int)):=fun ys e=>by
       rw [← List.map_append,e]
     have e1:hB n r=(if r.a=n then [r.b] else []) ++ (if r.b=n then [r.a] else []):=rfl
     by_cases ca:r.a=n
     · rw [if_pos ca]
       refine ⟨tyL aj,ixT (hx _) rfl (io aj (bX (by rw [List.length_map]; omega)) ?_)⟩
       rw [fD]
       refine ixT (hx _) rfl ?_
       walk_at "rd"
       by_cases cb:r.b=n
       · rw [if_pos cb]
         refine ⟨tyL aj,ixT (hx _) rfl (io aj (bX (by rw [List.length_append,List.length_map]; simp; omega)) ?_)⟩
         rw [fD,List.append_assoc]
         exact ⟨fin [r.b,r.a] (by rw [et,gX,e1,if_pos ca,if_pos cb]; rfl),_,rfl⟩
       · rw [if_neg cb]
         exact ⟨fin [r.b] (by rw [et,gX,e1,if_pos ca,if_neg cb]; rfl),_,rfl⟩
     · rw [if_neg ca]
       refine ixT (hx _) rfl ?_
       walk_at "rd"
       by_cases cb:r.b=n
       · rw [if_pos cb]
         refine ⟨tyL aj,ixT (hx _) rfl (io aj (bX (by rw [List.length_map]; omega)) ?_)⟩
         rw [fD]
         exact ⟨fin [r.a] (by rw [et,gX,e1,if_neg ca,if_pos cb]; rfl),_,rfl⟩
       · rw [if_neg cb]
         have:=fin [] (by rw [et,gX,e1,if_neg ca,if_neg cb]; rfl)
         rw [List.map_nil,List.append_nil] at this
         exact ⟨this,_,rfl⟩
   · rintro σ H2 ⟨rfl,v,rfl⟩
     rw [List.length_map,hlen,List.take_length]
     exact ⟨_,rfl,k l _ hn (Same.new _ hn) aj⟩
/-! #### check_joined -/
def eg (ks:List Int):List (Key × V):=ks.map fun k=>((Sum.inl k:Key),V.bl true)
theorem om (ks:List Int):(eg ks).length=ks.length:=by unfold eg; rw [List.length_map]
theorem qV (ks:List Int) (e:Int):fA (eg ks) (Sum.inl e:Key)=if e∈ks then some (V.bl true) else none:=by
 unfold eg
 induction ks with
 | nil=>rfl
 | cons k ks ih =>
   rw [List.map_cons]
   by_cases c:k=e
   · rw [jg (by rw [c]),if_pos (by rw [c]; exact List.mem_cons_self)]
   · rw [jm (fun z=>c (Sum.inl.inj z)),ih]
     by_cases d:e∈ks
     · rw [if_pos d,if_pos (List.mem_cons_of_mem _ d)]
     · rw [if_neg d,if_neg (fun z=>by rcases List.mem_cons.mp z with z | z; exact c z.symm; exact d z)]
theorem wR {ks:List Int} {e:Int} (h:e ∉ ks):dQ (eg ks) (Sum.inl e:Key) (V.bl true)=eg (ks ++ [e]):=by
 rw [zg _ (by rw [qV,if_neg h])]
 unfold eg
 rw [List.map_append]
 rfl
def hJ (T:Txt K mg):Sp:=fun vs H Q _=>∃ (m:Int) (t:Addr) (ps:List Addr) (rs:List Road),vs=[.int m,.ref t]∧SqT K H t (ps.map V.ref)∧RoadsAt H ps rs∧Good m rs∧∀ H',Same H H'→Q .non H'
abbrev aM:Stmt:=top 27
theorem sc_check_joined:FnScope ["many","roads","reached","waiting","place","end"] ["many","roads"] (aa aM):=FnScope.of (by kernel_rfl)
theorem iZ:NmL (aa aM) "many":=.of (by kernel_rfl)
theorem iq:NmL (aa aM) "roads":=.of (by kernel_rfl)
theorem n_check_joined__reached:NmL (aa aM) "reached":=.of (by kernel_rfl)
theorem n_check_joined__waiting:NmL (aa aM) "waiting":=.of (by kernel_rfl)
theorem n_check_joined__place:NmL (aa aM) "place":=.of (by kernel_rfl)
theorem n_check_joined__end:NmL (aa aM) "end":=.of (by kernel_rfl)
theorem n_check_joined__other_ends:NmG (aa aM) "other_ends":=.of (by kernel_rfl)
theorem n_check_joined__len:NmG (aa aM) "len":=.of (by kernel_rfl)
theorem rA:NmG (aa aM) "BadWeb":=.of (by kernel_rfl)

theorem mD (T:Txt K mg) (hq:aJ (CXe P w)) {f:Addr} {fd:FuncData} (D:Df K mg "check_joined" aM ["many","roads"] f fd) {f_other_ends:Addr} {fd_other_ends:FuncData} (D_other_ends:Df K mg "other_ends" bE ["roads","place"] f_other_ends fd_other_ends) (G_other_ends:FnOk P w K mg base (CXe P w) 1 f_other_ends fd_other_ends ["roads","place"] (gu T)):FnOk P w K mg base (CXe P w) 2 f fd ["many","roads"] (hJ T):=by
 refine D.F.okC sc_check_joined (fun vs H Q E h=>?_) (fun cdv A outer s H vs Q E hr h=>?_)
 · obtain ⟨m,t,ps,rs,rfl,_⟩:=h
   rfl
 · obtain ⟨m,t,ps,rs,rfl,ht,hp,g,k⟩:=h
   have hu:=Cu hr
   refine ⟨_,(am (aD (i:=2) sc_check_joined.nd rfl (Or.inl n_check_joined__reached.l) (z9 (yD ak pf Aj) rfl rfl (List.cons_ne_nil _ _) (by decide))) (am (aD (i:=3) sc_check_joined.nd rfl (Or.inl n_check_joined__waiting.l) (dc (ag ak ah))) (am (jh PassesOwn.never (iX (pvl 3 n_check_joined__waiting) (fun _=>rfl)) (am (aD (i:=4) sc_check_joined.nd rfl (Or.inl n_check_joined__place.l) (qc PySem.F.plainAttrs_list PySem.F.slot_list_pop PySem.F.type_list_pop pH (pvl 3 n_check_joined__waiting))) (ap (cS PassesOwn.never rfl (gE (ao G_other_ends (hr.mono (by decide)) n_check_joined__other_ends.g D_other_ends.m D_other_ends.F.kp D_other_ends.b .nil (ay hq) (ag (pvl 1 iq) (ag (pvl 4 n_check_joined__place) ah)) (hdb:=n_check_joined__other_ends.d))) (aL (i:=5) sc_check_joined.nd rfl (Or.inl n_check_joined__end.l)) (ap (bW (Bo (uD hu (pvl 5 n_check_joined__end) (pvl 2 n_check_joined__reached))) (am (zW hu (pvl 2 n_check_joined__reached) (pvl 5 n_check_joined__end) pf rfl) (ap (b5 (fP PySem.F.plainAttrs_list PySem.F.slot_list_append PySem.F.type_list_append cG (pvl 3 n_check_joined__waiting) (ag (pvl 5 n_check_joined__end) ah))))) bj)))))) (ap (bW (bG me (cB uM n_check_joined__len.g T.len gL (ag (pvl 2 n_check_joined__reached) ah) (hn:=n_check_joined__len.n) (hdb:=n_check_joined__len.d)) (pvl 0 iZ) (bB _)) (ap eK) bj))))),?_⟩
   rw [show L2.start ["many","roads","reached","waiting","place","end"] [V.int m,V.ref t]=[some (V.int m),some (V.ref t),none,none,none,none] from rfl]
   have m1:=g.m1
   have m24:=g.m24
   have glen:=g.len
   walk_at "rd"
   intro d hd
   refine ⟨aj,[(Sum.inl 0,.bl true)],rfl,by decide,?_⟩
   rw [fD]
   refine ⟨by decide,fun w0 hw=>?_⟩
   have ed:iK [] [((Sum.inl 0:Key),V.bl true)]=eg [0]:=rfl
   rw [ed]
   have ndw:w0≠d:=fun z=>by rw [z,aj] at hw; cases hw
   have hw0:H w0=none:=by rw [aq ndw] at hw; exact hw
   refine rT (fun n σ H2=>∃ (ks ws:List Int) (v4 v5:Option V),n=2 * (m.toNat - ks.length) + ws.length∧σ=[some (.int m),some (.ref t),some (.ref d),some (.ref w0),v4,v5]∧Same H H2∧H2 d=some (.dK (eg ks))∧H2 w0=some (.lst (ws.map V.int))∧JInv m rs ks ws) _ ⟨[0],[0],none,none,rfl,rfl,?_,?_,aj,JInv.start m1⟩ ?_
   · exact Same.trans (Same.new _ hd) (Same.new _ hw)
   · rw [aq ndw.symm,aj]
   rintro n σ H2 NW hN hN2 ⟨ks,ws,v4,v5,rfl,rfl,sm,h1,h2,J⟩
   have kl:=ci (by omega) J.nd J.rng
   refine ⟨_,rfl,!(ws.map V.int).isEmpty,.inl ⟨_,SqL.of h2,rfl⟩,?_⟩
   rcases List.eq_nil_or_concat ws with rfl | ⟨ws',p,rfl⟩
   · -- nothing waits: all places have been reached
     have full:=J.all m1 g.jn
     refine CD ?_
     walk_at "rd"
     refine ⟨eg ks,h1,?_⟩
     rw [om,if_neg (by omega)]
     exact k _ sm
   · rw [List.concat_eq_append] at J h2 hN hN2 ⊢
     have e1:(!(List.map V.int (ws' ++ [p])).isEmpty)=true:=by simp
     rw [e1]
     refine CJ ⟨NW,hN2,?_⟩
     walk_at "rd"
     rw [List.map_append,List.map_cons,List.map_nil] at h2
     refine ⟨tyL h2,yP h2 ?_⟩
     have ndw':d≠w0:=ndw.symm
     have sm2:Same H (upd H2 w0 (.lst (ws'.map V.int))):=fun b o e=>by rw [aq (bo e hw0)]; exact sm b o e
     refine ⟨t,ps,rs,p,rfl,Same.tup sm2 ht,RoadsAt.same sm2 hp,by omega,fun l H3 hn s3 hl=>?_⟩
     have nlw:w0≠l:=bo (o:=.lst (ws'.map V.int)) aj hn
     have nld:d≠l:=bo (o:=.dK (eg ks)) (by rw [aq ndw']; exact h1) hn
     have hl0:H l=none:=sm2.free hn
     refine ⟨l,rfl,⟨_,SqL.of hl⟩,oA (K:=K) (xs:=(bC rs p).map V.int) (fun i σ H4=>∃ (v5:Option V),σ=[some (.int m),some (.ref t),some (.ref d),some (.ref w0),some (.int p),v5]∧Same H H4∧H4 l=some (.lst ((bC rs p).map V.int)) ∧
       ∃ ks4 ws4:List Int,H4 d=some (.dK (eg ks4))∧H4 w0=some (.lst (ws4.map V.int))∧JMid m rs p ((bC rs p).take i) ks4 ws4 ks ws'.length) ?_ (fun i σ H4 _ z=>by obtain ⟨_,_,_,z,_⟩:=z; exact SqL.of z) ?_ ?_⟩
     · refine ⟨_,rfl,sm2.trans s3,hl,ks,ws',?_,?_,?_⟩
       · exact s3 _ _ (by rw [aq ndw']; exact h1)
       · exact s3 _ _ aj
       · rw [List.take_zero]; exact JMid.start J
     · rintro i x σ H4 NI hI hi ⟨v5,rfl,s4,hl4,ks4,ws4,hd4,hw4,M⟩
       rw [List.getElem?_map] at hi
       obtain ⟨e,he,rfl⟩:∃ e,(bC rs p)[i]?=some e∧V.int e=x:=by
         cases q:(bC rs p)[i]? with
         | none=>rw [q] at hi; cases hi
         | some e=>rw [q] at hi; exact ⟨e,rfl,Option.some.inj hi⟩
       have er:=xh g.ok (List.mem_of_getElem? he)
       have et:(bC rs p).take (i + 1)=(bC rs p).take i ++ [e]:=by rw [List.take_succ,he]; rfl
       have st:=M.step er.1 er.2
       have k4:=ci (by omega) M.nd M.rng
       have mu4:=M.mu
       walk_at "rd"
       refine ⟨_,DGet.k (k:=Sum.inl e) hd4,?_⟩
       rw [qV]
       by_cases c:e∈ks4
       · rw [if_pos c]
         rw [if_neg (by simp)]
         refine hI _ _ ⟨_,rfl,s4,hl4,ks4,ws4,hd4,hw4,?_⟩
         rw [et]
         unfold lW at st
         rw [if_pos c] at st
         exact st
       · rw [if_neg c]
         rw [if_pos (by simp)]
         refine ⟨_,DPut.k (k:=Sum.inl e) hd4 (bX (by rw [om]; omega)),?_⟩
         rw [wR c]
         have hw5:upd H4 d (.dK (eg (ks4 ++ [e]))) w0=some (.lst (ws4.map V.int)):=by rw [aq ndw]; exact hw4
         refine ⟨tyL hw5,io hw5 (bX (by rw [List.length_map]; have:=M.wl; omega)) ?_⟩
         have hmid:=M.mu
         refine hI _ _ ⟨_,rfl,fun b o z=>?_,?_,ks4 ++ [e],ws4 ++ [e],?_,?_,?_⟩
         · rw [aq (bo z hw0),aq (bo z hd)]; exact s4 b o z
         · rw [aq nlw.symm,aq nld.symm]; exact hl4
         · rw [aq ndw',aj]
         · rw [aj,List.map_append]; rfl
         · rw [et]
           unfold lW at st
           rw [if_neg c] at st
           exact st
     · rintro σ H4 ⟨v5,rfl,s4,hl4,ks4,ws4,hd4,hw4,M⟩
       rw [List.length_map,List.take_length] at M
       have k4:=ci (by omega) M.nd M.rng
       have mu4:=M.mu
       have up4:=M.up
       refine hN _ _ _ ?_ ⟨ks4,ws4,some (.int p),v5,rfl,rfl,s4,hd4,hw4,M.done⟩
       rw [List.length_append]
       simp only [List.length_cons,List.length_nil]
       omega
/-! #### check_tolls -/
def iy (T:Txt K mg):Sp:=fun vs H Q _=>∃ (p:Addr) (r:Road),vs=[.ref p]∧H p=some (.tup (d5 r))∧2≤r.t∧r.t≤1000000∧2≤r.u∧r.u≤1000000∧∀ H',Same H H'→Q .non H'
abbrev bi:Stmt:=top 26
theorem sc_check_tolls:FnScope ["road","number"] ["road"] (aa bi):=FnScope.of (by kernel_rfl)
theorem ft:NmL (aa bi) "road":=.of (by kernel_rfl)
theorem n_check_tolls__number:NmL (aa bi) "number":=.of (by kernel_rfl)
theorem n_check_tolls__LEAST_TOLL:NmG (aa bi) "LEAST_TOLL":=.of (by kernel_rfl)
theorem n_check_tolls__MOST_TOLL:NmG (aa bi) "MOST_TOLL":=.of (by kernel_rfl)
theorem r9:NmG (aa bi) "BadWeb":=.of (by kernel_rfl)

theorem mO (T:Txt K mg) (hq:aJ (CXe P w)) {f:Addr} {fd:FuncData} (D:Df K mg "check_tolls" bi ["road"] f fd):FnOk P w K mg base (CXe P w) 1 f fd ["road"] (iy T):=by
 refine D.F.okC sc_check_tolls (fun vs H Q E h=>?_) (fun cdv A outer s H vs Q E hr h=>?_)
 · obtain ⟨p,r,rfl,_⟩:=h
   rfl
 · obtain ⟨p,r,rfl,hp,t0,t1,u0,u1,k⟩:=h
   refine ⟨_,(ap (cS PassesOwn.never rfl (j8 (fk (ag (aH aQ (pvl 0 ft) ak (fun _ _=>rfl)) (ag (aH aQ (pvl 0 ft) ak (fun _ _=>rfl)) ah)))) (aL (i:=1) sc_check_tolls.nd rfl (Or.inl n_check_tolls__number.l)) (ap (bW (fV (qP ml ml (ld n_check_tolls__LEAST_TOLL.g T.c_LEAST_TOLL (hd:=n_check_tolls__LEAST_TOLL.d)) (pvl 1 n_check_tolls__number) (ld n_check_tolls__MOST_TOLL.g T.c_MOST_TOLL (hd:=n_check_tolls__MOST_TOLL.d)))) (ap eK) bj)))),?_⟩
   rw [show L2.start ["road","number"] [V.ref p]=[some (V.ref p),none] from rfl]
   walk_at "rd"
   refine ixT hp rfl (ixT hp rfl ⟨bN (by simp),fun q hn=>?_⟩)
   have e1:upd H q (.tup [.int r.t,.int r.u]) q=some (.tup [.int r.t,.int r.u]):=aj
   refine ⟨⟨_,SqT.of e1⟩,kj (K:=K) (xs:=[.int r.t,.int r.u]) (fun i σ H2=>H2=upd H q (.tup [.int r.t,.int r.u])∧∃ v,σ=[some (.ref p),v]) ⟨rfl,_,rfl⟩ (fun i σ H2 _ z=>by rw [z.1]; exact SqT.of e1) ?_ ?_⟩
   · rintro i x σ H2 hi ⟨rfl,v,rfl⟩
     have hx:∃ n:Int,x=.int n∧2≤n∧n≤1000000:=by
       match i,hi with
       | 0,hi=>exact ⟨r.t,by simpa using hi.symm,t0,t1⟩
       | 1,hi=>exact ⟨r.u,by simpa using hi.symm,u0,u1⟩
     obtain ⟨n,rfl,n0,n1⟩:=hx
     walk_at "rd"
     rw [if_pos n0,if_neg (by omega)]
     exact ⟨_,rfl⟩
   · rintro σ H2 ⟨rfl,v,rfl⟩
     exact k _ (Same.new _ hn)
/-! #### Web.__init__ -/
/-- the attributes of a web -/
def mt (m:Int) (t:Addr):List (Str × V):=dU "roads" (.ref t) (dU "many" (.int m) [])
theorem Cp:¬ (("many":Str)="roads"):=by decide +kernel
theorem dh (m:Int) (t:Addr):(mt m t).lookup ("many":Str)=some (.int m):=by
 unfold mt
 rw [eA,if_neg Cp,eA,if_pos rfl]
theorem kU (m:Int) (t:Addr):(mt m t).lookup ("roads":Str)=some (.ref t):=by
 unfold mt
 rw [eA,if_pos rfl]
/-- a web of m places and the roads rs stands at p,its tuple at t,the roads' tuples at ps -/
structure WebAt (C:Addr) (H:Hp) (p:Addr) (m:Int) (t:Addr) (ps:List Addr) (rs:List Road):Prop where
 ob:∃ dx,H p=some (.ins C dx (mt m t))
 tu:H t=some (.tup (ps.map V.ref))
 ro:RoadsAt H ps rs
 go:Good m rs
theorem WebAt.same {C:Addr} {H H':Hp} {p:Addr} {m:Int} {t:Addr} {ps:List Addr} {rs:List Road} (e:Same H H') (h:WebAt C H p m t ps rs):WebAt C H' p m t ps rs :=
 ⟨let ⟨dx,q⟩:=h.ob; ⟨dx,e _ _ q⟩,e _ _ h.tu,RoadsAt.same e h.ro,h.go⟩
def fj (T:Txt K mg):Sp:=fun vs H Q _=>∃ (p dx:Addr) (m:Int) (c:Bool) (a:Addr) (ps:List Addr) (rs:List Road),vs=[.ref p,.int m,.ref a]∧H p=some (.ins T.Web dx [])∧SqX K c H a (ps.map V.ref)∧RoadsAt H ps rs∧Good m rs ∧
 ∀ t H',H t=none→WebAt T.Web H' p m t ps rs→(∀ b o,H b=some o→b≠p→H' b=some o)→Q .non H'
abbrev aN:Stmt:=zT (top 19) 0
theorem sc_Web___init__:FnScope ["self","many","roads","kept","road"] ["self","many","roads"] (aa aN):=FnScope.of (by kernel_rfl)
theorem eZ:NmL (aa aN) "self":=.of (by kernel_rfl)
theorem cK:NmL (aa aN) "many":=.of (by kernel_rfl)
theorem iO:NmL (aa aN) "roads":=.of (by kernel_rfl)
theorem n_Web___init____kept:NmL (aa aN) "kept":=.of (by kernel_rfl)
theorem n_Web___init____road:NmL (aa aN) "road":=.of (by kernel_rfl)
theorem n_Web___init____tuple:NmG (aa aN) "tuple":=.of (by kernel_rfl)
theorem n_Web___init____check_counts:NmG (aa aN) "check_counts":=.of (by kernel_rfl)
theorem n_Web___init____check_ends:NmG (aa aN) "check_ends":=.of (by kernel_rfl)
theorem n_Web___init____check_tolls:NmG (aa aN) "check_tolls":=.of (by kernel_rfl)
theorem n_Web___init____check_joined:NmG (aa aN) "check_joined":=.of (by kernel_rfl)

theorem my (T:Txt K mg) (hq:aJ (CXe P w)) {f:Addr} {fd:FuncData} (F:Fun K "__init__" "Web.__init__" aN f fd) {f_check_counts:Addr} {fd_check_counts:FuncData} (D_check_counts:Df K mg "check_counts" bc ["many","roads"] f_check_counts fd_check_counts) (G_check_counts:FnOk P w K mg base (CXe P w) 1 f_check_counts fd_check_counts ["many","roads"] (gY T)) {f_check_ends:Addr} {fd_check_ends:FuncData} (D_check_ends:Df K mg "check_ends" bK ["many","road"] f_check_ends fd_check_ends) (G_check_ends:FnOk P w K mg base (CXe P w) 2 f_check_ends fd_check_ends ["many","road"] (jv T)) {f_check_joined:Addr} {fd_check_joined:FuncData} (D_check_joined:Df K mg "check_joined" aM ["many","roads"] f_check_joined fd_check_joined) (G_check_joined:FnOk P w K mg base (CXe P w) 2 f_check_joined fd_check_joined ["many","roads"] (hJ T)) {f_check_tolls:Addr} {fd_check_tolls:FuncData} (D_check_tolls:Df K mg "check_tolls" bi ["road"] f_check_tolls fd_check_tolls) (G_check_tolls:FnOk P w K mg base (CXe P w) 1 f_check_tolls fd_check_tolls ["road"] (iy T)):FnOk P w K mg base (CXe P w) 3 f fd ["self","many","roads"] (fj T):=by
 refine F.okC sc_Web___init__ (fun vs H Q E h=>?_) (fun cdv A outer s H vs Q E hr h=>?_)
 · obtain ⟨p,dx,m,c,a,ps,rs,rfl,_⟩:=h
   rfl
 · obtain ⟨p,dx,m,c,a,ps,rs,rfl,hp,ha,hro,g,k⟩:=h
   refine ⟨_,(am (aD (i:=3) sc_Web___init__.nd rfl (Or.inl n_Web___init____kept.l) (d3 eD n_Web___init____tuple.g T.tuple iT (ag (c8 rfl (jf (Nc:=["road"]) 1 (by decide +kernel) (by decide +kernel) rfl (by decide +kernel) rfl) (gO c (pvl 2 iO)) (fun _ _ _ _=>(aL (i:=0) (show (["road"]:List Str).Nodup from by decide +kernel) rfl (Or.inl rfl))) (fun _ _ _ _=>dP) (fun _ _ _ _=>(d3 (nu K rfl) (by rfl) T.tuple iT (ag (pv 0) ah)))) ah) (hn:=n_Web___init____tuple.n) (hdb:=n_Web___init____tuple.d))) (am (b5 (ao G_check_counts (hr.mono (by decide)) n_Web___init____check_counts.g D_check_counts.m D_check_counts.F.kp D_check_counts.b .nil (ay hq) (ag (pvl 1 cK) (ag (pvl 3 n_Web___init____kept) ah)) (hdb:=n_Web___init____check_counts.d))) (am (cS PassesOwn.never rfl (j8 (pvl 3 n_Web___init____kept)) (aL (i:=4) sc_Web___init__.nd rfl (Or.inl n_Web___init____road.l)) (am (b5 (ao G_check_ends (hr.mono (by decide)) n_Web___init____check_ends.g D_check_ends.m D_check_ends.F.kp D_check_ends.b .nil (ay hq) (ag (pvl 1 cK) (ag (pvl 4 n_Web___init____road) ah)) (hdb:=n_Web___init____check_ends.d))) (ap (b5 (ao G_check_tolls (hr.mono (by decide)) n_Web___init____check_tolls.g D_check_tolls.m D_check_tolls.F.kp D_check_tolls.b .nil (ay hq) (ag (pvl 4 n_Web___init____road) ah) (hdb:=n_Web___init____check_tolls.d)))))) (am (b5 (ao G_check_joined (hr.mono (by decide)) n_Web___init____check_joined.g D_check_joined.m D_check_joined.F.kp D_check_joined.b .nil (ay hq) (ag (pvl 1 cK) (ag (pvl 3 n_Web___init____kept) ah)) (hdb:=n_Web___init____check_joined.d))) (am (vc (pvl 0 eZ) (pvl 1 cK) rfl) (ap (vc (pvl 0 eZ) (pvl 3 n_Web___init____kept) rfl))))))),?_⟩
   rw [show L2.start ["self","many","roads","kept","road"] [V.ref p,V.int m,V.ref a]=[some (V.ref p),some (V.int m),some (V.ref a),none,none] from rfl]
   walk_at "rd"
   refine ⟨⟨_,ha⟩,fun l hl=>?_⟩
   have hlen:ps.length=rs.length:=Paired.length hro
   have glen:=g.len
   have m24:=g.m24
   have hl1:Same H (upd H l (.lst [])):=Same.new _ hl
   refine eJ (K:=K) (xs:=ps.map V.ref) (fun i ys σ H2=>H2=upd H l (.lst ((ps.take i).map V.ref))∧ys=(ps.take i).map V.ref∧∃ v,σ=[v]) ⟨rfl,rfl,_,rfl⟩ (fun i ys σ H2 _ ⟨z,_⟩=>by rw [z]; exact Same.sqX (Same.new _ hl) ha) ?_ ?_
   · rintro i x ys σ H2 N hN hi ⟨rfl,rfl,v,rfl⟩
     obtain ⟨q,r,rfl,h1,h2,h3⟩:=hro.get hi
     have nq:q≠l:=bo h3 hl
     have hil:i < ps.length:=(List.getElem?_eq_some_iff.mp h1).1
     have et:ps.take (i + 1)=ps.take i ++ [q]:=by rw [List.take_succ,h1]; rfl
     walk_at "rd"
     refine ⟨d5 r,.inr ⟨SqT.of (by rw [aq nq]; exact h3),aj,bX (by rw [List.length_map,List.length_take]; omega),hN _ _ _ ⟨?_,?_,_,rfl⟩⟩⟩
     · rw [fD,et,List.map_append]; rfl
     · rw [et,List.map_append]; rfl
   · rintro ys σ H2 ⟨rfl,rfl,v,rfl⟩
     rw [List.length_map,List.take_length]
     refine ⟨l,rfl,ps.map V.ref,.inl ⟨SqL.of aj,fun t ht=>?_⟩⟩
     have s1:Same H (upd H l (.lst (ps.map V.ref))):=Same.new _ hl
     have s2:Same (upd H l (.lst (ps.map V.ref))) (upd (upd H l (.lst (ps.map V.ref))) t (.tup (ps.map V.ref))):=Same.new _ ht
     have ht0:H t=none:=s1.free ht
     have ht1:∀ {H':Hp},Same (upd (upd H l (.lst (ps.map V.ref))) t (.tup (ps.map V.ref))) H'→H' t=some (.tup (ps.map V.ref)):=fun e=>e _ _ aj
     refine ⟨m,t,ps.map V.ref,rfl,SqT.of aj,g.m1,g.m24,by rw [List.length_map]; omega,⟨_,SqT.of aj⟩,?_⟩
     refine qJ (K:=K) (xs:=ps.map V.ref) (fun i σ H3=>Same (upd (upd H l (.lst (ps.map V.ref))) t (.tup (ps.map V.ref))) H3∧∃ v,σ=[some (.ref p),some (.int m),some (.ref a),some (.ref t),v]) ⟨Same.refl _,_,rfl⟩ (fun i σ H3 _ ⟨z,_⟩=>SqT.of (ht1 z)) ?_ ?_
     · rintro i x σ H3 N hN hi ⟨s3,v,rfl⟩
       have s03:=s1.trans (s2.trans s3)
       obtain ⟨q,r,rfl,h1,h2,h3⟩:=hro.get hi
       have ok:=g.ok r (List.mem_of_getElem? h2)
       walk_at "rd"
       refine ⟨m,q,r,rfl,s03 _ _ h3,ok.a0,ok.a1,ok.b0,ok.b1,ok.ne,?_⟩
       exact ⟨q,r,rfl,s03 _ _ h3,ok.t0,ok.t1,ok.u0,ok.u1,fun H4 s4=>hN _ _ ⟨s3.trans s4,_,rfl⟩⟩
     · rintro σ H3 ⟨s3,v,rfl⟩
       have s03:=s1.trans (s2.trans s3)
       walk_at "rd"
       refine ⟨m,t,ps,rs,rfl,SqT.of (ht1 s3),RoadsAt.same s03 hro,g,fun H4 s4=>?_⟩
       have s04:=s03.trans s4
       have ntp:t≠p:=fun z=>by rw [z,hp] at ht0; cases ht0
       refine ⟨T.Web,dx,[],s04 _ _ hp,T.cl_Web,T.n_many,by decide,?_⟩
       refine ⟨T.Web,dx,_,aj,T.cl_Web,T.n_roads,by show 1 < 1000; decide,?_⟩
       rw [fD]
       refine k t _ ht0 ⟨⟨dx,aj⟩,?_,?_,g⟩ fun b o hb nb=>?_
       · rw [aq ntp]; exact ht1 (s3.trans s4)
       · refine Paired.imp' (fun q r hq=>?_) hro
         rw [aq (dk hq hp (by intro z; cases z))]
         exact s04 _ _ hq
       · rw [aq nb]; exact s04 _ _ hb
/-- Web(m,roads),at a call: nothing is changed,a new web stands -/
theorem A1 (T:Txt K mg) {H:Hp} {m:Int} {c:Bool} {a:Addr} {ps:List Addr} {rs:List Road} {Q:Addr→Hp→Prop} (ha:SqX K c H a (ps.map V.ref)) (ro:RoadsAt H ps rs) (g:Good m rs)
   (k:∀ x t H',H x=none→H t=none→Same H H'→WebAt T.Web H' x m t ps rs→Q x H') :
   ∀ x dx,H x=none→H dx=none→dx≠x→fj T [.ref x,.int m,.ref a] (upd (upd H dx (.own x)) x (.ins T.Web dx [])) (fun v H2=>v=.non∧Q x H2) E0:=by
 intro x dx hx hdx ne
 have hx1:upd H dx (.own x) x=none:=by rw [aq ne.symm]; exact hx
 have s0:Same H (upd (upd H dx (.own x)) x (.ins T.Web dx [])):=(Same.new _ hdx).trans (Same.new _ hx1)
 exact ⟨x,dx,m,c,a,ps,rs,rfl,aj,Same.sqX s0 ha,RoadsAt.same s0 ro,g,fun t H' ht W kp=>⟨rfl,k x t H' hx (s0.free ht) (fun b o e=>kp b o (s0 b o e) (bo e hx)) W⟩⟩
/-! #### _law_drawn -/
theorem qY (c i:Int) (i0:0≤i) (i1:i≤1000):CMul 7919 i∧CMul (c % 998244353 + 7919 * i + 11) 48271∧CMul ((c % 998244353 + 7919 * i + 11) * 48271 % 2147483647) ((c % 998244353 + 7919 * i + 11) * 48271 % 2147483647)∧CMul (((c % 998244353 + 7919 * i + 11) * 48271 % 2147483647) * ((c % 998244353 + 7919 * i + 11) * 48271 % 2147483647) % 2147483629) (((c % 998244353 + 7919 * i + 11) * 48271 % 2147483647) * ((c % 998244353 + 7919 * i + 11) * 48271 % 2147483647) % 2147483629)∧CMul ((((c % 998244353 + 7919 * i + 11) * 48271 % 2147483647) * ((c % 998244353 + 7919 * i + 11) * 48271 % 2147483647) % 2147483629) * (((c % 998244353 + 7919 * i + 11) * 48271 % 2147483647) * ((c % 998244353 + 7919 * i + 11) * 48271 % 2147483647) % 2147483629)) (((c % 998244353 + 7919 * i + 11) * 48271 % 2147483647) + 12345678901)∧AV ((((c % 998244353 + 7919 * i + 11) * 48271 % 2147483647) * ((c % 998244353 + 7919 * i + 11) * 48271 % 2147483647) % 2147483629) * (((c % 998244353 + 7919 * i + 11) * 48271 % 2147483647) * ((c % 998244353 + 7919 * i + 11) * 48271 % 2147483647) % 2147483629) * (((c % 998244353 + 7919 * i + 11) * 48271 % 2147483647) + 12345678901)) 7∧0≤(((c % 998244353 + 7919 * i + 11) * 48271 % 2147483647) * ((c % 998244353 + 7919 * i + 11) * 48271 % 2147483647) % 2147483629) * (((c % 998244353 + 7919 * i + 11) * 48271 % 2147483647) * ((c % 998244353 + 7919 * i + 11) * 48271 % 2147483647) % 2147483629) * (((c % 998244353 + 7919 * i + 11) * 48271 % 2147483647) + 12345678901) / 7:=by
 have h3:=Int.emod_nonneg ((c % 998244353 + 7919 * i + 11) * 48271) (show (2147483647:Int)≠0 by decide)
 have h4:=Int.emod_lt_of_pos ((c % 998244353 + 7919 * i + 11) * 48271) (show (0:Int) < 2147483647 by decide)
 generalize (c % 998244353 + 7919 * i + 11) * 48271 % 2147483647=n at h3 h4 ⊢
 have h5:=Int.emod_nonneg (n * n) (show (2147483629:Int)≠0 by decide)
 have h6:=Int.emod_lt_of_pos (n * n) (show (0:Int) < 2147483629 by decide)
 generalize n * n % 2147483629=f at h5 h6 ⊢
 refine ⟨.inl ⟨by decide,by decide⟩,.inr ⟨by decide,by decide⟩,.inl ⟨by omega,by omega⟩,.inl ⟨by omega,by omega⟩,.inr ⟨by omega,by omega⟩,⟨by decide,by decide⟩,?_⟩
 exact Int.ediv_nonneg (Int.mul_nonneg (Int.mul_nonneg h5 h5) (by omega)) (by decide)
def dY (T:Txt K mg):Sp:=fun vs H Q _=>∃ (a:Addr) (ns:List Int) (k:Int),vs=[.ref a,.int k]∧SqL K H a (ns.map V.int)∧0≤k∧k≤1000∧∀ v,0≤v→Q (.int v) H
abbrev aZ:Stmt:=top 62
theorem sc_law_drawn:FnScope ["script","k","cell","near","far"] ["script","k"] (aa aZ):=FnScope.of (by kernel_rfl)
theorem cX:NmL (aa aZ) "script":=.of (by kernel_rfl)
theorem fG:NmL (aa aZ) "k":=.of (by kernel_rfl)
theorem n_law_drawn__cell:NmL (aa aZ) "cell":=.of (by kernel_rfl)
theorem n_law_drawn__near:NmL (aa aZ) "near":=.of (by kernel_rfl)
theorem n_law_drawn__far:NmL (aa aZ) "far":=.of (by kernel_rfl)
theorem n_law_drawn__len:NmG (aa aZ) "len":=.of (by kernel_rfl)

theorem qw (T:Txt K mg) (hq:aJ (CXe P w)) {f:Addr} {fd:FuncData} (D:Df K mg "_law_drawn" aZ ["script","k"] f fd):FnOk P w K mg base (CXe P w) 1 f fd ["script","k"] (dY T):=by
 refine D.F.okC sc_law_drawn (fun vs H Q E h=>?_) (fun cdv A outer s H vs Q E hr h=>?_)
 · obtain ⟨a,ns,i,rfl,_⟩:=h
   rfl
 · obtain ⟨a,ns,i,rfl,ha,i0,i1,k⟩:=h
   refine ⟨_,(am (aD (i:=2) sc_law_drawn.nd rfl (Or.inl n_law_drawn__cell.l) ak) (am (bW (bG pj (pvl 1 fG) (cB dA n_law_drawn__len.g T.len gL (ag (pvl 0 cX) ah) (hn:=n_law_drawn__len.n) (hdb:=n_law_drawn__len.d)) (bB _)) (ap (aD (i:=2) sc_law_drawn.nd rfl (Or.inl n_law_drawn__cell.l) (ax b8 (aH cC (pvl 0 cX) (pvl 1 fG) (fun _ _=>rfl)) (ax f6 ak ak)))) bj) (am (bW (PW.pt (qF (bG tY (cB dA n_law_drawn__len.g T.len gL (ag (pvl 0 cX) ah) (hn:=n_law_drawn__len.n) (hdb:=n_law_drawn__len.d)) ak (bB _)) (nh (bG dW (ax b8 (aH cC (pvl 0 cX) ak (fun _ _=>rfl)) ak) ak (bB _))))) (am (aD (i:=3) sc_law_drawn.nd rfl (Or.inl n_law_drawn__near.l) (ax b8 (ax fX (ax gP (ax gP (ax b8 (pvl 2 n_law_drawn__cell) ak) (ax fX ak (pvl 1 fG))) ak) ak) ak)) (am (aD (i:=4) sc_law_drawn.nd rfl (Or.inl n_law_drawn__far.l) (ax b8 (ax fX (pvl 3 n_law_drawn__near) (pvl 3 n_law_drawn__near)) ak)) (ap (aD (i:=2) sc_law_drawn.nd rfl (Or.inl n_law_drawn__cell.l) (ax c7 (ax fX (ax fX (pvl 4 n_law_drawn__far) (pvl 4 n_law_drawn__far)) (ax gP (pvl 3 n_law_drawn__near) ak)) ak))))) bj) (ap (aG (pvl 2 n_law_drawn__cell)))))),?_⟩
   rw [show L2.start ["script","k","cell","near","far"] [V.ref a,V.int i]=[some (V.ref a),some (V.int i),none,none,none] from rfl]
   walk_at "rd"
   refine ⟨_,.inl ha,?_⟩
   rw [List.length_map]
   by_cases z:i < (ns.length:Int)
   · rw [if_pos z]
     refine ixS ha (atG i0 z) ⟨⟨by decide,by decide,by decide⟩,_,rfl,p60,?_⟩
     have c0:=Int.emod_nonneg (ns.getD i.toNat 0) (Int.ne_of_gt p60)
     generalize ns.getD i.toNat 0 % 10 ^ Int.toNat 60=c at c0 ⊢
     obtain ⟨h1,h2,h3,h4,h5,h6,h7⟩:=qY c i i0 i1
     refine ⟨_,.inl ha,?_⟩
     rw [List.length_map,if_pos (by omega)]
     refine ixS ha (atG (by decide) (by omega)) ⟨_,rfl,by decide,?_⟩
     by_cases y:ns.getD (0:Int).toNat 0 % 2=1
     · rw [if_pos y]
       exact ⟨by decide,h1,h2,by decide,h3,by decide,h4,h5,h6,k _ h7⟩
     · rw [if_neg y]
       exact k _ c0
   · rw [if_neg z]
     obtain ⟨h1,h2,h3,h4,h5,h6,h7⟩:=qY 0 i i0 i1
     refine ⟨_,.inl ha,?_⟩
     rw [List.length_map]
     by_cases x:0 < (ns.length:Int)
     · rw [if_pos x]
       refine ixS ha (atG (by decide) x) ⟨_,rfl,by decide,?_⟩
       by_cases y:ns.getD (0:Int).toNat 0 % 2=1
       · rw [if_pos y]
         exact ⟨by decide,h1,h2,by decide,h3,by decide,h4,h5,h6,k _ h7⟩
       · rw [if_neg y]
         exact k 0 (by decide)
     · rw [if_neg x]
       exact k 0 (by decide)
/-! #### _law_bound -/
def j7 (T:Txt K mg):Sp:=fun vs H Q _=>∃ (a:Addr) (ns:List Int),vs=[.ref a]∧SqL K H a (ns.map V.int)∧∀ b H',1≤b→b≤10 ^ 60→Same H H'→Q (.int b) H'
abbrev b9:Stmt:=top 65
theorem sc_law_bound:FnScope ["script","head"] ["script"] (aa b9):=FnScope.of (by kernel_rfl)
theorem jB:NmL (aa b9) "script":=.of (by kernel_rfl)
theorem n_law_bound__head:NmL (aa b9) "head":=.of (by kernel_rfl)
theorem n_law_bound__law_drawn:NmG (aa b9) "_law_drawn":=.of (by kernel_rfl)

theorem qT (T:Txt K mg) (hq:aJ (CXe P w)) {f:Addr} {fd:FuncData} (D:Df K mg "_law_bound" b9 ["script"] f fd) {f_law_drawn:Addr} {fd_law_drawn:FuncData} (D_law_drawn:Df K mg "_law_drawn" aZ ["script","k"] f_law_drawn fd_law_drawn) (G_law_drawn:FnOk P w K mg base (CXe P w) 1 f_law_drawn fd_law_drawn ["script","k"] (dY T)):FnOk P w K mg base (CXe P w) 2 f fd ["script"] (j7 T):=by
 refine D.F.okC sc_law_bound (fun vs H Q E h=>?_) (fun cdv A outer s H vs Q E hr h=>?_)
 · obtain ⟨a,ns,rfl,_⟩:=h
   rfl
 · obtain ⟨a,ns,rfl,ha,k⟩:=h
   refine ⟨_,(am (aD (i:=1) sc_law_bound.nd rfl (Or.inl n_law_bound__head.l) (ax c7 (ao G_law_drawn (hr.mono (by decide)) n_law_bound__law_drawn.g D_law_drawn.m D_law_drawn.F.kp D_law_drawn.b .nil (ay hq) (ag (pvl 0 jB) (ag ak ah)) (hdb:=n_law_bound__law_drawn.d)) ak)) (ap (aG (aH cC (dc (ag ak (ag ak (ag ak (ag (ax f6 ak ak) ah))))) (ax b8 (pvl 1 n_law_bound__head) ak) (fun _ _=>rfl))))),?_⟩
   rw [show L2.start ["script","head"] [V.ref a]=[some (V.ref a),none] from rfl]
   walk_at "rd"
   refine ⟨a,ns,0,rfl,ha,by decide,by decide,fun c c0=>⟨c,rfl,⟨by decide,by decide⟩,⟨by decide,by decide,by decide⟩,bN (by simp),fun q nq=>⟨by decide,?_⟩⟩⟩
   have h1:=Int.emod_nonneg (c / 1200) (show (4:Int)≠0 by decide)
   have h2:=Int.emod_lt_of_pos (c / 1200) (show (0:Int) < 4 by decide)
   generalize c / 1200 % 4=j at h1 h2 ⊢
   rcases (show j=0∨j=1∨j=2∨j=3 by omega) with z | z | z | z
   · rw [z]; exact ixL aj rfl (k _ _ (by decide) (by decide) (Same.new _ nq))
   · rw [z]; exact ixL aj rfl (k _ _ (by decide) (by decide) (Same.new _ nq))
   · rw [z]; exact ixL aj rfl (k _ _ (by decide) (by decide) (Same.new _ nq))
   · rw [z]; exact ixL aj rfl (k _ _ p60 (by decide) (Same.new _ nq))
/-! #### _law_laying -/
theorem Ai {P:Int→Prop} {xs:List Int} {n:Nat} {v:Int} (h:∀ x∈xs,P x) (hv:P v):∀ x∈xs.set n v,P x:=fun x hx=>by
 rcases List.mem_or_eq_of_mem_set hx with h1 | h1
 · exact h x h1
 · rw [h1]; exact hv
def jp (T:Txt K mg):Sp:=fun vs H Q _=>∃ (a:Addr) (ns:List Int) (m b:Int),vs=[.ref a,.int m,.int b]∧SqL K H a (ns.map V.int)∧ns.length≤63∧1≤m∧m≤24∧1≤b∧∀ (l:Addr) (xs:List Int) (H':Hp),H l=none→Same H H'→H' l=some (.lst (xs.map V.int))→(xs.length:Int)=m→(∀ x∈xs,0≤x∧x < b)→Q (.ref l) H'
abbrev aU:Stmt:=top 66
theorem sc_law_laying:FnScope ["script","many","bound","laying","k","place"] ["script","many","bound"] (aa aU):=FnScope.of (by kernel_rfl)
theorem dI:NmL (aa aU) "script":=.of (by kernel_rfl)
theorem db:NmL (aa aU) "many":=.of (by kernel_rfl)
theorem jw:NmL (aa aU) "bound":=.of (by kernel_rfl)
theorem n_law_laying__laying:NmL (aa aU) "laying":=.of (by kernel_rfl)
theorem n_law_laying__k:NmL (aa aU) "k":=.of (by kernel_rfl)
theorem n_law_laying__place:NmL (aa aU) "place":=.of (by kernel_rfl)
theorem n_law_laying__range:NmG (aa aU) "range":=.of (by kernel_rfl)
theorem n_law_laying__len:NmG (aa aU) "len":=.of (by kernel_rfl)
theorem n_law_laying__law_drawn:NmG (aa aU) "_law_drawn":=.of (by kernel_rfl)

theorem o0 (T:Txt K mg) (hq:aJ (CXe P w)) {f:Addr} {fd:FuncData} (D:Df K mg "_law_laying" aU ["script","many","bound"] f fd) {f_law_drawn:Addr} {fd_law_drawn:FuncData} (D_law_drawn:Df K mg "_law_drawn" aZ ["script","k"] f_law_drawn fd_law_drawn) (G_law_drawn:FnOk P w K mg base (CXe P w) 1 f_law_drawn fd_law_drawn ["script","k"] (dY T)):FnOk P w K mg base (CXe P w) 2 f fd ["script","many","bound"] (jp T):=by
 refine D.F.okC sc_law_laying (fun vs H Q E h=>?_) (fun cdv A outer s H vs Q E hr h=>?_)
 · obtain ⟨a,ns,m,b,rfl,_⟩:=h
   rfl
 · obtain ⟨a,ns,m,b,rfl,ha,hn,m0,m1,b0,k⟩:=h
   refine ⟨_,(am (aD (i:=3) sc_law_laying.nd rfl (Or.inl n_law_laying__laying.l) (ax qt (dc (ag ak ah)) (pvl 1 db))) (am (cS PassesOwn.never rfl (oj n_law_laying__range.g T.range (ag (pvl 1 db) (ag (cB dA n_law_laying__len.g T.len gL (ag (pvl 0 dI) ah) (hn:=n_law_laying__len.n) (hdb:=n_law_laying__len.d)) ah))) (aL (i:=4) sc_law_laying.nd rfl (Or.inl n_law_laying__k.l)) (ap (bW (bG dW (ax b8 (pvl 4 n_law_laying__k) ak) ak (bB _)) (am (aD (i:=5) sc_law_laying.nd rfl (Or.inl n_law_laying__place.l) (ax b8 (ao G_law_drawn (hr.mono (by decide)) n_law_laying__law_drawn.g D_law_drawn.m D_law_drawn.F.kp D_law_drawn.b .nil (ay hq) (ag (pvl 0 dI) (ag (pvl 4 n_law_laying__k) ah)) (hdb:=n_law_laying__law_drawn.d)) (pvl 1 db))) (ap (qG (ax b8 (ax gP (ax fX (aH cC (pvl 3 n_law_laying__laying) (pvl 5 n_law_laying__place) (fun _ _=>rfl)) ak) (ax c7 (ao G_law_drawn (hr.mono (by decide)) n_law_laying__law_drawn.g D_law_drawn.m D_law_drawn.F.kp D_law_drawn.b .nil (ay hq) (ag (pvl 0 dI) (ag (pvl 4 n_law_laying__k) ah)) (hdb:=n_law_laying__law_drawn.d)) (pvl 1 db))) (pvl 2 jw)) (pB (pvl 3 n_law_laying__laying) (pvl 5 n_law_laying__place) fE)))) bj))) (ap (aG (pvl 3 n_law_laying__laying))))),?_⟩
   rw [show L2.start ["script","many","bound","laying","k","place"] [V.ref a,V.int m,V.int b]=[some (V.ref a),some (V.int m),some (V.int b),none,none,none] from rfl]
   walk_at "rd"
   refine ⟨bN (by simp),fun l0 n0=>?_⟩
   refine ⟨l0,m,_,rfl,rfl,aj,by omega,by omega,bN (by simp; omega),fun l n1=>?_⟩
   rw [zM]
   have s0:Same H (upd H l0 (.lst [.int 0])):=Same.new _ n0
   have s1:=s0.trans (Same.new (.lst (List.replicate m.toNat (V.int 0))) n1)
   have nl:=s0.free n1
   refine ⟨_,.inl (Same.seq s1 ha),m,_,⟨rfl,rfl⟩,⟨by omega,by omega,by omega,by rw [List.length_map]; omega⟩,?_⟩
   rw [List.length_map]
   have e1:upd (upd H l0 (.lst [.int 0])) l (.lst (List.replicate m.toNat (V.int 0))) l=some (.lst ((List.replicate m.toNat (0:Int)).map V.int)):=by rw [aj,List.map_replicate]
   generalize upd (upd H l0 (.lst [.int 0])) l (.lst (List.replicate m.toNat (V.int 0)))=H1 at s1 e1 ⊢
   refine iY (fun i σ H2=>Same H H2∧∃ (xs:List Int) (v4 v5:Option V),H2 l=some (.lst (xs.map V.int))∧(xs.length:Int)=m∧(∀ x∈xs,0≤x∧x < b)∧σ=[some (.ref a),some (.int m),some (.int b),some (.ref l),v4,v5]) ⟨s1,_,_,_,e1,by rw [List.length_replicate]; omega,fun x hx=>by rw [(List.mem_replicate.mp hx).2]; omega,rfl⟩ ?_ ?_
   · rintro i σ H2 N hN hi ⟨s2,xs,v4,v5,e2,xl,x0,rfl⟩
     have i0:0≤m + (i:Int):=by omega
     have i1:m + (i:Int)≤1000:=by omega
     generalize m + (i:Int)=j at i0 i1 ⊢
     have sa:=Same.seq s2 ha
     walk_at "rd"
     refine ⟨by decide,?_⟩
     by_cases z:j % 2=0
     · rw [if_pos z]
       refine ⟨a,ns,j,rfl,sa,i0,i1,fun c c0=>⟨c,rfl,by omega,?_⟩⟩
       have h1:=Int.emod_nonneg c (show m≠0 by omega)
       have h2:=Int.emod_lt_of_pos c (show 0 < m by omega)
       generalize c % m=p at h1 h2 ⊢
       refine ixL e2 (atG h1 (by omega)) ⟨_,rfl,.inr ⟨by decide,by decide⟩,a,ns,j,rfl,sa,i0,i1,fun c' c0'=>⟨c',rfl,⟨by omega,by omega⟩,by omega,pD e2 h1 (by rw [List.length_map]; omega) (hN _ _ ⟨s2.put nl _,xs.set p.toNat _,_,_,by rw [aj,List.map_set],by rw [List.length_set]; exact xl,Ai x0 ⟨Int.emod_nonneg _ (by omega),Int.emod_lt_of_pos _ (by omega)⟩,rfl⟩)⟩⟩
     · rw [if_neg z]
       exact hN _ _ ⟨s2,xs,_,_,e2,xl,x0,rfl⟩
   · rintro σ H2 ⟨s2,xs,v4,v5,e2,xl,x0,rfl⟩
     exact ⟨_,rfl,k l xs H2 nl s2 e2 xl x0⟩
/-! #### _law_toll -/
def kK (T:Txt K mg):Sp:=fun vs H Q _=>∃ (c:Int),vs=[.int c]∧∀ t,2≤t→t≤1000000→Q (.int t) H
abbrev cJ:Stmt:=top 63
theorem rB:FnScope ["part"] ["part"] (aa cJ):=FnScope.of (by kernel_rfl)
theorem eG:NmL (aa cJ) "part":=.of (by kernel_rfl)

theorem rn (T:Txt K mg) (hq:aJ (CXe P w)) {f:Addr} {fd:FuncData} (D:Df K mg "_law_toll" cJ ["part"] f fd):FnOk P w K mg base (CXe P w) 1 f fd ["part"] (kK T):=by
 refine D.F.okC rB (fun vs H Q E h=>?_) (fun cdv A outer s H vs Q E hr h=>?_)
 · obtain ⟨c,rfl,_⟩:=h
   rfl
 · obtain ⟨c,rfl,k⟩:=h
   refine ⟨_,(am (bW (bG dW (ax b8 (pvl 0 eG) ak) ak (bB _)) (ap (aG (ax gP ak (ax b8 (ax c7 (pvl 0 eG) ak) (ax j6 (ax f6 ak ak) ak))))) bj) (ap (aG (ax gP ak (ax b8 (ax c7 (pvl 0 eG) ak) ak))))),?_⟩
   rw [show L2.start ["part"] [V.int c]=[some (V.int c)] from rfl]
   walk_at "rd"
   have e6:(10:Int) ^ Int.toNat 6 - 1=999999:=by decide
   have a1:=Int.emod_nonneg (c / 8) (show (999999:Int)≠0 by decide)
   have a2:=Int.emod_lt_of_pos (c / 8) (show (0:Int) < 999999 by decide)
   have a3:=Int.emod_nonneg (c / 8) (show (4:Int)≠0 by decide)
   have a4:=Int.emod_lt_of_pos (c / 8) (show (0:Int) < 4 by decide)
   refine ⟨by decide,?_⟩
   by_cases z:c % 8=7
   · rw [if_pos z]
     refine ⟨⟨by decide,by decide⟩,⟨by decide,by decide,by decide⟩,by decide,?_⟩
     rw [e6]
     exact k _ (by omega) (by omega)
   · rw [if_neg z]
     exact ⟨⟨by decide,by decide⟩,by decide,k _ (by omega) (by omega)⟩
/-! #### _law_roads -/
def j5 (T:Txt K mg):Sp:=fun vs H Q _=>∃ (a:Addr) (ns:List Int) (m s:Int),vs=[.ref a,.int m,.int s]∧SqL K H a (ns.map V.int)∧1≤m∧m≤24∧0≤s∧s < 4 ∧
 ∀ (l:Addr) (ps:List Addr) (rs:List Road) (H':Hp),H l=none→Same H H'→H' l=some (.lst (ps.map V.ref))→RoadsAt H' ps rs→Good m rs→Q (.ref l) H'
abbrev aR:Stmt:=top 64
theorem sc_law_roads:FnScope ["script","many","shape","roads","k","part","to","there","back"] ["script","many","shape"] (aa aR):=FnScope.of (by kernel_rfl)
theorem jE:NmL (aa aR) "script":=.of (by kernel_rfl)
theorem kF:NmL (aa aR) "many":=.of (by kernel_rfl)
theorem jY:NmL (aa aR) "shape":=.of (by kernel_rfl)
theorem n_law_roads__roads:NmL (aa aR) "roads":=.of (by kernel_rfl)
theorem n_law_roads__k:NmL (aa aR) "k":=.of (by kernel_rfl)
theorem n_law_roads__part:NmL (aa aR) "part":=.of (by kernel_rfl)
theorem n_law_roads__to:NmL (aa aR) "to":=.of (by kernel_rfl)
theorem n_law_roads__there:NmL (aa aR) "there":=.of (by kernel_rfl)
theorem n_law_roads__back:NmL (aa aR) "back":=.of (by kernel_rfl)
theorem n_law_roads__range:NmG (aa aR) "range":=.of (by kernel_rfl)
theorem n_law_roads__law_drawn:NmG (aa aR) "_law_drawn":=.of (by kernel_rfl)
theorem n_law_roads__law_toll:NmG (aa aR) "_law_toll":=.of (by kernel_rfl)

theorem qk (T:Txt K mg) (hq:aJ (CXe P w)) {f:Addr} {fd:FuncData} (D:Df K mg "_law_roads" aR ["script","many","shape"] f fd) {f_law_drawn:Addr} {fd_law_drawn:FuncData} (D_law_drawn:Df K mg "_law_drawn" aZ ["script","k"] f_law_drawn fd_law_drawn) (G_law_drawn:FnOk P w K mg base (CXe P w) 1 f_law_drawn fd_law_drawn ["script","k"] (dY T)) {f_law_toll:Addr} {fd_law_toll:FuncData} (D_law_toll:Df K mg "_law_toll" cJ ["part"] f_law_toll fd_law_toll) (G_law_toll:FnOk P w K mg base (CXe P w) 1 f_law_toll fd_law_toll ["part"] (kK T)):FnOk P w K mg base (CXe P w) 2 f fd ["script","many","shape"] (j5 T):=by
 refine D.F.okC sc_law_roads (fun vs H Q E h=>?_) (fun cdv A outer s H vs Q E hr h=>?_)
 · obtain ⟨a,ns,m,s,rfl,_⟩:=h
   rfl
 · obtain ⟨a,ns,m,sh,rfl,ha,m1,m24,sh0,sh4,k⟩:=h
   refine ⟨_,(am (aD (i:=3) sc_law_roads.nd rfl (Or.inl n_law_roads__roads.l) (dc ah)) (am (cS PassesOwn.never rfl (oj n_law_roads__range.g T.range (ag ak (ag (pvl 1 kF) ah))) (aL (i:=4) sc_law_roads.nd rfl (Or.inl n_law_roads__k.l)) (am (aD (i:=5) sc_law_roads.nd rfl (Or.inl n_law_roads__part.l) (ao G_law_drawn (hr.mono (by decide)) n_law_roads__law_drawn.g D_law_drawn.m D_law_drawn.F.kp D_law_drawn.b .nil (ay hq) (ag (pvl 0 jE) (ag (pvl 4 n_law_roads__k) ah)) (hdb:=n_law_roads__law_drawn.d))) (am (aD (i:=6) sc_law_roads.nd rfl (Or.inl n_law_roads__to.l) (aH cC (dc (ag (ax b8 (pvl 5 n_law_roads__part) (pvl 4 n_law_roads__k)) (ag (ax j6 (pvl 4 n_law_roads__k) ak) (ag ak (ag (ax b8 (pvl 5 n_law_roads__part) (pvl 4 n_law_roads__k)) ah))))) (pvl 2 jY) (fun _ _=>rfl))) (am (aD (i:=5) sc_law_roads.nd rfl (Or.inl n_law_roads__part.l) (ax c7 (pvl 5 n_law_roads__part) (pvl 4 n_law_roads__k))) (am (aD (i:=7) sc_law_roads.nd rfl (Or.inl n_law_roads__there.l) (ao G_law_toll (hr.mono (by decide)) n_law_roads__law_toll.g D_law_toll.m D_law_toll.F.kp D_law_toll.b .nil (ay hq) (ag (ax b8 (pvl 5 n_law_roads__part) (ax f6 ak ak)) ah) (hdb:=n_law_roads__law_toll.d))) (am (aD (i:=8) sc_law_roads.nd rfl (Or.inl n_law_roads__back.l) (ao G_law_toll (hr.mono (by decide)) n_law_roads__law_toll.g D_law_toll.m D_law_toll.F.kp D_law_toll.b .nil (ay hq) (ag (ax b8 (ax c7 (pvl 5 n_law_roads__part) (ax f6 ak ak)) (ax f6 ak ak)) ah) (hdb:=n_law_roads__law_toll.d))) (am (bW (bG dW (ax b8 (ax pI (pvl 5 n_law_roads__part) (ax f6 ak ak)) ak) ak (bB _)) (ap (aD (i:=8) sc_law_roads.nd rfl (Or.inl n_law_roads__back.l) (pvl 7 n_law_roads__there))) bj) (ap (bW (bG dW (ax b8 (ax pI (pvl 5 n_law_roads__part) (ax f6 ak ak)) ak) ak (bB _)) (ap (b5 (fP PySem.F.plainAttrs_list PySem.F.slot_list_append PySem.F.type_list_append cG (pvl 3 n_law_roads__roads) (ag (fk (ag (pvl 6 n_law_roads__to) (ag (pvl 4 n_law_roads__k) (ag (pvl 7 n_law_roads__there) (ag (pvl 8 n_law_roads__back) ah))))) ah)))) (ap (b5 (fP PySem.F.plainAttrs_list PySem.F.slot_list_insert PySem.F.type_list_insert u7 (pvl 3 n_law_roads__roads) (ag ak (ag (fk (ag (pvl 4 n_law_roads__k) (ag (pvl 6 n_law_roads__to) (ag (pvl 8 n_law_roads__back) (ag (pvl 7 n_law_roads__there) ah))))) ah)))))))))))))) (ap (aG (pvl 3 n_law_roads__roads))))),?_⟩
   rw [show L2.start ["script","many","shape","roads","k","part","to","there","back"] [V.ref a,V.int m,V.int sh]=[some (V.ref a),some (V.int m),some (V.int sh),none,none,none,none,none,none] from rfl]
   walk_at "rd"
   refine ⟨by decide,fun lo nlo=>⟨1,m,⟨rfl,rfl⟩,⟨by decide,by decide,by omega,by omega⟩,?_⟩⟩
   refine iY (fun i σ H3=>∃ (ps:List Addr) (rs:List Road) (rows:List Row) (v4 v5 v6 v7 v8:Option V),σ=[some (V.ref a),some (V.int m),some (V.int sh),some (V.ref lo),v4,v5,v6,v7,v8]∧Same H H3∧H3 lo=some (.lst (ps.map V.ref))∧RoadsAt H3 ps rs∧Rows i rows∧Put (below m.toNat) rows rs) ⟨[],[],[],_,_,_,_,_,rfl,Same.new _ nlo,aj,.nil,⟨rfl,fun i r h=>by cases h⟩,Put.nil _⟩ ?_ ?_
   · rintro i σ H3 N hN hi ⟨ps,rs,rows,v4,v5,v6,v7,v8,rfl,s3,hl3,ro3,R,P⟩
     have k0:(1:Int)≤1 + (i:Int):=by omega
     have k1:1 + (i:Int) < m:=by omega
     generalize hk:(1:Int) + (i:Int)=kk at k0 k1 ⊢
     have psl:ps.length=rs.length:=Paired.length ro3
     have rl:=R.len
     have pl:=P.len
     walk_at "rd"
     refine ⟨a,ns,kk,rfl,Same.seq s3 ha,by omega,by omega,fun c c0=>?_⟩
     have em:∀ (x n:Int),0 < n→0≤x % n∧x % n < n:=fun x n h=>⟨Int.emod_nonneg x (Int.ne_of_gt h),Int.emod_lt_of_pos x h⟩
     have hg:=em c kk (by omega)
     have cp9:BZ 10 9:=⟨by decide,by decide,by decide⟩
     have e9:(10:Int) ^ Int.toNat 9=1000000000:=by decide
     have e18:(10:Int) ^ Int.toNat 18=1000000000000000000:=by decide
     have e19:(10:Int) ^ Int.toNat 19=10000000000000000000:=by decide
     refine ⟨c,rfl,by omega,c,rfl,by omega,bN (by simp),fun q1 hq1=>?_⟩
     have s4:=Same.new (.lst [.int (c % kk),.int (kk - 1),.int 0,.int (c % kk)]) hq1
     obtain ⟨un,hun,u0,u1⟩:∃ un:Int,atI [V.int (c % kk),V.int (kk - 1),V.int 0,V.int (c % kk)] sh=some (.int un)∧0≤un∧un < kk:=by
       rcases (show sh=0∨sh=1∨sh=2∨sh=3 by omega) with z | z | z | z
       · exact ⟨_,by rw [z]; rfl,hg.1,hg.2⟩
       · exact ⟨_,by rw [z]; rfl,by omega,by omega⟩
       · exact ⟨_,by rw [z]; rfl,by omega,by omega⟩
       · exact ⟨_,by rw [z]; rfl,hg.1,hg.2⟩
     refine ixL aj hun ?_
     generalize upd H3 q1 (.lst [.int (c % kk),.int (kk - 1),.int 0,.int (c % kk)])=H4 at s4 ⊢
     rw [e9,e18,e19]
     refine ⟨c,rfl,⟨by omega,by omega⟩,cp9,by decide,_,rfl,fun th t0 t1=>⟨cp9,⟨by decide,by decide⟩,cp9,by decide,_,rfl,fun bk b0 b1=>⟨⟨by decide,by decide,by decide⟩,⟨by decide,by decide⟩,by decide,?_⟩⟩⟩
     have hl4:=s4 _ _ hl3
     have ro4:=RoadsAt.same s4 ro3
     have lu:=mz (n:=m.toNat) u0 (by omega)
     have lk:=mz (n:=m.toNat) (show 0≤kk by omega) (by omega)
     have keep:∀ {H7:Hp} {zs:List V} {q:Addr} {r':Road},Same H3 H7→H7 q=some (.tup (d5 r'))→upd H7 lo (.lst zs) q=some (.tup (d5 r')):=fun {H7 zs q r'} s7 h=>by rw [aq (dk h (s7 _ _ hl3) (by intro z; cases z))]; exact h
     have fin:∀ (H7:Hp) (q:Addr) (row:Row) (n:Nat) (v5 v6 v7 v8:Option V),Same H3 H7→row.k=kk→RowOk row→H7 q=some (.tup (d5 (dv (below m.toNat) row)))→N [some (V.ref a),some (V.int m),some (V.int sh),some (V.ref lo),some (V.int kk),v5,v6,v7,v8] (upd H7 lo (.lst ((ps.take n ++ q :: ps.drop n).map V.ref))):=by
       intro H7 q row n v5 v6 v7 v8 s7 rk rok hq
       refine hN _ _ ⟨_,rs.take n ++ dv (below m.toNat) row :: rs.drop n,rows ++ [row],_,_,_,_,_,rfl,(s3.trans s7).put nlo _,aj,?_,uE R (by omega) rok,P.step row n⟩
       exact Ch n (Paired.imp' (fun p r h=>keep s7 h) (RoadsAt.same s7 ro3)) (keep s7 hq)
     have app:∀ (H7:Hp) (q:Addr) (row:Row) (v5 v6 v7 v8:Option V),Same H3 H7→row.k=kk→RowOk row→H7 q=some (.tup (d5 (dv (below m.toNat) row)))→rAppend (V.ref lo) [V.ref q] H7 fun _ H1=>N [some (V.ref a),some (V.int m),some (V.int sh),some (V.ref lo),some (V.int kk),v5,v6,v7,v8] H1:=fun H7 q row v5 v6 v7 v8 s7 rk rok hq=>by
       refine io (s7 _ _ hl3) (bX (by rw [List.length_map]; omega)) ?_
       have:=fin H7 q row ps.length v5 v6 v7 v8 s7 rk rok hq
       rw [List.take_length,List.drop_length,List.map_append] at this
       exact this
     have ins:∀ (H7:Hp) (q:Addr) (row:Row) (v5 v6 v7 v8:Option V),Same H3 H7→row.k=kk→RowOk row→H7 q=some (.tup (d5 (dv (below m.toNat) row)))→rInsert (V.ref lo) [V.int 0,V.ref q] H7 fun _ H1=>N [some (V.ref a),some (V.int m),some (V.int sh),some (V.ref lo),some (V.int kk),v5,v6,v7,v8] H1:=fun H7 q row v5 v6 v7 v8 s7 rk rok hq=>by
       refine Cw (s7 _ _ hl3) (Int.le_refl _) (by omega) (bX (by rw [List.length_map]; omega)) ?_
       have:=fin H7 q row 0 v5 v6 v7 v8 s7 rk rok hq
       rw [List.take_zero,List.drop_zero,List.nil_append] at this
       exact this
     have e1:∀ x y:Int,d5 (dv (below m.toNat) ⟨kk,un,x,y,1,0⟩)=[V.int un,V.int kk,V.int x,V.int y]:=fun x y=>by
       unfold dv
       rw [if_pos rfl]
       show [V.int ((below m.toNat).getD un.toNat 0),V.int ((below m.toNat).getD kk.toNat 0),V.int x,V.int y]=_
       rw [lu,lk]
     have e2:∀ x y:Int,d5 (dv (below m.toNat) ⟨kk,un,x,y,0,0⟩)=[V.int kk,V.int un,V.int x,V.int y]:=fun x y=>by
       unfold dv
       rw [if_neg (show ¬ (0:Int)=1 by decide)]
       show [V.int ((below m.toNat).getD kk.toNat 0),V.int ((below m.toNat).getD un.toNat 0),V.int x,V.int y]=_
       rw [lu,lk]
     have okR:∀ (x y w:Int),2≤x→x≤1000000→2≤y→y≤1000000→RowOk ⟨kk,un,x,y,w,0⟩:=fun x y w a b c d=>⟨u0,u1,a,b,c,d,Int.le_refl _,by show (0:Int) < kk; omega⟩
     have both:∀ (th bk:Int) (v5 v7 v8:Option V),2≤th→th≤1000000→2≤bk→bk≤1000000→(tyV K "list" (V.ref lo) H4∧[V.int un,V.int kk,V.int th,V.int bk].length≤sizeLine∧∀ p,H4 p=none→rAppend (V.ref lo) [V.ref p] (upd H4 p (.tup [V.int un,V.int kk,V.int th,V.int bk])) fun _ H1=>N [some (V.ref a),some (V.int m),some (V.int sh),some (V.ref lo),some (V.int kk),v5,some (V.int un),v7,v8] H1)∧(tyV K "list" (V.ref lo) H4∧[V.int kk,V.int un,V.int bk,V.int th].length≤sizeLine∧∀ p,H4 p=none→rInsert (V.ref lo) [V.int 0,V.ref p] (upd H4 p (.tup [V.int kk,V.int un,V.int bk,V.int th])) fun _ H1=>N [some (V.ref a),some (V.int m),some (V.int sh),some (V.ref lo),some (V.int kk),v5,some (V.int un),v7,v8] H1):=fun th bk v5 v7 v8 t0 t1 b0 b1 =>
       ⟨⟨tyL hl4,bN (by simp),fun p hp=>app _ p ⟨kk,un,th,bk,1,0⟩ _ _ _ _ (s4.trans (Same.new _ hp)) rfl (okR _ _ _ t0 t1 b0 b1) (by rw [aj,e1])⟩,⟨tyL hl4,bN (by simp),fun p hp=>ins _ p ⟨kk,un,bk,th,0,0⟩ _ _ _ _ (s4.trans (Same.new _ hp)) rfl (okR _ _ _ b0 b1 t0 t1) (by rw [aj,e2])⟩⟩
     by_cases y1:c / kk / 1000000000000000000 % 3=0
     · rw [if_pos y1]
       refine ⟨⟨by decide,by decide,by decide⟩,⟨by decide,by decide⟩,by decide,?_⟩
       by_cases y2:c / kk / 10000000000000000000 % 2=0
       · rw [if_pos y2]
         exact (both th th _ _ _ t0 t1 t0 t1).1
       · rw [if_neg y2]
         exact (both th th _ _ _ t0 t1 t0 t1).2
     · rw [if_neg y1]
       refine ⟨⟨by decide,by decide,by decide⟩,⟨by decide,by decide⟩,by decide,?_⟩
       by_cases y2:c / kk / 10000000000000000000 % 2=0
       · rw [if_pos y2]
         exact (both th bk _ _ _ t0 t1 b0 b1).1
       · rw [if_neg y2]
         exact (both th bk _ _ _ t0 t1 b0 b1).2
   · rintro σ H3 ⟨ps,rs,rows,v4,v5,v6,v7,v8,rfl,s3,hl3,ro3,R,P⟩
     have g:=AL (n:=m.toNat) (by omega) (by omega) (qU _) (by rw [show m.toNat - 1=(m - 1).toNat by omega]; exact R) P
     rw [Int.toNat_of_nonneg (by omega)] at g
     walk_at "rd"
     exact k lo ps rs H3 nlo s3 hl3 ro3 g
/-! #### common_divisor -/
def eh (T:Txt K mg):Sp:=fun vs H Q _=>∃ (i j:Int),vs=[.int i,.int j]∧Q (.int (i.gcd j:Int)) H
abbrev aS:Stmt:=top 2
theorem sc_common_divisor:FnScope ["one","two","rest"] ["one","two"] (aa aS):=FnScope.of (by kernel_rfl)
theorem n_common_divisor__one:NmL (aa aS) "one":=.of (by kernel_rfl)
theorem n_common_divisor__two:NmL (aa aS) "two":=.of (by kernel_rfl)
theorem n_common_divisor__rest:NmL (aa aS) "rest":=.of (by kernel_rfl)
theorem n_common_divisor__abs:NmG (aa aS) "abs":=.of (by kernel_rfl)

theorem kC (T:Txt K mg) (hq:aJ (CXe P w)) {f:Addr} {fd:FuncData} (D:Df K mg "common_divisor" aS ["one","two"] f fd):FnOk P w K mg base (CXe P w) 1 f fd ["one","two"] (eh T):=by
 refine D.F.okC sc_common_divisor (fun vs H Q E h=>?_) (fun cdv A outer s H vs Q E hr h=>?_)
 · obtain ⟨i,j,rfl,_⟩:=h
   rfl
 · obtain ⟨i,j,rfl,k⟩:=h
   refine ⟨_,(am (jh PassesOwn.never (bG me (pvl 1 n_common_divisor__two) ak (bB _)) (am (aD (i:=2) sc_common_divisor.nd rfl (Or.inl n_common_divisor__rest.l) (ax AK (pvl 0 n_common_divisor__one) (pvl 1 n_common_divisor__two))) (am (aD (i:=0) sc_common_divisor.nd rfl (Or.inl n_common_divisor__one.l) (pvl 1 n_common_divisor__two)) (ap (aD (i:=1) sc_common_divisor.nd rfl (Or.inl n_common_divisor__two.l) (pvl 2 n_common_divisor__rest)))))) (ap (aG (cB xY n_common_divisor__abs.g T.abs BH (ag (pvl 0 n_common_divisor__one) ah) (hn:=n_common_divisor__abs.n) (hdb:=n_common_divisor__abs.d))))),?_⟩
   rw [show L2.start ["one","two","rest"] [V.int i,V.int j]=[some (V.int i),some (V.int j),none] from rfl]
   refine dj fun N1 h1=>?_
   refine m9 (fun n σ H'=>H'=H∧∃ (x y:Int) (v:Option V),n=y.natAbs∧x.gcd y=i.gcd j∧σ=[some (V.int x),some (V.int y),v]) j.natAbs ⟨rfl,i,j,_,rfl,rfl,rfl⟩ ?_
   rintro n σ H' N BB hBB hN hN2 ⟨rfl,x,y,v,rfl,e,rfl⟩
   refine hBB _ _ _ ?_
   walk_at "rd"
   by_cases c:y=0
   · subst c
     rw [if_neg (fun z=>z rfl)]
     refine h1 _ _ ?_
     walk_at "rd"
     rw [A2,show (x.natAbs:Int)=(i.gcd j:Int) by rw [← e,Int.gcd_zero_right]]
     exact k
   · rw [if_pos c]
     refine ⟨N,fun σ' H2 w=>?_,c,hN (x.fmod y).natAbs _ _ (uS c) ⟨rfl,y,x.fmod y,_,rfl,by rw [BE]; exact e,rfl⟩⟩
     obtain ⟨m',lt,e1,x',y',v',e2,e3,e4⟩:=hN2 _ _ w
     exact ⟨m',lt,e1,x',y',e2,e3,v',e4⟩
/-! #### fraction -/
def cM (T:Txt K mg):Sp:=fun vs H Q _=>∃ (i j:Int),vs=[.int i,.int j]∧j≠0∧j.natAbs < 2 ^ 4000∧∀ (p q:Int) (r:Addr),Frc i j p q→H r=none→Q (.ref r) (upd H r (.tup [.int p,.int q]))
abbrev be:Stmt:=top 1
theorem sc_fraction:FnScope ["top","bottom","common"] ["top","bottom"] (aa be):=FnScope.of (by kernel_rfl)
theorem hW:NmL (aa be) "top":=.of (by kernel_rfl)
theorem d0:NmL (aa be) "bottom":=.of (by kernel_rfl)
theorem n_fraction__common:NmL (aa be) "common":=.of (by kernel_rfl)
theorem n_fraction__common_divisor:NmG (aa be) "common_divisor":=.of (by kernel_rfl)

theorem rJ (T:Txt K mg) (hq:aJ (CXe P w)) {f:Addr} {fd:FuncData} (D:Df K mg "fraction" be ["top","bottom"] f fd) {f_common_divisor:Addr} {fd_common_divisor:FuncData} (D_common_divisor:Df K mg "common_divisor" aS ["one","two"] f_common_divisor fd_common_divisor) (G_common_divisor:FnOk P w K mg base (CXe P w) 1 f_common_divisor fd_common_divisor ["one","two"] (eh T)):FnOk P w K mg base (CXe P w) 2 f fd ["top","bottom"] (cM T):=by
 refine D.F.okC sc_fraction (fun vs H Q E h=>?_) (fun cdv A outer s H vs Q E hr h=>?_)
 · obtain ⟨i,j,rfl,_⟩:=h
   rfl
 · obtain ⟨i,j,rfl,j0,jb,k⟩:=h
   refine ⟨_,(am (aD (i:=2) sc_fraction.nd rfl (Or.inl n_fraction__common.l) (ao G_common_divisor (hr.mono (by decide)) n_fraction__common_divisor.g D_common_divisor.m D_common_divisor.F.kp D_common_divisor.b .nil (ay hq) (ag (pvl 0 hW) (ag (pvl 1 d0) ah)) (hdb:=n_fraction__common_divisor.d))) (am (bW (bG pj (pvl 1 d0) ak (bB _)) (ap (aD (i:=2) sc_fraction.nd rfl (Or.inl n_fraction__common.l) (mK jR (pvl 2 n_fraction__common)))) bj) (ap (aG (fk (ag (ax nZ (pvl 0 hW) (pvl 2 n_fraction__common)) (ag (ax nZ (pvl 1 d0) (pvl 2 n_fraction__common)) ah))))))),?_⟩
   rw [show L2.start ["top","bottom","common"] [V.int i,V.int j]=[some (V.int i),some (V.int j),none] from rfl]
   have gp:=Int.gcd_pos_of_ne_zero_right i j0
   have gl:=Int.gcd_le_natAbs_right i j0
   refine dj fun N1 h1=>?_
   walk_at "rd"
   refine ⟨i,j,rfl,h1 _ _ ?_⟩
   have go:∀ c:Int,c.natAbs=i.gcd j→(0 < c↔0 < j)→pM i c∧pM j c∧Frc i j (i.fdiv c) (j.fdiv c):=fun c h1 h2=>by
     have c0:c≠0:=by omega
     have lb:c.natAbs.log2 < 9000:=lF c0 (n:=4000) (by omega) (by decide)
     exact ⟨⟨c0,lb⟩,⟨c0,lb⟩,BS j0 h1 h2⟩
   walk_at "rd"
   by_cases c:j < 0
   · rw [if_pos c]
     obtain ⟨h1,h2,h3⟩:=go (-(i.gcd j:Int)) (by omega) (by omega)
     exact ⟨h1,h2,bN (by simp),fun p np=>k _ _ p h3 np⟩
   · rw [if_neg c]
     obtain ⟨h1,h2,h3⟩:=go (i.gcd j:Int) (by omega) (by omega)
     exact ⟨h1,h2,bN (by simp),fun p np=>k _ _ p h3 np⟩
/-! #### _law_shares -/
def ju (T:Txt K mg):Sp:=fun vs H Q _=>∃ (a:Addr) (c:Bool) (xs:List Int),vs=[.ref a]∧SqX K c H a (xs.map V.int)∧xs.length≤1000∧∀ (l:Addr) (qs:List Addr) (H':Hp),H l=none→Same H H'→H' l=some (.lst (qs.map V.ref))→FrsAt H' qs (xs.map fun x=>(x,(1:Int)))→Q (.ref l) H'
abbrev cq:Stmt:=top 67
theorem oP:FnScope ["numbers"] ["numbers"] (aa cq):=FnScope.of (by kernel_rfl)
theorem iH:NmL (aa cq) "numbers":=.of (by kernel_rfl)

theorem oS (T:Txt K mg) (hq:aJ (CXe P w)) {f:Addr} {fd:FuncData} (D:Df K mg "_law_shares" cq ["numbers"] f fd) {f_fraction:Addr} {fd_fraction:FuncData} (D_fraction:Df K mg "fraction" be ["top","bottom"] f_fraction fd_fraction) (G_fraction:FnOk P w K mg base (CXe P w) 2 f_fraction fd_fraction ["top","bottom"] (cM T)):FnOk P w K mg base (CXe P w) 3 f fd ["numbers"] (ju T):=by
 refine D.F.okC oP (fun vs H Q E h=>?_) (fun cdv A outer s H vs Q E hr h=>?_)
 · obtain ⟨a,c,xs,rfl,_⟩:=h
   rfl
 · obtain ⟨a,c,xs,rfl,ha,xl,k⟩:=h
   refine ⟨_,(ap (aG (c8 rfl (jf (Nc:=["number"]) 1 (by decide +kernel) (by decide +kernel) rfl (by decide +kernel) rfl) (gO c (pvl 0 iH)) (fun _ _ _ _=>(aL (i:=0) (show (["number"]:List Str).Nodup from by decide +kernel) rfl (Or.inl rfl))) (fun _ _ _ _=>dP) (fun _ _ _ _=>(ao G_fraction (hr.mono (by decide)) (by rfl) D_fraction.m D_fraction.F.kp D_fraction.b .nil (ay hq) (ag (pv 0) (ag ak ah))))))),?_⟩
   rw [show L2.start ["numbers"] [V.ref a]=[some (V.ref a)] from rfl]
   walk_at "rd"
   refine ⟨⟨_,ha⟩,fun l nl=>?_⟩
   refine eJ (K:=K) (c:=c) (xs:=xs.map V.int) (fun i zs σ H2=>Same H H2∧H2 l=some (.lst zs)∧(∃ qs:List Addr,zs=qs.map V.ref∧FrsAt H2 qs ((xs.take i).map fun x=>(x,(1:Int))))∧∃ v,σ=[v]) ⟨Same.new _ nl,aj,⟨[],rfl,.nil⟩,_,rfl⟩ (fun i bs σ H2 _ z=>Same.sqX z.1 ha) ?_ ?_
   · rintro i x zs σ H2 N hN hx ⟨s2,e2,⟨qs,rfl,fa⟩,v,rfl⟩
     rw [List.getElem?_map] at hx
     obtain ⟨y,gy,rfl⟩:=Option.map_eq_some_iff.mp hx
     have ql:qs.length=((xs.take i).map fun x=>(x,(1:Int))).length:=Paired.length fa
     rw [List.length_map,List.length_take] at ql
     walk_at "rd"
     refine ⟨y,1,rfl,by decide,Nat.one_lt_two_pow (by decide),fun p q r fr nr=>?_⟩
     obtain ⟨rfl,rfl⟩:=kh fr
     have s3:=Same.new (.tup [V.int p,V.int 1]) nr
     have nrl:r≠l:=fun z=>by rw [z,e2] at nr; cases nr
     refine ⟨s3 _ _ e2,bX (by rw [List.length_map]; omega),hN _ _ _ ⟨(s2.trans s3).put nl _,aj,⟨qs ++ [r],by rw [List.map_append]; rfl,?_⟩,_,rfl⟩⟩
     rw [List.take_succ,gy,List.map_append]
     refine fL (by rw [aq nrl,aj]) (Paired.imp' (fun q f h=>?_) fa)
     rw [aq (dk (s3 _ _ h) (s3 _ _ e2) (by intro z; cases z))]
     exact s3 _ _ h
   · rintro zs σ H2 ⟨s2,e2,⟨qs,rfl,fa⟩,v,rfl⟩
     rw [List.length_map,List.take_length] at fa
     exact k l qs H2 nl s2 e2 fa
/-! #### check_place -/
def d9 (T:Txt K mg):Sp:=fun vs H Q E=>∃ (p t:Addr) (m:Int) (ps:List Addr) (rs:List Road) (n:Int),vs=[.ref p,.int n]∧WebAt T.Web H p m t ps rs∧(0≤n→n < m→Q .non H)∧(¬ (0≤n∧n < m)→E (.ref T.NoPlace) none H)
abbrev bd:Stmt:=top 22
theorem nG:FnScope ["web","number"] ["web","number"] (aa bd):=FnScope.of (by kernel_rfl)
theorem j3:NmL (aa bd) "web":=.of (by kernel_rfl)
theorem iC:NmL (aa bd) "number":=.of (by kernel_rfl)
theorem n_check_place__is_place:NmG (aa bd) "is_place":=.of (by kernel_rfl)
theorem n_check_place__NoPlace:NmG (aa bd) "NoPlace":=.of (by kernel_rfl)

theorem nC (T:Txt K mg) (hq:aJ (CXe P w)) {f:Addr} {fd:FuncData} (D:Df K mg "check_place" bd ["web","number"] f fd) {f_is_place:Addr} {fd_is_place:FuncData} (D_is_place:Df K mg "is_place" ce ["many","number"] f_is_place fd_is_place) (G_is_place:FnOk P w K mg base (CXe P w) 1 f_is_place fd_is_place ["many","number"] (fS T)):FnOk P w K mg base (CXe P w) 2 f fd ["web","number"] (d9 T):=by
 refine D.F.okX nG (fun vs H Q E h=>?_) (fun cdv A outer s H vs Q E hr h=>?_)
 · obtain ⟨p,t,m,ps,rs,n,rfl,_⟩:=h
   rfl
 · obtain ⟨p,t,m,ps,rs,n,rfl,W,k,e⟩:=h
   obtain ⟨dx,ob⟩:=W.ob
   refine ⟨_,(ap (bW (fV (fh (ao G_is_place (hr.mono (by decide)) n_check_place__is_place.g D_is_place.m D_is_place.F.kp D_is_place.b .nil cv (ag (dZ  (pvl 0 j3) rfl) (ag (pvl 1 iC) ah)) (hdb:=n_check_place__is_place.d)))) (ap (lH T.e_NoPlace rfl mQ n_check_place__NoPlace.g T.m_NoPlace (ag iB ah) (hdb:=n_check_place__NoPlace.d))) bj)),?_⟩
   rw [show L2.start ["web","number"] [V.ref p,V.int n]=[some (V.ref p),some (V.int n)] from rfl]
   walk_at "rd"
   refine ⟨T.Web,dx,_,ob,T.cl_Web,T.n_many,_,dh m t,m,n,rfl,_,rfl,?_⟩
   by_cases c:0≤n∧n < m
   · rw [if_neg (by simp [c.1,c.2])]
     exact k c.1 c.2
   · rw [if_pos (by simpa [Bool.and_eq_true] using c)]
     exact ⟨by decide,e c⟩
/-! #### neighbours -/
def dL (T:Txt K mg):Sp:=fun vs H Q E=>∃ (p t:Addr) (m:Int) (ps:List Addr) (rs:List Road) (a:Int),vs=[.ref p,.int a]∧WebAt T.Web H p m t ps rs ∧
 (∀ l H',0≤a→a < m→H l=none→Same H H'→H' l=some (.lst ((bM m rs a).map V.int))→Q (.ref l) H')∧(¬ (0≤a∧a < m)→E (.ref T.NoPlace) none H)
abbrev aV:Stmt:=top 21
theorem oQ:FnScope ["web","a"] ["web","a"] (aa aV):=FnScope.of (by kernel_rfl)
theorem gw:NmL (aa aV) "web":=.of (by kernel_rfl)
theorem hZ:NmL (aa aV) "a":=.of (by kernel_rfl)
theorem n_neighbours__check_place:NmG (aa aV) "check_place":=.of (by kernel_rfl)
theorem n_neighbours__sorted:NmG (aa aV) "sorted":=.of (by kernel_rfl)
theorem n_neighbours__other_ends:NmG (aa aV) "other_ends":=.of (by kernel_rfl)

theorem oM (T:Txt K mg) (hq:aJ (CXe P w)) {f:Addr} {fd:FuncData} (D:Df K mg "neighbours" aV ["web","a"] f fd) {f_check_place:Addr} {fd_check_place:FuncData} (D_check_place:Df K mg "check_place" bd ["web","number"] f_check_place fd_check_place) (G_check_place:FnOk P w K mg base (CXe P w) 2 f_check_place fd_check_place ["web","number"] (d9 T)) {f_other_ends:Addr} {fd_other_ends:FuncData} (D_other_ends:Df K mg "other_ends" bE ["roads","place"] f_other_ends fd_other_ends) (G_other_ends:FnOk P w K mg base (CXe P w) 1 f_other_ends fd_other_ends ["roads","place"] (gu T)):FnOk P w K mg base (CXe P w) 3 f fd ["web","a"] (dL T):=by
 refine D.F.okX oQ (fun vs H Q E h=>?_) (fun cdv A outer s H vs Q E hr h=>?_)
 · obtain ⟨p,t,m,ps,rs,a,rfl,_⟩:=h
   rfl
 · obtain ⟨p,t,m,ps,rs,a,rfl,W,k,e⟩:=h
   obtain ⟨dx,ob⟩:=W.ob
   refine ⟨_,(am (b5 (ao G_check_place (hr.mono (by decide)) n_neighbours__check_place.g D_check_place.m D_check_place.F.kp D_check_place.b .nil cv (ag (pvl 0 gw) (ag (pvl 1 hZ) ah)) (hdb:=n_neighbours__check_place.d))) (ap (aG (cB rz n_neighbours__sorted.g T.sorted vD (ag (ao G_other_ends (hr.mono (by decide)) n_neighbours__other_ends.g D_other_ends.m D_other_ends.F.kp D_other_ends.b .nil cv (ag (dZ  (pvl 0 gw) rfl) (ag (pvl 1 hZ) ah)) (hdb:=n_neighbours__other_ends.d)) ah) (hn:=n_neighbours__sorted.n) (hdb:=n_neighbours__sorted.d))))),?_⟩
   rw [show L2.start ["web","a"] [V.ref p,V.int a]=[some (V.ref p),some (V.int a)] from rfl]
   walk_at "rd"
   refine ⟨p,t,m,ps,rs,a,rfl,W,fun a0 a1=>?_,e⟩
   have hlen:(rs.length:Int)=m - 1:=W.go.len
   have m24:=W.go.m24
   refine ⟨T.Web,dx,_,ob,T.cl_Web,T.n_roads,_,kU m t,t,ps,rs,a,rfl,SqT.of W.tu,W.ro,by omega,fun l1 H1 n1 s1 e1=>?_⟩
   refine ⟨l1,rfl,bC rs a,SqL.of e1,by have:=qN rs a; omega,fun l2 zs n2 pz sz=>?_⟩
   rw [zU W.go a0 a1 pz sz]
   exact k l2 _ a0 a1 (s1.free n2) (s1.trans (Same.new _ n2)) aj
/-! #### kids -/
def m5 (T:Txt K mg):Sp:=fun vs H Q _=>∃ (p t:Addr) (m:Int) (ps:List Addr) (rs:List Road) (a:Int) (fv:V),vs=[.ref p,.int a,fv]∧WebAt T.Web H p m t ps rs∧0≤a∧a < m∧(fv=.non∨∃ i,fv=.int i) ∧
 ∀ l H',H l=none→Same H H'→H' l=some (.lst ((aY m rs fv a).map V.int))→Q (.ref l) H'
abbrev df:Stmt:=top 32
theorem Ak:FnScope ["web","place","front"] ["web","place","front"] (aa df):=FnScope.of (by kernel_rfl)
theorem re:NmL (aa df) "web":=.of (by kernel_rfl)
theorem oK:NmL (aa df) "place":=.of (by kernel_rfl)
theorem AM:NmC (aa df) "front":=.of (by kernel_rfl)
theorem n_kids__neighbours:NmG (aa df) "neighbours":=.of (by kernel_rfl)

theorem Ay (T:Txt K mg) (hq:aJ (CXe P w)) {f:Addr} {fd:FuncData} (D:Df K mg "kids" df ["web","place","front"] f fd) {f_neighbours:Addr} {fd_neighbours:FuncData} (D_neighbours:Df K mg "neighbours" aV ["web","a"] f_neighbours fd_neighbours) (G_neighbours:FnOk P w K mg base (CXe P w) 3 f_neighbours fd_neighbours ["web","a"] (dL T)):FnOk P w K mg base (CXe P w) 4 f fd ["web","place","front"] (m5 T):=by
 refine D.F.okC Ak (fun vs H Q E h=>?_) (fun cdv A outer s H vs Q E hr h=>?_)
 · obtain ⟨p,t,m,ps,rs,a,fv,rfl,_⟩:=h
   rfl
 · obtain ⟨p,t,m,ps,rs,a,fv,rfl,W,a0,a1,hf,k⟩:=h
   have m24:=W.go.m24
   refine ⟨_,(ap (aG (c8 rfl (d8 (Nc:=["near","front"]) 1 [2] (by decide +kernel) rfl (by decide +kernel) rfl (by show ∀ (y:Str × NameKind),y∈_→y.2=NameKind.free→(aa df).names.lookup y.1=some NameKind.cell; decide +kernel) rfl (fun _ h=>cR h) (fun i hi=>match i,hi with | 0,_=>⟨"front",2,rfl,rfl,rfl,by decide +kernel⟩ | i + 1,hi=>absurd hi (by show ¬ i + 1 < 1; omega))) (gE (ao G_neighbours (hr.mono (by decide)) n_kids__neighbours.g D_neighbours.m D_neighbours.F.kp D_neighbours.b .nil (ay hq) (ag (pvl 0 re) (ag (pvl 1 oK) ah)) (hdb:=n_kids__neighbours.d))) (fun _ _ _ _=>(aL (i:=0) (show (["near","front"]:List Str).Nodup from by decide +kernel) rfl (Or.inl rfl))) (fun _ _ _ _=>(mW (bG me (pv 0) (pv 1) (bB _)))) (fun _ _ _ _=>(pv 0))))),?_⟩
   rw [show L2.start ["web","place","front"] [V.ref p,V.int a,fv]=[some (V.ref p),some (V.int a),some fv] from rfl]
   walk_at "rd"
   have nl:(bM m rs a).length≤24:=by
     have:=List.length_filter_le (fun q=>decide (q∈bC rs a)) (below m.toNat)
     rw [aK] at this
     unfold bM
     omega
   refine ⟨p,t,m,ps,rs,a,rfl,W,fun l1 H1 _ _ n1 s1 e1=>⟨l1,rfl,⟨_,SqL.of e1⟩,fun l2 n2=>?_⟩,fun z=>absurd ⟨a0,a1⟩ z⟩
   have n20:H l2=none:=s1.free n2
   refine eJ (c:=true) (K:=K) (a:=l1) (xs:=(bM m rs a).map V.int) (fun j ys σ H2=>Same H1 H2∧H2 l2=some (.lst ys)∧ys=(((bM m rs a).take j).filter fun v=>decide (V.int v≠fv)).map V.int∧∃ v,σ=[v,some fv]) ⟨Same.new _ n2,aj,rfl,_,rfl⟩ (fun j ys σ H2 _ z=>SqL.of (z.1 _ _ e1)) ?_ ?_
   · rintro j xj ys σ H2 N hN hj ⟨s2,h2,rfl,v,rfl⟩
     rw [List.getElem?_map] at hj
     obtain ⟨b,hb,rfl⟩:=Option.map_eq_some_iff.mp hj
     have et:(bM m rs a).take (j + 1)=(bM m rs a).take j ++ [b]:=by rw [List.take_succ,hb]; rfl
     have ll:(((bM m rs a).take j).filter fun v=>decide (V.int v≠fv)).length≤24:=by
       have h1:=List.length_filter_le (fun v=>decide (V.int v≠fv)) ((bM m rs a).take j)
       rw [List.length_take] at h1
       omega
     walk_at "rd"
     have sc:iQ (V.int b) fv=true:=by
       rcases hf with rfl | ⟨i,rfl⟩ <;> rfl
     refine ⟨sc,?_⟩
     by_cases c:V.int b=fv
     · rw [if_neg (fun z=>z c)]
       refine hN _ _ _ ⟨s2,h2,?_,_,rfl⟩
       rw [et,List.filter_append]
       simp [c]
     · rw [if_pos c]
       refine ⟨h2,bX (by rw [List.length_map]; omega),hN _ _ _ ⟨s2.put n2 _,aj,?_,_,rfl⟩⟩
       rw [et,List.filter_append]
       simp [c]
   · rintro ys σ H2 ⟨s2,h2,rfl,v,rfl⟩
     rw [List.length_map,List.take_length] at h2
     exact k l2 H2 n20 (s1.trans s2) h2
/-! #### ahead -/
def lK (T:Txt K mg):Sp:=fun vs H Q E=>∃ (p t:Addr) (m:Int) (ps:List Addr) (rs:List Road) (r:Int),vs=[.ref p,.int r]∧WebAt T.Web H p m t ps rs ∧
 (0≤r→r < m→∃ par dep,Rooted m rs r par dep∧∀ l H',H l=none→Same H H'→H' l=some (.lst (ie m r par))→Q (.ref l) H')∧(¬ (0≤r∧r < m)→E (.ref T.NoPlace) none H)
abbrev bZ:Stmt:=top 30
theorem sc_ahead:FnScope ["web","r","nearer","waiting","place","front","kid"] ["web","r"] (aa bZ):=FnScope.of (by kernel_rfl)
theorem gJ:NmL (aa bZ) "web":=.of (by kernel_rfl)
theorem mi:NmL (aa bZ) "r":=.of (by kernel_rfl)
theorem n_ahead__nearer:NmL (aa bZ) "nearer":=.of (by kernel_rfl)
theorem n_ahead__waiting:NmL (aa bZ) "waiting":=.of (by kernel_rfl)
theorem n_ahead__place:NmL (aa bZ) "place":=.of (by kernel_rfl)
theorem n_ahead__front:NmL (aa bZ) "front":=.of (by kernel_rfl)
theorem n_ahead__kid:NmL (aa bZ) "kid":=.of (by kernel_rfl)
theorem n_ahead__check_place:NmG (aa bZ) "check_place":=.of (by kernel_rfl)
theorem n_ahead__kids:NmG (aa bZ) "kids":=.of (by kernel_rfl)

theorem xW (T:Txt K mg) (hq:aJ (CXe P w)) {f:Addr} {fd:FuncData} (D:Df K mg "ahead" bZ ["web","r"] f fd) {f_check_place:Addr} {fd_check_place:FuncData} (D_check_place:Df K mg "check_place" bd ["web","number"] f_check_place fd_check_place) (G_check_place:FnOk P w K mg base (CXe P w) 2 f_check_place fd_check_place ["web","number"] (d9 T)) {f_kids:Addr} {fd_kids:FuncData} (D_kids:Df K mg "kids" df ["web","place","front"] f_kids fd_kids) (G_kids:FnOk P w K mg base (CXe P w) 4 f_kids fd_kids ["web","place","front"] (m5 T)):FnOk P w K mg base (CXe P w) 5 f fd ["web","r"] (lK T):=by
 refine D.F.okX sc_ahead (fun vs H Q E h=>?_) (fun cdv A outer s H vs Q E hr h=>?_)
 · obtain ⟨p,t,m,ps,rs,r,rfl,_⟩:=h
   rfl
 · obtain ⟨p,t,m,ps,rs,r,rfl,W,k,e⟩:=h
   obtain ⟨dx,ob⟩:=W.ob
   have g:=W.go
   have m24:=g.m24
   refine ⟨_,(am (b5 (ao G_check_place (hr.mono (by decide)) n_ahead__check_place.g D_check_place.m D_check_place.F.kp D_check_place.b .nil cv (ag (pvl 0 gJ) (ag (pvl 1 mi) ah)) (hdb:=n_ahead__check_place.d))) (am (aD (i:=2) sc_ahead.nd rfl (Or.inl n_ahead__nearer.l) (ax qt (dc (ag Bh ah)) (dZ  (pvl 0 gJ) rfl))) (am (aD (i:=3) sc_ahead.nd rfl (Or.inl n_ahead__waiting.l) (dc (ag (pvl 1 mi) ah))) (am (jh PassesOwn.leaving (iX (pvl 3 n_ahead__waiting) (fun _=>rfl)) (am (aD (i:=4) sc_ahead.nd rfl (Or.inl n_ahead__place.l) (qc PySem.F.plainAttrs_list PySem.F.slot_list_pop PySem.F.type_list_pop pH (pvl 3 n_ahead__waiting))) (am (aD (i:=5) sc_ahead.nd rfl (Or.inl n_ahead__front.l) (aH cC (pvl 2 n_ahead__nearer) (pvl 4 n_ahead__place) (fun _ _=>rfl))) (ap (cS PassesOwn.leaving rfl (gE (ao G_kids (hr.mono (by decide)) n_ahead__kids.g D_kids.m D_kids.F.kp D_kids.b .nil cv (ag (pvl 0 gJ) (ag (pvl 4 n_ahead__place) (ag (pvl 5 n_ahead__front) ah))) (hdb:=n_ahead__kids.d))) (aL (i:=6) sc_ahead.nd rfl (Or.inl n_ahead__kid.l)) (am (qG (pvl 4 n_ahead__place) (pB (pvl 2 n_ahead__nearer) (pvl 6 n_ahead__kid) fE)) (ap (b5 (fP PySem.F.plainAttrs_list PySem.F.slot_list_append PySem.F.type_list_append cG (pvl 3 n_ahead__waiting) (ag (pvl 6 n_ahead__kid) ah)))))))))) (ap (aG (pvl 2 n_ahead__nearer))))))),?_⟩
   rw [show L2.start ["web","r","nearer","waiting","place","front","kid"] [V.ref p,V.int r]=[some (V.ref p),some (V.int r),none,none,none,none,none] from rfl]
   walk_at "rd"
   refine ⟨p,t,m,ps,rs,r,rfl,W,fun r0 r1=>?_,e⟩
   obtain ⟨par,dep,R,k⟩:=k r0 r1
   refine ⟨by decide,fun l1 n1=>?_⟩
   have s1:=Same.new (.lst [V.non]) n1
   refine ⟨T.Web,dx,_,s1 _ _ ob,T.cl_Web,T.n_many,_,rfl,?_⟩
   refine ⟨l1,m,[V.non],rfl,rfl,aj,by omega,by omega,bN (by simp; omega),fun l2 n2=>?_⟩
   have n20:H l2=none:=s1.free n2
   rw [yK,← Bj (par:=par)]
   have s2:=s1.trans (Same.new (.lst (nl m par [])) n2)
   refine ⟨bN (by simp),fun l3 n3=>?_⟩
   have n30:H l3=none:=s2.free n3
   have n32:l3≠l2:=fun z=>by rw [z,aj] at n3; cases n3
   have s3:=s2.trans (Same.new (.lst [V.int r]) n3)
   have e2:upd (upd (upd H l1 (.lst [V.non])) l2 (.lst (nl m par []))) l3 (.lst [V.int r]) l2=some (.lst (nl m par [])):=by rw [aq n32.symm,aj]
   have e3:upd (upd (upd H l1 (.lst [V.non])) l2 (.lst (nl m par []))) l3 (.lst [V.int r]) l3=some (.lst [V.int r]):=aj
   generalize upd (upd (upd H l1 (.lst [V.non])) l2 (.lst (nl m par []))) l3 (.lst [V.int r])=H3 at s3 e2 e3 ⊢
   refine m9 (fun n σ H4=>∃ (ks ws:List Int) (v4 v5 v6:Option V),n=2 * (m.toNat - ks.length) + ws.length∧σ=[some (.ref p),some (.int r),some (.ref l2),some (.ref l3),v4,v5,v6]∧Same H H4∧H4 l2=some (.lst (nl m par ks))∧H4 l3=some (.lst (ws.map V.int))∧AInv m rs r par ks ws) (2 * m.toNat + 1) ⟨[],[r],_,_,_,rfl,rfl,s3,e2,e3,AInv.start⟩ ?_
   rintro n σ H4 NW BB hBB hN hN2 ⟨ks,ws,v4,v5,v6,rfl,rfl,s4,h2,h3,J⟩
   refine hBB _ _ _ ?_
   have kl:=ci (by omega) J.nd J.rng
   walk_at "rd"
   refine ⟨_,.inl ⟨_,SqL.of h3,rfl⟩,?_⟩
   rcases List.eq_nil_or_concat ws with rfl | ⟨ws',q,rfl⟩
   · rw [if_neg (by simp)]
     rw [J.done R] at h2
     exact k l2 H4 n20 s4 h2
   · rw [List.concat_eq_append] at J h3 hN hN2 ⊢
     rw [if_pos (by simp)]
     have hq:q∈ws' ++ [q]:=List.mem_append_right _ (List.mem_singleton.mpr rfl)
     have pr:=J.at_ r0 r1 hq
     have J2:=J.step g R r0 r1 (p:=q) (ws':=ws') (List.perm_append_singleton q ws')
     refine ⟨NW,fun σ' H' z=>?_,?_⟩
     · obtain ⟨m',lt,ks',ws'',a4,a5,a6,e1,e2,e3⟩:=hN2 _ _ z
       exact ⟨m',lt,ks',ws'',e1,a4,a5,a6,e2,e3⟩
     rw [List.map_append,List.map_cons,List.map_nil] at h3
     refine ⟨tyL h3,yP h3 ?_⟩
     have s5:Same H (upd H4 l3 (.lst (ws'.map V.int))):=s4.put n30 _
     have h25:upd H4 l3 (.lst (ws'.map V.int)) l2=some (.lst (nl m par ks)):=by rw [aq n32.symm]; exact h2
     have h35:upd H4 l3 (.lst (ws'.map V.int)) l3=some (.lst (ws'.map V.int)):=aj
     generalize upd H4 l3 (.lst (ws'.map V.int))=H5 at s5 h25 h35 ⊢
     refine ixL h25 (kb pr.1 (vJ pr.1 pr.2)) ?_
     rw [J.front hq]
     have hfv:Pb.front r par q=.non∨∃ i,Pb.front r par q=.int i:=by
       unfold Pb.front
       by_cases c:q=r
       · rw [if_pos c]; exact .inl rfl
       · rw [if_neg c]; exact .inr ⟨_,rfl⟩
     have mk:∀ v,v∈aY m rs (Pb.front r par q) q→(0≤v∧v < m)∧v≠r∧par v=q:=fun v=>(cQ g R pr.1 pr.2).mp
     refine ⟨p,t,m,ps,rs,q,_,rfl,W.same s5,pr.1,pr.2,hfv,fun l6 H6 n6 s6 e6=>⟨l6,rfl,⟨_,SqL.of e6⟩,?_⟩⟩
     generalize aY m rs (Pb.front r par q) q=kk at mk e6 J2 ⊢
     have n6':H l6=none:=s5.free n6
     have n62:l6≠l2:=fun z=>by rw [z,h25] at n6; cases n6
     have n63:l6≠l3:=fun z=>by rw [z,h35] at n6; cases n6
     have kl2:=ci (by omega) J2.nd J2.rng
     rw [List.length_append] at kl2
     have wl2:=ci (by omega) J2.wnd fun w hw=>J2.at_ r0 r1 hw
     rw [List.length_append] at wl2
     refine jQ (K:=K) (xs:=kk.map V.int) (fun i σ H7=>∃ v6,σ=[some (.ref p),some (.int r),some (.ref l2),some (.ref l3),some (.int q),some (Pb.front r par q),v6]∧Same H H7∧H7 l6=some (.lst (kk.map V.int))∧H7 l2=some (.lst (nl m par (ks ++ kk.take i)))∧H7 l3=some (.lst ((ws' ++ kk.take i).map V.int))) ⟨_,rfl,s5.trans s6,e6,by rw [List.take_zero,List.append_nil]; exact s6 _ _ h25,by rw [List.take_zero,List.append_nil]; exact s6 _ _ h35⟩ (fun i σ H7 _ z=>by obtain ⟨_,_,_,z,_⟩:=z; exact SqL.of z) ?_ ?_
     · rintro i x σ H7 NI BB hBB hI hi ⟨v6,rfl,s7,e7,h27,h37⟩
       refine hBB _ _ ?_
       rw [List.getElem?_map] at hi
       obtain ⟨v,hv,rfl⟩:=Option.map_eq_some_iff.mp hi
       obtain ⟨vr,_,vp⟩:=mk v (List.mem_of_getElem? hv)
       have et:kk.take (i + 1)=kk.take i ++ [v]:=by rw [List.take_succ,hv]; rfl
       walk_at "rd"
       refine ⟨l2,_,v,v.toNat,rfl,rfl,h27,by unfold ixN; rw [if_pos vr.1,if_pos (by rw [h9]; omega)],?_⟩
       rw [← vp,Bp vr.1 vr.2,vp,List.append_assoc,← et]
       have h38:upd H7 l2 (.lst (nl m par (ks ++ kk.take (i + 1)))) l3=some (.lst ((ws' ++ kk.take i).map V.int)):=by rw [aq n32]; exact h37
       have wlen:(ws' ++ kk.take i).length≤100:=by
         rw [List.length_append,List.length_take]
         omega
       refine ⟨tyL h38,io h38 (bX (by rw [List.length_map]; omega)) (hI _ _ ⟨_,rfl,(s7.put n20 _).put n30 _,?_,?_,?_⟩)⟩
       · rw [aq n63,aq n62]; exact e7
       · rw [aq n32.symm,aj]
       · rw [aj,et,← List.append_assoc,List.map_append (l₁:=ws' ++ kk.take i)]; rfl
     · rintro BB σ H7 hBB ⟨v6,rfl,s7,e7,h27,h37⟩
       refine hBB _ _ ?_
       rw [List.length_map,List.take_length] at h27 h37
       refine hN _ _ _ ?_ ⟨_,_,_,_,_,rfl,rfl,s7,h27,h37,J2⟩
       rw [List.length_append,List.length_append,List.length_append]
       simp only [List.length_cons,List.length_nil]
       omega
/-! #### down -/
def rW (T:Txt K mg):Sp:=fun vs H Q E=>∃ (p t:Addr) (m:Int) (ps:List Addr) (rs:List Road) (r:Int),vs=[.ref p,.int r]∧WebAt T.Web H p m t ps rs ∧
 (0≤r→r < m→∃ par dep,Rooted m rs r par dep∧∀ l H',H l=none→Same H H'→H' l=some (.lst ((cI m rs r par dep r).map V.int))→(cI m rs r par dep r).Nodup→(∀ v,v∈cI m rs r par dep r↔0≤v∧v < m)→Q (.ref l) H')∧(¬ (0≤r∧r < m)→E (.ref T.NoPlace) none H)
abbrev cA:Stmt:=top 31
theorem sc_down:FnScope ["web","r","nearer","places","waiting","place","kid"] ["web","r"] (aa cA):=FnScope.of (by kernel_rfl)
theorem kP:NmL (aa cA) "web":=.of (by kernel_rfl)
theorem oH:NmL (aa cA) "r":=.of (by kernel_rfl)
theorem n_down__nearer:NmL (aa cA) "nearer":=.of (by kernel_rfl)
theorem n_down__places:NmL (aa cA) "places":=.of (by kernel_rfl)
theorem n_down__waiting:NmL (aa cA) "waiting":=.of (by kernel_rfl)
theorem n_down__place:NmL (aa cA) "place":=.of (by kernel_rfl)
theorem n_down__kid:NmL (aa cA) "kid":=.of (by kernel_rfl)
theorem n_down__ahead:NmG (aa cA) "ahead":=.of (by kernel_rfl)
theorem n_down__reversed:NmG (aa cA) "reversed":=.of (by kernel_rfl)
theorem n_down__kids:NmG (aa cA) "kids":=.of (by kernel_rfl)

theorem AF (T:Txt K mg) (hq:aJ (CXe P w)) {f:Addr} {fd:FuncData} (D:Df K mg "down" cA ["web","r"] f fd) {f_ahead:Addr} {fd_ahead:FuncData} (D_ahead:Df K mg "ahead" bZ ["web","r"] f_ahead fd_ahead) (G_ahead:FnOk P w K mg base (CXe P w) 5 f_ahead fd_ahead ["web","r"] (lK T)) {f_kids:Addr} {fd_kids:FuncData} (D_kids:Df K mg "kids" df ["web","place","front"] f_kids fd_kids) (G_kids:FnOk P w K mg base (CXe P w) 4 f_kids fd_kids ["web","place","front"] (m5 T)):FnOk P w K mg base (CXe P w) 6 f fd ["web","r"] (rW T):=by
 refine D.F.okX sc_down (fun vs H Q E h=>?_) (fun cdv A outer s H vs Q E hr h=>?_)
 · obtain ⟨p,t,m,ps,rs,r,rfl,_⟩:=h
   rfl
 · obtain ⟨p,t,m,ps,rs,r,rfl,W,k,e⟩:=h
   have g:=W.go
   have m24:=g.m24
   refine ⟨_,(am (aD (i:=2) sc_down.nd rfl (Or.inl n_down__nearer.l) (ao G_ahead (hr.mono (by decide)) n_down__ahead.g D_ahead.m D_ahead.F.kp D_ahead.b .nil cv (ag (pvl 0 kP) (ag (pvl 1 oH) ah)) (hdb:=n_down__ahead.d))) (am (aD (i:=3) sc_down.nd rfl (Or.inl n_down__places.l) (dc ah)) (am (aD (i:=4) sc_down.nd rfl (Or.inl n_down__waiting.l) (dc (ag (pvl 1 oH) ah))) (am (jh PassesOwn.leaving (iX (pvl 4 n_down__waiting) (fun _=>rfl)) (am (aD (i:=5) sc_down.nd rfl (Or.inl n_down__place.l) (qc PySem.F.plainAttrs_list PySem.F.slot_list_pop PySem.F.type_list_pop pH (pvl 4 n_down__waiting))) (am (b5 (fP PySem.F.plainAttrs_list PySem.F.slot_list_append PySem.F.type_list_append cG (pvl 3 n_down__places) (ag (pvl 5 n_down__place) ah))) (ap (cS PassesOwn.leaving rfl (pP n_down__reversed.g T.reversed (ao G_kids (hr.mono (by decide)) n_down__kids.g D_kids.m D_kids.F.kp D_kids.b .nil cv (ag (pvl 0 kP) (ag (pvl 5 n_down__place) (ag (aH cC (pvl 2 n_down__nearer) (pvl 5 n_down__place) (fun _ _=>rfl)) ah))) (hdb:=n_down__kids.d))) (aL (i:=6) sc_down.nd rfl (Or.inl n_down__kid.l)) (ap (b5 (fP PySem.F.plainAttrs_list PySem.F.slot_list_append PySem.F.type_list_append cG (pvl 4 n_down__waiting) (ag (pvl 6 n_down__kid) ah))))))))) (ap (aG (pvl 3 n_down__places))))))),?_⟩
   rw [show L2.start ["web","r","nearer","places","waiting","place","kid"] [V.ref p,V.int r]=[some (V.ref p),some (V.int r),none,none,none,none,none] from rfl]
   walk_at "rd"
   refine ⟨p,t,m,ps,rs,r,rfl,W,fun r0 r1=>?_,e⟩
   obtain ⟨par,dep,R,k⟩:=k r0 r1
   refine ⟨par,dep,R,fun l1 H1 n1 s1 e1=>⟨by decide,fun l3 n3=>⟨bN (by simp),fun l4 n4=>?_⟩⟩⟩
   have n30:H l3=none:=s1.free n3
   have s3:=s1.trans (Same.new (.lst []) n3)
   have n40:H l4=none:=s3.free n4
   have n13:l1≠l3:=fun z=>by rw [← z,e1] at n3; cases n3
   have n34:l3≠l4:=fun z=>by rw [← z,aj] at n4; cases n4
   have e13:=Same.new (.lst []) n3 _ _ e1
   have n14:l1≠l4:=fun z=>by rw [← z,e13] at n4; cases n4
   have s4:=s3.trans (Same.new (.lst [V.int r]) n4)
   have e14:=Same.new (.lst [V.int r]) n4 _ _ e13
   have e34:upd (upd H1 l3 (.lst [])) l4 (.lst [V.int r]) l3=some (.lst []):=by rw [aq n34,aj]
   have e44:upd (upd H1 l3 (.lst [])) l4 (.lst [V.int r]) l4=some (.lst [V.int r]):=aj
   generalize upd (upd H1 l3 (.lst [])) l4 (.lst [V.int r])=H4 at s4 e14 e34 e44 ⊢
   refine m9 (fun n σ H5=>∃ (ks ws pl:List Int) (v5 v6:Option V),n=2 * (m.toNat - ks.length) + ws.length∧σ=[some (.ref p),some (.int r),some (.ref l1),some (.ref l3),some (.ref l4),v5,v6]∧Same H H5∧H5 l1=some (.lst (ie m r par))∧H5 l3=some (.lst (pl.map V.int))∧H5 l4=some (.lst (ws.map V.int))∧AInv m rs r par ks ws∧(pl ++ ws).Perm (r :: ks)∧pl ++ ws.reverse.flatMap (cI m rs r par dep)=cI m rs r par dep r) (2 * m.toNat + 1) ⟨[],[r],[],_,_,rfl,rfl,s4,e14,e34,e44,AInv.start,List.Perm.refl _,by simp⟩ ?_
   rintro n σ H5 NW BB hBB hN hN2 ⟨ks,ws,pl,v5,v6,rfl,rfl,s5,h1,h3,h4,J,pe,ep⟩
   refine hBB _ _ _ ?_
   have rk:∀ w∈r :: ks,0≤w∧w < m:=fun w hw=>by
     rcases List.mem_cons.mp hw with rfl | z
     · exact ⟨r0,r1⟩
     · exact J.rng w z
   have nk:(r :: ks).Nodup:=List.nodup_cons.mpr ⟨J.nr,J.nd⟩
   have kl:=ci (m:=m) (by omega) nk rk
   have kl1:=ci (m:=m) (by omega) J.nd J.rng
   have pl1:=pe.length_eq
   rw [List.length_append] at pl1
   rw [List.length_cons] at kl pl1
   walk_at "rd"
   refine ⟨_,.inl ⟨_,SqL.of h4,rfl⟩,?_⟩
   rcases List.eq_nil_or_concat ws with rfl | ⟨ws',q,rfl⟩
   · rw [if_neg (by simp)]
     rw [List.reverse_nil,List.flatMap_nil,List.append_nil] at ep
     rw [List.append_nil] at pe
     subst ep
     refine k l3 H5 n30 s5 h3 (pe.nodup_iff.mpr nk) fun v=>⟨fun z=>rk v (pe.mem_iff.mp z),fun z=>pe.mem_iff.mpr ?_⟩
     by_cases c:v=r
     · rw [c]; exact List.mem_cons_self
     · exact List.mem_cons_of_mem _ (J.all R v z.1 z.2 c)
   · rw [List.concat_eq_append] at J h4 hN hN2 pe ep pl1 ⊢
     rw [if_pos (by simp)]
     have hq:q∈ws' ++ [q]:=List.mem_append_right _ (List.mem_singleton.mpr rfl)
     have pr:=J.at_ r0 r1 hq
     have J2:=J.step g R r0 r1 (p:=q) (ws':=ws') (List.perm_append_singleton q ws')
     refine ⟨NW,fun σ' H' z=>?_,?_⟩
     · obtain ⟨m',lt,ks',ws'',pl',a5,a6,z1,z2⟩:=hN2 _ _ z
       exact ⟨m',lt,ks',ws'',z1,pl',a5,a6,z2⟩
     rw [List.map_append,List.map_cons,List.map_nil] at h4
     refine ⟨tyL h4,yP h4 ?_⟩
     have s6:Same H (upd H5 l4 (.lst (ws'.map V.int))):=s5.put n40 _
     have h36:upd H5 l4 (.lst (ws'.map V.int)) l3=some (.lst (pl.map V.int)):=by rw [aq n34]; exact h3
     have h16:upd H5 l4 (.lst (ws'.map V.int)) l1=some (.lst (ie m r par)):=by rw [aq n14]; exact h1
     have h46:upd H5 l4 (.lst (ws'.map V.int)) l4=some (.lst (ws'.map V.int)):=aj
     generalize upd H5 l4 (.lst (ws'.map V.int))=H6 at s6 h36 h16 h46 ⊢
     refine ⟨tyL h36,io h36 (bX (by rw [List.length_map]; omega)) ?_⟩
     have s7:Same H (upd H6 l3 (.lst (pl.map V.int ++ [V.int q]))):=s6.put n30 _
     have h37:upd H6 l3 (.lst (pl.map V.int ++ [V.int q])) l3=some (.lst ((pl ++ [q]).map V.int)):=by rw [aj,List.map_append]; rfl
     have h17:upd H6 l3 (.lst (pl.map V.int ++ [V.int q])) l1=some (.lst (ie m r par)):=by rw [aq n13]; exact h16
     have h47:upd H6 l3 (.lst (pl.map V.int ++ [V.int q])) l4=some (.lst (ws'.map V.int)):=by rw [aq n34.symm]; exact h46
     generalize upd H6 l3 (.lst (pl.map V.int ++ [V.int q]))=H7 at s7 h37 h17 h47 ⊢
     refine ixL h17 (kb pr.1 (qh pr.1 pr.2)) ?_
     have hfv:Pb.front r par q=.non∨∃ i,Pb.front r par q=.int i:=by
       unfold Pb.front
       by_cases c:q=r
       · rw [if_pos c]; exact .inl rfl
       · rw [if_neg c]; exact .inr ⟨_,rfl⟩
     have pq:=fU g R pr.1 pr.2
     refine ⟨p,t,m,ps,rs,q,_,rfl,W.same s7,pr.1,pr.2,hfv,fun l8 H8 n8 s8 e8=>⟨l8,rfl,_,SqL.of e8,?_⟩⟩
     generalize aY m rs (Pb.front r par q) q=kk at e8 J2 pq ⊢
     have n81:l1≠l8:=fun z=>by rw [← z,h17] at n8; cases n8
     have n83:l3≠l8:=fun z=>by rw [← z,h37] at n8; cases n8
     have n84:l4≠l8:=fun z=>by rw [← z,h47] at n8; cases n8
     have kl2:=ci (m:=m) (by omega) J2.nd J2.rng
     rw [List.length_append] at kl2
     have wl2:=ci (m:=m) (by omega) J2.wnd fun w hw=>J2.at_ r0 r1 hw
     rw [List.length_append] at wl2
     refine pF (K:=K) (xs:=kk.map V.int) (fun i σ H9=>∃ v6,σ=[some (.ref p),some (.int r),some (.ref l1),some (.ref l3),some (.ref l4),some (.int q),v6]∧Same H H9∧H9 l8=some (.lst (kk.map V.int))∧H9 l1=some (.lst (ie m r par))∧H9 l3=some (.lst ((pl ++ [q]).map V.int))∧H9 l4=some (.lst ((ws' ++ kk.reverse.take i).map V.int))) ⟨_,rfl,s7.trans s8,e8,s8 _ _ h17,s8 _ _ h37,by rw [List.take_zero,List.append_nil]; exact s8 _ _ h47⟩ (fun i σ H9 _ z=>by obtain ⟨_,_,_,z,_⟩:=z; exact SqL.of z) ?_ ?_
     · rintro i x σ H9 NI hI hi ⟨v6,rfl,s9,e9,h19,h39,h49⟩
       rw [← List.map_reverse,List.getElem?_map] at hi
       obtain ⟨v,hv,rfl⟩:=Option.map_eq_some_iff.mp hi
       have et:kk.reverse.take (i + 1)=kk.reverse.take i ++ [v]:=by rw [List.take_succ,hv]; rfl
       have wlen:(ws' ++ kk.reverse.take i).length≤100:=by
         rw [List.length_append,List.length_take,List.length_reverse]
         omega
       walk_at "rd"
       refine ⟨tyL h49,io h49 (bX (by rw [List.length_map]; omega)) (hI _ _ ⟨_,rfl,s9.put n40 _,?_,?_,?_,?_⟩)⟩
       · rw [aq n84.symm]; exact e9
       · rw [aq n14]; exact h19
       · rw [aq n34]; exact h39
       · rw [aj,et,← List.append_assoc,List.map_append (l₁:=ws' ++ kk.reverse.take i)]; rfl
     · rintro σ H9 ⟨v6,rfl,s9,e9,h19,h39,h49⟩
       rw [List.length_map,show kk.length=kk.reverse.length by rw [List.length_reverse],List.take_length] at h49
       refine hN _ _ _ ?_ ⟨ks ++ kk,ws' ++ kk.reverse,pl ++ [q],_,_,rfl,rfl,s9,h19,h39,h49,J2.perm (List.Perm.append_left _ kk.reverse_perm.symm),?_,?_⟩
       · rw [List.length_append,List.length_append,List.length_append,List.length_reverse]
         simp only [List.length_cons,List.length_nil]
         omega
       · have p1:(pl ++ [q] ++ (ws' ++ kk.reverse)).Perm (pl ++ (ws' ++ [q]) ++ kk):=by
           rw [List.append_assoc,List.append_assoc]
           refine List.Perm.append_left _ ?_
           rw [← List.append_assoc]
           exact List.Perm.append (List.perm_append_comm) kk.reverse_perm
         exact p1.trans (List.Perm.append_right _ pe)
       · rw [← ep,List.reverse_append,List.reverse_append,List.reverse_reverse,List.reverse_singleton,List.singleton_append,List.flatMap_cons,pq,List.flatMap_append]
         simp
/-! #### inward -/
/-- the places of a row with the ones ahead of them,from its end -/
def sy (par:Int→Int) (v:Int):List V:=[.int v,.int (par v)]
abbrev PairsAt (H:Hp) (par:Int→Int):List Addr→List Int→Prop:=Paired fun q v=>H q=some (.tup (sy par v))
theorem PairsAt.same {H H':Hp} {par:Int→Int} {qs:List Addr} {vs:List Int} (e:Same H H') (h:PairsAt H par qs vs):PairsAt H' par qs vs:=Paired.imp' (fun q v x=>e q _ x) h
theorem PairsAt.get {H:Hp} {par:Int→Int}:∀ {ps:List Addr} {rs:List Int} {i:Nat} {x:V},PairsAt H par ps rs→(ps.map V.ref)[i]?=some x→∃ p r,x=.ref p∧ps[i]?=some p∧rs[i]?=some r∧H p=some (.tup (sy par r))
 | _,_,i,x,.nil,e=>by simp at e
 | _,_,0,x,.cons (a:=p) (b:=r) h hs,e=>⟨p,r,by simpa using e.symm,by simp,by simp,h⟩
 | a :: l1,_,i + 1,x,.cons h hs,e=>by
   have e':(List.map V.ref l1)[i]?=some x:=by simpa using e
   obtain ⟨p,r,h1,h2,h3,h4⟩:=PairsAt.get hs e'
   exact ⟨p,r,h1,by simpa using h2,by simpa using h3,h4⟩
theorem PairsAt.snoc {H:Hp} {par:Int→Int} {q:Addr} {v:Int} (e:H q=some (.tup (sy par v))):∀ {qs:List Addr} {vs:List Int},PairsAt H par qs vs→PairsAt H par (qs ++ [q]) (vs ++ [v])
 | _,_,.nil=>.cons e .nil
 | _,_,.cons x xs=>.cons x (PairsAt.snoc e xs)
def g0 (T:Txt K mg):Sp:=fun vs H Q E=>∃ (p t:Addr) (m:Int) (ps:List Addr) (rs:List Road) (r:Int),vs=[.ref p,.int r]∧WebAt T.Web H p m t ps rs ∧
 (0≤r→r < m→∃ par dep,Rooted m rs r par dep∧∀ l qs tl H',cI m rs r par dep r=r :: tl→H l=none→Same H H'→H' l=some (.lst (qs.map V.ref))→PairsAt H' par qs tl.reverse→Order m r par tl→Q (.ref l) H')∧(¬ (0≤r∧r < m)→E (.ref T.NoPlace) none H)
abbrev bO:Stmt:=top 33
theorem sc_inward:FnScope ["web","r","nearer"] ["web","r"] (aa bO):=FnScope.of (by kernel_rfl)
theorem jr:NmL (aa bO) "web":=.of (by kernel_rfl)
theorem kN:NmC (aa bO) "r":=.of (by kernel_rfl)
theorem n_inward__nearer:NmC (aa bO) "nearer":=.of (by kernel_rfl)
theorem n_inward__ahead:NmG (aa bO) "ahead":=.of (by kernel_rfl)
theorem n_inward__reversed:NmG (aa bO) "reversed":=.of (by kernel_rfl)
theorem n_inward__down:NmG (aa bO) "down":=.of (by kernel_rfl)

theorem uN (T:Txt K mg) (hq:aJ (CXe P w)) {f:Addr} {fd:FuncData} (D:Df K mg "inward" bO ["web","r"] f fd) {f_ahead:Addr} {fd_ahead:FuncData} (D_ahead:Df K mg "ahead" bZ ["web","r"] f_ahead fd_ahead) (G_ahead:FnOk P w K mg base (CXe P w) 5 f_ahead fd_ahead ["web","r"] (lK T)) {f_down:Addr} {fd_down:FuncData} (D_down:Df K mg "down" cA ["web","r"] f_down fd_down) (G_down:FnOk P w K mg base (CXe P w) 6 f_down fd_down ["web","r"] (rW T)):FnOk P w K mg base (CXe P w) 7 f fd ["web","r"] (g0 T):=by
 refine D.F.okX sc_inward (fun vs H Q E h=>?_) (fun cdv A outer s H vs Q E hr h=>?_)
 · obtain ⟨p,t,m,ps,rs,r,rfl,_⟩:=h
   rfl
 · obtain ⟨p,t,m,ps,rs,r,rfl,W,k,e⟩:=h
   have g:=W.go
   have m24:=g.m24
   refine ⟨_,(am (aD (i:=2) sc_inward.nd rfl (Or.inr n_inward__nearer.l) (ao G_ahead (hr.mono (by decide)) n_inward__ahead.g D_ahead.m D_ahead.F.kp D_ahead.b .nil cv (ag (pvl 0 jr) (ag (pvc 1 kN) ah)) (hdb:=n_inward__ahead.d))) (ap (aG (c8 rfl (d8 (Nc:=["place","nearer","r"]) 1 [2,1] (by decide +kernel) rfl (by decide +kernel) rfl (by show ∀ (y:Str × NameKind),y∈_→y.2=NameKind.free→(aa bO).names.lookup y.1=some NameKind.cell; decide +kernel) rfl (fun _ h=>cR h) (fun i hi=>match i,hi with | 0,_=>⟨"nearer",2,rfl,rfl,rfl,by decide +kernel⟩ | 1,_=>⟨"r",1,rfl,rfl,rfl,by decide +kernel⟩ | i + 2,hi=>absurd hi (by show ¬ i + 2 < 2; omega))) (pP n_inward__reversed.g T.reversed (ao G_down (hr.mono (by decide)) n_inward__down.g D_down.m D_down.F.kp D_down.b .nil cv (ag (pvl 0 jr) (ag (pvc 1 kN) ah)) (hdb:=n_inward__down.d))) (fun _ _ _ _=>(aL (i:=0) (show (["place","nearer","r"]:List Str).Nodup from by decide +kernel) rfl (Or.inl rfl))) (fun _ _ _ _=>(mW (bG me (pv 0) (pv 2) (bB _)))) (fun _ _ _ _=>(fk (ag (pv 0) (ag (aH (lI K rfl) (pv 1) (pv 0) (fun _ _=>rfl)) ah)))))))),?_⟩
   rw [show L2.start ["web","r","nearer"] [V.ref p,V.int r]=[some (V.ref p),some (V.int r),none] from rfl]
   walk_at "rd"
   refine ex6 p t m ps rs r ?_
   refine an4 rfl W (fun r0 r1=>?_) e
   obtain ⟨par,dep,R,k⟩:=k r0 r1
   refine ⟨par,dep,R,fun l1 H1 n1 s1 e1=>?_⟩
   refine ex6 p t m ps rs r ?_
   refine an4 rfl (W.same s1) (fun _ _=>⟨par,dep,R,fun l2 H2 n2 s2 e2 nd al=>?_⟩) (fun z=>absurd ⟨r0,r1⟩ z)
   obtain ⟨tl,et,O⟩:=mf g R r0 r1 nd al
   have ll:=lr g R r0 r1
   rw [et] at e2 ll
   rw [List.length_cons] at ll
   refine ⟨l2,rfl,_,SqL.of e2,fun pc npc=>?_⟩
   have e12:=s2 _ _ e1
   have s12:=s1.trans s2
   have npc0:=s12.free npc
   refine xF (K:=K) (xs:=(r :: tl).map V.int) (fun i zs σ H3=>Same H2 H3∧H3 pc=some (.lst zs)∧(∃ qs:List Addr,zs=qs.map V.ref∧PairsAt H3 par qs (tl.reverse.take i))∧∃ v,σ=[v,some (V.ref l1),some (V.int r)]) ⟨Same.new _ npc,aj,⟨[],rfl,.nil⟩,_,rfl⟩ (fun i zs σ H3 _ z=>SqL.of (z.1 _ _ e2)) ?_ ?_
   · rintro i x zs σ H3 N hN hx ⟨s3,e3,⟨qs,rfl,pa⟩,v,rfl⟩
     rw [← List.map_reverse,List.reverse_cons,List.getElem?_map] at hx
     obtain ⟨y,gy,rfl⟩:=Option.map_eq_some_iff.mp hx
     have il:=(List.getElem?_eq_some_iff.mp gy).1
     rw [List.length_append,List.length_reverse] at il
     have ql:qs.length=(tl.reverse.take i).length:=Paired.length pa
     rw [List.length_take,List.length_reverse] at ql
     walk_at "rd"
     by_cases c:i < tl.length
     · rw [List.getElem?_append_left (by rw [List.length_reverse]; exact c)] at gy
       have ym:y∈tl:=List.mem_reverse.mp (List.mem_of_getElem? gy)
       have yr:=O.rng y ym
       rw [if_pos (O.ne ym)]
       have gp:atI (ie m r par) y=some (V.int (par y)):=by
         have ef:Pb.front r par y=V.int (par y):=by unfold Pb.front; rw [if_neg (O.ne ym)]
         rw [← ef]; exact kb yr.1 (qh yr.1 yr.2)
       refine ixL (s3 _ _ e12) gp ⟨bN (by simp),fun q nq=>?_⟩
       have s4:=Same.new (.tup [V.int y,V.int (par y)]) nq
       have nqp:q≠pc:=fun z=>by rw [z,e3] at nq; cases nq
       refine ⟨s4 _ _ e3,bX (by rw [List.length_map]; omega),hN _ _ _ ⟨(s3.trans s4).put npc _,aj,⟨qs ++ [q],by rw [List.map_append]; rfl,?_⟩,_,rfl⟩⟩
       rw [List.take_succ,gy]
       refine PairsAt.snoc (by rw [aq nqp,aj]; rfl) ?_
       exact Paired.imp' (fun a b h=>by
         rw [aq (dk h e3 (by intro z; cases z)),aq (bo h nq)]; exact h) pa
     · have ei:i=tl.reverse.length:=by rw [List.length_reverse]; simp at il; omega
       rw [ei,List.getElem?_append_right (Nat.le_refl _),Nat.sub_self] at gy
       cases gy
       rw [if_neg (fun z=>z rfl)]
       refine hN _ _ _ ⟨s3,e3,⟨qs,rfl,?_⟩,_,rfl⟩
       rw [List.take_of_length_le (by omega)] at pa ⊢
       exact pa
   · rintro zs σ H3 ⟨s3,e3,⟨qs,rfl,pa⟩,v,rfl⟩
     rw [List.take_of_length_le (by rw [List.length_map,List.length_reverse,List.length_cons]; omega)] at pa
     exact k pc qs tl H3 et npc0 (s12.trans s3) e3 pa O
/-! #### is_filled -/
def bw (m:Int) (xs:List Int):Bool:=decide ((xs.length:Int)=m) && xs.all fun x=>decide (0≤x)
theorem vd {m:Int} {xs:List Int} (h:(xs.length:Int)=m) (h0:∀ x∈xs,0≤x):bw m xs=true:=by
 unfold bw
 rw [decide_eq_true h,Bool.true_and,List.all_eq_true]
 exact fun x hx=>decide_eq_true (h0 x hx)
theorem sG {m:Int} {xs:List Int} (h:bw m xs=true):(xs.length:Int)=m:=by
 unfold bw at h
 rw [Bool.and_eq_true] at h
 exact of_decide_eq_true h.1
theorem vC {m:Int} {xs:List Int} (h:bw m xs=true):∀ x∈xs,0≤x:=by
 unfold bw at h
 rw [Bool.and_eq_true,List.all_eq_true] at h
 exact fun x hx=>of_decide_eq_true (h.2 x hx)
def jL (T:Txt K mg):Sp:=fun vs H Q _=>∃ (p a t:Addr) (c:Bool) (m:Int) (ps:List Addr) (rs:List Road) (xs:List Int),vs=[.ref p,.ref a]∧WebAt T.Web H p m t ps rs∧SqX K c H a (xs.map V.int)∧xs.length≤1000∧∀ H',Same H H'→Q (.bl (bw m xs)) H'
abbrev bQ:Stmt:=top 49
theorem pX:FnScope ["web","numbers"] ["web","numbers"] (aa bQ):=FnScope.of (by kernel_rfl)
theorem lD:NmL (aa bQ) "web":=.of (by kernel_rfl)
theorem eY:NmL (aa bQ) "numbers":=.of (by kernel_rfl)
theorem n_is_filled__len:NmG (aa bQ) "len":=.of (by kernel_rfl)
theorem n_is_filled__all:NmG (aa bQ) "all":=.of (by kernel_rfl)

theorem pV (T:Txt K mg) (hq:aJ (CXe P w)) {f:Addr} {fd:FuncData} (D:Df K mg "is_filled" bQ ["web","numbers"] f fd):FnOk P w K mg base (CXe P w) 1 f fd ["web","numbers"] (jL T):=by
 refine D.F.okC pX (fun vs H Q E h=>?_) (fun cdv A outer s H vs Q E hr h=>?_)
 · obtain ⟨p,a,t,c,m,ps,rs,xs,rfl,_⟩:=h
   rfl
 · obtain ⟨p,a,t,c,m,ps,rs,xs,rfl,W,ha,hz,k⟩:=h
   refine ⟨_,(ap (aG (mn (fM dW (cB dA n_is_filled__len.g T.len gL (ag (pvl 1 eY) ah) (hn:=n_is_filled__len.n) (hdb:=n_is_filled__len.d)) (dZ  (pvl 0 lD) rfl) (bB _)) (qR (cB (vT rfl) n_is_filled__all.g T.all Be (ag (c8 rfl (jf (Nc:=["number"]) 1 (by decide +kernel) (by decide +kernel) rfl (by decide +kernel) rfl) (gO c (pvl 1 eY)) (fun _ _ _ _=>(aL (i:=0) (show (["number"]:List Str).Nodup from by decide +kernel) rfl (Or.inl rfl))) (fun _ _ _ _=>dP) (fun _ _ _ _=>(fM sx (pv 0) ak (bB _)))) ah) (hn:=n_is_filled__all.n) (hdb:=n_is_filled__all.d)))))),?_⟩
   rw [show L2.start ["web","numbers"] [V.ref p,V.ref a]=[some (V.ref p),some (V.ref a)] from rfl]
   walk_at "rd"
   obtain ⟨dx,ob⟩:=W.ob
   have ha':SqL K H a (xs.map V.int)∨SqT K H a (xs.map V.int):=by
     cases c
     · exact .inr ha
     · exact .inl ha
   refine ⟨_,ha',T.Web,dx,_,ob,T.cl_Web,T.n_many,_,dh m t,rfl,?_⟩
   rw [List.length_map]
   by_cases hm:(xs.length:Int)=m
   · rw [if_pos (by rw [hm])]
     refine ⟨⟨_,ha⟩,fun l nl=>?_⟩
     refine eJ (K:=K) (c:=c) (xs:=xs.map V.int) (fun i bs σ H2=>Same H H2∧H2 l=some (.lst bs)∧bs=((xs.take i).map fun x=>decide (0≤x)).map V.bl∧∃ v,σ=[v]) ⟨Same.new _ nl,aj,rfl,_,rfl⟩ (fun i bs σ H2 _ z=>Same.sqX z.1 ha) ?_ ?_
     · rintro i x bs σ H2 N hN hx ⟨s2,e2,rfl,v,rfl⟩
       rw [List.getElem?_map] at hx
       obtain ⟨y,gy,rfl⟩:=Option.map_eq_some_iff.mp hx
       walk_at "rd"
       refine ⟨e2,bX (by rw [List.length_map,List.length_map,List.length_take]; omega),hN _ _ _ ⟨s2.put nl _,aj,?_,_,rfl⟩⟩
       rw [List.take_succ,gy,List.map_append,List.map_append]
       rfl
     · rintro bs σ H2 ⟨s2,e2,rfl,v,rfl⟩
       refine ⟨l,rfl,_,SqL.of e2,?_⟩
       have e:(((xs.take (xs.map V.int).length).map fun x=>decide (0≤x)).all id)=bw m xs:=by
         rw [List.length_map,List.take_length,List.all_map]
         unfold bw
         rw [decide_eq_true hm,Bool.true_and]
         rfl
       rw [e]
       exact k _ s2
   · rw [if_neg (fun z=>hm (by injection z))]
     have e:bw m xs=false:=by
       unfold bw
       rw [decide_eq_false hm,Bool.false_and]
     rw [e] at k
     exact k H (Same.refl _)
/-! #### laying_of -/
def gM (T:Txt K mg):Sp:=fun vs H Q E=>∃ (p a t:Addr) (c:Bool) (m:Int) (ps:List Addr) (rs:List Road) (xs:List Int),vs=[.ref p,.ref a]∧WebAt T.Web H p m t ps rs∧SqX K c H a (xs.map V.int)∧xs.length≤1000 ∧
 (bw m xs=true→∀ l H',Same H H'→(H' l=some (.tup (xs.map V.int))∨(c=false∧l=a))→SqT K H' l (xs.map V.int)→Q (.ref l) H')∧(bw m xs=false→∀ H',Same H H'→E (.ref T.BadLaying) none H')
abbrev bF:Stmt:=top 48
theorem qr:FnScope ["web","numbers"] ["web","numbers"] (aa bF):=FnScope.of (by kernel_rfl)
theorem k9:NmL (aa bF) "web":=.of (by kernel_rfl)
theorem eW:NmL (aa bF) "numbers":=.of (by kernel_rfl)
theorem n_laying_of__is_filled:NmG (aa bF) "is_filled":=.of (by kernel_rfl)
theorem n_laying_of__BadLaying:NmG (aa bF) "BadLaying":=.of (by kernel_rfl)
theorem n_laying_of__tuple:NmG (aa bF) "tuple":=.of (by kernel_rfl)

theorem qA (T:Txt K mg) (hq:aJ (CXe P w)) {f:Addr} {fd:FuncData} (D:Df K mg "laying_of" bF ["web","numbers"] f fd) {f_is_filled:Addr} {fd_is_filled:FuncData} (D_is_filled:Df K mg "is_filled" bQ ["web","numbers"] f_is_filled fd_is_filled) (G_is_filled:FnOk P w K mg base (CXe P w) 1 f_is_filled fd_is_filled ["web","numbers"] (jL T)):FnOk P w K mg base (CXe P w) 2 f fd ["web","numbers"] (gM T):=by
 refine D.F.okX qr (fun vs H Q E h=>?_) (fun cdv A outer s H vs Q E hr h=>?_)
 · obtain ⟨p,a,t,c,m,ps,rs,xs,rfl,_⟩:=h
   rfl
 · obtain ⟨p,a,t,c,m,ps,rs,xs,rfl,W,ha,hz,k,e⟩:=h
   refine ⟨_,(am (bW (fV (fh (ao G_is_filled (hr.mono (by decide)) n_laying_of__is_filled.g D_is_filled.m D_is_filled.F.kp D_is_filled.b .nil cv (ag (pvl 0 k9) (ag (pvl 1 eW) ah)) (hdb:=n_laying_of__is_filled.d)))) (ap (lH T.e_BadLaying rfl mQ n_laying_of__BadLaying.g T.m_BadLaying (ag iB ah) (hdb:=n_laying_of__BadLaying.d))) bj) (ap (aG (d3 eD n_laying_of__tuple.g T.tuple iT (ag (pvl 1 eW) ah) (hn:=n_laying_of__tuple.n) (hdb:=n_laying_of__tuple.d))))),?_⟩
   rw [show L2.start ["web","numbers"] [V.ref p,V.ref a]=[some (V.ref p),some (V.ref a)] from rfl]
   walk_at "rd"
   refine ⟨p,a,t,c,m,ps,rs,xs,rfl,W,ha,hz,fun H1 s1=>⟨_,rfl,?_⟩⟩
   by_cases z:bw m xs=false
   · rw [if_pos z]
     exact ⟨by decide,e z H1 s1⟩
   · rw [if_neg z]
     have z':bw m xs=true:=by simpa using z
     cases c
     · exact ⟨_,.inr ⟨Same.sqX (c:=false) s1 ha,k z' a H1 s1 (.inr ⟨rfl,rfl⟩) (Same.sqX (c:=false) s1 ha)⟩⟩
     · exact ⟨_,.inl ⟨Same.sqX (c:=true) s1 ha,fun l nl=>k z' l _ (s1.trans (Same.new _ nl)) (.inl aj) (SqT.of aj)⟩⟩
/-! #### toll -/
def fF (T:Txt K mg):Sp:=fun vs H Q E=>∃ (p t:Addr) (m:Int) (ps:List Addr) (rs:List Road) (a b:Int),vs=[.ref p,.int a,.int b]∧WebAt T.Web H p m t ps rs ∧
 (∀ k,0≤a→a < m→0≤b→b < m→bD rs a b=some k→Q (.int k) H)∧(¬ ((0≤a∧a < m)∧(0≤b∧b < m))→E (.ref T.NoPlace) none H)∧(0≤a→a < m→0≤b→b < m→bD rs a b=none→E (.ref T.NoRoad) none H)
abbrev bU:Stmt:=top 20
theorem sc_toll:FnScope ["web","a","b","one","other","there","back"] ["web","a","b"] (aa bU):=FnScope.of (by kernel_rfl)
theorem ig:NmL (aa bU) "web":=.of (by kernel_rfl)
theorem ka:NmL (aa bU) "a":=.of (by kernel_rfl)
theorem jZ:NmL (aa bU) "b":=.of (by kernel_rfl)
theorem n_toll__one:NmL (aa bU) "one":=.of (by kernel_rfl)
theorem n_toll__other:NmL (aa bU) "other":=.of (by kernel_rfl)
theorem n_toll__there:NmL (aa bU) "there":=.of (by kernel_rfl)
theorem n_toll__back:NmL (aa bU) "back":=.of (by kernel_rfl)
theorem n_toll__check_place:NmG (aa bU) "check_place":=.of (by kernel_rfl)
theorem n_toll__NoRoad:NmG (aa bU) "NoRoad":=.of (by kernel_rfl)

theorem zX (T:Txt K mg) (hq:aJ (CXe P w)) {f:Addr} {fd:FuncData} (D:Df K mg "toll" bU ["web","a","b"] f fd) {f_check_place:Addr} {fd_check_place:FuncData} (D_check_place:Df K mg "check_place" bd ["web","number"] f_check_place fd_check_place) (G_check_place:FnOk P w K mg base (CXe P w) 2 f_check_place fd_check_place ["web","number"] (d9 T)):FnOk P w K mg base (CXe P w) 3 f fd ["web","a","b"] (fF T):=by
 refine D.F.okX sc_toll (fun vs H Q E h=>?_) (fun cdv A outer s H vs Q E hr h=>?_)
 · obtain ⟨p,t,m,ps,rs,a,b,rfl,_⟩:=h
   rfl
 · obtain ⟨p,t,m,ps,rs,a,b,rfl,W,k,e1,e2⟩:=h
   obtain ⟨dx,ob⟩:=W.ob
   refine ⟨_,(am (b5 (ao G_check_place (hr.mono (by decide)) n_toll__check_place.g D_check_place.m D_check_place.F.kp D_check_place.b .nil cv (ag (pvl 0 ig) (ag (pvl 1 ka) ah)) (hdb:=n_toll__check_place.d))) (am (b5 (ao G_check_place (hr.mono (by decide)) n_toll__check_place.g D_check_place.m D_check_place.F.kp D_check_place.b .nil cv (ag (pvl 0 ig) (ag (pvl 2 jZ) ah)) (hdb:=n_toll__check_place.d))) (am (cS PassesOwn.leaving rfl (j8 (dZ  (pvl 0 ig) rfl)) (ip (n:=4) rfl (cj (aL (i:=3) sc_toll.nd rfl (Or.inl n_toll__one.l)) (cj (aL (i:=4) sc_toll.nd rfl (Or.inl n_toll__other.l)) (cj (aL (i:=5) sc_toll.nd rfl (Or.inl n_toll__there.l)) (cj (aL (i:=6) sc_toll.nd rfl (Or.inl n_toll__back.l)) gD))))) (am (bW (PW.pt (qF (bG dW (pvl 3 n_toll__one) (pvl 1 ka) (bB _)) (nh (bG dW (pvl 4 n_toll__other) (pvl 2 jZ) (bB _))))) (ap (aG (pvl 5 n_toll__there))) bj) (ap (bW (PW.pt (qF (bG dW (pvl 3 n_toll__one) (pvl 2 jZ) (bB _)) (nh (bG dW (pvl 4 n_toll__other) (pvl 1 ka) (bB _))))) (ap (aG (pvl 6 n_toll__back))) bj)))) (ap (lH T.e_NoRoad rfl mQ n_toll__NoRoad.g T.m_NoRoad (ag iB ah) (hdb:=n_toll__NoRoad.d)))))),?_⟩
   rw [show L2.start ["web","a","b","one","other","there","back"] [V.ref p,V.int a,V.int b]=[some (V.ref p),some (V.int a),some (V.int b),none,none,none,none] from rfl]
   walk_at "rd"
   refine ⟨p,t,m,ps,rs,a,rfl,W,fun a0 a1=>?_,fun z=>e1 fun w=>z w.1⟩
   refine ⟨p,t,m,ps,rs,b,rfl,W,fun b0 b1=>?_,fun z=>e1 fun w=>z w.2⟩
   refine ⟨T.Web,dx,_,ob,T.cl_Web,T.n_roads,_,kU m t,t,rfl,⟨_,SqT.of W.tu⟩,?_⟩
   have hlen:ps.length=rs.length:=Paired.length W.ro
   refine qJ (K:=K) (xs:=ps.map V.ref) (fun i σ H2=>H2=H∧bD (rs.take i) a b=none∧∃ v1 v2 v3 v4,σ=[some (V.ref p),some (V.int a),some (V.int b),v1,v2,v3,v4]) ⟨rfl,rfl,_,_,_,_,rfl⟩ (fun i σ H2 _ z=>by rw [z.1]; exact SqT.of W.tu) ?_ ?_
   · rintro i x σ H2 N hN hx ⟨rfl,hno,v1,v2,v3,v4,rfl⟩
     obtain ⟨q,r,rfl,h1,h2,h3⟩:=W.ro.get hx
     have et:rs.take (i + 1)=rs.take i ++ [r]:=by rw [List.take_succ,h2]; rfl
     have split:bD rs a b=(bD (rs.take i) a b).or ((cY a b r).or (bD (rs.drop (i + 1)) a b)):=by
       have:rs=rs.take i ++ r :: rs.drop (i + 1):=by
         have hil:i < rs.length:=(List.getElem?_eq_some_iff.mp h2).1
         have e:rs[i]=r:=by rw [List.getElem?_eq_getElem hil] at h2; exact Option.some.inj h2
         rw [← e,List.getElem_cons_drop,List.take_append_drop]
       conv=>lhs; rw [this]
       unfold bD
       rw [List.findSome?_append,List.findSome?_cons]
       cases cY a b r <;> rfl
     rw [hno,Option.none_or] at split
     walk_at "rd"
     refine ⟨_,SqT.of h3,rfl,_,_,rfl,_,_,rfl,_,_,rfl,_,_,rfl,rfl,?_⟩
     walk_at "rd"
     have next:cY a b r=none→N [some (V.ref p),some (V.int a),some (V.int b),some (V.int r.a),some (V.int r.b),some (V.int r.t),some (V.int r.u)] H2:=fun z=>hN _ _ ⟨rfl,by
       rw [et]
       unfold bD at hno ⊢
       rw [List.findSome?_append,hno,List.findSome?_cons,z]
       rfl,_,_,_,_,rfl⟩
     have got:∀ v,cY a b r=some v→bD rs a b=some v:=fun v z=>by rw [split,z]; rfl
     unfold cY at next got
     split
     · rename_i c1
       split
       · rename_i c2
         exact k _ a0 a1 b0 b1 (got _ (by rw [if_pos ⟨c1,c2⟩]))
       · rename_i c2
         split
         · rename_i c3
           split
           · rename_i c4
             exact k _ a0 a1 b0 b1 (got _ (by rw [if_neg (fun z=>c2 z.2),if_pos ⟨c3,c4⟩]))
           · rename_i c4
             exact next (by rw [if_neg (fun z=>c2 z.2),if_neg (fun z=>c4 z.2)])
         · rename_i c3
           exact next (by rw [if_neg (fun z=>c2 z.2),if_neg (fun z=>c3 z.1)])
     · rename_i c1
       split
       · rename_i c3
         split
         · rename_i c4
           exact k _ a0 a1 b0 b1 (got _ (by rw [if_neg (fun z=>c1 z.1),if_pos ⟨c3,c4⟩]))
         · rename_i c4
           exact next (by rw [if_neg (fun z=>c1 z.1),if_neg (fun z=>c4 z.2)])
       · rename_i c3
         exact next (by rw [if_neg (fun z=>c1 z.1),if_neg (fun z=>c3 z.1)])
   · rintro σ H2 ⟨rfl,hno,v1,v2,v3,v4,rfl⟩
     rw [List.length_map,hlen,List.take_length] at hno
     walk_at "rd"
     exact ⟨by decide,e2 a0 a1 b0 b1 hno⟩
/-! #### gathered -/
def ia (T:Txt K mg):Sp:=fun vs H Q E=>∃ (p a t:Addr) (c:Bool) (m:Int) (ps:List Addr) (rs:List Road) (xs:List Int) (r:Int),vs=[.ref p,.ref a,.int r]∧WebAt T.Web H p m t ps rs∧SqX K c H a (xs.map V.int)∧xs.length≤1000 ∧
 (bw m xs=true→0≤r→r < m→∃ par dep,Rooted m rs r par dep∧∀ l H',H l=none→Same H H'→H' l=some (.lst ((iW m rs r par dep (fun v=>xs.getD v.toNat 0) (giv rs par)).map V.int))→Q (.ref l) H') ∧
 (bw m xs=false→∀ H',Same H H'→E (.ref T.BadLaying) none H')∧(bw m xs=true→¬ (0≤r∧r < m)→∀ H',Same H H'→E (.ref T.NoPlace) none H')
abbrev aX:Stmt:=top 51
theorem sc_gathered:FnScope ["web","laying","r","counts","place","front"] ["web","laying","r"] (aa aX):=FnScope.of (by kernel_rfl)
theorem eV:NmL (aa aX) "web":=.of (by kernel_rfl)
theorem jV:NmL (aa aX) "laying":=.of (by kernel_rfl)
theorem oX:NmL (aa aX) "r":=.of (by kernel_rfl)
theorem n_gathered__counts:NmL (aa aX) "counts":=.of (by kernel_rfl)
theorem n_gathered__place:NmL (aa aX) "place":=.of (by kernel_rfl)
theorem n_gathered__front:NmL (aa aX) "front":=.of (by kernel_rfl)
theorem n_gathered__list:NmG (aa aX) "list":=.of (by kernel_rfl)
theorem n_gathered__laying_of:NmG (aa aX) "laying_of":=.of (by kernel_rfl)
theorem n_gathered__inward:NmG (aa aX) "inward":=.of (by kernel_rfl)
theorem n_gathered__toll:NmG (aa aX) "toll":=.of (by kernel_rfl)

theorem rc (T:Txt K mg) (hq:aJ (CXe P w)) {f:Addr} {fd:FuncData} (D:Df K mg "gathered" aX ["web","laying","r"] f fd) {f_inward:Addr} {fd_inward:FuncData} (D_inward:Df K mg "inward" bO ["web","r"] f_inward fd_inward) (G_inward:FnOk P w K mg base (CXe P w) 7 f_inward fd_inward ["web","r"] (g0 T)) {f_laying_of:Addr} {fd_laying_of:FuncData} (D_laying_of:Df K mg "laying_of" bF ["web","numbers"] f_laying_of fd_laying_of) (G_laying_of:FnOk P w K mg base (CXe P w) 2 f_laying_of fd_laying_of ["web","numbers"] (gM T)) {f_toll:Addr} {fd_toll:FuncData} (D_toll:Df K mg "toll" bU ["web","a","b"] f_toll fd_toll) (G_toll:FnOk P w K mg base (CXe P w) 3 f_toll fd_toll ["web","a","b"] (fF T)):FnOk P w K mg base (CXe P w) 8 f fd ["web","laying","r"] (ia T):=by
 refine D.F.okX sc_gathered (fun vs H Q E h=>?_) (fun cdv A outer s H vs Q E hr h=>?_)
 · obtain ⟨p,a,t,c,m,ps,rs,xs,r,rfl,_⟩:=h
   rfl
 · obtain ⟨p,a,t,c,m,ps,rs,xs,r,rfl,W,ha,hz,k,e,e'⟩:=h
   have g:=W.go
   have m24:=g.m24
   refine ⟨_,(am (aD (i:=3) sc_gathered.nd rfl (Or.inl n_gathered__counts.l) (d3 gF n_gathered__list.g T.list mY (ag (ao G_laying_of (hr.mono (by decide)) n_gathered__laying_of.g D_laying_of.m D_laying_of.F.kp D_laying_of.b .nil cv (ag (pvl 0 eV) (ag (pvl 1 jV) ah)) (hdb:=n_gathered__laying_of.d)) ah) (hn:=n_gathered__list.n) (hdb:=n_gathered__list.d))) (am (cS PassesOwn.leaving rfl (gE (ao G_inward (hr.mono (by decide)) n_gathered__inward.g D_inward.m D_inward.F.kp D_inward.b .nil cv (ag (pvl 0 eV) (ag (pvl 2 oX) ah)) (hdb:=n_gathered__inward.d))) (ip (n:=2) rfl (cj (aL (i:=4) sc_gathered.nd rfl (Or.inl n_gathered__place.l)) (cj (aL (i:=5) sc_gathered.nd rfl (Or.inl n_gathered__front.l)) gD))) (ap (mS (pvl 3 n_gathered__counts) (pvl 5 n_gathered__front) lO (ax c7 (aH cC (pvl 3 n_gathered__counts) (pvl 4 n_gathered__place) (fun _ _=>rfl)) (ao G_toll (hr.mono (by decide)) n_gathered__toll.g D_toll.m D_toll.F.kp D_toll.b .nil cv (ag (pvl 0 eV) (ag (pvl 4 n_gathered__place) (ag (pvl 5 n_gathered__front) ah))) (hdb:=n_gathered__toll.d))) uT fE))) (ap (aG (pvl 3 n_gathered__counts))))),?_⟩
   rw [show L2.start ["web","laying","r","counts","place","front"] [V.ref p,V.ref a,V.int r]=[some (V.ref p),some (V.ref a),some (V.int r),none,none,none] from rfl]
   walk_at "rd"
   refine ex8 p a t c m ps rs xs ?_
   refine an6 rfl W ha hz (fun fi l0 H0 s0 _ e0=>?_) e
   have xl:(xs.length:Int)=m:=by
     unfold bw at fi
     rw [Bool.and_eq_true] at fi
     exact of_decide_eq_true fi.1
   refine ⟨l0,rfl,_,.inr e0,fun l n1=>?_⟩
   have s1:=Same.new (.lst (xs.map V.int)) n1
   have s01:=s0.trans s1
   have nl:=s0.free n1
   have e1:upd H0 l (.lst (xs.map V.int)) l=some (.lst (xs.map V.int)):=aj
   generalize upd H0 l (.lst (xs.map V.int))=H1 at s1 s01 e1 ⊢
   refine ex6 p t m ps rs r ?_
   refine an4 rfl (W.same s01) (fun r0 r1=>?_) (fun z=>e' fi z H1 s01)
   obtain ⟨par,dep,R,k⟩:=k fi r0 r1
   refine ⟨par,dep,R,fun l2 qs tl H2 _ n2 s2 e2 pa O=>?_⟩
   have nll:l2≠l:=fun z=>by rw [z,e1] at n2; cases n2
   refine ⟨l2,rfl,⟨_,SqL.of e2⟩,?_⟩
   have ql:qs.length=tl.reverse.length:=Paired.length pa
   refine jQ (K:=K) (xs:=qs.map V.ref) (fun i σ H3=>Same H H3∧H3 l2=some (.lst (qs.map V.ref))∧PairsAt H3 par qs tl.reverse∧∃ (cs:List Int) (v4 v5:Option V),H3 l=some (.lst (cs.map V.int))∧Sofar m rs r par dep (fun v=>xs.getD v.toNat 0) (giv rs par) (tl.drop (tl.length - i)) cs∧σ=[some (V.ref p),some (V.ref a),some (V.int r),some (V.ref l),v4,v5]) ⟨s01.trans s2,e2,pa,xs,_,_,s2 _ _ e1,by rw [Nat.sub_zero,List.drop_length]; exact Sofar.nil xl,rfl⟩ (fun i σ H3 _ z=>SqL.of z.2.1) ?_ ?_
   · rintro i x σ H3 N BB hBB hN hx ⟨s3,e3,pa3,cs,v4,v5,c3,so,rfl⟩
     refine hBB _ _ ?_
     obtain ⟨q,v,rfl,hq,hv,eq⟩:=pa3.get hx
     obtain ⟨⟨vr,vn⟩,ev,so'⟩:=O.turn g R so hv
     have u:=R.up v vr.1 vr.2 vn
     obtain ⟨kk,hk,k0,k1⟩:=kg g R vr.1 vr.2 vn
     have cl:=so.len
     walk_at "rd"
     refine ⟨_,SqT.of eq,rfl,_,_,rfl,_,_,rfl,rfl,?_⟩
     refine ixL c3 (atG u.1.1 (by omega)) (ixL c3 (atG vr.1 (by omega)) ?_)
     refine ⟨p,t,m,ps,rs,v,par v,rfl,W.same s3,fun k' _ _ _ _ h=>?_,fun z=>absurd ⟨vr,u.1⟩ z,fun _ _ _ _ z=>by rw [hk] at z; cases z⟩
     rw [hk] at h
     cases h
     refine ⟨_,rfl,_,rfl,⟨by omega,by omega⟩,_,rfl,pD c3 u.1.1 (by rw [List.length_map]; omega) (hN _ _ ⟨s3.put nl _,?_,?_,ke par (giv rs par) cs v,_,_,?_,so',rfl⟩)⟩
     · rw [aq nll]; exact e3
     · exact Paired.imp' (fun a b h=>by rw [aq (dk h c3 (by intro z; cases z))]; exact h) pa3
     · rw [aj,← List.map_set]
       unfold ke giv
       rw [hk]
       rfl
   · rintro BB σ H3 hBB ⟨s3,e3,pa3,cs,v4,v5,c3,so,rfl⟩
     refine hBB _ _ ?_
     rw [List.length_map,ql,List.length_reverse,Nat.sub_self,List.drop_zero] at so
     rw [O.done g R so] at c3
     walk_at "rd"
     exact k l H3 nl s3 c3
/-! #### bring -/
def qB (T:Txt K mg):Sp:=fun vs H Q E=>∃ (p a t:Addr) (c:Bool) (m:Int) (ps:List Addr) (rs:List Road) (xs:List Int) (r:Int),vs=[.ref p,.ref a,.int r]∧WebAt T.Web H p m t ps rs∧SqX K c H a (xs.map V.int)∧xs.length≤1000 ∧
 (bw m xs=true→0≤r→r < m→∃ par dep,Rooted m rs r par dep∧∀ l qs tl H',cI m rs r par dep r=r :: tl→H l=none→Same H H'→H' l=some (.lst (qs.map V.ref))→BringAt H' m rs r par dep (fun v=>xs.getD v.toNat 0) qs (aO m rs r par dep (fun v=>xs.getD v.toNat 0) tl.reverse)→Order m r par tl→Q (.ref l) H') ∧
 (bw m xs=false→∀ H',Same H H'→E (.ref T.BadLaying) none H')∧(bw m xs=true→¬ (0≤r∧r < m)→∀ H',Same H H'→E (.ref T.NoPlace) none H')
abbrev bT:Stmt:=top 53
theorem sc_bring:FnScope ["web","laying","r","counts","steps","place","front","times"] ["web","laying","r"] (aa bT):=FnScope.of (by kernel_rfl)
theorem gT:NmL (aa bT) "web":=.of (by kernel_rfl)
theorem lX:NmL (aa bT) "laying":=.of (by kernel_rfl)
theorem l7:NmL (aa bT) "r":=.of (by kernel_rfl)
theorem n_bring__counts:NmL (aa bT) "counts":=.of (by kernel_rfl)
theorem n_bring__steps:NmL (aa bT) "steps":=.of (by kernel_rfl)
theorem n_bring__place:NmL (aa bT) "place":=.of (by kernel_rfl)
theorem n_bring__front:NmL (aa bT) "front":=.of (by kernel_rfl)
theorem n_bring__times:NmL (aa bT) "times":=.of (by kernel_rfl)
theorem n_bring__gathered:NmG (aa bT) "gathered":=.of (by kernel_rfl)
theorem n_bring__inward:NmG (aa bT) "inward":=.of (by kernel_rfl)
theorem n_bring__toll:NmG (aa bT) "toll":=.of (by kernel_rfl)

theorem wK (T:Txt K mg) (hq:aJ (CXe P w)) {f:Addr} {fd:FuncData} (D:Df K mg "bring" bT ["web","laying","r"] f fd) {f_gathered:Addr} {fd_gathered:FuncData} (D_gathered:Df K mg "gathered" aX ["web","laying","r"] f_gathered fd_gathered) (G_gathered:FnOk P w K mg base (CXe P w) 8 f_gathered fd_gathered ["web","laying","r"] (ia T)) {f_inward:Addr} {fd_inward:FuncData} (D_inward:Df K mg "inward" bO ["web","r"] f_inward fd_inward) (G_inward:FnOk P w K mg base (CXe P w) 7 f_inward fd_inward ["web","r"] (g0 T)) {f_toll:Addr} {fd_toll:FuncData} (D_toll:Df K mg "toll" bU ["web","a","b"] f_toll fd_toll) (G_toll:FnOk P w K mg base (CXe P w) 3 f_toll fd_toll ["web","a","b"] (fF T)):FnOk P w K mg base (CXe P w) 9 f fd ["web","laying","r"] (qB T):=by
 refine D.F.okX sc_bring (fun vs H Q E h=>?_) (fun cdv A outer s H vs Q E hr h=>?_)
 · obtain ⟨p,a,t,c,m,ps,rs,xs,r,rfl,_⟩:=h
   rfl
 · obtain ⟨p,a,t,c,m,ps,rs,xs,r,rfl,W,ha,hz,k,e,e'⟩:=h
   have g:=W.go
   have m24:=g.m24
   refine ⟨_,(am (aD (i:=3) sc_bring.nd rfl (Or.inl n_bring__counts.l) (ao G_gathered (hr.mono (by decide)) n_bring__gathered.g D_gathered.m D_gathered.F.kp D_gathered.b .nil cv (ag (pvl 0 gT) (ag (pvl 1 lX) (ag (pvl 2 l7) ah))) (hdb:=n_bring__gathered.d))) (am (aD (i:=4) sc_bring.nd rfl (Or.inl n_bring__steps.l) (dc ah)) (am (cS PassesOwn.leaving rfl (gE (ao G_inward (hr.mono (by decide)) n_bring__inward.g D_inward.m D_inward.F.kp D_inward.b .nil cv (ag (pvl 0 gT) (ag (pvl 2 l7) ah)) (hdb:=n_bring__inward.d))) (ip (n:=2) rfl (cj (aL (i:=5) sc_bring.nd rfl (Or.inl n_bring__place.l)) (cj (aL (i:=6) sc_bring.nd rfl (Or.inl n_bring__front.l)) gD))) (am (aD (i:=7) sc_bring.nd rfl (Or.inl n_bring__times.l) (ax c7 (aH cC (pvl 3 n_bring__counts) (pvl 5 n_bring__place) (fun _ _=>rfl)) (ao G_toll (hr.mono (by decide)) n_bring__toll.g D_toll.m D_toll.F.kp D_toll.b .nil cv (ag (pvl 0 gT) (ag (pvl 5 n_bring__place) (ag (pvl 6 n_bring__front) ah))) (hdb:=n_bring__toll.d)))) (ap (bW (bG tY (pvl 7 n_bring__times) ak (bB _)) (ap (b5 (fP PySem.F.plainAttrs_list PySem.F.slot_list_append PySem.F.type_list_append cG (pvl 4 n_bring__steps) (ag (fk (ag (pvl 5 n_bring__place) (ag (pvl 6 n_bring__front) (ag (pvl 7 n_bring__times) ah)))) ah)))) bj)))) (ap (aG (pvl 4 n_bring__steps)))))),?_⟩
   rw [show L2.start ["web","laying","r","counts","steps","place","front","times"] [V.ref p,V.ref a,V.int r]=[some (V.ref p),some (V.ref a),some (V.int r),none,none,none,none,none] from rfl]
   walk_at "rd"
   refine ex9 p a t c m ps rs xs r ?_
   refine an7 rfl W ha hz (fun fi r0 r1=>?_) e e'
   obtain ⟨par,dep,R,k⟩:=k fi r0 r1
   refine ⟨par,dep,R,fun lc H1 nc s1 ec=>⟨bN (by simp),fun ls ns=>?_⟩⟩
   have s2:=Same.new (.lst []) ns
   have ns0:=s1.free ns
   have s12:=s1.trans s2
   have es:upd H1 ls (.lst []) ls=some (.lst []):=aj
   have ec2:=s2 _ _ ec
   generalize upd H1 ls (.lst [])=H2 at s2 s12 es ec2 ⊢
   refine ex6 p t m ps rs r ?_
   refine an4 rfl (W.same s12) (fun _ _=>⟨par,dep,R,fun l2 qs tl H3 et n2 s3 e3 pa O=>?_⟩) (fun z=>absurd ⟨r0,r1⟩ z)
   refine ⟨l2,rfl,⟨_,SqL.of e3⟩,?_⟩
   have ql:qs.length=tl.reverse.length:=Paired.length pa
   have ll:=lr g R r0 r1
   rw [et,List.length_cons] at ll
   have n2s:l2≠ls:=fun z=>by rw [z,es] at n2; cases n2
   have ncs:lc≠ls:=fun z=>by rw [← z,ec] at ns; cases ns
   have s13:=s12.trans s3
   refine jQ (K:=K) (xs:=qs.map V.ref) (fun i σ H4=>Same H H4∧H4 l2=some (.lst (qs.map V.ref))∧H4 lc=some (.lst ((iW m rs r par dep (fun v=>xs.getD v.toNat 0) (giv rs par)).map V.int))∧PairsAt H4 par qs tl.reverse∧∃ (us:List Addr) (v5 v6 v7:Option V),H4 ls=some (.lst (us.map V.ref))∧BringAt H4 m rs r par dep (fun v=>xs.getD v.toNat 0) us (aO m rs r par dep (fun v=>xs.getD v.toNat 0) (tl.reverse.take i))∧σ=[some (V.ref p),some (V.ref a),some (V.int r),some (V.ref lc),some (V.ref ls),v5,v6,v7]) ⟨s13,e3,s3 _ _ ec2,pa,[],_,_,_,s3 _ _ es,.nil,rfl⟩ (fun i σ H4 _ z=>SqL.of z.2.1) ?_ ?_
   · rintro i x σ H4 N BB hBB hN hx ⟨s4,e4,c4,pa4,us,v5,v6,v7,u4,ba,rfl⟩
     refine hBB _ _ ?_
     obtain ⟨q,v,rfl,hq,hv,eq⟩:=pa4.get hx
     have vm:v∈tl:=List.mem_reverse.mp (List.mem_of_getElem? hv)
     obtain ⟨vr,vn⟩:=O.places v vm
     have u:=R.up v vr.1 vr.2 vn
     obtain ⟨kk,hk,k0,k1⟩:=kg g R vr.1 vr.2 vn
     have et':tl.reverse.take (i + 1)=tl.reverse.take i ++ [v]:=by rw [List.take_succ,hv]; rfl
     have ul:us.length=(aO m rs r par dep (fun v=>xs.getD v.toNat 0) (tl.reverse.take i)).length:=Paired.length ba
     have ul2:us.length≤24:=by
       rw [ul]
       refine Nat.le_trans (List.length_filter_le _ _) ?_
       rw [List.length_take,List.length_reverse]
       omega
     walk_at "rd"
     refine ⟨_,SqT.of eq,rfl,_,_,rfl,_,_,rfl,rfl,?_⟩
     refine ixL c4 (atG vr.1 (by unfold iW; rw [List.length_map,aK]; omega)) ?_
     rw [pO vr.1 vr.2]
     refine ⟨p,t,m,ps,rs,v,par v,rfl,W.same s4,fun k' _ _ _ _ h=>?_,fun z=>absurd ⟨vr,u.1⟩ z,fun _ _ _ _ z=>by rw [hk] at z; cases z⟩
     rw [hk] at h
     cases h
     refine ⟨_,rfl,_,rfl,⟨by omega,by omega⟩,?_⟩
     have etm:gat m rs r par dep (fun v=>xs.getD v.toNat 0) (giv rs par) v / kk=tms m rs r par dep (fun v=>xs.getD v.toNat 0) v:=by
       unfold tms giv
       rw [hk]
       rfl
     rw [etm]
     by_cases c:0 < tms m rs r par dep (fun v=>xs.getD v.toNat 0) v
     · rw [if_pos c]
       refine ⟨tyL u4,bN (by simp),fun q5 n5=>?_⟩
       have s5:=Same.new (.tup (tf m rs r par dep (fun v=>xs.getD v.toNat 0) v)) n5
       refine io (s5 _ _ u4) (bX (by rw [List.length_map]; omega)) (hN _ _ ⟨(s4.trans s5).put ns0 _,?_,?_,?_,us ++ [q5],_,_,_,?_,?_,rfl⟩)
       · rw [aq n2s]; exact s5 _ _ e4
       · rw [aq ncs]; exact s5 _ _ c4
       · exact Paired.imp' (fun a b h=>by rw [aq (dk (s5 _ _ h) (s5 _ _ u4) (by intro z; cases z))]; exact s5 _ _ h) pa4
       · rw [aj,List.map_append]; rfl
       · have n5s:q5≠ls:=fun z=>by rw [z,u4] at n5; cases n5
         have eb:aO m rs r par dep (fun v=>xs.getD v.toNat 0) (tl.reverse.take (i + 1))=aO m rs r par dep (fun v=>xs.getD v.toNat 0) (tl.reverse.take i) ++ [v]:=by
           rw [et',sJ c]
         rw [eb]
         refine BringAt.snoc (by rw [aq n5s,aj]; rfl) ?_
         exact Paired.imp' (fun a b h=>by rw [aq (dk (s5 _ _ h) (s5 _ _ u4) (by intro z; cases z))]; exact s5 _ _ h) ba
     · rw [if_neg c]
       have eb:aO m rs r par dep (fun v=>xs.getD v.toNat 0) (tl.reverse.take (i + 1))=aO m rs r par dep (fun v=>xs.getD v.toNat 0) (tl.reverse.take i):=by
         rw [et',ui c]
       exact hN _ _ ⟨s4,e4,c4,pa4,us,_,_,_,u4,by rw [eb]; exact ba,rfl⟩
   · rintro BB σ H4 hBB ⟨s4,e4,c4,pa4,us,v5,v6,v7,u4,ba,rfl⟩
     refine hBB _ _ ?_
     rw [List.length_map,ql,List.take_length] at ba
     walk_at "rd"
     exact k ls us tl H4 et ns0 s4 u4 ba O
/-! #### less -/
def kf (T:Txt K mg):Sp:=fun vs H Q _=>∃ (a b:Addr) (f g:Int × Int) (n:Nat),vs=[.ref a,.ref b]∧SqT K H a [.int f.1,.int f.2]∧SqT K H b [.int g.1,.int g.2]∧FrB n f∧FrB n g∧n≤4000∧Q (.bl (decide (f.1 * g.2 < g.1 * f.2))) H
abbrev dM:Stmt:=top 6
theorem Af:FnScope ["one","two"] ["one","two"] (aa dM):=FnScope.of (by kernel_rfl)
theorem kI:NmL (aa dM) "one":=.of (by kernel_rfl)
theorem kT:NmL (aa dM) "two":=.of (by kernel_rfl)

theorem Au (T:Txt K mg) (hq:aJ (CXe P w)) {f:Addr} {fd:FuncData} (D:Df K mg "less" dM ["one","two"] f fd):FnOk P w K mg base (CXe P w) 1 f fd ["one","two"] (kf T):=by
 refine D.F.okC Af (fun vs H Q E h=>?_) (fun cdv A outer s H vs Q E hr h=>?_)
 · obtain ⟨a,b,f,g,n,rfl,_⟩:=h
   rfl
 · obtain ⟨a,b,f,g,n,rfl,ha,hb,fb,gb,n1,k⟩:=h
   refine ⟨_,(ap (aG (fM pj (ax eT (aH aQ (pvl 0 kI) ak (fun _ _=>rfl)) (aH aQ (pvl 1 kT) ak (fun _ _=>rfl))) (ax eT (aH aQ (pvl 1 kT) ak (fun _ _=>rfl)) (aH aQ (pvl 0 kI) ak (fun _ _=>rfl))) (bB _)))),?_⟩
   rw [show L2.start ["one","two"] [V.ref a,V.ref b]=[some (V.ref a),some (V.ref b)] from rfl]
   have ub:∀ {x:Int},x.natAbs < 2 ^ n→x.natAbs < 2 ^ 4000:=fun h=>bR h (by omega)
   walk_at "rd"
   refine eI (ha) rfl (eI (hb) rfl ?_)
   exact ⟨_,rfl,_,rfl,fT (ub fb.2.1) (ub gb.2.2),eI (hb) rfl (eI (ha) rfl ⟨_,rfl,_,rfl,fT (ub gb.2.1) (ub fb.2.2),k⟩)⟩
/-! #### most -/
def nF (T:Txt K mg):Sp:=fun vs H Q E=>∃ (p a t:Addr) (c:Bool) (m:Int) (ps:List Addr) (rs:List Road) (xs:List Int) (r:Int),vs=[.ref p,.ref a,.int r]∧WebAt T.Web H p m t ps rs∧SqX K c H a (xs.map V.int)∧xs.length≤1000 ∧
 (bw m xs=true→0≤r→r < m→∃ par dep,Rooted m rs r par dep∧∀ H',Same H H'→Q (.int (gat m rs r par dep (fun v=>xs.getD v.toNat 0) (giv rs par) r)) H') ∧
 (bw m xs=false→∀ H',Same H H'→E (.ref T.BadLaying) none H')∧(bw m xs=true→¬ (0≤r∧r < m)→∀ H',Same H H'→E (.ref T.NoPlace) none H')
abbrev dq:Stmt:=top 52
theorem AE:FnScope ["web","laying","r"] ["web","laying","r"] (aa dq):=FnScope.of (by kernel_rfl)
theorem rC:NmL (aa dq) "web":=.of (by kernel_rfl)
theorem m7:NmL (aa dq) "laying":=.of (by kernel_rfl)
theorem nW:NmL (aa dq) "r":=.of (by kernel_rfl)
theorem n_most__gathered:NmG (aa dq) "gathered":=.of (by kernel_rfl)

theorem Aq (T:Txt K mg) (hq:aJ (CXe P w)) {f:Addr} {fd:FuncData} (D:Df K mg "most" dq ["web","laying","r"] f fd) {f_gathered:Addr} {fd_gathered:FuncData} (D_gathered:Df K mg "gathered" aX ["web","laying","r"] f_gathered fd_gathered) (G_gathered:FnOk P w K mg base (CXe P w) 8 f_gathered fd_gathered ["web","laying","r"] (ia T)):FnOk P w K mg base (CXe P w) 9 f fd ["web","laying","r"] (nF T):=by
 refine D.F.okX AE (fun vs H Q E h=>?_) (fun cdv A outer s H vs Q E hr h=>?_)
 · obtain ⟨p,a,t,c,m,ps,rs,xs,r,rfl,_⟩:=h
   rfl
 · obtain ⟨p,a,t,c,m,ps,rs,xs,r,rfl,W,ha,hz,k,e,e'⟩:=h
   refine ⟨_,(ap (aG (aH cC (ao G_gathered (hr.mono (by decide)) n_most__gathered.g D_gathered.m D_gathered.F.kp D_gathered.b .nil cv (ag (pvl 0 rC) (ag (pvl 1 m7) (ag (pvl 2 nW) ah))) (hdb:=n_most__gathered.d)) (pvl 2 nW) (fun _ _=>rfl)))),?_⟩
   rw [show L2.start ["web","laying","r"] [V.ref p,V.ref a,V.int r]=[some (V.ref p),some (V.ref a),some (V.int r)] from rfl]
   walk_at "rd"
   refine ex9 p a t c m ps rs xs r ?_
   refine an7 rfl W ha hz (fun fi r0 r1=>?_) e e'
   obtain ⟨par,dep,R,k⟩:=k fi r0 r1
   refine ⟨par,dep,R,fun l H1 n1 s1 e1=>?_⟩
   refine ixL e1 (atG r0 ?_) ?_
   · unfold iW; rw [List.length_map,aK]; omega
   · rw [pO r0 r1]
     exact k H1 s1
/-! #### taken -/
def lp (T:Txt K mg):Sp:=fun vs H Q _=>∃ (p q t:Addr) (m:Int) (ps:List Addr) (rs:List Road) (s:Stp),vs=[.ref p,.ref q]∧WebAt T.Web H p m t ps rs∧H q=some (.tup (vSt s))∧dF m rs s=true∧Q (.int (s.2.2 * aB rs s.1 s.2.1)) H
abbrev c9:Stmt:=top 59
theorem wO:FnScope ["web","step"] ["web","step"] (aa c9):=FnScope.of (by kernel_rfl)
theorem qS:NmL (aa c9) "web":=.of (by kernel_rfl)
theorem gj:NmL (aa c9) "step":=.of (by kernel_rfl)
theorem n_taken__toll:NmG (aa c9) "toll":=.of (by kernel_rfl)

theorem zo (T:Txt K mg) (hq:aJ (CXe P w)) {f:Addr} {fd:FuncData} (D:Df K mg "taken" c9 ["web","step"] f fd) {f_toll:Addr} {fd_toll:FuncData} (D_toll:Df K mg "toll" bU ["web","a","b"] f_toll fd_toll) (G_toll:FnOk P w K mg base (CXe P w) 3 f_toll fd_toll ["web","a","b"] (fF T)):FnOk P w K mg base (CXe P w) 4 f fd ["web","step"] (lp T):=by
 refine D.F.okC wO (fun vs H Q E h=>?_) (fun cdv A outer s H vs Q E hr h=>?_)
 · obtain ⟨p,q,t,m,ps,rs,s,rfl,_⟩:=h
   rfl
 · obtain ⟨p,q,t,m,ps,rs,s,rfl,W,hs,is,k⟩:=h
   have g:=W.go
   obtain ⟨kk,e1,e2,kr,br⟩:=hG g is
   have ar:=(di is).1
   refine ⟨_,(ap (aG (ax fX (aH aQ (pvl 1 gj) ak (fun _ _=>rfl)) (ao G_toll (hr.mono (by decide)) n_taken__toll.g D_toll.m D_toll.F.kp D_toll.b .nil (ay hq) (ag (pvl 0 qS) (ag (aH aQ (pvl 1 gj) ak (fun _ _=>rfl)) (ag (aH aQ (pvl 1 gj) ak (fun _ _=>rfl)) ah))) (hdb:=n_taken__toll.d))))),?_⟩
   rw [show L2.start ["web","step"] [V.ref p,V.ref q]=[some (V.ref p),some (V.ref q)] from rfl]
   walk_at "rd"
   refine ixT hs rfl (ixT hs rfl (ixT hs rfl ?_))
   refine ex7 p t m ps rs s.1 s.2.1 ?_
   refine an5 rfl W (fun k' _ _ _ _ h=>?_) (fun z=>absurd ⟨ar,br⟩ z) (fun _ _ _ _ z=>by rw [e1] at z; cases z)
   rw [e1] at h
   cases h
   rw [e2] at k
   exact ⟨_,rfl,_,rfl,.inr ⟨by omega,by omega⟩,k⟩
/-! #### behind -/
def nN (T:Txt K mg):Sp:=fun vs H Q _=>∃ (p a q t:Addr) (m:Int) (ps:List Addr) (rs:List Road) (xs:List Int) (s:Stp),vs=[.ref p,.ref a,.ref q]∧WebAt T.Web H p m t ps rs∧SqT K H a (xs.map V.int)∧(xs.length:Int)=m∧H q=some (.tup (vSt s))∧dF m rs s=true∧∀ l H',H l=none→Same H H'→H' l=some (.tup ((bS rs xs s).map V.int))→Q (.ref l) H'
abbrev cg:Stmt:=top 60
theorem sc_behind:FnScope ["web","laying","step","counts"] ["web","laying","step"] (aa cg):=FnScope.of (by kernel_rfl)
theorem o6:NmL (aa cg) "web":=.of (by kernel_rfl)
theorem lh:NmL (aa cg) "laying":=.of (by kernel_rfl)
theorem d7:NmL (aa cg) "step":=.of (by kernel_rfl)
theorem n_behind__counts:NmL (aa cg) "counts":=.of (by kernel_rfl)
theorem n_behind__list:NmG (aa cg) "list":=.of (by kernel_rfl)
theorem n_behind__taken:NmG (aa cg) "taken":=.of (by kernel_rfl)
theorem n_behind__tuple:NmG (aa cg) "tuple":=.of (by kernel_rfl)

theorem uG (T:Txt K mg) (hq:aJ (CXe P w)) {f:Addr} {fd:FuncData} (D:Df K mg "behind" cg ["web","laying","step"] f fd) {f_taken:Addr} {fd_taken:FuncData} (D_taken:Df K mg "taken" c9 ["web","step"] f_taken fd_taken) (G_taken:FnOk P w K mg base (CXe P w) 4 f_taken fd_taken ["web","step"] (lp T)):FnOk P w K mg base (CXe P w) 5 f fd ["web","laying","step"] (nN T):=by
 refine D.F.okC sc_behind (fun vs H Q E h=>?_) (fun cdv A outer s H vs Q E hr h=>?_)
 · obtain ⟨p,a,q,t,m,ps,rs,xs,s,rfl,_⟩:=h
   rfl
 · obtain ⟨p,a,q,t,m,ps,rs,xs,s,rfl,W,ha,xl,hs,is,k⟩:=h
   have g:=W.go
   have m24:=g.m24
   obtain ⟨kk,e1,e2,kr,br⟩:=hG g is
   have ar:=(di is).1
   refine ⟨_,(am (aD (i:=3) sc_behind.nd rfl (Or.inl n_behind__counts.l) (d3 gF n_behind__list.g T.list mY (ag (pvl 1 lh) ah) (hn:=n_behind__list.n) (hdb:=n_behind__list.d))) (am (mS (pvl 3 n_behind__counts) (aH aQ (pvl 2 d7) ak (fun _ _=>rfl)) lO (ao G_taken (hr.mono (by decide)) n_behind__taken.g D_taken.m D_taken.F.kp D_taken.b .nil (ay hq) (ag (pvl 0 o6) (ag (pvl 2 d7) ah)) (hdb:=n_behind__taken.d)) A5 fE) (am (mS (pvl 3 n_behind__counts) (aH aQ (pvl 2 d7) ak (fun _ _=>rfl)) lO (aH aQ (pvl 2 d7) ak (fun _ _=>rfl)) uT fE) (ap (aG (d3 eD n_behind__tuple.g T.tuple iT (ag (pvl 3 n_behind__counts) ah) (hn:=n_behind__tuple.n) (hdb:=n_behind__tuple.d))))))),?_⟩
   rw [show L2.start ["web","laying","step","counts"] [V.ref p,V.ref a,V.ref q]=[some (V.ref p),some (V.ref a),some (V.ref q),none] from rfl]
   walk_at "rd"
   refine ⟨_,.inr ha,fun l nl=>?_⟩
   have s1:=Same.new (.lst (xs.map V.int)) nl
   have hs1:=s1 _ _ hs
   have el:upd H l (.lst (xs.map V.int)) l=some (.lst (xs.map V.int)):=aj
   generalize upd H l (.lst (xs.map V.int))=H1 at s1 hs1 el ⊢
   refine ixT hs1 rfl (ixL el (atG ar.1 (by omega)) ?_)
   refine ex7 p q t m ps rs s ?_
   refine an5 rfl (W.same s1) hs1 is ?_
   refine ⟨_,rfl,_,rfl,pD el ar.1 (by rw [List.length_map]; omega) ?_⟩
   rw [← List.map_set]
   have nql:q≠l:=dk hs1 el (by intro z; cases z)
   have yl:(xs.set s.1.toNat (xs.getD s.1.toNat 0 - s.2.2 * aB rs s.1 s.2.1)).length=xs.length:=by rw [List.length_set]
   have hk:bS rs xs s=(xs.set s.1.toNat (xs.getD s.1.toNat 0 - s.2.2 * aB rs s.1 s.2.1)).set s.2.1.toNat ((xs.set s.1.toNat (xs.getD s.1.toNat 0 - s.2.2 * aB rs s.1 s.2.1)).getD s.2.1.toNat 0 + s.2.2):=rfl
   generalize xs.set s.1.toNat (xs.getD s.1.toNat 0 - s.2.2 * aB rs s.1 s.2.1)=ys at yl hk ⊢
   have hs2:upd H1 l (.lst (ys.map V.int)) q=some (.tup (vSt s)):=by rw [aq nql]; exact hs1
   refine ixT hs2 rfl (ixL aj (atG br.1 (by omega)) (ixT hs2 rfl ⟨_,rfl,_,rfl,pD aj br.1 (by rw [List.length_map]; omega) ?_⟩))
   rw [fD,← List.map_set,← hk]
   refine ⟨_,.inl ⟨SqL.of aj,fun l2 n2=>?_⟩⟩
   have n20:H l2=none:=by
     have nl2:l2≠l:=fun z=>by rw [z,aj] at n2; cases n2
     rw [aq nl2] at n2
     exact s1.free n2
   exact k l2 _ n20 ((s1.put nl _).trans (Same.new _ n2)) aj
/-! #### is_step -/
def mB (T:Txt K mg):Sp:=fun vs H Q _=>∃ (p q t:Addr) (m:Int) (ps:List Addr) (rs:List Road) (s:Stp),vs=[.ref p,.ref q]∧WebAt T.Web H p m t ps rs∧H q=some (.tup (vSt s))∧∀ H',Same H H'→Q (.bl (dF m rs s)) H'
abbrev cz:Stmt:=top 58
theorem tQ:FnScope ["web","step"] ["web","step"] (aa cz):=FnScope.of (by kernel_rfl)
theorem iM:NmL (aa cz) "web":=.of (by kernel_rfl)
theorem dX:NmL (aa cz) "step":=.of (by kernel_rfl)
theorem n_is_step__is_place:NmG (aa cz) "is_place":=.of (by kernel_rfl)
theorem n_is_step__neighbours:NmG (aa cz) "neighbours":=.of (by kernel_rfl)

theorem sR (T:Txt K mg) (hq:aJ (CXe P w)) {f:Addr} {fd:FuncData} (D:Df K mg "is_step" cz ["web","step"] f fd) {f_is_place:Addr} {fd_is_place:FuncData} (D_is_place:Df K mg "is_place" ce ["many","number"] f_is_place fd_is_place) (G_is_place:FnOk P w K mg base (CXe P w) 1 f_is_place fd_is_place ["many","number"] (fS T)) {f_neighbours:Addr} {fd_neighbours:FuncData} (D_neighbours:Df K mg "neighbours" aV ["web","a"] f_neighbours fd_neighbours) (G_neighbours:FnOk P w K mg base (CXe P w) 3 f_neighbours fd_neighbours ["web","a"] (dL T)):FnOk P w K mg base (CXe P w) 4 f fd ["web","step"] (mB T):=by
 refine D.F.okC tQ (fun vs H Q E h=>?_) (fun cdv A outer s H vs Q E hr h=>?_)
 · obtain ⟨p,q,t,m,ps,rs,s,rfl,_⟩:=h
   rfl
 · obtain ⟨p,q,t,m,ps,rs,s,rfl,W,hs,k⟩:=h
   obtain ⟨dx,ob⟩:=W.ob
   refine ⟨_,(ap (aG (mn (ao G_is_place (hr.mono (by decide)) n_is_step__is_place.g D_is_place.m D_is_place.F.kp D_is_place.b .nil (ay hq) (ag (dZ  (pvl 0 iM) rfl) (ag (aH aQ (pvl 1 dX) ak (fun _ _=>rfl)) ah)) (hdb:=n_is_step__is_place.d)) (mn (fM vP (aH aQ (pvl 1 dX) ak (fun _ _=>rfl)) (ao G_neighbours (hr.mono (by decide)) n_is_step__neighbours.g D_neighbours.m D_neighbours.F.kp D_neighbours.b .nil (ay hq) (ag (pvl 0 iM) (ag (aH aQ (pvl 1 dX) ak (fun _ _=>rfl)) ah)) (hdb:=n_is_step__neighbours.d)) (by with_unfolding_all rfl)) (qR (fM sx (aH aQ (pvl 1 dX) ak (fun _ _=>rfl)) ak (bB _))))))),?_⟩
   rw [show L2.start ["web","step"] [V.ref p,V.ref q]=[some (V.ref p),some (V.ref q)] from rfl]
   walk_at "rd"
   refine ⟨T.Web,dx,_,ob,T.cl_Web,T.n_many,_,dh m t,ixT hs rfl ⟨m,s.1,rfl,?_⟩⟩
   refine ⟨_,rfl,?_⟩
   have kk:∀ H',Same H H'→Q (.bl (decide (0≤s.1) && decide (s.1 < m) && decide (s.2.1∈bM m rs s.1) && decide (1≤s.2.2))) H':=k
   by_cases c:(decide (0≤s.1) && decide (s.1 < m))=true
   · rw [if_pos c]
     rw [c,Bool.true_and] at kk
     have ar:0≤s.1∧s.1 < m:=by
       rw [Bool.and_eq_true] at c
       exact ⟨of_decide_eq_true c.1,of_decide_eq_true c.2⟩
     refine ixT hs rfl (ixT hs rfl ?_)
     refine ex6 p t m ps rs s.1 ?_
     refine an4 rfl W (fun l H1 _ _ nl s1 el=>?_) (fun z=>absurd ar z)
     refine inL el ⟨_,rfl,?_⟩
     by_cases d:s.2.1∈bM m rs s.1
     · rw [decide_eq_true d,Bool.true_and] at kk
       rw [if_pos (by rw [decide_eq_true d]; rfl)]
       exact ixT (s1 _ _ hs) rfl ⟨_,rfl,kk H1 s1⟩
     · rw [decide_eq_false d,Bool.false_and] at kk
       rw [if_neg (by rw [decide_eq_false d]; decide)]
       exact kk H1 s1
   · rw [if_neg c]
     rw [show (decide (0≤s.1) && decide (s.1 < m))=false by simpa using c,Bool.false_and,Bool.false_and] at kk
     exact kk H (Same.refl _)
/-! #### can_be_done -/
def iI (T:Txt K mg):Sp:=fun vs H Q _=>∃ (p a q t:Addr) (m:Int) (ps:List Addr) (rs:List Road) (xs:List Int) (s:Stp),vs=[.ref p,.ref a,.ref q]∧WebAt T.Web H p m t ps rs∧SqT K H a (xs.map V.int)∧(xs.length:Int)=m∧H q=some (.tup (vSt s))∧∀ H',Same H H'→Q (.bl (da m rs xs s)) H'
abbrev bn:Stmt:=top 57
theorem nK:FnScope ["web","laying","step"] ["web","laying","step"] (aa bn):=FnScope.of (by kernel_rfl)
theorem gg:NmL (aa bn) "web":=.of (by kernel_rfl)
theorem iA:NmL (aa bn) "laying":=.of (by kernel_rfl)
theorem dR:NmL (aa bn) "step":=.of (by kernel_rfl)
theorem n_can_be_done__is_step:NmG (aa bn) "is_step":=.of (by kernel_rfl)
theorem n_can_be_done__taken:NmG (aa bn) "taken":=.of (by kernel_rfl)

theorem nj (T:Txt K mg) (hq:aJ (CXe P w)) {f:Addr} {fd:FuncData} (D:Df K mg "can_be_done" bn ["web","laying","step"] f fd) {f_is_step:Addr} {fd_is_step:FuncData} (D_is_step:Df K mg "is_step" cz ["web","step"] f_is_step fd_is_step) (G_is_step:FnOk P w K mg base (CXe P w) 4 f_is_step fd_is_step ["web","step"] (mB T)) {f_taken:Addr} {fd_taken:FuncData} (D_taken:Df K mg "taken" c9 ["web","step"] f_taken fd_taken) (G_taken:FnOk P w K mg base (CXe P w) 4 f_taken fd_taken ["web","step"] (lp T)):FnOk P w K mg base (CXe P w) 5 f fd ["web","laying","step"] (iI T):=by
 refine D.F.okC nK (fun vs H Q E h=>?_) (fun cdv A outer s H vs Q E hr h=>?_)
 · obtain ⟨p,a,q,t,m,ps,rs,xs,s,rfl,_⟩:=h
   rfl
 · obtain ⟨p,a,q,t,m,ps,rs,xs,s,rfl,W,ha,xl,hs,k⟩:=h
   refine ⟨_,(ap (aG (mn (ao G_is_step (hr.mono (by decide)) n_can_be_done__is_step.g D_is_step.m D_is_step.F.kp D_is_step.b .nil (ay hq) (ag (pvl 0 gg) (ag (pvl 2 dR) ah)) (hdb:=n_can_be_done__is_step.d)) (qR (fM sx (aH aQ (pvl 1 iA) (aH aQ (pvl 2 dR) ak (fun _ _=>rfl)) (fun _ _=>rfl)) (ao G_taken (hr.mono (by decide)) n_can_be_done__taken.g D_taken.m D_taken.F.kp D_taken.b .nil (ay hq) (ag (pvl 0 gg) (ag (pvl 2 dR) ah)) (hdb:=n_can_be_done__taken.d)) (bB _)))))),?_⟩
   rw [show L2.start ["web","laying","step"] [V.ref p,V.ref a,V.ref q]=[some (V.ref p),some (V.ref a),some (V.ref q)] from rfl]
   walk_at "rd"
   refine ex7 p q t m ps rs s ?_
   refine an4 rfl W hs (fun H1 s1=>⟨_,rfl,?_⟩)
   by_cases c:dF m rs s=true
   · rw [if_pos c]
     have ar:=(di c).1
     refine ixT (s1 _ _ hs) rfl (eI (Same.tup s1 ha) (atG ar.1 (by omega)) ?_)
     refine ex7 p q t m ps rs s ?_
     refine an5 rfl (W.same s1) (s1 _ _ hs) c ?_
     have:=k H1 s1
     unfold da at this
     rw [c,Bool.true_and] at this
     exact ⟨_,rfl,_,rfl,this⟩
   · rw [if_neg c]
     have:=k H1 s1
     unfold da at this
     rw [show dF m rs s=false by simpa using c,Bool.false_and] at this
     exact this
/-! #### layings -/
def mo (T:Txt K mg):Sp:=fun vs H Q _=>∃ (p a b t:Addr) (c d:Bool) (m:Int) (ps qs:List Addr) (rs:List Road) (xs:List Int) (ss:List Stp),vs=[.ref p,.ref a,.ref b]∧WebAt T.Web H p m t ps rs∧AtX c H a (xs.map V.int)∧bw m xs=true∧AtX d H b (qs.map V.ref)∧StepsAt H qs ss∧ss.length≤1000∧iu m rs xs ss∧∀ l ts H',H l=none→Same H H'→H' l=some (.lst (ts.map V.ref))→vf H' ts (gZ rs xs ss)→Q (.ref l) H'
abbrev bu:Stmt:=top 56
theorem sc_layings:FnScope ["web","laying","steps","passed","at","step"] ["web","laying","steps"] (aa bu):=FnScope.of (by kernel_rfl)
theorem fJ:NmL (aa bu) "web":=.of (by kernel_rfl)
theorem kD:NmL (aa bu) "laying":=.of (by kernel_rfl)
theorem lL:NmL (aa bu) "steps":=.of (by kernel_rfl)
theorem n_layings__passed:NmL (aa bu) "passed":=.of (by kernel_rfl)
theorem n_layings__at:NmL (aa bu) "at":=.of (by kernel_rfl)
theorem n_layings__step:NmL (aa bu) "step":=.of (by kernel_rfl)
theorem n_layings__laying_of:NmG (aa bu) "laying_of":=.of (by kernel_rfl)
theorem n_layings__enumerate:NmG (aa bu) "enumerate":=.of (by kernel_rfl)
theorem n_layings__can_be_done:NmG (aa bu) "can_be_done":=.of (by kernel_rfl)
theorem vA:NmG (aa bu) "BadStep":=.of (by kernel_rfl)
theorem n_layings__behind:NmG (aa bu) "behind":=.of (by kernel_rfl)

theorem tD (T:Txt K mg) (hq:aJ (CXe P w)) {f:Addr} {fd:FuncData} (D:Df K mg "layings" bu ["web","laying","steps"] f fd) {f_behind:Addr} {fd_behind:FuncData} (D_behind:Df K mg "behind" cg ["web","laying","step"] f_behind fd_behind) (G_behind:FnOk P w K mg base (CXe P w) 5 f_behind fd_behind ["web","laying","step"] (nN T)) {f_can_be_done:Addr} {fd_can_be_done:FuncData} (D_can_be_done:Df K mg "can_be_done" bn ["web","laying","step"] f_can_be_done fd_can_be_done) (G_can_be_done:FnOk P w K mg base (CXe P w) 5 f_can_be_done fd_can_be_done ["web","laying","step"] (iI T)) {f_laying_of:Addr} {fd_laying_of:FuncData} (D_laying_of:Df K mg "laying_of" bF ["web","numbers"] f_laying_of fd_laying_of) (G_laying_of:FnOk P w K mg base (CXe P w) 2 f_laying_of fd_laying_of ["web","numbers"] (gM T)):FnOk P w K mg base (CXe P w) 6 f fd ["web","laying","steps"] (mo T):=by
 refine D.F.okC sc_layings (fun vs H Q E h=>?_) (fun cdv A outer s H vs Q E hr h=>?_)
 · obtain ⟨p,a,b,t,c,d,m,ps,qs,rs,xs,ss,rfl,_⟩:=h
   rfl
 · obtain ⟨p,a,b,t,c,d,m,ps,qs,rs,xs,ss,rfl,W,ha,fi,hb,hs,sl,ca,k⟩:=h
   have g:=W.go
   have m24:=g.m24
   have xl:(xs.length:Int)=m:=by
     unfold bw at fi
     rw [Bool.and_eq_true] at fi
     exact of_decide_eq_true fi.1
   refine ⟨_,(am (aD (i:=3) sc_layings.nd rfl (Or.inl n_layings__passed.l) (dc (ag (ao G_laying_of (hr.mono (by decide)) n_layings__laying_of.g D_laying_of.m D_laying_of.F.kp D_laying_of.b .nil (ay hq) (ag (pvl 0 fJ) (ag (pvl 1 kD) ah)) (hdb:=n_layings__laying_of.d)) ah))) (am (cS PassesOwn.never rfl (An d n_layings__enumerate.g T.enumerate (pvl 2 lL)) (ip (n:=2) rfl (cj (aL (i:=4) sc_layings.nd rfl (Or.inl n_layings__at.l)) (cj (aL (i:=5) sc_layings.nd rfl (Or.inl n_layings__step.l)) gD))) (am (bW (fV (fh (ao G_can_be_done (hr.mono (by decide)) n_layings__can_be_done.g D_can_be_done.m D_can_be_done.F.kp D_can_be_done.b .nil (ay hq) (ag (pvl 0 fJ) (ag (aH cC (pvl 3 n_layings__passed) (mK jR ak) (fun _ _=>rfl)) (ag (pvl 5 n_layings__step) ah))) (hdb:=n_layings__can_be_done.d)))) (ap eK) bj) (ap (b5 (fP PySem.F.plainAttrs_list PySem.F.slot_list_append PySem.F.type_list_append cG (pvl 3 n_layings__passed) (ag (ao G_behind (hr.mono (by decide)) n_layings__behind.g D_behind.m D_behind.F.kp D_behind.b .nil (ay hq) (ag (pvl 0 fJ) (ag (aH cC (pvl 3 n_layings__passed) (mK jR ak) (fun _ _=>rfl)) (ag (pvl 5 n_layings__step) ah))) (hdb:=n_layings__behind.d)) ah)))))) (ap (aG (pvl 3 n_layings__passed))))),?_⟩
   rw [show L2.start ["web","laying","steps","passed","at","step"] [V.ref p,V.ref a,V.ref b]=[some (V.ref p),some (V.ref a),some (V.ref b),none,none,none] from rfl]
   walk_at "rd"
   refine ex8 p a t c m ps rs xs ?_
   refine an6 rfl W ha.sq (by omega) (fun _ t0 H1 s1 e1 _=>?_) (fun z=>by rw [fi] at z; cases z)
   have e1':H1 t0=some (.tup (xs.map V.int)):=by
     rcases e1 with e | ⟨hc,rfl⟩
     · exact e
     · subst hc
       exact s1 _ _ ha
   refine ⟨bN (by simp),fun l nl=>?_⟩
   have s2:=Same.new (.lst [V.ref t0]) nl
   have nl0:=s1.free nl
   have s12:=s1.trans s2
   have e2:=s2 _ _ e1'
   have el:upd H1 l (.lst [V.ref t0]) l=some (.lst [V.ref t0]):=aj
   generalize upd H1 l (.lst [V.ref t0])=H2 at s2 s12 e2 el ⊢
   have ql:qs.length=ss.length:=Paired.length hs
   have hbX:∀ {H3:Hp},Same H H3→SqX K d H3 b (qs.map V.ref):=fun {H3} s3=>AtX.sq (K:=K) (show AtX d H3 b (qs.map V.ref) from s3 _ _ hb)
   refine ⟨⟨_,hbX s12⟩,?_⟩
   refine wt (K:=K) (c:=d) (xs:=qs.map V.ref) (fun i σ H3=>Same H H3∧i≤ss.length∧∃ (ts:List Addr) (v4 v5:Option V),H3 l=some (.lst (ts.map V.ref))∧vf H3 ts ((gZ rs xs ss).take (i + 1))∧σ=[some (V.ref p),some (V.ref a),some (V.ref b),some (V.ref l),v4,v5]) ⟨s12,Nat.zero_le _,[t0],_,_,el,?_,rfl⟩ (fun i σ H3 z=>hbX z.1) ?_ ?_
   · have h0:=hV (rs:=rs) (xs:=xs) (ss:=ss) (i:=0) (Nat.zero_le _)
     rw [dD] at h0
     rw [List.take_succ,h0,List.take_zero]
     exact .cons e2 .nil
   · rintro i x σ H3 q N hN hx ⟨s3,il,ts,v4,v5,e3,ta,rfl⟩ nq
     obtain ⟨qx,s,rfl,h1,h2,h3⟩:=(StepsAt.same s3 hs).get hx
     have il2:i < ss.length:=(List.getElem?_eq_some_iff.mp h2).1
     have cd:=ca i s h2
     have is:dF m rs s=true:=by
       unfold da at cd
       rw [Bool.and_eq_true] at cd
       exact cd.1
     have s4:=Same.new (.tup [V.int (i:Int),V.ref qx]) nq
     have tl:ts.length=((gZ rs xs ss).take (i + 1)).length:=Paired.length ta
     rw [List.length_take,jG] at tl
     have stl:=lQ rs xs ss i
     obtain ⟨tq,htq⟩:∃ tq,ts[i]?=some tq:=⟨_,List.getElem?_eq_getElem (by omega)⟩
     obtain ⟨row,hr1,hr2⟩:=gc ta htq
     rw [List.getElem?_take_of_lt (by omega),hV il] at hr1
     cases hr1
     have elast:∃ t',ts=t' ++ [tq]:=by
       refine ⟨ts.take i,?_⟩
       have:=List.take_succ (l:=ts) (i:=i)
       rw [htq,List.take_of_length_le (by omega)] at this
       exact this
     obtain ⟨t',et'⟩:=elast
     have e3':H3 l=some (.lst (t'.map V.ref ++ [V.ref tq])):=by rw [e3,et',List.map_append]; rfl
     walk_at "rd"
     refine ⟨_,SqT.of aj,rfl,_,_,rfl,_,_,rfl,rfl,?_⟩
     refine ixL (s4 _ _ e3') (lN _ _) ?_
     refine ⟨p,tq,qx,t,m,ps,rs,dz rs xs ss i,s,rfl,W.same (s3.trans s4),SqT.of (s4 _ _ hr2),by omega,s4 _ _ h3,fun H5 s5=>⟨_,rfl,?_⟩⟩
     rw [cd,if_neg (by decide)]
     have s35:=s4.trans s5
     refine ⟨tyL (s35 _ _ e3'),ixL (s35 _ _ e3') (lN _ _) ?_⟩
     refine ⟨p,tq,qx,t,m,ps,rs,dz rs xs ss i,s,rfl,W.same (s3.trans s35),SqT.of (s35 _ _ hr2),by omega,s35 _ _ h3,is,fun tn H6 nn s6 en=>?_⟩
     have s36:=s35.trans s6
     have ntl:tn≠l:=fun z=>by rw [z,s35 _ _ e3'] at nn; cases nn
     refine io (s36 _ _ e3) (bX (by rw [List.length_map]; omega)) (hN _ _ ⟨(s3.trans s36).put nl0 _,il2,ts ++ [tn],_,_,by rw [aj,List.map_append]; rfl,?_,rfl⟩)
     rw [List.take_succ,hV (by omega),eS h2]
     exact fL (by rw [aq ntl]; exact en) (Paired.imp' (fun a b h=>by rw [aq (dk (s36 _ _ h) (s36 _ _ e3) (by intro z; cases z))]; exact s36 _ _ h) ta)
   · rintro σ H3 ⟨s3,il,ts,v4,v5,e3,ta,rfl⟩
     rw [List.length_map,ql,List.take_of_length_le (by rw [jG]; exact Nat.le_refl _)] at ta
     walk_at "rd"
     exact k l ts H3 nl0 s3 e3 ta
/-! #### walked -/
def oB (T:Txt K mg):Sp:=fun vs H Q _=>∃ (p a b t:Addr) (c d:Bool) (m:Int) (ps qs:List Addr) (rs:List Road) (xs:List Int) (ss:List Stp),vs=[.ref p,.ref a,.ref b]∧WebAt T.Web H p m t ps rs∧AtX c H a (xs.map V.int)∧bw m xs=true∧AtX d H b (qs.map V.ref)∧StepsAt H qs ss∧ss.length≤1000∧iu m rs xs ss∧∀ l H',Same H H'→H' l=some (.tup ((dz rs xs ss ss.length).map V.int))→Q (.ref l) H'
abbrev cH:Stmt:=top 55
theorem uR:FnScope ["web","laying","steps"] ["web","laying","steps"] (aa cH):=FnScope.of (by kernel_rfl)
theorem oU:NmL (aa cH) "web":=.of (by kernel_rfl)
theorem lg:NmL (aa cH) "laying":=.of (by kernel_rfl)
theorem mF:NmL (aa cH) "steps":=.of (by kernel_rfl)
theorem n_walked__layings:NmG (aa cH) "layings":=.of (by kernel_rfl)

theorem vl (T:Txt K mg) (hq:aJ (CXe P w)) {f:Addr} {fd:FuncData} (D:Df K mg "walked" cH ["web","laying","steps"] f fd) {f_layings:Addr} {fd_layings:FuncData} (D_layings:Df K mg "layings" bu ["web","laying","steps"] f_layings fd_layings) (G_layings:FnOk P w K mg base (CXe P w) 6 f_layings fd_layings ["web","laying","steps"] (mo T)):FnOk P w K mg base (CXe P w) 7 f fd ["web","laying","steps"] (oB T):=by
 refine D.F.okC uR (fun vs H Q E h=>?_) (fun cdv A outer s H vs Q E hr h=>?_)
 · obtain ⟨p,a,b,t,c,d,m,ps,qs,rs,xs,ss,rfl,_⟩:=h
   rfl
 · obtain ⟨p,a,b,t,c,d,m,ps,qs,rs,xs,ss,rfl,W,ha,fi,hb,hs,sl,ca,k⟩:=h
   refine ⟨_,(ap (aG (aH cC (ao G_layings (hr.mono (by decide)) n_walked__layings.g D_layings.m D_layings.F.kp D_layings.b .nil (ay hq) (ag (pvl 0 oU) (ag (pvl 1 lg) (ag (pvl 2 mF) ah))) (hdb:=n_walked__layings.d)) (mK jR ak) (fun _ _=>rfl)))),?_⟩
   rw [show L2.start ["web","laying","steps"] [V.ref p,V.ref a,V.ref b]=[some (V.ref p),some (V.ref a),some (V.ref b)] from rfl]
   walk_at "rd"
   refine CC p a b t c d m ps qs rs xs ss ?_
   refine an9 rfl W ha fi hb hs sl ca (fun l ts H1 nl s1 el ta=>?_)
   have tl:ts.length=(gZ rs xs ss).length:=Paired.length ta
   rw [jG] at tl
   obtain ⟨tq,htq⟩:∃ tq,ts[ss.length]?=some tq:=⟨_,List.getElem?_eq_getElem (by omega)⟩
   obtain ⟨row,hr1,hr2⟩:=gc ta htq
   rw [hV (Nat.le_refl _)] at hr1
   cases hr1
   have elast:ts=ts.take ss.length ++ [tq]:=by
     have:=List.take_succ (l:=ts) (i:=ss.length)
     rw [htq,List.take_of_length_le (by omega)] at this
     exact this
   rw [elast,List.map_append] at el
   exact ixL el (lN _ _) (k tq H1 s1 hr2)
/-! #### sum_up -/
def eP (T:Txt K mg):Sp:=fun vs H Q _=>∃ (a:Addr) (c:Bool) (qs:List Addr) (fs:List (Int × Int)) (n:Nat),vs=[.ref a]∧AtX c H a (qs.map V.ref)∧Ck K H qs fs∧(∀ f∈fs,FrB n f)∧fs.length * n≤3000∧n≤1000∧fs.length≤1000 ∧
 ∀ (p q:Int) (r:Addr) (H':Hp),Frc (gK fs (0,1)).1 (gK fs (0,1)).2 p q→H r=none→Same H H'→H' r=some (.tup [.int p,.int q])→Q (.ref r) H'
abbrev bH:Stmt:=top 7
theorem sc_sum_up:FnScope ["some","bottom","part"] ["some"] (aa bH):=FnScope.of (by kernel_rfl)
theorem iG:NmL (aa bH) "some":=.of (by kernel_rfl)
theorem n_sum_up__bottom:NmC (aa bH) "bottom":=.of (by kernel_rfl)
theorem n_sum_up__part:NmL (aa bH) "part":=.of (by kernel_rfl)
theorem n_sum_up__common_divisor:NmG (aa bH) "common_divisor":=.of (by kernel_rfl)
theorem n_sum_up__fraction:NmG (aa bH) "fraction":=.of (by kernel_rfl)
theorem n_sum_up__sum:NmG (aa bH) "sum":=.of (by kernel_rfl)

theorem uQ (T:Txt K mg) (hq:aJ (CXe P w)) {f:Addr} {fd:FuncData} (D:Df K mg "sum_up" bH ["some"] f fd) {f_common_divisor:Addr} {fd_common_divisor:FuncData} (D_common_divisor:Df K mg "common_divisor" aS ["one","two"] f_common_divisor fd_common_divisor) (G_common_divisor:FnOk P w K mg base (CXe P w) 1 f_common_divisor fd_common_divisor ["one","two"] (eh T)) {f_fraction:Addr} {fd_fraction:FuncData} (D_fraction:Df K mg "fraction" be ["top","bottom"] f_fraction fd_fraction) (G_fraction:FnOk P w K mg base (CXe P w) 2 f_fraction fd_fraction ["top","bottom"] (cM T)):FnOk P w K mg base (CXe P w) 3 f fd ["some"] (eP T):=by
 refine D.F.okC sc_sum_up (fun vs H Q E h=>?_) (fun cdv A outer s H vs Q E hr h=>?_)
 · obtain ⟨a,c,qs,fs,n,rfl,_⟩:=h
   rfl
 · obtain ⟨a,c,qs,fs,n,rfl,ha,hf,fb,fl,n1,f1,k⟩:=h
   refine ⟨_,(am (aD (i:=1) sc_sum_up.nd rfl (Or.inr n_sum_up__bottom.l) ak) (am (cS PassesOwn.never rfl (gO c (pvl 0 iG)) (aL (i:=2) sc_sum_up.nd rfl (Or.inl n_sum_up__part.l)) (ap (aD (i:=1) sc_sum_up.nd rfl (Or.inr n_sum_up__bottom.l) (ax eT (pvc 1 n_sum_up__bottom) (ax qH (aH aQ (pvl 2 n_sum_up__part) ak (fun _ _=>rfl)) (ao G_common_divisor (hr.mono (by decide)) n_sum_up__common_divisor.g D_common_divisor.m D_common_divisor.F.kp D_common_divisor.b .nil (ay hq) (ag (pvc 1 n_sum_up__bottom) (ag (aH aQ (pvl 2 n_sum_up__part) ak (fun _ _=>rfl)) ah)) (hdb:=n_sum_up__common_divisor.d))))))) (ap (aG (ao G_fraction (hr.mono (by decide)) n_sum_up__fraction.g D_fraction.m D_fraction.F.kp D_fraction.b .nil (ay hq) (ag (cB (qZ rfl) n_sum_up__sum.g T.sum vG (ag (c8 rfl (d8 (Nc:=["part","bottom"]) 1 [1] (by decide +kernel) rfl (by decide +kernel) rfl (by show ∀ (y:Str × NameKind),y∈_→y.2=NameKind.free→(aa bH).names.lookup y.1=some NameKind.cell; decide +kernel) rfl (fun _ h=>cR h) (fun i hi=>match i,hi with | 0,_=>⟨"bottom",1,rfl,rfl,rfl,by decide +kernel⟩ | i + 1,hi=>absurd hi (by show ¬ i + 1 < 1; omega))) (gO c (pvl 0 iG)) (fun _ _ _ _=>(aL (i:=0) (show (["part","bottom"]:List Str).Nodup from by decide +kernel) rfl (Or.inl rfl))) (fun _ _ _ _=>dP) (fun _ _ _ _=>(ax eT (aH (kq K rfl) (pv 0) ak (fun _ _=>rfl)) (ax qH (pv 1) (aH (kq K rfl) (pv 0) ak (fun _ _=>rfl)))))) ah) (hn:=n_sum_up__sum.n) (hdb:=n_sum_up__sum.d)) (ag (pvc 1 n_sum_up__bottom) ah)) (hdb:=n_sum_up__fraction.d)))))),?_⟩
   rw [show L2.start ["some","bottom","part"] [V.ref a]=[some (V.ref a),none,none] from rfl]
   have sq:∀ {H2:Hp},Same H H2→SqX K c H2 a (qs.map V.ref):=fun {H2} s2=>AtX.sq (K:=K) (show AtX c H2 a (qs.map V.ref) from s2 _ _ ha)
   have ql:qs.length=fs.length:=Paired.length hf
   refine dj fun N1 h1=>?_
   walk_at "rd"
   refine h1 _ _ (dj fun N2 h2=>?_)
   walk_at "rd"
   refine ⟨⟨_,sq (Same.refl _)⟩,?_⟩
   refine wM (K:=K) (c:=c) (xs:=qs.map V.ref) (fun i σ H2=>H2=H∧∃ (B:Int) (v:Option V),0 < B∧B.natAbs≤2 ^ (i * n)∧(∀ f∈fs.take i,f.2 ∣ B)∧σ=[some (V.ref a),some (V.int B),v]) ⟨rfl,1,_,by decide,by simp,fun f hf=>by simp at hf,rfl⟩ (fun i σ H2 _ z=>by rw [z.1]; exact sq (Same.refl _)) ?_ ?_
   · rintro i x σ H2 N hN hx ⟨rfl,B,v,B0,Bb,Bd,rfl⟩
     rw [List.getElem?_map] at hx
     obtain ⟨q,gq,rfl⟩:=Option.map_eq_some_iff.mp hx
     obtain ⟨f,gf,eq⟩:=gc hf gq
     have fm:=List.mem_of_getElem? gf
     obtain ⟨f0,fb1,fb2⟩:=fb f fm
     have il:=(List.getElem?_eq_some_iff.mp gf).1
     have gp:=Int.gcd_pos_of_ne_zero_right B (show f.2≠0 by omega)
     have gl:=Int.gcd_le_natAbs_right B (show f.2≠0 by omega)
     obtain ⟨l0,l1⟩:=yL B0 f0
     have gd:(0:Int)≤f.2 / (B.gcd f.2:Int):=Int.ediv_nonneg (by omega) (by omega)
     have qle:f.2 / (B.gcd f.2:Int)≤f.2:=Int.ediv_le_self _ (by omega)
     have qb:(f.2 / (B.gcd f.2:Int)).natAbs≤2 ^ n:=by omega
     have ile:i * n≤fs.length * n:=Nat.mul_le_mul_right _ (by omega)
     have Bb':B.natAbs < 2 ^ 4000:=Nat.lt_of_le_of_lt Bb (Nat.pow_lt_pow_right (by decide) (by omega))
     walk_at "rd"
     refine eI eq rfl (eI eq rfl ⟨_,_,rfl,_,rfl,_,rfl,⟨by omega,lF (n:=n) (by omega) (by omega) (by omega)⟩,fT Bb' (Nat.lt_of_le_of_lt qb (Nat.pow_lt_pow_right (by decide) (by omega))),hN _ _ ⟨rfl,_,_,l0,?_,?_,rfl⟩⟩)
     · rw [Int.natAbs_mul,Nat.succ_mul,Nat.pow_add]
       exact Nat.mul_le_mul Bb qb
     · intro g hg
       rw [List.take_succ,gf] at hg
       rcases List.mem_append.mp hg with hg | hg
       · exact Int.dvd_mul_of_dvd_left (Bd g hg)
       · rw [show g=f by simpa using hg]
         exact l1
   · rintro σ H2 ⟨rfl,B,v,B0,Bb,Bd,rfl⟩
     refine h2 _ _ ?_
     rw [List.length_map,ql] at Bb Bd
     rw [List.take_length] at Bd
     have Bb':B.natAbs < 2 ^ 4000:=Nat.lt_of_le_of_lt Bb (Nat.pow_lt_pow_right (by decide) (by omega))
     walk_at "rd"
     refine ⟨⟨_,sq (Same.refl _)⟩,fun p np=>?_⟩
     refine eJ (K:=K) (c:=c) (xs:=qs.map V.ref) (fun i ys σ H3=>Same H2 H3∧H3 p=some (.lst ys)∧ys=((fs.take i).map fun f=>f.1 * (B / f.2)).map V.int∧∃ v,σ=[v,some (V.int B)]) ⟨Same.new _ np,aj,rfl,_,rfl⟩ (fun i ys σ H3 _ z=>sq z.1) ?_ ?_
     · rintro i x ys σ H3 N hN hx ⟨s3,e3,rfl,v,rfl⟩
       rw [List.getElem?_map] at hx
       obtain ⟨q,gq,rfl⟩:=Option.map_eq_some_iff.mp hx
       obtain ⟨f,gf,eq⟩:=gc hf gq
       have fm:=List.mem_of_getElem? gf
       obtain ⟨f0,fb1,fb2⟩:=fb f fm
       have il:=(List.getElem?_eq_some_iff.mp gf).1
       have qle:B / f.2≤B:=Int.ediv_le_self _ (by omega)
       have qnn:0≤B / f.2:=Int.ediv_nonneg (by omega) (by omega)
       have eq3:=Same.tup s3 eq
       have Bq:(B / f.2).natAbs < 2 ^ 4000:=Nat.lt_of_le_of_lt (show (B / f.2).natAbs≤B.natAbs by omega) Bb'
       walk_at "rd"
       refine eI eq3 rfl (eI eq3 rfl ⟨_,rfl,⟨f0,lF (n:=n) (by omega) fb2 (by omega)⟩,_,rfl,fT (bR fb1 (by omega)) Bq,e3,bX (by rw [List.length_map,List.length_map,List.length_take]; omega),hN _ _ _ ⟨s3.put np _,aj,?_,_,rfl⟩⟩)
       rw [List.take_succ,gf,List.map_append,List.map_append]
       rfl
     · rintro ys σ H3 ⟨s3,e3,rfl,v,rfl⟩
       rw [List.length_map,ql,List.take_length] at e3
       refine ⟨p,rfl,_,.inl (SqL.of e3),_,_,rfl,by omega,Bb',fun x y r fr nr=>k x y r _ ?_ (s3.free nr) (s3.trans (Same.new _ nr)) aj⟩
       have ms:=qL (B:=B) (fs:=fs) (S:=0) (tb:=(0,1)) Bd (by rw [Int.zero_mul,Int.zero_mul])
       rw [Int.zero_add] at ms
       exact AR fr ms (by omega)
/-! #### divided_up -/
def jt (T:Txt K mg):Sp:=fun vs H Q _=>∃ (a b:Addr) (c:Bool) (qs:List Addr) (fs:List (Int × Int)) (ns:List Int),vs=[.ref a,.ref b]∧AtX c H a (qs.map V.ref)∧FrsAt H qs fs∧(∀ f∈fs,FrB 210 f)∧H b=some (.lst (ns.map V.int))∧fs.length=ns.length∧fs.length≤6∧(∀ x∈ns,0 < x∧x.natAbs < 2 ^ 200) ∧
 ∀ (p q:Int) (r:Addr) (H':Hp),0 < q→p.gcd q=1→p.natAbs < 2 ^ 2500→q.natAbs < 2 ^ 2500→(p:Rat) / q=aA (fs.zip ns) (fun z=>(z.1.1:Rat) / z.1.2 / z.2)→H r=none→Same H H'→H' r=some (.tup [.int p,.int q])→Q (.ref r) H'
abbrev bJ:Stmt:=top 38
theorem oY:FnScope ["shares","prices"] ["shares","prices"] (aa bJ):=FnScope.of (by kernel_rfl)
theorem je:NmL (aa bJ) "shares":=.of (by kernel_rfl)
theorem jd:NmL (aa bJ) "prices":=.of (by kernel_rfl)
theorem n_divided_up__sum_up:NmG (aa bJ) "sum_up":=.of (by kernel_rfl)
theorem n_divided_up__zip:NmG (aa bJ) "zip":=.of (by kernel_rfl)

theorem oN (T:Txt K mg) (hq:aJ (CXe P w)) {f:Addr} {fd:FuncData} (D:Df K mg "divided_up" bJ ["shares","prices"] f fd) {f_fraction:Addr} {fd_fraction:FuncData} (D_fraction:Df K mg "fraction" be ["top","bottom"] f_fraction fd_fraction) (G_fraction:FnOk P w K mg base (CXe P w) 2 f_fraction fd_fraction ["top","bottom"] (cM T)) {f_sum_up:Addr} {fd_sum_up:FuncData} (D_sum_up:Df K mg "sum_up" bH ["some"] f_sum_up fd_sum_up) (G_sum_up:FnOk P w K mg base (CXe P w) 3 f_sum_up fd_sum_up ["some"] (eP T)):FnOk P w K mg base (CXe P w) 4 f fd ["shares","prices"] (jt T):=by
 refine D.F.okC oY (fun vs H Q E h=>?_) (fun cdv A outer s H vs Q E hr h=>?_)
 · obtain ⟨a,b,c,qs,fs,ns,rfl,_⟩:=h
   rfl
 · obtain ⟨a,b,c,qs,fs,ns,rfl,ha,hq1,fb,hb,fl,f8,nb,k⟩:=h
   refine ⟨_,(ap (aG (ao G_sum_up (hr.mono (by decide)) n_divided_up__sum_up.g D_sum_up.m D_sum_up.F.kp D_sum_up.b .nil (ay hq) (ag (c8 rfl (jf (Nc:=["share","cost"]) 2 (by decide +kernel) (by decide +kernel) rfl (by decide +kernel) rfl) (AY c true n_divided_up__zip.g T.zip (ag (pvl 0 je) (ag (pvl 1 jd) ah))) (fun _ _ _ _=>(Ao K rfl (n:=2) rfl (cj (aL (i:=0) (show (["share","cost"]:List Str).Nodup from by decide +kernel) rfl (Or.inl rfl)) (cj (aL (i:=1) (show (["share","cost"]:List Str).Nodup from by decide +kernel) rfl (Or.inl rfl)) gD)))) (fun _ _ _ _=>dP) (fun _ _ _ _=>(ao G_fraction (hr.mono (by decide)) (by rfl) D_fraction.m D_fraction.F.kp D_fraction.b .nil (ay hq) (ag (aH (kq K rfl) (pv 0) ak (fun _ _=>rfl)) (ag (ax eT (aH (kq K rfl) (pv 0) ak (fun _ _=>rfl)) (pv 1)) ah))))) ah) (hdb:=n_divided_up__sum_up.d)))),?_⟩
   rw [show L2.start ["shares","prices"] [V.ref a,V.ref b]=[some (V.ref a),some (V.ref b)] from rfl]
   walk_at "rd"
   have ql:qs.length=fs.length:=Paired.length hq1
   refine ⟨a,b,⟨rfl,rfl⟩,⟨_,ha.sq⟩,⟨_,SqL.of hb⟩,fun pc npc=>?_⟩
   refine xa (K:=K) (c:=c) (d:=true) (xs:=qs.map V.ref) (zs:=ns.map V.int) (fun i zs σ H2=>Same H H2∧H2 pc=some (.lst zs)∧(∃ (rq:List Addr) (gs:List (Int × Int)),zs=rq.map V.ref∧gs.length=i∧FrsAt H2 rq gs∧(∀ f∈gs,FrB 410 f)∧aA gs (fun f=>(f.1:Rat) / f.2)=aA ((fs.zip ns).take i) (fun z=>(z.1.1:Rat) / z.1.2 / z.2))∧∃ v w,σ=[v,w]) ⟨Same.new _ npc,aj,⟨[],[],rfl,rfl,.nil,(fun f hf=>nomatch hf),rfl⟩,_,_,rfl⟩ (fun i zs σ H2 z=>⟨Same.sqX z.1 ha.sq,SqL.of (z.1 _ _ hb)⟩) ?_ ?_
   · rintro i u w zs σ H2 pq N hN hu hw ⟨s2,e2,⟨rq,gs,rfl,gl,fg,gb,su⟩,v1,v2,rfl⟩ npq
     rw [List.getElem?_map] at hu hw
     obtain ⟨q,gq,rfl⟩:=Option.map_eq_some_iff.mp hu
     obtain ⟨n,gn,rfl⟩:=Option.map_eq_some_iff.mp hw
     obtain ⟨f,gf,eq⟩:=gc hq1 gq
     obtain ⟨f0,fb1,fb2⟩:=fb f (List.mem_of_getElem? gf)
     obtain ⟨n0,nb1⟩:=nb n (List.mem_of_getElem? gn)
     have il:=(List.getElem?_eq_some_iff.mp gf).1
     have rl:rq.length=gs.length:=Paired.length fg
     have s3:=s2.trans (Same.new (.tup [V.ref q,V.int n]) npq)
     have e3:=(Same.new (.tup [V.ref q,V.int n]) npq) _ _ e2
     have fg3:FrsAt (upd H2 pq (.tup [V.ref q,V.int n])) rq gs:=Paired.imp' (fun a b h=>Same.new _ npq _ _ h) fg
     refine Cr (SqT.of aj) ?_
     simp only [List.set_cons_zero,List.set_cons_succ]
     have eq3:=s3 _ _ eq
     generalize upd H2 pq (.tup [V.ref q,V.int n])=H3 at s3 eq3 e3 fg3 ⊢
     have b1:(f.2 * n).natAbs < 2 ^ (210 + 200):=cT fb2 nb1
     have fn0:0 < f.2 * n:=Int.mul_pos f0 n0
     walk_at "rd"
     refine ixT eq3 rfl (ixT eq3 rfl ⟨_,rfl,fT (bR fb2 (by decide)) (bR nb1 (by decide)),f.1,f.2 * n,rfl,by omega,Nat.lt_of_lt_of_le b1 (Nat.pow_le_pow_right (by decide) (by decide)),fun p' q' r' fr nr=>?_⟩)
     obtain ⟨pl,ql'⟩:=eu fr (by omega)
     have nrp:r'≠pc:=fun z=>by rw [z,e3] at nr; cases nr
     have s4:=Same.new (.tup [V.int p',V.int q']) nr
     refine ⟨s4 _ _ e3,bX (by rw [List.length_map]; omega),hN _ _ _ ⟨?_,aj,⟨rq ++ [r'],gs ++ [(p',q')],by rw [List.map_append]; rfl,by rw [List.length_append,gl]; rfl,?_,?_,?_⟩,_,_,rfl⟩⟩
     · exact fun b o e=>by rw [aq (bo e npc)]; exact s4 _ _ (s3 _ _ e)
     · refine pQ (.cons ?_ .nil) (Paired.imp' (fun b m hb=>?_) fg3)
       · rw [aq nrp]; exact aj
       · rw [aq (dk hb e3 (by intro z; cases z))]
         exact s4 _ _ hb
     · intro x hx
       rcases List.mem_append.mp hx with hx | hx
       · exact gb x hx
       · rw [List.mem_singleton.mp hx]
         exact ⟨fr.pos,Nat.lt_of_le_of_lt pl (Nat.lt_of_lt_of_le fb1 (Nat.pow_le_pow_right (by decide) (by decide))),Nat.lt_of_le_of_lt ql' b1⟩
     · have hz:(fs.zip ns)[i]?=some (f,n):=by rw [List.getElem?_zip_eq_some]; exact ⟨gf,gn⟩
       rw [List.take_succ,hz]
       show aA (gs ++ [(p',q')]) _=aA ((fs.zip ns).take i ++ [(f,n)]) _
       rw [eM,eM,su,dN fr (by omega)]
       congr 1
       show (f.1:Rat) / ((f.2 * n:Int):Rat)=(f.1:Rat) / f.2 / n
       rw [show ((f.2 * n:Int):Rat)=(f.2:Rat) * n from Rat.intCast_mul ..]
       have h1:(f.2:Rat)≠0:=fun z=>by have:=Rat.intCast_eq_zero_iff.mp z; omega
       have h2:(n:Rat)≠0:=fun z=>by have:=Rat.intCast_eq_zero_iff.mp z; omega
       grind
   · rintro zs σ H2 ⟨s2,e2,⟨rq,gs,rfl,gl,fg,gb,su⟩,v1,v2,rfl⟩
     rw [List.length_map,List.length_map] at gl
     have zl:(fs.zip ns).length=fs.length:=by rw [List.length_zip]; omega
     rw [List.take_of_length_le (by rw [zl,List.length_map,List.length_map]; omega)] at su
     have gl8:gs.length≤6:=by omega
     refine ⟨pc,true,rq,gs,410,rfl,e2,fg.k,gb,by omega,by omega,by omega,fun p q r H3 fr nr s3 er=>?_⟩
     have m0:=gS (fs:=gs) (tb:=(0,1)) (fun f hf=>(gb f hf).1) (by decide)
     obtain ⟨pl,ql'⟩:=eu fr (by omega)
     obtain ⟨mb1,mb2⟩:=fY (n:=410) (fs:=gs) (tb:=(0,1)) (b:=1) gb (by decide) (by decide)
     have hp:1 + gs.length * (410 + 1)≤2500:=by omega
     refine k p q r H3 fr.pos fr.one (Nat.lt_of_le_of_lt pl (Nat.lt_of_lt_of_le mb1 (Nat.pow_le_pow_right (by decide) hp))) (Nat.lt_of_le_of_lt ql' (Nat.lt_of_lt_of_le mb2 (Nat.pow_le_pow_right (by decide) hp))) ?_ (s2.free nr) (s2.trans s3) er
     rw [← su]
     have h1:=gQ (fs:=gs) (tb:=(0,1)) (fun f hf=>by have:=(gb f hf).1; omega) (by decide)
     rw [dN fr (by omega),h1]
     rw [show (((0:Int),(1:Int)).1:Rat) / ((0:Int),(1:Int)).2=0 from by show ((0:Int):Rat) / ((1:Int):Rat)=0; rw [show ((0:Int):Rat)=0 from rfl,Rat.div_def,Rat.zero_mul]]
     grind
/-! #### prices_to -/
def jO (T:Txt K mg):Sp:=fun vs H Q E=>∃ (p t:Addr) (m:Int) (ps:List Addr) (rs:List Road) (r:Int),vs=[.ref p,.int r]∧WebAt T.Web H p m t ps rs ∧
 (0≤r→r < m→∃ par dep,Rooted m rs r par dep∧∀ l H',H l=none→Same H H'→H' l=some (.lst (((below m.toNat).map (prc rs par dep true)).map V.int))→Q (.ref l) H')∧(¬ (0≤r∧r < m)→∀ H',Same H H'→E (.ref T.NoPlace) none H')
abbrev bf:Stmt:=top 39
theorem sc_prices_to:FnScope ["web","v","prices","place","front"] ["web","v"] (aa bf):=FnScope.of (by kernel_rfl)
theorem eL:NmL (aa bf) "web":=.of (by kernel_rfl)
theorem mT:NmL (aa bf) "v":=.of (by kernel_rfl)
theorem n_prices_to__prices:NmL (aa bf) "prices":=.of (by kernel_rfl)
theorem n_prices_to__place:NmL (aa bf) "place":=.of (by kernel_rfl)
theorem n_prices_to__front:NmL (aa bf) "front":=.of (by kernel_rfl)
theorem n_prices_to__reversed:NmG (aa bf) "reversed":=.of (by kernel_rfl)
theorem n_prices_to__inward:NmG (aa bf) "inward":=.of (by kernel_rfl)
theorem n_prices_to__toll:NmG (aa bf) "toll":=.of (by kernel_rfl)

theorem pZ (T:Txt K mg) (hq:aJ (CXe P w)) {f:Addr} {fd:FuncData} (D:Df K mg "prices_to" bf ["web","v"] f fd) {f_inward:Addr} {fd_inward:FuncData} (D_inward:Df K mg "inward" bO ["web","r"] f_inward fd_inward) (G_inward:FnOk P w K mg base (CXe P w) 7 f_inward fd_inward ["web","r"] (g0 T)) {f_toll:Addr} {fd_toll:FuncData} (D_toll:Df K mg "toll" bU ["web","a","b"] f_toll fd_toll) (G_toll:FnOk P w K mg base (CXe P w) 3 f_toll fd_toll ["web","a","b"] (fF T)):FnOk P w K mg base (CXe P w) 8 f fd ["web","v"] (jO T):=by
 refine D.F.okX sc_prices_to (fun vs H Q E h=>?_) (fun cdv A outer s H vs Q E hr h=>?_)
 · obtain ⟨p,t,m,ps,rs,r,rfl,_⟩:=h
   rfl
 · obtain ⟨p,t,m,ps,rs,r,rfl,W,k,e⟩:=h
   have g:=W.go
   have m1:=g.m1
   have m24:=g.m24
   obtain ⟨dx,ob⟩:=W.ob
   refine ⟨_,(am (aD (i:=2) sc_prices_to.nd rfl (Or.inl n_prices_to__prices.l) (ax qt (dc (ag ak ah)) (dZ  (pvl 0 eL) rfl))) (am (cS PassesOwn.leaving rfl (pP n_prices_to__reversed.g T.reversed (ao G_inward (hr.mono (by decide)) n_prices_to__inward.g D_inward.m D_inward.F.kp D_inward.b .nil cv (ag (pvl 0 eL) (ag (pvl 1 mT) ah)) (hdb:=n_prices_to__inward.d))) (ip (n:=2) rfl (cj (aL (i:=3) sc_prices_to.nd rfl (Or.inl n_prices_to__place.l)) (cj (aL (i:=4) sc_prices_to.nd rfl (Or.inl n_prices_to__front.l)) gD))) (ap (qG (ax fX (aH cC (pvl 2 n_prices_to__prices) (pvl 4 n_prices_to__front) (fun _ _=>rfl)) (ao G_toll (hr.mono (by decide)) n_prices_to__toll.g D_toll.m D_toll.F.kp D_toll.b .nil cv (ag (pvl 0 eL) (ag (pvl 3 n_prices_to__place) (ag (pvl 4 n_prices_to__front) ah))) (hdb:=n_prices_to__toll.d))) (pB (pvl 2 n_prices_to__prices) (pvl 3 n_prices_to__place) fE)))) (ap (aG (pvl 2 n_prices_to__prices))))),?_⟩
   rw [show L2.start ["web","v","prices","place","front"] [V.ref p,V.int r]=[some (V.ref p),some (V.int r),none,none,none] from rfl]
   walk_at "rd"
   refine ⟨bN (by simp),fun l0 n0=>?_⟩
   have s1:=Same.new (.lst [V.int 1]) n0
   refine ⟨T.Web,dx,_,s1 _ _ ob,T.cl_Web,T.n_many,_,dh m t,?_⟩
   refine ⟨l0,m,_,rfl,rfl,aj,by omega,by omega,bN (by simp; omega),fun l n1=>?_⟩
   rw [zM]
   have s2:=s1.trans (Same.new (.lst (List.replicate m.toNat (V.int 1))) n1)
   have nl:=s1.free n1
   have e1:upd (upd H l0 (.lst [V.int 1])) l (.lst (List.replicate m.toNat (V.int 1))) l=some (.lst ((List.replicate m.toNat (1:Int)).map V.int)):=by rw [aj,List.map_replicate]
   generalize upd (upd H l0 (.lst [V.int 1])) l (.lst (List.replicate m.toNat (V.int 1)))=H1 at s2 e1 ⊢
   refine ex6 p t m ps rs r ?_
   refine an4 rfl (W.same s2) (fun r0 r1=>?_) (fun z=>e z _ s2)
   obtain ⟨par,dep,R,k⟩:=k r0 r1
   refine ⟨par,dep,R,fun l2 qs tl H4 et n2 s4 e4 pa O=>?_⟩
   have nll:l2≠l:=fun z=>by rw [z,e1] at n2; cases n2
   have ql:qs.length=tl.reverse.length:=Paired.length pa
   rw [List.length_reverse] at ql
   have st:Pso m rs r par dep true [] (List.replicate m.toNat (1:Int)):=⟨by rw [List.length_replicate]; omega,fun u hu=>by
     rw [List.mem_singleton.mp hu,fC R,List.getD,List.getElem?_replicate,if_pos (by omega)]
     rfl⟩
   refine ⟨l2,rfl,_,SqL.of e4,?_⟩
   refine pF (K:=K) (xs:=qs.map V.ref) (fun i σ H5=>Same H H5∧H5 l2=some (.lst (qs.map V.ref))∧PairsAt H5 par qs tl.reverse∧∃ (cs:List Int) (v5 v6:Option V),H5 l=some (.lst (cs.map V.int))∧Pso m rs r par dep true (tl.take i) cs∧σ=[some (V.ref p),some (V.int r),some (V.ref l),v5,v6]) ⟨s2.trans s4,e4,pa,_,_,_,s4 _ _ e1,by rw [List.take_zero]; exact st,rfl⟩ (fun i σ H5 _ z=>SqL.of z.2.1) ?_ ?_
   · rintro i x σ H5 N hN hx ⟨s5,e5,pa5,cs,v5,v6,c5,S,rfl⟩
     have il:=(List.getElem?_eq_some_iff.mp hx).1
     rw [List.length_reverse,List.length_map] at il
     rw [List.getElem?_reverse (by rw [List.length_map]; exact il),List.length_map] at hx
     obtain ⟨q,v,rfl,hq',hv,eq⟩:=pa5.get hx
     rw [List.getElem?_reverse (by omega),show tl.length - 1 - (qs.length - 1 - i)=i by omega] at hv
     have vm:=List.mem_of_getElem? hv
     have vr:=O.rng v vm
     have vn:=O.ne vm
     have u:=R.up v vr.1 vr.2 vn
     obtain ⟨kk,hk,k0,k1⟩:=dE g u.2.1
     have ek:tlf rs par true v=kk:=by unfold tlf aB; rw [if_pos rfl,hk]; rfl
     have sl:=S.len
     walk_at "rd"
     refine ⟨_,SqT.of eq,rfl,_,_,rfl,_,_,rfl,rfl,?_⟩
     refine ixL c5 (atG u.1.1 (by omega)) ⟨p,t,m,ps,rs,v,par v,rfl,W.same s5,fun k' _ _ _ _ h=>?_,fun z=>absurd ⟨vr,u.1⟩ z,fun _ _ _ _ z=>by rw [hk] at z; cases z⟩
     rw [hk] at h
     cases h
     exact ⟨_,rfl,_,rfl,.inr ⟨by omega,by omega⟩,pD c5 vr.1 (by rw [List.length_map]; omega) (hN _ _ ⟨s5.put nl _,by rw [aq nll]; exact e5,Paired.imp' (fun a b h=>by rw [aq (dk h c5 (by intro z; cases z))]; exact h) pa5,_,_,_,by rw [aj,← List.map_set],S.step R O r0 hv (by rw [ek]),rfl⟩)⟩
   · rintro σ H5 ⟨s5,e5,pa5,cs,v5,v6,c5,S,rfl⟩
     rw [List.length_map,ql,List.take_length] at S
     walk_at "rd"
     rw [S.done g O] at c5
     exact k l H5 nl s5 c5
/-! #### worth -/
def qO (T:Txt K mg):Sp:=fun vs H Q E=>∃ (p a t:Addr) (c:Bool) (m:Int) (ps qs:List Addr) (rs:List Road) (fs:List (Int × Int)) (r:Int),vs=[.ref p,.ref a,.int r]∧WebAt T.Web H p m t ps rs∧AtX c H a (qs.map V.ref)∧FrsAt H qs fs∧(∀ f∈fs,FrB 210 f)∧(fs.length:Int)=m∧m≤6 ∧
 (0≤r→r < m→∃ par dep,Rooted m rs r par dep∧∀ (x y:Int) (l:Addr) (H':Hp),0 < y→x.gcd y=1→x.natAbs < 2 ^ 2500→y.natAbs < 2 ^ 2500→(x:Rat) / y=aA (fs.zip ((below m.toNat).map (prc rs par dep true))) (fun z=>(z.1.1:Rat) / z.1.2 / z.2)→H l=none→Same H H'→H' l=some (.tup [.int x,.int y])→Q (.ref l) H')∧(¬ (0≤r∧r < m)→∀ H',Same H H'→E (.ref T.NoPlace) none H')
abbrev cP:Stmt:=top 37
theorem xk:FnScope ["web","shares","v"] ["web","shares","v"] (aa cP):=FnScope.of (by kernel_rfl)
theorem pK:NmL (aa cP) "web":=.of (by kernel_rfl)
theorem mx:NmL (aa cP) "shares":=.of (by kernel_rfl)
theorem tm:NmL (aa cP) "v":=.of (by kernel_rfl)
theorem n_worth__divided_up:NmG (aa cP) "divided_up":=.of (by kernel_rfl)
theorem n_worth__prices_to:NmG (aa cP) "prices_to":=.of (by kernel_rfl)

theorem wV (T:Txt K mg) (hq:aJ (CXe P w)) {f:Addr} {fd:FuncData} (D:Df K mg "worth" cP ["web","shares","v"] f fd) {f_divided_up:Addr} {fd_divided_up:FuncData} (D_divided_up:Df K mg "divided_up" bJ ["shares","prices"] f_divided_up fd_divided_up) (G_divided_up:FnOk P w K mg base (CXe P w) 4 f_divided_up fd_divided_up ["shares","prices"] (jt T)) {f_prices_to:Addr} {fd_prices_to:FuncData} (D_prices_to:Df K mg "prices_to" bf ["web","v"] f_prices_to fd_prices_to) (G_prices_to:FnOk P w K mg base (CXe P w) 8 f_prices_to fd_prices_to ["web","v"] (jO T)):FnOk P w K mg base (CXe P w) 9 f fd ["web","shares","v"] (qO T):=by
 refine D.F.okX xk (fun vs H Q E h=>?_) (fun cdv A outer s H vs Q E hr h=>?_)
 · obtain ⟨p,a,t,c,m,ps,qs,rs,fs,r,rfl,_⟩:=h
   rfl
 · obtain ⟨p,a,t,c,m,ps,qs,rs,fs,r,rfl,W,ha,hq1,fb,fl,m8,k,e⟩:=h
   have g:=W.go
   refine ⟨_,(ap (aG (ao G_divided_up (hr.mono (by decide)) n_worth__divided_up.g D_divided_up.m D_divided_up.F.kp D_divided_up.b .nil cv (ag (pvl 1 mx) (ag (ao G_prices_to (hr.mono (by decide)) n_worth__prices_to.g D_prices_to.m D_prices_to.F.kp D_prices_to.b .nil cv (ag (pvl 0 pK) (ag (pvl 2 tm) ah)) (hdb:=n_worth__prices_to.d)) ah)) (hdb:=n_worth__divided_up.d)))),?_⟩
   rw [show L2.start ["web","shares","v"] [V.ref p,V.ref a,V.int r]=[some (V.ref p),some (V.ref a),some (V.int r)] from rfl]
   walk_at "rd"
   refine ⟨p,t,m,ps,rs,r,rfl,W,fun r0 r1=>?_,fun z H' s'=>e z H' s'⟩
   obtain ⟨par,dep,R,k⟩:=k r0 r1
   refine ⟨par,dep,R,fun l H1 nl s1 el=>?_⟩
   refine ⟨a,l,c,qs,fs,_,rfl,s1 _ _ ha,Paired.imp' (fun q v x=>s1 q _ x) hq1,fb,el,by rw [List.length_map,aK]; omega,by omega,?_,fun x y b H2 y0 xy xb yb su nb s2 eb=>k x y b H2 y0 xy xb yb su (s1.free nb) (s1.trans s2) eb⟩
   intro x hx
   obtain ⟨v,hv,rfl⟩:=List.mem_map.mp hx
   obtain ⟨v0,v1⟩:=mem_below.mp hv
   obtain ⟨b0,b1⟩:=gU (to:=true) g R _ rfl v0 (show v < m by omega)
   have dl:=mj R v0 (show v < m by omega)
   exact ⟨b0,Nat.lt_of_lt_of_le b1 (Nat.pow_le_pow_right (by decide) (by omega))⟩
/-! #### _law_worths_right -/
theorem mJ:∀ {l:List Int} {x:Int},(∀ y∈l,0≤y)→x∈l→x≤l.sum
 | y :: l,x,h,hx=>by
   have h1:=qW fun z hz=>h z (List.mem_cons_of_mem y hz)
   have h2:=h y List.mem_cons_self
   rw [List.sum_cons]
   rcases List.mem_cons.mp hx with e | e
   · omega
   · have:=mJ (fun z hz=>h z (List.mem_cons_of_mem y hz)) e
     omega
theorem lR:∀ {l:List Int} {b:Int},(∀ y∈l,y≤b)→l.sum≤l.length * b
 | [],b,_=>by simp
 | y :: l,b,h=>by
   have h1:=lR fun z hz=>h z (List.mem_cons_of_mem y hz)
   have h2:=h y List.mem_cons_self
   rw [List.sum_cons,List.length_cons]
   have e:(((l.length + 1:Nat):Int)) * b=l.length * b + b:=by rw [show ((l.length + 1:Nat):Int)=(l.length:Int) + 1 from rfl,Int.add_mul,Int.one_mul]
   omega
/-- whole numbers as shares,and what they are worth -/
theorem j9 {m:Int} {xs:List Int} {P:Int→Int} (xl:(xs.length:Int)=m):aA ((xs.map fun x=>(x,(1:Int))).zip ((below m.toNat).map P)) (fun z=>(z.1.1:Rat) / z.1.2 / z.2)=wth m P xs:=by
 rw [zY (S:=fun u=>((xs.getD u.toNat 0:Int):Rat)) (by rw [List.length_map]; exact xl)]
 · rfl
 · intro i f hf
   rw [List.getElem?_map] at hf
   obtain ⟨x,hx,rfl⟩:=Option.map_eq_some_iff.mp hf
   show (x:Rat) / ((1:Int):Rat)=((xs.getD (i:Int).toNat 0:Int):Rat)
   rw [Int.toNat_natCast,List.getD,hx]
   show (x:Rat) / (1:Rat)=(x:Rat)
   grind
def fo (T:Txt K mg):Sp:=fun vs H Q _=>∃ (p a t:Addr) (m r:Int) (ps:List Addr) (rs:List Road) (xs:List Int),vs=[.ref p,.ref a,.int r]∧WebAt T.Web H p m t ps rs∧m≤6∧H a=some (.lst (xs.map V.int))∧bw m xs=true∧(∀ x∈xs,x≤10 ^ 60)∧(0≤r∧r < m)∧∀ H',Same H H'→Q (.bl true) H'
abbrev au:Stmt:=top 68
theorem sc_law_worths_right:FnScope ["web","laying","r","shares","behind_v","place"] ["web","laying","r"] (aa au):=FnScope.of (by kernel_rfl)
theorem bh:NmL (aa au) "web":=.of (by kernel_rfl)
theorem cf:NmL (aa au) "laying":=.of (by kernel_rfl)
theorem dy:NmL (aa au) "r":=.of (by kernel_rfl)
theorem n_law_worths_right__shares:NmL (aa au) "shares":=.of (by kernel_rfl)
theorem n_law_worths_right__behind_v:NmL (aa au) "behind_v":=.of (by kernel_rfl)
theorem n_law_worths_right__place:NmL (aa au) "place":=.of (by kernel_rfl)
theorem n_law_worths_right__law_shares:NmG (aa au) "_law_shares":=.of (by kernel_rfl)
theorem n_law_worths_right__walked:NmG (aa au) "walked":=.of (by kernel_rfl)
theorem n_law_worths_right__bring:NmG (aa au) "bring":=.of (by kernel_rfl)
theorem n_law_worths_right__range:NmG (aa au) "range":=.of (by kernel_rfl)
theorem n_law_worths_right__less:NmG (aa au) "less":=.of (by kernel_rfl)
theorem n_law_worths_right__worth:NmG (aa au) "worth":=.of (by kernel_rfl)
theorem n_law_worths_right__fraction:NmG (aa au) "fraction":=.of (by kernel_rfl)
theorem n_law_worths_right__most:NmG (aa au) "most":=.of (by kernel_rfl)

theorem jD (T:Txt K mg) (hq:aJ (CXe P w)) {f:Addr} {fd:FuncData} (D:Df K mg "_law_worths_right" au ["web","laying","r"] f fd) {f_law_shares:Addr} {fd_law_shares:FuncData} (D_law_shares:Df K mg "_law_shares" cq ["numbers"] f_law_shares fd_law_shares) (G_law_shares:FnOk P w K mg base (CXe P w) 3 f_law_shares fd_law_shares ["numbers"] (ju T)) {f_bring:Addr} {fd_bring:FuncData} (D_bring:Df K mg "bring" bT ["web","laying","r"] f_bring fd_bring) (G_bring:FnOk P w K mg base (CXe P w) 9 f_bring fd_bring ["web","laying","r"] (qB T)) {f_fraction:Addr} {fd_fraction:FuncData} (D_fraction:Df K mg "fraction" be ["top","bottom"] f_fraction fd_fraction) (G_fraction:FnOk P w K mg base (CXe P w) 2 f_fraction fd_fraction ["top","bottom"] (cM T)) {f_less:Addr} {fd_less:FuncData} (D_less:Df K mg "less" dM ["one","two"] f_less fd_less) (G_less:FnOk P w K mg base (CXe P w) 1 f_less fd_less ["one","two"] (kf T)) {f_most:Addr} {fd_most:FuncData} (D_most:Df K mg "most" dq ["web","laying","r"] f_most fd_most) (G_most:FnOk P w K mg base (CXe P w) 9 f_most fd_most ["web","laying","r"] (nF T)) {f_walked:Addr} {fd_walked:FuncData} (D_walked:Df K mg "walked" cH ["web","laying","steps"] f_walked fd_walked) (G_walked:FnOk P w K mg base (CXe P w) 7 f_walked fd_walked ["web","laying","steps"] (oB T)) {f_worth:Addr} {fd_worth:FuncData} (D_worth:Df K mg "worth" cP ["web","shares","v"] f_worth fd_worth) (G_worth:FnOk P w K mg base (CXe P w) 9 f_worth fd_worth ["web","shares","v"] (qO T)):FnOk P w K mg base (CXe P w) 10 f fd ["web","laying","r"] (fo T):=by
 refine D.F.okC sc_law_worths_right (fun vs H Q E h=>?_) (fun cdv A outer s H vs Q E hr h=>?_)
 · obtain ⟨p,a,t,m,r,ps,rs,xs,rfl,_⟩:=h
   rfl
 · obtain ⟨p,a,t,m,r,ps,rs,xs,rfl,W,m6,ha,fx,xb,rr,k⟩:=h
   obtain ⟨r0,r1⟩:=rr
   have g:=W.go
   have m1:=g.m1
   have xl:=sG fx
   have x0:=vC fx
   obtain ⟨par,dep,R⟩:=fW g r0 r1
   refine ⟨_,(am (aD (i:=3) sc_law_worths_right.nd rfl (Or.inl n_law_worths_right__shares.l) (ao G_law_shares (hr.mono (by decide)) n_law_worths_right__law_shares.g D_law_shares.m D_law_shares.F.kp D_law_shares.b .nil (ay hq) (ag (pvl 1 cf) ah) (hdb:=n_law_worths_right__law_shares.d))) (am (aD (i:=4) sc_law_worths_right.nd rfl (Or.inl n_law_worths_right__behind_v.l) (ao G_law_shares (hr.mono (by decide)) n_law_worths_right__law_shares.g D_law_shares.m D_law_shares.F.kp D_law_shares.b .nil (ay hq) (ag (ao G_walked (hr.mono (by decide)) n_law_worths_right__walked.g D_walked.m D_walked.F.kp D_walked.b .nil (ay hq) (ag (pvl 0 bh) (ag (pvl 1 cf) (ag (ao G_bring (hr.mono (by decide)) n_law_worths_right__bring.g D_bring.m D_bring.F.kp D_bring.b .nil (ay hq) (ag (pvl 0 bh) (ag (pvl 1 cf) (ag (pvl 2 dy) ah))) (hdb:=n_law_worths_right__bring.d)) ah))) (hdb:=n_law_worths_right__walked.d)) ah) (hdb:=n_law_worths_right__law_shares.d))) (am (cS PassesOwn.never rfl (gh n_law_worths_right__range.g T.range (ag (dZ  (pvl 0 bh) rfl) ah)) (aL (i:=5) sc_law_worths_right.nd rfl (Or.inl n_law_worths_right__place.l)) (ap (bW (fh (ao G_less (hr.mono (by decide)) n_law_worths_right__less.g D_less.m D_less.F.kp D_less.b .nil (ay hq) (ag (ao G_worth (hr.mono (by decide)) n_law_worths_right__worth.g D_worth.m D_worth.F.kp D_worth.b .nil (ay hq) (ag (pvl 0 bh) (ag (pvl 3 n_law_worths_right__shares) (ag (pvl 5 n_law_worths_right__place) ah))) (hdb:=n_law_worths_right__worth.d)) (ag (ao G_worth (hr.mono (by decide)) n_law_worths_right__worth.g D_worth.m D_worth.F.kp D_worth.b .nil (ay hq) (ag (pvl 0 bh) (ag (pvl 4 n_law_worths_right__behind_v) (ag (pvl 5 n_law_worths_right__place) ah))) (hdb:=n_law_worths_right__worth.d)) ah)) (hdb:=n_law_worths_right__less.d))) (ap (aG pf)) bj))) (ap (aG (vM (ao G_less (hr.mono (by decide)) n_law_worths_right__less.g D_less.m D_less.F.kp D_less.b .nil (ay hq) (ag (ao G_worth (hr.mono (by decide)) n_law_worths_right__worth.g D_worth.m D_worth.F.kp D_worth.b .nil (ay hq) (ag (pvl 0 bh) (ag (pvl 3 n_law_worths_right__shares) (ag (pvl 2 dy) ah))) (hdb:=n_law_worths_right__worth.d)) (ag (ao G_fraction (hr.mono (by decide)) n_law_worths_right__fraction.g D_fraction.m D_fraction.F.kp D_fraction.b .nil (ay hq) (ag (ao G_most (hr.mono (by decide)) n_law_worths_right__most.g D_most.m D_most.F.kp D_most.b .nil (ay hq) (ag (pvl 0 bh) (ag (pvl 1 cf) (ag (pvl 2 dy) ah))) (hdb:=n_law_worths_right__most.d)) (ag ak ah)) (hdb:=n_law_worths_right__fraction.d)) ah)) (hdb:=n_law_worths_right__less.d)))))))),?_⟩
   rw [show L2.start ["web","laying","r","shares","behind_v","place"] [V.ref p,V.ref a,V.int r]=[some (V.ref p),some (V.ref a),some (V.int r),none,none,none] from rfl]
   refine dj fun N1 h1=>?_
   walk_at "rd"
   refine ⟨a,true,xs,rfl,SqL.of ha,by omega,fun la qa H1 na s1 ea fa=>h1 _ _ (dj fun N2 h2=>?_)⟩
   walk_at "rd"
   refine ⟨p,a,t,true,m,ps,rs,xs,r,rfl,W.same s1,SqL.of (s1 _ _ ha),by omega,fun _ _ _=>⟨par,dep,R,fun lb qb tl H2 et nb s2 eb ba O=>?_⟩,(fun z=>by rw [fx] at z; cases z),fun _ z=>absurd ⟨r0,r1⟩ z⟩
   have s12:=s1.trans s2
   have sta:StepsAt H2 qb (cF m rs r par dep (fun v=>xs.getD v.toNat 0) tl.reverse):=rP (R':=fun q s=>H2 q=some (.tup (vSt s))) (f:=fun v=>(v,par v,tms m rs r par dep (fun v=>xs.getD v.toNat 0) v)) (fun q v h=>h) ba
   have bca:=jH g R x0 xl O
   have ll:=lr g R r0 r1
   rw [et,List.length_cons] at ll
   have bsl:(cF m rs r par dep (fun v=>xs.getD v.toNat 0) tl.reverse).length≤24:=by
     unfold cF aO
     rw [List.length_map]
     refine Nat.le_trans (List.length_filter_le _ _) ?_
     rw [List.length_reverse]
     omega
   have cm:=Come.all g xl bca _ (Nat.le_refl _)
   have zs:=cm.sum_le g xl
   have zn:=cm.nn g xl x0
   have mono:=fun (v:Int) (par':Int→Int) (dep':Int→Nat) (R':Rooted m rs v par' dep')=>rZ (P:=prc rs par' dep' true) g R' (fun c c0 c1=>(gU (to:=true) g R' _ rfl c0 c1).1) (fun c c0 c1 cr=>by rw [gi R' c0 c1 cr]; rfl) xl bca _ (Nat.le_refl _)
   refine ⟨p,a,lb,t,true,true,m,ps,qb,rs,xs,_,rfl,W.same s12,s12 _ _ ha,fx,eb,sta,by omega,bca,fun le H3 s3 ee=>?_⟩
   have s13:=s12.trans s3
   have zl:((dz rs xs (cF m rs r par dep (fun v=>xs.getD v.toNat 0) tl.reverse) (cF m rs r par dep (fun v=>xs.getD v.toNat 0) tl.reverse).length).length:Int)=m:=by rw [lQ]; exact xl
   have bend:=(jW g R r0 r1 x0 xl O rfl).1
   clear sta ba bsl cm
   generalize dz rs xs (cF m rs r par dep (fun v=>xs.getD v.toNat 0) tl.reverse) (cF m rs r par dep (fun v=>xs.getD v.toNat 0) tl.reverse).length=es at ee zs zn mono zl bend
   refine ⟨le,false,es,rfl,SqT.of ee,by omega,fun lf qf H4 nf s4 ef ff=>h2 _ _ (dj fun N3 h3=>?_)⟩
   have s14:=s13.trans s4
   have s24:=s2.trans (s3.trans s4)
   have xsum:xs.sum≤6 * 10 ^ 60:=by
     have:=lR xb
     have h2:(xs.length:Int) * 10 ^ 60≤6 * 10 ^ 60:=Int.mul_le_mul_of_nonneg_right (by omega) (by decide)
     omega
   have fb1:∀ f∈xs.map fun x=>(x,(1:Int)),FrB 210 f:=fun f hf=>by
     obtain ⟨x,hx,rfl⟩:=List.mem_map.mp hf
     have h1:=x0 x hx
     have h2:=xb x hx
     exact ⟨Int.one_pos,Nat.lt_of_lt_of_le (show x.natAbs < 2 ^ 203 by omega) (Nat.pow_le_pow_right (by decide) (by decide)),Nat.one_lt_two_pow (by decide)⟩
   have fb2:∀ f∈es.map fun x=>(x,(1:Int)),FrB 210 f:=fun f hf=>by
     obtain ⟨x,hx,rfl⟩:=List.mem_map.mp hf
     have h1:=zn x hx
     have h2:=mJ zn hx
     exact ⟨Int.one_pos,Nat.lt_of_lt_of_le (show x.natAbs < 2 ^ 203 by omega) (Nat.pow_le_pow_right (by decide) (by decide)),Nat.one_lt_two_pow (by decide)⟩
   have W4:=W.same s14
   have ea4:=s24 _ _ ea
   have fa4:=FrsAt.same s24 fa
   obtain ⟨dx,ob⟩:=W4.ob
   walk_at "rd"
   refine ⟨T.Web,dx,_,ob,T.cl_Web,T.n_many,_,dh m t,m,rfl,by omega,by omega,?_⟩
   refine tU (fun i σ H5=>Same H4 H5∧∃ v5,σ=[some (V.ref p),some (V.ref a),some (V.int r),some (V.ref la),some (V.ref lf),v5]) ⟨Same.refl _,_,rfl⟩ ?_ ?_
   · rintro i σ H5 N BB hBB hN hi ⟨s5,v5,rfl⟩
     obtain ⟨pl,hpl⟩:∃ pl,(0:Int) + (i:Int)=pl:=⟨_,rfl⟩
     have p0:0≤pl:=by omega
     have p1:pl < m:=by omega
     obtain ⟨par',dep',R'⟩:=fW g p0 p1
     refine hBB _ _ ?_
     rw [hpl]
     walk_at "rd"
     refine ⟨p,la,t,true,m,ps,qa,rs,_,pl,rfl,W4.same s5,s5 _ _ ea4,FrsAt.same s5 fa4,fb1,by rw [List.length_map]; exact xl,m6,fun _ _=>⟨par',dep',R',fun u v lw H6 v0 uv ub vb su nw s6 ew=>?_⟩,fun z=>absurd ⟨p0,p1⟩ z⟩
     have s56:=s5.trans s6
     refine ⟨p,lf,t,true,m,ps,qf,rs,_,pl,rfl,W4.same s56,s56 _ _ ef,FrsAt.same s56 ff,fb2,by rw [List.length_map]; exact zl,m6,fun _ _=>⟨par',dep',R',fun u' v' lw' H7 v0' uv' ub' vb' su' nw' s7 ew'=>?_⟩,fun z=>absurd ⟨p0,p1⟩ z⟩
     rw [j9 xl] at su
     rw [j9 zl] at su'
     refine ⟨lw,lw',(u,v),(u',v'),2500,rfl,SqT.of (s7 _ _ ew),SqT.of ew',⟨v0,ub,vb⟩,⟨v0',ub',vb'⟩,by decide,⟨_,rfl,?_⟩⟩
     have mm:=mono pl par' dep' R'
     rw [if_neg (by
       rw [decide_eq_true_eq,lG (f:=(u,v)) (g:=(u',v')) v0 v0']
       show ¬ ((u:Rat) / v < (u':Rat) / v')
       rw [su,su']
       exact Rat.not_lt.mpr mm)]
     exact hN _ _ ⟨s56.trans s7,_,rfl⟩
   · rintro BB σ H5 hBB ⟨s5,v5,rfl⟩
     refine hBB _ _ (h3 _ _ ?_)
     walk_at "rd"
     refine ⟨p,la,t,true,m,ps,qa,rs,_,r,rfl,W4.same s5,s5 _ _ ea4,FrsAt.same s5 fa4,fb1,by rw [List.length_map]; exact xl,m6,fun _ _=>⟨par,dep,R,fun u v lw H6 v0 uv ub vb su nw s6 ew=>?_⟩,fun z=>absurd ⟨r0,r1⟩ z⟩
     have s46:=s5.trans s6
     refine ⟨p,a,t,true,m,ps,rs,xs,r,rfl,W4.same s46,SqL.of ((s14.trans s46) _ _ ha),by omega,fun _ _ _=>⟨par,dep,R,fun H7 s7=>?_⟩,(fun z=>by rw [fx] at z; cases z),fun _ z=>absurd ⟨r0,r1⟩ z⟩
     refine ⟨_,1,rfl,by decide,Nat.one_lt_two_pow (by decide),fun p' q' lz fr nz=>?_⟩
     obtain ⟨e1,rfl⟩:=kh fr
     have s8:=Same.new (.tup [V.int p',V.int 1]) nz
     have gm:p'≤6 * 10 ^ 60∧0≤p':=by
       rw [e1,← bend]
       refine ⟨?_,ni zn _⟩
       have:es.getD r.toNat 0∈es:=by
         rw [List.getD,List.getElem?_eq_getElem (show r.toNat < es.length by omega)]
         exact List.getElem_mem _
       have:=mJ zn this
       omega
     have pb:p'.natAbs < 2 ^ 2500:=Nat.lt_of_lt_of_le (show p'.natAbs < 2 ^ 203 by omega) (Nat.pow_le_pow_right (by decide) (by decide))
     refine ⟨lw,lz,(u,v),(p',1),2500,rfl,SqT.of (s8 _ _ (s7 _ _ ew)),SqT.of aj,⟨v0,ub,vb⟩,⟨Int.one_pos,pb,Nat.one_lt_two_pow (by decide)⟩,by decide,⟨_,rfl,?_⟩⟩
     rw [j9 xl] at su
     have wm:=pC (P:=prc rs par dep true) g R r0 r1 (fun c c0 c1=>(gU (to:=true) g R _ rfl c0 c1).1) (fC R) (fun c c0 c1 cr=>by rw [gi R c0 c1 cr]; rfl) xl x0 O
     rw [← e1,← su] at wm
     have:decide (u * 1 < p' * v)=false:=by
       rw [decide_eq_false_iff_not,lG (f:=(u,v)) (g:=(p',1)) v0 Int.one_pos]
       show ¬ ((u:Rat) / v < (p':Rat) / ((1:Int):Rat))
       have e2:(p':Rat) / ((1:Int):Rat)=(p':Rat):=by
         show (p':Rat) / (1:Rat)=_
         grind
       rw [e2]
       exact Rat.not_lt.mpr wm
     show Q (.bl (!decide (u * 1 < p' * v))) _
     rw [this]
     exact k _ ((s14.trans s46).trans (s7.trans s8))
/-! #### plus -/
def si (T:Txt K mg):Sp:=fun vs H Q _=>∃ (a b:Addr) (f g:Int × Int) (n:Nat),vs=[.ref a,.ref b]∧SqT K H a [.int f.1,.int f.2]∧SqT K H b [.int g.1,.int g.2]∧FrB n f∧FrB n g∧n≤1000 ∧
 ∀ (p q:Int) (r:Addr) (H':Hp),Frc (f.1 * g.2 + g.1 * f.2) (f.2 * g.2) p q→H r=none→Same H H'→H' r=some (.tup [.int p,.int q])→Q (.ref r) H'
abbrev d4:Stmt:=top 3
theorem AD:FnScope ["one","two"] ["one","two"] (aa d4):=FnScope.of (by kernel_rfl)
theorem rD:NmL (aa d4) "one":=.of (by kernel_rfl)
theorem rG:NmL (aa d4) "two":=.of (by kernel_rfl)
theorem n_plus__sum_up:NmG (aa d4) "sum_up":=.of (by kernel_rfl)

theorem AA (T:Txt K mg) (hq:aJ (CXe P w)) {f:Addr} {fd:FuncData} (D:Df K mg "plus" d4 ["one","two"] f fd) {f_sum_up:Addr} {fd_sum_up:FuncData} (D_sum_up:Df K mg "sum_up" bH ["some"] f_sum_up fd_sum_up) (G_sum_up:FnOk P w K mg base (CXe P w) 3 f_sum_up fd_sum_up ["some"] (eP T)):FnOk P w K mg base (CXe P w) 4 f fd ["one","two"] (si T):=by
 refine D.F.okC AD (fun vs H Q E h=>?_) (fun cdv A outer s H vs Q E hr h=>?_)
 · obtain ⟨a,b,f,g,n,rfl,_⟩:=h
   rfl
 · obtain ⟨a,b,f,g,n,rfl,ha,hb,fb,gb,n1,k⟩:=h
   refine ⟨_,(ap (aG (ao G_sum_up (hr.mono (by decide)) n_plus__sum_up.g D_sum_up.m D_sum_up.F.kp D_sum_up.b .nil (ay hq) (ag (dc (ag (pvl 0 rD) (ag (pvl 1 rG) ah))) ah) (hdb:=n_plus__sum_up.d)))),?_⟩
   rw [show L2.start ["one","two"] [V.ref a,V.ref b]=[some (V.ref a),some (V.ref b)] from rfl]
   walk_at "rd"
   refine ⟨bN (by simp),fun l nl=>?_⟩
   have s1:=Same.new (.lst [V.ref a,V.ref b]) nl
   refine ⟨l,true,[a,b],[f,g],n,rfl,aj,.cons (Same.tup s1 ha) (.cons (Same.tup s1 hb) .nil),fun x hx=>?_,by simp; omega,n1,by simp,fun p q r H' fr nr s' e=>k p q r H' ?_ (s1.free nr) (s1.trans s') e⟩
   · simp only [List.mem_cons,List.mem_nil_iff,or_false] at hx
     rcases hx with rfl | rfl
     · exact fb
     · exact gb
   · have e1:(gK [f,g] (0,1)).1=f.1 * g.2 + g.1 * f.2:=by
       show (0 * f.2 + f.1 * 1) * g.2 + g.1 * (1 * f.2)=_
       rw [Int.zero_mul,Int.zero_add,Int.mul_one,Int.one_mul]
     have e2:(gK [f,g] (0,1)).2=f.2 * g.2:=by
       show 1 * f.2 * g.2=_
       rw [Int.one_mul]
     rw [e1,e2] at fr
     exact fr
/-! #### minus -/
def k8 (T:Txt K mg):Sp:=fun vs H Q _=>∃ (a b:Addr) (f g:Int × Int) (n:Nat),vs=[.ref a,.ref b]∧SqT K H a [.int f.1,.int f.2]∧SqT K H b [.int g.1,.int g.2]∧FrB n f∧FrB n g∧n≤1000 ∧
 ∀ (p q:Int) (r:Addr) (H':Hp),Frc (f.1 * g.2 - g.1 * f.2) (f.2 * g.2) p q→H r=none→Same H H'→H' r=some (.tup [.int p,.int q])→Q (.ref r) H'
abbrev c6:Stmt:=top 4
theorem yS:FnScope ["one","two"] ["one","two"] (aa c6):=FnScope.of (by kernel_rfl)
theorem pS:NmL (aa c6) "one":=.of (by kernel_rfl)
theorem jI:NmL (aa c6) "two":=.of (by kernel_rfl)
theorem n_minus__plus:NmG (aa c6) "plus":=.of (by kernel_rfl)

theorem yB (T:Txt K mg) (hq:aJ (CXe P w)) {f:Addr} {fd:FuncData} (D:Df K mg "minus" c6 ["one","two"] f fd) {f_plus:Addr} {fd_plus:FuncData} (D_plus:Df K mg "plus" d4 ["one","two"] f_plus fd_plus) (G_plus:FnOk P w K mg base (CXe P w) 4 f_plus fd_plus ["one","two"] (si T)):FnOk P w K mg base (CXe P w) 5 f fd ["one","two"] (k8 T):=by
 refine D.F.okC yS (fun vs H Q E h=>?_) (fun cdv A outer s H vs Q E hr h=>?_)
 · obtain ⟨a,b,f,g,n,rfl,_⟩:=h
   rfl
 · obtain ⟨a,b,f,g,n,rfl,ha,hb,fb,gb,n1,k⟩:=h
   refine ⟨_,(ap (aG (ao G_plus (hr.mono (by decide)) n_minus__plus.g D_plus.m D_plus.F.kp D_plus.b .nil (ay hq) (ag (pvl 0 pS) (ag (fk (ag (mK jR (aH aQ (pvl 1 jI) ak (fun _ _=>rfl))) (ag (aH aQ (pvl 1 jI) ak (fun _ _=>rfl)) ah))) ah)) (hdb:=n_minus__plus.d)))),?_⟩
   rw [show L2.start ["one","two"] [V.ref a,V.ref b]=[some (V.ref a),some (V.ref b)] from rfl]
   walk_at "rd"
   refine eI hb rfl ?_
   refine ⟨_,rfl,eI hb rfl ⟨bN (by simp),fun l nl=>?_⟩⟩
   have s1:=Same.new (.tup [V.int (-g.1),V.int g.2]) nl
   refine ⟨a,l,f,(-g.1,g.2),n,rfl,Same.tup s1 ha,SqT.of aj,fb,⟨gb.1,by show (-g.1).natAbs < _; rw [Int.natAbs_neg]; exact gb.2.1,gb.2.2⟩,n1,fun p q r H' fr nr s' e=>k p q r H' ?_ (s1.free nr) (s1.trans s') e⟩
   rw [show f.1 * g.2 - g.1 * f.2=f.1 * g.2 + -g.1 * f.2 by rw [Int.neg_mul]; omega]
   exact fr
/-! #### road_part -/
def gH (T:Txt K mg):Sp:=fun vs H Q _=>∃ (i j:Int),vs=[.int i,.int j]∧(2≤i∧i≤1000000)∧(2≤j∧j≤1000000)∧∀ (p q:Int) (r:Addr),Frc (i - 1) (i * j - 1) p q→H r=none→Q (.ref r) (upd H r (.tup [.int p,.int q]))
abbrev bP:Stmt:=top 44
theorem qD:FnScope ["one","other"] ["one","other"] (aa bP):=FnScope.of (by kernel_rfl)
theorem gW:NmL (aa bP) "one":=.of (by kernel_rfl)
theorem jP:NmL (aa bP) "other":=.of (by kernel_rfl)
theorem n_road_part__fraction:NmG (aa bP) "fraction":=.of (by kernel_rfl)

theorem qo (T:Txt K mg) (hq:aJ (CXe P w)) {f:Addr} {fd:FuncData} (D:Df K mg "road_part" bP ["one","other"] f fd) {f_fraction:Addr} {fd_fraction:FuncData} (D_fraction:Df K mg "fraction" be ["top","bottom"] f_fraction fd_fraction) (G_fraction:FnOk P w K mg base (CXe P w) 2 f_fraction fd_fraction ["top","bottom"] (cM T)):FnOk P w K mg base (CXe P w) 3 f fd ["one","other"] (gH T):=by
 refine D.F.okC qD (fun vs H Q E h=>?_) (fun cdv A outer s H vs Q E hr h=>?_)
 · obtain ⟨i,j,rfl,_⟩:=h
   rfl
 · obtain ⟨i,j,rfl,hi,hj,k⟩:=h
   refine ⟨_,(ap (aG (ao G_fraction (hr.mono (by decide)) n_road_part__fraction.g D_fraction.m D_fraction.F.kp D_fraction.b .nil (ay hq) (ag (ax j6 (pvl 0 gW) ak) (ag (ax j6 (ax eT (pvl 0 gW) (pvl 1 jP)) ak) ah)) (hdb:=n_road_part__fraction.d)))),?_⟩
   rw [show L2.start ["one","other"] [V.int i,V.int j]=[some (V.int i),some (V.int j)] from rfl]
   have ib:i.natAbs < 2 ^ 20:=by omega
   have jb:j.natAbs < 2 ^ 20:=by omega
   have m4:4≤i * j:=by have:=Int.mul_le_mul hi.1 hj.1 (by decide) (by omega); omega
   have mb:(i * j).natAbs < 2 ^ 40:=cT (m:=20) (n:=20) ib jb
   walk_at "rd"
   exact ⟨fT (bR ib (by decide)) (bR jb (by decide)),i - 1,i * j - 1,rfl,by omega,bR (m:=40) (by omega) (by decide),k⟩
/-! #### even_share -/
def jq (T:Txt K mg):Sp:=fun vs H Q _=>∃ (p t:Addr) (m:Int) (ps:List Addr) (rs:List Road) (u:Int),vs=[.ref p,.int u]∧WebAt T.Web H p m t ps rs∧0≤u∧u < m∧m≤8 ∧
 ∀ (f:Int × Int) (r:Addr) (H':Hp),FrB 340 f→f.1.gcd f.2=1→(f.1:Rat) / f.2=shr m rs (evp rs) u→H r=none→Same H H'→H' r=some (.tup [.int f.1,.int f.2])→Q (.ref r) H'
abbrev aW:Stmt:=top 41
theorem sc_even_share:FnScope ["web","place","near"] ["web","place"] (aa aW):=FnScope.of (by kernel_rfl)
theorem kz:NmC (aa aW) "web":=.of (by kernel_rfl)
theorem jC:NmC (aa aW) "place":=.of (by kernel_rfl)
theorem n_even_share__near:NmL (aa aW) "near":=.of (by kernel_rfl)
theorem n_even_share__neighbours:NmG (aa aW) "neighbours":=.of (by kernel_rfl)
theorem n_even_share__minus:NmG (aa aW) "minus":=.of (by kernel_rfl)
theorem n_even_share__ONE:NmG (aa aW) "ONE":=.of (by kernel_rfl)
theorem n_even_share__sum_up:NmG (aa aW) "sum_up":=.of (by kernel_rfl)

theorem oW (T:Txt K mg) (hq:aJ (CXe P w)) {f:Addr} {fd:FuncData} (D:Df K mg "even_share" aW ["web","place"] f fd) {f_minus:Addr} {fd_minus:FuncData} (D_minus:Df K mg "minus" c6 ["one","two"] f_minus fd_minus) (G_minus:FnOk P w K mg base (CXe P w) 5 f_minus fd_minus ["one","two"] (k8 T)) {f_neighbours:Addr} {fd_neighbours:FuncData} (D_neighbours:Df K mg "neighbours" aV ["web","a"] f_neighbours fd_neighbours) (G_neighbours:FnOk P w K mg base (CXe P w) 3 f_neighbours fd_neighbours ["web","a"] (dL T)) {f_road_part:Addr} {fd_road_part:FuncData} (D_road_part:Df K mg "road_part" bP ["one","other"] f_road_part fd_road_part) (G_road_part:FnOk P w K mg base (CXe P w) 3 f_road_part fd_road_part ["one","other"] (gH T)) {f_sum_up:Addr} {fd_sum_up:FuncData} (D_sum_up:Df K mg "sum_up" bH ["some"] f_sum_up fd_sum_up) (G_sum_up:FnOk P w K mg base (CXe P w) 3 f_sum_up fd_sum_up ["some"] (eP T)) {f_toll:Addr} {fd_toll:FuncData} (D_toll:Df K mg "toll" bU ["web","a","b"] f_toll fd_toll) (G_toll:FnOk P w K mg base (CXe P w) 3 f_toll fd_toll ["web","a","b"] (fF T)):FnOk P w K mg base (CXe P w) 6 f fd ["web","place"] (jq T):=by
 refine D.F.okC sc_even_share (fun vs H Q E h=>?_) (fun cdv A outer s H vs Q E hr h=>?_)
 · obtain ⟨p,t,m,ps,rs,u,rfl,_⟩:=h
   rfl
 · obtain ⟨p,t,m,ps,rs,u,rfl,W,u0,u1,m8,k⟩:=h
   have g:=W.go
   have m24:=g.m24
   refine ⟨_,(am (aD (i:=2) sc_even_share.nd rfl (Or.inl n_even_share__near.l) (ao G_neighbours (hr.mono (by decide)) n_even_share__neighbours.g D_neighbours.m D_neighbours.F.kp D_neighbours.b .nil (ay hq) (ag (pvc 0 kz) (ag (pvc 1 jC) ah)) (hdb:=n_even_share__neighbours.d))) (ap (aG (ao G_minus (hr.mono (by decide)) n_even_share__minus.g D_minus.m D_minus.F.kp D_minus.b .nil (ay hq) (ag (kt (v:=.ref T.ONE) n_even_share__ONE.g T.m_ONE rfl (hd:=n_even_share__ONE.d)) (ag (ao G_sum_up (hr.mono (by decide)) n_even_share__sum_up.g D_sum_up.m D_sum_up.F.kp D_sum_up.b .nil (ay hq) (ag (c8 rfl (d8 (Nc:=["other","web","place"]) 1 [0,1] (by decide +kernel) rfl (by decide +kernel) rfl (by show ∀ (y:Str × NameKind),y∈_→y.2=NameKind.free→(aa aW).names.lookup y.1=some NameKind.cell; decide +kernel) rfl (fun _ h=>cR h) (fun i hi=>match i,hi with | 0,_=>⟨"web",0,rfl,rfl,rfl,by decide +kernel⟩ | 1,_=>⟨"place",1,rfl,rfl,rfl,by decide +kernel⟩ | i + 2,hi=>absurd hi (by show ¬ i + 2 < 2; omega))) (gO true (pvl 2 n_even_share__near)) (fun _ _ _ _=>(aL (i:=0) (show (["other","web","place"]:List Str).Nodup from by decide +kernel) rfl (Or.inl rfl))) (fun _ _ _ _=>dP) (fun _ _ _ _=>(ao G_road_part (hr.mono (by decide)) (by rfl) D_road_part.m D_road_part.F.kp D_road_part.b .nil (ay hq) (ag (ao G_toll (hr.mono (by decide)) (by rfl) D_toll.m D_toll.F.kp D_toll.b .nil (ay hq) (ag (pv 1) (ag (pv 2) (ag (pv 0) ah)))) (ag (ao G_toll (hr.mono (by decide)) (by rfl) D_toll.m D_toll.F.kp D_toll.b .nil (ay hq) (ag (pv 1) (ag (pv 0) (ag (pv 2) ah)))) ah))))) ah) (hdb:=n_even_share__sum_up.d)) ah)) (hdb:=n_even_share__minus.d))))),?_⟩
   rw [show L2.start ["web","place","near"] [V.ref p,V.int u]=[some (V.ref p),some (V.int u),none] from rfl]
   refine dj fun N1 h1=>?_
   walk_at "rd"
   refine ⟨p,t,m,ps,rs,u,rfl,W,fun l H1 _ _ nl s1 el=>h1 _ _ ?_,fun z=>absurd ⟨u0,u1⟩ z⟩
   have W1:=W.same s1
   have nbl:(bM m rs u).length≤8:=by
     have:=List.length_filter_le (fun q=>decide (q∈bC rs u)) (below m.toNat)
     rw [aK] at this
     have e:(bM m rs u).length=((below m.toNat).filter fun q=>decide (q∈bC rs u)).length:=rfl
     omega
   walk_at "rd"
   refine ⟨⟨_,SqL.of el⟩,fun pc npc=>?_⟩
   refine eJ (K:=K) (c:=true) (xs:=(bM m rs u).map V.int) (fun i ys σ H3=>Same H1 H3∧H3 pc=some (.lst ys)∧∃ (qs:List Addr) (fs:List (Int × Int)) (v:Option V),ys=qs.map V.ref∧qs.length=i∧FrsAt H3 qs fs∧(∀ f∈fs,FrB 40 f)∧aA fs (fun f=>(f.1:Rat) / f.2)=aA ((bM m rs u).take i) (evp rs u)∧σ=[v,some (V.ref p),some (V.int u)]) ⟨Same.new _ npc,aj,[],[],_,rfl,rfl,.nil,(fun f hf=>nomatch hf),rfl,rfl⟩ (fun i ys σ H3 _ z=>SqL.of (z.1 _ _ el)) ?_ ?_
   · rintro i x ys σ H3 N hN hx ⟨s3,e3,qs,fs,v,rfl,qi,hf,fb,su,rfl⟩
     rw [List.getElem?_map] at hx
     obtain ⟨o,go,rfl⟩:=Option.map_eq_some_iff.mp hx
     have ad:=(cU g).mp (List.mem_of_getElem? go)
     obtain ⟨_,or,_⟩:=g.adj ad
     obtain ⟨b,eb,b2,b6⟩:=dE g ad
     obtain ⟨a,ea,a2,a6⟩:=dE g ad.symm
     have il:=(List.getElem?_eq_some_iff.mp go).1
     have W3:=W1.same s3
     walk_at "rd"
     refine ⟨p,t,m,ps,rs,u,o,rfl,W3,fun b' _ _ _ _ e=>?_,(fun z=>absurd ⟨⟨u0,u1⟩,or⟩ z),(fun _ _ _ _ z=>by rw [eb] at z; cases z)⟩
     rw [eb] at e
     cases e
     refine ⟨p,t,m,ps,rs,o,u,rfl,W3,fun a' _ _ _ _ e=>?_,(fun z=>absurd ⟨or,⟨u0,u1⟩⟩ z),(fun _ _ _ _ z=>by rw [ea] at z; cases z)⟩
     rw [ea] at e
     cases e
     refine ⟨b,a,rfl,⟨b2,b6⟩,⟨a2,a6⟩,fun x y rr fr nr=>?_⟩
     have s4:=Same.new (.tup [V.int x,V.int y]) nr
     have ba4:4≤b * a:=by have:=Int.mul_le_mul b2 a2 (by decide) (by omega); omega
     have bab:(b * a).natAbs < 2 ^ 40:=cT (m:=20) (n:=20) (by omega) (by omega)
     obtain ⟨l1,l2⟩:=eu fr (by omega)
     have npr:pc≠rr:=fun z=>by rw [z] at e3; rw [e3] at nr; cases nr
     refine ⟨s4 _ _ e3,bX (by rw [List.length_map]; omega),hN _ _ _ ⟨(s3.trans s4).put npc _,aj,qs ++ [rr],fs ++ [(x,y)],_,by rw [List.map_append]; rfl,by rw [List.length_append,qi]; rfl,?_,fun f hf=>?_,?_,rfl⟩⟩
     · refine fL (by rw [aq npr.symm]; exact aj) (Paired.imp' (fun q f h=>?_) hf)
       rw [aq (dk (s4 _ _ h) (s4 _ _ e3) (by intro z; cases z))]
       exact s4 _ _ h
     · rcases List.mem_append.mp hf with h | h
       · exact fb f h
       · rw [List.mem_singleton.mp h]
         exact ⟨fr.pos,by show x.natAbs < 2 ^ 40; omega,by show y.natAbs < 2 ^ 40; omega⟩
     · rw [List.take_succ,go,Option.toList_some,eM,eM,su,dN fr (by omega)]
       congr 1
       unfold evp aB
       rw [eb,ea]
       show ((b - 1:Int):Rat) / ((b * a - 1:Int):Rat)=_
       rw [Rat.intCast_sub,Rat.intCast_sub,Rat.intCast_mul]
       rfl
   · rintro ys σ H3 ⟨s3,e3,qs,fs,v,rfl,qi,hf,fb,su,rfl⟩
     rw [List.length_map,List.take_length] at su
     rw [List.length_map] at qi
     have fl:qs.length=fs.length:=Paired.length hf
     obtain ⟨mb1,mb2⟩:=fY (n:=40) (fs:=fs) (tb:=(0,1)) (b:=1) fb (by decide) (by decide)
     have mp:=gS (fs:=fs) (tb:=(0,1)) (fun f h=>(fb f h).1) (by decide)
     have mr:=gQ (fs:=fs) (tb:=(0,1)) (fun f h=>Int.ne_of_gt (fb f h).1) (by decide)
     refine ⟨pc,true,qs,fs,40,rfl,e3,FrsAt.k hf,fb,by omega,by decide,by omega,fun x y r1 H4 fr nr s4 er=>?_⟩
     obtain ⟨l1,l2⟩:=eu fr (Int.ne_of_gt mp)
     have rr:=dN fr (Int.ne_of_gt mp)
     have bx:x.natAbs < 2 ^ 335:=Nat.lt_of_le_of_lt l1 (Nat.lt_of_lt_of_le mb1 (Nat.pow_le_pow_right (by decide) (by omega)))
     have by':y.natAbs < 2 ^ 335:=Nat.lt_of_le_of_lt l2 (Nat.lt_of_lt_of_le mb2 (Nat.pow_le_pow_right (by decide) (by omega)))
     have yp:=fr.pos
     have one:(1:Int).natAbs < 2 ^ 335:=Nat.one_lt_two_pow (by decide)
     refine ⟨T.ONE,r1,(1,1),(x,y),335,rfl,T.k_ONE.sq,SqT.of er,⟨by decide,one,one⟩,⟨yp,bx,by'⟩,by decide,fun x2 y2 r2 H5 fr2 nr2 s5 er2=>k (x2,y2) r2 H5 ?_ fr2.one ?_ (s1.free (s3.free (s4.free nr2))) (s1.trans (s3.trans (s4.trans s5))) er2⟩
     · obtain ⟨a1,a2⟩:=eu fr2 (show (1:Int) * y≠0 by omega)
       have b1:(1 * y - x * 1:Int).natAbs < 2 ^ 336:=by
         have:=lA (a:=y) (b:=-x) (n:=335) by' (by rw [Int.natAbs_neg]; exact bx)
         rwa [show 1 * y - x * 1=y + -x by omega]
       refine ⟨fr2.pos,Nat.lt_of_le_of_lt a1 (bR b1 (by decide)),Nat.lt_of_le_of_lt a2 (bR (m:=335) (by rw [Int.one_mul]; exact by') (by decide))⟩
     · rw [dN fr2 (show (1:Int) * y≠0 by omega)]
       unfold shr
       rw [← su]
       have e0:(((0:Int):Rat) / ((1:Int):Rat))=0:=by rw [show ((0:Int):Rat)=0 from rfl,Rat.div_def,Rat.zero_mul]
       have n1:=cN (Int.ne_of_gt yp)
       show ((1 * y - x * 1:Int):Rat) / ((1 * y:Int):Rat)=_
       rw [Int.one_mul,Int.mul_one,Rat.intCast_sub]
       grind
/-! #### even_shares -/
def iJ (T:Txt K mg):Sp:=fun vs H Q _=>∃ (p t:Addr) (m:Int) (ps:List Addr) (rs:List Road),vs=[.ref p]∧WebAt T.Web H p m t ps rs∧m≤8 ∧
 ∀ (l:Addr) (qs:List Addr) (fs:List (Int × Int)) (H':Hp),H l=none→Same H H'→H' l=some (.lst (qs.map V.ref))→FrsAt H' qs fs→(fs.length:Int)=m→(∀ f∈fs,FrB 340 f∧f.1.gcd f.2=1)→(∀ (i:Nat) f,fs[i]?=some f→(f.1:Rat) / f.2=shr m rs (evp rs) i)→Q (.ref l) H'
abbrev bI:Stmt:=top 40
theorem mX:FnScope ["web"] ["web"] (aa bI):=FnScope.of (by kernel_rfl)
theorem jJ:NmC (aa bI) "web":=.of (by kernel_rfl)
theorem n_even_shares__range:NmG (aa bI) "range":=.of (by kernel_rfl)

theorem mM (T:Txt K mg) (hq:aJ (CXe P w)) {f:Addr} {fd:FuncData} (D:Df K mg "even_shares" bI ["web"] f fd) {f_even_share:Addr} {fd_even_share:FuncData} (D_even_share:Df K mg "even_share" aW ["web","place"] f_even_share fd_even_share) (G_even_share:FnOk P w K mg base (CXe P w) 6 f_even_share fd_even_share ["web","place"] (jq T)):FnOk P w K mg base (CXe P w) 7 f fd ["web"] (iJ T):=by
 refine D.F.okC mX (fun vs H Q E h=>?_) (fun cdv A outer s H vs Q E hr h=>?_)
 · obtain ⟨p,t,m,ps,rs,rfl,_⟩:=h
   rfl
 · obtain ⟨p,t,m,ps,rs,rfl,W,m8,k⟩:=h
   have g:=W.go
   have m24:=g.m24
   have m1:=g.m1
   refine ⟨_,(ap (aG (c8 rfl (d8 (Nc:=["place","web"]) 1 [0] (by decide +kernel) rfl (by decide +kernel) rfl (by show ∀ (y:Str × NameKind),y∈_→y.2=NameKind.free→(aa bI).names.lookup y.1=some NameKind.cell; decide +kernel) rfl (fun _ h=>cR h) (fun i hi=>match i,hi with | 0,_=>⟨"web",0,rfl,rfl,rfl,by decide +kernel⟩ | i + 1,hi=>absurd hi (by show ¬ i + 1 < 1; omega))) (gh n_even_shares__range.g T.range (ag (dZ  (pvc 0 jJ) rfl) ah)) (fun _ _ _ _=>(aL (i:=0) (show (["place","web"]:List Str).Nodup from by decide +kernel) rfl (Or.inl rfl))) (fun _ _ _ _=>dP) (fun _ _ _ _=>(ao G_even_share (hr.mono (by decide)) (by rfl) D_even_share.m D_even_share.F.kp D_even_share.b .nil (ay hq) (ag (pv 1) (ag (pv 0) ah))))))),?_⟩
   rw [show L2.start ["web"] [V.ref p]=[some (V.ref p)] from rfl]
   obtain ⟨dx,ob⟩:=W.ob
   walk_at "rd"
   refine ⟨T.Web,dx,_,ob,T.cl_Web,T.n_many,_,dh m t,m,rfl,by omega,by omega,fun pc nc=>?_⟩
   refine gC (fun i zs σ H3=>Same H H3∧H3 pc=some (.lst zs)∧∃ (qs:List Addr) (fs:List (Int × Int)) (v:Option V),zs=qs.map V.ref∧qs.length=i∧FrsAt H3 qs fs∧(∀ f∈fs,FrB 340 f∧f.1.gcd f.2=1)∧(∀ (i:Nat) f,fs[i]?=some f→(f.1:Rat) / f.2=shr m rs (evp rs) i)∧σ=[v,some (V.ref p)]) ⟨Same.new _ nc,aj,[],[],_,rfl,rfl,.nil,(fun f hf=>nomatch hf),(fun i f h=>by simp at h),rfl⟩ ?_ ?_
   · rintro i zs σ H3 N hN hi ⟨s3,e3,qs,fs,v,rfl,qi,hf,fb,fv,rfl⟩
     rw [Int.zero_add]
     have i0:(0:Int)≤(i:Int):=by omega
     have i1:(i:Int) < m:=by omega
     have fl:qs.length=fs.length:=Paired.length hf
     walk_at "rd"
     refine ⟨p,t,m,ps,rs,(i:Int),rfl,W.same s3,i0,i1,m8,fun f r H4 fB fg fr nr s4 er=>?_⟩
     have npr:r≠pc:=fun z=>by rw [z,e3] at nr; cases nr
     refine ⟨s4 _ _ e3,bX (by rw [List.length_map]; omega),hN _ _ _ ⟨(s3.trans s4).put nc _,aj,qs ++ [r],fs ++ [f],_,by rw [List.map_append]; rfl,by rw [List.length_append,qi]; rfl,?_,fun f' hf'=>?_,fun j f' hj=>?_,rfl⟩⟩
     · refine fL (by rw [aq npr]; exact er) (Paired.imp' (fun q f h=>?_) hf)
       rw [aq (dk (s4 _ _ h) (s4 _ _ e3) (by intro z; cases z))]
       exact s4 _ _ h
     · rcases List.mem_append.mp hf' with h | h
       · exact fb f' h
       · rw [List.mem_singleton.mp h]; exact ⟨fB,fg⟩
     · by_cases c:j < fs.length
       · rw [List.getElem?_append_left c] at hj
         exact fv j f' hj
       · have jl:=(List.getElem?_eq_some_iff.mp hj).1
         rw [List.length_append,List.length_singleton] at jl
         have:j=i:=by omega
         subst this
         rw [List.getElem?_append_right (by omega),show j - fs.length=0 by omega] at hj
         cases hj
         exact fr
   · rintro zs σ H3 ⟨s3,e3,qs,fs,v,rfl,qi,hf,fb,fv,rfl⟩
     have fl:qs.length=fs.length:=Paired.length hf
     exact k pc qs fs H3 nc s3 e3 hf (by omega) fb fv
/-! #### is_below -/
def kL (T:Txt K mg):Sp:=fun vs H Q _=>∃ (a:Addr) (f:Int × Int) (n:Nat),vs=[.ref a]∧SqT K H a [.int f.1,.int f.2]∧FrB n f∧1≤n∧n≤4000∧Q (.bl (decide (f.1 < 0))) H
abbrev ck:Stmt:=top 45
theorem rj:FnScope ["share"] ["share"] (aa ck):=FnScope.of (by kernel_rfl)
theorem kE:NmL (aa ck) "share":=.of (by kernel_rfl)
theorem n_is_below__less:NmG (aa ck) "less":=.of (by kernel_rfl)
theorem n_is_below__NOUGHT:NmG (aa ck) "NOUGHT":=.of (by kernel_rfl)

theorem rf (T:Txt K mg) (hq:aJ (CXe P w)) {f:Addr} {fd:FuncData} (D:Df K mg "is_below" ck ["share"] f fd) {f_less:Addr} {fd_less:FuncData} (D_less:Df K mg "less" dM ["one","two"] f_less fd_less) (G_less:FnOk P w K mg base (CXe P w) 1 f_less fd_less ["one","two"] (kf T)):FnOk P w K mg base (CXe P w) 2 f fd ["share"] (kL T):=by
 refine D.F.okC rj (fun vs H Q E h=>?_) (fun cdv A outer s H vs Q E hr h=>?_)
 · obtain ⟨a,f,n,rfl,_⟩:=h
   rfl
 · obtain ⟨a,f,n,rfl,ha,fb,n1,n2,k⟩:=h
   refine ⟨_,(ap (aG (ao G_less (hr.mono (by decide)) n_is_below__less.g D_less.m D_less.F.kp D_less.b .nil (ay hq) (ag (pvl 0 kE) (ag (kt (v:=.ref T.NOUGHT) n_is_below__NOUGHT.g T.m_NOUGHT rfl (hd:=n_is_below__NOUGHT.d)) ah)) (hdb:=n_is_below__less.d)))),?_⟩
   rw [show L2.start ["share"] [V.ref a]=[some (V.ref a)] from rfl]
   walk_at "rd"
   refine ⟨a,T.NOUGHT,f,(0,1),n,rfl,ha,T.k_NOUGHT.sq,fb,⟨by decide,Nat.two_pow_pos n,Nat.lt_of_lt_of_le (by decide) (Nat.pow_le_pow_right (n:=2) (by decide) n1)⟩,n2,?_⟩
   show Q (.bl (decide (f.1 * 1 < 0 * f.2))) H
   rw [Int.mul_one,Int.zero_mul]
   exact k
/-! #### second_share -/
def g6 (T:Txt K mg):Sp:=fun vs H Q _=>∃ (p t:Addr) (m:Int) (ps:List Addr) (rs:List Road) (u:Int),vs=[.ref p,.int u]∧WebAt T.Web H p m t ps rs∧0≤u∧u < m∧m≤8 ∧
 ∀ (f:Int × Int) (r:Addr) (H':Hp),FrB 340 f→f.1.gcd f.2=1→(f.1:Rat) / f.2=shr m rs (sep rs) u→H r=none→Same H H'→H' r=some (.tup [.int f.1,.int f.2])→Q (.ref r) H'
abbrev aP:Stmt:=top 43
theorem sc_second_share:FnScope ["web","place","near"] ["web","place"] (aa aP):=FnScope.of (by kernel_rfl)
theorem jF:NmC (aa aP) "web":=.of (by kernel_rfl)
theorem ir:NmC (aa aP) "place":=.of (by kernel_rfl)
theorem n_second_share__near:NmL (aa aP) "near":=.of (by kernel_rfl)
theorem n_second_share__neighbours:NmG (aa aP) "neighbours":=.of (by kernel_rfl)
theorem n_second_share__minus:NmG (aa aP) "minus":=.of (by kernel_rfl)
theorem n_second_share__ONE:NmG (aa aP) "ONE":=.of (by kernel_rfl)
theorem n_second_share__sum_up:NmG (aa aP) "sum_up":=.of (by kernel_rfl)

theorem mq (T:Txt K mg) (hq:aJ (CXe P w)) {f:Addr} {fd:FuncData} (D:Df K mg "second_share" aP ["web","place"] f fd) {f_minus:Addr} {fd_minus:FuncData} (D_minus:Df K mg "minus" c6 ["one","two"] f_minus fd_minus) (G_minus:FnOk P w K mg base (CXe P w) 5 f_minus fd_minus ["one","two"] (k8 T)) {f_neighbours:Addr} {fd_neighbours:FuncData} (D_neighbours:Df K mg "neighbours" aV ["web","a"] f_neighbours fd_neighbours) (G_neighbours:FnOk P w K mg base (CXe P w) 3 f_neighbours fd_neighbours ["web","a"] (dL T)) {f_road_part:Addr} {fd_road_part:FuncData} (D_road_part:Df K mg "road_part" bP ["one","other"] f_road_part fd_road_part) (G_road_part:FnOk P w K mg base (CXe P w) 3 f_road_part fd_road_part ["one","other"] (gH T)) {f_sum_up:Addr} {fd_sum_up:FuncData} (D_sum_up:Df K mg "sum_up" bH ["some"] f_sum_up fd_sum_up) (G_sum_up:FnOk P w K mg base (CXe P w) 3 f_sum_up fd_sum_up ["some"] (eP T)) {f_toll:Addr} {fd_toll:FuncData} (D_toll:Df K mg "toll" bU ["web","a","b"] f_toll fd_toll) (G_toll:FnOk P w K mg base (CXe P w) 3 f_toll fd_toll ["web","a","b"] (fF T)):FnOk P w K mg base (CXe P w) 6 f fd ["web","place"] (g6 T):=by
 refine D.F.okC sc_second_share (fun vs H Q E h=>?_) (fun cdv A outer s H vs Q E hr h=>?_)
 · obtain ⟨p,t,m,ps,rs,u,rfl,_⟩:=h
   rfl
 · obtain ⟨p,t,m,ps,rs,u,rfl,W,u0,u1,m8,k⟩:=h
   have g:=W.go
   have m24:=g.m24
   refine ⟨_,(am (aD (i:=2) sc_second_share.nd rfl (Or.inl n_second_share__near.l) (ao G_neighbours (hr.mono (by decide)) n_second_share__neighbours.g D_neighbours.m D_neighbours.F.kp D_neighbours.b .nil (ay hq) (ag (pvc 0 jF) (ag (pvc 1 ir) ah)) (hdb:=n_second_share__neighbours.d))) (ap (aG (ao G_minus (hr.mono (by decide)) n_second_share__minus.g D_minus.m D_minus.F.kp D_minus.b .nil (ay hq) (ag (kt (v:=.ref T.ONE) n_second_share__ONE.g T.m_ONE rfl (hd:=n_second_share__ONE.d)) (ag (ao G_sum_up (hr.mono (by decide)) n_second_share__sum_up.g D_sum_up.m D_sum_up.F.kp D_sum_up.b .nil (ay hq) (ag (c8 rfl (d8 (Nc:=["other","web","place"]) 1 [0,1] (by decide +kernel) rfl (by decide +kernel) rfl (by show ∀ (y:Str × NameKind),y∈_→y.2=NameKind.free→(aa aP).names.lookup y.1=some NameKind.cell; decide +kernel) rfl (fun _ h=>cR h) (fun i hi=>match i,hi with | 0,_=>⟨"web",0,rfl,rfl,rfl,by decide +kernel⟩ | 1,_=>⟨"place",1,rfl,rfl,rfl,by decide +kernel⟩ | i + 2,hi=>absurd hi (by show ¬ i + 2 < 2; omega))) (gO true (pvl 2 n_second_share__near)) (fun _ _ _ _=>(aL (i:=0) (show (["other","web","place"]:List Str).Nodup from by decide +kernel) rfl (Or.inl rfl))) (fun _ _ _ _=>dP) (fun _ _ _ _=>(ao G_road_part (hr.mono (by decide)) (by rfl) D_road_part.m D_road_part.F.kp D_road_part.b .nil (ay hq) (ag (ao G_toll (hr.mono (by decide)) (by rfl) D_toll.m D_toll.F.kp D_toll.b .nil (ay hq) (ag (pv 1) (ag (pv 0) (ag (pv 2) ah)))) (ag (ao G_toll (hr.mono (by decide)) (by rfl) D_toll.m D_toll.F.kp D_toll.b .nil (ay hq) (ag (pv 1) (ag (pv 2) (ag (pv 0) ah)))) ah))))) ah) (hdb:=n_second_share__sum_up.d)) ah)) (hdb:=n_second_share__minus.d))))),?_⟩
   rw [show L2.start ["web","place","near"] [V.ref p,V.int u]=[some (V.ref p),some (V.int u),none] from rfl]
   refine dj fun N1 h1=>?_
   walk_at "rd"
   refine ⟨p,t,m,ps,rs,u,rfl,W,fun l H1 _ _ nl s1 el=>h1 _ _ ?_,fun z=>absurd ⟨u0,u1⟩ z⟩
   have W1:=W.same s1
   have nbl:(bM m rs u).length≤8:=by
     have:=List.length_filter_le (fun q=>decide (q∈bC rs u)) (below m.toNat)
     rw [aK] at this
     have e:(bM m rs u).length=((below m.toNat).filter fun q=>decide (q∈bC rs u)).length:=rfl
     omega
   walk_at "rd"
   refine ⟨⟨_,SqL.of el⟩,fun pc npc=>?_⟩
   refine eJ (K:=K) (c:=true) (xs:=(bM m rs u).map V.int) (fun i ys σ H3=>Same H1 H3∧H3 pc=some (.lst ys)∧∃ (qs:List Addr) (fs:List (Int × Int)) (v:Option V),ys=qs.map V.ref∧qs.length=i∧FrsAt H3 qs fs∧(∀ f∈fs,FrB 40 f)∧aA fs (fun f=>(f.1:Rat) / f.2)=aA ((bM m rs u).take i) (sep rs u)∧σ=[v,some (V.ref p),some (V.int u)]) ⟨Same.new _ npc,aj,[],[],_,rfl,rfl,.nil,(fun f hf=>nomatch hf),rfl,rfl⟩ (fun i ys σ H3 _ z=>SqL.of (z.1 _ _ el)) ?_ ?_
   · rintro i x ys σ H3 N hN hx ⟨s3,e3,qs,fs,v,rfl,qi,hf,fb,su,rfl⟩
     rw [List.getElem?_map] at hx
     obtain ⟨o,go,rfl⟩:=Option.map_eq_some_iff.mp hx
     have ad:=(cU g).mp (List.mem_of_getElem? go)
     obtain ⟨_,or,_⟩:=g.adj ad
     obtain ⟨b,eb,b2,b6⟩:=dE g ad.symm
     obtain ⟨a,ea,a2,a6⟩:=dE g ad
     have il:=(List.getElem?_eq_some_iff.mp go).1
     have W3:=W1.same s3
     walk_at "rd"
     refine ⟨p,t,m,ps,rs,o,u,rfl,W3,fun b' _ _ _ _ e=>?_,(fun z=>absurd ⟨or,⟨u0,u1⟩⟩ z),(fun _ _ _ _ z=>by rw [eb] at z; cases z)⟩
     rw [eb] at e
     cases e
     refine ⟨p,t,m,ps,rs,u,o,rfl,W3,fun a' _ _ _ _ e=>?_,(fun z=>absurd ⟨⟨u0,u1⟩,or⟩ z),(fun _ _ _ _ z=>by rw [ea] at z; cases z)⟩
     rw [ea] at e
     cases e
     refine ⟨b,a,rfl,⟨b2,b6⟩,⟨a2,a6⟩,fun x y rr fr nr=>?_⟩
     have s4:=Same.new (.tup [V.int x,V.int y]) nr
     have ba4:4≤b * a:=by have:=Int.mul_le_mul b2 a2 (by decide) (by omega); omega
     have bab:(b * a).natAbs < 2 ^ 40:=cT (m:=20) (n:=20) (by omega) (by omega)
     obtain ⟨l1,l2⟩:=eu fr (by omega)
     have npr:pc≠rr:=fun z=>by rw [z] at e3; rw [e3] at nr; cases nr
     refine ⟨s4 _ _ e3,bX (by rw [List.length_map]; omega),hN _ _ _ ⟨(s3.trans s4).put npc _,aj,qs ++ [rr],fs ++ [(x,y)],_,by rw [List.map_append]; rfl,by rw [List.length_append,qi]; rfl,?_,fun f hf=>?_,?_,rfl⟩⟩
     · refine fL (by rw [aq npr.symm]; exact aj) (Paired.imp' (fun q f h=>?_) hf)
       rw [aq (dk (s4 _ _ h) (s4 _ _ e3) (by intro z; cases z))]
       exact s4 _ _ h
     · rcases List.mem_append.mp hf with h | h
       · exact fb f h
       · rw [List.mem_singleton.mp h]
         exact ⟨fr.pos,by show x.natAbs < 2 ^ 40; omega,by show y.natAbs < 2 ^ 40; omega⟩
     · rw [List.take_succ,go,Option.toList_some,eM,eM,su,dN fr (by omega)]
       congr 1
       unfold sep aB
       rw [eb,ea]
       show ((b - 1:Int):Rat) / ((b * a - 1:Int):Rat)=_
       rw [Rat.intCast_sub,Rat.intCast_sub,Rat.intCast_mul]
       rfl
   · rintro ys σ H3 ⟨s3,e3,qs,fs,v,rfl,qi,hf,fb,su,rfl⟩
     rw [List.length_map,List.take_length] at su
     rw [List.length_map] at qi
     have fl:qs.length=fs.length:=Paired.length hf
     obtain ⟨mb1,mb2⟩:=fY (n:=40) (fs:=fs) (tb:=(0,1)) (b:=1) fb (by decide) (by decide)
     have mp:=gS (fs:=fs) (tb:=(0,1)) (fun f h=>(fb f h).1) (by decide)
     have mr:=gQ (fs:=fs) (tb:=(0,1)) (fun f h=>Int.ne_of_gt (fb f h).1) (by decide)
     refine ⟨pc,true,qs,fs,40,rfl,e3,FrsAt.k hf,fb,by omega,by decide,by omega,fun x y r1 H4 fr nr s4 er=>?_⟩
     obtain ⟨l1,l2⟩:=eu fr (Int.ne_of_gt mp)
     have rr:=dN fr (Int.ne_of_gt mp)
     have bx:x.natAbs < 2 ^ 335:=Nat.lt_of_le_of_lt l1 (Nat.lt_of_lt_of_le mb1 (Nat.pow_le_pow_right (by decide) (by omega)))
     have by':y.natAbs < 2 ^ 335:=Nat.lt_of_le_of_lt l2 (Nat.lt_of_lt_of_le mb2 (Nat.pow_le_pow_right (by decide) (by omega)))
     have yp:=fr.pos
     have one:(1:Int).natAbs < 2 ^ 335:=Nat.one_lt_two_pow (by decide)
     refine ⟨T.ONE,r1,(1,1),(x,y),335,rfl,T.k_ONE.sq,SqT.of er,⟨by decide,one,one⟩,⟨yp,bx,by'⟩,by decide,fun x2 y2 r2 H5 fr2 nr2 s5 er2=>k (x2,y2) r2 H5 ?_ fr2.one ?_ (s1.free (s3.free (s4.free nr2))) (s1.trans (s3.trans (s4.trans s5))) er2⟩
     · obtain ⟨a1,a2⟩:=eu fr2 (show (1:Int) * y≠0 by omega)
       have b1:(1 * y - x * 1:Int).natAbs < 2 ^ 336:=by
         have:=lA (a:=y) (b:=-x) (n:=335) by' (by rw [Int.natAbs_neg]; exact bx)
         rwa [show 1 * y - x * 1=y + -x by omega]
       refine ⟨fr2.pos,Nat.lt_of_le_of_lt a1 (bR b1 (by decide)),Nat.lt_of_le_of_lt a2 (bR (m:=335) (by rw [Int.one_mul]; exact by') (by decide))⟩
     · rw [dN fr2 (show (1:Int) * y≠0 by omega)]
       unfold shr
       rw [← su]
       have e0:(((0:Int):Rat) / ((1:Int):Rat))=0:=by rw [show ((0:Int):Rat)=0 from rfl,Rat.div_def,Rat.zero_mul]
       have n1:=cN (Int.ne_of_gt yp)
       show ((1 * y - x * 1:Int):Rat) / ((1 * y:Int):Rat)=_
       rw [Int.one_mul,Int.mul_one,Rat.intCast_sub]
       grind
/-! #### second_shares -/
def gN (T:Txt K mg):Sp:=fun vs H Q _=>∃ (p t:Addr) (m:Int) (ps:List Addr) (rs:List Road),vs=[.ref p]∧WebAt T.Web H p m t ps rs∧m≤8 ∧
 ∀ (l:Addr) (qs:List Addr) (fs:List (Int × Int)) (H':Hp),H l=none→Same H H'→H' l=some (.lst (qs.map V.ref))→FrsAt H' qs fs→(fs.length:Int)=m→(∀ f∈fs,FrB 340 f∧f.1.gcd f.2=1)→(∀ (i:Nat) f,fs[i]?=some f→(f.1:Rat) / f.2=shr m rs (sep rs) i)→Q (.ref l) H'
abbrev bp:Stmt:=top 42
theorem lJ:FnScope ["web"] ["web"] (aa bp):=FnScope.of (by kernel_rfl)
theorem ja:NmC (aa bp) "web":=.of (by kernel_rfl)
theorem n_second_shares__range:NmG (aa bp) "range":=.of (by kernel_rfl)

theorem kY (T:Txt K mg) (hq:aJ (CXe P w)) {f:Addr} {fd:FuncData} (D:Df K mg "second_shares" bp ["web"] f fd) {f_second_share:Addr} {fd_second_share:FuncData} (D_second_share:Df K mg "second_share" aP ["web","place"] f_second_share fd_second_share) (G_second_share:FnOk P w K mg base (CXe P w) 6 f_second_share fd_second_share ["web","place"] (g6 T)):FnOk P w K mg base (CXe P w) 7 f fd ["web"] (gN T):=by
 refine D.F.okC lJ (fun vs H Q E h=>?_) (fun cdv A outer s H vs Q E hr h=>?_)
 · obtain ⟨p,t,m,ps,rs,rfl,_⟩:=h
   rfl
 · obtain ⟨p,t,m,ps,rs,rfl,W,m8,k⟩:=h
   have g:=W.go
   have m24:=g.m24
   have m1:=g.m1
   refine ⟨_,(ap (aG (c8 rfl (d8 (Nc:=["place","web"]) 1 [0] (by decide +kernel) rfl (by decide +kernel) rfl (by show ∀ (y:Str × NameKind),y∈_→y.2=NameKind.free→(aa bp).names.lookup y.1=some NameKind.cell; decide +kernel) rfl (fun _ h=>cR h) (fun i hi=>match i,hi with | 0,_=>⟨"web",0,rfl,rfl,rfl,by decide +kernel⟩ | i + 1,hi=>absurd hi (by show ¬ i + 1 < 1; omega))) (gh n_second_shares__range.g T.range (ag (dZ  (pvc 0 ja) rfl) ah)) (fun _ _ _ _=>(aL (i:=0) (show (["place","web"]:List Str).Nodup from by decide +kernel) rfl (Or.inl rfl))) (fun _ _ _ _=>dP) (fun _ _ _ _=>(ao G_second_share (hr.mono (by decide)) (by rfl) D_second_share.m D_second_share.F.kp D_second_share.b .nil (ay hq) (ag (pv 1) (ag (pv 0) ah))))))),?_⟩
   rw [show L2.start ["web"] [V.ref p]=[some (V.ref p)] from rfl]
   obtain ⟨dx,ob⟩:=W.ob
   walk_at "rd"
   refine ⟨T.Web,dx,_,ob,T.cl_Web,T.n_many,_,dh m t,m,rfl,by omega,by omega,fun pc nc=>?_⟩
   refine gC (fun i zs σ H3=>Same H H3∧H3 pc=some (.lst zs)∧∃ (qs:List Addr) (fs:List (Int × Int)) (v:Option V),zs=qs.map V.ref∧qs.length=i∧FrsAt H3 qs fs∧(∀ f∈fs,FrB 340 f∧f.1.gcd f.2=1)∧(∀ (i:Nat) f,fs[i]?=some f→(f.1:Rat) / f.2=shr m rs (sep rs) i)∧σ=[v,some (V.ref p)]) ⟨Same.new _ nc,aj,[],[],_,rfl,rfl,.nil,(fun f hf=>nomatch hf),(fun i f h=>by simp at h),rfl⟩ ?_ ?_
   · rintro i zs σ H3 N hN hi ⟨s3,e3,qs,fs,v,rfl,qi,hf,fb,fv,rfl⟩
     rw [Int.zero_add]
     have i0:(0:Int)≤(i:Int):=by omega
     have i1:(i:Int) < m:=by omega
     have fl:qs.length=fs.length:=Paired.length hf
     walk_at "rd"
     refine ⟨p,t,m,ps,rs,(i:Int),rfl,W.same s3,i0,i1,m8,fun f r H4 fB fg fr nr s4 er=>?_⟩
     have npr:r≠pc:=fun z=>by rw [z,e3] at nr; cases nr
     refine ⟨s4 _ _ e3,bX (by rw [List.length_map]; omega),hN _ _ _ ⟨(s3.trans s4).put nc _,aj,qs ++ [r],fs ++ [f],_,by rw [List.map_append]; rfl,by rw [List.length_append,qi]; rfl,?_,fun f' hf'=>?_,fun j f' hj=>?_,rfl⟩⟩
     · refine fL (by rw [aq npr]; exact er) (Paired.imp' (fun q f h=>?_) hf)
       rw [aq (dk (s4 _ _ h) (s4 _ _ e3) (by intro z; cases z))]
       exact s4 _ _ h
     · rcases List.mem_append.mp hf' with h | h
       · exact fb f' h
       · rw [List.mem_singleton.mp h]; exact ⟨fB,fg⟩
     · by_cases c:j < fs.length
       · rw [List.getElem?_append_left c] at hj
         exact fv j f' hj
       · have jl:=(List.getElem?_eq_some_iff.mp hj).1
         rw [List.length_append,List.length_singleton] at jl
         have:j=i:=by omega
         subst this
         rw [List.getElem?_append_right (by omega),show j - fs.length=0 by omega] at hj
         cases hj
         exact fr
   · rintro zs σ H3 ⟨s3,e3,qs,fs,v,rfl,qi,hf,fb,fv,rfl⟩
     have fl:qs.length=fs.length:=Paired.length hf
     exact k pc qs fs H3 nc s3 e3 hf (by omega) fb fv
/-! #### fairest -/
def mh (T:Txt K mg):Sp:=fun vs H Q _=>∃ (p t:Addr) (m:Int) (ps:List Addr) (rs:List Road),vs=[.ref p]∧WebAt T.Web H p m t ps rs∧m≤8 ∧
 (∀ l lo H',H lo=none→H l=none→Same H H'→H' l=some (.tup [.str "below",.ref lo])→H' lo=some (.lst (((below m.toNat).filter (dH m rs)).map V.int))→(below m.toNat).filter (dH m rs)≠[]→Q (.ref l) H') ∧
 (∀ l la lb qa qb fs gs H',H la=none→H lb=none→H l=none→la≠lb→Same H H'→H' l=some (.tup [.str "fairest",.ref la,.ref lb])→H' la=some (.lst (qa.map V.ref))→FrsAt H' qa fs→H' lb=some (.lst (qb.map V.ref))→FrsAt H' qb gs→(fs.length:Int)=m→(gs.length:Int)=m→(∀ f∈fs,FrB 340 f∧f.1.gcd f.2=1)→(∀ f∈gs,FrB 340 f∧f.1.gcd f.2=1)→(∀ (i:Nat) f,fs[i]?=some f→(f.1:Rat) / f.2=shr m rs (evp rs) i)→(∀ (i:Nat) f,gs[i]?=some f→(f.1:Rat) / f.2=shr m rs (sep rs) i)→(below m.toNat).filter (dH m rs)=[]→Q (.ref l) H')
abbrev bL:Stmt:=top 46
theorem sc_fairest:FnScope ["web","shares","second","low"] ["web"] (aa bL):=FnScope.of (by kernel_rfl)
theorem fH:NmL (aa bL) "web":=.of (by kernel_rfl)
theorem n_fairest__shares:NmC (aa bL) "shares":=.of (by kernel_rfl)
theorem n_fairest__second:NmC (aa bL) "second":=.of (by kernel_rfl)
theorem n_fairest__low:NmL (aa bL) "low":=.of (by kernel_rfl)
theorem n_fairest__even_shares:NmG (aa bL) "even_shares":=.of (by kernel_rfl)
theorem n_fairest__second_shares:NmG (aa bL) "second_shares":=.of (by kernel_rfl)
theorem n_fairest__range:NmG (aa bL) "range":=.of (by kernel_rfl)

theorem sU (T:Txt K mg) (hq:aJ (CXe P w)) {f:Addr} {fd:FuncData} (D:Df K mg "fairest" bL ["web"] f fd) {f_even_shares:Addr} {fd_even_shares:FuncData} (D_even_shares:Df K mg "even_shares" bI ["web"] f_even_shares fd_even_shares) (G_even_shares:FnOk P w K mg base (CXe P w) 7 f_even_shares fd_even_shares ["web"] (iJ T)) {f_is_below:Addr} {fd_is_below:FuncData} (D_is_below:Df K mg "is_below" ck ["share"] f_is_below fd_is_below) (G_is_below:FnOk P w K mg base (CXe P w) 2 f_is_below fd_is_below ["share"] (kL T)) {f_second_shares:Addr} {fd_second_shares:FuncData} (D_second_shares:Df K mg "second_shares" bp ["web"] f_second_shares fd_second_shares) (G_second_shares:FnOk P w K mg base (CXe P w) 7 f_second_shares fd_second_shares ["web"] (gN T)):FnOk P w K mg base (CXe P w) 8 f fd ["web"] (mh T):=by
 refine D.F.okC sc_fairest (fun vs H Q E h=>?_) (fun cdv A outer s H vs Q E hr h=>?_)
 · obtain ⟨p,t,m,ps,rs,rfl,_⟩:=h
   rfl
 · obtain ⟨p,t,m,ps,rs,rfl,W,m8,k1,k2⟩:=h
   have g:=W.go
   have m1:=g.m1
   refine ⟨_,(am (aD (i:=1) sc_fairest.nd rfl (Or.inr n_fairest__shares.l) (ao G_even_shares (hr.mono (by decide)) n_fairest__even_shares.g D_even_shares.m D_even_shares.F.kp D_even_shares.b .nil (ay hq) (ag (pvl 0 fH) ah) (hdb:=n_fairest__even_shares.d))) (am (aD (i:=2) sc_fairest.nd rfl (Or.inr n_fairest__second.l) (ao G_second_shares (hr.mono (by decide)) n_fairest__second_shares.g D_second_shares.m D_second_shares.F.kp D_second_shares.b .nil (ay hq) (ag (pvl 0 fH) ah) (hdb:=n_fairest__second_shares.d))) (am (sI (i:=3) sc_fairest.nd rfl n_fairest__low.l rfl (d8 (Nc:=["place","shares","second"]) 1 [1,2] (by decide +kernel) rfl (by decide +kernel) rfl (by show ∀ (y:Str × NameKind),y∈_→y.2=NameKind.free→(aa bL).names.lookup y.1=some NameKind.cell; decide +kernel) rfl (fun _ h=>cR h) (fun i hi=>match i,hi with | 0,_=>⟨"shares",1,rfl,rfl,rfl,by decide +kernel⟩ | 1,_=>⟨"second",2,rfl,rfl,rfl,by decide +kernel⟩ | i + 2,hi=>absurd hi (by show ¬ i + 2 < 2; omega))) (gh n_fairest__range.g T.range (ag (dZ  (pvl 0 fH) rfl) ah)) (fun _ _ _ _=>(aL (i:=0) (show (["place","shares","second"]:List Str).Nodup from by decide +kernel) rfl (Or.inl rfl))) (fun _ _ _ _=>(mW (PW.pt (zL (fh (ao G_is_below (hr.mono (by decide)) (by rfl) D_is_below.m D_is_below.F.kp D_is_below.b .nil (ay hq) (ag (aH (lI K rfl) (pv 1) (pv 0) (fun _ _=>rfl)) ah))) (uF (fh (ao G_is_below (hr.mono (by decide)) (by rfl) D_is_below.m D_is_below.F.kp D_is_below.b .nil (ay hq) (ag (aH (lI K rfl) (pv 2) (pv 0) (fun _ _=>rfl)) ah)))))))) (fun _ _ _ _=>(pv 0))) (am (bW (iX (pvl 3 n_fairest__low) (fun _=>rfl)) (ap (aG (fk (ag iB (ag (pvl 3 n_fairest__low) ah))))) bj) (ap (aG (fk (ag iB (ag (pvc 1 n_fairest__shares) (ag (pvc 2 n_fairest__second) ah)))))))))),?_⟩
   rw [show L2.start ["web","shares","second","low"] [V.ref p]=[some (V.ref p),none,none,none] from rfl]
   refine dj fun N1 h1=>?_
   walk_at "rd"
   refine ⟨p,t,m,ps,rs,rfl,W,m8,fun la qa fs H1 na s1 ea fa fl fb fv=>h1 _ _ (dj fun N2 h2=>?_)⟩
   walk_at "rd"
   refine ⟨p,t,m,ps,rs,rfl,W.same s1,m8,fun lb qb gs H2 nb s2 eb gb gl gB gv=>h2 _ _ (dj fun N3 h3=>?_)⟩
   have s12:=s1.trans s2
   have ea2:=s2 _ _ ea
   have fa2:=FrsAt.same s2 fa
   have nab:la≠lb:=fun z=>by rw [← z,ea] at nb; cases nb
   obtain ⟨dx,ob⟩:=(W.same s12).ob
   walk_at "rd"
   refine ⟨T.Web,dx,_,ob,T.cl_Web,T.n_many,_,dh m t,m,rfl,by omega,by omega,fun lo no=>?_⟩
   have qal:qa.length=fs.length:=Paired.length fa
   have qbl:qb.length=gs.length:=Paired.length gb
   refine gC (fun i zs σ H3=>Same H2 H3∧H3 lo=some (.lst zs)∧zs=((below i).filter (dH m rs)).map V.int∧∃ v,σ=[v,some (V.ref la),some (V.ref lb)]) ⟨Same.new _ no,aj,rfl,_,rfl⟩ ?_ ?_
   · rintro i zs σ H3 N hN hi ⟨s3,e3,rfl,v,rfl⟩
     rw [Int.zero_add]
     have ll:((below i).filter (dH m rs)).length≤8:=by
       have:=List.length_filter_le (dH m rs) (below i)
       rw [aK] at this
       omega
     obtain ⟨f,hf⟩:∃ f,fs[i]?=some f:=⟨_,List.getElem?_eq_getElem (by omega)⟩
     obtain ⟨d,hd⟩:∃ d,gs[i]?=some d:=⟨_,List.getElem?_eq_getElem (by omega)⟩
     obtain ⟨qi,hqi⟩:∃ q,qa[i]?=some q:=⟨_,List.getElem?_eq_getElem (by omega)⟩
     obtain ⟨qj,hqj⟩:∃ q,qb[i]?=some q:=⟨_,List.getElem?_eq_getElem (by omega)⟩
     obtain ⟨f',hf',ef⟩:=gc (FrsAt.same s3 fa2) hqi
     rw [hf] at hf'
     cases hf'
     obtain ⟨d',hd',ed⟩:=gc (FrsAt.same s3 gb) hqj
     rw [hd] at hd'
     cases hd'
     have fB:=(fb f (List.mem_of_getElem? hf)).1
     have dB:=(gB d (List.mem_of_getElem? hd)).1
     have n1:(f.1 < 0)↔shr m rs (evp rs) i < 0:=by rw [← fv i f hf]; exact (mL fB.1).symm
     have n2:(d.1 < 0)↔shr m rs (sep rs) i < 0:=by rw [← gv i d hd]; exact (mL dB.1).symm
     have add:dH m rs i=true→N (((below i).filter (dH m rs)).map V.int ++ [V.int (i:Int)]) [some (V.int (i:Int)),some (V.ref la),some (V.ref lb)] (upd H3 lo (.lst (((below i).filter (dH m rs)).map V.int ++ [V.int (i:Int)]))):=fun z=>hN _ _ _ ⟨s3.put no _,aj,by rw [jc,List.filter_append,List.filter_cons_of_pos z,List.map_append]; rfl,_,rfl⟩
     have sz:(((below i).filter (dH m rs)).map V.int).length < sizeLine:=bX (by rw [List.length_map]; omega)
     walk_at "rd"
     refine ixL (s3 _ _ ea2) (mP (by rw [List.getElem?_map,hqi]; rfl)) ⟨qi,f,340,rfl,SqT.of ef,fB,by decide,by decide,_,rfl,?_⟩
     by_cases z1:f.1 < 0
     · rw [if_pos (decide_eq_true z1)]
       exact ⟨e3,sz,add (by unfold dH; rw [decide_eq_true (n1.mp z1),Bool.true_or])⟩
     · rw [if_neg (by rw [decide_eq_true_eq]; exact z1)]
       refine ixL (s3 _ _ eb) (mP (by rw [List.getElem?_map,hqj]; rfl)) ⟨qj,d,340,rfl,SqT.of ed,dB,by decide,by decide,_,rfl,?_⟩
       by_cases z2:d.1 < 0
       · rw [if_pos (decide_eq_true z2)]
         exact ⟨e3,sz,add (by unfold dH; rw [decide_eq_true (n2.mp z2),Bool.or_true])⟩
       · rw [if_neg (by rw [decide_eq_true_eq]; exact z2)]
         have z:¬ dH m rs i=true:=by
           unfold dH
           rw [decide_eq_false (fun w=>z1 (n1.mpr w)),decide_eq_false (fun w=>z2 (n2.mpr w))]
           decide
         exact hN _ _ _ ⟨s3,e3,by rw [jc,List.filter_append,List.filter_cons_of_neg z,List.filter_nil,List.append_nil],_,rfl⟩
   · rintro zs σ H3 ⟨s3,e3,rfl,v,rfl⟩
     refine h3 _ _ ?_
     have s13:=s12.trans s3
     walk_at "rd"
     refine ⟨_,.inl ⟨_,SqL.of e3,rfl⟩,?_⟩
     have no0:=s12.free no
     by_cases z:(below m.toNat).filter (dH m rs)=[]
     · rw [z]
       rw [if_neg (by decide)]
       refine ⟨bN (by simp),fun l nl=>?_⟩
       have s4:=Same.new (.tup [V.str (Str.ofString "fairest"),V.ref la,V.ref lb]) nl
       have s24:=s3.trans s4
       exact k2 l la lb qa qb fs gs _ na (s1.free nb) (s13.free nl) nab (s13.trans s4) aj (s24 _ _ ea2) (FrsAt.same s24 fa2) (s24 _ _ eb) (FrsAt.same s24 gb) fl gl fb gB fv gv z
     · rw [if_pos (by
         cases e:(below m.toNat).filter (dH m rs) with
         | nil=>exact absurd e z
         | cons a t=>rfl)]
       refine ⟨bN (by simp),fun l nl=>?_⟩
       have s4:=Same.new (.tup [V.str (Str.ofString "below"),V.ref lo]) nl
       exact k1 l lo _ no0 (s13.free nl) (s13.trans s4) aj (s4 _ _ e3) z
/-! #### times -/
def pJ (T:Txt K mg):Sp:=fun vs H Q _=>∃ (a b:Addr) (f g:Int × Int) (n o:Nat),vs=[.ref a,.ref b]∧H a=some (.tup [.int f.1,.int f.2])∧H b=some (.tup [.int g.1,.int g.2])∧FrB n f∧FrB o g∧n + o≤4000 ∧
 ∀ (p q:Int) (r:Addr) (H':Hp),Frc (f.1 * g.1) (f.2 * g.2) p q→H r=none→Same H H'→H' r=some (.tup [.int p,.int q])→Q (.ref r) H'
abbrev dw:Stmt:=top 5
theorem yO:FnScope ["one","two"] ["one","two"] (aa dw):=FnScope.of (by kernel_rfl)
theorem jU:NmL (aa dw) "one":=.of (by kernel_rfl)
theorem jK:NmL (aa dw) "two":=.of (by kernel_rfl)
theorem n_times__fraction:NmG (aa dw) "fraction":=.of (by kernel_rfl)

theorem xN (T:Txt K mg) (hq:aJ (CXe P w)) {f:Addr} {fd:FuncData} (D:Df K mg "times" dw ["one","two"] f fd) {f_fraction:Addr} {fd_fraction:FuncData} (D_fraction:Df K mg "fraction" be ["top","bottom"] f_fraction fd_fraction) (G_fraction:FnOk P w K mg base (CXe P w) 2 f_fraction fd_fraction ["top","bottom"] (cM T)):FnOk P w K mg base (CXe P w) 3 f fd ["one","two"] (pJ T):=by
 refine D.F.okC yO (fun vs H Q E h=>?_) (fun cdv A outer s H vs Q E hr h=>?_)
 · obtain ⟨a,b,f,g,n,o,rfl,_⟩:=h
   rfl
 · obtain ⟨a,b,f,g,n,o,rfl,ha,hb,fb,gb,n1,k⟩:=h
   refine ⟨_,(ap (aG (ao G_fraction (hr.mono (by decide)) n_times__fraction.g D_fraction.m D_fraction.F.kp D_fraction.b .nil (ay hq) (ag (ax eT (aH aQ (pvl 0 jU) ak (fun _ _=>rfl)) (aH aQ (pvl 1 jK) ak (fun _ _=>rfl))) (ag (ax eT (aH aQ (pvl 0 jU) ak (fun _ _=>rfl)) (aH aQ (pvl 1 jK) ak (fun _ _=>rfl))) ah)) (hdb:=n_times__fraction.d)))),?_⟩
   rw [show L2.start ["one","two"] [V.ref a,V.ref b]=[some (V.ref a),some (V.ref b)] from rfl]
   have ub:∀ {x:Int},x.natAbs < 2 ^ n→x.natAbs < 2 ^ 4000:=fun h=>bR h (by omega)
   have ob:∀ {x:Int},x.natAbs < 2 ^ o→x.natAbs < 2 ^ 4000:=fun h=>bR h (by omega)
   walk_at "rd"
   refine eI (SqT.of ha) rfl (eI (SqT.of hb) rfl ?_)
   refine ⟨_,rfl,_,rfl,fT (ub fb.2.1) (ob gb.2.1),eI (SqT.of ha) rfl (eI (SqT.of hb) rfl ⟨_,rfl,_,rfl,fT (ub fb.2.2) (ob gb.2.2),_,_,rfl,Int.mul_ne_zero (by have:=fb.1; omega) (by have:=gb.1; omega),bR (cT fb.2.2 gb.2.2) (by omega),fun p q r fr nr=>k p q r _ fr nr (Same.new _ nr) aj⟩)⟩
/-! #### law -/
def o9 (K:PySem.W.Frag):Sp:=fun vs H Q _=>∃ (a:Addr) (ns:List Int),vs=[.ref a]∧SqL K H a (ns.map V.int)∧ns.length≤63∧∀ H',Q (.bl true) H'
def Bs (T:Txt K mg):Sp:=o9 K
abbrev bA:Stmt:=top 69
theorem sc_law:FnScope ["script","many","roads","web","laying","found","least"] ["script"] (aa bA):=FnScope.of (by kernel_rfl)
theorem cZ:NmL (aa bA) "script":=.of (by kernel_rfl)
theorem n_law__many:NmL (aa bA) "many":=.of (by kernel_rfl)
theorem n_law__roads:NmL (aa bA) "roads":=.of (by kernel_rfl)
theorem n_law__web:NmC (aa bA) "web":=.of (by kernel_rfl)
theorem n_law__laying:NmC (aa bA) "laying":=.of (by kernel_rfl)
theorem n_law__found:NmL (aa bA) "found":=.of (by kernel_rfl)
theorem n_law__least:NmL (aa bA) "least":=.of (by kernel_rfl)
theorem n_law__law_drawn:NmG (aa bA) "_law_drawn":=.of (by kernel_rfl)
theorem n_law__law_roads:NmG (aa bA) "_law_roads":=.of (by kernel_rfl)
theorem n_law__Web:NmG (aa bA) "Web":=.of (by kernel_rfl)
theorem n_law__list:NmG (aa bA) "list":=.of (by kernel_rfl)
theorem n_law__law_laying:NmG (aa bA) "_law_laying":=.of (by kernel_rfl)
theorem n_law__law_bound:NmG (aa bA) "_law_bound":=.of (by kernel_rfl)
theorem n_law__law_worths_right:NmG (aa bA) "_law_worths_right":=.of (by kernel_rfl)
theorem n_law__fairest:NmG (aa bA) "fairest":=.of (by kernel_rfl)
theorem n_law__len:NmG (aa bA) "len":=.of (by kernel_rfl)
theorem n_law__min:NmG (aa bA) "min":=.of (by kernel_rfl)
theorem n_law__range:NmG (aa bA) "range":=.of (by kernel_rfl)
theorem n_law__less:NmG (aa bA) "less":=.of (by kernel_rfl)
theorem n_law__fraction:NmG (aa bA) "fraction":=.of (by kernel_rfl)
theorem n_law__sum:NmG (aa bA) "sum":=.of (by kernel_rfl)
theorem n_law__times:NmG (aa bA) "times":=.of (by kernel_rfl)
theorem n_law__sum_up:NmG (aa bA) "sum_up":=.of (by kernel_rfl)

theorem Cc (T:Txt K mg) (hq:aJ (CXe P w)) {f:Addr} {fd:FuncData} (D:Df K mg "law" bA ["script"] f fd) {f_Web___init__:Addr} {fd_Web___init__:FuncData} (F_Web___init__:Fun K "__init__" "Web.__init__" aN f_Web___init__ fd_Web___init__) (b_Web:Binds K fd_Web___init__ ["self","many","roads"] []) (M_Web:Mk K T.Web f_Web___init__) (G_Web_init:FnOk P w K mg base (CXe P w) 3 f_Web___init__ fd_Web___init__ ["self","many","roads"] (fj T)) {f_law_bound:Addr} {fd_law_bound:FuncData} (D_law_bound:Df K mg "_law_bound" b9 ["script"] f_law_bound fd_law_bound) (G_law_bound:FnOk P w K mg base (CXe P w) 2 f_law_bound fd_law_bound ["script"] (j7 T)) {f_law_drawn:Addr} {fd_law_drawn:FuncData} (D_law_drawn:Df K mg "_law_drawn" aZ ["script","k"] f_law_drawn fd_law_drawn) (G_law_drawn:FnOk P w K mg base (CXe P w) 1 f_law_drawn fd_law_drawn ["script","k"] (dY T)) {f_law_laying:Addr} {fd_law_laying:FuncData} (D_law_laying:Df K mg "_law_laying" aU ["script","many","bound"] f_law_laying fd_law_laying) (G_law_laying:FnOk P w K mg base (CXe P w) 2 f_law_laying fd_law_laying ["script","many","bound"] (jp T)) {f_law_roads:Addr} {fd_law_roads:FuncData} (D_law_roads:Df K mg "_law_roads" aR ["script","many","shape"] f_law_roads fd_law_roads) (G_law_roads:FnOk P w K mg base (CXe P w) 2 f_law_roads fd_law_roads ["script","many","shape"] (j5 T)) {f_law_worths_right:Addr} {fd_law_worths_right:FuncData} (D_law_worths_right:Df K mg "_law_worths_right" au ["web","laying","r"] f_law_worths_right fd_law_worths_right) (G_law_worths_right:FnOk P w K mg base (CXe P w) 10 f_law_worths_right fd_law_worths_right ["web","laying","r"] (fo T)) {f_fairest:Addr} {fd_fairest:FuncData} (D_fairest:Df K mg "fairest" bL ["web"] f_fairest fd_fairest) (G_fairest:FnOk P w K mg base (CXe P w) 8 f_fairest fd_fairest ["web"] (mh T)) {f_fraction:Addr} {fd_fraction:FuncData} (D_fraction:Df K mg "fraction" be ["top","bottom"] f_fraction fd_fraction) (G_fraction:FnOk P w K mg base (CXe P w) 2 f_fraction fd_fraction ["top","bottom"] (cM T)) {f_less:Addr} {fd_less:FuncData} (D_less:Df K mg "less" dM ["one","two"] f_less fd_less) (G_less:FnOk P w K mg base (CXe P w) 1 f_less fd_less ["one","two"] (kf T)) {f_most:Addr} {fd_most:FuncData} (D_most:Df K mg "most" dq ["web","laying","r"] f_most fd_most) (G_most:FnOk P w K mg base (CXe P w) 9 f_most fd_most ["web","laying","r"] (nF T)) {f_sum_up:Addr} {fd_sum_up:FuncData} (D_sum_up:Df K mg "sum_up" bH ["some"] f_sum_up fd_sum_up) (G_sum_up:FnOk P w K mg base (CXe P w) 3 f_sum_up fd_sum_up ["some"] (eP T)) {f_times:Addr} {fd_times:FuncData} (D_times:Df K mg "times" dw ["one","two"] f_times fd_times) (G_times:FnOk P w K mg base (CXe P w) 3 f_times fd_times ["one","two"] (pJ T)):FnOk P w K mg base (CXe P w) 11 f fd ["script"] (Bs T):=by
 refine D.F.okC sc_law (fun vs H Q E h=>?_) (fun cdv A outer s H vs Q E hr h=>?_)
 · obtain ⟨a,ns,rfl,_⟩:=h
   rfl
 · obtain ⟨a,ns,rfl,ha,hn,k⟩:=h
   refine ⟨_,(am (aD (i:=1) sc_law.nd rfl (Or.inl n_law__many.l) (ax gP ak (ax b8 (ax c7 (ao G_law_drawn (hr.mono (by decide)) n_law__law_drawn.g D_law_drawn.m D_law_drawn.F.kp D_law_drawn.b .nil (ay hq) (ag (pvl 0 cZ) (ag ak ah)) (hdb:=n_law__law_drawn.d)) ak) ak))) (am (aD (i:=2) sc_law.nd rfl (Or.inl n_law__roads.l) (ao G_law_roads (hr.mono (by decide)) n_law__law_roads.g D_law_roads.m D_law_roads.F.kp D_law_roads.b .nil (ay hq) (ag (pvl 0 cZ) (ag (pvl 1 n_law__many) (ag (ax b8 (ax c7 (ao G_law_drawn (hr.mono (by decide)) n_law__law_drawn.g D_law_drawn.m D_law_drawn.F.kp D_law_drawn.b .nil (ay hq) (ag (pvl 0 cZ) (ag ak ah)) (hdb:=n_law__law_drawn.d)) ak) ak) ah))) (hdb:=n_law__law_roads.d))) (am (aD (i:=3) sc_law.nd rfl (Or.inr n_law__web.l) (Ad M_Web G_Web_init (hr.mono (by decide)) n_law__Web.g T.m_Web b_Web .nil (ay hq) (ag (pvl 1 n_law__many) (ag (d3 gF n_law__list.g T.list mY (ag (pvl 2 n_law__roads) ah) (hn:=n_law__list.n) (hdb:=n_law__list.d)) ah)) (hdb:=n_law__Web.d))) (am (aD (i:=4) sc_law.nd rfl (Or.inr n_law__laying.l) (ao G_law_laying (hr.mono (by decide)) n_law__law_laying.g D_law_laying.m D_law_laying.F.kp D_law_laying.b .nil (ay hq) (ag (pvl 0 cZ) (ag (pvl 1 n_law__many) (ag (ao G_law_bound (hr.mono (by decide)) n_law__law_bound.g D_law_bound.m D_law_bound.F.kp D_law_bound.b .nil (ay hq) (ag (pvl 0 cZ) ah) (hdb:=n_law__law_bound.d)) ah))) (hdb:=n_law__law_laying.d))) (am (bW (fV (fh (ao G_law_worths_right (hr.mono (by decide)) n_law__law_worths_right.g D_law_worths_right.m D_law_worths_right.F.kp D_law_worths_right.b .nil (ay hq) (ag (pvc 3 n_law__web) (ag (pvc 4 n_law__laying) (ag (ax b8 (ax c7 (ao G_law_drawn (hr.mono (by decide)) n_law__law_drawn.g D_law_drawn.m D_law_drawn.F.kp D_law_drawn.b .nil (ay hq) (ag (pvl 0 cZ) (ag ak ah)) (hdb:=n_law__law_drawn.d)) ak) (pvl 1 n_law__many)) ah))) (hdb:=n_law__law_worths_right.d)))) (ap (aG pf)) bj) (am (aD (i:=5) sc_law.nd rfl (Or.inl n_law__found.l) (ao G_fairest (hr.mono (by decide)) n_law__fairest.g D_fairest.m D_fairest.F.kp D_fairest.b .nil (ay hq) (ag (pvc 3 n_law__web) ah) (hdb:=n_law__fairest.d))) (am (bW (bG dW (aH aQ (pvl 5 n_law__found) ak (fun _ _=>rfl)) iB (bB _)) (ap (aG (fM tY (cB dA n_law__len.g T.len gL (ag (aH aQ (pvl 5 n_law__found) ak (fun _ _=>rfl)) ah) (hn:=n_law__len.n) (hdb:=n_law__len.d)) ak (bB _)))) bj) (am (aD (i:=6) sc_law.nd rfl (Or.inl n_law__least.l) (cB (uU rfl) n_law__min.g T.min Bl (ag (c8 rfl (d8 (Nc:=["place","web","laying"]) 1 [3,4] (by decide +kernel) rfl (by decide +kernel) rfl (by show ∀ (y:Str × NameKind),y∈_→y.2=NameKind.free→(aa bA).names.lookup y.1=some NameKind.cell; decide +kernel) rfl (fun _ h=>cR h) (fun i hi=>match i,hi with | 0,_=>⟨"web",3,rfl,rfl,rfl,by decide +kernel⟩ | 1,_=>⟨"laying",4,rfl,rfl,rfl,by decide +kernel⟩ | i + 2,hi=>absurd hi (by show ¬ i + 2 < 2; omega))) (gh n_law__range.g T.range (ag (pvl 1 n_law__many) ah)) (fun _ _ _ _=>(aL (i:=0) (show (["place","web","laying"]:List Str).Nodup from by decide +kernel) rfl (Or.inl rfl))) (fun _ _ _ _=>dP) (fun _ _ _ _=>(ao G_most (hr.mono (by decide)) (by rfl) D_most.m D_most.F.kp D_most.b .nil (ay hq) (ag (pv 1) (ag (pv 2) (ag (pv 0) ah)))))) ah) (hn:=n_law__min.n) (hdb:=n_law__min.d))) (ap (aG (vM (ao G_less (hr.mono (by decide)) n_law__less.g D_less.m D_less.F.kp D_less.b .nil (ay hq) (ag (ao G_fraction (hr.mono (by decide)) n_law__fraction.g D_fraction.m D_fraction.F.kp D_fraction.b .nil (ay hq) (ag (cB (qZ rfl) n_law__sum.g T.sum vG (ag (pvc 4 n_law__laying) ah) (hn:=n_law__sum.n) (hdb:=n_law__sum.d)) (ag ak ah)) (hdb:=n_law__fraction.d)) (ag (ao G_times (hr.mono (by decide)) n_law__times.g D_times.m D_times.F.kp D_times.b .nil (ay hq) (ag (ao G_sum_up (hr.mono (by decide)) n_law__sum_up.g D_sum_up.m D_sum_up.F.kp D_sum_up.b .nil (ay hq) (ag (aH aQ (pvl 5 n_law__found) ak (fun _ _=>rfl)) ah) (hdb:=n_law__sum_up.d)) (ag (ao G_fraction (hr.mono (by decide)) n_law__fraction.g D_fraction.m D_fraction.F.kp D_fraction.b .nil (ay hq) (ag (pvl 6 n_law__least) (ag ak ah)) (hdb:=n_law__fraction.d)) ah)) (hdb:=n_law__times.d)) ah)) (hdb:=n_law__less.d))))))))))))),?_⟩
   rw [show L2.start ["script","many","roads","web","laying","found","least"] [V.ref a]=[some (V.ref a),none,none,none,none,none,none] from rfl]
   refine dj fun N1 h1=>?_
   walk_at "rd"
   refine ⟨a,ns,0,rfl,ha,by decide,by decide,fun v0 v00=>?_⟩
   refine ⟨_,rfl,⟨by decide,by decide⟩,by decide,h1 _ _ (dj fun N2 h2=>?_)⟩
   have m1:1≤1 + v0 / 2 % 6:=by omega
   have m6:1 + v0 / 2 % 6≤6:=by omega
   generalize 1 + v0 / 2 % 6=m at m1 m6 ⊢
   walk_at "rd"
   refine ⟨a,ns,0,rfl,ha,by decide,by decide,fun v1 v10=>⟨_,rfl,⟨by decide,by decide⟩,by decide,?_⟩⟩
   refine ⟨a,ns,m,_,rfl,ha,m1,by omega,by omega,by omega,fun l ps rs H1 nl s1 el ro g=>h2 _ _ (dj fun N3 h3=>?_)⟩
   walk_at "rd"
   refine ⟨_,.inl (SqL.of el),fun lc nlc=>?_⟩
   have s2:=Same.new (.lst (ps.map V.ref)) nlc
   refine A1 T (c:=true) (SqL.of aj) (RoadsAt.same s2 ro) g fun x tw H2 hx htw s3 W=>?_
   have s13:=s1.trans (s2.trans s3)
   refine h3 _ _ (dj fun N4 h4=>?_)
   walk_at "rd"
   refine ⟨a,ns,rfl,Same.seq s13 ha,fun b H4 b1 b60 s5=>?_⟩
   have s15:=s13.trans s5
   refine ⟨a,ns,m,b,rfl,Same.seq s15 ha,hn,m1,by omega,b1,fun lx xs H5 nx s6 ex xl xb=>h4 _ _ (dj fun N5 h5=>?_)⟩
   have W5:=W.same (s5.trans s6)
   have s16:=s15.trans s6
   have x0:∀ x∈xs,0≤x:=fun x hx=>(xb x hx).1
   have fx:=vd xl x0
   walk_at "rd"
   refine ⟨a,ns,0,rfl,Same.seq s16 ha,by decide,by decide,fun v2 v20=>⟨_,rfl,⟨by decide,by decide⟩,by omega,?_⟩⟩
   have r0:=Int.emod_nonneg (v2 / 17) (show m≠0 by omega)
   have r1:=Int.emod_lt_of_pos (v2 / 17) (show 0 < m by omega)
   generalize v2 / 17 % m=r at r0 r1 ⊢
   refine ⟨x,lx,tw,m,r,ps,rs,xs,rfl,W5,m6,ex,fx,fun y hy=>by have:=(xb y hy).2; omega,⟨r0,r1⟩,fun H6 s7=>⟨_,rfl,?_⟩⟩
   rw [if_neg (by decide)]
   refine h5 _ _ (dj fun N6 h6=>?_)
   walk_at "rd"
   have W6:=W5.same s7
   have ex6:=s7 _ _ ex
   refine ⟨x,tw,m,ps,rs,rfl,W6,by omega,fun l2 lo H7 nlo nl2 s8 e2 elo ne=>h6 _ _ ?_,fun l2 la lb qa qb fs gs H7 nla nlb nl2 nab s8 e2 ela fa elb fb' fl gl fB gB fv gv no=>h6 _ _ ?_⟩
   · refine dj fun N7 h7=>?_
     walk_at "rd"
     refine ixT e2 rfl ⟨rfl,?_⟩
     rw [if_pos rfl]
     refine ixT e2 rfl ⟨lo,rfl,_,.inl (SqL.of elo),?_⟩
     have:0 < (((below m.toNat).filter (dH m rs)).map V.int).length:=by
       rw [List.length_map]
       exact List.length_pos_iff.mpr ne
     rw [decide_eq_true (by omega)]
     exact k _
   · refine dj fun N7 h7=>?_
     walk_at "rd"
     refine ixT e2 rfl ⟨rfl,?_⟩
     rw [if_neg (fun z=>absurd (V.str.inj z) (by decide +kernel))]
     refine h7 _ _ (dj fun N8 h8=>?_)
     obtain ⟨PAR,DEP,RR⟩:∃ (PAR:Int→Int→Int) (DEP:Int→Int→Nat),∀ r,0≤r→r < m→Rooted m rs r (PAR r) (DEP r) :=
       ⟨fun r=>if h:0≤r∧r < m then (fW g h.1 h.2).choose else fun _=>0,fun r=>if h:0≤r∧r < m then (fW g h.1 h.2).choose_spec.choose else fun _=>0,fun r r0 r1=>by
         dsimp only
         rw [dif_pos ⟨r0,r1⟩,dif_pos ⟨r0,r1⟩]
         exact (fW g r0 r1).choose_spec.choose_spec⟩
     have W7:=W6.same s8
     have ex7:=s8 _ _ ex6
     walk_at "rd"
     refine ⟨by omega,by omega,fun pc nc=>?_⟩
     refine gC (fun i zs σ H8=>Same H7 H8∧H8 pc=some (.lst zs)∧zs=((below i).map fun v=>gat m rs v (PAR v) (DEP v) (fun w=>xs.getD w.toNat 0) (giv rs (PAR v)) v).map V.int∧∃ v,σ=[v,some (V.ref x),some (V.ref lx)]) ⟨Same.new _ nc,aj,rfl,_,rfl⟩ ?_ ?_
     · rintro i zs σ H8 N hN hi ⟨s9,e9,rfl,v,rfl⟩
       rw [Int.zero_add]
       have i0:(0:Int)≤(i:Int):=by omega
       have i1:(i:Int) < m:=by omega
       walk_at "rd"
       refine ⟨x,lx,tw,true,m,ps,rs,xs,(i:Int),rfl,W7.same s9,SqL.of (s9 _ _ ex7),by omega,fun _ _ _=>⟨PAR i,DEP i,RR i i0 i1,fun H9 s10=>?_⟩,(fun z=>by rw [fx] at z; cases z),fun _ z=>absurd ⟨i0,i1⟩ z⟩
       refine ⟨s10 _ _ e9,bX (by rw [List.length_map,List.length_map,aK]; omega),hN _ _ _ ⟨(s9.trans s10).put nc _,aj,?_,_,rfl⟩⟩
       rw [jc,List.map_append,List.map_append]
       rfl
     · rintro zs σ H8 ⟨s9,e9,rfl,v,rfl⟩
       refine ⟨pc,rfl,_,SqL.of e9,?_,fun y hy hle=>h8 _ _ ?_⟩
       · intro z
         have:=congrArg List.length z
         rw [List.length_map,aK] at this
         simp at this
         omega
       have pA:∀ v,0≤v→v < m→y≤gat m rs v (PAR v) (DEP v) (fun w=>xs.getD w.toNat 0) (giv rs (PAR v)) v:=fun v v0 v1=>hle _ (List.mem_map.mpr ⟨v,mem_below.mpr ⟨v0,by omega⟩,rfl⟩)
       have y0:0≤y:=by
         obtain ⟨v,hv,rfl⟩:=List.mem_map.mp hy
         exact qQ g (fun w=>ni x0 _) v
       have yb:y≤6 * 10 ^ 60:=by
         obtain ⟨tl,et,O⟩:=oG g (RR 0 (Int.le_refl _) (by omega)) (Int.le_refl _) (show 0 < m by omega)
         obtain ⟨es,he⟩:∃ es,es=dz rs xs (cF m rs 0 (PAR 0) (DEP 0) (fun v=>xs.getD v.toNat 0) tl.reverse) (cF m rs 0 (PAR 0) (DEP 0) (fun v=>xs.getD v.toNat 0) tl.reverse).length:=⟨_,rfl⟩
         obtain ⟨b1,b2,b3,_⟩:=jW g (RR 0 (Int.le_refl _) (by omega)) (Int.le_refl _) (show 0 < m by omega) x0 xl O he
         have cm:=Come.all g xl (jH g (RR 0 (Int.le_refl _) (by omega)) x0 xl O) _ (Nat.le_refl _)
         rw [← he] at cm
         have zs:=cm.sum_le g xl
         have l0:=pA 0 (Int.le_refl _) (by omega)
         rw [← b1] at l0
         have hm:es.getD (Int.toNat 0) 0∈es:=by
           rw [List.getD,List.getElem?_eq_getElem (show (Int.toNat 0) < es.length by show 0 < es.length; omega)]
           exact List.getElem_mem _
         have hm:=mJ b3 hm
         have:=lR (b:=10 ^ 60) fun z hz=>Int.le_of_lt (Int.lt_of_lt_of_le (xb z hz).2 b60)
         have h2:(xs.length:Int) * 10 ^ 60≤6 * 10 ^ 60:=Int.mul_le_mul_of_nonneg_right (by omega) (by decide)
         omega
       have xsum:xs.sum≤6 * 10 ^ 60:=by
         have:=lR (b:=10 ^ 60) fun z hz=>Int.le_of_lt (Int.lt_of_lt_of_le (xb z hz).2 b60)
         have h2:(xs.length:Int) * 10 ^ 60≤6 * 10 ^ 60:=Int.mul_le_mul_of_nonneg_right (by omega) (by decide)
         omega
       have xs0:=qW x0
       have s79:=s9
       walk_at "rd"
       refine ⟨xs,.inl (SqL.of (s9 _ _ ex7)),?_⟩
       refine ⟨_,1,rfl,by decide,Nat.one_lt_two_pow (by decide),fun p1 q1 l3 fr1 n3=>?_⟩
       obtain ⟨ep1,rfl⟩:=kh fr1
       have t3:=Same.new (.tup [V.int p1,V.int 1]) n3
       have e3:upd H8 l3 (.tup [V.int p1,V.int 1]) l3=some (.tup [V.int p1,V.int 1]):=aj
       generalize upd H8 l3 (.tup [V.int p1,V.int 1])=H9 at t3 e3 ⊢
       have s7':=s9.trans t3
       refine ixT (s7' _ _ e2) rfl ⟨la,true,qa,fs,340,rfl,s7' _ _ ela,(FrsAt.same s7' fa).k,fun f hf=>(fB f hf).1,by omega,by decide,by omega,fun p2 q2 l4 H10 fr2 n4 t4 e4=>?_⟩
       have mp:=gS (fs:=fs) (tb:=(0,1)) (fun f h=>(fB f h).1.1) (by decide)
       obtain ⟨mb1,mb2⟩:=fY (n:=340) (fs:=fs) (tb:=(0,1)) (b:=1) (fun f h=>(fB f h).1) (by decide) (by decide)
       have mr:=gQ (fs:=fs) (tb:=(0,1)) (fun f h=>Int.ne_of_gt (fB f h).1.1) (by decide)
       obtain ⟨l1',l2'⟩:=eu fr2 (Int.ne_of_gt mp)
       have rr:=dN fr2 (Int.ne_of_gt mp)
       have b2:p2.natAbs < 2 ^ 2050:=Nat.lt_of_le_of_lt l1' (bR mb1 (by omega))
       have b2':q2.natAbs < 2 ^ 2050:=Nat.lt_of_le_of_lt l2' (bR mb2 (by omega))
       refine ⟨y,1,rfl,by decide,Nat.one_lt_two_pow (by decide),fun p3 q3 l5 fr3 n5=>?_⟩
       obtain ⟨ep3,rfl⟩:=kh fr3
       have t5:=Same.new (.tup [V.int p3,V.int 1]) n5
       have pb:p3.natAbs < 2 ^ 210:=Nat.lt_of_lt_of_le (show p3.natAbs < 2 ^ 203 by omega) (Nat.pow_le_pow_right (by decide) (by decide))
       refine ⟨l4,l5,(p2,q2),(p3,1),2050,210,rfl,t5 _ _ e4,aj,⟨fr2.pos,b2,b2'⟩,⟨Int.one_pos,pb,Nat.one_lt_two_pow (by decide)⟩,by decide,fun p4 q4 l6 H11 fr4 n6 t6 e6=>?_⟩
       have q20:=fr2.pos
       have nz:q2 * 1≠0:=by omega
       obtain ⟨k1',k2'⟩:=eu fr4 (show (p2,q2).2 * (p3,1).2≠0 from nz)
       have r4:=dN fr4 (show (p2,q2).2 * (p3,1).2≠0 from nz)
       have b4:p4.natAbs < 2 ^ 2300:=Nat.lt_of_le_of_lt k1' (bR (cT b2 pb) (by decide))
       have b4':q4.natAbs < 2 ^ 2300:=Nat.lt_of_le_of_lt k2' (bR (cT b2' (show (1:Int).natAbs < 2 ^ 1 by decide)) (by decide))
       have b1':p1.natAbs < 2 ^ 2300:=Nat.lt_of_lt_of_le (show p1.natAbs < 2 ^ 203 by omega) (Nat.pow_le_pow_right (by decide) (by decide))
       refine ⟨l3,l6,(p1,1),(p4,q4),2300,rfl,SqT.of (t6 _ _ (t5 _ _ (t4 _ _ e3))),SqT.of e6,⟨Int.one_pos,b1',Nat.one_lt_two_pow (by decide)⟩,⟨fr4.pos,b4,b4'⟩,by decide,⟨_,rfl,?_⟩⟩
       have tl:=q9 g RR xl x0 (fun v v0 v1=>(yn no v0 v1).2) pA
       rw [vK xl] at tl
       have ev:(p2:Rat) / q2=aA (below m.toNat) (shr m rs (evp rs)):=by
         rw [rr,mr,vV fl fv]
         rw [show (((0:Int),(1:Int)).1:Rat) / ((0:Int),(1:Int)).2=0 from by show ((0:Int):Rat) / ((1:Int):Rat)=0; rw [show ((0:Int):Rat)=0 from rfl,Rat.div_def,Rat.zero_mul],Rat.zero_add]
       have:decide (p1 * q4 < p4 * 1)=false:=by
         rw [decide_eq_false_iff_not,lG (f:=(p1,1)) (g:=(p4,q4)) Int.one_pos fr4.pos]
         show ¬ ((p1:Rat) / ((1:Int):Rat) < (p4:Rat) / q4)
         have e5:(p1:Rat) / ((1:Int):Rat)=(p1:Rat):=by
           show (p1:Rat) / (1:Rat)=_
           grind
         have e6:(p4:Rat) / q4=aA (below m.toNat) (shr m rs (evp rs)) * (y:Rat):=by
           rw [r4,← ev,← ep3]
           show ((p2 * p3:Int):Rat) / ((q2 * 1:Int):Rat)=_
           rw [Int.mul_one,Rat.intCast_mul,Rat.div_def,Rat.div_def]
           grind
         rw [e5,e6,ep1]
         exact Rat.not_lt.mpr tl
       show Q (.bl (!decide (p1 * q4 < p4 * 1))) _
       rw [this]
       exact k _
end
theorem CN:aJ CX0:=fun _ _ _ _ _ h=>h
theorem all_mk {l:PySem.W.OpenLaw} {w:World} {K:PySem.W.Frag} {h:Heap} {mg:Str→Option Value} {fa:Addr} {C_BadWeb:Addr} {C_NoPlace:Addr} {C_NoRoad:Addr} {C_BadLaying:Addr} {C_BadStep:Addr} {C_Web:Addr} {xc_NoPlace:Value} {xd_NoPlace:Option Addr} {xk_NoPlace:ClassData} {xs_NoPlace:Array (Option Value)} {qn_NoPlace qq_NoPlace:Str} {qN_NoPlace:Addr} {qb_NoPlace qm_NoPlace:List Value} {qh_NoPlace:Bool} {qs_NoPlace:List Str} {qu_NoPlace:List Value} {qa_NoPlace:Bool} {qc_NoPlace:Option Bool} {qd_NoPlace:Option Addr} {q0_NoPlace q1_NoPlace q2_NoPlace q3_NoPlace q5_NoPlace:Option Value} {xc_NoRoad:Value} {xd_NoRoad:Option Addr} {xk_NoRoad:ClassData} {xs_NoRoad:Array (Option Value)} {qn_NoRoad qq_NoRoad:Str} {qN_NoRoad:Addr} {qb_NoRoad qm_NoRoad:List Value} {qh_NoRoad:Bool} {qs_NoRoad:List Str} {qu_NoRoad:List Value} {qa_NoRoad:Bool} {qc_NoRoad:Option Bool} {qd_NoRoad:Option Addr} {q0_NoRoad q1_NoRoad q2_NoRoad q3_NoRoad q5_NoRoad:Option Value} {xc_BadLaying:Value} {xd_BadLaying:Option Addr} {xk_BadLaying:ClassData} {xs_BadLaying:Array (Option Value)} {qn_BadLaying qq_BadLaying:Str} {qN_BadLaying:Addr} {qb_BadLaying qm_BadLaying:List Value} {qh_BadLaying:Bool} {qs_BadLaying:List Str} {qu_BadLaying:List Value} {qa_BadLaying:Bool} {qc_BadLaying:Option Bool} {qd_BadLaying:Option Addr} {q0_BadLaying q1_BadLaying q2_BadLaying q3_BadLaying q5_BadLaying:Option Value} {f_check_counts:Addr} {od_check_counts an_check_counts:Option Addr} {sl_check_counts:Array (Option Value)} {oc_check_counts kV_check_counts dc_check_counts pm_check_counts cd_check_counts ct_check_counts:Value} {f_is_place:Addr} {od_is_place an_is_place:Option Addr} {sl_is_place:Array (Option Value)} {oc_is_place kV_is_place dc_is_place pm_is_place cd_is_place ct_is_place:Value} {f_check_ends:Addr} {od_check_ends an_check_ends:Option Addr} {sl_check_ends:Array (Option Value)} {oc_check_ends kV_check_ends dc_check_ends pm_check_ends cd_check_ends ct_check_ends:Value} {f_other_ends:Addr} {od_other_ends an_other_ends:Option Addr} {sl_other_ends:Array (Option Value)} {oc_other_ends kV_other_ends dc_other_ends pm_other_ends cd_other_ends ct_other_ends:Value} {f_check_joined:Addr} {od_check_joined an_check_joined:Option Addr} {sl_check_joined:Array (Option Value)} {oc_check_joined kV_check_joined dc_check_joined pm_check_joined cd_check_joined ct_check_joined:Value} {f_check_tolls:Addr} {od_check_tolls an_check_tolls:Option Addr} {sl_check_tolls:Array (Option Value)} {oc_check_tolls kV_check_tolls dc_check_tolls pm_check_tolls cd_check_tolls ct_check_tolls:Value} {f_Web___init__:Addr} {od_Web___init__ an_Web___init__:Option Addr} {sl_Web___init__:Array (Option Value)} {oc_Web___init__ kV_Web___init__ dc_Web___init__ pm_Web___init__ cd_Web___init__ ct_Web___init__:Value} {f_law_drawn:Addr} {od_law_drawn an_law_drawn:Option Addr} {sl_law_drawn:Array (Option Value)} {oc_law_drawn kV_law_drawn dc_law_drawn pm_law_drawn cd_law_drawn ct_law_drawn:Value} {f_law_bound:Addr} {od_law_bound an_law_bound:Option Addr} {sl_law_bound:Array (Option Value)} {oc_law_bound kV_law_bound dc_law_bound pm_law_bound cd_law_bound ct_law_bound:Value} {f_law_laying:Addr} {od_law_laying an_law_laying:Option Addr} {sl_law_laying:Array (Option Value)} {oc_law_laying kV_law_laying dc_law_laying pm_law_laying cd_law_laying ct_law_laying:Value} {f_law_toll:Addr} {od_law_toll an_law_toll:Option Addr} {sl_law_toll:Array (Option Value)} {oc_law_toll kV_law_toll dc_law_toll pm_law_toll cd_law_toll ct_law_toll:Value} {f_law_roads:Addr} {od_law_roads an_law_roads:Option Addr} {sl_law_roads:Array (Option Value)} {oc_law_roads kV_law_roads dc_law_roads pm_law_roads cd_law_roads ct_law_roads:Value} {f_common_divisor:Addr} {od_common_divisor an_common_divisor:Option Addr} {sl_common_divisor:Array (Option Value)} {oc_common_divisor kV_common_divisor dc_common_divisor pm_common_divisor cd_common_divisor ct_common_divisor:Value} {f_fraction:Addr} {od_fraction an_fraction:Option Addr} {sl_fraction:Array (Option Value)} {oc_fraction kV_fraction dc_fraction pm_fraction cd_fraction ct_fraction:Value} {f_law_shares:Addr} {od_law_shares an_law_shares:Option Addr} {sl_law_shares:Array (Option Value)} {oc_law_shares kV_law_shares dc_law_shares pm_law_shares cd_law_shares ct_law_shares:Value} {f_check_place:Addr} {od_check_place an_check_place:Option Addr} {sl_check_place:Array (Option Value)} {oc_check_place kV_check_place dc_check_place pm_check_place cd_check_place ct_check_place:Value} {f_neighbours:Addr} {od_neighbours an_neighbours:Option Addr} {sl_neighbours:Array (Option Value)} {oc_neighbours kV_neighbours dc_neighbours pm_neighbours cd_neighbours ct_neighbours:Value} {f_kids:Addr} {od_kids an_kids:Option Addr} {sl_kids:Array (Option Value)} {oc_kids kV_kids dc_kids pm_kids cd_kids ct_kids:Value} {f_ahead:Addr} {od_ahead an_ahead:Option Addr} {sl_ahead:Array (Option Value)} {oc_ahead kV_ahead dc_ahead pm_ahead cd_ahead ct_ahead:Value} {f_down:Addr} {od_down an_down:Option Addr} {sl_down:Array (Option Value)} {oc_down kV_down dc_down pm_down cd_down ct_down:Value} {f_inward:Addr} {od_inward an_inward:Option Addr} {sl_inward:Array (Option Value)} {oc_inward kV_inward dc_inward pm_inward cd_inward ct_inward:Value} {f_is_filled:Addr} {od_is_filled an_is_filled:Option Addr} {sl_is_filled:Array (Option Value)} {oc_is_filled kV_is_filled dc_is_filled pm_is_filled cd_is_filled ct_is_filled:Value} {f_laying_of:Addr} {od_laying_of an_laying_of:Option Addr} {sl_laying_of:Array (Option Value)} {oc_laying_of kV_laying_of dc_laying_of pm_laying_of cd_laying_of ct_laying_of:Value} {f_toll:Addr} {od_toll an_toll:Option Addr} {sl_toll:Array (Option Value)} {oc_toll kV_toll dc_toll pm_toll cd_toll ct_toll:Value} {f_gathered:Addr} {od_gathered an_gathered:Option Addr} {sl_gathered:Array (Option Value)} {oc_gathered kV_gathered dc_gathered pm_gathered cd_gathered ct_gathered:Value} {f_bring:Addr} {od_bring an_bring:Option Addr} {sl_bring:Array (Option Value)} {oc_bring kV_bring dc_bring pm_bring cd_bring ct_bring:Value} {f_less:Addr} {od_less an_less:Option Addr} {sl_less:Array (Option Value)} {oc_less kV_less dc_less pm_less cd_less ct_less:Value} {f_most:Addr} {od_most an_most:Option Addr} {sl_most:Array (Option Value)} {oc_most kV_most dc_most pm_most cd_most ct_most:Value} {f_taken:Addr} {od_taken an_taken:Option Addr} {sl_taken:Array (Option Value)} {oc_taken kV_taken dc_taken pm_taken cd_taken ct_taken:Value} {f_behind:Addr} {od_behind an_behind:Option Addr} {sl_behind:Array (Option Value)} {oc_behind kV_behind dc_behind pm_behind cd_behind ct_behind:Value} {f_is_step:Addr} {od_is_step an_is_step:Option Addr} {sl_is_step:Array (Option Value)} {oc_is_step kV_is_step dc_is_step pm_is_step cd_is_step ct_is_step:Value} {f_can_be_done:Addr} {od_can_be_done an_can_be_done:Option Addr} {sl_can_be_done:Array (Option Value)} {oc_can_be_done kV_can_be_done dc_can_be_done pm_can_be_done cd_can_be_done ct_can_be_done:Value} {f_layings:Addr} {od_layings an_layings:Option Addr} {sl_layings:Array (Option Value)} {oc_layings kV_layings dc_layings pm_layings cd_layings ct_layings:Value} {f_walked:Addr} {od_walked an_walked:Option Addr} {sl_walked:Array (Option Value)} {oc_walked kV_walked dc_walked pm_walked cd_walked ct_walked:Value} {f_sum_up:Addr} {od_sum_up an_sum_up:Option Addr} {sl_sum_up:Array (Option Value)} {oc_sum_up kV_sum_up dc_sum_up pm_sum_up cd_sum_up ct_sum_up:Value} {f_divided_up:Addr} {od_divided_up an_divided_up:Option Addr} {sl_divided_up:Array (Option Value)} {oc_divided_up kV_divided_up dc_divided_up pm_divided_up cd_divided_up ct_divided_up:Value} {f_prices_to:Addr} {od_prices_to an_prices_to:Option Addr} {sl_prices_to:Array (Option Value)} {oc_prices_to kV_prices_to dc_prices_to pm_prices_to cd_prices_to ct_prices_to:Value} {f_worth:Addr} {od_worth an_worth:Option Addr} {sl_worth:Array (Option Value)} {oc_worth kV_worth dc_worth pm_worth cd_worth ct_worth:Value} {f_law_worths_right:Addr} {od_law_worths_right an_law_worths_right:Option Addr} {sl_law_worths_right:Array (Option Value)} {oc_law_worths_right kV_law_worths_right dc_law_worths_right pm_law_worths_right cd_law_worths_right ct_law_worths_right:Value} {f_plus:Addr} {od_plus an_plus:Option Addr} {sl_plus:Array (Option Value)} {oc_plus kV_plus dc_plus pm_plus cd_plus ct_plus:Value} {f_minus:Addr} {od_minus an_minus:Option Addr} {sl_minus:Array (Option Value)} {oc_minus kV_minus dc_minus pm_minus cd_minus ct_minus:Value} {f_road_part:Addr} {od_road_part an_road_part:Option Addr} {sl_road_part:Array (Option Value)} {oc_road_part kV_road_part dc_road_part pm_road_part cd_road_part ct_road_part:Value} {f_even_share:Addr} {od_even_share an_even_share:Option Addr} {sl_even_share:Array (Option Value)} {oc_even_share kV_even_share dc_even_share pm_even_share cd_even_share ct_even_share:Value} {f_even_shares:Addr} {od_even_shares an_even_shares:Option Addr} {sl_even_shares:Array (Option Value)} {oc_even_shares kV_even_shares dc_even_shares pm_even_shares cd_even_shares ct_even_shares:Value} {f_is_below:Addr} {od_is_below an_is_below:Option Addr} {sl_is_below:Array (Option Value)} {oc_is_below kV_is_below dc_is_below pm_is_below cd_is_below ct_is_below:Value} {f_second_share:Addr} {od_second_share an_second_share:Option Addr} {sl_second_share:Array (Option Value)} {oc_second_share kV_second_share dc_second_share pm_second_share cd_second_share ct_second_share:Value} {f_second_shares:Addr} {od_second_shares an_second_shares:Option Addr} {sl_second_shares:Array (Option Value)} {oc_second_shares kV_second_shares dc_second_shares pm_second_shares cd_second_shares ct_second_shares:Value} {f_fairest:Addr} {od_fairest an_fairest:Option Addr} {sl_fairest:Array (Option Value)} {oc_fairest kV_fairest dc_fairest pm_fairest cd_fairest ct_fairest:Value} {f_times:Addr} {od_times an_times:Option Addr} {sl_times:Array (Option Value)} {oc_times kV_times dc_times pm_times cd_times ct_times:Value} {f_law:Addr} {od_law an_law:Option Addr} {sl_law:Array (Option Value)} {oc_law kV_law dc_law pm_law cd_law ct_law:Value} {t_MOST_PLACES:Tok} {t_LEAST_TOLL:Tok} {t_MOST_TOLL:Tok} {C_NOUGHT:Addr} {t1_NOUGHT t2_NOUGHT:Tok} {n_NOUGHT:Nat} {d_NOUGHT:Option Addr} {s_NOUGHT:Array (Option Value)} {C_ONE:Addr} {t1_ONE t2_ONE:Tok} {n_ONE:Nat} {d_ONE:Option Addr} {s_ONE:Array (Option Value)} (X:K.In h) (G:h.Ns mainGlobals mg) (hfa:mg "law"=some (.ref fa))
   (ac_BadWeb:PySem.W.nsIn K mainGlobals "BadWeb"=some (some (.ref C_BadWeb)))
   (ac_NoPlace:PySem.W.nsIn K mainGlobals "NoPlace"=some (some (.ref C_NoPlace)))
   (ac_NoRoad:PySem.W.nsIn K mainGlobals "NoRoad"=some (some (.ref C_NoRoad)))
   (ac_BadLaying:PySem.W.nsIn K mainGlobals "BadLaying"=some (some (.ref C_BadLaying)))
   (ac_BadStep:PySem.W.nsIn K mainGlobals "BadStep"=some (some (.ref C_BadStep)))
   (ac_Web:PySem.W.nsIn K mainGlobals "Web"=some (some (.ref C_Web)))
   (xl_NoPlace:K.lookup C_NoPlace=some ⟨xc_NoPlace,xd_NoPlace,.cls xk_NoPlace,xs_NoPlace⟩)
   (xe_NoPlace:(⟨xc_NoPlace,xd_NoPlace,.cls xk_NoPlace,xs_NoPlace⟩:Obj)=excClassObj qn_NoPlace qq_NoPlace C_NoPlace qN_NoPlace qb_NoPlace qm_NoPlace qh_NoPlace qs_NoPlace qu_NoPlace qa_NoPlace qc_NoPlace qd_NoPlace q0_NoPlace q1_NoPlace q2_NoPlace q3_NoPlace q5_NoPlace "ValueError.__new__")
   (xf_NoPlace:PySem.W.nsOkIn K qN_NoPlace=true)
   (xj_NoPlace:PySem.W.nsIn K qN_NoPlace "__init__"=some none)
   (xp_NoPlace:PySem.W.tailIn K bmV qm_NoPlace=true)
   (xl_NoRoad:K.lookup C_NoRoad=some ⟨xc_NoRoad,xd_NoRoad,.cls xk_NoRoad,xs_NoRoad⟩)
   (xe_NoRoad:(⟨xc_NoRoad,xd_NoRoad,.cls xk_NoRoad,xs_NoRoad⟩:Obj)=excClassObj qn_NoRoad qq_NoRoad C_NoRoad qN_NoRoad qb_NoRoad qm_NoRoad qh_NoRoad qs_NoRoad qu_NoRoad qa_NoRoad qc_NoRoad qd_NoRoad q0_NoRoad q1_NoRoad q2_NoRoad q3_NoRoad q5_NoRoad "ValueError.__new__")
   (xf_NoRoad:PySem.W.nsOkIn K qN_NoRoad=true)
   (xj_NoRoad:PySem.W.nsIn K qN_NoRoad "__init__"=some none)
   (xp_NoRoad:PySem.W.tailIn K bmV qm_NoRoad=true)
   (xl_BadLaying:K.lookup C_BadLaying=some ⟨xc_BadLaying,xd_BadLaying,.cls xk_BadLaying,xs_BadLaying⟩)
   (xe_BadLaying:(⟨xc_BadLaying,xd_BadLaying,.cls xk_BadLaying,xs_BadLaying⟩:Obj)=excClassObj qn_BadLaying qq_BadLaying C_BadLaying qN_BadLaying qb_BadLaying qm_BadLaying qh_BadLaying qs_BadLaying qu_BadLaying qa_BadLaying qc_BadLaying qd_BadLaying q0_BadLaying q1_BadLaying q2_BadLaying q3_BadLaying q5_BadLaying "ValueError.__new__")
   (xf_BadLaying:PySem.W.nsOkIn K qN_BadLaying=true)
   (xj_BadLaying:PySem.W.nsIn K qN_BadLaying "__init__"=some none)
   (xp_BadLaying:PySem.W.tailIn K bmV qm_BadLaying=true)
   (a_check_counts:PySem.W.nsIn K mainGlobals "check_counts"=some (some (.ref f_check_counts)))
   (l_check_counts:K.lookup f_check_counts=some ⟨oc_check_counts,od_check_counts,.func (PySem.W.fnOf "check_counts" "check_counts" (az bc) (aw bc) (aa bc) .none kV_check_counts dc_check_counts pm_check_counts an_check_counts cd_check_counts ct_check_counts),sl_check_counts⟩)
   (c_check_counts:PySem.W.codeIn K cd_check_counts "check_counts"=true)
   (k_check_counts:PySem.W.keepIn K (.ref f_check_counts)=true)
   (a_is_place:PySem.W.nsIn K mainGlobals "is_place"=some (some (.ref f_is_place)))
   (l_is_place:K.lookup f_is_place=some ⟨oc_is_place,od_is_place,.func (PySem.W.fnOf "is_place" "is_place" (az ce) (aw ce) (aa ce) .none kV_is_place dc_is_place pm_is_place an_is_place cd_is_place ct_is_place),sl_is_place⟩)
   (c_is_place:PySem.W.codeIn K cd_is_place "is_place"=true)
   (k_is_place:PySem.W.keepIn K (.ref f_is_place)=true)
   (a_check_ends:PySem.W.nsIn K mainGlobals "check_ends"=some (some (.ref f_check_ends)))
   (l_check_ends:K.lookup f_check_ends=some ⟨oc_check_ends,od_check_ends,.func (PySem.W.fnOf "check_ends" "check_ends" (az bK) (aw bK) (aa bK) .none kV_check_ends dc_check_ends pm_check_ends an_check_ends cd_check_ends ct_check_ends),sl_check_ends⟩)
   (c_check_ends:PySem.W.codeIn K cd_check_ends "check_ends"=true)
   (k_check_ends:PySem.W.keepIn K (.ref f_check_ends)=true)
   (a_other_ends:PySem.W.nsIn K mainGlobals "other_ends"=some (some (.ref f_other_ends)))
   (l_other_ends:K.lookup f_other_ends=some ⟨oc_other_ends,od_other_ends,.func (PySem.W.fnOf "other_ends" "other_ends" (az bE) (aw bE) (aa bE) .none kV_other_ends dc_other_ends pm_other_ends an_other_ends cd_other_ends ct_other_ends),sl_other_ends⟩)
   (c_other_ends:PySem.W.codeIn K cd_other_ends "other_ends"=true)
   (k_other_ends:PySem.W.keepIn K (.ref f_other_ends)=true)
   (a_check_joined:PySem.W.nsIn K mainGlobals "check_joined"=some (some (.ref f_check_joined)))
   (l_check_joined:K.lookup f_check_joined=some ⟨oc_check_joined,od_check_joined,.func (PySem.W.fnOf "check_joined" "check_joined" (az aM) (aw aM) (aa aM) .none kV_check_joined dc_check_joined pm_check_joined an_check_joined cd_check_joined ct_check_joined),sl_check_joined⟩)
   (c_check_joined:PySem.W.codeIn K cd_check_joined "check_joined"=true)
   (k_check_joined:PySem.W.keepIn K (.ref f_check_joined)=true)
   (a_check_tolls:PySem.W.nsIn K mainGlobals "check_tolls"=some (some (.ref f_check_tolls)))
   (l_check_tolls:K.lookup f_check_tolls=some ⟨oc_check_tolls,od_check_tolls,.func (PySem.W.fnOf "check_tolls" "check_tolls" (az bi) (aw bi) (aa bi) .none kV_check_tolls dc_check_tolls pm_check_tolls an_check_tolls cd_check_tolls ct_check_tolls),sl_check_tolls⟩)
   (c_check_tolls:PySem.W.codeIn K cd_check_tolls "check_tolls"=true)
   (k_check_tolls:PySem.W.keepIn K (.ref f_check_tolls)=true)
   (a_Web___init__:PySem.W.findIn K (.ref C_Web) "__init__"=some (some (.ref f_Web___init__)))
   (i_Web___init__:PySem.W.isFn K (.ref f_Web___init__)=true)
   (l_Web___init__:K.lookup f_Web___init__=some ⟨oc_Web___init__,od_Web___init__,.func (PySem.W.fnOf "__init__" "Web.__init__" (az aN) (aw aN) (aa aN) .none kV_Web___init__ dc_Web___init__ pm_Web___init__ an_Web___init__ cd_Web___init__ ct_Web___init__),sl_Web___init__⟩)
   (c_Web___init__:PySem.W.codeIn K cd_Web___init__ "Web.__init__"=true)
   (k_Web___init__:PySem.W.keepIn K (.ref f_Web___init__)=true)
   (a_law_drawn:PySem.W.nsIn K mainGlobals "_law_drawn"=some (some (.ref f_law_drawn)))
   (l_law_drawn:K.lookup f_law_drawn=some ⟨oc_law_drawn,od_law_drawn,.func (PySem.W.fnOf "_law_drawn" "_law_drawn" (az aZ) (aw aZ) (aa aZ) .none kV_law_drawn dc_law_drawn pm_law_drawn an_law_drawn cd_law_drawn ct_law_drawn),sl_law_drawn⟩)
   (c_law_drawn:PySem.W.codeIn K cd_law_drawn "_law_drawn"=true)
   (k_law_drawn:PySem.W.keepIn K (.ref f_law_drawn)=true)
   (a_law_bound:PySem.W.nsIn K mainGlobals "_law_bound"=some (some (.ref f_law_bound)))
   (l_law_bound:K.lookup f_law_bound=some ⟨oc_law_bound,od_law_bound,.func (PySem.W.fnOf "_law_bound" "_law_bound" (az b9) (aw b9) (aa b9) .none kV_law_bound dc_law_bound pm_law_bound an_law_bound cd_law_bound ct_law_bound),sl_law_bound⟩)
   (c_law_bound:PySem.W.codeIn K cd_law_bound "_law_bound"=true)
   (k_law_bound:PySem.W.keepIn K (.ref f_law_bound)=true)
   (a_law_laying:PySem.W.nsIn K mainGlobals "_law_laying"=some (some (.ref f_law_laying)))
   (l_law_laying:K.lookup f_law_laying=some ⟨oc_law_laying,od_law_laying,.func (PySem.W.fnOf "_law_laying" "_law_laying" (az aU) (aw aU) (aa aU) .none kV_law_laying dc_law_laying pm_law_laying an_law_laying cd_law_laying ct_law_laying),sl_law_laying⟩)
   (c_law_laying:PySem.W.codeIn K cd_law_laying "_law_laying"=true)
   (k_law_laying:PySem.W.keepIn K (.ref f_law_laying)=true)
   (a_law_toll:PySem.W.nsIn K mainGlobals "_law_toll"=some (some (.ref f_law_toll)))
   (l_law_toll:K.lookup f_law_toll=some ⟨oc_law_toll,od_law_toll,.func (PySem.W.fnOf "_law_toll" "_law_toll" (az cJ) (aw cJ) (aa cJ) .none kV_law_toll dc_law_toll pm_law_toll an_law_toll cd_law_toll ct_law_toll),sl_law_toll⟩)
   (c_law_toll:PySem.W.codeIn K cd_law_toll "_law_toll"=true)
   (k_law_toll:PySem.W.keepIn K (.ref f_law_toll)=true)
   (a_law_roads:PySem.W.nsIn K mainGlobals "_law_roads"=some (some (.ref f_law_roads)))
   (l_law_roads:K.lookup f_law_roads=some ⟨oc_law_roads,od_law_roads,.func (PySem.W.fnOf "_law_roads" "_law_roads" (az aR) (aw aR) (aa aR) .none kV_law_roads dc_law_roads pm_law_roads an_law_roads cd_law_roads ct_law_roads),sl_law_roads⟩)
   (c_law_roads:PySem.W.codeIn K cd_law_roads "_law_roads"=true)
   (k_law_roads:PySem.W.keepIn K (.ref f_law_roads)=true)
   (a_common_divisor:PySem.W.nsIn K mainGlobals "common_divisor"=some (some (.ref f_common_divisor)))
   (l_common_divisor:K.lookup f_common_divisor=some ⟨oc_common_divisor,od_common_divisor,.func (PySem.W.fnOf "common_divisor" "common_divisor" (az aS) (aw aS) (aa aS) .none kV_common_divisor dc_common_divisor pm_common_divisor an_common_divisor cd_common_divisor ct_common_divisor),sl_common_divisor⟩)
   (c_common_divisor:PySem.W.codeIn K cd_common_divisor "common_divisor"=true)
   (k_common_divisor:PySem.W.keepIn K (.ref f_common_divisor)=true)
   (a_fraction:PySem.W.nsIn K mainGlobals "fraction"=some (some (.ref f_fraction)))
   (l_fraction:K.lookup f_fraction=some ⟨oc_fraction,od_fraction,.func (PySem.W.fnOf "fraction" "fraction" (az be) (aw be) (aa be) .none kV_fraction dc_fraction pm_fraction an_fraction cd_fraction ct_fraction),sl_fraction⟩)
   (c_fraction:PySem.W.codeIn K cd_fraction "fraction"=true)
   (k_fraction:PySem.W.keepIn K (.ref f_fraction)=true)
   (a_law_shares:PySem.W.nsIn K mainGlobals "_law_shares"=some (some (.ref f_law_shares)))
   (l_law_shares:K.lookup f_law_shares=some ⟨oc_law_shares,od_law_shares,.func (PySem.W.fnOf "_law_shares" "_law_shares" (az cq) (aw cq) (aa cq) .none kV_law_shares dc_law_shares pm_law_shares an_law_shares cd_law_shares ct_law_shares),sl_law_shares⟩)
   (c_law_shares:PySem.W.codeIn K cd_law_shares "_law_shares"=true)
   (k_law_shares:PySem.W.keepIn K (.ref f_law_shares)=true)
   (a_check_place:PySem.W.nsIn K mainGlobals "check_place"=some (some (.ref f_check_place)))
   (l_check_place:K.lookup f_check_place=some ⟨oc_check_place,od_check_place,.func (PySem.W.fnOf "check_place" "check_place" (az bd) (aw bd) (aa bd) .none kV_check_place dc_check_place pm_check_place an_check_place cd_check_place ct_check_place),sl_check_place⟩)
   (c_check_place:PySem.W.codeIn K cd_check_place "check_place"=true)
   (k_check_place:PySem.W.keepIn K (.ref f_check_place)=true)
   (a_neighbours:PySem.W.nsIn K mainGlobals "neighbours"=some (some (.ref f_neighbours)))
   (l_neighbours:K.lookup f_neighbours=some ⟨oc_neighbours,od_neighbours,.func (PySem.W.fnOf "neighbours" "neighbours" (az aV) (aw aV) (aa aV) .none kV_neighbours dc_neighbours pm_neighbours an_neighbours cd_neighbours ct_neighbours),sl_neighbours⟩)
   (c_neighbours:PySem.W.codeIn K cd_neighbours "neighbours"=true)
   (k_neighbours:PySem.W.keepIn K (.ref f_neighbours)=true)
   (a_kids:PySem.W.nsIn K mainGlobals "kids"=some (some (.ref f_kids)))
   (l_kids:K.lookup f_kids=some ⟨oc_kids,od_kids,.func (PySem.W.fnOf "kids" "kids" (az df) (aw df) (aa df) .none kV_kids dc_kids pm_kids an_kids cd_kids ct_kids),sl_kids⟩)
   (c_kids:PySem.W.codeIn K cd_kids "kids"=true)
   (k_kids:PySem.W.keepIn K (.ref f_kids)=true)
   (a_ahead:PySem.W.nsIn K mainGlobals "ahead"=some (some (.ref f_ahead)))
   (l_ahead:K.lookup f_ahead=some ⟨oc_ahead,od_ahead,.func (PySem.W.fnOf "ahead" "ahead" (az bZ) (aw bZ) (aa bZ) .none kV_ahead dc_ahead pm_ahead an_ahead cd_ahead ct_ahead),sl_ahead⟩)
   (c_ahead:PySem.W.codeIn K cd_ahead "ahead"=true)
   (k_ahead:PySem.W.keepIn K (.ref f_ahead)=true)
   (a_down:PySem.W.nsIn K mainGlobals "down"=some (some (.ref f_down)))
   (l_down:K.lookup f_down=some ⟨oc_down,od_down,.func (PySem.W.fnOf "down" "down" (az cA) (aw cA) (aa cA) .none kV_down dc_down pm_down an_down cd_down ct_down),sl_down⟩)
   (c_down:PySem.W.codeIn K cd_down "down"=true)
   (k_down:PySem.W.keepIn K (.ref f_down)=true)
   (a_inward:PySem.W.nsIn K mainGlobals "inward"=some (some (.ref f_inward)))
   (l_inward:K.lookup f_inward=some ⟨oc_inward,od_inward,.func (PySem.W.fnOf "inward" "inward" (az bO) (aw bO) (aa bO) .none kV_inward dc_inward pm_inward an_inward cd_inward ct_inward),sl_inward⟩)
   (c_inward:PySem.W.codeIn K cd_inward "inward"=true)
   (k_inward:PySem.W.keepIn K (.ref f_inward)=true)
   (a_is_filled:PySem.W.nsIn K mainGlobals "is_filled"=some (some (.ref f_is_filled)))
   (l_is_filled:K.lookup f_is_filled=some ⟨oc_is_filled,od_is_filled,.func (PySem.W.fnOf "is_filled" "is_filled" (az bQ) (aw bQ) (aa bQ) .none kV_is_filled dc_is_filled pm_is_filled an_is_filled cd_is_filled ct_is_filled),sl_is_filled⟩)
   (c_is_filled:PySem.W.codeIn K cd_is_filled "is_filled"=true)
   (k_is_filled:PySem.W.keepIn K (.ref f_is_filled)=true)
   (a_laying_of:PySem.W.nsIn K mainGlobals "laying_of"=some (some (.ref f_laying_of)))
   (l_laying_of:K.lookup f_laying_of=some ⟨oc_laying_of,od_laying_of,.func (PySem.W.fnOf "laying_of" "laying_of" (az bF) (aw bF) (aa bF) .none kV_laying_of dc_laying_of pm_laying_of an_laying_of cd_laying_of ct_laying_of),sl_laying_of⟩)
   (c_laying_of:PySem.W.codeIn K cd_laying_of "laying_of"=true)
   (k_laying_of:PySem.W.keepIn K (.ref f_laying_of)=true)
   (a_toll:PySem.W.nsIn K mainGlobals "toll"=some (some (.ref f_toll)))
   (l_toll:K.lookup f_toll=some ⟨oc_toll,od_toll,.func (PySem.W.fnOf "toll" "toll" (az bU) (aw bU) (aa bU) .none kV_toll dc_toll pm_toll an_toll cd_toll ct_toll),sl_toll⟩)
   (c_toll:PySem.W.codeIn K cd_toll "toll"=true)
   (k_toll:PySem.W.keepIn K (.ref f_toll)=true)
   (a_gathered:PySem.W.nsIn K mainGlobals "gathered"=some (some (.ref f_gathered)))
   (l_gathered:K.lookup f_gathered=some ⟨oc_gathered,od_gathered,.func (PySem.W.fnOf "gathered" "gathered" (az aX) (aw aX) (aa aX) .none kV_gathered dc_gathered pm_gathered an_gathered cd_gathered ct_gathered),sl_gathered⟩)
   (c_gathered:PySem.W.codeIn K cd_gathered "gathered"=true)
   (k_gathered:PySem.W.keepIn K (.ref f_gathered)=true)
   (a_bring:PySem.W.nsIn K mainGlobals "bring"=some (some (.ref f_bring)))
   (l_bring:K.lookup f_bring=some ⟨oc_bring,od_bring,.func (PySem.W.fnOf "bring" "bring" (az bT) (aw bT) (aa bT) .none kV_bring dc_bring pm_bring an_bring cd_bring ct_bring),sl_bring⟩)
   (c_bring:PySem.W.codeIn K cd_bring "bring"=true)
   (k_bring:PySem.W.keepIn K (.ref f_bring)=true)
   (a_less:PySem.W.nsIn K mainGlobals "less"=some (some (.ref f_less)))
   (l_less:K.lookup f_less=some ⟨oc_less,od_less,.func (PySem.W.fnOf "less" "less" (az dM) (aw dM) (aa dM) .none kV_less dc_less pm_less an_less cd_less ct_less),sl_less⟩)
   (c_less:PySem.W.codeIn K cd_less "less"=true)
   (k_less:PySem.W.keepIn K (.ref f_less)=true)
   (a_most:PySem.W.nsIn K mainGlobals "most"=some (some (.ref f_most)))
   (l_most:K.lookup f_most=some ⟨oc_most,od_most,.func (PySem.W.fnOf "most" "most" (az dq) (aw dq) (aa dq) .none kV_most dc_most pm_most an_most cd_most ct_most),sl_most⟩)
   (c_most:PySem.W.codeIn K cd_most "most"=true)
   (k_most:PySem.W.keepIn K (.ref f_most)=true)
   (a_taken:PySem.W.nsIn K mainGlobals "taken"=some (some (.ref f_taken)))
   (l_taken:K.lookup f_taken=some ⟨oc_taken,od_taken,.func (PySem.W.fnOf "taken" "taken" (az c9) (aw c9) (aa c9) .none kV_taken dc_taken pm_taken an_taken cd_taken ct_taken),sl_taken⟩)
   (c_taken:PySem.W.codeIn K cd_taken "taken"=true)
   (k_taken:PySem.W.keepIn K (.ref f_taken)=true)
   (a_behind:PySem.W.nsIn K mainGlobals "behind"=some (some (.ref f_behind)))
   (l_behind:K.lookup f_behind=some ⟨oc_behind,od_behind,.func (PySem.W.fnOf "behind" "behind" (az cg) (aw cg) (aa cg) .none kV_behind dc_behind pm_behind an_behind cd_behind ct_behind),sl_behind⟩)
   (c_behind:PySem.W.codeIn K cd_behind "behind"=true)
   (k_behind:PySem.W.keepIn K (.ref f_behind)=true)
   (a_is_step:PySem.W.nsIn K mainGlobals "is_step"=some (some (.ref f_is_step)))
   (l_is_step:K.lookup f_is_step=some ⟨oc_is_step,od_is_step,.func (PySem.W.fnOf "is_step" "is_step" (az cz) (aw cz) (aa cz) .none kV_is_step dc_is_step pm_is_step an_is_step cd_is_step ct_is_step),sl_is_step⟩)
   (c_is_step:PySem.W.codeIn K cd_is_step "is_step"=true)
   (k_is_step:PySem.W.keepIn K (.ref f_is_step)=true)
   (a_can_be_done:PySem.W.nsIn K mainGlobals "can_be_done"=some (some (.ref f_can_be_done)))
   (l_can_be_done:K.lookup f_can_be_done=some ⟨oc_can_be_done,od_can_be_done,.func (PySem.W.fnOf "can_be_done" "can_be_done" (az bn) (aw bn) (aa bn) .none kV_can_be_done dc_can_be_done pm_can_be_done an_can_be_done cd_can_be_done ct_can_be_done),sl_can_be_done⟩)
   (c_can_be_done:PySem.W.codeIn K cd_can_be_done "can_be_done"=true)
   (k_can_be_done:PySem.W.keepIn K (.ref f_can_be_done)=true)
   (a_layings:PySem.W.nsIn K mainGlobals "layings"=some (some (.ref f_layings)))
   (l_layings:K.lookup f_layings=some ⟨oc_layings,od_layings,.func (PySem.W.fnOf "layings" "layings" (az bu) (aw bu) (aa bu) .none kV_layings dc_layings pm_layings an_layings cd_layings ct_layings),sl_layings⟩)
   (c_layings:PySem.W.codeIn K cd_layings "layings"=true)
   (k_layings:PySem.W.keepIn K (.ref f_layings)=true)
   (a_walked:PySem.W.nsIn K mainGlobals "walked"=some (some (.ref f_walked)))
   (l_walked:K.lookup f_walked=some ⟨oc_walked,od_walked,.func (PySem.W.fnOf "walked" "walked" (az cH) (aw cH) (aa cH) .none kV_walked dc_walked pm_walked an_walked cd_walked ct_walked),sl_walked⟩)
   (c_walked:PySem.W.codeIn K cd_walked "walked"=true)
   (k_walked:PySem.W.keepIn K (.ref f_walked)=true)
   (a_sum_up:PySem.W.nsIn K mainGlobals "sum_up"=some (some (.ref f_sum_up)))
   (l_sum_up:K.lookup f_sum_up=some ⟨oc_sum_up,od_sum_up,.func (PySem.W.fnOf "sum_up" "sum_up" (az bH) (aw bH) (aa bH) .none kV_sum_up dc_sum_up pm_sum_up an_sum_up cd_sum_up ct_sum_up),sl_sum_up⟩)
   (c_sum_up:PySem.W.codeIn K cd_sum_up "sum_up"=true)
   (k_sum_up:PySem.W.keepIn K (.ref f_sum_up)=true)
   (a_divided_up:PySem.W.nsIn K mainGlobals "divided_up"=some (some (.ref f_divided_up)))
   (l_divided_up:K.lookup f_divided_up=some ⟨oc_divided_up,od_divided_up,.func (PySem.W.fnOf "divided_up" "divided_up" (az bJ) (aw bJ) (aa bJ) .none kV_divided_up dc_divided_up pm_divided_up an_divided_up cd_divided_up ct_divided_up),sl_divided_up⟩)
   (c_divided_up:PySem.W.codeIn K cd_divided_up "divided_up"=true)
   (k_divided_up:PySem.W.keepIn K (.ref f_divided_up)=true)
   (a_prices_to:PySem.W.nsIn K mainGlobals "prices_to"=some (some (.ref f_prices_to)))
   (l_prices_to:K.lookup f_prices_to=some ⟨oc_prices_to,od_prices_to,.func (PySem.W.fnOf "prices_to" "prices_to" (az bf) (aw bf) (aa bf) .none kV_prices_to dc_prices_to pm_prices_to an_prices_to cd_prices_to ct_prices_to),sl_prices_to⟩)
   (c_prices_to:PySem.W.codeIn K cd_prices_to "prices_to"=true)
   (k_prices_to:PySem.W.keepIn K (.ref f_prices_to)=true)
   (a_worth:PySem.W.nsIn K mainGlobals "worth"=some (some (.ref f_worth)))
   (l_worth:K.lookup f_worth=some ⟨oc_worth,od_worth,.func (PySem.W.fnOf "worth" "worth" (az cP) (aw cP) (aa cP) .none kV_worth dc_worth pm_worth an_worth cd_worth ct_worth),sl_worth⟩)
   (c_worth:PySem.W.codeIn K cd_worth "worth"=true)
   (k_worth:PySem.W.keepIn K (.ref f_worth)=true)
   (a_law_worths_right:PySem.W.nsIn K mainGlobals "_law_worths_right"=some (some (.ref f_law_worths_right)))
   (l_law_worths_right:K.lookup f_law_worths_right=some ⟨oc_law_worths_right,od_law_worths_right,.func (PySem.W.fnOf "_law_worths_right" "_law_worths_right" (az au) (aw au) (aa au) .none kV_law_worths_right dc_law_worths_right pm_law_worths_right an_law_worths_right cd_law_worths_right ct_law_worths_right),sl_law_worths_right⟩)
   (c_law_worths_right:PySem.W.codeIn K cd_law_worths_right "_law_worths_right"=true)
   (k_law_worths_right:PySem.W.keepIn K (.ref f_law_worths_right)=true)
   (a_plus:PySem.W.nsIn K mainGlobals "plus"=some (some (.ref f_plus)))
   (l_plus:K.lookup f_plus=some ⟨oc_plus,od_plus,.func (PySem.W.fnOf "plus" "plus" (az d4) (aw d4) (aa d4) .none kV_plus dc_plus pm_plus an_plus cd_plus ct_plus),sl_plus⟩)
   (c_plus:PySem.W.codeIn K cd_plus "plus"=true)
   (k_plus:PySem.W.keepIn K (.ref f_plus)=true)
   (a_minus:PySem.W.nsIn K mainGlobals "minus"=some (some (.ref f_minus)))
   (l_minus:K.lookup f_minus=some ⟨oc_minus,od_minus,.func (PySem.W.fnOf "minus" "minus" (az c6) (aw c6) (aa c6) .none kV_minus dc_minus pm_minus an_minus cd_minus ct_minus),sl_minus⟩)
   (c_minus:PySem.W.codeIn K cd_minus "minus"=true)
   (k_minus:PySem.W.keepIn K (.ref f_minus)=true)
   (a_road_part:PySem.W.nsIn K mainGlobals "road_part"=some (some (.ref f_road_part)))
   (l_road_part:K.lookup f_road_part=some ⟨oc_road_part,od_road_part,.func (PySem.W.fnOf "road_part" "road_part" (az bP) (aw bP) (aa bP) .none kV_road_part dc_road_part pm_road_part an_road_part cd_road_part ct_road_part),sl_road_part⟩)
   (c_road_part:PySem.W.codeIn K cd_road_part "road_part"=true)
   (k_road_part:PySem.W.keepIn K (.ref f_road_part)=true)
   (a_even_share:PySem.W.nsIn K mainGlobals "even_share"=some (some (.ref f_even_share)))
   (l_even_share:K.lookup f_even_share=some ⟨oc_even_share,od_even_share,.func (PySem.W.fnOf "even_share" "even_share" (az aW) (aw aW) (aa aW) .none kV_even_share dc_even_share pm_even_share an_even_share cd_even_share ct_even_share),sl_even_share⟩)
   (c_even_share:PySem.W.codeIn K cd_even_share "even_share"=true)
   (k_even_share:PySem.W.keepIn K (.ref f_even_share)=true)
   (a_even_shares:PySem.W.nsIn K mainGlobals "even_shares"=some (some (.ref f_even_shares)))
   (l_even_shares:K.lookup f_even_shares=some ⟨oc_even_shares,od_even_shares,.func (PySem.W.fnOf "even_shares" "even_shares" (az bI) (aw bI) (aa bI) .none kV_even_shares dc_even_shares pm_even_shares an_even_shares cd_even_shares ct_even_shares),sl_even_shares⟩)
   (c_even_shares:PySem.W.codeIn K cd_even_shares "even_shares"=true)
   (k_even_shares:PySem.W.keepIn K (.ref f_even_shares)=true)
   (a_is_below:PySem.W.nsIn K mainGlobals "is_below"=some (some (.ref f_is_below)))
   (l_is_below:K.lookup f_is_below=some ⟨oc_is_below,od_is_below,.func (PySem.W.fnOf "is_below" "is_below" (az ck) (aw ck) (aa ck) .none kV_is_below dc_is_below pm_is_below an_is_below cd_is_below ct_is_below),sl_is_below⟩)
   (c_is_below:PySem.W.codeIn K cd_is_below "is_below"=true)
   (k_is_below:PySem.W.keepIn K (.ref f_is_below)=true)
   (a_second_share:PySem.W.nsIn K mainGlobals "second_share"=some (some (.ref f_second_share)))
   (l_second_share:K.lookup f_second_share=some ⟨oc_second_share,od_second_share,.func (PySem.W.fnOf "second_share" "second_share" (az aP) (aw aP) (aa aP) .none kV_second_share dc_second_share pm_second_share an_second_share cd_second_share ct_second_share),sl_second_share⟩)
   (c_second_share:PySem.W.codeIn K cd_second_share "second_share"=true)
   (k_second_share:PySem.W.keepIn K (.ref f_second_share)=true)
   (a_second_shares:PySem.W.nsIn K mainGlobals "second_shares"=some (some (.ref f_second_shares)))
   (l_second_shares:K.lookup f_second_shares=some ⟨oc_second_shares,od_second_shares,.func (PySem.W.fnOf "second_shares" "second_shares" (az bp) (aw bp) (aa bp) .none kV_second_shares dc_second_shares pm_second_shares an_second_shares cd_second_shares ct_second_shares),sl_second_shares⟩)
   (c_second_shares:PySem.W.codeIn K cd_second_shares "second_shares"=true)
   (k_second_shares:PySem.W.keepIn K (.ref f_second_shares)=true)
   (a_fairest:PySem.W.nsIn K mainGlobals "fairest"=some (some (.ref f_fairest)))
   (l_fairest:K.lookup f_fairest=some ⟨oc_fairest,od_fairest,.func (PySem.W.fnOf "fairest" "fairest" (az bL) (aw bL) (aa bL) .none kV_fairest dc_fairest pm_fairest an_fairest cd_fairest ct_fairest),sl_fairest⟩)
   (c_fairest:PySem.W.codeIn K cd_fairest "fairest"=true)
   (k_fairest:PySem.W.keepIn K (.ref f_fairest)=true)
   (a_times:PySem.W.nsIn K mainGlobals "times"=some (some (.ref f_times)))
   (l_times:K.lookup f_times=some ⟨oc_times,od_times,.func (PySem.W.fnOf "times" "times" (az dw) (aw dw) (aa dw) .none kV_times dc_times pm_times an_times cd_times ct_times),sl_times⟩)
   (c_times:PySem.W.codeIn K cd_times "times"=true)
   (k_times:PySem.W.keepIn K (.ref f_times)=true)
   (a_law:PySem.W.nsIn K mainGlobals "law"=some (some (.ref f_law)))
   (l_law:K.lookup f_law=some ⟨oc_law,od_law,.func (PySem.W.fnOf "law" "law" (az bA) (aw bA) (aa bA) .none kV_law dc_law pm_law an_law cd_law ct_law),sl_law⟩)
   (c_law:PySem.W.codeIn K cd_law "law"=true)
   (k_law:PySem.W.keepIn K (.ref f_law)=true)
   (pg_Web:PySem.W.plainGet K C_Web Str.empty=true)
   (hd_Web:PySem.W.hasDictIn K C_Web=true)
   (po_Web:PySem.W.plainOver K C_Web=true)
   (sa_Web:PySem.W.findIn K (.ref C_Web) "__setattr__"=some (some (.builtin "object.__setattr__")))
   (mk_Web:PySem.W.makesIn K C_Web=true)
   (kc_Web:PySem.W.keepIn K (.ref C_Web)=true)
   (nm_Web:PySem.W.findIn K (.ref C_Web) "many"=some none)
   (nr_Web:PySem.W.findIn K (.ref C_Web) "roads"=some none)
   (z_range:PySem.W.nsIn K mainGlobals "range"=some none)
   (z_zip:PySem.W.nsIn K mainGlobals "zip"=some none)
   (z_len:PySem.W.nsIn K mainGlobals "len"=some none)
   (z_all:PySem.W.nsIn K mainGlobals "all"=some none)
   (z_int:PySem.W.nsIn K mainGlobals "int"=some none)
   (z_tuple:PySem.W.nsIn K mainGlobals "tuple"=some none)
   (z_list:PySem.W.nsIn K mainGlobals "list"=some none)
   (z_reversed:PySem.W.nsIn K mainGlobals "reversed"=some none)
   (z_sorted:PySem.W.nsIn K mainGlobals "sorted"=some none)
   (z_min:PySem.W.nsIn K mainGlobals "min"=some none)
   (z_enumerate:PySem.W.nsIn K mainGlobals "enumerate"=some none)
   (z_sum:PySem.W.nsIn K mainGlobals "sum"=some none)
   (z_str:PySem.W.nsIn K mainGlobals "str"=some none)
   (z_abs:PySem.W.nsIn K mainGlobals "abs"=some none)
   (v_MOST_PLACES:PySem.W.nsIn K mainGlobals "MOST_PLACES"=some (some (.int 24 t_MOST_PLACES)))
   (v_LEAST_TOLL:PySem.W.nsIn K mainGlobals "LEAST_TOLL"=some (some (.int 2 t_LEAST_TOLL)))
   (v_MOST_TOLL:PySem.W.nsIn K mainGlobals "MOST_TOLL"=some (some (.int 1000000 t_MOST_TOLL)))
   (v_NOUGHT:PySem.W.nsIn K mainGlobals "NOUGHT"=some (some (.ref C_NOUGHT)))
   (vl_NOUGHT:K.lookup C_NOUGHT=some ⟨.type "tuple",d_NOUGHT,.seq #[.int 0 t1_NOUGHT,.int 1 t2_NOUGHT] n_NOUGHT,s_NOUGHT⟩)
   (v_ONE:PySem.W.nsIn K mainGlobals "ONE"=some (some (.ref C_ONE)))
   (vl_ONE:K.lookup C_ONE=some ⟨.type "tuple",d_ONE,.seq #[.int 1 t1_ONE,.int 1 t2_ONE] n_ONE,s_ONE⟩) :
   ∃ fd:FuncData,(∀ (s:Shared) (v:Value),BindsTo s fd ⟨[v],[]⟩ [("script",v)])∧∀ base:Heap,K.In base→base.Ns mainGlobals mg→FnOk l.prog w K mg base (CXe l.prog w) 11 fa fd ["script"] (o9 K):=by
 have e:=hfa.symm.trans (PySem.W.mg_of X G a_law)
 cases e
 let T:Txt K mg:=⟨C_BadWeb,PySem.W.mg_of X G ac_BadWeb,C_NoPlace,PySem.W.mg_of X G ac_NoPlace,C_NoRoad,PySem.W.mg_of X G ac_NoRoad,C_BadLaying,PySem.W.mg_of X G ac_BadLaying,C_BadStep,PySem.W.mg_of X G ac_BadStep,C_Web,PySem.W.mg_of X G ac_Web,mZ _ _ _ _ _ _ _ _ _ _ _ _ _ _ _ _ xl_NoPlace xe_NoPlace xf_NoPlace xj_NoPlace xp_NoPlace,mZ _ _ _ _ _ _ _ _ _ _ _ _ _ _ _ _ xl_NoRoad xe_NoRoad xf_NoRoad xj_NoRoad xp_NoRoad,mZ _ _ _ _ _ _ _ _ _ _ _ _ _ _ _ _ xl_BadLaying xe_BadLaying xf_BadLaying xj_BadLaying xp_BadLaying,PySem.W.mg_none_of X G z_range,PySem.W.mg_none_of X G z_zip,PySem.W.mg_none_of X G z_len,PySem.W.mg_none_of X G z_all,PySem.W.mg_none_of X G z_int,PySem.W.mg_none_of X G z_tuple,PySem.W.mg_none_of X G z_list,PySem.W.mg_none_of X G z_reversed,PySem.W.mg_none_of X G z_sorted,PySem.W.mg_none_of X G z_min,PySem.W.mg_none_of X G z_enumerate,PySem.W.mg_none_of X G z_sum,PySem.W.mg_none_of X G z_str,PySem.W.mg_none_of X G z_abs,⟨_,PySem.W.mg_of X G v_MOST_PLACES⟩,⟨_,PySem.W.mg_of X G v_LEAST_TOLL⟩,⟨_,PySem.W.mg_of X G v_MOST_TOLL⟩,C_NOUGHT,PySem.W.mg_of X G v_NOUGHT,zJ vl_NOUGHT,C_ONE,PySem.W.mg_of X G v_ONE,zJ vl_ONE,⟨pg_Web,hd_Web,po_Web,sa_Web⟩,nm_Web,nr_Web⟩
 have F_check_counts:=aF (st:=bc) l_check_counts c_check_counts k_check_counts
 have b_check_counts:=F_check_counts.binds (ps:=["many","roads"]) fun _ _ _ _ _ _ us hl=>by obtain ⟨u0,u1,rfl⟩:=us2 hl; rfl
 have D_check_counts:Df K mg "check_counts" bc ["many","roads"] f_check_counts _:=⟨F_check_counts,PySem.W.mg_of X G a_check_counts,b_check_counts⟩
 have F_is_place:=aF (st:=ce) l_is_place c_is_place k_is_place
 have b_is_place:=F_is_place.binds (ps:=["many","number"]) fun _ _ _ _ _ _ us hl=>by obtain ⟨u0,u1,rfl⟩:=us2 hl; rfl
 have D_is_place:Df K mg "is_place" ce ["many","number"] f_is_place _:=⟨F_is_place,PySem.W.mg_of X G a_is_place,b_is_place⟩
 have F_check_ends:=aF (st:=bK) l_check_ends c_check_ends k_check_ends
 have b_check_ends:=F_check_ends.binds (ps:=["many","road"]) fun _ _ _ _ _ _ us hl=>by obtain ⟨u0,u1,rfl⟩:=us2 hl; rfl
 have D_check_ends:Df K mg "check_ends" bK ["many","road"] f_check_ends _:=⟨F_check_ends,PySem.W.mg_of X G a_check_ends,b_check_ends⟩
 have F_other_ends:=aF (st:=bE) l_other_ends c_other_ends k_other_ends
 have b_other_ends:=F_other_ends.binds (ps:=["roads","place"]) fun _ _ _ _ _ _ us hl=>by obtain ⟨u0,u1,rfl⟩:=us2 hl; rfl
 have D_other_ends:Df K mg "other_ends" bE ["roads","place"] f_other_ends _:=⟨F_other_ends,PySem.W.mg_of X G a_other_ends,b_other_ends⟩
 have F_check_joined:=aF (st:=aM) l_check_joined c_check_joined k_check_joined
 have b_check_joined:=F_check_joined.binds (ps:=["many","roads"]) fun _ _ _ _ _ _ us hl=>by obtain ⟨u0,u1,rfl⟩:=us2 hl; rfl
 have D_check_joined:Df K mg "check_joined" aM ["many","roads"] f_check_joined _:=⟨F_check_joined,PySem.W.mg_of X G a_check_joined,b_check_joined⟩
 have F_check_tolls:=aF (st:=bi) l_check_tolls c_check_tolls k_check_tolls
 have b_check_tolls:=F_check_tolls.binds (ps:=["road"]) fun _ _ _ _ _ _ us hl=>by obtain ⟨u0,rfl⟩:=us1 hl; rfl
 have D_check_tolls:Df K mg "check_tolls" bi ["road"] f_check_tolls _:=⟨F_check_tolls,PySem.W.mg_of X G a_check_tolls,b_check_tolls⟩
 have F_Web___init__:=aF (st:=aN) l_Web___init__ c_Web___init__ k_Web___init__
 have b_Web:=F_Web___init__.binds (ps:=["self","many","roads"]) fun _ _ _ _ _ _ us hl=>by obtain ⟨u0,u1,u2,rfl⟩:=us3 hl; rfl
 have F_law_drawn:=aF (st:=aZ) l_law_drawn c_law_drawn k_law_drawn
 have b_law_drawn:=F_law_drawn.binds (ps:=["script","k"]) fun _ _ _ _ _ _ us hl=>by obtain ⟨u0,u1,rfl⟩:=us2 hl; rfl
 have D_law_drawn:Df K mg "_law_drawn" aZ ["script","k"] f_law_drawn _:=⟨F_law_drawn,PySem.W.mg_of X G a_law_drawn,b_law_drawn⟩
 have F_law_bound:=aF (st:=b9) l_law_bound c_law_bound k_law_bound
 have b_law_bound:=F_law_bound.binds (ps:=["script"]) fun _ _ _ _ _ _ us hl=>by obtain ⟨u0,rfl⟩:=us1 hl; rfl
 have D_law_bound:Df K mg "_law_bound" b9 ["script"] f_law_bound _:=⟨F_law_bound,PySem.W.mg_of X G a_law_bound,b_law_bound⟩
 have F_law_laying:=aF (st:=aU) l_law_laying c_law_laying k_law_laying
 have b_law_laying:=F_law_laying.binds (ps:=["script","many","bound"]) fun _ _ _ _ _ _ us hl=>by obtain ⟨u0,u1,u2,rfl⟩:=us3 hl; rfl
 have D_law_laying:Df K mg "_law_laying" aU ["script","many","bound"] f_law_laying _:=⟨F_law_laying,PySem.W.mg_of X G a_law_laying,b_law_laying⟩
 have F_law_toll:=aF (st:=cJ) l_law_toll c_law_toll k_law_toll
 have b_law_toll:=F_law_toll.binds (ps:=["part"]) fun _ _ _ _ _ _ us hl=>by obtain ⟨u0,rfl⟩:=us1 hl; rfl
 have D_law_toll:Df K mg "_law_toll" cJ ["part"] f_law_toll _:=⟨F_law_toll,PySem.W.mg_of X G a_law_toll,b_law_toll⟩
 have F_law_roads:=aF (st:=aR) l_law_roads c_law_roads k_law_roads
 have b_law_roads:=F_law_roads.binds (ps:=["script","many","shape"]) fun _ _ _ _ _ _ us hl=>by obtain ⟨u0,u1,u2,rfl⟩:=us3 hl; rfl
 have D_law_roads:Df K mg "_law_roads" aR ["script","many","shape"] f_law_roads _:=⟨F_law_roads,PySem.W.mg_of X G a_law_roads,b_law_roads⟩
 have F_common_divisor:=aF (st:=aS) l_common_divisor c_common_divisor k_common_divisor
 have b_common_divisor:=F_common_divisor.binds (ps:=["one","two"]) fun _ _ _ _ _ _ us hl=>by obtain ⟨u0,u1,rfl⟩:=us2 hl; rfl
 have D_common_divisor:Df K mg "common_divisor" aS ["one","two"] f_common_divisor _:=⟨F_common_divisor,PySem.W.mg_of X G a_common_divisor,b_common_divisor⟩
 have F_fraction:=aF (st:=be) l_fraction c_fraction k_fraction
 have b_fraction:=F_fraction.binds (ps:=["top","bottom"]) fun _ _ _ _ _ _ us hl=>by obtain ⟨u0,u1,rfl⟩:=us2 hl; rfl
 have D_fraction:Df K mg "fraction" be ["top","bottom"] f_fraction _:=⟨F_fraction,PySem.W.mg_of X G a_fraction,b_fraction⟩
 have F_law_shares:=aF (st:=cq) l_law_shares c_law_shares k_law_shares
 have b_law_shares:=F_law_shares.binds (ps:=["numbers"]) fun _ _ _ _ _ _ us hl=>by obtain ⟨u0,rfl⟩:=us1 hl; rfl
 have D_law_shares:Df K mg "_law_shares" cq ["numbers"] f_law_shares _:=⟨F_law_shares,PySem.W.mg_of X G a_law_shares,b_law_shares⟩
 have F_check_place:=aF (st:=bd) l_check_place c_check_place k_check_place
 have b_check_place:=F_check_place.binds (ps:=["web","number"]) fun _ _ _ _ _ _ us hl=>by obtain ⟨u0,u1,rfl⟩:=us2 hl; rfl
 have D_check_place:Df K mg "check_place" bd ["web","number"] f_check_place _:=⟨F_check_place,PySem.W.mg_of X G a_check_place,b_check_place⟩
 have F_neighbours:=aF (st:=aV) l_neighbours c_neighbours k_neighbours
 have b_neighbours:=F_neighbours.binds (ps:=["web","a"]) fun _ _ _ _ _ _ us hl=>by obtain ⟨u0,u1,rfl⟩:=us2 hl; rfl
 have D_neighbours:Df K mg "neighbours" aV ["web","a"] f_neighbours _:=⟨F_neighbours,PySem.W.mg_of X G a_neighbours,b_neighbours⟩
 have F_kids:=aF (st:=df) l_kids c_kids k_kids
 have b_kids:=F_kids.binds (ps:=["web","place","front"]) fun _ _ _ _ _ _ us hl=>by obtain ⟨u0,u1,u2,rfl⟩:=us3 hl; rfl
 have D_kids:Df K mg "kids" df ["web","place","front"] f_kids _:=⟨F_kids,PySem.W.mg_of X G a_kids,b_kids⟩
 have F_ahead:=aF (st:=bZ) l_ahead c_ahead k_ahead
 have b_ahead:=F_ahead.binds (ps:=["web","r"]) fun _ _ _ _ _ _ us hl=>by obtain ⟨u0,u1,rfl⟩:=us2 hl; rfl
 have D_ahead:Df K mg "ahead" bZ ["web","r"] f_ahead _:=⟨F_ahead,PySem.W.mg_of X G a_ahead,b_ahead⟩
 have F_down:=aF (st:=cA) l_down c_down k_down
 have b_down:=F_down.binds (ps:=["web","r"]) fun _ _ _ _ _ _ us hl=>by obtain ⟨u0,u1,rfl⟩:=us2 hl; rfl
 have D_down:Df K mg "down" cA ["web","r"] f_down _:=⟨F_down,PySem.W.mg_of X G a_down,b_down⟩
 have F_inward:=aF (st:=bO) l_inward c_inward k_inward
 have b_inward:=F_inward.binds (ps:=["web","r"]) fun _ _ _ _ _ _ us hl=>by obtain ⟨u0,u1,rfl⟩:=us2 hl; rfl
 have D_inward:Df K mg "inward" bO ["web","r"] f_inward _:=⟨F_inward,PySem.W.mg_of X G a_inward,b_inward⟩
 have F_is_filled:=aF (st:=bQ) l_is_filled c_is_filled k_is_filled
 have b_is_filled:=F_is_filled.binds (ps:=["web","numbers"]) fun _ _ _ _ _ _ us hl=>by obtain ⟨u0,u1,rfl⟩:=us2 hl; rfl
 have D_is_filled:Df K mg "is_filled" bQ ["web","numbers"] f_is_filled _:=⟨F_is_filled,PySem.W.mg_of X G a_is_filled,b_is_filled⟩
 have F_laying_of:=aF (st:=bF) l_laying_of c_laying_of k_laying_of
 have b_laying_of:=F_laying_of.binds (ps:=["web","numbers"]) fun _ _ _ _ _ _ us hl=>by obtain ⟨u0,u1,rfl⟩:=us2 hl; rfl
 have D_laying_of:Df K mg "laying_of" bF ["web","numbers"] f_laying_of _:=⟨F_laying_of,PySem.W.mg_of X G a_laying_of,b_laying_of⟩
 have F_toll:=aF (st:=bU) l_toll c_toll k_toll
 have b_toll:=F_toll.binds (ps:=["web","a","b"]) fun _ _ _ _ _ _ us hl=>by obtain ⟨u0,u1,u2,rfl⟩:=us3 hl; rfl
 have D_toll:Df K mg "toll" bU ["web","a","b"] f_toll _:=⟨F_toll,PySem.W.mg_of X G a_toll,b_toll⟩
 have F_gathered:=aF (st:=aX) l_gathered c_gathered k_gathered
 have b_gathered:=F_gathered.binds (ps:=["web","laying","r"]) fun _ _ _ _ _ _ us hl=>by obtain ⟨u0,u1,u2,rfl⟩:=us3 hl; rfl
 have D_gathered:Df K mg "gathered" aX ["web","laying","r"] f_gathered _:=⟨F_gathered,PySem.W.mg_of X G a_gathered,b_gathered⟩
 have F_bring:=aF (st:=bT) l_bring c_bring k_bring
 have b_bring:=F_bring.binds (ps:=["web","laying","r"]) fun _ _ _ _ _ _ us hl=>by obtain ⟨u0,u1,u2,rfl⟩:=us3 hl; rfl
 have D_bring:Df K mg "bring" bT ["web","laying","r"] f_bring _:=⟨F_bring,PySem.W.mg_of X G a_bring,b_bring⟩
 have F_less:=aF (st:=dM) l_less c_less k_less
 have b_less:=F_less.binds (ps:=["one","two"]) fun _ _ _ _ _ _ us hl=>by obtain ⟨u0,u1,rfl⟩:=us2 hl; rfl
 have D_less:Df K mg "less" dM ["one","two"] f_less _:=⟨F_less,PySem.W.mg_of X G a_less,b_less⟩
 have F_most:=aF (st:=dq) l_most c_most k_most
 have b_most:=F_most.binds (ps:=["web","laying","r"]) fun _ _ _ _ _ _ us hl=>by obtain ⟨u0,u1,u2,rfl⟩:=us3 hl; rfl
 have D_most:Df K mg "most" dq ["web","laying","r"] f_most _:=⟨F_most,PySem.W.mg_of X G a_most,b_most⟩
 have F_taken:=aF (st:=c9) l_taken c_taken k_taken
 have b_taken:=F_taken.binds (ps:=["web","step"]) fun _ _ _ _ _ _ us hl=>by obtain ⟨u0,u1,rfl⟩:=us2 hl; rfl
 have D_taken:Df K mg "taken" c9 ["web","step"] f_taken _:=⟨F_taken,PySem.W.mg_of X G a_taken,b_taken⟩
 have F_behind:=aF (st:=cg) l_behind c_behind k_behind
 have b_behind:=F_behind.binds (ps:=["web","laying","step"]) fun _ _ _ _ _ _ us hl=>by obtain ⟨u0,u1,u2,rfl⟩:=us3 hl; rfl
 have D_behind:Df K mg "behind" cg ["web","laying","step"] f_behind _:=⟨F_behind,PySem.W.mg_of X G a_behind,b_behind⟩
 have F_is_step:=aF (st:=cz) l_is_step c_is_step k_is_step
 have b_is_step:=F_is_step.binds (ps:=["web","step"]) fun _ _ _ _ _ _ us hl=>by obtain ⟨u0,u1,rfl⟩:=us2 hl; rfl
 have D_is_step:Df K mg "is_step" cz ["web","step"] f_is_step _:=⟨F_is_step,PySem.W.mg_of X G a_is_step,b_is_step⟩
 have F_can_be_done:=aF (st:=bn) l_can_be_done c_can_be_done k_can_be_done
 have b_can_be_done:=F_can_be_done.binds (ps:=["web","laying","step"]) fun _ _ _ _ _ _ us hl=>by obtain ⟨u0,u1,u2,rfl⟩:=us3 hl; rfl
 have D_can_be_done:Df K mg "can_be_done" bn ["web","laying","step"] f_can_be_done _:=⟨F_can_be_done,PySem.W.mg_of X G a_can_be_done,b_can_be_done⟩
 have F_layings:=aF (st:=bu) l_layings c_layings k_layings
 have b_layings:=F_layings.binds (ps:=["web","laying","steps"]) fun _ _ _ _ _ _ us hl=>by obtain ⟨u0,u1,u2,rfl⟩:=us3 hl; rfl
 have D_layings:Df K mg "layings" bu ["web","laying","steps"] f_layings _:=⟨F_layings,PySem.W.mg_of X G a_layings,b_layings⟩
 have F_walked:=aF (st:=cH) l_walked c_walked k_walked
 have b_walked:=F_walked.binds (ps:=["web","laying","steps"]) fun _ _ _ _ _ _ us hl=>by obtain ⟨u0,u1,u2,rfl⟩:=us3 hl; rfl
 have D_walked:Df K mg "walked" cH ["web","laying","steps"] f_walked _:=⟨F_walked,PySem.W.mg_of X G a_walked,b_walked⟩
 have F_sum_up:=aF (st:=bH) l_sum_up c_sum_up k_sum_up
 have b_sum_up:=F_sum_up.binds (ps:=["some"]) fun _ _ _ _ _ _ us hl=>by obtain ⟨u0,rfl⟩:=us1 hl; rfl
 have D_sum_up:Df K mg "sum_up" bH ["some"] f_sum_up _:=⟨F_sum_up,PySem.W.mg_of X G a_sum_up,b_sum_up⟩
 have F_divided_up:=aF (st:=bJ) l_divided_up c_divided_up k_divided_up
 have b_divided_up:=F_divided_up.binds (ps:=["shares","prices"]) fun _ _ _ _ _ _ us hl=>by obtain ⟨u0,u1,rfl⟩:=us2 hl; rfl
 have D_divided_up:Df K mg "divided_up" bJ ["shares","prices"] f_divided_up _:=⟨F_divided_up,PySem.W.mg_of X G a_divided_up,b_divided_up⟩
 have F_prices_to:=aF (st:=bf) l_prices_to c_prices_to k_prices_to
 have b_prices_to:=F_prices_to.binds (ps:=["web","v"]) fun _ _ _ _ _ _ us hl=>by obtain ⟨u0,u1,rfl⟩:=us2 hl; rfl
 have D_prices_to:Df K mg "prices_to" bf ["web","v"] f_prices_to _:=⟨F_prices_to,PySem.W.mg_of X G a_prices_to,b_prices_to⟩
 have F_worth:=aF (st:=cP) l_worth c_worth k_worth
 have b_worth:=F_worth.binds (ps:=["web","shares","v"]) fun _ _ _ _ _ _ us hl=>by obtain ⟨u0,u1,u2,rfl⟩:=us3 hl; rfl
 have D_worth:Df K mg "worth" cP ["web","shares","v"] f_worth _:=⟨F_worth,PySem.W.mg_of X G a_worth,b_worth⟩
 have F_law_worths_right:=aF (st:=au) l_law_worths_right c_law_worths_right k_law_worths_right
 have b_law_worths_right:=F_law_worths_right.binds (ps:=["web","laying","r"]) fun _ _ _ _ _ _ us hl=>by obtain ⟨u0,u1,u2,rfl⟩:=us3 hl; rfl
 have D_law_worths_right:Df K mg "_law_worths_right" au ["web","laying","r"] f_law_worths_right _:=⟨F_law_worths_right,PySem.W.mg_of X G a_law_worths_right,b_law_worths_right⟩
 have F_plus:=aF (st:=d4) l_plus c_plus k_plus
 have b_plus:=F_plus.binds (ps:=["one","two"]) fun _ _ _ _ _ _ us hl=>by obtain ⟨u0,u1,rfl⟩:=us2 hl; rfl
 have D_plus:Df K mg "plus" d4 ["one","two"] f_plus _:=⟨F_plus,PySem.W.mg_of X G a_plus,b_plus⟩
 have F_minus:=aF (st:=c6) l_minus c_minus k_minus
 have b_minus:=F_minus.binds (ps:=["one","two"]) fun _ _ _ _ _ _ us hl=>by obtain ⟨u0,u1,rfl⟩:=us2 hl; rfl
 have D_minus:Df K mg "minus" c6 ["one","two"] f_minus _:=⟨F_minus,PySem.W.mg_of X G a_minus,b_minus⟩
 have F_road_part:=aF (st:=bP) l_road_part c_road_part k_road_part
 have b_road_part:=F_road_part.binds (ps:=["one","other"]) fun _ _ _ _ _ _ us hl=>by obtain ⟨u0,u1,rfl⟩:=us2 hl; rfl
 have D_road_part:Df K mg "road_part" bP ["one","other"] f_road_part _:=⟨F_road_part,PySem.W.mg_of X G a_road_part,b_road_part⟩
 have F_even_share:=aF (st:=aW) l_even_share c_even_share k_even_share
 have b_even_share:=F_even_share.binds (ps:=["web","place"]) fun _ _ _ _ _ _ us hl=>by obtain ⟨u0,u1,rfl⟩:=us2 hl; rfl
 have D_even_share:Df K mg "even_share" aW ["web","place"] f_even_share _:=⟨F_even_share,PySem.W.mg_of X G a_even_share,b_even_share⟩
 have F_even_shares:=aF (st:=bI) l_even_shares c_even_shares k_even_shares
 have b_even_shares:=F_even_shares.binds (ps:=["web"]) fun _ _ _ _ _ _ us hl=>by obtain ⟨u0,rfl⟩:=us1 hl; rfl
 have D_even_shares:Df K mg "even_shares" bI ["web"] f_even_shares _:=⟨F_even_shares,PySem.W.mg_of X G a_even_shares,b_even_shares⟩
 have F_is_below:=aF (st:=ck) l_is_below c_is_below k_is_below
 have b_is_below:=F_is_below.binds (ps:=["share"]) fun _ _ _ _ _ _ us hl=>by obtain ⟨u0,rfl⟩:=us1 hl; rfl
 have D_is_below:Df K mg "is_below" ck ["share"] f_is_below _:=⟨F_is_below,PySem.W.mg_of X G a_is_below,b_is_below⟩
 have F_second_share:=aF (st:=aP) l_second_share c_second_share k_second_share
 have b_second_share:=F_second_share.binds (ps:=["web","place"]) fun _ _ _ _ _ _ us hl=>by obtain ⟨u0,u1,rfl⟩:=us2 hl; rfl
 have D_second_share:Df K mg "second_share" aP ["web","place"] f_second_share _:=⟨F_second_share,PySem.W.mg_of X G a_second_share,b_second_share⟩
 have F_second_shares:=aF (st:=bp) l_second_shares c_second_shares k_second_shares
 have b_second_shares:=F_second_shares.binds (ps:=["web"]) fun _ _ _ _ _ _ us hl=>by obtain ⟨u0,rfl⟩:=us1 hl; rfl
 have D_second_shares:Df K mg "second_shares" bp ["web"] f_second_shares _:=⟨F_second_shares,PySem.W.mg_of X G a_second_shares,b_second_shares⟩
 have F_fairest:=aF (st:=bL) l_fairest c_fairest k_fairest
 have b_fairest:=F_fairest.binds (ps:=["web"]) fun _ _ _ _ _ _ us hl=>by obtain ⟨u0,rfl⟩:=us1 hl; rfl
 have D_fairest:Df K mg "fairest" bL ["web"] f_fairest _:=⟨F_fairest,PySem.W.mg_of X G a_fairest,b_fairest⟩
 have F_times:=aF (st:=dw) l_times c_times k_times
 have b_times:=F_times.binds (ps:=["one","two"]) fun _ _ _ _ _ _ us hl=>by obtain ⟨u0,u1,rfl⟩:=us2 hl; rfl
 have D_times:Df K mg "times" dw ["one","two"] f_times _:=⟨F_times,PySem.W.mg_of X G a_times,b_times⟩
 have F_law:=aF (st:=bA) l_law c_law k_law
 have b_law:=F_law.binds (ps:=["script"]) fun _ _ _ _ _ _ us hl=>by obtain ⟨u0,rfl⟩:=us1 hl; rfl
 have D_law:Df K mg "law" bA ["script"] fa _:=⟨F_law,PySem.W.mg_of X G a_law,b_law⟩
 refine ⟨PySem.W.fnOf "law" "law" (az bA) (aw bA) (aa bA) .none kV_law dc_law pm_law an_law cd_law ct_law,fun s v=>.of_eq rfl,fun base _ _=>?_⟩
 have M_Web:Mk K T.Web f_Web___init__:=⟨mk_Web,a_Web___init__,i_Web___init__,kc_Web⟩
 have G_check_counts:=mH (P:=l.prog) (w:=w) (base:=base) T aE D_check_counts
 have G_is_place:=rL (P:=l.prog) (w:=w) (base:=base) T aE D_is_place
 have G_check_ends:=oZ (P:=l.prog) (w:=w) (base:=base) T aE D_check_ends D_is_place G_is_place
 have G_other_ends:=oO (P:=l.prog) (w:=w) (base:=base) T aE D_other_ends
 have G_check_joined:=mD (P:=l.prog) (w:=w) (base:=base) T aE D_check_joined D_other_ends G_other_ends
 have G_check_tolls:=mO (P:=l.prog) (w:=w) (base:=base) T aE D_check_tolls
 have G_Web_init:=my (P:=l.prog) (w:=w) (base:=base) T aE F_Web___init__ D_check_counts G_check_counts D_check_ends G_check_ends D_check_joined G_check_joined D_check_tolls G_check_tolls
 have G_law_drawn:=qw (P:=l.prog) (w:=w) (base:=base) T aE D_law_drawn
 have G_law_bound:=qT (P:=l.prog) (w:=w) (base:=base) T aE D_law_bound D_law_drawn G_law_drawn
 have G_law_laying:=o0 (P:=l.prog) (w:=w) (base:=base) T aE D_law_laying D_law_drawn G_law_drawn
 have G_law_toll:=rn (P:=l.prog) (w:=w) (base:=base) T aE D_law_toll
 have G_law_roads:=qk (P:=l.prog) (w:=w) (base:=base) T aE D_law_roads D_law_drawn G_law_drawn D_law_toll G_law_toll
 have G_common_divisor:=kC (P:=l.prog) (w:=w) (base:=base) T aE D_common_divisor
 have G_fraction:=rJ (P:=l.prog) (w:=w) (base:=base) T aE D_fraction D_common_divisor G_common_divisor
 have G_law_shares:=oS (P:=l.prog) (w:=w) (base:=base) T aE D_law_shares D_fraction G_fraction
 have G_check_place:=nC (P:=l.prog) (w:=w) (base:=base) T aE D_check_place D_is_place G_is_place
 have G_neighbours:=oM (P:=l.prog) (w:=w) (base:=base) T aE D_neighbours D_check_place G_check_place D_other_ends G_other_ends
 have G_kids:=Ay (P:=l.prog) (w:=w) (base:=base) T aE D_kids D_neighbours G_neighbours
 have G_ahead:=xW (P:=l.prog) (w:=w) (base:=base) T aE D_ahead D_check_place G_check_place D_kids G_kids
 have G_down:=AF (P:=l.prog) (w:=w) (base:=base) T aE D_down D_ahead G_ahead D_kids G_kids
 have G_inward:=uN (P:=l.prog) (w:=w) (base:=base) T aE D_inward D_ahead G_ahead D_down G_down
 have G_is_filled:=pV (P:=l.prog) (w:=w) (base:=base) T aE D_is_filled
 have G_laying_of:=qA (P:=l.prog) (w:=w) (base:=base) T aE D_laying_of D_is_filled G_is_filled
 have G_toll:=zX (P:=l.prog) (w:=w) (base:=base) T aE D_toll D_check_place G_check_place
 have G_gathered:=rc (P:=l.prog) (w:=w) (base:=base) T aE D_gathered D_inward G_inward D_laying_of G_laying_of D_toll G_toll
 have G_bring:=wK (P:=l.prog) (w:=w) (base:=base) T aE D_bring D_gathered G_gathered D_inward G_inward D_toll G_toll
 have G_less:=Au (P:=l.prog) (w:=w) (base:=base) T aE D_less
 have G_most:=Aq (P:=l.prog) (w:=w) (base:=base) T aE D_most D_gathered G_gathered
 have G_taken:=zo (P:=l.prog) (w:=w) (base:=base) T aE D_taken D_toll G_toll
 have G_behind:=uG (P:=l.prog) (w:=w) (base:=base) T aE D_behind D_taken G_taken
 have G_is_step:=sR (P:=l.prog) (w:=w) (base:=base) T aE D_is_step D_is_place G_is_place D_neighbours G_neighbours
 have G_can_be_done:=nj (P:=l.prog) (w:=w) (base:=base) T aE D_can_be_done D_is_step G_is_step D_taken G_taken
 have G_layings:=tD (P:=l.prog) (w:=w) (base:=base) T aE D_layings D_behind G_behind D_can_be_done G_can_be_done D_laying_of G_laying_of
 have G_walked:=vl (P:=l.prog) (w:=w) (base:=base) T aE D_walked D_layings G_layings
 have G_sum_up:=uQ (P:=l.prog) (w:=w) (base:=base) T aE D_sum_up D_common_divisor G_common_divisor D_fraction G_fraction
 have G_divided_up:=oN (P:=l.prog) (w:=w) (base:=base) T aE D_divided_up D_fraction G_fraction D_sum_up G_sum_up
 have G_prices_to:=pZ (P:=l.prog) (w:=w) (base:=base) T aE D_prices_to D_inward G_inward D_toll G_toll
 have G_worth:=wV (P:=l.prog) (w:=w) (base:=base) T aE D_worth D_divided_up G_divided_up D_prices_to G_prices_to
 have G_law_worths_right:=jD (P:=l.prog) (w:=w) (base:=base) T aE D_law_worths_right D_law_shares G_law_shares D_bring G_bring D_fraction G_fraction D_less G_less D_most G_most D_walked G_walked D_worth G_worth
 have G_plus:=AA (P:=l.prog) (w:=w) (base:=base) T aE D_plus D_sum_up G_sum_up
 have G_minus:=yB (P:=l.prog) (w:=w) (base:=base) T aE D_minus D_plus G_plus
 have G_road_part:=qo (P:=l.prog) (w:=w) (base:=base) T aE D_road_part D_fraction G_fraction
 have G_even_share:=oW (P:=l.prog) (w:=w) (base:=base) T aE D_even_share D_minus G_minus D_neighbours G_neighbours D_road_part G_road_part D_sum_up G_sum_up D_toll G_toll
 have G_even_shares:=mM (P:=l.prog) (w:=w) (base:=base) T aE D_even_shares D_even_share G_even_share
 have G_is_below:=rf (P:=l.prog) (w:=w) (base:=base) T aE D_is_below D_less G_less
 have G_second_share:=mq (P:=l.prog) (w:=w) (base:=base) T aE D_second_share D_minus G_minus D_neighbours G_neighbours D_road_part G_road_part D_sum_up G_sum_up D_toll G_toll
 have G_second_shares:=kY (P:=l.prog) (w:=w) (base:=base) T aE D_second_shares D_second_share G_second_share
 have G_fairest:=sU (P:=l.prog) (w:=w) (base:=base) T aE D_fairest D_even_shares G_even_shares D_is_below G_is_below D_second_shares G_second_shares
 have G_times:=xN (P:=l.prog) (w:=w) (base:=base) T aE D_times D_fraction G_fraction
 have G_law:=Cc (P:=l.prog) (w:=w) (base:=base) T aE D_law F_Web___init__ b_Web M_Web G_Web_init D_law_bound G_law_bound D_law_drawn G_law_drawn D_law_laying G_law_laying D_law_roads G_law_roads D_law_worths_right G_law_worths_right D_fairest G_fairest D_fraction G_fraction D_less G_less D_most G_most D_sum_up G_sum_up D_times G_times
 exact G_law
theorem walk {l:PySem.W.OpenLaw} {q:Program} {loose:List Str} {XP:(Str→Option Value)→Heap→Prop} {YP:World→Heap→Prop} {d:DefRec} {K:Params→PySem.W.Frag} (hn:l.most=some 63) (hdf:d.params.defaults=[])
   (hY:∀ (w:World) (h:Heap),YP w h→(K w.params).In h)
   (F:∀ (w:World) (mg:Str→Option Value) (fa:Addr) (h:Heap),(K w.params).In h→h.Ns mainGlobals mg→mg d.name=some (.ref fa) →
     ∃ fd:FuncData,(∀ (s:Shared) (u:Value),BindsTo s fd ⟨[u],[]⟩ [("script",u)])∧∀ base:Heap,(K w.params).In base→base.Ns mainGlobals mg→FnOk l.prog w (K w.params) mg base (CXe l.prog w) 11 fa fd ["script"] (o9 (K w.params))) :
   PySem.W.WalkO q loose XP YP l.row.toRowW d [] (fun f vs=>PySem.call f vs) :=
 L2.walk_of (n:=63) (k:=11) (x:="script") (CX:=fun w=>(CXe l.prog w)) (sp:=fun w=>o9 (K w.params)) hn (by decide) hdf ⟨rfl,by decide,by decide⟩ hY F (fun _ _ a ns hl _ hS=>⟨a,ns,rfl,hS,hl,fun _=>rfl⟩) fun _ _ _ _ _ z=>aE _ _ _ _ _ z
end Pk
open PySem PySem.W PyProof.Rows
set_option maxRecDepth 100000 in
set_option maxHeartbeats 0 in
theorem PySem.Challenge.cw_pebbletoll_k68_whole_layings_for_every_p_holds : PySem.Challenge.rw_pebbletoll_k68_whole_layings_for_every_p.Holds := by
 w_on; o_law
 refine PySem.W.holds_open (q:=Hd.qq) (loose:=[]) (Xt:=(fun s=>PySem.W.xlAt Hd.qq [] s && PySem.W.recOk (PySem.W.RowW.records (PySem.W.OpenRow.toRowW (PySem.Challenge.rw_pebbletoll_k68_whole_layings_for_every_p).row)) s)) (XP:=PySem.W.XL Hd.qq []) (Yf:=PySem.W.Hook.obs (PySem.W.kHook Hd.KK Hd.asK Hd.asK_eq)) (Ya:=PySem.W.Hook.val (PySem.W.kHook Hd.KK Hd.asK Hd.asK_eq)) (YP:=PySem.W.Hook.says (PySem.W.kHook Hd.KK Hd.asK Hd.asK_eq)) (N:=6362) Hd.left (PySem.W.Hook.of (PySem.W.kHook Hd.KK Hd.asK Hd.asK_eq)) (PySem.W.Hook.keeps (PySem.W.kHook Hd.KK Hd.asK Hd.asK_eq)) (fun s e=>PySem.W.xl_of s (Bool.and_eq_true_iff.mp e).1) PySem.W.XL.keeps (by rfl) (by rfl) (by rfl) (fun s e=>PySem.W.recFacts_of (Bool.and_eq_true_iff.mp e).2) (by rfl) (by assumption) (by decide +kernel) ⟨rfl,rfl,rfl,rfl,rfl,by decide +kernel⟩ ?hw ?hc
 (case hw=>w_witness2)
 k_fill
 refine Pk.walk (l:=PySem.Challenge.rw_pebbletoll_k68_whole_layings_for_every_p) rfl rfl (fun w h Y=>PySem.W.kIn_of Y) ?F
 case F =>
   intro w mg fa h KX G hmg
   refine' Pk.all_mk KX G hmg ?ac_BadWeb ?ac_NoPlace ?ac_NoRoad ?ac_BadLaying ?ac_BadStep ?ac_Web ?xl_NoPlace ?xe_NoPlace ?xf_NoPlace ?xj_NoPlace ?xp_NoPlace ?xl_NoRoad ?xe_NoRoad ?xf_NoRoad ?xj_NoRoad ?xp_NoRoad ?xl_BadLaying ?xe_BadLaying ?xf_BadLaying ?xj_BadLaying ?xp_BadLaying ?a_check_counts ?l_check_counts ?c_check_counts ?k_check_counts ?a_is_place ?l_is_place ?c_is_place ?k_is_place ?a_check_ends ?l_check_ends ?c_check_ends ?k_check_ends ?a_other_ends ?l_other_ends ?c_other_ends ?k_other_ends ?a_check_joined ?l_check_joined ?c_check_joined ?k_check_joined ?a_check_tolls ?l_check_tolls ?c_check_tolls ?k_check_tolls ?a_Web___init__ ?i_Web___init__ ?l_Web___init__ ?c_Web___init__ ?k_Web___init__ ?a_law_drawn ?l_law_drawn ?c_law_drawn ?k_law_drawn ?a_law_bound ?l_law_bound ?c_law_bound ?k_law_bound ?a_law_laying ?l_law_laying ?c_law_laying ?k_law_laying ?a_law_toll ?l_law_toll ?c_law_toll ?k_law_toll ?a_law_roads ?l_law_roads ?c_law_roads ?k_law_roads ?a_common_divisor ?l_common_divisor ?c_common_divisor ?k_common_divisor ?a_fraction ?l_fraction ?c_fraction ?k_fraction ?a_law_shares ?l_law_shares ?c_law_shares ?k_law_shares ?a_check_place ?l_check_place ?c_check_place ?k_check_place ?a_neighbours ?l_neighbours ?c_neighbours ?k_neighbours ?a_kids ?l_kids ?c_kids ?k_kids ?a_ahead ?l_ahead ?c_ahead ?k_ahead ?a_down ?l_down ?c_down ?k_down ?a_inward ?l_inward ?c_inward ?k_inward ?a_is_filled ?l_is_filled ?c_is_filled ?k_is_filled ?a_laying_of ?l_laying_of ?c_laying_of ?k_laying_of ?a_toll ?l_toll ?c_toll ?k_toll ?a_gathered ?l_gathered ?c_gathered ?k_gathered ?a_bring ?l_bring ?c_bring ?k_bring ?a_less ?l_less ?c_less ?k_less ?a_most ?l_most ?c_most ?k_most ?a_taken ?l_taken ?c_taken ?k_taken ?a_behind ?l_behind ?c_behind ?k_behind ?a_is_step ?l_is_step ?c_is_step ?k_is_step ?a_can_be_done ?l_can_be_done ?c_can_be_done ?k_can_be_done ?a_layings ?l_layings ?c_layings ?k_layings ?a_walked ?l_walked ?c_walked ?k_walked ?a_sum_up ?l_sum_up ?c_sum_up ?k_sum_up ?a_divided_up ?l_divided_up ?c_divided_up ?k_divided_up ?a_prices_to ?l_prices_to ?c_prices_to ?k_prices_to ?a_worth ?l_worth ?c_worth ?k_worth ?a_law_worths_right ?l_law_worths_right ?c_law_worths_right ?k_law_worths_right ?a_plus ?l_plus ?c_plus ?k_plus ?a_minus ?l_minus ?c_minus ?k_minus ?a_road_part ?l_road_part ?c_road_part ?k_road_part ?a_even_share ?l_even_share ?c_even_share ?k_even_share ?a_even_shares ?l_even_shares ?c_even_shares ?k_even_shares ?a_is_below ?l_is_below ?c_is_below ?k_is_below ?a_second_share ?l_second_share ?c_second_share ?k_second_share ?a_second_shares ?l_second_shares ?c_second_shares ?k_second_shares ?a_fairest ?l_fairest ?c_fairest ?k_fairest ?a_times ?l_times ?c_times ?k_times ?a_law ?l_law ?c_law ?k_law ?pg_Web ?hd_Web ?po_Web ?sa_Web ?mk_Web ?kc_Web ?nm_Web ?nr_Web ?z_range ?z_zip ?z_len ?z_all ?z_int ?z_tuple ?z_list ?z_reversed ?z_sorted ?z_min ?z_enumerate ?z_sum ?z_str ?z_abs ?v_MOST_PLACES ?v_LEAST_TOLL ?v_MOST_TOLL ?v_NOUGHT ?vl_NOUGHT ?v_ONE ?vl_ONE
   (case ac_BadWeb=>k_is)
   (case ac_NoPlace=>k_is)
   (case ac_NoRoad=>k_is)
   (case ac_BadLaying=>k_is)
   (case ac_BadStep=>k_is)
   (case ac_Web=>k_is)
   (case xl_NoPlace=>k_is)
   (case xe_NoPlace=>rfl)
   (case xf_NoPlace=>kernel_rfl)
   (case xj_NoPlace=>k_is)
   (case xp_NoPlace=>kernel_rfl)
   (case xl_NoRoad=>k_is)
   (case xe_NoRoad=>rfl)
   (case xf_NoRoad=>kernel_rfl)
   (case xj_NoRoad=>k_is)
   (case xp_NoRoad=>kernel_rfl)
   (case xl_BadLaying=>k_is)
   (case xe_BadLaying=>rfl)
   (case xf_BadLaying=>kernel_rfl)
   (case xj_BadLaying=>k_is)
   (case xp_BadLaying=>kernel_rfl)
   (case a_check_counts=>k_is)
   (case l_check_counts=>k_is)
   (case c_check_counts=>k_is)
   (case k_check_counts=>k_is)
   (case a_is_place=>k_is)
   (case l_is_place=>k_is)
   (case c_is_place=>k_is)
   (case k_is_place=>k_is)
   (case a_check_ends=>k_is)
   (case l_check_ends=>k_is)
   (case c_check_ends=>k_is)
   (case k_check_ends=>k_is)
   (case a_other_ends=>k_is)
   (case l_other_ends=>k_is)
   (case c_other_ends=>k_is)
   (case k_other_ends=>k_is)
   (case a_check_joined=>k_is)
   (case l_check_joined=>k_is)
   (case c_check_joined=>k_is)
   (case k_check_joined=>k_is)
   (case a_check_tolls=>k_is)
   (case l_check_tolls=>k_is)
   (case c_check_tolls=>k_is)
   (case k_check_tolls=>k_is)
   (case a_Web___init__=>k_is)
   (case i_Web___init__=>k_is)
   (case l_Web___init__=>k_is)
   (case c_Web___init__=>k_is)
   (case k_Web___init__=>k_is)
   (case a_law_drawn=>k_is)
   (case l_law_drawn=>k_is)
   (case c_law_drawn=>k_is)
   (case k_law_drawn=>k_is)
   (case a_law_bound=>k_is)
   (case l_law_bound=>k_is)
   (case c_law_bound=>k_is)
   (case k_law_bound=>k_is)
   (case a_law_laying=>k_is)
   (case l_law_laying=>k_is)
   (case c_law_laying=>k_is)
   (case k_law_laying=>k_is)
   (case a_law_toll=>k_is)
   (case l_law_toll=>k_is)
   (case c_law_toll=>k_is)
   (case k_law_toll=>k_is)
   (case a_law_roads=>k_is)
   (case l_law_roads=>k_is)
   (case c_law_roads=>k_is)
   (case k_law_roads=>k_is)
   (case a_common_divisor=>k_is)
   (case l_common_divisor=>k_is)
   (case c_common_divisor=>k_is)
   (case k_common_divisor=>k_is)
   (case a_fraction=>k_is)
   (case l_fraction=>k_is)
   (case c_fraction=>k_is)
   (case k_fraction=>k_is)
   (case a_law_shares=>k_is)
   (case l_law_shares=>k_is)
   (case c_law_shares=>k_is)
   (case k_law_shares=>k_is)
   (case a_check_place=>k_is)
   (case l_check_place=>k_is)
   (case c_check_place=>k_is)
   (case k_check_place=>k_is)
   (case a_neighbours=>k_is)
   (case l_neighbours=>k_is)
   (case c_neighbours=>k_is)
   (case k_neighbours=>k_is)
   (case a_kids=>k_is)
   (case l_kids=>k_is)
   (case c_kids=>k_is)
   (case k_kids=>k_is)
   (case a_ahead=>k_is)
   (case l_ahead=>k_is)
   (case c_ahead=>k_is)
   (case k_ahead=>k_is)
   (case a_down=>k_is)
   (case l_down=>k_is)
   (case c_down=>k_is)
   (case k_down=>k_is)
   (case a_inward=>k_is)
   (case l_inward=>k_is)
   (case c_inward=>k_is)
   (case k_inward=>k_is)
   (case a_is_filled=>k_is)
   (case l_is_filled=>k_is)
   (case c_is_filled=>k_is)
   (case k_is_filled=>k_is)
   (case a_laying_of=>k_is)
   (case l_laying_of=>k_is)
   (case c_laying_of=>k_is)
   (case k_laying_of=>k_is)
   (case a_toll=>k_is)
   (case l_toll=>k_is)
   (case c_toll=>k_is)
   (case k_toll=>k_is)
   (case a_gathered=>k_is)
   (case l_gathered=>k_is)
   (case c_gathered=>k_is)
   (case k_gathered=>k_is)
   (case a_bring=>k_is)
   (case l_bring=>k_is)
   (case c_bring=>k_is)
   (case k_bring=>k_is)
   (case a_less=>k_is)
   (case l_less=>k_is)
   (case c_less=>k_is)
   (case k_less=>k_is)
   (case a_most=>k_is)
   (case l_most=>k_is)
   (case c_most=>k_is)
   (case k_most=>k_is)
   (case a_taken=>k_is)
   (case l_taken=>k_is)
   (case c_taken=>k_is)
   (case k_taken=>k_is)
   (case a_behind=>k_is)
   (case l_behind=>k_is)
   (case c_behind=>k_is)
   (case k_behind=>k_is)
   (case a_is_step=>k_is)
   (case l_is_step=>k_is)
   (case c_is_step=>k_is)
   (case k_is_step=>k_is)
   (case a_can_be_done=>k_is)
   (case l_can_be_done=>k_is)
   (case c_can_be_done=>k_is)
   (case k_can_be_done=>k_is)
   (case a_layings=>k_is)
   (case l_layings=>k_is)
   (case c_layings=>k_is)
   (case k_layings=>k_is)
   (case a_walked=>k_is)
   (case l_walked=>k_is)
   (case c_walked=>k_is)
   (case k_walked=>k_is)
   (case a_sum_up=>k_is)
   (case l_sum_up=>k_is)
   (case c_sum_up=>k_is)
   (case k_sum_up=>k_is)
   (case a_divided_up=>k_is)
   (case l_divided_up=>k_is)
   (case c_divided_up=>k_is)
   (case k_divided_up=>k_is)
   (case a_prices_to=>k_is)
   (case l_prices_to=>k_is)
   (case c_prices_to=>k_is)
   (case k_prices_to=>k_is)
   (case a_worth=>k_is)
   (case l_worth=>k_is)
   (case c_worth=>k_is)
   (case k_worth=>k_is)
   (case a_law_worths_right=>k_is)
   (case l_law_worths_right=>k_is)
   (case c_law_worths_right=>k_is)
   (case k_law_worths_right=>k_is)
   (case a_plus=>k_is)
   (case l_plus=>k_is)
   (case c_plus=>k_is)
   (case k_plus=>k_is)
   (case a_minus=>k_is)
   (case l_minus=>k_is)
   (case c_minus=>k_is)
   (case k_minus=>k_is)
   (case a_road_part=>k_is)
   (case l_road_part=>k_is)
   (case c_road_part=>k_is)
   (case k_road_part=>k_is)
   (case a_even_share=>k_is)
   (case l_even_share=>k_is)
   (case c_even_share=>k_is)
   (case k_even_share=>k_is)
   (case a_even_shares=>k_is)
   (case l_even_shares=>k_is)
   (case c_even_shares=>k_is)
   (case k_even_shares=>k_is)
   (case a_is_below=>k_is)
   (case l_is_below=>k_is)
   (case c_is_below=>k_is)
   (case k_is_below=>k_is)
   (case a_second_share=>k_is)
   (case l_second_share=>k_is)
   (case c_second_share=>k_is)
   (case k_second_share=>k_is)
   (case a_second_shares=>k_is)
   (case l_second_shares=>k_is)
   (case c_second_shares=>k_is)
   (case k_second_shares=>k_is)
   (case a_fairest=>k_is)
   (case l_fairest=>k_is)
   (case c_fairest=>k_is)
   (case k_fairest=>k_is)
   (case a_times=>k_is)
   (case l_times=>k_is)
   (case c_times=>k_is)
   (case k_times=>k_is)
   (case a_law=>k_is)
   (case l_law=>k_is)
   (case c_law=>k_is)
   (case k_law=>k_is)
   (case pg_Web=>k_is)
   (case hd_Web=>k_is)
   (case po_Web=>k_is)
   (case sa_Web=>k_is)
   (case mk_Web=>k_is)
   (case kc_Web=>k_is)
   (case nm_Web=>k_is)
   (case nr_Web=>k_is)
   (case z_range=>k_is)
   (case z_zip=>k_is)
   (case z_len=>k_is)
   (case z_all=>k_is)
   (case z_int=>k_is)
   (case z_tuple=>k_is)
   (case z_list=>k_is)
   (case z_reversed=>k_is)
   (case z_sorted=>k_is)
   (case z_min=>k_is)
   (case z_enumerate=>k_is)
   (case z_sum=>k_is)
   (case z_str=>k_is)
   (case z_abs=>k_is)
   (case v_MOST_PLACES=>k_is)
   (case v_LEAST_TOLL=>k_is)
   (case v_MOST_TOLL=>k_is)
   (case v_NOUGHT=>k_is)
   (case vl_NOUGHT=>k_is)
   (case v_ONE=>k_is)
   (case vl_ONE=>k_is)
#print axioms PySem.Challenge.cw_pebbletoll_k68_whole_layings_for_every_p_holds
