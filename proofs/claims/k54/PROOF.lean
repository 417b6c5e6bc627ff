import PyProof.Rows.All
import Wide.All
import OpenK.AllK
import Wide.FinOn
import Lean
import PyProof.EqAt
import PyProof.EqKinds
import PyProof.TupleCall
import PyProof.P3Eq
import PyProof.NeData
import PyProof.FitsBits
import PyProof.ZipIter
import PyProof.TupleIter
import KE.KRevIter
import PyProof.TupleOfGen
import PyProof.ListRange
import KE.KIsAll
import PyProof.ExcArgsOwn
import OpenK.KDescr
import PyProof.StationsW
import PyProof.ExcBaseAll.ValueError
import OpenK.KOwn
import PyProof.RulesAs
import PyProof.RulesDel
import PyProof.Rows.SortWalk
import PyProof.CompUse
import KE.KDictSum
import PyProof.WalkInts
import KE.KSortTup
import PyProof.Rows.TupDisplay
import KE.KIntText
import PyProof.JoinWalk
import PyProof.ExcInit
import PyProof.ExcClass2
import PySem.Challenge.RW_pebbletoll_k54_papers_of_fairest
set_option Elab.async false
set_option linter.all false
set_option maxRecDepth 100000
namespace Hd
open PySem
def top (i:Nat):Stmt:=PySem.Challenge.pw_pebbletoll_k54_papers_of_fairest.main.body.getD i (.Pass ⟨0,0,0,0⟩)
def inC (s:Stmt) (j:Nat):Stmt:=match s with
 | .ClassDef _ _ _ b _ _ _ _ _ _ _=>b.getD j (.Pass ⟨0,0,0,0⟩)
 | _=>.Pass ⟨0,0,0,0⟩
def kA (s:Stmt):Arguments:=match s with
 | .FunctionDef _ a _ _ _ _ _ _ _ _=>a
 | _=>{ posonlyargs:=[],args:=[],vararg:=none,kwonlyargs:=[],kw_defaults:=[],kwarg:=none,defaults:=[] }
def kB (s:Stmt):List Stmt:=match s with
 | .FunctionDef _ _ b _ _ _ _ _ _ _=>b
 | _=>[]
def kS (s:Stmt):Scope:=match s with
 | .FunctionDef _ _ _ _ _ _ sc _ _ _=>sc
 | _=>{ kind:=.function,names:=[],isGenerator:=false,isCoroutine:=false }
open PySem.W PySem.Calls PyProof.Rows
def en (P:Params) (s:Str) (t:Tok) (v:Value):DictEntry:=.mk (PyData.keyHash P s) (.str s t) v
def cO (a b:Str) (t1 t2 t3:Tok) (i1 i2 i3 i4 i5:Int) (r1:Value) (b1:Bool) (i6:Int) (r2 v1 v2 v3 r3:Value) (i7 i8:Int) (t4:Tok):Obj:=.mk (.type "code") none (.fields #[.str a t1,.str b t2,.str "/claim/cut.py" t3,.int i1 0,.int i2 0,.int i3 0,.int i4 0,.int i5 0,r1,.bool b1,.int i6 0,r2,v1,v2,v3,r3,.int i7 0,.int i8 0,.str "/claim/cut.py" t4]) #[]
def fR (a b:Str) (s:Stmt):Obj:=.mk .none none (.func (.mk a b (kA s) (.stmts (kB s)) (kS s) 0 [] .none .none .none .none none .none .none 0)) #[]
def fO (a b:Str) (s:Stmt) (pm cd:Value):Obj:=.mk (.type "function") none (.func (PySem.W.fnOf a b (kA s) (kB s) (kS s) .none .none .none pm none cd .none)) #[]
def tO (xs:Array Value):Obj:=.mk (.type "tuple") none (.seq xs 0) #[]
def x0:Obj:=(tO #[])
def x1:Obj:=(.mk .none none (.fields #[]) #[])
def x2:Obj:=(cO "<module>" "<module>" 182 183 184 1 0 0 0 0 (.ref 11) false 181 (.ref 12) .none .none .none .none 185 1 186)
def x3:Obj:=(.mk (.type "frame") none .plain #[(some (.ref 13)),(some (.ref 3)),(some (.ref 3)),none,(some (.str "__main__" 164)),none,(some (.ref 0))])
noncomputable def ha (P:Params):Heap:=.mk (.mk (boot_o_0 P::boot_o_1 P::boot_o_2 P::boot_o_3 P::boot_o_4 P::boot_o_5 P::boot_o_6 P::boot_o_7 P::boot_o_8 P::boot_o_9 P::boot_o_10 P::x0::x1::x2::x3::[])) (.mk [] [] [] 0 [] [] false #[] [] 0 false false false 0 [2000,10,10] false 0 true [] [] 0 false)
noncomputable def hb (P:Params):Heap:=.mk (.mk (boot_o_0 P::boot_o_1 P::boot_o_2 P::boot_o_3 P::boot_o_4 P::boot_o_5 P::boot_o_6 P::boot_o_7 P::boot_o_8 P::boot_o_9 P::boot_o_10 P::x0::x1::x2::x3::[])) (.mk [] [] [] 0 [] [] false #[] [] 0 false false false 0 [2000,10,10] false 0 true [] [] 0 false)
abbrev st0:List Stmt:=[top 0,top 1,top 2,top 3,top 4,top 5,top 6,top 7,top 8,top 9,top 10,top 11,top 12,top 13,top 14,top 15,top 16,top 17,top 18,top 19,top 20,top 21,top 22,top 23,top 24,top 25,top 26,top 27,top 28,top 29,top 30,top 31,top 32,top 33,top 34,top 35,top 36,top 37,top 38,top 39,top 40,top 41,top 42]
abbrev st1:List Stmt:=[top 43,top 44,top 45,top 46,top 47,top 48,top 49,top 50,top 51,top 52,top 53,top 54,top 55,top 56,top 57,top 58,top 59,top 60,top 61,top 62,top 63,top 64,top 65,top 66,top 67,top 68,top 69,top 70,top 71]
abbrev bb:List Stmt:=st0++(st1++([]))
def env:Env:={ scope:=PySem.Challenge.pw_pebbletoll_k54_papers_of_fairest.main.scope,locals:=mainNs,globals:=mainNs,cells:=[],code:=(.ref 13),frame:=some 14 }
abbrev cE:Code:=.body bb env
theorem Xp (w:World) (os:OsState):topGo treeTable PySem.Challenge.pw_pebbletoll_k54_papers_of_fairest w 11 (some (.ref 6)) 12 (Shared.mk (boot_heap w.params) (.mk []) boot_drawn boot_toks os) (topStub PySem.Challenge.pw_pebbletoll_k54_papers_of_fairest)=some ((Shared.mk (ha w.params) (.mk []) (.mk 0 0 0 0) 187 os),Thread.mk (denote treeTable cE) cE (.mk 0 0 0 0) [topFrame (.mk 0 0 0 0)]):=by kernel_rfl
theorem Xo (w:World) (os:OsState):segRun treeTable PySem.Challenge.pw_pebbletoll_k54_papers_of_fairest w 11 (some (.ref 6)) 1 1 (Shared.mk (ha w.params) (.mk []) (.mk 0 0 0 0) 187 os) (blockOf bb env cE (.mk 0 0 0 0) [topFrame (.mk 0 0 0 0)])=some (.next,(Shared.mk (hb w.params) (.mk []) (.mk 0 0 0 0) 187 os),cE,(.mk 0 0 0 0)):=by kernel_rfl
def x4 (P:Params):Obj:=(.mk (.type "dict") none (.dict #[(en P "__name__" 165 (.str "pebbletoll.shares" 464)),(en P "__doc__" 166 .none),(en P "__package__" 167 .none),(en P "__loader__" 168 (.builtin "__main__.__loader__#opaque")),(en P "__spec__" 169 .none),(en P "__annotations__" 170 (.ref 6)),(en P "__builtins__" 171 (.ref 4)),(en P "__file__" 173 (.str "/claim/cut.py" 172)),(en P "__cached__" 174 .none),(en P "fraction" 197 (.ref 21)),(en P "common_divisor" 206 (.ref 28)),(en P "plus" 214 (.ref 35)),(en P "minus" 222 (.ref 42)),(en P "less" 230 (.ref 49)),(en P "sum_up" 236 (.ref 54)),(en P "TollError" 256 (.ref 64)),(en P "BadWeb" 272 (.ref 77)),(en P "NoPlace" 288 (.ref 89)),(en P "NoRoad" 304 (.ref 101)),(en P "MOST_PLACES" 308 (.int 24 307)),(en P "LEAST_TOLL" 310 (.int 2 309)),(en P "MOST_TOLL" 312 (.int 1000000 311)),(en P "Web" 340 (.ref 118)),(en P "toll" 353 (.ref 129)),(en P "neighbours" 361 (.ref 136)),(en P "check_place" 369 (.ref 143)),(en P "is_place" 377 (.ref 150)),(en P "check_counts" 385 (.ref 157)),(en P "check_ends" 393 (.ref 164)),(en P "check_tolls" 401 (.ref 171)),(en P "check_joined" 413 (.ref 178)),(en P "other_ends" 423 (.ref 185)),(en P "ahead" 438 (.ref 192)),(en P "down" 451 (.ref 199)),(en P "kids" 457 (.ref 204)),(en P "inward" 463 (.ref 209)),(en P "NOUGHT" 468 (.ref 210)),(en P "ONE" 471 (.ref 211)),(en P "worth" 480 (.ref 218)),(en P "yields" 489 (.ref 225)),(en P "divided_up" 495 (.ref 230)),(en P "prices_to" 506 (.ref 237)),(en P "prices_from" 517 (.ref 244)),(en P "even_shares" 523 (.ref 249)),(en P "even_share" 529 (.ref 254)),(en P "second_shares" 535 (.ref 259)),(en P "second_share" 541 (.ref 264))] 47) #[])
def x5:Obj:=(.mk .none none (.fields #[(.int 2 0),(.int 0 0),(.ref 20),(.int 7 0),(.int 0 0),(.ref 27),(.int 13 0),(.int 0 0),(.ref 34),(.int 15 0),(.int 0 0),(.ref 41),(.int 17 0),(.int 0 0),(.ref 48),(.int 19 0),(.int 0 0),(.ref 53),(.int 25 0),(.int 0 0),(.ref 60),(.int 27 0),(.int 0 0),(.ref 73),(.int 29 0),(.int 0 0),(.ref 85),(.int 31 0),(.int 0 0),(.ref 97),(.int 37 0),(.int 0 0),(.ref 109),(.int 48 0),(.int 0 0),(.ref 128),(.int 57 0),(.int 0 0),(.ref 135),(.int 60 0),(.int 0 0),(.ref 142),(.int 63 0),(.int 0 0),(.ref 149),(.int 65 0),(.int 0 0),(.ref 156),(.int 70 0),(.int 0 0),(.ref 163),(.int 75 0),(.int 0 0),(.ref 170),(.int 79 0),(.int 0 0),(.ref 177),(.int 90 0),(.int 0 0),(.ref 184),(.int 99 0),(.int 0 0),(.ref 191),(.int 110 0),(.int 0 0),(.ref 198),(.int 120 0),(.int 0 0),(.ref 203),(.int 122 0),(.int 0 0),(.ref 208),(.int 128 0),(.int 0 0),(.ref 217),(.int 130 0),(.int 0 0),(.ref 224),(.int 132 0),(.int 0 0),(.ref 229),(.int 134 0),(.int 0 0),(.ref 236),(.int 139 0),(.int 0 0),(.ref 243),(.int 144 0),(.int 0 0),(.ref 248),(.int 146 0),(.int 0 0),(.ref 253),(.int 149 0),(.int 0 0),(.ref 258),(.int 151 0),(.int 0 0),(.ref 263)]) #[])
def x6:Obj:=(tO #[(.str "top" 192),(.str "bottom" 193),(.str "common" 194)])
def x7:Obj:=(fR "fraction" "fraction" (top 1))
def x8:Obj:=(cO "fraction" "fraction" 189 190 191 2 2 0 0 3 (.ref 15) true 181 (.ref 16) .none (.ref 17) (.ref 18) (.ref 19) 195 2 196)
def x9:Obj:=(fO "fraction" "fraction" (top 1) (.str "pebbletoll.fractions" 187) (.ref 20))
def x10:Obj:=(tO #[(.str "one" 201),(.str "two" 202),(.str "rest" 203)])
def x11:Obj:=(fR "common_divisor" "common_divisor" (top 2))
def x12:Obj:=(cO "common_divisor" "common_divisor" 198 199 200 7 2 0 0 3 (.ref 22) true 181 (.ref 23) .none (.ref 24) (.ref 25) (.ref 26) 204 7 205)
def x13:Obj:=(fO "common_divisor" "common_divisor" (top 2) (.str "pebbletoll.fractions" 187) (.ref 27))
def x14:Obj:=(tO #[(.str "one" 210),(.str "two" 211)])
def x15:Obj:=(fR "plus" "plus" (top 3))
def x16:Obj:=(cO "plus" "plus" 207 208 209 13 2 0 0 3 (.ref 29) true 181 (.ref 30) .none (.ref 31) (.ref 32) (.ref 33) 212 13 213)
def x17:Obj:=(fO "plus" "plus" (top 3) (.str "pebbletoll.fractions" 187) (.ref 34))
def x18:Obj:=(tO #[(.str "one" 218),(.str "two" 219)])
def x19:Obj:=(fR "minus" "minus" (top 4))
def x20:Obj:=(cO "minus" "minus" 215 216 217 15 2 0 0 3 (.ref 36) true 181 (.ref 37) .none (.ref 38) (.ref 39) (.ref 40) 220 15 221)
def x21:Obj:=(fO "minus" "minus" (top 4) (.str "pebbletoll.fractions" 187) (.ref 41))
def x22:Obj:=(tO #[(.str "one" 226),(.str "two" 227)])
def x23:Obj:=(fR "less" "less" (top 5))
def x24:Obj:=(cO "less" "less" 223 224 225 17 2 0 0 3 (.ref 43) true 181 (.ref 44) .none (.ref 45) (.ref 46) (.ref 47) 228 17 229)
def x25:Obj:=(fO "less" "less" (top 5) (.str "pebbletoll.fractions" 187) (.ref 48))
def x26:Obj:=(fR "sum_up" "sum_up" (top 6))
def x27:Obj:=(cO "sum_up" "sum_up" 231 232 233 19 1 0 0 3 (.ref 50) true 181 (.ref 51) .none .none .none (.ref 52) 234 19 235)
def x28:Obj:=(fO "sum_up" "sum_up" (top 6) (.str "pebbletoll.fractions" 187) (.ref 53))
def x29:Obj:=(tO #[(.type "ValueError")])
def x30:Obj:=(.mk (.type "builtin_function_or_method") none (.fields #[(.builtin "type.__prepare__"),(.type "type")]) #[])
def x31 (P:Params):Obj:=(.mk (.type "dict") none (.dict #[(en P "__module__" 246 (.str "pebbletoll.errors" 237)),(en P "__qualname__" 248 (.str "TollError" 247)),(en P "__firstlineno__" 250 (.int 25 249)),(en P "__static_attributes__" 251 (.ref 62))] 4) #[])
def x32:Obj:=(cO "TollError" "TollError" 241 242 243 25 0 0 0 0 (.ref 58) false 181 (.ref 59) .none .none .none .none 244 25 245)
def x33:Obj:=(.mk (.type "frame") none .plain #[(some (.ref 60)),(some (.ref 3)),(some (.ref 57)),none,(some (.str "pebbletoll.errors" 237)),none,(some (.ref 0))])
def x34 (P:Params):Obj:=(.mk (.type "dict") none (.dict #[(en P "__module__" 246 (.str "pebbletoll.errors" 237)),(en P "__firstlineno__" 250 (.int 25 249)),(en P "__static_attributes__" 251 (.ref 62)),(en P "__weakref__" 253 (.ref 65)),(en P "__doc__" 254 .none)] 3) #[])
def x35:Obj:=(.mk (.type "type") none (.cls (.mk "TollError" [(.type "ValueError")] [(.ref 64),(.type "ValueError"),(.type "Exception"),(.type "BaseException"),(.type "object")] 63 "TollError" true [] [(.ref 77),(.ref 89),(.ref 101)] false none false)) #[(some (.ref 55)),none,(some (.str "TollError" 239)),(some (.str "TollError" 247)),(some (.builtin "ValueError.__new__")),(some (.bool true))])
def x36:Obj:=(.mk (.type "getset_descriptor") none (.fields #[(.str "__weakref__" 252),(.ref 64),(.builtin "ExceptionGroup.__weakref__"),.none]) #[])
def x37:Obj:=(.mk (.type "super") none (.fields #[(.ref 64),(.ref 64),(.ref 64)]) #[])
def x38:Obj:=(.mk (.type "builtin_function_or_method") none (.fields #[(.builtin "object.__init_subclass__"),(.ref 64)]) #[])
def x39:Obj:=(tO #[(.ref 64)])
def x40 (P:Params):Obj:=(.mk (.type "dict") none (.dict #[(en P "__module__" 264 (.str "pebbletoll.errors" 237)),(en P "__qualname__" 266 (.str "BadWeb" 265)),(en P "__firstlineno__" 268 (.int 27 267)),(en P "__static_attributes__" 269 (.ref 75))] 4) #[])
def x41:Obj:=(cO "BadWeb" "BadWeb" 259 260 261 27 0 0 0 0 (.ref 71) false 181 (.ref 72) .none .none .none .none 262 27 263)
def x42:Obj:=(.mk (.type "frame") none .plain #[(some (.ref 73)),(some (.ref 3)),(some (.ref 70)),none,(some (.str "pebbletoll.errors" 237)),none,(some (.ref 0))])
def x43 (P:Params):Obj:=(.mk (.type "dict") none (.dict #[(en P "__module__" 264 (.str "pebbletoll.errors" 237)),(en P "__firstlineno__" 268 (.int 27 267)),(en P "__static_attributes__" 269 (.ref 75)),(en P "__doc__" 270 .none)] 2) #[])
def x44:Obj:=(.mk (.type "type") none (.cls (.mk "BadWeb" [(.ref 64)] [(.ref 77),(.ref 64),(.type "ValueError"),(.type "Exception"),(.type "BaseException"),(.type "object")] 76 "BadWeb" true [] [] false none false)) #[(some (.ref 68)),none,(some (.str "BadWeb" 257)),(some (.str "BadWeb" 265)),(some (.builtin "ValueError.__new__")),(some (.bool true))])
def x45:Obj:=(.mk (.type "super") none (.fields #[(.ref 77),(.ref 77),(.ref 77)]) #[])
def x46:Obj:=(.mk (.type "builtin_function_or_method") none (.fields #[(.builtin "object.__init_subclass__"),(.ref 77)]) #[])
def x47 (P:Params):Obj:=(.mk (.type "dict") none (.dict #[(en P "__module__" 280 (.str "pebbletoll.errors" 237)),(en P "__qualname__" 282 (.str "NoPlace" 281)),(en P "__firstlineno__" 284 (.int 29 283)),(en P "__static_attributes__" 285 (.ref 87))] 4) #[])
def x48:Obj:=(cO "NoPlace" "NoPlace" 275 276 277 29 0 0 0 0 (.ref 83) false 181 (.ref 84) .none .none .none .none 278 29 279)
def x49:Obj:=(.mk (.type "frame") none .plain #[(some (.ref 85)),(some (.ref 3)),(some (.ref 82)),none,(some (.str "pebbletoll.errors" 237)),none,(some (.ref 0))])
def x50 (P:Params):Obj:=(.mk (.type "dict") none (.dict #[(en P "__module__" 280 (.str "pebbletoll.errors" 237)),(en P "__firstlineno__" 284 (.int 29 283)),(en P "__static_attributes__" 285 (.ref 87)),(en P "__doc__" 286 .none)] 2) #[])
def x51:Obj:=(.mk (.type "type") none (.cls (.mk "NoPlace" [(.ref 64)] [(.ref 89),(.ref 64),(.type "ValueError"),(.type "Exception"),(.type "BaseException"),(.type "object")] 88 "NoPlace" true [] [] false none false)) #[(some (.ref 80)),none,(some (.str "NoPlace" 273)),(some (.str "NoPlace" 281)),(some (.builtin "ValueError.__new__")),(some (.bool true))])
def x52:Obj:=(.mk (.type "super") none (.fields #[(.ref 89),(.ref 89),(.ref 89)]) #[])
def x53:Obj:=(.mk (.type "builtin_function_or_method") none (.fields #[(.builtin "object.__init_subclass__"),(.ref 89)]) #[])
def x54 (P:Params):Obj:=(.mk (.type "dict") none (.dict #[(en P "__module__" 296 (.str "pebbletoll.errors" 237)),(en P "__qualname__" 298 (.str "NoRoad" 297)),(en P "__firstlineno__" 300 (.int 31 299)),(en P "__static_attributes__" 301 (.ref 99))] 4) #[])
def x55:Obj:=(cO "NoRoad" "NoRoad" 291 292 293 31 0 0 0 0 (.ref 95) false 181 (.ref 96) .none .none .none .none 294 31 295)
def x56:Obj:=(.mk (.type "frame") none .plain #[(some (.ref 97)),(some (.ref 3)),(some (.ref 94)),none,(some (.str "pebbletoll.errors" 237)),none,(some (.ref 0))])
def x57 (P:Params):Obj:=(.mk (.type "dict") none (.dict #[(en P "__module__" 296 (.str "pebbletoll.errors" 237)),(en P "__firstlineno__" 300 (.int 31 299)),(en P "__static_attributes__" 301 (.ref 99)),(en P "__doc__" 302 .none)] 2) #[])
def x58:Obj:=(.mk (.type "type") none (.cls (.mk "NoRoad" [(.ref 64)] [(.ref 101),(.ref 64),(.type "ValueError"),(.type "Exception"),(.type "BaseException"),(.type "object")] 100 "NoRoad" true [] [] false none false)) #[(some (.ref 92)),none,(some (.str "NoRoad" 289)),(some (.str "NoRoad" 297)),(some (.builtin "ValueError.__new__")),(some (.bool true))])
def x59:Obj:=(.mk (.type "super") none (.fields #[(.ref 101),(.ref 101),(.ref 101)]) #[])
def x60:Obj:=(.mk (.type "builtin_function_or_method") none (.fields #[(.builtin "object.__init_subclass__"),(.ref 101)]) #[])
def x61 (P:Params):Obj:=(.mk (.type "dict") none (.dict #[(en P "__module__" 320 (.str "pebbletoll.webs" 305)),(en P "__qualname__" 322 (.str "Web" 321)),(en P "__firstlineno__" 324 (.int 37 323)),(en P "__init__" 330 (.ref 115)),(en P "__static_attributes__" 333 (.ref 116))] 5) #[])
def x62:Obj:=(.mk .none none (.fields #[(.int 39 0),(.int 4 0),(.ref 114)]) #[])
def x63:Obj:=(cO "Web" "Web" 315 316 317 37 0 0 0 0 (.ref 107) false 181 (.ref 108) .none .none .none .none 318 37 319)
def x64:Obj:=(.mk (.type "frame") none .plain #[(some (.ref 109)),(some (.ref 3)),(some (.ref 106)),none,(some (.str "pebbletoll.webs" 305)),none,(some (.ref 0))])
def x65:Obj:=(fR "__init__" "Web.__init__" (inC (top 16) 0))
def x66:Obj:=(cO "__init__" "Web.__init__" 325 326 327 39 3 0 0 3 (.ref 111) true 181 (.ref 112) .none .none .none (.ref 113) 328 39 329)
def x67:Obj:=(fO "__init__" "Web.__init__" (inC (top 16) 0) (.str "pebbletoll.webs" 305) (.ref 114))
def x68:Obj:=(tO #[(.str "many" 331),(.str "roads" 332)])
def x69 (P:Params):Obj:=(.mk (.type "dict") none (.dict #[(en P "__module__" 320 (.str "pebbletoll.webs" 305)),(en P "__firstlineno__" 324 (.int 37 323)),(en P "__init__" 330 (.ref 115)),(en P "__static_attributes__" 333 (.ref 116)),(en P "__dict__" 335 (.ref 119)),(en P "__weakref__" 337 (.ref 120)),(en P "__doc__" 338 .none)] 4) #[])
def x70:Obj:=(.mk (.type "type") none (.cls (.mk "Web" [(.type "object")] [(.ref 118),(.type "object")] 117 "Web" true [] [] false none false)) #[none,none,(some (.str "Web" 313)),(some (.str "Web" 321)),(some (.builtin "object.__new__")),(some (.bool true))])
def x71:Obj:=(.mk (.type "getset_descriptor") none (.fields #[(.str "__dict__" 334),(.ref 118),(.builtin "function.__dict__"),(.builtin "function.__dict__#set")]) #[])
def x72:Obj:=(.mk (.type "getset_descriptor") none (.fields #[(.str "__weakref__" 336),(.ref 118),(.builtin "ExceptionGroup.__weakref__"),.none]) #[])
def x73:Obj:=(.mk (.type "super") none (.fields #[(.ref 118),(.ref 118),(.ref 118)]) #[])
def x74:Obj:=(.mk (.type "builtin_function_or_method") none (.fields #[(.builtin "object.__init_subclass__"),(.ref 118)]) #[])
def x75:Obj:=(tO #[(.str "web" 344),(.str "a" 345),(.str "b" 346),(.str "one" 347),(.str "other" 348),(.str "there" 349),(.str "back" 350)])
def x76:Obj:=(fR "toll" "toll" (top 17))
def x77:Obj:=(cO "toll" "toll" 341 342 343 48 3 0 0 3 (.ref 123) true 181 (.ref 124) .none (.ref 125) (.ref 126) (.ref 127) 351 48 352)
def x78:Obj:=(fO "toll" "toll" (top 17) (.str "pebbletoll.webs" 305) (.ref 128))
def x79:Obj:=(tO #[(.str "web" 357),(.str "a" 358)])
def x80:Obj:=(fR "neighbours" "neighbours" (top 18))
def x81:Obj:=(cO "neighbours" "neighbours" 354 355 356 57 2 0 0 3 (.ref 130) true 181 (.ref 131) .none (.ref 132) (.ref 133) (.ref 134) 359 57 360)
def x82:Obj:=(fO "neighbours" "neighbours" (top 18) (.str "pebbletoll.webs" 305) (.ref 135))
def x83:Obj:=(tO #[(.str "web" 365),(.str "number" 366)])
def x84:Obj:=(fR "check_place" "check_place" (top 19))
def x85:Obj:=(cO "check_place" "check_place" 362 363 364 60 2 0 0 3 (.ref 137) true 181 (.ref 138) .none (.ref 139) (.ref 140) (.ref 141) 367 60 368)
def x86:Obj:=(fO "check_place" "check_place" (top 19) (.str "pebbletoll.webs" 305) (.ref 142))
def x87:Obj:=(tO #[(.str "many" 373),(.str "number" 374)])
def x88:Obj:=(fR "is_place" "is_place" (top 20))
def x89:Obj:=(cO "is_place" "is_place" 370 371 372 63 2 0 0 3 (.ref 144) true 181 (.ref 145) .none (.ref 146) (.ref 147) (.ref 148) 375 63 376)
def x90:Obj:=(fO "is_place" "is_place" (top 20) (.str "pebbletoll.webs" 305) (.ref 149))
def x91:Obj:=(tO #[(.str "many" 381),(.str "roads" 382)])
def x92:Obj:=(fR "check_counts" "check_counts" (top 21))
def x93:Obj:=(cO "check_counts" "check_counts" 378 379 380 65 2 0 0 3 (.ref 151) true 181 (.ref 152) .none (.ref 153) (.ref 154) (.ref 155) 383 65 384)
def x94:Obj:=(fO "check_counts" "check_counts" (top 21) (.str "pebbletoll.webs" 305) (.ref 156))
def x95:Obj:=(tO #[(.str "many" 389),(.str "road" 390)])
def x96:Obj:=(fR "check_ends" "check_ends" (top 22))
def x97:Obj:=(cO "check_ends" "check_ends" 386 387 388 70 2 0 0 3 (.ref 158) true 181 (.ref 159) .none (.ref 160) (.ref 161) (.ref 162) 391 70 392)
def x98:Obj:=(fO "check_ends" "check_ends" (top 22) (.str "pebbletoll.webs" 305) (.ref 163))
def x99:Obj:=(tO #[(.str "road" 397),(.str "number" 398)])
def RK:Obj:=(fR "check_tolls" "check_tolls" (top 23))
def OS:Obj:=(cO "check_tolls" "check_tolls" 394 395 396 75 1 0 0 3 (.ref 165) true 181 (.ref 166) .none (.ref 167) (.ref 168) (.ref 169) 399 75 400)
def OO:Obj:=(fO "check_tolls" "check_tolls" (top 23) (.str "pebbletoll.webs" 305) (.ref 170))
def Op:Obj:=(tO #[(.str "many" 405),(.str "roads" 406),(.str "reached" 407),(.str "waiting" 408),(.str "place" 409),(.str "end" 410)])
def SU:Obj:=(fR "check_joined" "check_joined" (top 24))
def OU:Obj:=(cO "check_joined" "check_joined" 402 403 404 79 2 0 0 3 (.ref 172) true 181 (.ref 173) .none (.ref 174) (.ref 175) (.ref 176) 411 79 412)
def Nb:Obj:=(fO "check_joined" "check_joined" (top 24) (.str "pebbletoll.webs" 305) (.ref 177))
def ND:Obj:=(tO #[(.str "roads" 417),(.str "place" 418),(.str "ends" 419),(.str "road" 420)])
def RE:Obj:=(fR "other_ends" "other_ends" (top 25))
def Od:Obj:=(cO "other_ends" "other_ends" 414 415 416 90 2 0 0 3 (.ref 179) true 181 (.ref 180) .none (.ref 181) (.ref 182) (.ref 183) 421 90 422)
def Oe:Obj:=(fO "other_ends" "other_ends" (top 25) (.str "pebbletoll.webs" 305) (.ref 184))
def MY:Obj:=(tO #[(.str "web" 429),(.str "r" 430),(.str "nearer" 431),(.str "waiting" 432),(.str "place" 433),(.str "front" 434),(.str "kid" 435)])
def TZ:Obj:=(fR "ahead" "ahead" (top 27))
def Oh:Obj:=(cO "ahead" "ahead" 426 427 428 99 2 0 0 3 (.ref 186) true 181 (.ref 187) .none (.ref 188) (.ref 189) (.ref 190) 436 99 437)
def OL:Obj:=(fO "ahead" "ahead" (top 27) (.str "pebbletoll.ways" 424) (.ref 191))
def MT:Obj:=(tO #[(.str "web" 442),(.str "r" 443),(.str "nearer" 444),(.str "places" 445),(.str "waiting" 446),(.str "place" 447),(.str "kid" 448)])
def RX:Obj:=(fR "down" "down" (top 28))
def NN:Obj:=(cO "down" "down" 439 440 441 110 2 0 0 3 (.ref 193) true 181 (.ref 194) .none (.ref 195) (.ref 196) (.ref 197) 449 110 450)
def Ow:Obj:=(fO "down" "down" (top 28) (.str "pebbletoll.ways" 424) (.ref 198))
def Ru:Obj:=(fR "kids" "kids" (top 29))
def Ox:Obj:=(cO "kids" "kids" 452 453 454 120 3 0 0 3 (.ref 200) true 181 (.ref 201) .none .none .none (.ref 202) 455 120 456)
def O0:Obj:=(fO "kids" "kids" (top 29) (.str "pebbletoll.ways" 424) (.ref 203))
def RS:Obj:=(fR "inward" "inward" (top 30))
def NV:Obj:=(cO "inward" "inward" 458 459 460 122 2 0 0 3 (.ref 205) true 181 (.ref 206) .none .none .none (.ref 207) 461 122 462)
def OB:Obj:=(fO "inward" "inward" (top 30) (.str "pebbletoll.ways" 424) (.ref 208))
def MU:Obj:=(tO #[(.int 0 466),(.int 1 467)])
def No:Obj:=(tO #[(.int 1 469),(.int 1 470)])
def O5:Obj:=(tO #[(.str "web" 475),(.str "shares" 476),(.str "v" 477)])
def TC:Obj:=(fR "worth" "worth" (top 34))
def Nx:Obj:=(cO "worth" "worth" 472 473 474 128 3 0 0 3 (.ref 212) true 181 (.ref 213) .none (.ref 214) (.ref 215) (.ref 216) 478 128 479)
def OE:Obj:=(fO "worth" "worth" (top 34) (.str "pebbletoll.shares" 464) (.ref 217))
def Os:Obj:=(tO #[(.str "web" 484),(.str "shares" 485),(.str "u" 486)])
def Sd:Obj:=(fR "yields" "yields" (top 35))
def Nd:Obj:=(cO "yields" "yields" 481 482 483 130 3 0 0 3 (.ref 219) true 181 (.ref 220) .none (.ref 221) (.ref 222) (.ref 223) 487 130 488)
def Nq:Obj:=(fO "yields" "yields" (top 35) (.str "pebbletoll.shares" 464) (.ref 224))
def TM:Obj:=(fR "divided_up" "divided_up" (top 36))
def OT:Obj:=(cO "divided_up" "divided_up" 490 491 492 132 2 0 0 3 (.ref 226) true 181 (.ref 227) .none .none .none (.ref 228) 493 132 494)
def Oy:Obj:=(fO "divided_up" "divided_up" (top 36) (.str "pebbletoll.shares" 464) (.ref 229))
def OI:Obj:=(tO #[(.str "web" 499),(.str "v" 500),(.str "prices" 501),(.str "place" 502),(.str "front" 503)])
def Sw:Obj:=(fR "prices_to" "prices_to" (top 37))
def OY:Obj:=(cO "prices_to" "prices_to" 496 497 498 134 2 0 0 3 (.ref 231) true 181 (.ref 232) .none (.ref 233) (.ref 234) (.ref 235) 504 134 505)
def Ng:Obj:=(fO "prices_to" "prices_to" (top 37) (.str "pebbletoll.shares" 464) (.ref 236))
def O6:Obj:=(tO #[(.str "web" 510),(.str "u" 511),(.str "prices" 512),(.str "place" 513),(.str "front" 514)])
def Re:Obj:=(fR "prices_from" "prices_from" (top 38))
def Ou:Obj:=(cO "prices_from" "prices_from" 507 508 509 139 2 0 0 3 (.ref 238) true 181 (.ref 239) .none (.ref 240) (.ref 241) (.ref 242) 515 139 516)
def Og:Obj:=(fO "prices_from" "prices_from" (top 38) (.str "pebbletoll.shares" 464) (.ref 243))
def Sc:Obj:=(fR "even_shares" "even_shares" (top 39))
def Oz:Obj:=(cO "even_shares" "even_shares" 518 519 520 144 1 0 0 3 (.ref 245) true 181 (.ref 246) .none .none .none (.ref 247) 521 144 522)
def Nv:Obj:=(fO "even_shares" "even_shares" (top 39) (.str "pebbletoll.shares" 464) (.ref 248))
def SO:Obj:=(fR "even_share" "even_share" (top 40))
def O8:Obj:=(cO "even_share" "even_share" 524 525 526 146 2 0 0 3 (.ref 250) true 181 (.ref 251) .none .none .none (.ref 252) 527 146 528)
def On:Obj:=(fO "even_share" "even_share" (top 40) (.str "pebbletoll.shares" 464) (.ref 253))
def QO:Obj:=(fR "second_shares" "second_shares" (top 41))
def Nj:Obj:=(cO "second_shares" "second_shares" 530 531 532 149 1 0 0 3 (.ref 255) true 181 (.ref 256) .none .none .none (.ref 257) 533 149 534)
def Ob:Obj:=(fO "second_shares" "second_shares" (top 41) (.str "pebbletoll.shares" 464) (.ref 258))
def Tc:Obj:=(fR "second_share" "second_share" (top 42))
def MZ:Obj:=(cO "second_share" "second_share" 536 537 538 151 2 0 0 3 (.ref 260) true 181 (.ref 261) .none .none .none (.ref 262) 539 151 540)
def Ni:Obj:=(fO "second_share" "second_share" (top 42) (.str "pebbletoll.shares" 464) (.ref 263))
noncomputable def h0 (P:Params):Heap:=.mk (.mk (boot_o_0 P::boot_o_1 P::boot_o_2 P::x4 P::boot_o_4 P::boot_o_5 P::boot_o_6 P::boot_o_7 P::boot_o_8 P::boot_o_9 P::boot_o_10 P::x0::x5::x2::x3::x0::x1::x6::x0::x7::x8::x9::x0::x1::x10::x0::x11::x12::x13::x0::x1::x14::x0::x15::x16::x17::x0::x1::x18::x0::x19::x20::x21::x0::x1::x22::x0::x23::x24::x25::x0::x1::x26::x27::x28::x29::x30::x31 P::x0::x1::x32::x33::x0::x34 P::x35::x36::x37::x38::x39::x30::x40 P::x0::x1::x41::x42::x0::x43 P::x44::x45::x46::x39::x30::x47 P::x0::x1::x48::x49::x0::x50 P::x51::x52::x53::x39::x30::x54 P::x0::x1::x55::x56::x0::x57 P::x58::x59::x60::x0::x30::x61 P::x0::x62::x63::x64::x0::x1::x65::x66::x67::x68::x69 P::x70::x71::x72::x73::x74::x0::x1::x75::x0::x76::x77::x78::x0::x1::x79::x0::x80::x81::x82::x0::x1::x83::x0::x84::x85::x86::x0::x1::x87::x0::x88::x89::x90::x0::x1::x91::x0::x92::x93::x94::x0::x1::x95::x0::x96::x97::x98::x0::x1::x99::x0::RK::OS::OO::x0::x1::Op::x0::SU::OU::Nb::x0::x1::ND::x0::RE::Od::Oe::x0::x1::MY::x0::TZ::Oh::OL::x0::x1::MT::x0::RX::NN::Ow::x0::x1::Ru::Ox::O0::x0::x1::RS::NV::OB::MU::No::x0::x1::O5::x0::TC::Nx::OE::x0::x1::Os::x0::Sd::Nd::Nq::x0::x1::TM::OT::Oy::x0::x1::OI::x0::Sw::OY::Ng::x0::x1::O6::x0::Re::Ou::Og::x0::x1::Sc::Oz::Nv::x0::x1::SO::O8::On::x0::x1::QO::Nj::Ob::x0::x1::Tc::MZ::Ni::[])) (.mk [] [] [] 0 [] [] false #[] [] 0 false false false 0 [2000,10,10] false 0 true [] [] 0 false)
theorem Xv (w:World) (os:OsState):segRun treeTable PySem.Challenge.pw_pebbletoll_k54_papers_of_fairest w 11 (some (.ref 6)) 1 1980 (Shared.mk (hb w.params) (.mk []) (.mk 0 0 0 0) 187 os) (piecesOf st0 env cE (.mk 0 0 0 0) [topFrame (.mk 0 0 0 0)])=some (.next,(Shared.mk (h0 w.params) (.mk []) (.mk 0 0 0 0) 542 os),cE,(.mk 151 0 153 110)):=by kernel_rfl
def SI (P:Params):Obj:=(.mk (.type "dict") none (.dict #[(en P "__name__" 165 (.str "law_pebbletoll_k54_papers_of_fairest" 569)),(en P "__doc__" 166 .none),(en P "__package__" 167 .none),(en P "__loader__" 168 (.builtin "__main__.__loader__#opaque")),(en P "__spec__" 169 .none),(en P "__annotations__" 170 (.ref 6)),(en P "__builtins__" 171 (.ref 4)),(en P "__file__" 173 (.str "/claim/cut.py" 172)),(en P "__cached__" 174 .none),(en P "fraction" 197 (.ref 21)),(en P "common_divisor" 206 (.ref 28)),(en P "plus" 214 (.ref 35)),(en P "minus" 222 (.ref 42)),(en P "less" 230 (.ref 49)),(en P "sum_up" 236 (.ref 54)),(en P "TollError" 256 (.ref 64)),(en P "BadWeb" 272 (.ref 77)),(en P "NoPlace" 288 (.ref 89)),(en P "NoRoad" 304 (.ref 101)),(en P "MOST_PLACES" 308 (.int 24 307)),(en P "LEAST_TOLL" 310 (.int 2 309)),(en P "MOST_TOLL" 312 (.int 1000000 311)),(en P "Web" 340 (.ref 118)),(en P "toll" 353 (.ref 129)),(en P "neighbours" 361 (.ref 136)),(en P "check_place" 369 (.ref 143)),(en P "is_place" 377 (.ref 150)),(en P "check_counts" 385 (.ref 157)),(en P "check_ends" 393 (.ref 164)),(en P "check_tolls" 401 (.ref 171)),(en P "check_joined" 413 (.ref 178)),(en P "other_ends" 423 (.ref 185)),(en P "ahead" 438 (.ref 192)),(en P "down" 451 (.ref 199)),(en P "kids" 457 (.ref 204)),(en P "inward" 463 (.ref 209)),(en P "NOUGHT" 468 (.ref 210)),(en P "ONE" 471 (.ref 211)),(en P "worth" 480 (.ref 218)),(en P "yields" 489 (.ref 225)),(en P "divided_up" 495 (.ref 230)),(en P "prices_to" 506 (.ref 237)),(en P "prices_from" 517 (.ref 244)),(en P "even_shares" 523 (.ref 249)),(en P "even_share" 529 (.ref 254)),(en P "second_shares" 535 (.ref 259)),(en P "second_share" 541 (.ref 264)),(en P "road_part" 549 (.ref 271)),(en P "shows_fairest" 555 (.ref 276)),(en P "are_sound" 561 (.ref 281)),(en P "is_below" 568 (.ref 288)),(en P "_law_cell" 578 (.ref 295)),(en P "_law_stir" 587 (.ref 302)),(en P "_law_cells" 598 (.ref 309)),(en P "_law_take" 607 (.ref 316)),(en P "_law_toll" 616 (.ref 323)),(en P "_law_roads" 635 (.ref 330)),(en P "_law_web" 645 (.ref 337)),(en P "_law_tolls" 657 (.ref 344)),(en P "_law_beside" 663 (.ref 349)),(en P "_law_ahead" 676 (.ref 356)),(en P "_law_whole" 683 (.ref 363)),(en P "_law_part" 692 (.ref 370)),(en P "_law_fraction" 701 (.ref 377)),(en P "_law_drawn" 711 (.ref 384)),(en P "_law_prices" 727 (.ref 391)),(en P "_law_divided" 739 (.ref 398)),(en P "_law_added" 747 (.ref 405)),(en P "_law_turned" 753 (.ref 410)),(en P "_law_scaled" 759 (.ref 415)),(en P "_law_otherwise" 770 (.ref 422)),(en P "_law_due" 776 (.ref 427)),(en P "_law_asked_good" 790 (.ref 434)),(en P "_law_led" 796 (.ref 439)),(en P "law" 802 (.ref 444))] 75) #[])
def V2:Obj:=(.mk .none none (.fields #[(.int 2 0),(.int 0 0),(.ref 20),(.int 7 0),(.int 0 0),(.ref 27),(.int 13 0),(.int 0 0),(.ref 34),(.int 15 0),(.int 0 0),(.ref 41),(.int 17 0),(.int 0 0),(.ref 48),(.int 19 0),(.int 0 0),(.ref 53),(.int 25 0),(.int 0 0),(.ref 60),(.int 27 0),(.int 0 0),(.ref 73),(.int 29 0),(.int 0 0),(.ref 85),(.int 31 0),(.int 0 0),(.ref 97),(.int 37 0),(.int 0 0),(.ref 109),(.int 48 0),(.int 0 0),(.ref 128),(.int 57 0),(.int 0 0),(.ref 135),(.int 60 0),(.int 0 0),(.ref 142),(.int 63 0),(.int 0 0),(.ref 149),(.int 65 0),(.int 0 0),(.ref 156),(.int 70 0),(.int 0 0),(.ref 163),(.int 75 0),(.int 0 0),(.ref 170),(.int 79 0),(.int 0 0),(.ref 177),(.int 90 0),(.int 0 0),(.ref 184),(.int 99 0),(.int 0 0),(.ref 191),(.int 110 0),(.int 0 0),(.ref 198),(.int 120 0),(.int 0 0),(.ref 203),(.int 122 0),(.int 0 0),(.ref 208),(.int 128 0),(.int 0 0),(.ref 217),(.int 130 0),(.int 0 0),(.ref 224),(.int 132 0),(.int 0 0),(.ref 229),(.int 134 0),(.int 0 0),(.ref 236),(.int 139 0),(.int 0 0),(.ref 243),(.int 144 0),(.int 0 0),(.ref 248),(.int 146 0),(.int 0 0),(.ref 253),(.int 149 0),(.int 0 0),(.ref 258),(.int 151 0),(.int 0 0),(.ref 263),(.int 154 0),(.int 0 0),(.ref 270),(.int 156 0),(.int 0 0),(.ref 275),(.int 164 0),(.int 0 0),(.ref 280),(.int 166 0),(.int 0 0),(.ref 287),(.int 169 0),(.int 0 0),(.ref 294),(.int 173 0),(.int 0 0),(.ref 301),(.int 177 0),(.int 0 0),(.ref 308),(.int 183 0),(.int 0 0),(.ref 315),(.int 187 0),(.int 0 0),(.ref 322),(.int 194 0),(.int 0 0),(.ref 329),(.int 212 0),(.int 0 0),(.ref 336),(.int 216 0),(.int 0 0),(.ref 343),(.int 222 0),(.int 0 0),(.ref 348),(.int 224 0),(.int 0 0),(.ref 355),(.int 235 0),(.int 0 0),(.ref 362),(.int 237 0),(.int 0 0),(.ref 369),(.int 243 0),(.int 0 0),(.ref 376),(.int 246 0),(.int 0 0),(.ref 383),(.int 250 0),(.int 0 0),(.ref 390),(.int 264 0),(.int 0 0),(.ref 397),(.int 271 0),(.int 0 0),(.ref 404),(.int 273 0),(.int 0 0),(.ref 409),(.int 295 0),(.int 0 0),(.ref 414),(.int 297 0),(.int 0 0),(.ref 421),(.int 307 0),(.int 0 0),(.ref 426),(.int 322 0),(.int 0 0),(.ref 433),(.int 331 0),(.int 0 0),(.ref 438),(.int 335 0),(.int 0 0),(.ref 443)]) #[])
def SK:Obj:=(tO #[(.str "one" 545),(.str "other" 546)])
def Wi:Obj:=(fR "road_part" "road_part" (top 43))
def SY:Obj:=(cO "road_part" "road_part" 542 543 544 154 2 0 0 3 (.ref 265) true 181 (.ref 266) .none (.ref 267) (.ref 268) (.ref 269) 547 154 548)
def Rl:Obj:=(fO "road_part" "road_part" (top 43) (.str "pebbletoll.shares" 464) (.ref 270))
def WC:Obj:=(fR "shows_fairest" "shows_fairest" (top 44))
def Rf:Obj:=(cO "shows_fairest" "shows_fairest" 550 551 552 156 3 0 0 3 (.ref 272) true 181 (.ref 273) .none .none .none (.ref 274) 553 156 554)
def Q3:Obj:=(fO "shows_fairest" "shows_fairest" (top 44) (.str "pebbletoll.shares" 464) (.ref 275))
def VY:Obj:=(fR "are_sound" "are_sound" (top 45))
def SQ:Obj:=(cO "are_sound" "are_sound" 556 557 558 164 2 0 0 3 (.ref 277) true 181 (.ref 278) .none .none .none (.ref 279) 559 164 560)
def QS:Obj:=(fO "are_sound" "are_sound" (top 45) (.str "pebbletoll.shares" 464) (.ref 280))
def Tv:Obj:=(tO #[(.str "share" 565)])
def Ww:Obj:=(fR "is_below" "is_below" (top 46))
def Tg:Obj:=(cO "is_below" "is_below" 562 563 564 166 1 0 0 3 (.ref 282) true 181 (.ref 283) .none (.ref 284) (.ref 285) (.ref 286) 566 166 567)
def Te:Obj:=(fO "is_below" "is_below" (top 46) (.str "pebbletoll.shares" 464) (.ref 287))
def QU:Obj:=(tO #[(.str "script" 574),(.str "k" 575)])
def VR:Obj:=(fR "_law_cell" "_law_cell" (top 48))
def Tr:Obj:=(cO "_law_cell" "_law_cell" 571 572 573 169 2 0 0 3 (.ref 289) true 181 (.ref 290) .none (.ref 291) (.ref 292) (.ref 293) 576 169 577)
def Tk:Obj:=(fO "_law_cell" "_law_cell" (top 48) (.str "law_pebbletoll_k54_papers_of_fairest" 569) (.ref 294))
def TL:Obj:=(tO #[(.str "cell" 582),(.str "k" 583),(.str "big" 584)])
def VM:Obj:=(fR "_law_stir" "_law_stir" (top 49))
def R3:Obj:=(cO "_law_stir" "_law_stir" 579 580 581 173 2 0 0 3 (.ref 296) true 181 (.ref 297) .none (.ref 298) (.ref 299) (.ref 300) 585 173 586)
def Q9:Obj:=(fO "_law_stir" "_law_stir" (top 49) (.str "law_pebbletoll_k54_papers_of_fairest" 569) (.ref 301))
def SB:Obj:=(tO #[(.str "script" 591),(.str "many" 592),(.str "cells" 593),(.str "k" 594),(.str "at" 595)])
def WJ:Obj:=(fR "_law_cells" "_law_cells" (top 50))
def Rb:Obj:=(cO "_law_cells" "_law_cells" 588 589 590 177 2 0 0 3 (.ref 303) true 181 (.ref 304) .none (.ref 305) (.ref 306) (.ref 307) 596 177 597)
def Rz:Obj:=(fO "_law_cells" "_law_cells" (top 50) (.str "law_pebbletoll_k54_papers_of_fairest" 569) (.ref 308))
def TW:Obj:=(tO #[(.str "pot" 602),(.str "n" 603),(.str "found" 604)])
def WN:Obj:=(fR "_law_take" "_law_take" (top 51))
def Ty:Obj:=(cO "_law_take" "_law_take" 599 600 601 183 2 0 0 3 (.ref 310) true 181 (.ref 311) .none (.ref 312) (.ref 313) (.ref 314) 605 183 606)
def Sl:Obj:=(fO "_law_take" "_law_take" (top 51) (.str "law_pebbletoll_k54_papers_of_fairest" 569) (.ref 315))
def QZ:Obj:=(tO #[(.str "pot" 611),(.str "small" 612),(.str "kind" 613)])
def VJ:Obj:=(fR "_law_toll" "_law_toll" (top 52))
def R8:Obj:=(cO "_law_toll" "_law_toll" 608 609 610 187 2 0 0 3 (.ref 317) true 181 (.ref 318) .none (.ref 319) (.ref 320) (.ref 321) 614 187 615)
def RO:Obj:=(fO "_law_toll" "_law_toll" (top 52) (.str "law_pebbletoll_k54_papers_of_fairest" 569) (.ref 322))
def T5:Obj:=(tO #[(.str "cells" 620),(.str "first" 621),(.str "labels" 622),(.str "rows" 623),(.str "k" 624),(.str "pot" 625),(.str "under" 626),(.str "there" 627),(.str "back" 628),(.str "roads" 629),(.str "swap" 630),(.str "spot" 631),(.str "road" 632)])
def VH:Obj:=(fR "_law_roads" "_law_roads" (top 53))
def To:Obj:=(cO "_law_roads" "_law_roads" 617 618 619 194 2 0 0 3 (.ref 324) true 181 (.ref 325) .none (.ref 326) (.ref 327) (.ref 328) 633 194 634)
def Rs:Obj:=(fO "_law_roads" "_law_roads" (top 53) (.str "law_pebbletoll_k54_papers_of_fairest" 569) (.ref 329))
def Tj:Obj:=(tO #[(.str "script" 639),(.str "sizes" 640),(.str "first" 641),(.str "many" 642)])
def VZ:Obj:=(fR "_law_web" "_law_web" (top 54))
def Ss:Obj:=(cO "_law_web" "_law_web" 636 637 638 212 2 0 0 3 (.ref 331) true 181 (.ref 332) .none (.ref 333) (.ref 334) (.ref 335) 643 212 644)
def Th:Obj:=(fO "_law_web" "_law_web" (top 54) (.str "law_pebbletoll_k54_papers_of_fairest" 569) (.ref 336))
def Rm:Obj:=(tO #[(.str "roads" 649),(.str "tolls" 650),(.str "one" 651),(.str "other" 652),(.str "there" 653),(.str "back" 654)])
def V7:Obj:=(fR "_law_tolls" "_law_tolls" (top 55))
def Q5:Obj:=(cO "_law_tolls" "_law_tolls" 646 647 648 216 1 0 0 3 (.ref 338) true 181 (.ref 339) .none (.ref 340) (.ref 341) (.ref 342) 655 216 656)
def Rn:Obj:=(fO "_law_tolls" "_law_tolls" (top 55) (.str "law_pebbletoll_k54_papers_of_fairest" 569) (.ref 343))
def WV:Obj:=(fR "_law_beside" "_law_beside" (top 56))
def RT:Obj:=(cO "_law_beside" "_law_beside" 658 659 660 222 3 0 0 3 (.ref 345) true 181 (.ref 346) .none .none .none (.ref 347) 661 222 662)
def SM:Obj:=(fO "_law_beside" "_law_beside" (top 56) (.str "law_pebbletoll_k54_papers_of_fairest" 569) (.ref 348))
def RJ:Obj:=(tO #[(.str "many" 667),(.str "tolls" 668),(.str "r" 669),(.str "found" 670),(.str "row" 671),(.str "at" 672),(.str "other" 673)])
def V4:Obj:=(fR "_law_ahead" "_law_ahead" (top 57))
def Se:Obj:=(cO "_law_ahead" "_law_ahead" 664 665 666 224 3 0 0 3 (.ref 350) true 181 (.ref 351) .none (.ref 352) (.ref 353) (.ref 354) 674 224 675)
def Sg:Obj:=(fO "_law_ahead" "_law_ahead" (top 57) (.str "law_pebbletoll_k54_papers_of_fairest" 569) (.ref 355))
def VS:Obj:=(tO #[(.str "found" 680)])
def WU:Obj:=(fR "_law_whole" "_law_whole" (top 58))
def V9:Obj:=(cO "_law_whole" "_law_whole" 677 678 679 235 1 0 0 3 (.ref 357) true 181 (.ref 358) .none (.ref 359) (.ref 360) (.ref 361) 681 235 682)
def VU:Obj:=(fO "_law_whole" "_law_whole" (top 58) (.str "law_pebbletoll_k54_papers_of_fairest" 569) (.ref 362))
def SL:Obj:=(tO #[(.str "one" 687),(.str "other" 688),(.str "rest" 689)])
def Wg:Obj:=(fR "_law_part" "_law_part" (top 59))
def Q0:Obj:=(cO "_law_part" "_law_part" 684 685 686 237 2 0 0 3 (.ref 364) true 181 (.ref 365) .none (.ref 366) (.ref 367) (.ref 368) 690 237 691)
def R4:Obj:=(fO "_law_part" "_law_part" (top 59) (.str "law_pebbletoll_k54_papers_of_fairest" 569) (.ref 369))
def SG:Obj:=(tO #[(.str "top" 696),(.str "bottom" 697),(.str "part" 698)])
def Wx:Obj:=(fR "_law_fraction" "_law_fraction" (top 60))
def SH:Obj:=(cO "_law_fraction" "_law_fraction" 693 694 695 243 2 0 0 3 (.ref 371) true 181 (.ref 372) .none (.ref 373) (.ref 374) (.ref 375) 699 243 700)
def RI:Obj:=(fO "_law_fraction" "_law_fraction" (top 60) (.str "law_pebbletoll_k54_papers_of_fairest" 569) (.ref 376))
def RP:Obj:=(tO #[(.str "pot" 705),(.str "great" 706),(.str "far" 707),(.str "top" 708)])
def WM:Obj:=(fR "_law_drawn" "_law_drawn" (top 61))
def Sb:Obj:=(cO "_law_drawn" "_law_drawn" 702 703 704 246 2 0 0 3 (.ref 378) true 181 (.ref 379) .none (.ref 380) (.ref 381) (.ref 382) 709 246 710)
def TX:Obj:=(fO "_law_drawn" "_law_drawn" (top 61) (.str "law_pebbletoll_k54_papers_of_fairest" 569) (.ref 383))
def R9:Obj:=(tO #[(.str "many" 715),(.str "tolls" 716),(.str "v" 717),(.str "to" 718),(.str "towards" 719),(.str "told" 720),(.str "place" 721),(.str "product" 722),(.str "here" 723),(.str "step" 724)])
def Wq:Obj:=(fR "_law_prices" "_law_prices" (top 62))
def QN:Obj:=(cO "_law_prices" "_law_prices" 712 713 714 250 4 0 0 3 (.ref 385) true 181 (.ref 386) .none (.ref 387) (.ref 388) (.ref 389) 725 250 726)
def SE:Obj:=(fO "_law_prices" "_law_prices" (top 62) (.str "law_pebbletoll_k54_papers_of_fairest" 569) (.ref 390))
def SC:Obj:=(tO #[(.str "shares" 731),(.str "prices" 732),(.str "top" 733),(.str "bottom" 734),(.str "share" 735),(.str "much" 736)])
def VF:Obj:=(fR "_law_divided" "_law_divided" (top 63))
def Tz:Obj:=(cO "_law_divided" "_law_divided" 728 729 730 264 2 0 0 3 (.ref 392) true 181 (.ref 393) .none (.ref 394) (.ref 395) (.ref 396) 737 264 738)
def S7:Obj:=(fO "_law_divided" "_law_divided" (top 63) (.str "law_pebbletoll_k54_papers_of_fairest" 569) (.ref 397))
def RL:Obj:=(tO #[(.str "one" 743),(.str "two" 744)])
def WG:Obj:=(fR "_law_added" "_law_added" (top 64))
def S8:Obj:=(cO "_law_added" "_law_added" 740 741 742 271 2 0 0 3 (.ref 399) true 181 (.ref 400) .none (.ref 401) (.ref 402) (.ref 403) 745 271 746)
def SZ:Obj:=(fO "_law_added" "_law_added" (top 64) (.str "law_pebbletoll_k54_papers_of_fairest" 569) (.ref 404))
def VG:Obj:=(fR "_law_turned" "_law_turned" (top 65))
def RD:Obj:=(cO "_law_turned" "_law_turned" 748 749 750 273 3 0 0 3 (.ref 406) true 181 (.ref 407) .none .none .none (.ref 408) 751 273 752)
def S3:Obj:=(fO "_law_turned" "_law_turned" (top 65) (.str "law_pebbletoll_k54_papers_of_fairest" 569) (.ref 409))
def Wy:Obj:=(fR "_law_scaled" "_law_scaled" (top 66))
def Tx:Obj:=(cO "_law_scaled" "_law_scaled" 754 755 756 295 2 0 0 3 (.ref 411) true 181 (.ref 412) .none .none .none (.ref 413) 757 295 758)
def TF:Obj:=(fO "_law_scaled" "_law_scaled" (top 66) (.str "law_pebbletoll_k54_papers_of_fairest" 569) (.ref 414))
def R7:Obj:=(tO #[(.str "shares" 763),(.str "second" 764),(.str "pot" 765),(.str "kind" 766),(.str "by" 767)])
def Wp:Obj:=(fR "_law_otherwise" "_law_otherwise" (top 67))
def Tu:Obj:=(cO "_law_otherwise" "_law_otherwise" 760 761 762 297 3 0 0 3 (.ref 416) true 181 (.ref 417) .none (.ref 418) (.ref 419) (.ref 420) 768 297 769)
def SF:Obj:=(fO "_law_otherwise" "_law_otherwise" (top 67) (.str "law_pebbletoll_k54_papers_of_fairest" 569) (.ref 421))
def WP:Obj:=(fR "_law_due" "_law_due" (top 68))
def Tp:Obj:=(cO "_law_due" "_law_due" 771 772 773 307 4 0 0 3 (.ref 423) true 181 (.ref 424) .none .none .none (.ref 425) 774 307 775)
def QY:Obj:=(fO "_law_due" "_law_due" (top 68) (.str "law_pebbletoll_k54_papers_of_fairest" 569) (.ref 426))
def RR:Obj:=(tO #[(.str "web" 780),(.str "tolls" 781),(.str "shares" 782),(.str "second" 783),(.str "turn" 784),(.str "handed" 785),(.str "due" 786),(.str "found" 787)])
def Wo:Obj:=(fR "_law_asked_good" "_law_asked_good" (top 69))
def Q8:Obj:=(cO "_law_asked_good" "_law_asked_good" 777 778 779 322 5 0 0 3 (.ref 428) true 181 (.ref 429) .none (.ref 430) (.ref 431) (.ref 432) 788 322 789)
def RV:Obj:=(fO "_law_asked_good" "_law_asked_good" (top 69) (.str "law_pebbletoll_k54_papers_of_fairest" 569) (.ref 433))
def WI:Obj:=(fR "_law_led" "_law_led" (top 70))
def QX:Obj:=(cO "_law_led" "_law_led" 791 792 793 331 3 0 0 3 (.ref 435) true 181 (.ref 436) .none .none .none (.ref 437) 794 331 795)
def Sj:Obj:=(fO "_law_led" "_law_led" (top 70) (.str "law_pebbletoll_k54_papers_of_fairest" 569) (.ref 438))
def VT:Obj:=(fR "law" "law" (top 71))
def SS:Obj:=(cO "law" "law" 797 798 799 335 1 0 0 3 (.ref 440) true 181 (.ref 441) .none .none .none (.ref 442) 800 335 801)
def TB:Obj:=(fO "law" "law" (top 71) (.str "law_pebbletoll_k54_papers_of_fairest" 569) (.ref 443))
noncomputable def h1 (P:Params):Heap:=.mk (.mk (boot_o_0 P::boot_o_1 P::boot_o_2 P::SI P::boot_o_4 P::boot_o_5 P::boot_o_6 P::boot_o_7 P::boot_o_8 P::boot_o_9 P::boot_o_10 P::x0::V2::x2::x3::x0::x1::x6::x0::x7::x8::x9::x0::x1::x10::x0::x11::x12::x13::x0::x1::x14::x0::x15::x16::x17::x0::x1::x18::x0::x19::x20::x21::x0::x1::x22::x0::x23::x24::x25::x0::x1::x26::x27::x28::x29::x30::x31 P::x0::x1::x32::x33::x0::x34 P::x35::x36::x37::x38::x39::x30::x40 P::x0::x1::x41::x42::x0::x43 P::x44::x45::x46::x39::x30::x47 P::x0::x1::x48::x49::x0::x50 P::x51::x52::x53::x39::x30::x54 P::x0::x1::x55::x56::x0::x57 P::x58::x59::x60::x0::x30::x61 P::x0::x62::x63::x64::x0::x1::x65::x66::x67::x68::x69 P::x70::x71::x72::x73::x74::x0::x1::x75::x0::x76::x77::x78::x0::x1::x79::x0::x80::x81::x82::x0::x1::x83::x0::x84::x85::x86::x0::x1::x87::x0::x88::x89::x90::x0::x1::x91::x0::x92::x93::x94::x0::x1::x95::x0::x96::x97::x98::x0::x1::x99::x0::RK::OS::OO::x0::x1::Op::x0::SU::OU::Nb::x0::x1::ND::x0::RE::Od::Oe::x0::x1::MY::x0::TZ::Oh::OL::x0::x1::MT::x0::RX::NN::Ow::x0::x1::Ru::Ox::O0::x0::x1::RS::NV::OB::MU::No::x0::x1::O5::x0::TC::Nx::OE::x0::x1::Os::x0::Sd::Nd::Nq::x0::x1::TM::OT::Oy::x0::x1::OI::x0::Sw::OY::Ng::x0::x1::O6::x0::Re::Ou::Og::x0::x1::Sc::Oz::Nv::x0::x1::SO::O8::On::x0::x1::QO::Nj::Ob::x0::x1::Tc::MZ::Ni::x0::x1::SK::x0::Wi::SY::Rl::x0::x1::WC::Rf::Q3::x0::x1::VY::SQ::QS::x0::x1::Tv::x0::Ww::Tg::Te::x0::x1::QU::x0::VR::Tr::Tk::x0::x1::TL::x0::VM::R3::Q9::x0::x1::SB::x0::WJ::Rb::Rz::x0::x1::TW::x0::WN::Ty::Sl::x0::x1::QZ::x0::VJ::R8::RO::x0::x1::T5::x0::VH::To::Rs::x0::x1::Tj::x0::VZ::Ss::Th::x0::x1::Rm::x0::V7::Q5::Rn::x0::x1::WV::RT::SM::x0::x1::RJ::x0::V4::Se::Sg::x0::x1::VS::x0::WU::V9::VU::x0::x1::SL::x0::Wg::Q0::R4::x0::x1::SG::x0::Wx::SH::RI::x0::x1::RP::x0::WM::Sb::TX::x0::x1::R9::x0::Wq::QN::SE::x0::x1::SC::x0::VF::Tz::S7::x0::x1::RL::x0::WG::S8::SZ::x0::x1::VG::RD::S3::x0::x1::Wy::Tx::TF::x0::x1::R7::x0::Wp::Tu::SF::x0::x1::WP::Tp::QY::x0::x1::RR::x0::Wo::Q8::RV::x0::x1::WI::QX::Sj::x0::x1::VT::SS::TB::[])) (.mk [] [] [] 0 [] [] false #[] [] 0 false false false 0 [2000,10,10] false 0 true [] [] 0 false)
theorem Xu (w:World) (os:OsState):segRun treeTable PySem.Challenge.pw_pebbletoll_k54_papers_of_fairest w 11 (some (.ref 6)) 1 869 (Shared.mk (h0 w.params) (.mk []) (.mk 0 0 0 0) 542 os) (piecesOf st1 env cE (.mk 151 0 153 110) [topFrame (.mk 0 0 0 0)])=some (.next,(Shared.mk (h1 w.params) (.mk []) (.mk 0 0 0 0) 803 os),cE,(.mk 335 0 354 15)):=by kernel_rfl
noncomputable def hf (P:Params):Heap:=.mk (.mk (boot_o_0 P::boot_o_1 P::boot_o_2 P::SI P::boot_o_4 P::boot_o_5 P::boot_o_6 P::boot_o_7 P::boot_o_8 P::boot_o_9 P::boot_o_10 P::x0::V2::x2::x3::x0::x1::x6::x0::x7::x8::x9::x0::x1::x10::x0::x11::x12::x13::x0::x1::x14::x0::x15::x16::x17::x0::x1::x18::x0::x19::x20::x21::x0::x1::x22::x0::x23::x24::x25::x0::x1::x26::x27::x28::x29::x30::x31 P::x0::x1::x32::x33::x0::x34 P::x35::x36::x37::x38::x39::x30::x40 P::x0::x1::x41::x42::x0::x43 P::x44::x45::x46::x39::x30::x47 P::x0::x1::x48::x49::x0::x50 P::x51::x52::x53::x39::x30::x54 P::x0::x1::x55::x56::x0::x57 P::x58::x59::x60::x0::x30::x61 P::x0::x62::x63::x64::x0::x1::x65::x66::x67::x68::x69 P::x70::x71::x72::x73::x74::x0::x1::x75::x0::x76::x77::x78::x0::x1::x79::x0::x80::x81::x82::x0::x1::x83::x0::x84::x85::x86::x0::x1::x87::x0::x88::x89::x90::x0::x1::x91::x0::x92::x93::x94::x0::x1::x95::x0::x96::x97::x98::x0::x1::x99::x0::RK::OS::OO::x0::x1::Op::x0::SU::OU::Nb::x0::x1::ND::x0::RE::Od::Oe::x0::x1::MY::x0::TZ::Oh::OL::x0::x1::MT::x0::RX::NN::Ow::x0::x1::Ru::Ox::O0::x0::x1::RS::NV::OB::MU::No::x0::x1::O5::x0::TC::Nx::OE::x0::x1::Os::x0::Sd::Nd::Nq::x0::x1::TM::OT::Oy::x0::x1::OI::x0::Sw::OY::Ng::x0::x1::O6::x0::Re::Ou::Og::x0::x1::Sc::Oz::Nv::x0::x1::SO::O8::On::x0::x1::QO::Nj::Ob::x0::x1::Tc::MZ::Ni::x0::x1::SK::x0::Wi::SY::Rl::x0::x1::WC::Rf::Q3::x0::x1::VY::SQ::QS::x0::x1::Tv::x0::Ww::Tg::Te::x0::x1::QU::x0::VR::Tr::Tk::x0::x1::TL::x0::VM::R3::Q9::x0::x1::SB::x0::WJ::Rb::Rz::x0::x1::TW::x0::WN::Ty::Sl::x0::x1::QZ::x0::VJ::R8::RO::x0::x1::T5::x0::VH::To::Rs::x0::x1::Tj::x0::VZ::Ss::Th::x0::x1::Rm::x0::V7::Q5::Rn::x0::x1::WV::RT::SM::x0::x1::RJ::x0::V4::Se::Sg::x0::x1::VS::x0::WU::V9::VU::x0::x1::SL::x0::Wg::Q0::R4::x0::x1::SG::x0::Wx::SH::RI::x0::x1::RP::x0::WM::Sb::TX::x0::x1::R9::x0::Wq::QN::SE::x0::x1::SC::x0::VF::Tz::S7::x0::x1::RL::x0::WG::S8::SZ::x0::x1::VG::RD::S3::x0::x1::Wy::Tx::TF::x0::x1::R7::x0::Wp::Tu::SF::x0::x1::WP::Tp::QY::x0::x1::RR::x0::Wo::Q8::RV::x0::x1::WI::QX::Sj::x0::x1::VT::SS::TB::[])) (.mk [] [] [] 0 [] [] false #[] [] 0 false false false 0 [2000,10,10] false 0 true [] [] 0 false)
theorem Xm (w:World) (os:OsState):topRun treeTable PySem.Challenge.pw_pebbletoll_k54_papers_of_fairest w 11 (some (.ref 6)) 2 (Shared.mk (h1 w.params) (.mk []) (.mk 0 0 0 0) 803 os) (restOf [] env cE (.mk 335 0 354 15) [topFrame (.mk 0 0 0 0)])=some (Shared.mk (hf w.params) (.mk []) (.mk 0 0 0 0) 803 os):=by kernel_rfl
theorem run (w:World) (os:OsState):topRun treeTable PySem.Challenge.pw_pebbletoll_k54_papers_of_fairest w 11 (some (.ref 6)) (12+(1+(1980+(869+(2))))) (Shared.mk (boot_heap w.params) (.mk []) boot_drawn boot_toks os) (topStub PySem.Challenge.pw_pebbletoll_k54_papers_of_fairest)=some (Shared.mk (hf w.params) (.mk []) (.mk 0 0 0 0) 803 os):=go_top (Xp w os) (piece_block (Xo w os) (piece_app (Xv w os) (piece_app (Xu w os) (Xm w os))))
theorem opn:∀ w:World,(fencedOpening treeTable PySem.Challenge.pw_pebbletoll_k54_papers_of_fairest w 5820).map (fun s=>(s.heap,s.gens,s.drawn,s.toks))=some (boot_heap w.params,Array.mk [],boot_drawn,boot_toks):=boot_open (by kernel_rfl) (by decide) fun s=>by kernel_rfl
theorem siz (w:World):((boot_heap w.params).isNs mainGlobals && (Array.mk ([]:List GenState)).size == 0,(boot_heap w.params).objs.size,(boot_heap w.params).nsMap mainGlobals "__annotations__")=(true,11,(some (.ref 6))):=by kernel_rfl
noncomputable def KK:Params->Frag:=fun P =>
 (nat_lit 2,boot_o_2 P) ::
 (nat_lit 3,SI P) ::
 (nat_lit 15,x0) ::
 (nat_lit 17,x6) ::
 (nat_lit 18,x0) ::
 (nat_lit 20,x8) ::
 (nat_lit 21,x9) ::
 (nat_lit 22,x0) ::
 (nat_lit 24,x10) ::
 (nat_lit 25,x0) ::
 (nat_lit 27,x12) ::
 (nat_lit 28,x13) ::
 (nat_lit 29,x0) ::
 (nat_lit 31,x14) ::
 (nat_lit 32,x0) ::
 (nat_lit 34,x16) ::
 (nat_lit 35,x17) ::
 (nat_lit 36,x0) ::
 (nat_lit 38,x18) ::
 (nat_lit 39,x0) ::
 (nat_lit 41,x20) ::
 (nat_lit 42,x21) ::
 (nat_lit 43,x0) ::
 (nat_lit 45,x22) ::
 (nat_lit 46,x0) ::
 (nat_lit 48,x24) ::
 (nat_lit 49,x25) ::
 (nat_lit 50,x0) ::
 (nat_lit 53,x27) ::
 (nat_lit 54,x28) ::
 (nat_lit 55,x29) ::
 (nat_lit 62,x0) ::
 (nat_lit 63,x34 P) ::
 (nat_lit 64,x35) ::
 (nat_lit 65,x36) ::
 (nat_lit 68,x39) ::
 (nat_lit 75,x0) ::
 (nat_lit 76,x43 P) ::
 (nat_lit 77,x44) ::
 (nat_lit 80,x39) ::
 (nat_lit 87,x0) ::
 (nat_lit 88,x50 P) ::
 (nat_lit 89,x51) ::
 (nat_lit 92,x39) ::
 (nat_lit 99,x0) ::
 (nat_lit 100,x57 P) ::
 (nat_lit 101,x58) ::
 (nat_lit 111,x0) ::
 (nat_lit 114,x66) ::
 (nat_lit 115,x67) ::
 (nat_lit 116,x68) ::
 (nat_lit 117,x69 P) ::
 (nat_lit 118,x70) ::
 (nat_lit 119,x71) ::
 (nat_lit 120,x72) ::
 (nat_lit 123,x0) ::
 (nat_lit 125,x75) ::
 (nat_lit 126,x0) ::
 (nat_lit 128,x77) ::
 (nat_lit 129,x78) ::
 (nat_lit 130,x0) ::
 (nat_lit 132,x79) ::
 (nat_lit 133,x0) ::
 (nat_lit 135,x81) ::
 (nat_lit 136,x82) ::
 (nat_lit 137,x0) ::
 (nat_lit 139,x83) ::
 (nat_lit 140,x0) ::
 (nat_lit 142,x85) ::
 (nat_lit 143,x86) ::
 (nat_lit 144,x0) ::
 (nat_lit 146,x87) ::
 (nat_lit 147,x0) ::
 (nat_lit 149,x89) ::
 (nat_lit 150,x90) ::
 (nat_lit 151,x0) ::
 (nat_lit 153,x91) ::
 (nat_lit 154,x0) ::
 (nat_lit 156,x93) ::
 (nat_lit 157,x94) ::
 (nat_lit 158,x0) ::
 (nat_lit 160,x95) ::
 (nat_lit 161,x0) ::
 (nat_lit 163,x97) ::
 (nat_lit 164,x98) ::
 (nat_lit 165,x0) ::
 (nat_lit 167,x99) ::
 (nat_lit 168,x0) ::
 (nat_lit 170,OS) ::
 (nat_lit 171,OO) ::
 (nat_lit 172,x0) ::
 (nat_lit 174,Op) ::
 (nat_lit 175,x0) ::
 (nat_lit 177,OU) ::
 (nat_lit 178,Nb) ::
 (nat_lit 179,x0) ::
 (nat_lit 181,ND) ::
 (nat_lit 182,x0) ::
 (nat_lit 184,Od) ::
 (nat_lit 185,Oe) ::
 (nat_lit 186,x0) ::
 (nat_lit 188,MY) ::
 (nat_lit 189,x0) ::
 (nat_lit 191,Oh) ::
 (nat_lit 192,OL) ::
 (nat_lit 193,x0) ::
 (nat_lit 195,MT) ::
 (nat_lit 196,x0) ::
 (nat_lit 198,NN) ::
 (nat_lit 199,Ow) ::
 (nat_lit 200,x0) ::
 (nat_lit 203,Ox) ::
 (nat_lit 204,O0) ::
 (nat_lit 205,x0) ::
 (nat_lit 208,NV) ::
 (nat_lit 209,OB) ::
 (nat_lit 210,MU) ::
 (nat_lit 211,No) ::
 (nat_lit 212,x0) ::
 (nat_lit 214,O5) ::
 (nat_lit 215,x0) ::
 (nat_lit 217,Nx) ::
 (nat_lit 218,OE) ::
 (nat_lit 219,x0) ::
 (nat_lit 221,Os) ::
 (nat_lit 222,x0) ::
 (nat_lit 224,Nd) ::
 (nat_lit 225,Nq) ::
 (nat_lit 226,x0) ::
 (nat_lit 229,OT) ::
 (nat_lit 230,Oy) ::
 (nat_lit 231,x0) ::
 (nat_lit 233,OI) ::
 (nat_lit 234,x0) ::
 (nat_lit 236,OY) ::
 (nat_lit 237,Ng) ::
 (nat_lit 238,x0) ::
 (nat_lit 240,O6) ::
 (nat_lit 241,x0) ::
 (nat_lit 243,Ou) ::
 (nat_lit 244,Og) ::
 (nat_lit 245,x0) ::
 (nat_lit 248,Oz) ::
 (nat_lit 249,Nv) ::
 (nat_lit 250,x0) ::
 (nat_lit 253,O8) ::
 (nat_lit 254,On) ::
 (nat_lit 255,x0) ::
 (nat_lit 258,Nj) ::
 (nat_lit 259,Ob) ::
 (nat_lit 260,x0) ::
 (nat_lit 263,MZ) ::
 (nat_lit 264,Ni) ::
 (nat_lit 265,x0) ::
 (nat_lit 267,SK) ::
 (nat_lit 268,x0) ::
 (nat_lit 270,SY) ::
 (nat_lit 271,Rl) ::
 (nat_lit 272,x0) ::
 (nat_lit 275,Rf) ::
 (nat_lit 276,Q3) ::
 (nat_lit 277,x0) ::
 (nat_lit 280,SQ) ::
 (nat_lit 281,QS) ::
 (nat_lit 282,x0) ::
 (nat_lit 284,Tv) ::
 (nat_lit 285,x0) ::
 (nat_lit 287,Tg) ::
 (nat_lit 288,Te) ::
 (nat_lit 289,x0) ::
 (nat_lit 291,QU) ::
 (nat_lit 292,x0) ::
 (nat_lit 294,Tr) ::
 (nat_lit 295,Tk) ::
 (nat_lit 296,x0) ::
 (nat_lit 298,TL) ::
 (nat_lit 299,x0) ::
 (nat_lit 301,R3) ::
 (nat_lit 302,Q9) ::
 (nat_lit 303,x0) ::
 (nat_lit 305,SB) ::
 (nat_lit 306,x0) ::
 (nat_lit 308,Rb) ::
 (nat_lit 309,Rz) ::
 (nat_lit 310,x0) ::
 (nat_lit 312,TW) ::
 (nat_lit 313,x0) ::
 (nat_lit 315,Ty) ::
 (nat_lit 316,Sl) ::
 (nat_lit 317,x0) ::
 (nat_lit 319,QZ) ::
 (nat_lit 320,x0) ::
 (nat_lit 322,R8) ::
 (nat_lit 323,RO) ::
 (nat_lit 324,x0) ::
 (nat_lit 326,T5) ::
 (nat_lit 327,x0) ::
 (nat_lit 329,To) ::
 (nat_lit 330,Rs) ::
 (nat_lit 331,x0) ::
 (nat_lit 333,Tj) ::
 (nat_lit 334,x0) ::
 (nat_lit 336,Ss) ::
 (nat_lit 337,Th) ::
 (nat_lit 338,x0) ::
 (nat_lit 340,Rm) ::
 (nat_lit 341,x0) ::
 (nat_lit 343,Q5) ::
 (nat_lit 344,Rn) ::
 (nat_lit 345,x0) ::
 (nat_lit 348,RT) ::
 (nat_lit 349,SM) ::
 (nat_lit 350,x0) ::
 (nat_lit 352,RJ) ::
 (nat_lit 353,x0) ::
 (nat_lit 355,Se) ::
 (nat_lit 356,Sg) ::
 (nat_lit 364,x0) ::
 (nat_lit 366,SL) ::
 (nat_lit 367,x0) ::
 (nat_lit 369,Q0) ::
 (nat_lit 370,R4) ::
 (nat_lit 371,x0) ::
 (nat_lit 373,SG) ::
 (nat_lit 374,x0) ::
 (nat_lit 376,SH) ::
 (nat_lit 377,RI) ::
 (nat_lit 378,x0) ::
 (nat_lit 380,RP) ::
 (nat_lit 381,x0) ::
 (nat_lit 383,Sb) ::
 (nat_lit 384,TX) ::
 (nat_lit 385,x0) ::
 (nat_lit 387,R9) ::
 (nat_lit 388,x0) ::
 (nat_lit 390,QN) ::
 (nat_lit 391,SE) ::
 (nat_lit 392,x0) ::
 (nat_lit 394,SC) ::
 (nat_lit 395,x0) ::
 (nat_lit 397,Tz) ::
 (nat_lit 398,S7) ::
 (nat_lit 399,x0) ::
 (nat_lit 401,RL) ::
 (nat_lit 402,x0) ::
 (nat_lit 404,S8) ::
 (nat_lit 405,SZ) ::
 (nat_lit 406,x0) ::
 (nat_lit 409,RD) ::
 (nat_lit 410,S3) ::
 (nat_lit 411,x0) ::
 (nat_lit 414,Tx) ::
 (nat_lit 415,TF) ::
 (nat_lit 416,x0) ::
 (nat_lit 418,R7) ::
 (nat_lit 419,x0) ::
 (nat_lit 421,Tu) ::
 (nat_lit 422,SF) ::
 (nat_lit 423,x0) ::
 (nat_lit 426,Tp) ::
 (nat_lit 427,QY) ::
 (nat_lit 428,x0) ::
 (nat_lit 430,RR) ::
 (nat_lit 431,x0) ::
 (nat_lit 433,Q8) ::
 (nat_lit 434,RV) ::
 (nat_lit 435,x0) ::
 (nat_lit 438,QX) ::
 (nat_lit 439,Sj) ::
 (nat_lit 440,x0) ::
 (nat_lit 443,SS) ::
 (nat_lit 444,TB)::[]
abbrev qq:Program:=PySem.W.view PySem.Challenge.pw_pebbletoll_k54_papers_of_fairest [1,2,3,4,5,6,8,9,10,11,13,14,15,16,17,18,19,20,21,22,23,24,25,27,28,29,30,32,33,34,35,36,37,38,39,40,41,42,43,44,45,46,48,49,50,51,52,53,54,55,56,57,58,59,60,61,62,63,64,65,66,67,68,69,70,71]
abbrev asK:List Addr:=[2,3,15,17,18,20,21,22,24,25,27,28,29,31,32,34,35,36,38,39,41,42,43,45,46,48,49,50,53,54,55,62,63,64,65,68,75,76,77,80,87,88,89,92,99,100,101,111,114,115,116,117,118,119,120,123,125,126,128,129,130,132,133,135,136,137,139,140,142,143,144,146,147,149,150,151,153,154,156,157,158,160,161,163,164,165,167,168,170,171,172,174,175,177,178,179,181,182,184,185,186,188,189,191,192,193,195,196,198,199,200,203,204,205,208,209,210,211,212,214,215,217,218,219,221,222,224,225,226,229,230,231,233,234,236,237,238,240,241,243,244,245,248,249,250,253,254,255,258,259,260,263,264,265,267,268,270,271,272,275,276,277,280,281,282,284,285,287,288,289,291,292,294,295,296,298,299,301,302,303,305,306,308,309,310,312,313,315,316,317,319,320,322,323,324,326,327,329,330,331,333,334,336,337,338,340,341,343,344,345,348,349,350,352,353,355,356,364,366,367,369,370,371,373,374,376,377,378,380,381,383,384,385,387,388,390,391,392,394,395,397,398,399,401,402,404,405,406,409,410,411,414,415,416,418,419,421,422,423,426,427,428,430,431,433,434,435,438,439,440,443,444]
theorem asK_eq:∀ P,asK=(KK P).map (·.1):=fun _=>by kernel_rfl
theorem WY (w:World):(fun os=>((staticsOk (importedModules PySem.Challenge.pw_pebbletoll_k54_papers_of_fairest.main.body) (boot_heap w.params) (hf w.params) && namesBound PySem.Challenge.pw_pebbletoll_k54_papers_of_fairest (hf w.params) && gensDone (Shared.mk (Hd.hf w.params) (.mk []) (.mk 0 0 0 0) 803 os) && laidKept (boot_heap w.params) (hf w.params)),openSeen qq [] (importedModules PySem.Challenge.pw_pebbletoll_k54_papers_of_fairest.main.body) (fun s=>PySem.W.xlAt Hd.qq [] s && PySem.W.recOk (PySem.W.RowW.records (PySem.W.OpenRow.toRowW (PySem.Challenge.rw_pebbletoll_k54_papers_of_fairest).row)) s) true (Shared.mk (Hd.hf w.params) (.mk []) (.mk 0 0 0 0) 803 os),Hook.obs (PySem.W.kHook Hd.KK Hd.asK Hd.asK_eq) (Shared.mk (Hd.hf w.params) (.mk []) (.mk 0 0 0 0) 803 os)))=fun _=>(true,openGood qq [],Hook.val (PySem.W.kHook Hd.KK Hd.asK Hd.asK_eq) w):=by kernel_rfl
theorem left:PySem.W.LeftO (PySem.Challenge.rw_pebbletoll_k54_papers_of_fairest).row.prog qq [] (fun s=>PySem.W.xlAt Hd.qq [] s && PySem.W.recOk (PySem.W.RowW.records (PySem.W.OpenRow.toRowW (PySem.Challenge.rw_pebbletoll_k54_papers_of_fairest).row)) s) (PySem.W.Hook.obs (PySem.W.kHook Hd.KK Hd.asK Hd.asK_eq)) (PySem.W.Hook.val (PySem.W.kHook Hd.KK Hd.asK Hd.asK_eq)) 5820:=LeftO.of_pieces opn siz run (by decide) WY
end Hd
set_option Elab.async false
set_option linter.all false
set_option maxRecDepth 100000
namespace L2
open PySem PySem.Spec PyProof.Rows
abbrev Key:=Sum Int Str
def Bz:Key->Value->Bool
 | .inl k,v=>Value.isInt k v
 | .inr x,v=>Value.isStrOf x v
def Xw (w:World):Key->Int
 | .inl k=>hashInt k
 | .inr x=>hashStr w x
theorem fU:∀ {k:Key} {v:Value},Bz k v=true->(∃ i t,k=Sum.inl i/\v=Value.int i t)\/(∃ x t,k=Sum.inr x/\v=Value.str x t)
 | .inl i,v,h=>by
   obtain ⟨t,e⟩:=Value.isInt_shape (k:=i) (v:=v) h;exact .inl ⟨i,t,rfl,e⟩
 | .inr x,v,h=>by
   obtain ⟨t,e⟩:=Value.isStrOf_shape (x:=x) (v:=v) h;exact .inr ⟨x,t,rfl,e⟩
theorem Qp (i:Int) (t:Tok):Bz (.inl i) (.int i t)=true:=by simp [Bz,Value.isInt]
theorem Pc (x:Str) (t:Tok):Bz (.inr x) (.str x t)=true:=by simp [Bz,Value.isStrOf]
theorem V3 (a b:Int):decide ((Sum.inl a:Key)=Sum.inl b)=(a == b):=by
 by_cases e:a=b
 . subst e;simp
 . have h:¬ (Sum.inl a:Key)=Sum.inl b:=fun q=>e (Sum.inl.inj q);rw [decide_eq_false h];exact (beq_eq_false_iff_ne.mpr e).symm
theorem WS (a b:Str):decide ((Sum.inr a:Key)=Sum.inr b)=decide (a=b):=by
 by_cases e:a=b
 . subst e;simp
 . have h:¬ (Sum.inr a:Key)=Sum.inr b:=fun q=>e (Sum.inr.inj q);rw [decide_eq_false h,decide_eq_false e]
theorem WD (a:Int) (b:Str):decide ((Sum.inl a:Key)=Sum.inr b)=false:=decide_eq_false (fun q=>nomatch q)
theorem VI (a:Str) (b:Int):decide ((Sum.inr a:Key)=Sum.inl b)=false:=decide_eq_false (fun q=>nomatch q)
def eZ (prog:Program) (w:World):PySem.KeyKind prog w Key where
 is:=Bz
 hash:=Xw w
 inj:=fun v a b ha hb=>by
   rcases fU ha with ⟨i,t,rfl,rfl⟩|⟨x,t,rfl,rfl⟩
   . rcases fU hb with ⟨j,u,rfl,e⟩|⟨y,u,rfl,e⟩
     . injection e with e1 _;rw [e1]
     . exact nomatch e
   . rcases fU hb with ⟨j,u,rfl,e⟩|⟨y,u,rfl,e⟩
     . exact nomatch e
     . injection e with e1 _;rw [e1]
 byValue:=fun k v h=>by
   rcases fU h with ⟨i,t,rfl,rfl⟩|⟨x,t,rfl,rfl⟩ <;> rfl
 pyHash:=fun hv h=>by
   rcases fU hv with ⟨i,t,rfl,rfl⟩|⟨x,t,rfl,rfl⟩
   . exact wpAny_pyHash_int h
   . exact wpAny_pyHash_str h
 eqBool:=fun hu hv h=>by
   rcases fU hu with ⟨i,t,rfl,rfl⟩|⟨x,t,rfl,rfl⟩
   . rcases fU hv with ⟨j,u,rfl,rfl⟩|⟨y,u,rfl,rfl⟩
     . rw [V3] at h;exact wpAny_eqBool_int h
     . rw [WD] at h;exact SeqAt.EqAt.int_str i t y u _ _ _ _ h
   . rcases fU hv with ⟨j,u,rfl,rfl⟩|⟨y,u,rfl,rfl⟩
     . rw [VI] at h;exact SeqAt.EqAt.str_int x t j u _ _ _ _ h
     . rw [WS] at h;exact wpAny_eqBool_str h
 «strs»:=fun k x t v h=>by
   rcases fU h with ⟨i,u,rfl,e⟩|⟨y,u,rfl,e⟩
   . exact nomatch e
   . injection e with e1 _
     subst e1;cases v <;> rfl
theorem Mm (prog:Program) (w:World) (i:Int) (t:Tok):(eZ prog w).is (.inl i) (.int i t)=true:=Qp i t
theorem Mb (prog:Program) (w:World) (x:Str) (t:Tok):(eZ prog w).is (.inr x) (.str x t)=true:=Pc x t
end L2
namespace L2
open PySem PySem.Spec PyProof.Rows
inductive V where
 | non|bl (b:Bool)|int (i:Int)|str (x:Str)|byt (b:Array UInt8)|flt (b:UInt64)|ref (a:Addr)|ty (n:String)
 deriving DecidableEq
def RelV:V->Value->Prop
 | .non,u=>u=Value.none
 | .bl b,u=>u=Value.bool b
 | .int i,u=>∃ t,u=Value.int i t
 | .str x,u=>∃ t,u=Value.str x t
 | .byt b,u=>∃ t,u=Value.bytes b t
 | .flt b,u=>∃ t,u=Value.float b t
 | .ref a,u=>u=Value.ref a
 | .ty n,u=>u=Value.type n
abbrev Vals:List V->List Value->Prop:=Paired RelV
theorem Vals.length {xs:List V} {us:List Value} (r:Vals xs us):xs.length=us.length:=Paired.length r
theorem Vals.get:∀ {xs:List V} {us:List Value} {i:Nat} {x:V},Vals xs us->xs[i]?=some x->∃ u,us[i]?=some u/\RelV x u
 | _,_,_,_,.nil,e=>by simp at e
 | _,_,0,_,.cons r _,e=>by simp at e;subst e;exact ⟨_,rfl,r⟩
 | _,_,i+1,x,.cons _ t,e=>by
   obtain ⟨u,h1,h2⟩:=Vals.get (i:=i) (x:=x) t (by simpa using e);exact ⟨u,by simpa using h1,h2⟩
theorem Vals.set {x:V} {u:Value} (r:RelV x u):∀ {xs:List V} {us:List Value} (i:Nat),Vals xs us->Vals (xs.set i x) (us.set i u)
 | _,_,_,.nil=>.nil
 | _,_,0,.cons _ t=>.cons r t
 | _,_,i+1,.cons q t=>.cons q (Vals.set r i t)
theorem Vals.append:∀ {xs ys:List V} {us ws:List Value},Vals xs us->Vals ys ws->Vals (xs++ys) (us++ws)
 | _,_,_,_,.nil,s=>s
 | _,_,_,_,.cons r t,s=>.cons r (Vals.append t s)
theorem Vals.take:∀ {xs:List V} {us:List Value} (n:Nat),Vals xs us->Vals (xs.take n) (us.take n)
 | _,_,0,_=>.nil
 | _,_,_+1,.nil=>.nil
 | _,_,n+1,.cons r t=>.cons r (Vals.take n t)
theorem Vals.drop:∀ {xs:List V} {us:List Value} (n:Nat),Vals xs us->Vals (xs.drop n) (us.drop n)
 | _,_,0,r=>r
 | _,_,_+1,.nil=>.nil
 | _,_,n+1,.cons _ t=>Vals.drop n t
def RelO:Option V->Option Value->Prop
 | some v,some u=>RelV v u
 | none,none=>True
 | _,_=>False
def KV {κ:Type}:List (κ × V)->List (κ × Value)->Prop:=Paired fun (p:κ × V) (q:κ × Value)=>p.1=q.1/\RelV p.2 q.2
def kV:Key->V
 | .inl i=>.int i
 | .inr x=>.str x
inductive HO where
 /-- a list -/
 | lst (xs:List V)
 /-- a tuple (never changes) -/
 | tup (xs:List V)
 /-- a dict whose keys are ints and texts;one whose keys are tuples of ints and texts (the empty one is both) -/
 | dK (kvs:List (Key × V))|dT (kvs:List (List Key × V))
 /-- a set of ints: its members,its size -/
 | set (S:Int->Bool) (n:Nat)
 /-- an instance of the class at C,its dict at dx,its attributes -/
 | ins (C dx:Addr) (fs:List (Str × V))
 /-- the dict of the instance at x -/
 | own (x:Addr)
 /-- the dict of an exception -/
 | xd (fs:List (Str × V))
 /-- a bound method,f of x -/
 | met (f x:Addr)
 /-- a range object lo,lo+1,.. below hi -/
 | rng (lo hi:Int)
 /-- a thing that is known to the object (the script;a dict while a loop walks it): read,never written while it is so -/
 | frz (o:Obj) (u:HO)
 /-- a code object's table -/
 | tbl (ps:Array Value)
 /-- any other thing,by what is true of its one object (a def of one's own: SetO a S n:=HO.ext fun h=>..) -/
 | ext (φ:Heap->Prop)
abbrev Hp:=Addr->Option HO
def upd (H:Hp) (a:Addr) (o:HO):Hp:=fun b=>if b=a then some o else H b
theorem ah {H:Hp} {a:Addr} {o:HO}:upd H a o a=some o:=by unfold upd;rw [if_pos rfl]
theorem ao {H:Hp} {a b:Addr} {o:HO} (h:b≠a):upd H a o b=H b:=by unfold upd;rw [if_neg h]
theorem iV {H:Hp} {a:Addr} {o u:HO}:upd (upd H a o) a u=upd H a u:=by
 funext b;unfold upd;split <;> rfl
theorem gv {H:Hp} {a b:Addr} {o u:HO} (h:H a=some o) (h':H b=some u) (d:o≠u):a≠b:=by
 intro e;subst e;rw [h] at h';exact d (Option.some.inj h')
theorem aG {H:Hp} {a b:Addr} {o:HO} (h:H a=some o) (h':H b=none):a≠b:=by
 intro e;subst e;rw [h] at h';cases h'
section
variable (P:Program) (w:World)
def ObjOk (H:Hp) (h:Heap) (a:Addr):HO->Prop
 | .lst xs=>xs.length<=sizeLine/\∃ (its:List Value) (n:Nat),Vals xs its/\h.get? a=some { cls:=.type "list",data:=.seq its.toArray n }
 | .tup xs=>xs.length<=sizeLine/\∃ its:List Value,Vals xs its/\IsTup h a its.toArray
 | .dK kvs=>kvs.length<=sizeLine/\(a == sysModules)=false/\∃ vs,KV kvs vs/\h.DictOf (eZ P w) a vs
 | .dT kvs=>kvs.length<=sizeLine/\(a == sysModules)=false/\∃ xs:List (List Key × Addr × Value),
     Paired (fun (p:List Key × V) (q:List Key × Addr × Value)=>p.1=q.1/\H q.2.1=some (.tup (p.1.map kV))/\RelV p.2 q.2.2) kvs xs /\
     ∃ o es ep,h.get? a=some o/\o.ExactDict/\o.data=.dict es ep/\es.toList=xs.map (entryOfKey (tupleKind (eZ P w)))/\(xs.map (·.1)).Nodup
 | .set S n=>h.SetOf (intKind P w) a S n
 | .ins C dx fs=>H dx=some (.own a)/\fs.length<=1000/\dx≠a/\h.get? a=some (PySem.W.instObj C dx) /\
     ∃ mA,h.Ns1 dx mA/\(∀ f,RelO (fs.lookup f) (mA f))/\PySem.Within mA (fs.map (·.1))
 | .own _=>∃ o,h.get? a=some o
 | .xd fs=>∃ mA,h.Ns1 a mA/\∀ f,RelO (fs.lookup f) (mA f)
 | .rng lo hi=>∃ t u v,h.get? a=some { cls:=.type "range",data:=.fields #[.int lo t,.int hi u,.int 1 v] }
 | .frz o u=>h.get? a=some o/\ObjOk H h a u
 | .tbl ps=>h.get? a=some { cls:=.none,data:=.fields ps }
 | .met f x=>h.get? a=some (PySem.W.methodObj (.ref f) (.ref x))
 | .ext φ=>φ h/\(∃ o,h.get? a=some o)/\∀ h1 h2:Heap,φ h1->(∀ o,h1.get? a=some o->h2.get? a=some o)->φ h2
def HOk (H:Hp) (h:Heap):Prop:=∀ a o,H a=some o->ObjOk P w H h a o
end
section
variable {P:Program} {w:World} {H H':Hp} {h h':Heap} {a:Addr} {o:HO}
theorem ObjOk.lt (x:ObjOk P w H h a o):a<h.objs.size:=by
 cases o with
 | lst xs=>obtain ⟨_,_,_,_,e⟩:=x;exact Heap.lt_size e
 | tup xs=>obtain ⟨_,_,_,p⟩:=x;exact p.lt
 | dK kvs=>obtain ⟨_,_,_,_,o,_,_,e,_⟩:=x;exact Heap.lt_size e
 | dT kvs=>obtain ⟨_,_,_,_,o,_,_,e,_⟩:=x;exact Heap.lt_size e
 | set S n=>obtain ⟨o,_,_,_,e,_⟩:=x;exact Heap.lt_size e
 | ins C dx fs=>obtain ⟨_,_,_,e,_⟩:=x;exact Heap.lt_size e
 | own y=>obtain ⟨_,e⟩:=x;exact Heap.lt_size e
 | xd fs=>obtain ⟨_,⟨_,_,_,e,_⟩,_⟩:=x;exact Heap.lt_size e
 | rng lo hi=>obtain ⟨_,_,_,e⟩:=x;exact Heap.lt_size e
 | frz ob u=>obtain ⟨e,_⟩:=x;exact Heap.lt_size e
 | tbl ps=>exact Heap.lt_size (show h.get? a=some _ from x)
 | met f y=>exact Heap.lt_size (show h.get? a=some _ from x)
 | ext φ=>obtain ⟨_,⟨_,e⟩,_⟩:=x;exact Heap.lt_size e
theorem Paired.mapP {α β:Type} {F G:α->β->Prop}:∀ {l₁:List α} {l₂:List β},Paired F l₁ l₂->(∀ a b,F a b->G a b)->Paired G l₁ l₂
 | _,_,.nil,_=>.nil
 | _,_,.cons r t,f=>.cons (f _ _ r) (Paired.mapP t f)
theorem Paired.imp' {α β:Type} {F G:α->β->Prop} (f:∀ a b,F a b->G a b) {l₁:List α} {l₂:List β} (r:Paired F l₁ l₂):Paired G l₁ l₂:=Paired.mapP r f
theorem ObjOk.stay (x:ObjOk P w H h a o) (k:∀ b u,(b=a\/H b=some (.own a))->h.get? b=some u->h'.get? b=some u)
   (ho:∀ b,H b=some (.own a)->H' b=some (.own a)) (ht:∀ b xs,H b=some (.tup xs)->H' b=some (.tup xs)):ObjOk P w H' h' a o:=by
 induction o with
 | lst xs=>obtain ⟨z,its,n,r,e⟩:=x;exact ⟨z,its,n,r,k _ _ (.inl rfl) e⟩
 | tup xs=>obtain ⟨z,its,r,ob,e,c⟩:=x;exact ⟨z,its,r,ob,k _ _ (.inl rfl) e,c⟩
 | dK kvs=>obtain ⟨z,y,vs,r,ob,es,ep,e,c⟩:=x;exact ⟨z,y,vs,r,ob,es,ep,k _ _ (.inl rfl) e,c⟩
 | dT kvs =>
   obtain ⟨z,y,xs,r,ob,es,ep,e,c⟩:=x;exact ⟨z,y,xs,Paired.mapP r fun p q z=>⟨z.1,ht _ _ z.2.1,z.2.2⟩,ob,es,ep,k _ _ (.inl rfl) e,c⟩
 | set S n=>obtain ⟨ob,es,ep,t,e,c⟩:=x;exact ⟨ob,es,ep,t,k _ _ (.inl rfl) e,c⟩
 | ins C dx fs =>
   obtain ⟨d,z,ne,e,mA,⟨od,es,ep,e2,c⟩,r⟩:=x;exact ⟨ho _ d,z,ne,k _ _ (.inl rfl) e,mA,⟨od,es,ep,k _ _ (.inr d) e2,c⟩,r⟩
 | own y=>obtain ⟨ob,e⟩:=x;exact ⟨ob,k _ _ (.inl rfl) e⟩
 | xd fs=>obtain ⟨mA,⟨od,es,ep,e,c⟩,r⟩:=x;exact ⟨mA,⟨od,es,ep,k _ _ (.inl rfl) e,c⟩,r⟩
 | rng lo hi=>obtain ⟨t,u,v,e⟩:=x;exact ⟨t,u,v,k _ _ (.inl rfl) e⟩
 | frz ob u ih=>obtain ⟨e,q⟩:=x;exact ⟨k _ _ (.inl rfl) e,ih q⟩
 | tbl ps =>
   have e:h.get? a=some { cls:=.none,data:=.fields ps }:=x;show h'.get? a=some { cls:=.none,data:=.fields ps };exact k a _ (.inl rfl) e
 | met f y =>
   have e:h.get? a=some (PySem.W.methodObj (.ref f) (.ref y)):=x;show h'.get? a=some (PySem.W.methodObj (.ref f) (.ref y));exact k a _ (.inl rfl) e
 | ext φ=>obtain ⟨p,⟨o,e⟩,st⟩:=x;exact ⟨st _ _ p fun o q=>k _ _ (.inl rfl) q,⟨o,k _ _ (.inl rfl) e⟩,st⟩
theorem HOk.lt (x:HOk P w H h) (e:H a=some o):a<h.objs.size:=(x a o e).lt
theorem HOk.fresh (x:HOk P w H h) (e:h.objs.size<=a):H a=none:=by
 cases q:H a with
 | none=>rfl
 | some u=>exact absurd (Nat.lt_of_lt_of_le (x.lt q) e) (Nat.lt_irrefl _)
theorem HOk.kept (x:HOk P w H h) (k:∀ b u,h.get? b=some u->h'.get? b=some u):HOk P w H h':=fun a o e =>
 (x a o e).stay (fun b u _ q=>k b u q) (fun _ q=>q) fun _ _ q=>q
theorem HOk.laid (x:HOk P w H h) (k:∀ b u,h.get? b=some u->h'.get? b=some u) (hp:h.objs.size<=a) (new:ObjOk P w (upd H a o) h' a o):HOk P w (upd H a o) h':=fun b u e=>by
 have hn:=x.fresh hp;by_cases hb:b=a
 . subst hb;rw [ah] at e;cases e;exact new
 . rw [ao hb] at e;exact (x b u e).stay (fun c v _ q=>k c v q) (fun c q=>by rw [ao (aG q hn)];exact q) fun c xs q=>by rw [ao (aG q hn)];exact q
end
def Rd (H:Hp) (a:Addr) (u:HO):Prop:=H a=some u\/∃ o,H a=some (.frz o u)
theorem Rd.ok {P:Program} {w:World} {H:Hp} {h:Heap} {a:Addr} {u:HO} (r:Rd H a u) (x:HOk P w H h):ObjOk P w H h a u:=by
 rcases r with r|⟨o,r⟩
 . exact x a u r
 . obtain ⟨_,q⟩:=x a _ r;exact q
def Mut:Option HO->Prop
 | some (.lst _)=>True
 | some (.dK _)=>True
 | some (.dT _)=>True
 | some (.set _ _)=>True
 | some (.ins _ _ _)=>True
 | some (.ext _)=>True
 | _=>False
section
variable {P:Program} {w:World} {H:Hp} {h h':Heap} {x e:Addr} {o':HO}
theorem HOk.write (ok:HOk P w H h) (mu:Mut (H x)) (he:e=x\/H e=some (.own x)) (k:∀ b u,b≠e->h.get? b=some u->h'.get? b=some u) (heo:∃ u,h'.get? e=some u)
   (new:ObjOk P w (upd H x o') h' x o'):HOk P w (upd H x o') h':=fun b u q=>by
 have nown:∀ c y,H c=some (.own y)->c≠x:=fun c y r z=>by subst z;rw [r] at mu;exact mu
 have ntup:∀ c xs,H c=some (.tup xs)->c≠x:=fun c xs r z=>by subst z;rw [r] at mu;exact mu
 by_cases hb:b=x
 . subst hb;rw [ah] at q;cases q;exact new
 . rw [ao hb] at q;by_cases hbe:b=e
   . have q':H b=some (.own x):=by
       rcases he with z|z
       . exact absurd (hbe.trans z) hb
       . rw [hbe];exact z
     rw [q] at q';cases q';obtain ⟨v,hv⟩:=heo;exact ⟨v,by rw [hbe];exact hv⟩
   . refine (ok b u q).stay (fun c v hc r=>k c v ?_ r) (fun c r=>by rw [ao (nown c b r)];exact r) fun c xs r=>by rw [ao (ntup c xs r)];exact r
     rcases hc with rfl|hc
     . exact hbe
     . rintro rfl;rcases he with z|z
       . exact nown c b hc z
       . rw [hc] at z;cases z;exact hb rfl
end
structure Un (fs ex:List Addr) (H H':Hp) (h h':Heap):Prop where
 keep:∀ b o,h.get? b=some o->H b=none->b ∉ fs->b ∉ ex->h'.get? b=some o
 slot:∀ b o,h.get? b=some o->H b=none->b∈fs->b ∉ ex->∃ sl,h'.get? b=some { o with slots:=sl }
 free:∀ b o,h.get? b=some o->H b=none->b ∉ ex->H' b=none
 there:∀ b o,h.get? b=some o->b ∉ ex->∃ o',h'.get? b=some o'
 tups:∀ b xs,H b=some (.tup xs)->H' b=some (.tup xs)
 frzs:∀ b o u,H b=some (.frz o u)->H' b=some (.frz o u)
 tbls:∀ b ps,H b=some (.tbl ps)->∃ more,H' b=some (.tbl (ps++more))
section
variable {fs fs' ex ex':List Addr} {H H1 H2:Hp} {h h1 h2 h':Heap} {a x e:Addr} {o:HO}
theorem Un.any (u:Un fs ex H H1 h h1) {b:Addr} {ob:Obj} (q:h.get? b=some ob) (n:H b=none) (hx:b ∉ ex):∃ sl,h1.get? b=some { ob with slots:=sl }:=by
 by_cases hb:b∈fs
 . exact u.slot b ob q n hb hx
 . exact ⟨ob.slots,u.keep b ob q n hb hx⟩
theorem Un.kept (k:∀ b u,h.get? b=some u->h'.get? b=some u):Un fs ex H H h h' :=
 ⟨fun b ob q _ _ _=>k b ob q,fun b ob q _ _ _=>⟨ob.slots,k b ob q⟩,fun _ _ _ n _=>n,fun b ob q _=>⟨ob,k b ob q⟩,fun _ _ q=>q,fun _ _ _ q=>q,fun _ ps q=>⟨#[],by rw [q];simp⟩⟩
theorem Un.refl:Un fs ex H H h h:=Un.kept fun _ _ q=>q
theorem Un.laid (k:∀ b u,h.get? b=some u->h'.get? b=some u) (hp:h.objs.size<=a) (hn:H a=none):Un fs ex H (upd H a o) h h' where
 keep:=fun b u q _ _ _=>k b u q
 slot:=fun b u q _ _ _=>⟨u.slots,k b u q⟩
 free:=fun b u q n _=>by rw [ao (Nat.ne_of_lt (Nat.lt_of_lt_of_le (Heap.lt_size q) hp))];exact n
 there:=fun b u q _=>⟨u,k b u q⟩
 tups:=fun b xs q=>by rw [ao (aG q hn)];exact q
 frzs:=fun b u xs q=>by rw [ao (aG q hn)];exact q
 tbls:=fun b ps q=>⟨#[],by rw [ao (aG q hn),q];simp⟩
theorem Un.write (mu:Mut (H x)) (he:e=x\/H e=some (.own x)) (k:∀ b u,b≠e->h.get? b=some u->h'.get? b=some u) (heo:∃ u,h'.get? e=some u):Un fs ex H (upd H x o) h h':=by
 have hx:∀ b,H b=none->b≠x:=fun b n z=>by subst z;rw [n] at mu;exact mu
 have hb:∀ b,H b=none->b≠e:=fun b n z=>by
   subst z;rcases he with r|r
   . exact hx b n r
   . rw [n] at r;cases r
 have hm:∀ b u,H b=some u->¬ Mut (some u)->b≠x:=fun b u q nm z=>by subst z;rw [q] at mu;exact nm mu
 refine ⟨fun b u q n _ _=>k b u (hb b n) q,fun b u q n _ _=>⟨u.slots,k b u (hb b n) q⟩,fun b u q n _=>by rw [ao (hx b n)];exact n,fun b u q _=>?_,
   fun b xs q=>by rw [ao (hm b _ q fun z=>z)];exact q,fun b u xs q=>by rw [ao (hm b _ q fun z=>z)];exact q,fun b ps q=>⟨#[],by rw [ao (hm b _ q fun z=>z),q];simp⟩⟩
 by_cases hbe:b=e
 . subst hbe;exact heo
 . exact ⟨u,k b u hbe q⟩
end
def trk (h:Heap) (H:Hp):List Addr:=(List.range h.objs.size).filter fun a=>(H a).isSome
def y6 (h:Heap) (H:Hp):Heap:=PySem.W.hideAll h (trk h H)
theorem Ps (h:Heap) (H:Hp):(y6 h H).objs.size=h.objs.size:=PySem.W.hideAll_size _ _
theorem Sm {h:Heap} {H:Hp} {b:Addr} {o:Obj} (e:h.get? b=some o) (n:H b=none):(y6 h H).get? b=some o :=
 PySem.W.hideAll_get _ e fun hm=>by
   have q:(H b).isSome=true:=(List.mem_filter.mp hm).2;rw [n] at q;simp at q
theorem Vb {h:Heap} {H:Hp} {b:Addr} {o:Obj} (e:(y6 h H).get? b=some o):h.get? b=some o/\H b=none:=by
 have e':h.get? b=some o:=PySem.W.of_hideAll (trk h H) e;refine ⟨e',?_⟩;cases q:H b with
 | none=>rfl
 | some x =>
   have hm:b∈trk h H:=List.mem_filter.mpr ⟨List.mem_range.mpr (Heap.lt_size e'),by simp [q]⟩;have z:(y6 h H).get? b=none:=PySem.W.hideAll_none (trk h H) hm;rw [z] at e;cases e
def Vn (g h:Heap) (L:Addr):List (Addr × Obj):=(List.range h.objs.size).filterMap fun a=>if a=L\/(g.get? a).isSome=true then none else (h.get? a).map fun o=>(a,o)
def kc (g h:Heap) (L d:Addr):List (Addr × Obj):=(Vn g h L).filter fun p=>decide (p.1≠d)
end L2
namespace L2
open PySem PySem.Spec PyProof.Rows
structure Mod (K:PySem.W.Frag) (mg:Str->Option Value) (base:Heap):Prop where
 kin:K.In base
 glob:base.Ns mainGlobals mg
 blt:∃ mb,base.Ns builtinsNs mb/\∀ x:Str,x≠"__name__"->mb x=bootBuiltins x
 nolimit:base.NoLimit
structure Cx where
 prog:Program
 w:World
 K:PySem.W.Frag
 mg:Str->Option Value
 base:Heap
 A:Around
 N:List Str
 s₀:Shared
 H₀:Hp
 env:Env
 outer:List Env
 stack:List Env
 ex:List Addr
 fn:Str->Bool
 calm:Bool
 pn:List (Addr × Obj)
 xe:Value->Shared->Prop
def frs (l:List Env):List Addr:=l.filterMap (·.frame)
abbrev Cx.fs (X:Cx):List Addr:=frs X.outer
def Vis (sc:Scope) (x:Str):Prop:=sc.names.lookup x=some .local\/sc.names.lookup x=some .cell\/sc.names.lookup x=some .free
def Loc (sc:Scope) (x:Str):Prop:=sc.names.lookup x=some .local\/sc.names.lookup x=some .cell
def Xs (env:Env) (h:Heap) (m:Str->Option Value) (x:Str) (u:Value):Prop :=
 (env.kindOf x=some .local/\m x=some u)\/((env.kindOf x=some .cell\/env.kindOf x=some .free)/\∃ c,env.cells.lookup x=some c/\h.IsCell c (some u))
structure Cx.Ok (X:Cx):Prop where
 mod:Mod X.K X.mg X.base
 kind:X.env.scope.kind=.function
 glob:X.env.globals=mainGlobals
 blt:X.env.builtins=builtinsNs
 above:X.s₀.heap.objs.size<=X.env.locals
 inj:∀ x y c,X.env.cells.lookup x=some c->X.env.cells.lookup y=some c->x=y
 has:∀ x,(X.env.kindOf x=some .cell\/X.env.kindOf x=some .free)->∃ c,X.env.cells.lookup x=some c
 cab:∀ x c,X.fn x=true->X.env.cells.lookup x=some c->X.s₀.heap.objs.size<=c
 hd:X.calm=true->X.A.handled=none
 frames:X.A.frames=some X.stack
 stk:X.stack=X.outer\/(X.stack=X.env::X.outer/\X.env.frame=some X.env.locals)
 exf:∀ b∈X.ex,b≠X.env.locals/\∀ x c,X.env.cells.lookup x=some c->c≠b
 bs:∀ b o,X.base.get? b=some o->X.s₀.heap.get? b=some o/\X.H₀ b=none
 bsz:X.base.objs.size<=X.s₀.heap.objs.size
 noex:∀ b o,X.base.get? b=some o->b ∉ X.ex
 exfs:∀ b∈X.ex,b ∉ X.fs
 funs:X.s₀.heap.FunFrames X.base X.outer
 frf:∀ b∈X.fs,X.H₀ b=none
structure Inv (X:Cx) (pins:List (Addr × Obj)) (σ:List (Option V)) (H:Hp) (s:Shared):Prop where
 ok:X.Ok
 os:s.os=X.s₀.os
 bare:AllBare s.gens
 base:Un X.fs X.ex X.H₀ H X.s₀.heap s.heap
 loc:∃ m,s.heap.Ns X.env.locals m/\∀ (i:Nat) (x:Str) (v:V),X.N[i]?=some x->σ[i]?=some (some v)->Vis X.env.scope x->∃ u,RelV v u/\Xs X.env s.heap m x u
 cell:∀ x c,X.env.cells.lookup x=some c->∃ v,s.heap.IsCell c v
 free:H X.env.locals=none
 freeC:∀ x c,X.env.cells.lookup x=some c->H c=none
 pin:∀ p∈X.pn++pins,s.heap.get? p.1=some p.2/\H p.1=none/\p.1≠X.env.locals/\p.1 ∉ X.fs/\∀ v,p.2.data≠.cell v
 hok:HOk X.prog X.w H s.heap
 len:σ.length=X.N.length
section
variable {X:Cx} {pins:List (Addr × Obj)} {σ:List (Option V)} {H H':Hp} {s:Shared} {h':Heap}
theorem Cx.Ok.nofr (ok:X.Ok) {b:Addr} {o:Obj} (e:X.base.get? b=some o):b ∉ X.fs:=fun hb=>by
 have:=(ok.funs.mem hb).1;rw [e] at this;cases this
theorem Inv.bs (I:Inv X pins σ H s):∀ b o,X.base.get? b=some o->s.heap.get? b=some o/\H b=none:=fun b o e =>
 ⟨I.base.keep b o (I.ok.bs b o e).1 (I.ok.bs b o e).2 (I.ok.nofr e) (I.ok.noex b o e),I.base.free b o (I.ok.bs b o e).1 (I.ok.bs b o e).2 (I.ok.noex b o e)⟩
theorem Inv.bk (I:Inv X pins σ H s):∀ b o,X.base.get? b=some o->s.heap.get? b=some o:=fun b o e=>(I.bs b o e).1
theorem Inv.mod (I:Inv X pins σ H s):Mod X.K X.mg X.base:=I.ok.mod
theorem Inv.kIn (I:Inv X pins σ H s):X.K.In s.heap:=I.ok.mod.kin.keeps I.bk
theorem Inv.lt (I:Inv X pins σ H s):X.env.locals<s.heap.objs.size:=let ⟨_,hn,_⟩:=I.loc;hn.lt
theorem Inv.sz (I:Inv X pins σ H s):X.s₀.heap.objs.size<=s.heap.objs.size:=Nat.le_trans I.ok.above (Nat.le_of_lt I.lt)
theorem Inv.nofs (I:Inv X pins σ H s) {a:Addr} (h:s.heap.objs.size<=a):a ∉ X.fs:=fun hb=>by
 obtain ⟨_,o,ho,_⟩:=I.ok.funs.mem hb;exact absurd (Nat.lt_of_lt_of_le (Heap.lt_size ho) (Nat.le_trans I.sz h)) (Nat.lt_irrefl _)
theorem Inv.cne (I:Inv X pins σ H s):∀ x c,X.env.cells.lookup x=some c->c≠X.env.locals:=fun x c e z=>by
 obtain ⟨v,o,ho,hd⟩:=I.cell x c e;obtain ⟨m,⟨o',es,ep,ho',hd',_⟩,_⟩:=I.loc;rw [z,ho'] at ho;cases ho;rw [hd'] at hd;cases hd
theorem Inv.funs (I:Inv X pins σ H s):s.heap.FunFrames X.base X.outer:=by
 have all:∀ (l:List Env),(∀ b∈frs l,b∈X.fs)->X.s₀.heap.FunFrames X.base l->s.heap.FunFrames X.base l:=by
   intro l
   induction l with
   | nil=>intro _ _;trivial
   | cons env r ih =>
     intro hs hl;obtain ⟨hk,⟨L,o,hf,hn,ho,hd⟩,hr⟩:=hl;have hL:L∈X.fs:=hs L (by unfold frs;rw [List.filterMap_cons,hf];exact List.mem_cons_self);obtain ⟨sl,e⟩:=I.base.slot L o ho (I.ok.frf L hL) hL fun z=>I.ok.exfs L z hL;exact ⟨hk,⟨L,_,hf,hn,e,hd⟩,ih (fun b hb=>hs b (by unfold frs;rw [List.filterMap_cons,hf];exact List.mem_cons_of_mem _ hb)) hr⟩
 exact all X.outer (fun _ hb=>hb) I.ok.funs
theorem Inv.stack (I:Inv X pins σ H s):s.heap.FunFrames X.base X.stack:=by
 rcases I.ok.stk with e|⟨e,hf⟩
 . rw [e];exact I.funs
 . rw [e];obtain ⟨m,hn,_⟩:=I.loc;refine .cons (by rw [I.ok.kind];decide) hf hn ?_ I.funs;exact Heap.get?_none_of_le (Nat.le_trans I.ok.bsz I.ok.above)
theorem Inv.stkSub (I:Inv X pins σ H s):∀ b∈frs X.stack,b∈X.env.locals::X.fs:=fun b hb=>by
 rcases I.ok.stk with e|⟨e,hf⟩
 . rw [e] at hb;exact List.mem_cons_of_mem _ hb
 . rw [e] at hb;unfold frs at hb;rw [List.filterMap_cons,hf] at hb;exact hb
theorem Inv.stkFree (I:Inv X pins σ H s):∀ b∈frs X.stack,H b=none:=fun b hb=>by
 rcases List.mem_cons.mp (I.stkSub b hb) with e|hb
 . rw [e];exact I.free
 . obtain ⟨_,o,ho,_⟩:=I.ok.funs.mem hb;exact I.base.free b o ho (I.ok.frf b hb) fun z=>I.ok.exfs b z hb
theorem Inv.step {g':Array GenState} {t':Nat} {d':Drawn} {ch:List Addr} (I:Inv X pins σ H s)
   (hch:∀ b∈ch,(b∈X.ex\/X.s₀.heap.objs.size<=b)/\b≠X.env.locals/\(∀ x c,X.env.cells.lookup x=some c->c≠b)/\∀ p∈X.pn++pins,p.1≠b)
   (keep:∀ b o,b≠X.env.locals->b ∉ X.fs->b ∉ ch->s.heap.get? b=some o->H b=none->h'.get? b=some o)
   (slot:∀ b o,b≠X.env.locals->b∈X.fs->b ∉ ch->s.heap.get? b=some o->H b=none->∃ sl,h'.get? b=some { o with slots:=sl }) (free:∀ b o,b ∉ ch->s.heap.get? b=some o->H b=none->H' b=none)
   (there:∀ b o,b ∉ ch->s.heap.get? b=some o->∃ o',h'.get? b=some o')
   (tups:∀ b xs,H b=some (.tup xs)->H' b=some (.tup xs)) (frzs:∀ b o u,H b=some (.frz o u)->H' b=some (.frz o u)) (tbls:∀ b ps,H b=some (.tbl ps)->∃ more,H' b=some (.tbl (ps++more)))
   (ns:∀ m,s.heap.Ns X.env.locals m->h'.Ns X.env.locals m) (hok:HOk X.prog X.w H' h') (hg:AllBare g') :
   Inv X pins σ H' { s with heap:=h',gens:=g',drawn:=d',toks:=t' }:=by
 have neL:∀ b o,X.s₀.heap.get? b=some o->b≠X.env.locals:=fun b o e=>Nat.ne_of_lt (Nat.lt_of_lt_of_le (Heap.lt_size e) I.ok.above);have neC:∀ b o,X.s₀.heap.get? b=some o->b ∉ X.ex->b ∉ ch:=fun b o e hx hb=>by
   rcases (hch b hb).1 with z|z
   . exact hx z
   . exact absurd (Nat.lt_of_lt_of_le (Heap.lt_size e) z) (Nat.lt_irrefl _)
 have cellK:∀ x c,X.env.cells.lookup x=some c->∀ v,s.heap.IsCell c v->h'.IsCell c v:=fun x c e v ⟨o,ho,hd⟩=>by
   have nch:c ∉ ch:=fun z=>(hch c z).2.2.1 x c e rfl;by_cases hc:c∈X.fs
   . obtain ⟨sl,q⟩:=slot c o (I.cne x c e) hc nch ho (I.freeC x c e);exact ⟨_,q,hd⟩
   . exact ⟨o,keep c o (I.cne x c e) hc nch ho (I.freeC x c e),hd⟩
 refine ⟨I.ok,I.os,hg,⟨fun b o e n hb hx=>?_,fun b o e n hb hx=>?_,fun b o e n hx=>?_,fun b o e hx=>?_,fun b xs e=>tups b xs (I.base.tups b xs e),fun b o xs e=>frzs b o xs (I.base.frzs b o xs e),fun b ps e=>?_⟩,?_,fun x c e=>?_,?_,fun x c e=>?_,fun p hp=>?_,hok,I.len⟩
 . exact keep b o (neL b o e) hb (neC b o e hx) (I.base.keep b o e n hb hx) (I.base.free b o e n hx)
 . obtain ⟨sl,e1⟩:=I.base.slot b o e n hb hx;obtain ⟨sl',e2⟩:=slot b _ (neL b o e) hb (neC b o e hx) e1 (I.base.free b o e n hx);exact ⟨sl',e2⟩
 . obtain ⟨o',e1⟩:=I.base.there b o e hx;exact free b o' (neC b o e hx) e1 (I.base.free b o e n hx)
 . obtain ⟨o',e1⟩:=I.base.there b o e hx;exact there b o' (neC b o e hx) e1
 . obtain ⟨m1,e1⟩:=I.base.tbls b ps e;obtain ⟨m2,e2⟩:=tbls b _ e1;exact ⟨m1++m2,by rw [e2,Array.append_assoc]⟩
 . obtain ⟨m,hn,hl⟩:=I.loc;refine ⟨m,ns m hn,fun i x v e1 e2 e3=>?_⟩;obtain ⟨u,r,l⟩:=hl i x v e1 e2 e3;refine ⟨u,r,?_⟩;rcases l with l|⟨k,c,e,z⟩
   . exact .inl l
   . exact .inr ⟨k,c,e,cellK x c e _ z⟩
 . obtain ⟨v,z⟩:=I.cell x c e;exact ⟨v,cellK x c e v z⟩
 . obtain ⟨m,⟨o,_,_,ho,_⟩,_⟩:=I.loc;exact free _ o (fun z=>(hch _ z).2.1 rfl) ho I.free
 . obtain ⟨v,o,ho,hd⟩:=I.cell x c e;exact free c o (fun z=>(hch c z).2.2.1 x c e rfl) ho (I.freeC x c e)
 . obtain ⟨e,n,ne,nf,d⟩:=I.pin p hp;have nch:p.1 ∉ ch:=fun z=>(hch p.1 z).2.2.2 p hp rfl;exact ⟨keep p.1 p.2 ne nf nch e n,free p.1 p.2 nch e n,ne,nf,d⟩
theorem Inv.un {t':Nat} (I:Inv X pins σ H s) (u:Un X.fs [] H H' s.heap h') (hok:HOk X.prog X.w H' h'):Inv X pins σ H' { s with heap:=h',toks:=t' }:=by
 obtain ⟨m,⟨o,es,ep,ho,r⟩,_⟩:=id I.loc;obtain ⟨sl,hL⟩:=u.any ho I.free (by simp);exact I.step (g':=s.gens) (d':=s.drawn) (ch:=[]) (fun _ z=>nomatch z) (fun b o _ hb _ e n=>u.keep b o e n hb (by simp)) (fun b o _ hb _ e n=>u.slot b o e n hb (by simp)) (fun b o _ e n=>u.free b o e n (by simp)) (fun b o _ e=>u.there b o e (by simp)) u.tups u.frzs u.tbls (fun m' hm=>by
   obtain ⟨o',es',ep',ho',r'⟩:=hm;rw [ho] at ho';cases ho';exact ⟨_,es',ep',hL,r'⟩) hok I.bare
theorem Inv.call {g':Array GenState} {t':Nat} {d':Drawn} {ch:List Addr} (I:Inv X pins σ H s) (u:Un (frs X.stack) ch H H' s.heap h') (hok:HOk X.prog X.w H' h') (hg:AllBare g')
   (hch:∀ b∈ch,(b∈X.ex\/X.s₀.heap.objs.size<=b)/\b≠X.env.locals/\(∀ x c,X.env.cells.lookup x=some c->c≠b)/\∀ p∈X.pn++pins,p.1≠b) :
   Inv X pins σ H' { s with heap:=h',gens:=g',drawn:=d',toks:=t' }:=by
 obtain ⟨m,⟨o,es,ep,ho,r⟩,_⟩:=id I.loc;obtain ⟨sl,hL⟩:=u.any ho I.free fun z=>(hch _ z).2.1 rfl;exact I.step (ch:=ch) hch (fun b o hL hb hc e n=>u.keep b o e n (fun z=>(List.mem_cons.mp (I.stkSub b z)).elim hL hb) hc) (fun b o _ _ hc e n=>u.any e n hc) (fun b o hc e n=>u.free b o e n hc) (fun b o hc e=>u.there b o e hc) u.tups u.frzs u.tbls (fun m' hm=>by
   obtain ⟨o',es',ep',ho',r'⟩:=hm;rw [ho] at ho';cases ho';exact ⟨_,es',ep',hL,r'⟩) hok hg
theorem Inv.turned {t':Nat} {it:Addr} (I:Inv X pins σ H s) (k:∀ b o,b≠it->s.heap.get? b=some o->h'.get? b=some o) (hn:H it=none) (hL:it≠X.env.locals)
   (h1:it∈X.ex\/X.s₀.heap.objs.size<=it) (h2:∀ x c,X.env.cells.lookup x=some c->c≠it) (h3:∀ p∈X.pn++pins,p.1≠it):Inv X pins σ H { s with heap:=h',toks:=t' }:=by
 have nit:∀ b u,H b=some u->b≠it:=fun b u e z=>by rw [z,hn] at e;cases e
 refine I.step (g':=s.gens) (d':=s.drawn) (ch:=[it]) (fun b hb=>?_) (fun b o _ _ hc e _=>k b o (fun z=>hc (by simp [z])) e) (fun b o _ _ hc e _=>⟨o.slots,k b o (fun z=>hc (by simp [z])) e⟩) (fun _ _ _ _ n=>n)
   (fun b o hc e=>⟨o,k b o (fun z=>hc (by simp [z])) e⟩) (fun _ _ e=>e) (fun _ _ _ e=>e) (fun b ps e=>⟨#[],by rw [e];simp⟩) (fun m hm=>?_) (fun b u e=>?_) I.bare
 . have e:b=it:=by simpa using hb
   subst e;exact ⟨h1,hL,h2,h3⟩
 . obtain ⟨o,es,ep,ho,r⟩:=hm;exact ⟨o,es,ep,k _ o (Ne.symm hL) ho,r⟩
 . refine (I.hok b u e).stay (fun c v hc q=>k c v ?_ q) (fun _ q=>q) fun _ _ q=>q;rcases hc with z|z
   . rw [z];exact nit b u e
   . exact nit c _ z
theorem Inv.tok (I:Inv X pins σ H s) (t:Nat):Inv X pins σ H { s with toks:=t }:=I.un (h':=s.heap) (t':=t) Un.refl I.hok
theorem Inv.kept {t':Nat} (I:Inv X pins σ H s) (k:∀ b u,s.heap.get? b=some u->h'.get? b=some u):Inv X pins σ H { s with heap:=h',toks:=t' }:=I.un (Un.kept k) (I.hok.kept k)
theorem Inv.laid {a:Addr} {o:HO} {t':Nat} (I:Inv X pins σ H s) (k:∀ b u,s.heap.get? b=some u->h'.get? b=some u) (hp:s.heap.objs.size<=a) (new:ObjOk X.prog X.w (upd H a o) h' a o) :
   Inv X pins σ (upd H a o) { s with heap:=h',toks:=t' }:=I.un (Un.laid k hp (I.hok.fresh hp)) (I.hok.laid k hp new)
theorem Inv.write {x e:Addr} {o:HO} {t':Nat} (I:Inv X pins σ H s) (mu:Mut (H x)) (he:e=x\/H e=some (.own x)) (k:∀ b u,b≠e->s.heap.get? b=some u->h'.get? b=some u) (heo:∃ u,h'.get? e=some u)
   (new:ObjOk X.prog X.w (upd H x o) h' x o):Inv X pins σ (upd H x o) { s with heap:=h',toks:=t' }:=I.un (Un.write mu he k heo) (I.hok.write mu he k heo new)
theorem Inv.pins_of {pins':List (Addr × Obj)} (I:Inv X pins σ H s) (h:∀ p∈pins',s.heap.get? p.1=some p.2/\H p.1=none/\p.1≠X.env.locals/\p.1 ∉ X.fs/\∀ v,p.2.data≠.cell v):Inv X pins' σ H s :=
 ⟨I.ok,I.os,I.bare,I.base,I.loc,I.cell,I.free,I.freeC,fun p hp=>(List.mem_append.mp hp).elim (fun z=>I.pin p (List.mem_append_left _ z)) (h p),I.hok,I.len⟩
theorem KL {N:List Str} (hN:N.Nodup) {i j:Nat} {x:Str} (a:N[i]?=some x) (b:N[j]?=some x):i=j:=by
 obtain ⟨h1,e1⟩:=List.getElem?_eq_some_iff.mp a;obtain ⟨h2,e2⟩:=List.getElem?_eq_some_iff.mp b;exact (List.getElem_inj hN).mp (e1.trans e2.symm)
theorem Gv {M:Model} {A:Around} {E:Value->Shared->Prop} {i:Nat} {x:Str} {v:V} {u:Value} {Q:Unit->Shared->Prop} (I:Inv X pins σ H s) (hN:X.N.Nodup) (hi:X.N[i]?=some x) (hx:Loc X.env.scope x) (r:RelV v u)
   (h:∀ s',Inv X pins (σ.set i (some v)) H s'->(∃ a,Heap.SameBut a s.heap s'.heap/\(a=X.env.locals\/X.env.cells.lookup x=some a))->Q () s') (hf:X.fn x=true\/X.env.scope.names.lookup x=some .local:=by first|exact .inl rfl|exact .inr rfl|assumption):wpAny M A (storeName X.env x u) Q E s:=by
 obtain ⟨m,hn,hl⟩:=id I.loc;have hcls:(X.env.scope.kind == .class || (X.env.scope.kind == .module && X.env.locals != X.env.globals))=false:=by rw [I.ok.kind];rfl
 have hiσ:i<σ.length:=by rw [I.len];exact (List.getElem?_eq_some_iff.mp hi).1
 have cne:=I.cne;have tracked:∀ {a:Addr} {h':Heap},(∃ o,s.heap.get? a=some o/\H a=none)->Heap.SameBut a s.heap h'->HOk X.prog X.w H h':=fun {a h'} ha hs b ob e=>by
   obtain ⟨_,_,hfree⟩:=ha;refine (I.hok b ob e).stay (fun c w' hc q=>(hs.2 c ?_).trans q) (fun _ q=>q) fun _ _ q=>q;rintro rfl;rcases hc with rfl|hc
   . rw [hfree] at e;cases e
   . rw [hfree] at hc;cases hc
 rcases hx with hk|hk
 . refine wpAny_storeName_local hk hn (fun h' hn' hs=>?_) hcls;obtain ⟨oL,_,_,hoL,_⟩:=id hn;refine h _ ⟨I.ok,I.os,I.bare,⟨fun b o e n hb hx=>?_,fun b o e n hb hx=>?_,I.base.free,fun b o e hx=>?_,I.base.tups,I.base.frzs,I.base.tbls⟩,⟨_,hn',fun j y v' e1 e2 e3=>?_⟩,fun y c e=>?_,I.free,I.freeC,fun p hp=>?_,tracked ⟨oL,hoL,I.free⟩ hs,by simpa using I.len⟩ ⟨_,hs,.inl rfl⟩
   . exact (hs.2 b (Nat.ne_of_lt (Nat.lt_of_lt_of_le (Heap.lt_size e) I.ok.above))).trans (I.base.keep b o e n hb hx)
   . obtain ⟨sl,e1⟩:=I.base.slot b o e n hb hx;exact ⟨sl,(hs.2 b (Nat.ne_of_lt (Nat.lt_of_lt_of_le (Heap.lt_size e) I.ok.above))).trans e1⟩
   . obtain ⟨o',e1⟩:=I.base.there b o e hx;exact ⟨o',(hs.2 b (Nat.ne_of_lt (Nat.lt_of_lt_of_le (Heap.lt_size e) I.ok.above))).trans e1⟩
   . by_cases hj:j=i
     . subst hj;rw [hi] at e1;cases e1;rw [List.getElem?_set_self hiσ] at e2;cases e2;exact ⟨u,r,.inl ⟨hk,by simp⟩⟩
     . rw [List.getElem?_set_ne (Ne.symm hj)] at e2;obtain ⟨u',r',q⟩:=hl j y v' e1 e2 e3;refine ⟨u',r',?_⟩;rcases q with ⟨k,e⟩|⟨k,c,e,z⟩
       . refine .inl ⟨k,?_⟩;have:y≠x:=fun e=>hj (KL hN e1 (e ▸ hi));simp [this,e]
       . exact .inr ⟨k,c,e,z.sameBut hs (cne y c e)⟩
   . obtain ⟨w',z⟩:=I.cell y c e;exact ⟨w',z.sameBut hs (cne y c e)⟩
   . obtain ⟨e,n,ne,nf,d⟩:=I.pin p hp;exact ⟨(hs.2 p.1 ne).trans e,n,ne,nf,d⟩
 . have hfn:X.fn x=true:=by
     rcases hf with z|z
     . exact z
     . rw [z] at hk;cases hk
   obtain ⟨c,hc⟩:=I.ok.has x (.inl hk);obtain ⟨w',z⟩:=I.cell x c hc;refine wpAny_storeName_cell I.ok.kind hk hc z (fun h' hc' hs=>?_);obtain ⟨oc,hoc,hocd⟩:=id z;refine h { s with heap:=h' } ⟨I.ok,I.os,I.bare,⟨fun b o e n hb hx=>?_,fun b o e n hb hx=>?_,I.base.free,fun b o e hx=>?_,I.base.tups,I.base.frzs,I.base.tbls⟩,⟨m,hn.sameBut hs (Ne.symm (cne x c hc)),fun j y v' e1 e2 e3=>?_⟩,fun y c' e=>?_,I.free,I.freeC,fun p hp=>?_,tracked ⟨oc,hoc,I.freeC x c hc⟩ hs,by simpa using I.len⟩ ⟨c,hs,.inr hc⟩
   . exact (hs.2 b (Nat.ne_of_lt (Nat.lt_of_lt_of_le (Heap.lt_size e) (I.ok.cab x c hfn hc)))).trans (I.base.keep b o e n hb hx)
   . obtain ⟨sl,e1⟩:=I.base.slot b o e n hb hx;exact ⟨sl,(hs.2 b (Nat.ne_of_lt (Nat.lt_of_lt_of_le (Heap.lt_size e) (I.ok.cab x c hfn hc)))).trans e1⟩
   . obtain ⟨o',e1⟩:=I.base.there b o e hx;exact ⟨o',(hs.2 b (Nat.ne_of_lt (Nat.lt_of_lt_of_le (Heap.lt_size e) (I.ok.cab x c hfn hc)))).trans e1⟩
   . by_cases hj:j=i
     . subst hj;rw [hi] at e1;cases e1;rw [List.getElem?_set_self hiσ] at e2;cases e2;exact ⟨u,r,.inr ⟨.inl hk,c,hc,hc'⟩⟩
     . rw [List.getElem?_set_ne (Ne.symm hj)] at e2;obtain ⟨u',r',q⟩:=hl j y v' e1 e2 e3;refine ⟨u',r',?_⟩;rcases q with q|⟨k,c',e,z'⟩
       . exact .inl q
       . refine .inr ⟨k,c',e,z'.sameBut hs ?_⟩;rintro rfl;exact hj (KL hN e1 (I.ok.inj _ _ _ e hc ▸ hi))
   . by_cases hcc:c'=c
     . subst hcc;exact ⟨_,hc'⟩
     . obtain ⟨w2,z2⟩:=I.cell y c' e;exact ⟨w2,z2.sameBut hs hcc⟩
   . obtain ⟨e,n,ne,nf,d⟩:=I.pin p hp;refine ⟨(hs.2 p.1 ?_).trans e,n,ne,nf,d⟩;intro q;rw [q,hoc] at e;have q':oc=p.2:=Option.some.inj e;exact d w' (by rw [<- q'];exact hocd)
theorem KZ {M:Model} {A:Around} {E:Value->Shared->Prop} {i:Nat} {x:Str} {v:V} {u:Value} {Q:Unit->Shared->Prop} (I:Inv X pins σ H s) (hN:X.N.Nodup) (hi:X.N[i]?=some x) (hx:Loc X.env.scope x) (r:RelV v u)
   (h:∀ s',Inv X pins (σ.set i (some v)) H s'->Q () s') (hf:X.fn x=true\/X.env.scope.names.lookup x=some .local:=by first|exact .inl rfl|exact .inr rfl|assumption):wpAny M A (storeName X.env x u) Q E s :=
 Gv I hN hi hx r (fun s' I' _=>h s' I') hf
theorem Inv.call' {s':Shared} {ch:List Addr} (I:Inv X pins σ H s) (ho:s'.os=s.os) (u:Un (frs X.stack) ch H H' s.heap s'.heap) (hok:HOk X.prog X.w H' s'.heap) (hg:AllBare s'.gens)
   (hch:∀ b∈ch,(b∈X.ex\/X.s₀.heap.objs.size<=b)/\b≠X.env.locals/\(∀ x c,X.env.cells.lookup x=some c->c≠b)/\∀ p∈X.pn++pins,p.1≠b):Inv X pins σ H' s':=by
 obtain ⟨h',g',d',t',o'⟩:=s';have e:o'=s.os:=ho;subst e;exact I.call (g':=g') (t':=t') (d':=d') u hok hg hch
end
abbrev XK:=Value->Option Addr->Hp->Prop
abbrev St:=List (Option V)
abbrev VK:=V->Hp->Prop
abbrev TE:=St->Hp->VK->Prop
abbrev TT:=St->Hp->(Bool->Hp->Prop)->Prop
abbrev TA:=St->Hp->(List V->Hp->Prop)->Prop
structure Ends where
 nx:St->Hp->Prop
 rt:VK
 bk:St->Hp->Prop:=fun _ _=>False
 ct:St->Hp->Prop:=fun _ _=>False
abbrev TS:=Ends->St->Hp->Prop
def EP (X:Cx) (pins:List (Addr × Obj)) (σ:St) (Q:VK) (u:Value) (s':Shared):Prop:=∃ v H',Inv X pins σ H' s'/\RelV v u/\Q v H'
def TP (X:Cx) (pins:List (Addr × Obj)) (σ:St) (Q:Bool->Hp->Prop) (b:Bool) (s':Shared):Prop:=∃ H',Inv X pins σ H' s'/\Q b H'
def AP (X:Cx) (pins:List (Addr × Obj)) (σ:St) (Q:List V->Hp->Prop) (us:List Value) (s':Shared):Prop:=∃ vs H',Inv X pins σ H' s'/\Vals vs us/\Q vs H'
def SP (X:Cx) (pins:List (Addr × Obj)) (D:Ends) (f:Flow) (s':Shared):Prop :=
 match f with
 | .next=>∃ σ' H',Inv X pins σ' H' s'/\D.nx σ' H'
 | .brk=>∃ σ' H',Inv X pins σ' H' s'/\D.bk σ' H'
 | .cont=>∃ σ' H',Inv X pins σ' H' s'/\D.ct σ' H'
 | .ret u=>∃ v σ' H',Inv X pins σ' H' s'/\RelV v u/\D.rt v H'
def PE (X:Cx) (e:Expr) (t:TE):Prop :=
 ∀ (pins:List (Addr × Obj)) (s:Shared) (σ:St) (H:Hp) (Q:VK),Inv X pins σ H s->t σ H Q->wpAny (model X.prog X.w) X.A (eval e X.env) (EP X pins σ Q) X.xe s
def PT (X:Cx) (e:Expr) (t:TT):Prop :=
 ∀ (pins:List (Addr × Obj)) (s:Shared) (σ:St) (H:Hp) (Q:Bool->Hp->Prop),Inv X pins σ H s->t σ H Q->wpAny (model X.prog X.w) X.A (isTrue e X.env (eval e X.env)) (TP X pins σ Q) X.xe s
def PW (X:Cx) (e:Expr) (t:TT):Prop :=
 ∀ (whole:Sem Value) (pins:List (Addr × Obj)) (s:Shared) (σ:St) (H:Hp) (Q:Bool->Hp->Prop),Inv X pins σ H s->t σ H Q->wpAny (model X.prog X.w) X.A (isTrue e X.env whole) (TP X pins σ Q) X.xe s
theorem PW.pt {X:Cx} {e:Expr} {t:TT} (h:PW X e t):PT X e t:=h _
def PA (X:Cx) (es:List Expr) (t:TA):Prop :=
 ∀ (pos:Pos) (pins:List (Addr × Obj)) (s:Shared) (σ:St) (H:Hp) (Q:List V->Hp->Prop),Inv X pins σ H s->t σ H Q->wpAny (model X.prog X.w) X.A (spliced (backTo pos (starEach es X.env))) (AP X pins σ Q) X.xe s
def PS (X:Cx) (st:Stmt) (t:TS):Prop :=
 ∀ (pins:List (Addr × Obj)) (s:Shared) (σ:St) (H:Hp) (D:Ends),Inv X pins σ H s->t D σ H->wpAny (model X.prog X.w) X.A (exec st X.env) (SP X pins D) X.xe s
def PSs (X:Cx) (st:List Stmt) (t:TS):Prop :=
 ∀ (pins:List (Addr × Obj)) (s:Shared) (σ:St) (H:Hp) (D:Ends),Inv X pins σ H s->t D σ H->wpAny (model X.prog X.w) X.A (execs st X.env) (SP X pins D) X.xe s
theorem thn {α:Type} {t:Sem α} {Q Q':α->Shared->Prop} {M:Model} {A:Around} {E:Value->Shared->Prop} {s:Shared} (h:wpAny M A t Q E s) (hQ:∀ a s,Q a s->Q' a s):wpAny M A t Q' E s:=wpAny_mono h hQ fun _ _ x=>x
theorem bS {t:Sem Value} {X:Cx} {pins:List (Addr × Obj)} {σ:St} {Q:VK} {Q':Value->Shared->Prop} {M:Model} {A:Around} {E:Value->Shared->Prop} {s:Shared} (h:wpAny M A t (EP X pins σ Q) E s) (hQ:∀ u s v H,Inv X pins σ H s->RelV v u->Q v H->Q' u s):wpAny M A t Q' E s:=thn h fun u s ⟨v,H,I,r,q⟩=>hQ u s v H I r q
theorem yw {t:Sem (List Value)} {X:Cx} {pins:List (Addr × Obj)} {σ:St} {Q:List V->Hp->Prop} {Q':List Value->Shared->Prop} {M:Model} {A:Around} {E:Value->Shared->Prop} {s:Shared} (h:wpAny M A t (AP X pins σ Q) E s) (hQ:∀ u s v H,Inv X pins σ H s->Vals v u->Q v H->Q' u s):wpAny M A t Q' E s:=thn h fun u s ⟨v,H,I,r,q⟩=>hQ u s v H I r q
theorem FL {t:Sem Bool} {X:Cx} {pins:List (Addr × Obj)} {σ:St} {Q:Bool->Hp->Prop} {Q':Bool->Shared->Prop} {M:Model} {A:Around} {E:Value->Shared->Prop} {s:Shared} (h:wpAny M A t (TP X pins σ Q) E s) (hQ:∀ u s H,Inv X pins σ H s->Q u H->Q' u s):wpAny M A t Q' E s:=thn h fun u s ⟨H,I,q⟩=>hQ u s H I q
end L2
namespace L2
open PySem PySem.Spec PyProof.Rows
section
variable {X:Cx}
def E5 (i:Nat):TE:=fun σ H Q=>∃ v,σ[i]?=some (some v)/\Q v H
def tC (v:V):TE:=fun _ H Q=>Q v H
theorem IZ {i:Nat} {x:Str} {pos:Pos} (hN:X.N[i]?=some x) (hv:Vis X.env.scope x) (hd:(x == ("__debug__":Str))=false:=by decide) (hcd:(x == ("__classdict__":Str))=false:=by decide):PE X (.Name x pos) (E5 i):=by
 intro pins s σ H Q I h;obtain ⟨v,e,h⟩:=h;obtain ⟨m,hn,hl⟩:=I.loc;obtain ⟨u,r,l⟩:=hl i x v hN e hv;have fin:EP X pins σ Q u s:=⟨v,H,I,r,h⟩;rcases l with ⟨hk,hm⟩|⟨hk,c,hc,hcell⟩
 . exact wpAny_Name (wpAny_loadName_local I.ok.kind hk hn hm fin) hd
 . rcases hk with hk|hk
   . exact wpAny_Name (wpAny_loadName_cell I.ok.kind hk hc hcell fin) hd
   . exact wpAny_Name (wpAny_loadName_free I.ok.kind hk hc hcell fin hcd) hd
theorem am {i j pos}:PE X (.Constant (.int i) j pos) (tC (.int i)):=fun _ _ _ H _ I h=>wpAny_Constant_int ⟨.int i,H,I.tok _,⟨_,rfl⟩,h⟩
theorem jH {b j pos}:PE X (.Constant (.bool b) j pos) (tC (.bl b)):=fun _ _ _ H _ I h=>Constant_bool ⟨.bl b,H,I,rfl,h⟩
theorem Qh {j pos}:PE X (.Constant .none j pos) (tC .non):=fun _ _ _ H _ I h=>Constant_none ⟨.non,H,I,rfl,h⟩
theorem PY {x j pos}:PE X (.Constant (.str x) j pos) (tC (.str x)):=fun _ _ _ H _ I h=>Calls.Constant_str ⟨.str x,H,I.tok _,⟨_,rfl⟩,h⟩
def Gl (X:Cx) (x:Str):Prop:=X.env.kindOf x=some .globalImplicit
theorem BH {E:Value->Shared->Prop} {pins:List (Addr × Obj)} {s:Shared} {σ:St} {H:Hp} {x:Str} {u:Value} {pos:Pos} {Q:Value->Shared->Prop} (I:Inv X pins σ H s) (hg:Gl X x) (hm:X.mg x=some u) (h:Q u s)
   (hd:(x == ("__debug__":Str))=false:=by decide):wpAny (model X.prog X.w) X.A (eval (.Name x pos) X.env) Q E s :=
 Calls.Name_function_global I.ok.kind hg (Calls.loadGlobal_global (by rw [I.ok.glob];exact I.mod.glob.keeps I.bk) hm h) hd
theorem tV {E:Value->Shared->Prop} {pins:List (Addr × Obj)} {s:Shared} {σ:St} {H:Hp} {x:Str} {u:Value} {pos:Pos} {Q:Value->Shared->Prop} (I:Inv X pins σ H s) (hg:Gl X x) (hm:X.mg x=none) (hv:bootBuiltins x=some u) (h:Q u s)
   (hn:x≠"__name__":=by decide) (hd:(x == ("__debug__":Str))=false:=by decide):wpAny (model X.prog X.w) X.A (eval (.Name x pos) X.env) Q E s:=by
 obtain ⟨mb,h1,h2⟩:=I.mod.blt;exact Calls.Name_function_global I.ok.kind hg (Calls.loadGlobal_builtin (by rw [I.ok.glob];exact I.mod.glob.keeps I.bk) hm (by rw [I.ok.blt];exact h1.keeps I.bk) ((h2 x hn).trans hv) h) hd
theorem tG {x:Str} {v:V} {u:Value} {pos:Pos} (hg:Gl X x) (hm:X.mg x=some u) (r:RelV v u) (hd:(x == ("__debug__":Str))=false:=by decide):PE X (.Name x pos) (tC v) :=
 fun _ _ _ H _ I h=>BH I hg hm ⟨v,H,I,r,h⟩ hd
theorem UX {x:Str} {v:V} {u:Value} {pos:Pos} (hg:Gl X x) (hm:X.mg x=none) (hv:bootBuiltins x=some u) (r:RelV v u) (hn:x≠"__name__":=by decide) (hd:(x == ("__debug__":Str))=false:=by decide):PE X (.Name x pos) (tC v) :=
 fun _ _ _ H _ I h=>tV I hg hm hv ⟨v,H,I,r,h⟩ hn hd
variable {a b:Expr} {ta tb:TE} {pos:Pos}
def PC (X:Cx) (op:CmpOp) (a b:Expr) (t:TE):Prop :=
 ∀ (pins:List (Addr × Obj)) (s:Shared) (σ:St) (H:Hp) (Q:VK),Inv X pins σ H s->t σ H Q ->
   wpAny (model X.prog X.w) X.A (eval a X.env) (fun v s₁=>wpAny (model X.prog X.w) X.A (eval b X.env) (fun u s₂=>wpAny (model X.prog X.w) X.A (compareOp op v u) (EP X pins σ Q) X.xe s₂) X.xe s₁) X.xe s
def Wm (ta:TE):TE:=fun σ H Q=>ta σ H fun x H1=>Q (.bl (decide (x=.non))) H1
def T7 (ta:TE):TE:=fun σ H Q=>ta σ H fun x H1=>Q (.bl (!decide (x=.non))) H1
def tB (t:TE):TT:=fun σ H Q=>t σ H fun x H1=>∃ c,x=.bl c/\Q c H1
theorem Qe {op:CmpOp} {t:TE} (h:PC X op a b t) (h1:behindInMarks op b=false:=by first|exact nobehind _ (by decide) (by decide)|rfl):PT X (.Compare a [op] [b] pos) (tB t):=by
 intro pins s σ H Q I hw;refine wpAny_isTrue_Compare1 (thn (h pins s σ H _ I hw) fun v s1 h1=>thn h1 fun u s2 h2=>thn h2 fun c s3 ⟨x,H1,I1,r1,q1⟩=>?_) h1;obtain ⟨d,rfl,q⟩:=q1;cases r1;exact wpAny_truthy_bool ⟨H1,I1,q⟩
theorem mH {e:Expr} {t:TE} (h:PE X e t) (he:∀ whole,isTrue e X.env whole=(do let v <- whole;standAt e.pos;holding [v] (truthy v)):=by intro _;rfl):PT X e (tB t):=by
 intro pins s σ H Q I hw;refine isTrue_plain (bS (h pins s σ H _ I hw) fun v s1 x H1 I1 r1 q1=>?_) (he _);obtain ⟨d,rfl,q⟩:=q1;cases r1;exact wpAny_truthy_bool ⟨H1,I1,q⟩
variable {tA tB':TT} {kc:List Expr}
def S6 (t u:TT):TT:=fun σ H Q=>t σ H fun c H1=>if c=true then u σ H1 Q else Q false H1
def tOr (t u:TT):TT:=fun σ H Q=>t σ H fun c H1=>if c=true then Q true H1 else u σ H1 Q
def R0 (t:TT):TT:=fun σ H Q=>t σ H fun c H1=>Q (!c) H1
theorem BJ (ha:PT X a tA):PW X (.BoolOp .And [a] pos) tA:=by
 intro wh pins s σ H Q I h;refine isTrue_and (thn (ha pins s σ H Q I h) fun c s1 e=>?_);cases c with
 | true=>exact isTrue_and_nil e
 | false=>exact e
theorem Bx (ha:PT X a tA):PW X (.BoolOp .Or [a] pos) tA:=by
 intro wh pins s σ H Q I h;refine isTrue_or (thn (ha pins s σ H Q I h) fun c s1 e=>?_);cases c with
 | false=>exact isTrue_or_nil e
 | true=>exact e
theorem D5 (ha:PT X a tA) (hb:PW X (.BoolOp .And (b::kc) pos) tB'):PW X (.BoolOp .And (a::b::kc) pos) (S6 tA tB'):=by
 intro wh pins s σ H Q I h;refine isTrue_and (FL (ha pins s σ H _ I h) fun c s1 H1 I1 q1=>?_);cases c with
 | true=>exact hb wh pins s1 σ H1 Q I1 q1
 | false=>exact ⟨H1,I1,q1⟩
theorem BG (ha:PT X a tA) (hb:PW X (.BoolOp .Or (b::kc) pos) tB'):PW X (.BoolOp .Or (a::b::kc) pos) (tOr tA tB'):=by
 intro wh pins s σ H Q I h;refine isTrue_or (FL (ha pins s σ H _ I h) fun c s1 H1 I1 q1=>?_);cases c with
 | true=>exact ⟨H1,I1,q1⟩
 | false=>exact hb wh pins s1 σ H1 Q I1 q1
theorem jQ (ha:PT X a tA):PT X (.UnaryOp .Not a pos) (R0 tA):=by
 intro pins s σ H Q I h;exact isTrue_not (ha pins s σ H (fun c H1=>Q (!c) H1) I h)
def NU (ta tb:TE):TE:=fun σ H Q=>ta σ H fun x H1=>∃ c,x=.bl c/\if c=true then tb σ H1 Q else Q (.bl false) H1
def Ws (ta tb:TE):TE:=fun σ H Q=>ta σ H fun x H1=>∃ c,x=.bl c/\if c=true then Q (.bl true) H1 else tb σ H1 Q
def NB (ta:TE):TE:=fun σ H Q=>ta σ H fun x H1=>∃ c,x=.bl c/\Q (.bl (!c)) H1
theorem VP {op} {t:TE} (h:PE X a t):PE X (.BoolOp op [a] pos) t:=fun pins s σ H Q I hw=>BoolOp_one (h pins s σ H Q I hw)
theorem Wb (ha:PE X a ta) (hb:PE X (.BoolOp .And (b::kc) pos) tb):PE X (.BoolOp .And (a::b::kc) pos) (NU ta tb):=by
 intro pins s σ H Q I h;refine BoolOp_and (bS (ha pins s σ H _ I h) fun v s1 x H1 I1 r1 q1=>?_);obtain ⟨c,rfl,q1⟩:=q1;cases r1;refine wpAny_truthy_bool ?_;cases c with
 | true=>exact hb pins s1 σ H1 Q I1 q1
 | false=>exact ⟨.bl false,H1,I1,rfl,q1⟩
theorem VN (ha:PE X a ta):PE X (.UnaryOp .Not a pos) (NB ta):=by
 intro pins s σ H Q I h;refine UnaryOp_ (bS (ha pins s σ H _ I h) fun v s1 x H1 I1 r1 q1=>?_);obtain ⟨c,rfl,q1⟩:=q1;cases r1;exact not_of (wpAny_truthy_bool ⟨.bl (!c),H1,I1,rfl,q1⟩)
def tIf (t:TT) (ta tb:TE):TE:=fun σ H Q=>t σ H fun c H1=>if c=true then ta σ H1 Q else tb σ H1 Q
end
end L2
namespace L2
open PySem PySem.Spec PyProof.Rows
def SqL (K:PySem.W.Frag) (H:Hp) (a:Addr) (xs:List V):Prop :=
 Rd H a (.lst xs) \/
   ∃ (o:Obj) (its:Array Value) (n:Nat),K.lookup a=some o/\o.cls=.type "list"/\o.dict=none/\o.data=.seq its n/\its.size<=sizeLine/\Vals xs its.toList
def SqT (K:PySem.W.Frag) (H:Hp) (a:Addr) (xs:List V):Prop :=
 Rd H a (.tup xs) \/
   ∃ (o:Obj) (its:Array Value) (n:Nat),K.lookup a=some o/\o.cls=.type "tuple"/\o.data=.seq its n/\its.size<=sizeLine/\Vals xs its.toList
def Xg:Value->Option V
 | .none=>some .non
 | .bool b=>some (.bl b)
 | .int i _=>some (.int i)
 | .str x _=>some (.str x)
 | .bytes b _=>some (.byt b)
 | .float b _=>some (.flt b)
 | .ref a=>some (.ref a)
 | .type n=>some (.ty n)
 | _=>none
theorem RelV.abs {x:V} {u:Value} (r:RelV x u):Xg u=some x:=by
 cases x with
 | non=>cases r;rfl
 | bl _=>cases r;rfl
 | int _=>obtain ⟨t,rfl⟩:=r;rfl
 | str _=>obtain ⟨t,rfl⟩:=r;rfl
 | byt _=>obtain ⟨t,rfl⟩:=r;rfl
 | flt _=>obtain ⟨t,rfl⟩:=r;rfl
 | ref _=>cases r;rfl
 | ty _=>cases r;rfl
theorem RelV.inj {x y:V} {u:Value} (r:RelV x u) (q:RelV y u):x=y:=Option.some.inj (r.abs.symm.trans q.abs)
theorem Vals.inj {xs ys:List V} {us:List Value} (h:Vals xs us) (h2:Vals ys us):xs=ys:=by
 induction h generalizing ys with
 | nil=>cases h2;rfl
 | cons r _ ih=>cases h2 with|cons r2 t2=>rw [r.inj r2,ih t2]
section
variable {X:Cx} {pins:List (Addr × Obj)} {σ:St} {H:Hp} {s:Shared} {a:Addr} {xs ys:List V}
theorem SqL.of {K:PySem.W.Frag} (h:H a=some (.lst xs)):SqL K H a xs:=.inl (.inl h)
theorem SqT.of {K:PySem.W.Frag} (h:H a=some (.tup xs)):SqT K H a xs:=.inl (.inl h)
theorem Inv.list (I:Inv X pins σ H s) (h:SqL X.K H a xs):∃ its:List Value,Vals xs its/\PlainL s.heap a its.toArray/\xs.length<=sizeLine:=by
 rcases h with h|⟨o,its,n,hk,hc,hd,hs,hz,r⟩
 . obtain ⟨z,its,n,r,e⟩:=h.ok I.hok;exact ⟨its,r,⟨_,n,e,rfl,rfl,rfl⟩,z⟩
 . refine ⟨its.toList,r,⟨o,n,I.kIn a o hk,hc,hd,by simpa using hs⟩,?_⟩;have e:=r.length;simp only [Array.length_toList] at e;omega
theorem Inv.tuple (I:Inv X pins σ H s) (h:SqT X.K H a xs):∃ its:List Value,Vals xs its/\IsTup s.heap a its.toArray/\xs.length<=sizeLine:=by
 rcases h with h|⟨o,its,n,hk,hc,hs,hz,r⟩
 . obtain ⟨z,its,r,p⟩:=h.ok I.hok;exact ⟨its,r,p,z⟩
 . refine ⟨its.toList,r,⟨o,I.kIn a o hk,hc,n,by simpa using hs⟩,?_⟩;have e:=r.length;simp only [Array.length_toList] at e;omega
theorem Inv.list_inj (I:Inv X pins σ H s) (h:SqL X.K H a xs) (h':SqL X.K H a ys):xs=ys:=by
 obtain ⟨its,r,⟨o,n,e,_,_,d⟩,_⟩:=I.list h;obtain ⟨its',r',⟨o',n',e',_,_,d'⟩,_⟩:=I.list h';rw [e] at e';cases e';rw [d] at d';injection d' with d1 _
 have:its=its':=by simpa using congrArg Array.toList d1
 subst this;exact r.inj r'
theorem Inv.tuple_inj (I:Inv X pins σ H s) (h:SqT X.K H a xs) (h':SqT X.K H a ys):xs=ys:=by
 obtain ⟨its,r,⟨o,e,_,n,d⟩,_⟩:=I.tuple h;obtain ⟨its',r',⟨o',e',_,n',d'⟩,_⟩:=I.tuple h';rw [e] at e';cases e';rw [d] at d';injection d' with d1 _
 have:its=its':=by simpa using congrArg Array.toList d1
 subst this;exact r.inj r'
end
abbrev Cx.wish (X:Cx) (E:Value->Shared->Prop):Cx:={ X with xe:=E }
abbrev Cx.nox (X:Cx):Cx:=X.wish fun _ _=>False
theorem Cx.Ok.wish {X:Cx} (ok:X.Ok) (E:Value->Shared->Prop):(X.wish E).Ok :=
 ⟨ok.mod,ok.kind,ok.glob,ok.blt,ok.above,ok.inj,ok.has,ok.cab,ok.hd,ok.frames,ok.stk,ok.exf,ok.bs,ok.bsz,ok.noex,ok.exfs,ok.funs,ok.frf⟩
theorem Cx.Ok.unwish {X:Cx} {E:Value->Shared->Prop} (ok:(X.wish E).Ok):X.Ok :=
 ⟨ok.mod,ok.kind,ok.glob,ok.blt,ok.above,ok.inj,ok.has,ok.cab,ok.hd,ok.frames,ok.stk,ok.exf,ok.bs,ok.bsz,ok.noex,ok.exfs,ok.funs,ok.frf⟩
section
variable {X:Cx} {pins:List (Addr × Obj)} {σ:St} {H:Hp} {s:Shared} {E:Value->Shared->Prop}
theorem Inv.wish (I:Inv X pins σ H s) (E:Value->Shared->Prop):Inv (X.wish E) pins σ H s:=⟨I.ok.wish E,I.os,I.bare,I.base,I.loc,I.cell,I.free,I.freeC,I.pin,I.hok,I.len⟩
theorem Inv.unwish (I:Inv (X.wish E) pins σ H s):Inv X pins σ H s:=⟨I.ok.unwish,I.os,I.bare,I.base,I.loc,I.cell,I.free,I.freeC,I.pin,I.hok,I.len⟩
theorem SP.unwish {D:Ends} {f:Flow} {s':Shared} (h:SP (X.wish E) pins D f s'):SP X pins D f s':=by
 cases f with
 | next=>obtain ⟨σ',H',I,q⟩:=h;exact ⟨σ',H',I.unwish,q⟩
 | brk=>obtain ⟨σ',H',I,q⟩:=h;exact ⟨σ',H',I.unwish,q⟩
 | cont=>obtain ⟨σ',H',I,q⟩:=h;exact ⟨σ',H',I.unwish,q⟩
 | ret u=>obtain ⟨v,σ',H',I,r,q⟩:=h;exact ⟨v,σ',H',I.unwish,r,q⟩
theorem PSs.nox {st:List Stmt} {t:TS} (h:PSs X.nox st t):PSs X st t:=fun pins s σ H D I hw =>
 wpAny_mono (h pins s σ H D (I.wish _) hw) (fun _ _ q=>q.unwish) fun _ _ z=>False.elim z
end
section
variable {X:Cx} {st:Stmt} {kc:List Stmt} {t u:TS} {e:Expr} {te:TE} {pos:Pos}
def tNext:TS:=fun D σ H=>D.nx σ H
def NH (t u:TS):TS:=fun D σ H=>t { D with nx:=u D } σ H
theorem aO:PSs X [] tNext:=fun _ _ σ H _ I h=>wpAny_execs_nil ⟨σ,H,I,h⟩
theorem ak (h1:PS X st t) (h2:PSs X kc u):PSs X (st::kc) (NH t u):=by
 intro pins s σ H D I h;refine wpAny_execs_cons (thn (h1 pins s σ H { D with nx:=u D } I h) fun f s1 q=>?_);cases f with
 | next =>
   obtain ⟨σ',H',I',q⟩:=q;exact h2 pins s1 σ' H' D I' q
 | ret v=>exact q
 | brk=>exact q
 | cont=>exact q
theorem aq (h1:PS X st t):PSs X [st] t:=by
 intro pins s σ H D I h;refine wpAny_execs_cons (thn (h1 pins s σ H D I h) fun f s1 q=>?_);cases f with
 | next=>exact wpAny_execs_nil q
 | ret v=>exact q
 | brk=>exact q
 | cont=>exact q
theorem Inv.quiet {pins:List (Addr × Obj)} {σ:St} {H:Hp} {s:Shared} (I:Inv X pins σ H s):interactive X.env=false:=by simp [interactive,I.ok.kind]
def NF (te:TE):TS:=fun D σ H=>te σ H fun _ H1=>D.nx σ H1
theorem dG (he:PE X e te) (hs:swapsWith e none pos.line X.env=pure false:=by rfl):PS X (.Expr e pos) (NF te):=by
 intro pins s σ H D I h;exact wpAny_Expr_any (bS (he pins s σ H _ I h) fun v s1 x H1 I1 r1 q1=>⟨σ,H1,I1,q1⟩) I.quiet hs
def QM (te:TE):TS:=fun D σ H=>te σ H D.rt
theorem aF (he:PE X e te):PS X (.Return (some e) pos) (QM te):=by
 intro pins s σ H D I h;exact wpAny_Return_some (bS (he pins s σ H _ I h) fun v s1 x H1 I1 r1 q1=>⟨x,σ,H1,I1,r1,q1⟩)
def Uj:TS:=fun D _ H=>D.rt .non H
def Td (c:TT) (t u:TS):TS:=fun D σ H=>c σ H fun b H1=>if b=true then t D σ H1 else u D σ H1
theorem bA {c:Expr} {a b:List Stmt} {tc:TT} (hc:PT X c tc) (ha:PSs X a t) (hb:PSs X b u):PS X (.If c a b pos) (Td tc t u):=by
 intro pins s σ H D I h;refine wpAny_If (FL (hc pins s σ H _ I h) fun d s1 H1 I1 q1=>?_);cases d with
 | true=>exact ha pins s1 σ H1 D I1 q1
 | false=>exact hb pins s1 σ H1 D I1 q1
def tNever:TS:=fun _ _ _=>False
theorem qt:PS X st tNever:=fun _ _ _ _ _ _ h=>h.elim
end
abbrev TG:=V->St->Hp->(St->Hp->Prop)->Prop
abbrev TGs:=List V->St->Hp->(St->Hp->Prop)->Prop
def PG (X:Cx) (target:Expr) (t:TG):Prop :=
 ∀ (pins:List (Addr × Obj)) (s:Shared) (σ:St) (H:Hp) (v:V) (u:Value) (Q:St->Hp->Prop),Inv X pins σ H s->RelV v u->t v σ H Q ->
   wpAny (model X.prog X.w) X.A (assign target X.env u) (fun _ s'=>∃ σ' H',Inv X pins σ' H' s'/\Q σ' H') X.xe s
def PGs (X:Cx) (ts:List Expr) (t:TGs):Prop :=
 ∀ (pins:List (Addr × Obj)) (s:Shared) (σ:St) (H:Hp) (vs:List V) (us:List Value) (Q:St->Hp->Prop),Inv X pins σ H s->Vals vs us->t vs σ H Q ->
   wpAny (model X.prog X.w) X.A (assignInOrder ((assignEach ts X.env).map (·.2)) us) (fun _ s'=>∃ σ' H',Inv X pins σ' H' s'/\Q σ' H') X.xe s
abbrev NX:=V->V->V->Hp->(Hp->Prop)->Prop
def WH (X:Cx) (t:NX):Prop :=
 ∀ (pins:List (Addr × Obj)) (s:Shared) (σ:St) (H:Hp) (o i v:V) (ov iv u:Value) (Q:Hp->Prop),Inv X pins σ H s->RelV o ov->RelV i iv->RelV v u->t o i v H Q ->
   wpAny (model X.prog X.w) X.A (setItem ov iv u) (fun _ s'=>∃ H',Inv X pins σ H' s'/\Q H') X.xe s
abbrev TIp:=V->V->Hp->VK->Prop
section
variable {X:Cx} {pos:Pos}
def yD (i:Nat):TG:=fun v σ H Q=>Q (σ.set i (some v)) H
theorem aB {i:Nat} {x:Str} (hN:X.N.Nodup) (hi:X.N[i]?=some x) (hx:Loc X.env.scope x) (hf:X.fn x=true\/X.env.scope.names.lookup x=some .local:=by first|exact .inl rfl|exact .inr rfl|assumption):PG X (.Name x pos) (yD i):=by
 intro pins s σ H v u Q I r h;exact wpAny_assign_Name (KZ I hN hi hx r (fun s' I'=>⟨_,H,I',h⟩) hf)
def gNil:TGs:=fun vs σ H Q=>vs=[]/\Q σ H
def Ef (t:TG) (u:TGs):TGs:=fun vs σ H Q=>∃ v r,vs=v::r/\t v σ H fun σ' H'=>u r σ' H' Q
theorem iT:PGs X [] gNil:=by
 intro pins s σ H vs us Q I r h;obtain ⟨e,h⟩:=h;subst e;cases r;exact assignInOrder_nil ⟨σ,H,I,h⟩
theorem aU {e:Expr} {es:List Expr} {t:TG} {u:TGs} (h1:PG X e t) (h2:PGs X es u)
   (hs:(assignEach (e::es) X.env).map (·.2)=assign e X.env::(assignEach es X.env).map (·.2):=by rfl):PGs X (e::es) (Ef t u):=by
 intro pins s σ H vs us Q I r h;obtain ⟨v,vr,e1,h⟩:=h;subst e1;cases r with
 | cons r rr =>
   rw [hs];refine assignInOrder_cons (thn (h1 pins s σ H _ _ _ I r h) fun _ s1 ⟨σ1,H1,I1,q1⟩=>?_);exact h2 pins s1 σ1 H1 _ _ Q I1 rr q1
def Kj (K:PySem.W.Frag) (n:Nat) (t:TGs):TG:=fun v σ H Q=>∃ a xs,v=.ref a/\SqT K H a xs/\xs.length=n/\t xs σ H Q
theorem kr {es:List Expr} {k:Nat} {t:TGs} {n:Nat} (hc:X.calm=true) (h:PGs X es t)
   (hn:(assignEach es X.env).length=n:=by rfl) (hst:(assignEach es X.env).findIdx? (·.1)=none:=by rfl):PG X (.Tuple es k pos) (Kj X.K n t):=by
 intro pins s σ H v u Q I r hw;obtain ⟨a,xs,e1,hq,hl,hw⟩:=hw;subst e1;cases r;obtain ⟨its,rv,ht,hz⟩:=I.tuple hq;refine assign_Tuple_tuple (I.ok.hd hc) ht (by simp [hn,<- hl,rv.length]) hst fun h' hx=>?_;have I1:Inv X pins σ H { s with heap:=h' }:=I.kept (t':=s.toks) fun b o e=>hx b o (Nat.ne_of_lt (Heap.lt_size e)) e;exact h pins _ σ H xs _ Q I1 (by simpa using rv) hw
def T3 (to ti:TE) (t:NX):TG:=fun v σ H Q=>to σ H fun o H1=>ti σ H1 fun i H2=>t o i v H2 fun H3=>Q σ H3
theorem kq {o i:Expr} {to ti:TE} {t:NX} (ho:PE X o to) (hi:PE X i ti) (hs:WH X t)
   (ha:∀ v,assign (.Subscript o i pos) X.env v=(do
     let ov <- holding [v] (eval o X.env)
     let iv <- holding [v,ov] (eval i X.env)
     standAt pos
     holding [v,ov,iv] (setItem ov iv v)
     release [v,ov,iv] []):=by intro _;rfl):PG X (.Subscript o i pos) (T3 to ti t):=by
 intro pins s σ H v u Q I r h;rw [ha];refine wpAny_bind (wpAny_holding (bS (ho pins s σ H _ I h) fun ov s1 x H1 I1 r1 q1=>?_));refine wpAny_bind (wpAny_holding (bS (hi pins s1 σ H1 _ I1 q1) fun iv s2 y H2 I2 r2 q2=>?_));refine wpAny_bind (wpAny_standAt (wpAny_bind (wpAny_holding (thn (hs pins s2 σ H2 x y v ov iv u _ I2 r1 r2 r q2) fun _ s3 ⟨H3,I3,q3⟩=>?_))));exact wpAny_release ⟨σ,H3,I3,q3⟩
def JS (te:TE) (g:TG):TS:=fun D σ H=>te σ H fun x H1=>g x σ H1 D.nx
theorem gZ {tg e:Expr} {te:TE} {g:TG} (he:PE X e te) (hg:PG X tg g) (hs:swapsWithSole [tg] e pos.line X.env=pure false:=by rfl) (hw:swappedStores [tg] e X.env=pure none:=by rfl)
   (h1:(assignEach [tg] X.env).map (·.2)=[assign tg X.env]:=by rfl):PS X (.Assign [tg] e pos) (JS te g):=by
 intro pins s σ H D I h;refine wpAny_Assign_stores (bS (he pins s σ H _ I h) fun v s1 x H1 I1 r1 q1=>?_) hs hw;rw [h1];exact thn (hg pins s1 σ H1 x v _ I1 r1 q1) fun _ s2 q=>q
theorem aw {i:Nat} {x:Str} {e:Expr} {te:TE} {pos':Pos} (hN:X.N.Nodup) (hi:X.N[i]?=some x) (hx:Loc X.env.scope x) (he:PE X e te) (hs:swapsWith e (some (.Name x pos')) pos.line X.env=pure false:=by rfl) (hf:X.fn x=true\/X.env.scope.names.lookup x=some .local:=by first|exact .inl rfl|exact .inr rfl|assumption) :
   PS X (.Assign [.Name x pos'] e pos) (JS te (yD i)):=by
 intro pins s σ H D I h;refine wpAny_Assign_Name (bS (he pins s σ H _ I h) fun v s1 y H1 I1 r1 q1=>?_) hs;exact KZ I1 hN hi hx r1 (fun s2 I2=>⟨_,H1,I2,q1⟩) hf
def V6 (i:Nat) (te:TE) (ti:TIp):TS:=fun D σ H=>∃ x,σ[i]?=some (some x)/\te σ H fun y H1=>ti x y H1 fun z H2=>D.nx (σ.set i (some z)) H2
def Ud (to ti te:TE) (tget:V->V->Hp->VK->Prop) (tip:TIp) (tset:NX):TS:=fun D σ H=>to σ H fun o H1=>ti σ H1 fun i H2=>tget o i H2 fun x H3=>te σ H3 fun y H4=>tip x y H4 fun z H5=>tset o i z H5 fun H6=>D.nx σ H6
def ipI (f:Int->Int->Int):TIp:=fun x y H Q=>∃ i j,x=.int i/\y=.int j/\Q (.int (f i j)) H
end
section
variable {X:Cx} {pos:Pos}
def KY (c:TT) (tb:TS):TS:=fun D σ H=>∃ W:Nat->St->Hp->Prop,(∃ m,W m σ H)/\∀ m σ H,W m σ H ->
 c σ H fun b H1=>if b=true then ∃ N:St->Hp->Prop,(∀ σ' H',N σ' H'->∃ m',m'<m/\W m' σ' H')/\tb { D with nx:=N,ct:=N,bk:=D.nx } σ H1 else D.nx σ H1
theorem nQ {c:Expr} {body:List Stmt} {tc:TT} {tb:TS} (hp:PassesOwn (model X.prog X.w) X.A X.env X.xe) (hc:PT X c tc) (hb:PSs X body tb):PS X (.While c body [] pos) (KY tc tb):=by
 intro pins s σ H D I h;obtain ⟨W,⟨m0,w0⟩,turn⟩:=h;refine wpAny_While (codeAny_whileLoop (fun n s'=>∃ σ' H',Inv X pins σ' H' s'/\W n σ' H') ?_ m0 ⟨σ,H,I,w0⟩);rintro n s1 ⟨σ1,H1,I1,w1⟩;refine wpAny_passesOwn hp (FL (hc pins s1 σ1 H1 _ I1 (turn n σ1 H1 w1)) fun b s2 H2 I2 q2=>?_);cases b with
 | true =>
   obtain ⟨N,hN,q2⟩:=q2;rw [if_pos rfl];refine wpAny_passesOwn hp (thn (hb pins s2 σ1 H2 _ I2 q2) fun f s3 q3=>?_);cases f with
   | next =>
     obtain ⟨σ3,H3,I3,n3⟩:=q3;obtain ⟨m',hm,w3⟩:=hN σ3 H3 n3;exact ⟨m',hm,σ3,H3,I3,w3⟩
   | cont =>
     obtain ⟨σ3,H3,I3,n3⟩:=q3;obtain ⟨m',hm,w3⟩:=hN σ3 H3 n3;exact ⟨m',hm,σ3,H3,I3,w3⟩
   | brk=>exact q3
   | ret v=>exact q3
 | false =>
   rw [if_neg Bool.false_ne_true];exact wpAny_execs_nil ⟨σ1,H2,I2,q2⟩
end
structure It where
 go:Nat->Hp->Prop
 yld:Nat->Hp->V->Hp->Prop
 stop:Nat->Hp->Prop
def m9 (X:Cx) (pins:List (Addr × Obj)) (H:Hp) (b:Addr):Prop :=
 H b=none/\b≠X.env.locals/\b ∉ X.fs/\(b∈X.ex\/X.s₀.heap.objs.size<=b)/\(∀ x c,X.env.cells.lookup x=some c->c≠b)/\∀ p∈X.pn++pins,p.1≠b
theorem Inv.fpOk {X:Cx} {pins:List (Addr × Obj)} {σ:St} {H H':Hp} {s:Shared} {b:Addr} (I:Inv X pins σ H s) (hb:s.heap.objs.size<=b) (hn:H' b=none):m9 X pins H' b:=by
 refine ⟨hn,Nat.ne_of_gt (Nat.lt_of_lt_of_le I.lt hb),I.nofs hb,.inr (Nat.le_trans I.sz hb),fun x c e z=>?_,fun p hp z=>?_⟩
 . obtain ⟨v,q⟩:=I.cell x c e;exact absurd (Nat.lt_of_lt_of_le q.lt (by rw [z];exact hb)) (Nat.lt_irrefl _)
 . exact absurd (Nat.lt_of_lt_of_le (Heap.lt_size (I.pin p hp).1) (by rw [z];exact hb)) (Nat.lt_irrefl _)
structure Turn (P:Program) (w:World) (K:PySem.W.Frag) (tg:Expr) (J:It) (fp:List Addr) (it:Addr) (tn:Nat->Heap->Prop):Prop where
 mem:it∈fp
 obj:∀ i h,tn i h->∀ b∈fp,∃ o,h.get? b=some o/\∀ v,o.data≠.cell v
 keep:∀ i h h',tn i h->(∀ b∈fp,∀ o,h.get? b=some o->h'.get? b=some o)->tn i h'
 item:∀ (X:Cx),X.prog=P->X.w=w->X.K=K->X.calm=true->∀ (i:Nat) (pins:List (Addr × Obj)) (s:Shared) (σ:St) (H:Hp) (E:Value->Shared->Prop),Inv X pins σ H s->(∀ b∈fp,m9 X pins H b)->tn i s.heap->J.go i H ->
   wpAny (model P w) X.A (pyNext (.ref it)) (fun r s1=>∃ u,r=some u /\
     wpAny (model P w) X.A (letOwnedTupleGo tg (.ref it) u) (fun _ s2=>∃ x H',Inv X pins σ H' s2/\RelV x u/\J.yld i H x H'/\tn (i+1) s2.heap/\∀ b∈fp,H' b=none) E s1) E s
 done:∀ (X:Cx),X.prog=P->X.w=w->X.K=K->X.calm=true->∀ (i:Nat) (pins:List (Addr × Obj)) (s:Shared) (σ:St) (H:Hp) (E:Value->Shared->Prop),Inv X pins σ H s->(∀ b∈fp,m9 X pins H b)->tn i s.heap->J.stop i H ->
   wpAny (model P w) X.A (pyNext (.ref it)) (fun r s1=>r=none/\Inv X pins σ H s1) E s
 self:∀ (A:Around) (i:Nat) (s:Shared) (Q:Value->Shared->Prop) (E:Value->Shared->Prop),tn i s.heap->Q (.ref it) s->wpAny (model P w) A (pyIter (.ref it)) Q E s
abbrev TI:=St->Hp->(It->Hp->Prop)->Prop
def PIE (X:Cx) (pins:List (Addr × Obj)) (σ:St) (tg:Expr) (R:It->Hp->Prop) (itv:Value) (s2:Shared):Prop :=
 ∃ (it:Addr) (fp:List Addr) (tn:Nat->Heap->Prop) (J:It) (H':Hp),itv=.ref it/\Inv X pins σ H' s2/\Turn X.prog X.w X.K tg J fp it tn/\tn 0 s2.heap/\(∀ b∈fp,m9 X pins H' b)/\R J H'
def PI (X:Cx) (tg iter:Expr) (wi:TI):Prop :=
 ∀ (pins:List (Addr × Obj)) (s:Shared) (σ:St) (H:Hp) (R:It->Hp->Prop),Inv X pins σ H s->wi σ H R ->
   wpAny (model X.prog X.w) X.A (eval iter X.env) (fun v s1=>wpAny (model X.prog X.w) X.A (pyIter v) (PIE X pins σ tg R) X.xe s1) X.xe s
theorem Ih {M:Model} {A:Around} {E:Value->Shared->Prop} {s:Shared} {tg:Expr} {it:Addr} {u:Value} {o:Obj} {n:String} {vs:Array Value} {Q:Unit->Shared->Prop} (ho:s.heap.get? it=some o) (hc:o.cls=.type n) (hd:o.data=.fields vs)
   (hn:["enumerate","zip","dict_itemiterator","dict_reverseitemiterator","odict_iterator","itertools.zip_longest","itertools.pairwise"].contains n=false) (hQ:Q () s):wpAny M A (letOwnedTupleGo tg (.ref it) u) Q E s:=by
 unfold letOwnedTupleGo;cases tg <;> first
   | exact wpAny_pure hQ
   | (cases u <;> first
       | exact wpAny_pure hQ
       | (refine wpAny_bind (wpAny_load ho ?_)
          rw [hc,hd];show wpAny M A (if (["enumerate","zip","dict_itemiterator","dict_reverseitemiterator","odict_iterator","itertools.zip_longest","itertools.pairwise"].contains n && vs[0]? == some (rawInt _))=true then _ else _) Q E s;rw [if_neg (by intro h;rw [hn,Bool.false_and] at h;cases h)];exact wpAny_pure hQ))
def Itl (K:PySem.W.Frag) (a:Addr):It :=
 ⟨fun i H=>∃ xs x,SqL K H a xs/\xs[i]?=some x,fun i H x H'=>H'=H/\∀ xs,SqL K H a xs->xs[i]?=some x,fun i H=>∃ xs,SqL K H a xs/\xs.length<=i⟩
def Itt (K:PySem.W.Frag) (a:Addr):It :=
 ⟨fun i H=>∃ xs x,SqT K H a xs/\xs[i]?=some x,fun i H x H'=>H'=H/\∀ xs,SqT K H a xs->xs[i]?=some x,fun i H=>∃ xs,SqT K H a xs/\xs.length<=i⟩
def Itr (lo:Int) (n:Nat):It:=⟨fun i _=>i<n,fun i H x H'=>H'=H/\x=.int (lo+i),fun i _=>n<=i⟩
theorem Pd {P:Program} {w:World} {K:PySem.W.Frag} {tg:Expr} (a it:Addr):Turn P w K tg (Itl K a) [it] it (fun i h=>h.IsListIter it a i) where
 mem:=by simp
 obj:=fun i h st b hb=>by
   have e:b=it:=by simpa using hb
   subst e;obtain ⟨o,e,c,d⟩:=st;exact ⟨o,e,fun v z=>by rw [d] at z;cases z⟩
 keep:=fun i h h' st k=>st.at fun o e=>k it (by simp) o e
 item:=by
   intro X hP hw hK hc i pins s σ H E I hf st hg;subst hP hw hK;obtain ⟨xs,x,hq,hx⟩:=hg;obtain ⟨its,rv,p,hz⟩:=I.list hq;obtain ⟨u,hu,ru⟩:=rv.get hx;obtain ⟨f0,f1,f2,f3,f4,f5⟩:=hf it (by simp);refine wpAny_pyNext_list_item st p.isList (x:=u) (by simpa using hu) fun h' st' sb=>?_;have I1:Inv X pins σ H { s with heap:=h' }:=I.turned (t':=s.toks) (fun b o hb e=>(sb.2 b hb).trans e) f0 f1 f3 f4 f5;obtain ⟨o,e,c,d⟩:=id st';exact ⟨u,rfl,Ih (s:={ s with heap:=h' }) e c d (by decide) ⟨x,H,I1,ru,⟨rfl,fun ys hy=>by rw [I.list_inj hy hq];exact hx⟩,st',fun b hb=>(hf b hb).1⟩⟩
 done:=by
   intro X hP hw hK hc i pins s σ H E I hf st hg;subst hP hw hK;obtain ⟨xs,hq,hx⟩:=hg;obtain ⟨its,rv,p,hz⟩:=I.list hq;obtain ⟨f0,f1,f2,f3,f4,f5⟩:=hf it (by simp);have hl:=rv.length;exact wpAny_pyNext_list_end (I.ok.hd hc) st p.isList (by simp;omega) fun h' eb=>⟨rfl,I.turned (t':=s.toks) (fun b o hb e=>eb b o hb e) f0 f1 f3 f4 f5⟩
 self:=fun _ _ _ _ _ st h=>wpAny_pyIter_listiter st h
theorem OM {P:Program} {w:World} {K:PySem.W.Frag} {tg:Expr} (a it:Addr):Turn P w K tg (Itt K a) [it] it (fun i h=>h.IsTupleIter it a i) where
 mem:=by simp
 obj:=fun i h st b hb=>by
   have e:b=it:=by simpa using hb
   subst e;obtain ⟨o,e,c,d⟩:=st;exact ⟨o,e,fun v z=>by rw [d] at z;cases z⟩
 keep:=fun i h h' st k=>st.at fun o e=>k it (by simp) o e
 item:=by
   intro X hP hw hK hc i pins s σ H E I hf st hg;subst hP hw hK;obtain ⟨xs,x,hq,hx⟩:=hg;obtain ⟨its,rv,p,hz⟩:=I.tuple hq;obtain ⟨u,hu,ru⟩:=rv.get hx;obtain ⟨f0,f1,f2,f3,f4,f5⟩:=hf it (by simp);refine wpAny_pyNext_tuple_item st (show s.heap.IsTuple a its.toArray from p) (x:=u) (by simpa using hu) fun h' st' sb=>?_;have I1:Inv X pins σ H { s with heap:=h' }:=I.turned (t':=s.toks) (fun b o hb e=>(sb.2 b hb).trans e) f0 f1 f3 f4 f5;obtain ⟨o,e,c,d⟩:=id st';exact ⟨u,rfl,Ih (s:={ s with heap:=h' }) e c d (by decide) ⟨x,H,I1,ru,⟨rfl,fun ys hy=>by rw [I.tuple_inj hy hq];exact hx⟩,st',fun b hb=>(hf b hb).1⟩⟩
 done:=by
   intro X hP hw hK hc i pins s σ H E I hf st hg;subst hP hw hK;obtain ⟨xs,hq,hx⟩:=hg;obtain ⟨its,rv,p,hz⟩:=I.tuple hq;obtain ⟨f0,f1,f2,f3,f4,f5⟩:=hf it (by simp);have hl:=rv.length;exact wpAny_pyNext_tuple_end (I.ok.hd hc) st (show s.heap.IsTuple a its.toArray from p) (by simp;omega) fun h' eb=>⟨rfl,I.turned (t':=s.toks) (fun b o hb e=>eb b o hb e) f0 f1 f3 f4 f5⟩
 self:=fun _ _ _ _ _ st h=>wpAny_pyIter_tupleiter st h
theorem Ol {P:Program} {w:World} {K:PySem.W.Frag} {tg:Expr} (it:Addr) (lo:Int) (n:Nat):Turn P w K tg (Itr lo n) [it] it (fun i h=>IsRangeIter h it (lo+(i:Nat)*1) ((n:Int) - (i:Nat)) 1) where
 mem:=by simp
 obj:=fun i h st b hb=>by
   have e:b=it:=by simpa using hb
   subst e;exact ⟨_,st,fun v z=>by
     have z':Data.fields _=Data.cell v:=z;cases z'⟩
 keep:=fun i h h' st k=>k it (by simp) _ st
 item:=by
   intro X hP hw hK hc i pins s σ H E I hf st hg;subst hP hw hK;obtain ⟨f0,f1,f2,f3,f4,f5⟩:=hf it (by simp);have W:=Walks.range (prog:=X.prog) (w:=X.w) (I.ok.hd hc) it lo 1 n;refine W.item i s _ _ hg st fun v h' tk hv st' kk=>?_;obtain ⟨t,rfl⟩:=hv;have I1:Inv X pins σ H { s with heap:=h',toks:=tk }:=I.turned (fun b o hb e=>kk b o (by simpa using hb) e) f0 f1 f3 f4 f5;refine ⟨_,rfl,Ih (s:={ s with heap:=h',toks:=tk }) (n:="range_iterator") st' rfl rfl (by decide) ⟨.int (lo+i),H,I1,⟨t,?_⟩,⟨rfl,rfl⟩,st',fun b hb=>(hf b hb).1⟩⟩;rw [Int.mul_one]
 done:=by
   intro X hP hw hK hc i pins s σ H E I hf st hg;subst hP hw hK;obtain ⟨f0,f1,f2,f3,f4,f5⟩:=hf it (by simp);exact wpAny_pyNext_range_end (I.ok.hd hc) st (by have:n<=i:=hg;omega) fun h' eb=>⟨rfl,I.turned (t':=s.toks) (fun b o hb e=>eb b o hb e) f0 f1 f3 f4 f5⟩
 self:=fun _ _ _ _ _ st h=>wpAny_pyIter_rangeiter st h
end L2
namespace L2
open PySem PySem.Spec PyProof.Rows
section
variable {X:Cx} {tg:Expr}
def Nf (K:PySem.W.Frag) (tl:TE):TI:=fun σ H R=>tl σ H fun x H1=>∃ a,x=.ref a/\(∃ xs,SqL K H1 a xs)/\R (Itl K a) H1
def Ri (K:PySem.W.Frag) (tl:TE):TI:=fun σ H R=>tl σ H fun x H1=>∃ a,x=.ref a/\(∃ xs,SqT K H1 a xs)/\R (Itt K a) H1
theorem iY {l:Expr} {tl:TE} (hl:PE X l tl):PI X tg l (Nf X.K tl):=by
 intro pins s σ H R I h;refine bS (hl pins s σ H _ I h) fun v s1 x H1 I1 r1 q1=>?_;obtain ⟨a,e,⟨xs,hq⟩,q⟩:=q1;subst e;cases r1;obtain ⟨its,rv,p,hz⟩:=I1.list hq;refine wpAny_pyIter_list p.isList ?_;refine ⟨s1.heap.objs.size,[s1.heap.objs.size],_,_,H1,rfl,I1.kept (t':=s1.toks) fun b o e=>Heap.get?_push_of_some _ e,Pd a _,⟨_,Heap.get?_push_size _ rfl,rfl,rfl⟩,fun b hb=>?_,q⟩;have e:b=s1.heap.objs.size:=by simpa using hb
 subst e;exact I1.fpOk (Nat.le_refl _) (I1.hok.fresh (Nat.le_refl _))
theorem Ap {l:Expr} {tl:TE} (hl:PE X l tl):PI X tg l (Ri X.K tl):=by
 intro pins s σ H R I h;refine bS (hl pins s σ H _ I h) fun v s1 x H1 I1 r1 q1=>?_;obtain ⟨a,e,⟨xs,hq⟩,q⟩:=q1;subst e;cases r1;obtain ⟨its,rv,p,hz⟩:=I1.tuple hq;refine wpAny_pyIter_tuple (show s1.heap.IsTuple a its.toArray from p) ?_;refine ⟨s1.heap.objs.size,[s1.heap.objs.size],_,_,H1,rfl,I1.kept (t':=s1.toks) fun b o e=>Heap.get?_push_of_some _ e,OM a _,⟨_,Heap.get?_push_size _ rfl,rfl,rfl⟩,fun b hb=>?_,q⟩;have e:b=s1.heap.objs.size:=by simpa using hb
 subst e;exact I1.fpOk (Nat.le_refl _) (I1.hok.fresh (Nat.le_refl _))
theorem Rv {pins:List (Addr × Obj)} {σ:St} {H:Hp} {s:Shared} {R:It->Hp->Prop} {E:Value->Shared->Prop} {lo hi:Int} {t u v:Tok} {tk:Nat} (I:Inv X pins σ H s) (h1:-(2^62)<=lo) (h2:lo<2^62) (h3:-(2^62)<=hi) (h4:hi<2^62)
   (q:R (Itr lo (hi - lo).toNat) H):wpAny (model X.prog X.w) X.A (pyIter (.ref s.heap.objs.size)) (PIE X pins σ tg R) E { s with heap:=s.heap.push { cls:=.type "range",data:=.fields #[.int lo t,.int hi u,.int 1 v] },toks:=tk }:=by
 refine wpAny_pyIter_range (IsRange.new ..) (small_one h1 h2 h3 h4) ?_;have I1:Inv X pins σ H { s with heap:=s.heap.push { cls:=.type "range",data:=.fields #[.int lo t,.int hi u,.int 1 v] },toks:=tk }:=I.kept fun b o e=>Heap.get?_push_of_some _ e;refine ⟨(s.heap.push { cls:=.type "range",data:=.fields #[.int lo t,.int hi u,.int 1 v] }).objs.size,[(s.heap.push { cls:=.type "range",data:=.fields #[.int lo t,.int hi u,.int 1 v] }).objs.size],_,_,H,rfl,
   I1.kept (t':=tk) fun b o e=>Heap.get?_push_of_some _ e,Ol _ lo (hi - lo).toNat,?_,fun b hb=>?_,q⟩
 . have e1:lo+((0:Nat):Int)*1=lo:=by simp
   have e2:(((hi - lo).toNat:Nat):Int) - ((0:Nat):Int)=Builtin.Range.rangeSize lo hi 1:=by rw [rangeSize_one];split <;> omega
   show IsRangeIter _ _ (lo+((0:Nat):Int)*1) ((((hi - lo).toNat:Nat):Int) - ((0:Nat):Int)) 1;rw [e1,e2];exact Heap.get?_push_size _ rfl
 . have e:b=(s.heap.push { cls:=.type "range",data:=.fields #[.int lo t,.int hi u,.int 1 v] }).objs.size:=by simpa using hb
   subst e;exact I1.fpOk (Nat.le_refl _) (I1.hok.fresh (Nat.le_refl _))
def OH (ta:TA):TI:=fun σ H R=>ta σ H fun vs H1=>∃ j:Int,vs=[.int j]/\-(2^62)<=j/\j<2^62/\R (Itr 0 j.toNat) H1
def T9 (ta:TA):TI:=fun σ H R=>ta σ H fun vs H1=>∃ i j:Int,vs=[.int i,.int j]/\(-(2^62)<=i/\i<2^62/\-(2^62)<=j/\j<2^62)/\R (Itr i (j - i).toNat) H1
theorem ij {a:Expr} {ta:TA} {p pos:Pos} (hg:Gl X "range") (hm:X.mg "range"=none) (ha:PA X [a] ta) (hs:starEach [a] X.env=[(false,eval a X.env)]:=by rfl):PI X tg (.Call (.Name "range" p) [a] [] pos) (OH ta):=by
 intro pins s σ H R I h;refine Call_ (tV I hg hm boot_range (PyProof.Rows.callWith_type1 (yw (ha pos pins s σ H _ I h) fun us s1 vs H1 I1 r1 q1=>?_) hs rfl));obtain ⟨j,e,q1,q2,q⟩:=q1;subst e;cases r1 with
 | cons r rr =>
   cases rr;obtain ⟨t,rfl⟩:=r;exact call_range_1 (Rv I1 (by omega) (by omega) q1 q2 (by simpa using q))
def WO (wi:TI) (g:TG) (tb:TS):TS:=fun D σ H=>wi σ H fun J H1=>∃ W:Nat->Nat->St->Hp->Prop,(∃ m,W 0 m σ H1)/\∀ i m σ H,W i m σ H ->
 (J.stop i H/\D.nx σ H)\/(J.go i H/\∃ N:St->Hp->Prop,(∀ σ' H',N σ' H'->∃ m',m'<m/\W (i+1) m' σ' H')/\∀ x H',J.yld i H x H'->g x σ H' fun σ2 H2=>tb { D with nx:=N,ct:=N,bk:=D.nx } σ2 H2)
def xi (fp:List Addr) (h:Heap):List (Addr × Obj):=fp.filterMap fun b=>(h.get? b).map fun o=>(b,o)
theorem mn {fp:List Addr} {h:Heap} {b:Addr} {o:Obj} (hb:b∈fp) (e:h.get? b=some o):(b,o)∈xi fp h:=List.mem_filterMap.mpr ⟨b,hb,by rw [e];rfl⟩
theorem P2 {fp:List Addr} {h:Heap} {p:Addr × Obj} (hp:p∈xi fp h):p.1∈fp/\h.get? p.1=some p.2:=by
 obtain ⟨b,hb,e⟩:=List.mem_filterMap.mp hp;cases q:h.get? b with
 | none=>rw [q] at e;cases e
 | some o =>
   rw [q] at e;have e':(b,o)=p:=Option.some.inj e;subst e';exact ⟨hb,q⟩
theorem Inv.pinned {pins:List (Addr × Obj)} {σ:St} {H:Hp} {s:Shared} {fp:List Addr} (I:Inv X pins σ H s) (hf:∀ b∈fp,m9 X pins H b) (ho:∀ b∈fp,∃ o,s.heap.get? b=some o/\∀ v,o.data≠.cell v):Inv X (pins++xi fp s.heap) σ H s :=
 I.pins_of fun p hp=>(List.mem_append.mp hp).elim (fun z=>I.pin p (List.mem_append_right _ z)) fun z=>by
   obtain ⟨hb,e⟩:=P2 z;obtain ⟨f0,f1,f2,_⟩:=hf p.1 hb;obtain ⟨o,e',d⟩:=ho p.1 hb;rw [e] at e';cases e';exact ⟨e,f0,f1,f2,d⟩
theorem Inv.unpinned {pins pl:List (Addr × Obj)} {σ:St} {H:Hp} {s:Shared} (I:Inv X (pins++pl) σ H s):Inv X pins σ H s:=I.pins_of fun p hp=>I.pin p (List.mem_append_right _ (List.mem_append_left _ hp))
theorem eS {iter:Expr} {body:List Stmt} {wi:TI} {g:TG} {tb:TS} {pos:Pos} (hp:PassesOwn (model X.prog X.w) X.A X.env X.xe) (hc:X.calm=true) (hi:PI X tg iter wi) (hg:PG X tg g) (hb:PSs X body tb)
   (hs:∀ x,foldedSetIterable iter X.env x=pure x:=by intro _;rfl):PS X (.For tg iter body [] pos) (WO wi g tb):=by
 intro pins s σ H D I h;refine wpAny_For (thn (hi pins s σ H _ I h) fun v s1 h1=>thn h1 fun itv s2 h2=>?_) hs;obtain ⟨it,fp,tn,J,H2,e,I2,T,st2,f2,W,⟨m0,w0⟩,turn⟩:=h2;subst e;have stat:∀ {H':Hp},(∀ b∈fp,H' b=none)->∀ b∈fp,m9 X pins H' b:=fun hn b hb=>⟨hn b hb,(f2 b hb).2⟩;refine codeAny_forLoop_any (fun n s'=>∃ i σ' H',Inv X pins σ' H' s'/\tn i s'.heap/\(∀ b∈fp,H' b=none)/\W i n σ' H') ?_ m0 ⟨0,σ,H2,I2,st2,fun b hb=>(f2 b hb).1,w0⟩;rintro n s3 ⟨i,σ3,H3,I3,st3,fr3,w3⟩;rcases turn i n σ3 H3 w3 with ⟨stop,qn⟩|⟨go,N,hN,step⟩
 . refine wpAny_passesOwn hp (thn (T.done X rfl rfl rfl hc i pins s3 σ3 H3 X.xe I3 (stat fr3) st3 stop) fun r s4 ⟨hr,I4⟩=>?_);subst hr;exact wpAny_execs_nil ⟨σ3,H3,I4,qn⟩
 . refine wpAny_passesOwn hp (thn (T.item X rfl rfl rfl hc i pins s3 σ3 H3 X.xe I3 (stat fr3) st3 go) fun r s4 ⟨u,hr,h4⟩=>?_);subst hr;refine wpAny_passesOwn hp (thn h4 fun _ s5 ⟨x,H5,I5,r5,y5,st5,fr5⟩=>?_);have I5':=I5.pinned (stat fr5) (T.obj _ _ st5);refine wpAny_passesOwn hp (thn (hg _ s5 σ3 H5 x u _ I5' r5 (step x H5 y5)) fun _ s6 ⟨σ6,H6,I6,q6⟩=>?_);refine wpAny_passesOwn hp (thn (hb _ s6 σ6 H6 _ I6 q6) fun f s7 q7=>?_);have again:∀ {σ7:St} {H7:Hp},Inv X (pins++xi fp s5.heap) σ7 H7 s7->N σ7 H7->∃ m,m<n/\∃ i σ' H',Inv X pins σ' H' s7/\tn i s7.heap/\(∀ b∈fp,H' b=none)/\W i m σ' H':=fun {σ7 H7} I7 n7=>by
     obtain ⟨m',hm,w7⟩:=hN σ7 H7 n7;refine ⟨m',hm,i+1,σ7,H7,I7.unpinned,T.keep _ _ _ st5 fun b hb o e=>(I7.pin (b,o) (List.mem_append_right _ (List.mem_append_right _ (mn hb e)))).1,fun b hb=>?_,w7⟩;obtain ⟨o,e,d⟩:=T.obj _ _ st5 b hb;exact (I7.pin (b,o) (List.mem_append_right _ (List.mem_append_right _ (mn hb e)))).2.1
   cases f with
   | next=>obtain ⟨σ7,H7,I7,n7⟩:=q7;exact again I7 n7
   | cont=>obtain ⟨σ7,H7,I7,n7⟩:=q7;exact again I7 n7
   | brk=>obtain ⟨σ7,H7,I7,q7⟩:=q7;exact ⟨σ7,H7,I7.unpinned,q7⟩
   | ret v=>obtain ⟨x7,σ7,H7,I7,r7,q7⟩:=q7;exact ⟨x7,σ7,H7,I7.unpinned,r7,q7⟩
end
theorem J4 {K:PySem.W.Frag} {a:Addr} {xs:List V} {g:TG} {tb:TS} {D:Ends} {σ:St} {H:Hp} (Pv:Nat->St->Hp->Prop) (h0:Pv 0 σ H) (hl:∀ i σ H,i<=xs.length->Pv i σ H->SqL K H a xs)
   (hs:∀ i x σ H,xs[i]?=some x->Pv i σ H->g x σ H fun σ2 H2=>tb { D with nx:=Pv (i+1),ct:=Pv (i+1),bk:=D.nx } σ2 H2) (hd:∀ σ H,Pv xs.length σ H->D.nx σ H) :
   ∃ W:Nat->Nat->St->Hp->Prop,(∃ m,W 0 m σ H)/\∀ i m σ H,W i m σ H ->
     ((Itl K a).stop i H/\D.nx σ H)\/((Itl K a).go i H/\∃ N:St->Hp->Prop,(∀ σ' H',N σ' H'->∃ m',m'<m/\W (i+1) m' σ' H')/\∀ x H',(Itl K a).yld i H x H'->g x σ H' fun σ2 H2=>tb { D with nx:=N,ct:=N,bk:=D.nx } σ2 H2):=by
 refine ⟨fun i m σ H=>m=xs.length - i/\i<=xs.length/\Pv i σ H,⟨xs.length,by simp,Nat.zero_le _,h0⟩,?_⟩;rintro i m σ H ⟨rfl,hi,p⟩;have q:=hl i σ H hi p;by_cases hlt:i<xs.length
 . refine .inr ⟨⟨xs,xs[i],q,by simp [hlt]⟩,Pv (i+1),fun σ' H' p'=>⟨xs.length - (i+1),by omega,rfl,hlt,p'⟩,fun x H' y=>?_⟩;obtain ⟨e,y⟩:=y;subst e;exact hs i x σ _ (y xs q) p
 . have e:i=xs.length:=by omega
   subst e;exact .inl ⟨⟨xs,q,Nat.le_refl _⟩,hd σ H p⟩
theorem BC {K:PySem.W.Frag} {a:Addr} {xs:List V} {g:TG} {tb:TS} {D:Ends} {σ:St} {H:Hp} (Pv:Nat->St->Hp->Prop) (h0:Pv 0 σ H) (hl:∀ i σ H,i<=xs.length->Pv i σ H->SqT K H a xs)
   (hs:∀ i x σ H,xs[i]?=some x->Pv i σ H->g x σ H fun σ2 H2=>tb { D with nx:=Pv (i+1),ct:=Pv (i+1),bk:=D.nx } σ2 H2) (hd:∀ σ H,Pv xs.length σ H->D.nx σ H) :
   ∃ W:Nat->Nat->St->Hp->Prop,(∃ m,W 0 m σ H)/\∀ i m σ H,W i m σ H ->
     ((Itt K a).stop i H/\D.nx σ H)\/((Itt K a).go i H/\∃ N:St->Hp->Prop,(∀ σ' H',N σ' H'->∃ m',m'<m/\W (i+1) m' σ' H')/\∀ x H',(Itt K a).yld i H x H'->g x σ H' fun σ2 H2=>tb { D with nx:=N,ct:=N,bk:=D.nx } σ2 H2):=by
 refine ⟨fun i m σ H=>m=xs.length - i/\i<=xs.length/\Pv i σ H,⟨xs.length,by simp,Nat.zero_le _,h0⟩,?_⟩;rintro i m σ H ⟨rfl,hi,p⟩;have q:=hl i σ H hi p;by_cases hlt:i<xs.length
 . refine .inr ⟨⟨xs,xs[i],q,by simp [hlt]⟩,Pv (i+1),fun σ' H' p'=>⟨xs.length - (i+1),by omega,rfl,hlt,p'⟩,fun x H' y=>?_⟩;obtain ⟨e,y⟩:=y;subst e;exact hs i x σ _ (y xs q) p
 . have e:i=xs.length:=by omega
   subst e;exact .inl ⟨⟨xs,q,Nat.le_refl _⟩,hd σ H p⟩
theorem Pt {lo:Int} {n:Nat} {g:TG} {tb:TS} {D:Ends} {σ:St} {H:Hp} (Pv:Nat->St->Hp->Prop) (h0:Pv 0 σ H)
   (hs:∀ i σ H,i<n->Pv i σ H->g (.int (lo+i)) σ H fun σ2 H2=>tb { D with nx:=Pv (i+1),ct:=Pv (i+1),bk:=D.nx } σ2 H2) (hd:∀ σ H,Pv n σ H->D.nx σ H) :
   ∃ W:Nat->Nat->St->Hp->Prop,(∃ m,W 0 m σ H)/\∀ i m σ H,W i m σ H ->
     ((Itr lo n).stop i H/\D.nx σ H)\/((Itr lo n).go i H/\∃ N:St->Hp->Prop,(∀ σ' H',N σ' H'->∃ m',m'<m/\W (i+1) m' σ' H')/\∀ x H',(Itr lo n).yld i H x H'->g x σ H' fun σ2 H2=>tb { D with nx:=N,ct:=N,bk:=D.nx } σ2 H2):=by
 refine ⟨fun i m σ H=>m=n - i/\i<=n/\Pv i σ H,⟨n,by simp,Nat.zero_le _,h0⟩,?_⟩;rintro i m σ H ⟨rfl,hi,p⟩;by_cases hlt:i<n
 . refine .inr ⟨hlt,Pv (i+1),fun σ' H' p'=>⟨n - (i+1),by omega,rfl,hlt,p'⟩,fun x H' y=>?_⟩;obtain ⟨e,y⟩:=y;subst e y;exact hs i σ _ hlt p
 . have e:i=n:=by omega
   subst e;exact .inl ⟨Nat.le_refl _,hd σ H p⟩
end L2
namespace L2
open PySem PySem.Spec PyProof.Rows
abbrev R2:=V->V->Hp->VK->Prop
def OpR (X:Cx) (f:Value->Value->Sem Value) (r:R2):Prop :=
 ∀ (pins:List (Addr × Obj)) (s:Shared) (σ:St) (H:Hp) (x y:V) (v u:Value) (Q:VK),Inv X pins σ H s->RelV x v->RelV y u->r x y H Q ->
   wpAny (model X.prog X.w) X.A (f v u) (EP X pins σ Q) X.xe s
def UnR (X:Cx) (f:Value->Sem Value) (r:V->Hp->VK->Prop):Prop :=
 ∀ (pins:List (Addr × Obj)) (s:Shared) (σ:St) (H:Hp) (x:V) (v:Value) (Q:VK),Inv X pins σ H s->RelV x v->r x H Q ->
   wpAny (model X.prog X.w) X.A (f v) (EP X pins σ Q) X.xe s
def kY (X:Cx) (f:Value) (r:List V->Hp->VK->Prop):Prop :=
 ∀ (pins:List (Addr × Obj)) (s:Shared) (σ:St) (H:Hp) (xs:List V) (us:List Value) (Q:VK),Inv X pins σ H s->Vals xs us->r xs H Q ->
   wpAny (model X.prog X.w) X.A (call f us) (EP X pins σ Q) X.xe s
def Xi (X:Cx) (r:V->Hp->(Bool->Hp->Prop)->Prop):Prop :=
 ∀ (pins:List (Addr × Obj)) (s:Shared) (σ:St) (H:Hp) (x:V) (v:Value) (Q:Bool->Hp->Prop),Inv X pins σ H s->RelV x v->r x H Q ->
   wpAny (model X.prog X.w) X.A (truthy v) (TP X pins σ Q) X.xe s
def tOp (r:R2) (ta tb:TE):TE:=fun σ H Q=>ta σ H fun x H1=>tb σ H1 fun y H2=>r x y H2 Q
def tUn (r:V->Hp->VK->Prop) (ta:TE):TE:=fun σ H Q=>ta σ H fun x H1=>r x H1 Q
def rI (C:Int->Int->Prop) (g:Int->Int->V):R2:=fun x y H Q=>∃ i j,x=.int i/\y=.int j/\C i j/\Q (g i j) H
def rI0 (g:Int->Int->V):R2:=fun x y H Q=>∃ i j,x=.int i/\y=.int j/\Q (g i j) H
def rU (g:Int->V):V->Hp->VK->Prop:=fun x H Q=>∃ i,x=.int i/\Q (g i) H
section
variable {X:Cx} {a b c:Expr} {ta tb tc:TE} {pos:Pos}
theorem Rx (ha:PE X a ta) (hb:PE X b tb) {pins:List (Addr × Obj)} {s:Shared} {σ:St} {H:Hp} {R:V->V->Hp->Prop} (I:Inv X pins σ H s)
   (h:ta σ H fun x H1=>tb σ H1 fun y H2=>R x y H2) {Q:Value->Shared->Prop} {f:Value->Value->Sem Value}
   (hf:∀ v u s2 x y H2,Inv X pins σ H2 s2->RelV x v->RelV y u->R x y H2->wpAny (model X.prog X.w) X.A (f v u) Q X.xe s2) :
   wpAny (model X.prog X.w) X.A (eval a X.env) (fun v s₁=>wpAny (model X.prog X.w) X.A (eval b X.env) (fun u s₂=>wpAny (model X.prog X.w) X.A (f v u) Q X.xe s₂) X.xe s₁) X.xe s:=by
 refine bS (ha pins s σ H _ I h) fun v s1 x H1 I1 r1 q1=>?_;refine bS (hb pins s1 σ H1 _ I1 q1) fun u s2 y H2 I2 r2 q2=>?_;exact hf v u s2 x y H2 I2 r1 r2 q2
theorem av {op:Operator} {r:R2} (ho:OpR X (binaryOp op) r) (ha:PE X a ta) (hb:PE X b tb):PE X (.BinOp a op b pos) (tOp r ta tb):=by
 intro pins s σ H Q I h;exact wpAny_BinOp (Rx ha hb I h fun v u s2 x y H2 I2 rx ry q=>ho pins s2 σ H2 x y v u Q I2 rx ry q)
theorem Ie {op:UnaryOp} {r:V->Hp->VK->Prop} (ho:UnR X (unaryOp op) r) (ha:PE X a ta):PE X (.UnaryOp op a pos) (tUn r ta):=by
 intro pins s σ H Q I h;exact UnaryOp_ (bS (ha pins s σ H _ I h) fun v s1 x H1 I1 r1 q1=>ho pins s1 σ H1 x v Q I1 r1 q1)
theorem opI {f:Value->Value->Sem Value} {C:Int->Int->Prop} {g:Int->Int->Int}
   (rule:∀ (i j:Int) (t u:Tok) (s:Shared) (Q:Value->Shared->Prop) (E:Value->Shared->Prop),C i j->Q (.int (g i j) s.toks) { s with toks:=s.toks+1 }->wpAny (model X.prog X.w) X.A (f (.int i t) (.int j u)) Q E s) :
   OpR X f (rI C fun i j=>.int (g i j)):=by
 intro pins s σ H x y v u Q I rx ry h;obtain ⟨i,j,rfl,rfl,hc,q⟩:=h;obtain ⟨t,rfl⟩:=rx;obtain ⟨t',rfl⟩:=ry;exact rule i j t t' s _ _ hc ⟨.int (g i j),H,I.tok _,⟨_,rfl⟩,q⟩
theorem WQ {f:Value->Value->Sem Value} {g:Int->Int->Int}
   (rule:∀ (i j:Int) (t u:Tok) (s:Shared) (Q:Value->Shared->Prop) (E:Value->Shared->Prop),Q (.int (g i j) s.toks) { s with toks:=s.toks+1 }->wpAny (model X.prog X.w) X.A (f (.int i t) (.int j u)) Q E s) :
   OpR X f (rI0 fun i j=>.int (g i j)):=by
 intro pins s σ H x y v u Q I rx ry h;obtain ⟨i,j,rfl,rfl,q⟩:=h;obtain ⟨t,rfl⟩:=rx;obtain ⟨t',rfl⟩:=ry;exact rule i j t t' s _ _ ⟨.int (g i j),H,I.tok _,⟨_,rfl⟩,q⟩
theorem SW {f:Value->Value->Sem Value} {g:Int->Int->Bool}
   (rule:∀ (i j:Int) (t u:Tok) (s:Shared) (Q:Value->Shared->Prop) (E:Value->Shared->Prop),Q (.bool (g i j)) s->wpAny (model X.prog X.w) X.A (f (.int i t) (.int j u)) Q E s) :
   OpR X f (rI0 fun i j=>.bl (g i j)):=by
 intro pins s σ H x y v u Q I rx ry h;obtain ⟨i,j,rfl,rfl,q⟩:=h;obtain ⟨t,rfl⟩:=rx;obtain ⟨t',rfl⟩:=ry;exact rule i j t t' s _ _ ⟨.bl (g i j),H,I,rfl,q⟩
def Xn (i j:Int):Prop:=0<j/\j<1073741824
def Wv (i j:Int):Prop:=0<=j/\j<=1000000/\i.natAbs<2^64
def CMul (i j:Int):Prop:=(-(2^64)<i/\i<2^64)\/(-(2^64)<j/\j<2^64)
theorem CMul.ok {i j:Int} (h:CMul i j):IntMulOk i j:=by
 rcases h with ⟨h1,h2⟩|⟨h1,h2⟩
 . exact .of_left (intBits_le_64 h1 h2)
 . exact .of_right (intBits_le_64 h1 h2)
theorem gY:OpR X (binaryOp .Add) (rI0 fun i j=>.int (i+j)):=WQ fun _ _ _ _ _ _ _ q=>add_int q
theorem Ah:OpR X (binaryOp .Sub) (rI0 fun i j=>.int (i - j)):=WQ fun _ _ _ _ _ _ _ q=>sub_int q
theorem oE:OpR X (binaryOp .Mult) (rI CMul fun i j=>.int (i*j)):=opI fun _ _ _ _ _ _ _ hc q=>mul_int q hc.ok
theorem tL:OpR X (binaryOp .FloorDiv) (rI Xn fun i j=>.int (i / j)):=opI fun i j _ _ _ _ _ hc q=>by
 have h1:(0:Int)<j:=hc.1;have h2:j<1073741824:=hc.2;exact floordiv_int (by omega) (by rw [Int.fdiv_eq_ediv_of_nonneg i (by omega)];exact q) (.inl (PyProof.noPylong_small (by omega)))
theorem d9:OpR X (binaryOp .Mod) (rI (fun _ j=>0<j) fun i j=>.int (i % j)):=opI fun i j _ _ _ _ _ hc q=>by
 have h1:(0:Int)<j:=hc;exact mod_int' (by omega) (by rw [Int.fmod_eq_emod_of_nonneg i (by omega)];exact q)
theorem UJ:OpR X (binaryOp .Mod) (rI (fun _ j=>j≠0) fun i j=>.int (i.fmod j)):=opI fun _ _ _ _ _ _ _ hc q=>mod_int' hc q
theorem tX:OpR X (binaryOp .Pow) (rI Wv fun i j=>.int (i^j.toNat)):=opI fun _ _ _ _ _ _ _ hc q=>pow_int_small hc.1 hc.2.1 hc.2.2 q
theorem unI {f:Value->Sem Value} {g:Int->Int}
   (rule:∀ (i:Int) (t:Tok) (s:Shared) (Q:Value->Shared->Prop) (E:Value->Shared->Prop),Q (.int (g i) s.toks) { s with toks:=s.toks+1 }->wpAny (model X.prog X.w) X.A (f (.int i t)) Q E s) :
   UnR X f (rU fun i=>.int (g i)):=by
 intro pins s σ H x v Q I rx h;obtain ⟨i,rfl,q⟩:=h;obtain ⟨t,rfl⟩:=rx;exact rule i t s _ _ ⟨.int (g i),H,I.tok _,⟨_,rfl⟩,q⟩
theorem D9:UnR X (unaryOp .USub) (rU fun i=>.int (-i)):=unI fun _ _ _ _ _ q=>neg_int q
end
def wa:V->V->Bool
 | .non,.non=>true|.non,.int _=>true|.int _,.non=>true|.non,.bl _=>true|.bl _,.non=>true|.non,.str _=>true|.str _,.non=>true
 | .int _,.int _=>true|.bl _,.bl _=>true|.str _,.str _=>true|.byt _,.byt _=>true
 | .int _,.str _=>true|.str _,.int _=>true|.bl _,.str _=>true|.str _,.bl _=>true
 | _,_=>false
def rEq:R2:=fun x y H Q=>wa x y=true/\Q (.bl (decide (x=y))) H
def rNe:R2:=fun x y H Q=>wa x y=true/\Q (.bl (!decide (x=y))) H
theorem ME {i j:Int}:decide (V.int i=V.int j)=(i == j):=by
 rw [Bool.eq_iff_iff];simp
theorem PQ {i j:Bool}:decide (V.bl i=V.bl j)=(i == j):=by
 rw [Bool.eq_iff_iff];simp
theorem MQ {i j:Str}:decide (V.str i=V.str j)=(i == j):=by
 rw [Bool.eq_iff_iff];simp
theorem MA {i j:Array UInt8}:decide (V.byt i=V.byt j)=(i.toList == j.toList):=by
 rw [Bool.eq_iff_iff];cases i;cases j;simp
section
variable {X:Cx} {a b c:Expr} {ta tb tc:TE} {pos:Pos}
theorem cf {pins:List (Addr × Obj)} {σ:St} {H:Hp} {s:Shared} {Q:VK} {k k':Bool} (I:Inv X pins σ H s) (q:Q (.bl k) H) (e:k=k'):EP X pins σ Q (.bool k') s:=by
 subst e;exact ⟨.bl k,H,I,rfl,q⟩
theorem dv:OpR X (compareOp .Eq) rEq:=by
 intro pins s σ H x y v u Q I rx ry h;obtain ⟨hs,q⟩:=h;cases x with
 | non =>
   cases rx;cases y with
   | non=>cases ry;exact PySem.EqNone.eq_none_none (cf I q (by simp))
   | bl j=>cases ry;exact PySem.EqNone.eq_none_bool (cf I q (by simp))
   | int j=>obtain ⟨t',rfl⟩:=ry;exact PySem.EqNone.eq_none_int (cf I q (by simp))
   | str j=>obtain ⟨t',rfl⟩:=ry;exact PySem.EqNone.eq_none_str (cf I q (by simp))
   | _=>exact absurd (show false=true from hs) Bool.false_ne_true
 | bl i =>
   cases rx;cases y with
   | non=>cases ry;exact PySem.EqNone.eq_bool_none (cf I q (by simp))
   | bl j=>cases ry;exact eq_bool (cf I q PQ)
   | str j=>obtain ⟨t',rfl⟩:=ry;exact PySem.EqMixed.eq_bool_str (cf I q (by simp))
   | _=>exact absurd (show false=true from hs) Bool.false_ne_true
 | int i =>
   obtain ⟨t,rfl⟩:=rx;cases y with
   | non=>cases ry;exact PySem.EqNone.eq_int_none (cf I q (by simp))
   | int j=>obtain ⟨t',rfl⟩:=ry;exact eq_int (cf I q ME)
   | str j=>obtain ⟨t',rfl⟩:=ry;exact PySem.EqMixed.eq_int_str (cf I q (by simp))
   | _=>exact absurd (show false=true from hs) Bool.false_ne_true
 | str i =>
   obtain ⟨t,rfl⟩:=rx;cases y with
   | non=>cases ry;exact PySem.EqNone.eq_str_none (cf I q (by simp))
   | bl j=>cases ry;exact PySem.EqMixed.eq_str_bool (cf I q (by simp))
   | int j=>obtain ⟨t',rfl⟩:=ry;exact PySem.EqMixed.eq_str_int (cf I q (by simp))
   | str j=>obtain ⟨t',rfl⟩:=ry;exact eq_str (cf I q MQ)
   | _=>exact absurd (show false=true from hs) Bool.false_ne_true
 | byt i =>
   obtain ⟨t,rfl⟩:=rx;cases y with
   | byt j=>obtain ⟨t',rfl⟩:=ry;exact PySem.W.eq_bytes (cf I q MA)
   | _=>exact absurd (show false=true from hs) Bool.false_ne_true
 | _=>cases y <;> exact absurd (show false=true from hs) Bool.false_ne_true
theorem pA:OpR X (compareOp .NotEq) rNe:=by
 intro pins s σ H x y v u Q I rx ry h;obtain ⟨hs,q⟩:=h;cases x with
 | non =>
   cases rx;cases y with
   | non=>cases ry;exact PySem.EqNone.ne_none_none (cf I q (by simp))
   | bl j=>cases ry;exact PySem.EqNone.ne_none_bool (cf I q (by simp))
   | int j=>obtain ⟨t',rfl⟩:=ry;exact PySem.EqNone.ne_none_int (cf I q (by simp))
   | str j=>obtain ⟨t',rfl⟩:=ry;exact PySem.EqNone.ne_none_str (cf I q (by simp))
   | _=>exact absurd (show false=true from hs) Bool.false_ne_true
 | bl i =>
   cases rx;cases y with
   | non=>cases ry;exact PySem.EqNone.ne_bool_none (cf I q (by simp))
   | bl j=>cases ry;exact ne_bool (cf I q (congrArg not PQ))
   | str j=>obtain ⟨t',rfl⟩:=ry;exact PySem.EqMixed.ne_bool_str (cf I q (by simp))
   | _=>exact absurd (show false=true from hs) Bool.false_ne_true
 | int i =>
   obtain ⟨t,rfl⟩:=rx;cases y with
   | non=>cases ry;exact PySem.EqNone.ne_int_none (cf I q (by simp))
   | int j=>obtain ⟨t',rfl⟩:=ry;exact ne_int (cf I q (congrArg not ME))
   | str j=>obtain ⟨t',rfl⟩:=ry;exact PySem.EqMixed.ne_int_str (cf I q (by simp))
   | _=>exact absurd (show false=true from hs) Bool.false_ne_true
 | str i =>
   obtain ⟨t,rfl⟩:=rx;cases y with
   | non=>cases ry;exact PySem.EqNone.ne_str_none (cf I q (by simp))
   | bl j=>cases ry;exact PySem.EqMixed.ne_str_bool (cf I q (by simp))
   | int j=>obtain ⟨t',rfl⟩:=ry;exact PySem.EqMixed.ne_str_int (cf I q (by simp))
   | str j=>obtain ⟨t',rfl⟩:=ry;exact ne_str (cf I q (congrArg not MQ))
   | _=>exact absurd (show false=true from hs) Bool.false_ne_true
 | byt i =>
   obtain ⟨t,rfl⟩:=rx;cases y with
   | byt j=>obtain ⟨t',rfl⟩:=ry;exact PySem.W.ne_bytes (cf I q (congrArg not MA))
   | _=>exact absurd (show false=true from hs) Bool.false_ne_true
 | _=>cases y <;> exact absurd (show false=true from hs) Bool.false_ne_true
theorem yW:OpR X (compareOp .Lt) (rI0 fun i j=>.bl (decide (i<j))):=SW fun _ _ _ _ _ _ _ q=>lt_int q
theorem El:OpR X (compareOp .LtE) (rI0 fun i j=>.bl (decide (i<=j))):=SW fun _ _ _ _ _ _ _ q=>le_int q
theorem EN:OpR X (compareOp .Gt) (rI0 fun i j=>.bl (decide (j<i))):=SW fun _ _ _ _ _ _ _ q=>gt_int q
theorem aL (b:Expr) {op:CmpOp} (h:op≠.In:=by decide) (h2:op≠.NotIn:=by decide):behindInMarks op b=false:=by
 have e1:(op == CmpOp.In)=false:=by cases op <;> first|rfl|exact absurd rfl h
 have e2:(op == CmpOp.NotIn)=false:=by cases op <;> first|rfl|exact absurd rfl h2
 cases b <;> simp [behindInMarks,e1,e2]
theorem me {op:CmpOp} {r:R2} (ho:OpR X (compareOp op) r) (ha:PE X a ta) (hb:PE X b tb) (hm:behindInMarks op b=false):PE X (.Compare a [op] [b] pos) (tOp r ta tb):=by
 intro pins s σ H Q I h;exact wpAny_Compare1 (Rx ha hb I h fun v u s2 x y H2 I2 rx ry q=>ho pins s2 σ H2 x y v u Q I2 rx ry q) hm
def Ib (t:TE):TT:=fun σ H Q=>t σ H fun x H'=>∃ k,x=.bl k/\Q k H'
theorem aM {op:CmpOp} {r:R2} (ho:OpR X (compareOp op) r) (ha:PE X a ta) (hb:PE X b tb) (hm:behindInMarks op b=false):PT X (.Compare a [op] [b] pos) (Ib (tOp r ta tb)):=by
 intro pins s σ H Q I h;refine wpAny_isTrue_Compare1 (bS (ha pins s σ H _ I h) fun v s1 x H1 I1 r1 q1=>bS (hb pins s1 σ H1 _ I1 q1) fun u s2 y H2 I2 r2 q2 =>
   bS (ho pins s2 σ H2 x y v u _ I2 r1 r2 q2) fun c s3 z H3 I3 r3 ⟨k,e,q3⟩=>?_) hm
 subst e;cases r3;exact wpAny_truthy_bool ⟨H3,I3,q3⟩
def EV (r r':R2) (ta tb tc:TE):TE:=fun σ H Q=>ta σ H fun x H1=>tb σ H1 fun y H2=>r x y H2 fun z H3=>∃ k,z=.bl k /\
 (if k=true then tc σ H3 fun w' H4=>r' y w' H4 Q else Q (.bl false) H3)
theorem Si {op op':CmpOp} {r r':R2} (ho:OpR X (compareOp op) r) (ho':OpR X (compareOp op') r') (ha:PE X a ta) (hb:PE X b tb) (hc:PE X c tc)
   (hm:lastMarks [op,op'] [b,c]=false:=by with_unfolding_all rfl):PE X (.Compare a [op,op'] [b,c] pos) (EV r r' ta tb tc):=by
 intro pins s σ H Q I h;refine Compare_chain (bS (ha pins s σ H _ I h) fun v s1 x H1 I1 r1 q1=>chain_link (bS (hb pins s1 σ H1 _ I1 q1) fun u s2 y H2 I2 r2 q2 =>
   bS (ho pins s2 σ H2 x y v u _ I2 r1 r2 q2) fun d s3 z H3 I3 r3 ⟨k,e,q3⟩=>?_)) hm
 subst e;cases r3;refine wpAny_truthy_bool ?_;cases k with
 | false=>exact ite_ff ⟨.bl false,H3,I3,rfl,q3⟩
 | true=>exact ite_tt (chain_last (thn (hc pins s3 σ H3 _ I3 q3) fun w' s4 ⟨z',H4,I4,r4,q4⟩=>ho' pins s4 σ H4 y z' u w' Q I4 r2 r4 q4))
theorem Jv {op op':CmpOp} {r r':R2} (ho:OpR X (compareOp op) r) (ho':OpR X (compareOp op') r') (ha:PE X a ta) (hb:PE X b tb) (hc:PE X c tc)
   (hm:lastMarks [op,op'] [b,c]=false:=by with_unfolding_all rfl):PT X (.Compare a [op,op'] [b,c] pos) (Ib (EV r r' ta tb tc)):=by
 intro pins s σ H Q I h;refine isTrue_chain (bS (ha pins s σ H _ I h) fun v s1 x H1 I1 r1 q1=>test_link (bS (hb pins s1 σ H1 _ I1 q1) fun u s2 y H2 I2 r2 q2 =>
   bS (ho pins s2 σ H2 x y v u _ I2 r1 r2 q2) fun d s3 z H3 I3 r3 ⟨k,e,q3⟩=>?_)) hm
 subst e;cases r3;refine wpAny_truthy_bool ?_;cases k with
 | false =>
   obtain ⟨k',e',q'⟩:=q3;cases e';exact ite_ff ⟨H3,I3,q'⟩
 | true =>
   refine ite_tt (test_last (thn (hc pins s3 σ H3 _ I3 q3) fun w' s4 ⟨z',H4,I4,r4,q4⟩=>thn (ho' pins s4 σ H4 y z' u w' _ I4 r2 r4 q4) fun d' s5 ⟨z2,H5,I5,r5,k2,e2,q5⟩=>?_));subst e2;cases r5;exact wpAny_truthy_bool ⟨H5,I5,q5⟩
def Wn (K:PySem.W.Frag) (x:V) (H:Hp) (k:Bool):Prop :=
 match x with
 | .non=>k=false
 | .bl b=>k=b
 | .int i=>k=(i != 0)
 | .str y=>y.length<=sizeLine/\k=((y.length:Int) != 0)
 | .byt y=>y.size<=sizeLine/\k=((y.size:Int) != 0)
 | .ref p=>(∃ xs,SqL K H p xs/\k=!xs.isEmpty)\/(∃ xs,SqT K H p xs/\k=!xs.isEmpty)\/∃ kvs,H p=some (.dK kvs)/\k=!kvs.isEmpty
 | _=>False
theorem OZ {κ:Type} {kvs:List (κ × V)} {vs:List (κ × Value)} (r:KV kvs vs):(!vs.isEmpty)=!kvs.isEmpty:=by
 cases r <;> rfl
theorem E1 {xs:List V} {its:List Value} (r:Vals xs its):(!its.toArray.isEmpty)=!xs.isEmpty:=by
 cases r <;> simp
theorem xW:(sizeLine:Nat)<2^63:=by rw [sizeLine_eq];decide
theorem Wr:Xi X (fun x H Q=>∃ k,Wn X.K x H k/\Q k H):=by
 intro pins s σ H x v Q I rx h;obtain ⟨k,e,q⟩:=h;have hl:=xW;have hs:sizeLine=16777216:=sizeLine_eq;cases x with
 | non =>
   cases rx;have e':k=false:=e;subst e';exact truthy_none ⟨H,I,q⟩
 | bl b =>
   cases rx;have e':k=b:=e;subst e';exact wpAny_truthy_bool ⟨H,I,q⟩
 | int i =>
   obtain ⟨t,rfl⟩:=rx;have e':k=(i != 0):=e;subst e';exact PySem.P.truthy_int ⟨H,I,q⟩
 | str y =>
   obtain ⟨t,rfl⟩:=rx;obtain ⟨hy,e'⟩:y.length<=sizeLine/\k=((y.length:Int) != 0):=e;subst e';exact PySem.P.truthy_str (by omega) ⟨H,I.tok _,q⟩
 | byt y =>
   obtain ⟨t,rfl⟩:=rx;obtain ⟨hy,e'⟩:y.size<=sizeLine/\k=((y.size:Int) != 0):=e;subst e';exact PySem.W.truthy_bytes (by omega) ⟨H,I.tok _,q⟩
 | ref p =>
   cases rx;have e':(∃ xs,SqL X.K H p xs/\k=!xs.isEmpty)\/(∃ xs,SqT X.K H p xs/\k=!xs.isEmpty)\/∃ kvs,H p=some (.dK kvs)/\k=!kvs.isEmpty:=e;rcases e' with ⟨xs,hx,e'⟩|⟨xs,hx,e'⟩|⟨kvs,hx,e'⟩
   . subst e';obtain ⟨its,r,pl,hz⟩:=I.list hx;have hlen:=r.length;exact wpAny_truthy_list pl.isList (by simp only [List.size_toArray];omega) ⟨H,I.tok _,by rw [E1 r];exact q⟩
   . subst e';obtain ⟨its,r,pl,hz⟩:=I.tuple hx;have hlen:=r.length;exact truthy_tuple pl (by simp only [List.size_toArray];omega) ⟨H,I.tok _,by rw [E1 r];exact q⟩
   . subst e';obtain ⟨hz,hS,vs,r,m⟩:kvs.length<=sizeLine/\(p == sysModules)=false/\∃ vs,KV kvs vs/\s.heap.DictOf (eZ X.prog X.w) p vs:=I.hok p _ hx;have hlen:kvs.length=vs.length:=Paired.length r;exact wpAny_truthy_dict hS m (by omega) ⟨H,I.tok _,by rw [OZ r];exact q⟩
 | _=>exact (show False from e).elim
theorem q8 (ha:PE X a ta) (he:∀ whole,isTrue a X.env whole=(do let v <- whole;standAt a.pos;holding [v] (truthy v))) :
   PT X a (fun σ H Q=>ta σ H fun x H'=>∃ k,Wn X.K x H' k/\Q k H'):=by
 intro pins s σ H Q I h;exact isTrue_plain (bS (ha pins s σ H _ I h) fun v s1 x H1 I1 r1 q1=>Wr pins s1 σ H1 x v Q I1 r1 q1) (he _)
theorem oY {x:V} {us:List Value} (r:Vals [x] us):∃ u,us=[u]/\RelV x u:=by
 cases r with
 | cons r1 r2=>cases r2;exact ⟨_,rfl,r1⟩
theorem Ub {x y:V} {us:List Value} (r:Vals [x,y] us):∃ u w',us=[u,w']/\RelV x u/\RelV y w':=by
 cases r with
 | cons r1 r2 =>
   cases r2 with
   | cons r3 r4=>cases r4;exact ⟨_,_,rfl,r1,r3⟩
theorem Ji:kY X (.builtin "abs") (fun xs H Q=>∃ i,xs=[.int i]/\Q (.int (if i<0 then -i else i)) H):=by
 intro pins s σ H xs us Q I r h;obtain ⟨i,rfl,q⟩:=h;obtain ⟨u,rfl,t,rfl⟩:=oY r;exact call_abs_int fun u tk=>⟨.int (if i<0 then -i else i),H,I.tok _,⟨_,rfl⟩,q⟩
theorem Gw:kY X (.type "int") (fun xs H Q=>(∃ i,xs=[.int i]/\Q (.int i) H)\/∃ k,xs=[.bl k]/\Q (.int (if k then 1 else 0)) H):=by
 intro pins s σ H xs us Q I r h;rcases h with ⟨i,rfl,q⟩|⟨k,rfl,q⟩
 . obtain ⟨u,rfl,t,rfl⟩:=oY r;exact call_int_int ⟨.int i,H,I,⟨_,rfl⟩,q⟩
 . obtain ⟨u,rfl,r1⟩:=oY r;cases r1;exact call_int_bool ⟨.int (if k then 1 else 0),H,I.tok _,⟨_,rfl⟩,q⟩
end
end L2
namespace L2
open PySem PySem.Spec PyProof.Rows
structure ObjM (h:Heap) (x dx C:Addr) (mA:Str->Option Value):Prop where
 obj:h.get? x=some (PySem.W.instObj C dx)
 ns:h.Ns1 dx mA
 ne:dx≠x
theorem P3 {h:Heap} {dx:Addr} {mA:Str->Option Value} (n:h.Ns1 dx mA):∃ od,h.get? dx=some od/\∀ name,PySem.W.lookIn name od=some (mA name):=by
 obtain ⟨o,es,ep,ho,hd,hk,_,hm⟩:=n;refine ⟨o,ho,fun name=>?_⟩;have e:=hm name;unfold nsFind findBy at e;rw [<- Array.find?_toList] at e;unfold PySem.W.lookIn;rw [hd];dsimp only;split
 . rename_i y q
   rw [q] at e;exact congrArg some e
 . rename_i q
   rw [q] at e;have a:es.toList.any (·.refKey)=false:=by
     rw [List.any_eq_false];intro y hy;obtain ⟨z,t,hkey⟩:=hk y (Array.mem_toList_iff.mp hy);simp [DictEntry.refKey,hkey]
   have a':¬ es.toList.any (·.refKey)=true:=by rw [a];exact Bool.false_ne_true
   rw [if_neg a'];exact congrArg some e
theorem ObjM.look {h:Heap} {x dx C:Addr} {mA:Str->Option Value} (I:ObjM h x dx C mA):∃ od,PySem.W.InstAt h x (PySem.W.instObj C dx) C (some od)/\∀ name,PySem.W.lookIn name od=some (mA name) :=
 let ⟨od,ho,hl⟩:=P3 I.ns
 ⟨od,⟨I.obj,rfl,rfl,ho⟩,hl⟩
section
variable {prog:Program} {w:World} {A:Around} {E:Value->Shared->Prop} {s:Shared} {K:PySem.W.Frag} {x dx C f:Addr} {mA:Str->Option Value} {name:Str} {v:Value}
theorem U5 {expr:Bool} {Q:Value->Shared->Prop} (X:K.In s.heap) (I:ObjM s.heap x dx C mA) (hg:PySem.W.plainGet K C name=true) (hh:PySem.W.hasDictIn K C=true)
   (ha:PySem.W.findIn K (.ref C) name=some none) (hv:mA name=some v) (hv':PySem.W.handedIn v=true) (h:Q v { s with toks:=s.toks+1 }) :
   wpAny (model prog w) A (getAttr (.ref x) name expr) Q E s:=by
 obtain ⟨od,J,hl⟩:=I.look;exact PySem.W.get_value X J (PySem.W.plainGet_of hg).1 (PySem.W.findObj_own hh ha rfl (by rw [hl,hv])) hv' h
theorem Vp {ns:List Str} {Q:Unit->Shared->Prop} (X:K.In s.heap) (I:ObjM s.heap x dx C mA)
   (hs:PySem.W.findIn K (.ref C) "__setattr__"=some (some (.builtin "object.__setattr__"))) (hp:PySem.W.plainOver K C=true) (ht:PySem.W.takerIn K C name=some none) (hh:PySem.W.hasDictIn K C=true)
   (hw:PySem.Within mA ns) (hsz:ns.length<=sizeLine)
   (h:∀ h',ObjM h' x dx C (fun y=>if y=name then some v else mA y)->Heap.SameBut dx s.heap h'->Q () { s with heap:=h',toks:=s.toks+2 }) :
   wpAny (model prog w) A (setAttr (.ref x) name v) Q E s:=by
 obtain ⟨od,J,hl⟩:=I.look;refine PySem.W.set_plain X J hs (PySem.W.osa_open (s:={ s with toks:=s.toks+1 }) (r:=none) X J hp ht fun b=>?_);obtain ⟨cd,hc,hd'⟩:=PySem.W.any_some hh;have hx:s.heap.get? x=some ⟨.ref C,some dx,.plain,#[]⟩:=I.obj;refine wpAny_bind (wpAny_pure (wpAny_bind (wpAny_bind (wpAny_loadPart hx (wpAny_bind (PySem.W.Looks.here (s:={ s with toks:=s.toks+1 }) (PySem.W.looks_clsIn X hc) ?_))))));rw [hd'];refine wpAny_pure (a:=some dx) (wpAny_bind (wpAny_pure (wpAny_bind ?_)));refine wpAny_nsSet1 (s:={ s with toks:=s.toks+1 }) I.ns fun h' hn2 hs2=>?_;obtain ⟨oD,esD,epD,hoD,hdD,hcD⟩:=hn2.count (PySem.Within.cons name v hw);refine wpAny_bind (wpAny_lookBehind hoD (by rw [hdD];exact pastItsLine_dict (Nat.le_trans hcD (by rw [List.length_cons];omega))) ?_);exact wpAny_pure (h _ ⟨(hs2.2 _ (Ne.symm I.ne)).trans I.obj,hn2,I.ne⟩ hs2)
theorem Tm {R:Result->Shared->Prop} {vs:List Value} {kw:List (Str × Value)} (X:K.In s.heap) (hm:PySem.W.makesIn K C=true)
   (hi:PySem.W.findIn K (.ref C) "__init__"=some (some (.ref f))) (hf:PySem.W.typeIn K (.ref f)=some (.type "function"))
   (h:codeAny (model prog w) (A.under (.builtin "type.__call__" ⟨.ref C::vs,kw⟩)) (.call (.ref f) ⟨.ref (s.heap.objs.size+1)::vs,kw⟩) (PySem.W.InitBack (s.heap.objs.size+1) R)
     { s with heap:=(s.heap.push PySem.W.emptyDict).push (PySem.W.instObj C s.heap.objs.size) }) :
   codeAny (model prog w) A (.call (.ref C) ⟨vs,kw⟩) R s:=by
 obtain ⟨hh,g,d,t,os⟩:=s;exact PySem.W.make_core (PySem.W.makes_of X hm) (PySem.W.looks_findIn X hi) (fun self=>PySem.W.bind_fn X self hf) (.inl rfl) h
end
def kP (f:Str) (v:V):List (Str × V)->List (Str × V)
 | []=>[(f,v)]
 | (g,x)::r=>if g=f then (g,v)::r else (g,x)::kP f v r
theorem mM (f g:Str) (v:V):∀ fs:List (Str × V),(kP f v fs).lookup g=if g=f then some v else fs.lookup g
 | []=>by
   show List.lookup g [(f,v)]=_;by_cases h:g=f
   . have hb:(g == f)=true:=beq_iff_eq.mpr h;simp only [List.lookup,hb,if_pos h]
   . have hb:(g == f)=false:=beq_eq_false_iff_ne.mpr h;simp only [List.lookup,hb,if_neg h]
 | (k,x)::r=>by
   have ih:=mM f g v r;rw [show kP f v ((k,x)::r)=(if k=f then (k,v)::r else (k,x)::kP f v r) from rfl];by_cases hk:k=f
   . rw [if_pos hk];by_cases h:g=k
     . have hb:(g == k)=true:=beq_iff_eq.mpr h;simp only [List.lookup,hb,if_pos (h.trans hk)]
     . have hb:(g == k)=false:=beq_eq_false_iff_ne.mpr h;simp only [List.lookup,hb,if_neg (fun e:g=f=>h (e.trans hk.symm))]
   . rw [if_neg hk];by_cases h:g=k
     . have hb:(g == k)=true:=beq_iff_eq.mpr h;simp only [List.lookup,hb,if_neg (fun e:g=f=>hk (h.symm.trans e))]
     . have hb:(g == k)=false:=beq_eq_false_iff_ne.mpr h;simp only [List.lookup,hb];exact ih
theorem AV (f:Str) (v:V):∀ fs:List (Str × V),f∈(kP f v fs).map (·.1)/\∀ g,g∈fs.map (·.1)->g∈(kP f v fs).map (·.1)
 | []=>⟨by simp [kP],fun g h=>by simp at h⟩
 | (k,x)::r=>by
   obtain ⟨i1,i2⟩:=AV f v r;rw [show kP f v ((k,x)::r)=(if k=f then (k,v)::r else (k,x)::kP f v r) from rfl];by_cases hk:k=f
   . rw [if_pos hk];subst hk;exact ⟨by simp,fun g h=>by simpa using h⟩
   . rw [if_neg hk];refine ⟨?_,fun g h=>?_⟩
     . rw [List.map_cons];exact List.mem_cons_of_mem _ i1
     . rw [List.map_cons] at h ⊢;rcases List.mem_cons.mp h with e|e
       . exact List.mem_cons.mpr (.inl e)
       . exact List.mem_cons_of_mem _ (i2 g e)
theorem Ci (f:Str) (v:V):∀ fs:List (Str × V),(kP f v fs).length<=fs.length+1
 | []=>by simp [kP]
 | (k,x)::r=>by
   have ih:=Ci f v r;rw [show kP f v ((k,x)::r)=(if k=f then (k,v)::r else (k,x)::kP f v r) from rfl];by_cases hk:k=f
   . rw [if_pos hk,List.length_cons,List.length_cons];omega
   . rw [if_neg hk,List.length_cons,List.length_cons];omega
theorem RelO.some_of {v:V} {o:Option Value} (r:RelO (some v) o):∃ u,o=some u/\RelV v u:=by
 cases o with
 | none=>exact (show False from r).elim
 | some u=>exact ⟨u,rfl,r⟩
theorem Qx {v:V} {u:Value} (r:RelV v u):PySem.W.handedIn u=true:=by
 cases v with
 | non=>cases (show u=Value.none from r);rfl
 | bl b=>cases (show u=Value.bool b from r);rfl
 | int i=>obtain ⟨t,e⟩:=(show ∃ t,u=Value.int i t from r);cases e;rfl
 | str x=>obtain ⟨t,e⟩:=(show ∃ t,u=Value.str x t from r);cases e;rfl
 | byt b=>obtain ⟨t,e⟩:=(show ∃ t,u=Value.bytes b t from r);cases e;rfl
 | flt b=>obtain ⟨t,e⟩:=(show ∃ t,u=Value.float b t from r);cases e;rfl
 | ref a=>cases (show u=Value.ref a from r);rfl
 | ty n=>cases (show u=Value.type n from r);rfl
section
variable {P:Program} {w:World} {H H':Hp} {h h':Heap} {a C dx:Addr} {fs fs':List (Str × V)}
theorem FK (hok:HOk P w H h) (e:H a=some (.ins C dx fs)):∃ mA,ObjM h a dx C mA/\(∀ f,RelO (fs.lookup f) (mA f))/\PySem.Within mA (fs.map (·.1))/\fs.length<=1000/\H dx=some (.own a):=by
 obtain ⟨d,z,ne,ob,mA,n,r,q⟩:=(show ObjOk P w H h a (.ins C dx fs) from hok a _ e);exact ⟨mA,⟨ob,n,ne⟩,r,q,z,d⟩
end
structure Cls (K:PySem.W.Frag) (C:Addr):Prop where
 pg:PySem.W.plainGet K C Str.empty=true
 hd:PySem.W.hasDictIn K C=true
 po:PySem.W.plainOver K C=true
 sa:PySem.W.findIn K (.ref C) "__setattr__"=some (some (.builtin "object.__setattr__"))
theorem Cls.get {K:PySem.W.Frag} {C:Addr} (c:Cls K C) (f:Str):PySem.W.plainGet K C f=true:=c.pg
def NoAttr (K:PySem.W.Frag) (C:Addr) (f:Str):Prop:=PySem.W.findIn K (.ref C) f=some none
theorem NoAttr.taker {K:PySem.W.Frag} {C:Addr} {f:Str} (n:NoAttr K C f):PySem.W.takerIn K C f=some none:=by
 unfold PySem.W.takerIn;rw [show PySem.W.findIn K (.ref C) f=some none from n]
 rfl
section
variable {X:Cx} {pins:List (Addr × Obj)} {σ:St} {H:Hp} {s:Shared} {a C dx:Addr} {fs:List (Str × V)} {f:Str} {v:V} {A:Around} {E:Value->Shared->Prop}
theorem NY {b:Bool} {Q:Value->Shared->Prop} (I:Inv X pins σ H s) (e:H a=some (.ins C dx fs)) (c:Cls X.K C) (n:NoAttr X.K C f) (l:fs.lookup f=some v)
   (h:∀ u s',Inv X pins σ H s'->RelV v u->Q u s'):wpAny (model X.prog X.w) A (getAttr (.ref a) f b) Q E s:=by
 obtain ⟨mA,O,r,_,_,_⟩:=FK I.hok e;obtain ⟨u,hu,ru⟩:=RelO.some_of (v:=v) (o:=mA f) (by rw [<- l];exact r f);exact U5 I.kIn O (c.get f) c.hd n hu (Qx ru) (h u _ (I.tok _) ru)
theorem NS {y:V} {u:Value} {Q:Unit->Shared->Prop} (I:Inv X pins σ H s) (e:H a=some (.ins C dx fs)) (c:Cls X.K C) (n:NoAttr X.K C f) (hl:fs.length<1000) (ry:RelV y u)
   (h:∀ s',Inv X pins σ (upd H a (.ins C dx (kP f y fs))) s'->Q () s'):wpAny (model X.prog X.w) A (setAttr (.ref a) f u) Q E s:=by
 obtain ⟨mA,O,r,wi,_,ho⟩:=FK I.hok e;have hz:(fs.map (·.1)).length<=sizeLine:=by rw [List.length_map,sizeLine_eq];omega
 refine Vp I.kIn O c.sa c.po n.taker c.hd wi hz fun h' O' sb=>h _ ?_;have hd:∃ o,h'.get? dx=some o:=let ⟨o,_,_,e',_⟩:=O'.ns;⟨o,e'⟩;refine I.write (x:=a) (e:=dx) (by rw [e];exact True.intro) (.inr ho) (fun b q hb z=>(sb.2 b hb).trans z) hd ?_;refine ⟨by rw [ao O.ne];exact ho,?_,O.ne,O'.obj,_,O'.ns,fun g=>?_,fun g hg=>?_⟩
 . have:=Ci f y fs;omega
 . show RelO ((kP f y fs).lookup g) (if g=f then some u else mA g);rw [mM];by_cases q:g=f
   . rw [if_pos q,if_pos q];exact ry
   . rw [if_neg q,if_neg q];exact r g
 . by_cases q:g=f
   . rw [q];exact (AV f y fs).1
   . refine (AV f y fs).2 g (wi g fun z=>hg ?_);show (if g=f then some u else mA g)=none;rw [if_neg q];exact z
theorem Inv.made (I:Inv X pins σ H s):Inv X pins σ (upd (upd H s.heap.objs.size (.own (s.heap.objs.size+1))) (s.heap.objs.size+1) (.ins C s.heap.objs.size []))
   { s with heap:=(s.heap.push PySem.W.emptyDict).push (PySem.W.instObj C s.heap.objs.size) }:=by
 have e1:(s.heap.push PySem.W.emptyDict).get? s.heap.objs.size=some PySem.W.emptyDict:=Heap.get?_push_size s.heap rfl;have e2:((s.heap.push PySem.W.emptyDict).push (PySem.W.instObj C s.heap.objs.size)).get? (s.heap.objs.size+1)=some (PySem.W.instObj C s.heap.objs.size):=by
   have:=Heap.get?_push_size (s.heap.push PySem.W.emptyDict) (o:=PySem.W.instObj C s.heap.objs.size) rfl
   rwa [Heap.size_push] at this
 have e3:(s.heap.push PySem.W.emptyDict).Ns s.heap.objs.size (fun _=>none):=⟨PySem.W.emptyDict,#[],_,e1,rfl,(fun e he=>absurd he (by simp)),fun _=>rfl⟩;have I1:=I.laid (a:=s.heap.objs.size) (o:=.own (s.heap.objs.size+1)) (h':=s.heap.push PySem.W.emptyDict) (t':=s.toks) (fun b u q=>Heap.get?_push_of_some _ q) (Nat.le_refl _) ⟨_,e1⟩;refine I1.laid (a:=s.heap.objs.size+1) (o:=.ins C s.heap.objs.size []) (t':=s.toks) (fun b u q=>Heap.get?_push_of_some _ q) (Nat.le_of_eq (Heap.size_push _ _)) ?_;have ne:s.heap.objs.size≠s.heap.objs.size+1:=Nat.ne_of_lt (Nat.lt_succ_self _);refine ⟨by rw [ao ne,ah],Nat.zero_le _,ne,e2,fun _=>none,(Heap.Ns1.of_empty e3).at fun o q=>Heap.get?_push_of_some _ q,fun _=>True.intro,fun y hy=>absurd rfl hy⟩
theorem UT {prog:Program} {w:World} {env:Env} {e:Expr} {f:Str} {pos:Pos} {s:Shared} {Q:Value->Shared->Prop} (hb:attributeBase e f env (eval e env)=eval e env)
   (h:wpAny (model prog w) A (eval e env) (fun o s₁=>wpAny (model prog w) A (getAttr o f true) Q E s₁) E s):wpAny (model prog w) A (eval (.Attribute e f pos) env) Q E s :=
 Attribute_any_ h (by rw [arm_eval_Attribute,hb])
end
def Rh (K:PySem.W.Frag) (ta:TE) (f:Str):TE:=fun σ H Q=>ta σ H fun x H1=>∃ a C dx fs v,x=.ref a/\H1 a=some (.ins C dx fs)/\Cls K C/\NoAttr K C f/\fs.lookup f=some v/\Q v H1
def RY (K:PySem.W.Frag) (ta tv:TE) (f:Str):TS:=fun D σ H=>tv σ H fun y H1=>ta σ H1 fun x H2=>∃ a C dx fs,x=.ref a/\H2 a=some (.ins C dx fs)/\Cls K C/\NoAttr K C f/\fs.length<1000 /\
 D.nx σ (upd H2 a (.ins C dx (kP f y fs)))
section
variable {X:Cx} {o e value:Expr} {f:Str} {pos pos' tpos:Pos} {ta tv:TE}
theorem ki (he:PE X e ta) (hb:attributeBase e f X.env (eval e X.env)=eval e X.env):PE X (.Attribute e f pos) (Rh X.K ta f):=by
 intro pins s σ H Q I h;refine UT hb (bS (he pins s σ H _ I h) fun u s1 x H1 I1 rx ⟨a,C,dx,fs,v,ex,ea,c,n,l,q⟩=>?_);subst ex;obtain rfl:u=Value.ref a:=rx;exact NY I1 ea c n l fun u' s2 I2 ru=>⟨v,H1,I2,ru,q⟩
theorem Pj (ha:PE X o ta) (hv:PE X value tv) (hs:swapsWith value (some (.Attribute o f pos')) pos.line X.env=pure false):PS X (.Assign [.Attribute o f pos'] value pos) (RY X.K ta tv f):=by
 intro pins s σ H D I h;refine plainObj_wpAny_Assign_Attribute (bS (hv pins s σ H _ I h) fun u s1 y H1 I1 ry q=>bS (ha pins s1 σ H1 _ I1 q) fun ov s2 x H2 I2 rx ⟨a,C,dx,fs,ex,ea,c,n,l,q2⟩=>?_) hs;subst ex;obtain rfl:ov=Value.ref a:=rx;exact NS I2 ea c n l ry fun s3 I3=>⟨σ,_,I3,q2⟩
end
section
variable {X:Cx} {pins:List (Addr × Obj)} {σ:St} {H:Hp} {s:Shared} {A:Around} {E:Value->Shared->Prop} {Q:Value->Shared->Prop} {c:Value} {b:Bool}
inductive TyOf (K:PySem.W.Frag) (H:Hp):V->Value->Prop where
 | non:TyOf K H .non (.type "NoneType")
 | bl (x:Bool):TyOf K H (.bl x) (.type "bool")
 | int (i:Int):TyOf K H (.int i) (.type "int")
 | str (x:Str):TyOf K H (.str x) (.type "str")
 | flt (x:UInt64):TyOf K H (.flt x) (.type "float")
 | lst {a:Addr} {xs:List V} (e:H a=some (.lst xs)):TyOf K H (.ref a) (.type "list")
 | frz {a:Addr} {o:Obj} {xs:List V} (e:H a=some (.frz o (.lst xs))):TyOf K H (.ref a) (.type "list")
 | tup {a:Addr} {xs:List V} (e:H a=some (.tup xs)):TyOf K H (.ref a) (.type "tuple")
 | dK {a:Addr} {kvs:List (Key × V)} (e:H a=some (.dK kvs)):TyOf K H (.ref a) (.type "dict")
 | dT {a:Addr} {kvs:List (List Key × V)} (e:H a=some (.dT kvs)):TyOf K H (.ref a) (.type "dict")
 | ins {a C dx:Addr} {fs:List (Str × V)} (e:H a=some (.ins C dx fs)) (cl:Cls K C) (ha:PySem.W.findIn K (.ref C) "__class__"=some (some (.builtin "object.__class__")))
     (hn:PySem.W.specialIn K (.builtin "object.__class__") "__get__"=some (some (.builtin "getset_descriptor.__get__"))) (htk:PySem.W.takesIn K (.builtin "object.__class__")=some true)
     (hm:PySem.W.mroIn K C (.type "object")=some true):TyOf K H (.ref a) (.ref C)
theorem PM {x:V} {u t:Value} (I:Inv X pins σ H s) (rx:RelV x u) (ty:TyOf X.K H x t) (e:PySem.W.kitOne X.K t c=some b) (h:∀ tk,Q (.bool b) { s with toks:=tk }) :
   wpAny (model X.prog X.w) A (call (.builtin "isinstance") [u,c]) Q E s:=by
 cases ty with
 | non=>cases (show u=Value.none from rx);exact PySem.W.kia_one PySem.W.kitx_none I.kIn True.intro e (fun z=>nomatch z) h
 | bl y=>cases (show u=Value.bool y from rx);exact PySem.W.kia_one PySem.W.kitx_bool I.kIn True.intro e (fun z=>nomatch z) h
 | int i=>obtain ⟨t,q⟩:=(show ∃ t,u=Value.int i t from rx);cases q;exact PySem.W.kia_one PySem.W.kitx_int I.kIn True.intro e (fun z=>nomatch z) h
 | str y=>obtain ⟨t,q⟩:=(show ∃ t,u=Value.str y t from rx);cases q;exact PySem.W.kia_one PySem.W.kitx_str I.kIn True.intro e (fun z=>nomatch z) h
 | flt y=>obtain ⟨t,q⟩:=(show ∃ t,u=Value.float y t from rx);cases q;exact PySem.W.kia_one PySem.W.kitx_float I.kIn True.intro e (fun z=>nomatch z) h
 | @lst a xs ea =>
   cases (show u=Value.ref a from rx);obtain ⟨_,_,n,_,h1⟩:=(show ObjOk X.prog X.w H s.heap a (.lst xs) from I.hok a _ ea);exact PySem.W.kia_one PySem.W.kitx_list I.kIn ⟨_,h1,rfl⟩ e (fun z=>nomatch z) h
 | @frz a ob xs ea =>
   cases (show u=Value.ref a from rx);obtain ⟨_,_,_,n,_,h1⟩:=(show ObjOk X.prog X.w H s.heap a (.frz ob (.lst xs)) from I.hok a _ ea);exact PySem.W.kia_one PySem.W.kitx_list I.kIn ⟨_,h1,rfl⟩ e (fun z=>nomatch z) h
 | @tup a xs ea =>
   cases (show u=Value.ref a from rx);obtain ⟨_,_,_,p⟩:=(show ObjOk X.prog X.w H s.heap a (.tup xs) from I.hok a _ ea);obtain ⟨o,h1,h2,_⟩:=p;exact PySem.W.kia_one PySem.W.kitx_tuple I.kIn ⟨o,h1,h2⟩ e (fun z=>nomatch z) h
 | @dK a kvs ea =>
   cases (show u=Value.ref a from rx);obtain ⟨_,_,vs,_,p⟩:=(show ObjOk X.prog X.w H s.heap a (.dK kvs) from I.hok a _ ea);obtain ⟨o,es,ep,h1,h2,_⟩:=p;exact PySem.W.kia_one PySem.W.kitx_dict I.kIn ⟨o,h1,h2.1⟩ e (fun z=>nomatch z) h
 | @dT a kvs ea =>
   cases (show u=Value.ref a from rx);obtain ⟨_,_,xs,_,o,es,ep,h1,h2,_⟩:=(show ObjOk X.prog X.w H s.heap a (.dT kvs) from I.hok a _ ea);exact PySem.W.kia_one PySem.W.kitx_dict I.kIn ⟨o,h1,h2.1⟩ e (fun z=>nomatch z) h
 | @ins a C dx fs ea cl ha hn htk hm =>
   cases (show u=Value.ref a from rx);obtain ⟨mA,O,_⟩:=FK I.hok ea;obtain ⟨od,J,_⟩:=O.look;exact PySem.W.kia_one (PySem.W.kitx_own (cl.get _) cl.hd ha hn htk hm) I.kIn J e (fun z=>nomatch z) h
end
end L2
namespace L2
open PySem PySem.Spec PyProof.Rows
structure Room (k:Nat) (A:Around):Prop where
 hd:A.handled=none
 dp:A.depth+3*k+5<recursionLimit
 un:A.units+16*k+200<cLine
theorem Room.mono {j k:Nat} {A:Around} (r:Room k A) (h:j<=k):Room j A:=⟨r.hd,by have:=r.dp;omega,by have:=r.un;omega⟩
theorem Room.deeper {k:Nat} {A:Around} (r:Room (k+1) A) (env:Env):Room k (A.deeper env) :=
 ⟨r.hd,by have:=r.dp;show A.depth+1+3*k+5<_;omega,by have:=r.un;show A.units+3+16*k+200<_;omega⟩
theorem Nr {A:Around} {C:Addr} {us:List Value} {kw:List (Str × Value)}:(A.under (.builtin "type.__call__" ⟨.ref C::us,kw⟩)).depth=A.depth+1:=by
 first|rfl|simp [Around.under,Code.weight,Code.isCreation,Code.isGuard,Code.isCaller,Code.frames,Code.isFrame,guardIds]
theorem MV {A:Around} {C:Addr} {us:List Value} {kw:List (Str × Value)}:(A.under (.builtin "type.__call__" ⟨.ref C::us,kw⟩)).units=A.units+1:=by
 first|rfl|simp [Around.under,Code.cUnits,Code.frames,Code.isFrame]
theorem Room.make {k:Nat} {A:Around} (r:Room (k+1) A) (C:Addr) (us:List Value) (kw:List (Str × Value)):Room k (A.under (.builtin "type.__call__" ⟨.ref C::us,kw⟩)) :=
 ⟨r.hd,by have:=r.dp;rw [Nr];omega,by have:=r.un;rw [MV];omega⟩
theorem Room.depth {k:Nat} {A:Around} (r:Room k A):A.depth<recursionLimit:=by have:=r.dp;omega
theorem Room.units {k:Nat} {A:Around} (r:Room k A):A.units+64<cLine:=by have:=r.un;omega
def tNil:TA:=fun _ H Q=>Q [] H
def Nh (ta:TE) (tr:TA):TA:=fun σ H Q=>ta σ H fun x H1=>tr σ H1 fun xs H2=>Q (x::xs) H2
section
variable {X:Cx} {e:Expr} {es:List Expr} {te:TE} {t:TA} {pos:Pos}
theorem aj:PA X [] tNil:=fun _ _ _ _ H Q I h=>Calls.spliced_nil ⟨[],H,I,.nil,h⟩
theorem ag (ha:PE X e te) (hr:PA X es t) (hs:starEach (e::es) X.env=(false,eval e X.env)::starEach es X.env:=by rfl):PA X (e::es) (Nh te t):=by
 intro pos pins s σ H Q I h;rw [hs];show wpAny _ _ (spliced ((false,eval e X.env)::backTo pos (starEach es X.env))) _ _ s;refine Calls.spliced_cons (bS (ha pins s σ H _ I h) fun u s1 x H1 I1 r1 q1=>?_);exact yw (hr pos pins s1 σ H1 _ I1 q1) fun us s2 xs H2 I2 r2 q2=>⟨x::xs,H2,I2,.cons r1 r2,q2⟩
def SX (t:TA):TE:=fun σ H Q=>t σ H fun xs H1=>xs.length<=sizeLine/\∀ p,H1 p=none->Q (.ref p) (upd H1 p (.tup xs))
def RB (t:TA):TE:=fun σ H Q=>t σ H fun xs H1=>xs.length<=sizeLine/\∀ p,H1 p=none->Q (.ref p) (upd H1 p (.lst xs))
theorem bW {x1} (h:PA X es t):PE X (.Tuple es x1 pos) (SX t):=by
 intro pins s σ H Q I hq;refine wpAny_Tuple_spliced (yw (h pos pins s σ H _ I hq) fun us s1 xs H1 I1 r ⟨z,q⟩=>⟨by rw [<- r.length];exact z,?_⟩);have hf:H1 s1.heap.objs.size=none:=I1.hok.fresh (Nat.le_refl _);refine ⟨.ref s1.heap.objs.size,upd H1 s1.heap.objs.size (.tup xs),I1.laid (t':=s1.toks) (fun b u e=>Heap.get?_push_of_some _ e) (Nat.le_refl _) ?_,rfl,q _ hf⟩;exact ⟨z,us,r,⟨_,Heap.get?_push_size _ rfl,rfl,_,rfl⟩⟩
theorem bj (h:PA X es t):PE X (.List es pos) (RB t):=by
 intro pins s σ H Q I hq;refine wpAny_List_spliced (yw (h pos pins s σ H _ I hq) fun us s1 xs H1 I1 r ⟨z,q⟩=>⟨by rw [<- r.length];exact z,?_⟩);have hf:H1 s1.heap.objs.size=none:=I1.hok.fresh (Nat.le_refl _);refine ⟨.ref s1.heap.objs.size,upd H1 s1.heap.objs.size (.lst xs),I1.laid (t':=s1.toks) (fun b u e=>Heap.get?_push_of_some _ e) (Nat.le_refl _) ?_,rfl,q _ hf⟩;exact ⟨z,us,0,r,Heap.get?_push_size _ rfl⟩
end
abbrev Sp:=List V->Hp->VK->XK->Prop
abbrev CXT:=List Env->Hp->Shared->XK->Value->Shared->Prop
structure Env0 (P:Program) (w:World) (K:PySem.W.Frag) (mg:Str->Option Value) (base:Heap) (A:Around) (outer:List Env) (s:Shared) (H:Hp):Prop where
 frames:A.frames=some outer
 mod:Mod K mg base
 bs:∀ b o,base.get? b=some o->s.heap.get? b=some o/\H b=none
 bsz:base.objs.size<=s.heap.objs.size
 funs:s.heap.FunFrames base outer
 frf:∀ b∈frs outer,H b=none
 hok:HOk P w H s.heap
 bare:AllBare s.gens
def CE (outer:List Env) (P:Program) (w:World) (H:Hp) (s:Shared) (Q:VK) (u:Value) (s':Shared):Prop :=
 ∃ v H',s'.os=s.os/\AllBare s'.gens/\Un (frs outer) [] H H' s.heap s'.heap/\HOk P w H' s'.heap/\RelV v u/\Q v H'
def CR (CX:CXT) (outer:List Env) (P:Program) (w:World) (H:Hp) (s:Shared) (Q:VK) (E:XK) (r:Result) (s':Shared):Prop :=
 match r with
 | .ok (.ret u)=>CE outer P w H s Q u s'
 | .ok _=>False
 | .error e=>CX outer H s E e s'
structure FnOk (P:Program) (w:World) (K:PySem.W.Frag) (mg:Str->Option Value) (base:Heap) (CX:CXT) (k:Nat) (f:Addr) (fd:FuncData) (ps:List Str) (sp:Sp):Prop where
 len:∀ vs H Q E,sp vs H Q E->vs.length=ps.length
 run:∀ (A:Around) (outer:List Env) (s:Shared) (H:Hp) (args:Args) (us:List Value) (vs:List V) (Q:VK) (E:XK),Room k A->Env0 P w K mg base A outer s H->BindsTo s fd args (ps.zip us)->Vals vs us->sp vs H Q E ->
   codeAny (model P w) A (.call (.ref f) args) (CR CX outer P w H s Q E) s
theorem Env0.make {P:Program} {w:World} {K:PySem.W.Frag} {mg:Str->Option Value} {base:Heap} {A:Around} {outer:List Env} {s:Shared} {H:Hp} (e:Env0 P w K mg base A outer s H) (C:Addr) (us:List Value) (kw:List (Str × Value)) :
   Env0 P w K mg base (A.under (.builtin "type.__call__" ⟨.ref C::us,kw⟩)) outer s H:=⟨by first|exact e.frames|(simpa [Around.under,Code.envs,Code.isFrame,pushEnvs] using e.frames),e.mod,e.bs,e.bsz,e.funs,e.frf,e.hok,e.bare⟩
section
variable {X:Cx} {pins:List (Addr × Obj)} {σ:St} {H:Hp} {s s':Shared}
theorem Inv.env0 (I:Inv X pins σ H s):Env0 X.prog X.w X.K X.mg X.base X.A X.stack s H :=
 ⟨I.ok.frames,I.ok.mod,I.bs,Nat.le_trans I.ok.bsz I.sz,I.stack,I.stkFree,I.hok,I.bare⟩
theorem Inv.after {Q:VK} {u:Value} (I:Inv X pins σ H s) (h:CE X.stack X.prog X.w H s Q u s'):EP X pins σ Q u s':=by
 obtain ⟨v,H',os,bare,un,hok,r,q⟩:=h;obtain ⟨hh,g,d,t,os'⟩:=s';obtain rfl:os'=s.os:=os;exact ⟨v,H',I.call (h':=hh) (g':=g) (d':=d) (t':=t) (ch:=[]) un hok bare (fun b z=>absurd z (by simp)),r,q⟩
end
def OA (sp:Sp) (dvs:List V) (E:XK) (t:TA):TE:=fun σ H Q=>t σ H fun vs H1=>sp (vs++dvs) H1 Q E
def Np (C:Addr) (sp:Sp) (dvs:List V) (E:XK) (t:TA):TE:=fun σ H Q=>t σ H fun vs H1=>∀ x dx,H1 x=none->H1 dx=none->dx≠x ->
 sp (.ref x::(vs++dvs)) (upd (upd H1 dx (.own x)) x (.ins C dx [])) (fun v H2=>v=.non/\Q (.ref x) H2) E
def Binds (K:PySem.W.Frag) (fd:FuncData) (ps:List Str) (ds:List Value):Prop :=
 ∀ (s:Shared) (us:List Value),K.In s.heap->(us++ds).length=ps.length->BindsTo s fd ⟨us,[]⟩ (ps.zip (us++ds))
theorem Binds.all {K:PySem.W.Frag} {fd:FuncData} {ps:List Str} (h:∀ us:List Value,us.length=ps.length->bindArgs fd ⟨us,[]⟩=pure (ps.zip us)):Binds K fd ps []:=fun s us _ hl=>by
 rw [List.append_nil] at hl ⊢;exact .of_eq (h us hl)
def xm (CX:CXT) (X:Cx) (E:XK):Prop:=∀ (pins:List (Addr × Obj)) (σ:St) (H:Hp) (s:Shared) (e:Value) (s':Shared),Inv X pins σ H s->CX X.stack H s E e s'->X.xe e s'
section
variable {X:Cx} {CX:CXT} {k:Nat} {f C:Addr} {fd:FuncData} {ps:List Str} {sp:Sp} {dvs:List V} {ds:List Value} {E:XK} {x m:Str} {p pos apos:Pos} {e o:Expr} {es:List Expr} {ta:TE} {t:TA}
theorem WR {pins:List (Addr × Obj)} {σ:St} {H:Hp} {s:Shared} {Q:VK} {us:List Value} {vs:List V} (F:FnOk X.prog X.w X.K X.mg X.base CX k f fd ps sp) (hr:Room k X.A) (hb:Binds X.K fd ps ds) (hd:Vals dvs ds) (hx:xm CX X E)
   (I:Inv X pins σ H s) (r:Vals vs us) (h:sp (vs++dvs) H Q E):wpAny (model X.prog X.w) X.A (call (.ref f) us) (EP X pins σ Q) X.xe s:=by
 have r2:Vals (vs++dvs) (us++ds):=r.append hd;have hl:(us++ds).length=ps.length:=by rw [<- r2.length];exact F.len _ _ _ _ h
 refine wpAny_call (codeAny_mono (F.run X.A X.stack s H ⟨us,[]⟩ (us++ds) (vs++dvs) Q E hr I.env0 (hb s us I.kIn hl) r2 h) fun r s' hq=>?_);cases r with
 | error e=>exact hx pins σ H s e s' I hq
 | ok fl =>
   cases fl with
   | ret u=>exact I.after hq
   | next=>exact False.elim hq
   | brk=>exact False.elim hq
   | cont=>exact False.elim hq
theorem ar (F:FnOk X.prog X.w X.K X.mg X.base CX k f fd ps sp) (hr:Room k X.A) (hg:Gl X x) (hm:X.mg x=some (.ref f)) (hk:PySem.W.keepIn X.K (.ref f)=true) (hb:Binds X.K fd ps ds) (hd:Vals dvs ds) (hx:xm CX X E)
   (ha:PA X (e::es) t) (hdb:(x == ("__debug__":Str))=false:=by decide) (he:starEach (e::es) X.env=(false,eval e X.env)::starEach es X.env:=by rfl) (hpl:(backTo pos (starEach es X.env)).any (·.1)=false:=by rfl) :
   PE X (.Call (.Name x p) (e::es) [] pos) (OA sp dvs E t):=by
 intro pins s σ H Q I h;refine wpAny_Call_Name_kw (BH I hg hm ?_ hdb);refine PySem.W.callWith_K (h₀:=X.base) I.ok.mod.kin hk (yw (ha pos pins s σ H _ I h) fun us s1 vs H1 I1 r q=>⟨I1.kIn,?_⟩) he hpl;exact WR F hr hb hd hx I1 r q
structure Mk (K:PySem.W.Frag) (C f:Addr):Prop where
 makes:PySem.W.makesIn K C=true
 init:PySem.W.findIn K (.ref C) "__init__"=some (some (.ref f))
 fn:PySem.W.isFn K (.ref f)=true
 kp:PySem.W.keepIn K (.ref C)=true
theorem QV {pins:List (Addr × Obj)} {σ:St} {H:Hp} {s:Shared} {Q:VK} {us:List Value} {vs:List V} (M:Mk X.K C f) (F:FnOk X.prog X.w X.K X.mg X.base CX k f fd ps sp) (hr:Room (k+1) X.A) (hb:Binds X.K fd ps ds) (hd:Vals dvs ds)
   (hx:xm CX X E) (I:Inv X pins σ H s) (r:Vals vs us)
   (h:∀ x dx,H x=none->H dx=none->dx≠x->sp (.ref x::(vs++dvs)) (upd (upd H dx (.own x)) x (.ins C dx [])) (fun v H2=>v=.non/\Q (.ref x) H2) E) :
   wpAny (model X.prog X.w) X.A (call (.ref C) us) (EP X pins σ Q) X.xe s:=by
 have hq:=h (s.heap.objs.size+1) s.heap.objs.size (I.hok.fresh (Nat.le_succ _)) (I.hok.fresh (Nat.le_refl _)) (Nat.ne_of_lt (Nat.lt_succ_self _));have I2:=Inv.made (C:=C) I;have r2:Vals (V.ref (s.heap.objs.size+1)::(vs++dvs)) (Value.ref (s.heap.objs.size+1)::(us++ds)):=.cons rfl (r.append hd);have hl:(Value.ref (s.heap.objs.size+1)::us++ds).length=ps.length:=by
   have e:=r2.length;rw [F.len _ _ _ _ hq] at e;exact e.symm
 refine wpAny_call (Tm (f:=f) I.kIn M.makes M.init (beq_iff_eq.mp M.fn) (codeAny_mono (F.run _ X.stack _ _ ⟨Value.ref (s.heap.objs.size+1)::us,[]⟩ (Value.ref (s.heap.objs.size+1)::(us++ds)) _ _ E (hr.make C us [])
   (I2.env0.make C us []) (hb _ (Value.ref (s.heap.objs.size+1)::us) I2.kIn hl) r2 hq) fun r s' hq'=>?_))
 cases r with
 | error e=>exact hx pins σ _ _ e s' I2 hq'
 | ok fl =>
   cases fl with
   | ret u =>
     obtain ⟨v,H',I3,rv,ev,q3⟩:=I2.after hq';subst ev;exact ⟨rv,⟨V.ref (s.heap.objs.size+1),H',I3,rfl,q3⟩⟩
   | next=>exact False.elim hq'
   | brk=>exact False.elim hq'
   | cont=>exact False.elim hq'
theorem UB (M:Mk X.K C f) (F:FnOk X.prog X.w X.K X.mg X.base CX k f fd ps sp) (hr:Room (k+1) X.A) (hg:Gl X x) (hm:X.mg x=some (.ref C)) (hb:Binds X.K fd ps ds) (hd:Vals dvs ds) (hx:xm CX X E)
   (ha:PA X (e::es) t) (hdb:(x == ("__debug__":Str))=false:=by decide) (he:starEach (e::es) X.env=(false,eval e X.env)::starEach es X.env:=by rfl) (hpl:(backTo pos (starEach es X.env)).any (·.1)=false:=by rfl) :
   PE X (.Call (.Name x p) (e::es) [] pos) (Np C sp dvs E t):=by
 intro pins s σ H Q I h;refine wpAny_Call_Name_kw (BH I hg hm ?_ hdb);refine PySem.W.callWith_K (h₀:=X.base) I.ok.mod.kin M.kp (yw (ha pos pins s σ H _ I h) fun us s1 vs H1 I1 r q=>⟨I1.kIn,?_⟩) he hpl;exact QV M F hr hb hd hx I1 r q
end
section
variable {X:Cx} {CX:CXT} {k:Nat} {f C:Addr} {fd:FuncData} {ps ks:List Str} {sp:Sp} {E:XK} {x m:Str} {p pos apos kpos:Pos} {e o:Expr} {es:List Expr} {kws:List Keyword} {te ta:TE} {t tk:TA} {nm:Option Str}
variable {g:List Value->List Value->List Value} {gV:List V->List V->List V}
end
structure FnScope (N P:List Str) (sc:Scope):Prop where
 kind:sc.kind=.function
 co:sc.isCoroutine=false
 gen:sc.isGenerator=false
 nd:N.Nodup
 pre:N.take P.length=P
 par:∀ x∈P,sc.names.lookup x=some .local\/sc.names.lookup x=some .cell
 nofree:∀ y∈sc.names,y.2≠.free
theorem Gx {kindOf:Str->Option NameKind} {x:Str}:∀ {binds:List (Str × Value)} {m:Str->Option Value},(∀ v,(x,v) ∉ binds)->bindL kindOf binds m x=m x
 | [],_,_=>rfl
 | (n,v)::r,m,h=>by
   unfold bindL;rw [Gx fun w hw=>h w (List.mem_cons_of_mem _ hw)];split
   . have:x≠n:=(by rintro rfl;exact h v List.mem_cons_self);simp [this]
   . rfl
theorem Gq {kindOf:Str->Option NameKind} {x:Str}:∀ {binds:List (Str × Value)} {m:Str->Option Value},(∀ v,(x,v) ∉ binds)->bindC kindOf binds m x=m x
 | [],_,_=>rfl
 | (n,v)::r,m,h=>by
   unfold bindC;rw [Gq fun w hw=>h w (List.mem_cons_of_mem _ hw)];split
   . rfl
   . have:x≠n:=(by rintro rfl;exact h v List.mem_cons_self);simp [this]
theorem Gg {kindOf:Str->Option NameKind} {x:Str} {v:Value}:∀ {P:List Str} {vs:List Value} {i:Nat} {m:Str->Option Value},P.Nodup->P[i]?=some x->vs[i]?=some v->kindOf x=some .local ->
   bindL kindOf (P.zip vs) m x=some v
 | [],_,_,_,_,h,_,_=>by simp at h
 | _::_,[],_,_,_,_,h,_=>by simp at h
 | p::P,w::vs,0,m,nd,h1,h2,hk=>by
   simp at h1 h2;subst h1;subst h2;show bindL kindOf ((p,w)::P.zip vs) m p=_;unfold bindL;rw [Gx fun v hv=>(List.nodup_cons.mp nd).1 (List.of_mem_zip hv).1,if_pos hk];simp
 | p::P,w::vs,i+1,m,nd,h1,h2,hk=>by
   show bindL kindOf ((p,w)::P.zip vs) m x=_;unfold bindL;exact Gg (i:=i) (List.nodup_cons.mp nd).2 (by simpa using h1) (by simpa using h2) hk
theorem GA {kindOf:Str->Option NameKind} {x:Str} {v:Value}:∀ {P:List Str} {vs:List Value} {i:Nat} {m:Str->Option Value},P.Nodup->P[i]?=some x->vs[i]?=some v->kindOf x≠some .local ->
   bindC kindOf (P.zip vs) m x=some v
 | [],_,_,_,_,h,_,_=>by simp at h
 | _::_,[],_,_,_,_,h,_=>by simp at h
 | p::P,w::vs,0,m,nd,h1,h2,hk=>by
   simp at h1 h2;subst h1;subst h2;show bindC kindOf ((p,w)::P.zip vs) m p=_;unfold bindC;rw [Gq fun v hv=>(List.nodup_cons.mp nd).1 (List.of_mem_zip hv).1,if_neg hk];simp
 | p::P,w::vs,i+1,m,nd,h1,h2,hk=>by
   show bindC kindOf ((p,w)::P.zip vs) m x=_;unfold bindC;exact GA (i:=i) (List.nodup_cons.mp nd).2 (by simpa using h1) (by simpa using h2) hk
def start (N:List Str) (vs:List V):St:=vs.map some++List.replicate (N.length - vs.length) none
def si (CX:CXT) (P:Program) (w:World) (K:PySem.W.Frag) (mg:Str->Option Value) (base:Heap) (N:List Str) (qual:Str) (scope:Scope) (f:Addr) (cd:Value) (A:Around) (outer:List Env) (s:Shared) (H:Hp) (E:XK):Cx where
 prog:=P
 w:=w
 K:=K
 mg:=mg
 base:=base
 A:=A.deeper (envOfC qual scope s.heap.objs.size f cd)
 N:=N
 s₀:=s
 H₀:=H
 env:=envOfC qual scope s.heap.objs.size f cd
 outer:=outer
 stack:=envOfC qual scope s.heap.objs.size f cd::outer
 ex:=[]
 calm:=true
 fn:=fun _=>true
 pn:=[]
 xe:=fun e s'=>wpAny (model P w) (A.deeper (envOfC qual scope s.heap.objs.size f cd)) (leaving (envOfC qual scope s.heap.objs.size f cd) e) (fun _ s''=>CX outer H s E e s'') (fun e' s''=>CX outer H s E e' s'') s'
theorem dL {sc:Scope} {n:Nat} {x:Str} (h:sc.names.lookup x=some .cell):∃ c,(cellsFrom n sc.names []).lookup x=some c:=by
 have q:=PySem.W.cellsFrom_some sc.names n [] (.inl h);exact Option.isSome_iff_exists.mp q
theorem Qt {CX:CXT} {P:Program} {w:World} {K:PySem.W.Frag} {mg:Str->Option Value} {base:Heap} {N ps:List Str} {qual:Str} {scope:Scope} {f:Addr} {cd:Value} {A:Around} {outer:List Env} {s s1:Shared} {H:Hp} {E:XK} {us:List Value} {vs:List V}
   (S:FnScope N ps scope) (hd:A.handled=none) (e0:Env0 P w K mg base A outer s H) (hl:vs.length=ps.length) (r:Vals vs us)
   (x:InCallC s s.heap.objs.size (bindL (envOfC qual scope s.heap.objs.size f cd).kindOf (ps.zip us) fun _=>none) (cellsFrom (s.heap.objs.size+1) scope.names []) (bindC (envOfC qual scope s.heap.objs.size f cd).kindOf (ps.zip us) fun _=>none) s1) :
   Inv (si CX P w K mg base N qual scope f cd A outer s H E) [] (start N vs) H s1:=by
 have hpl:ps.length<=N.length:=by have:=congrArg List.length S.pre;rw [List.length_take] at this;omega
 obtain ⟨h1,tk,rfl,hk⟩:=x.done;have noA:∀ b:Addr,b ∉ (si CX P w K mg base N qual scope f cd A outer s H E).ex:=fun b z=>absurd (show b∈([]:List Addr) from z) (by simp);refine ⟨⟨e0.mod,S.kind,rfl,rfl,Nat.le_refl _,fun y z c h1 h2=>?_,fun y hy=>?_,fun y c _ h=>?_,fun _=>hd,Around.frames_deeper e0.frames,.inr ⟨rfl,rfl⟩,fun b z=>absurd z (noA b),e0.bs,e0.bsz,fun b _ _=>noA b,fun b z=>absurd z (noA b),e0.funs,e0.frf⟩,
   rfl,e0.bare,Un.kept hk,⟨_,x.toInCall.ns,fun i y v h1 h2 h3=>?_⟩,fun y c h=>⟨_,x.cell y c h⟩,e0.hok.fresh (Nat.le_refl _),fun y c h=>?_,fun p hp=>absurd (show p∈([]:List (Addr × Obj)) from hp) (by simp),e0.hok.kept hk,?_⟩
 . exact name_of_addr x.apart (PySem.mem_of_lookup h1) (PySem.mem_of_lookup h2)
 . have hy:scope.names.lookup y=some .cell\/scope.names.lookup y=some .free:=hy;rcases hy with hy|hy
   . exact dL hy
   . exact absurd rfl (S.nofree _ (PySem.mem_of_lookup hy))
 . exact Nat.le_of_lt (x.above y c (PySem.mem_of_lookup h))
 . have hi:i<vs.length:=by
     unfold start at h2;by_cases hi:i<vs.length
     . exact hi
     . rw [List.getElem?_append_right (by simpa using hi)] at h2;rw [List.getElem?_replicate] at h2;split at h2 <;> cases h2
   have ha:vs[i]?=some v:=by
     unfold start at h2;rw [List.getElem?_append_left (by simpa using hi),List.getElem?_map] at h2;cases e:vs[i]? with
     | none=>rw [e] at h2;cases h2
     | some a=>rw [e] at h2;cases h2;rfl
   obtain ⟨u,hu,rv⟩:=r.get ha;have hp:ps[i]?=some y:=by
     rw [<- S.pre,List.getElem?_take_of_lt (by omega)];exact h1
   have ndP:ps.Nodup:=by rw [<- S.pre];exact S.nd.sublist (List.take_sublist _ _)
   refine ⟨u,rv,?_⟩;rcases S.par y (List.mem_of_getElem? hp) with k|k
   . exact .inl ⟨k,Gg ndP hp hu k⟩
   . obtain ⟨c,e⟩:=dL (n:=s.heap.objs.size+1) k;refine .inr ⟨.inl k,c,e,?_⟩;have q:=x.cell y c e;rw [GA ndP hp hu (by show scope.names.lookup y≠_;rw [k];decide)] at q;exact q
 . exact e0.hok.fresh (Nat.le_of_lt (x.above y c (PySem.mem_of_lookup h)))
 . unfold start;show _=N.length;rw [List.length_append,List.length_map,List.length_replicate];omega
theorem Ui {CX:CXT} {P:Program} {w:World} {K:PySem.W.Frag} {mg:Str->Option Value} {base:Heap} {k:Nat} {f:Addr} {name qual:Str} {params:Arguments} {body:List Stmt} {scope:Scope} {dV kV doc pm cdv ct oc:Value} {an od:Option Addr}
   {osl:Array (Option Value)} {N ps:List Str} {sp:Sp} (lk:K.lookup f=some ⟨oc,od,.func (PySem.W.fnOf name qual params body scope dV kV doc pm an cdv ct),osl⟩) (hcd:PySem.W.codeIn K cdv qual=true) (S:FnScope N ps scope)
   (len:∀ vs H Q E,sp vs H Q E->vs.length=ps.length)
   (hbody:∀ (A:Around) (outer:List Env) (s:Shared) (H:Hp) (vs:List V) (Q:VK) (E:XK),Room k (A.deeper (envOfC qual scope s.heap.objs.size f cdv))->sp vs H Q E ->
     ∃ t,PSs (si CX P w K mg base N qual scope f cdv A outer s H E) body t/\t { nx:=fun _ H'=>Q .non H',rt:=Q } (start N vs) H) :
   FnOk P w K mg base CX (k+1) f (PySem.W.fnOf name qual params body scope dV kV doc pm an cdv ct) ps sp:=by
 refine ⟨len,fun A outer s H args us vs Q E hr e0 hb r hsp=>?_⟩;have hl:=len _ _ _ _ hsp;have KX:K.In s.heap:=e0.mod.kin.keeps fun b o e=>(e0.bs b o e).1;have lim:s.heap.NoLimit:=e0.mod.nolimit.keeps fun b o e=>(e0.bs b o e).1;have hkind:∀ y∈ps.zip us,scope.names.lookup y.1=some .local\/(scope.names.lookup y.1=some .cell/\((cellsFrom (s.heap.objs.size+1) scope.names []).lookup y.1).isSome=true):=fun ⟨n,v⟩ hy=>by
   rcases S.par n (List.of_mem_zip hy).1 with q|q
   . exact .inl q
   . exact .inr ⟨q,PySem.W.cellsFrom_some _ _ _ (.inl q)⟩
 refine codeAny_call_function hr.depth (KX _ _ lk) rfl S.co S.gen rfl (PySem.W.codeRec_of KX hcd) (hb _ _ _ _ ?_);refine wpAny_newFunctionEnv_cells S.kind hkind fun env he s1 x=>?_;subst he;refine ⟨lim.keeps x.toInCall.keep,codeAny_func ?_⟩;obtain ⟨t,ht,hq⟩:=hbody A outer s H vs Q E (hr.deeper _) hsp;have I:Inv (si CX P w K mg base N qual scope f cdv A outer s H E) [] (start N vs) H s1:=Qt S hr.hd e0 hl r x;refine wpAny_mono (ht [] s1 (start N vs) H _ I hq) (fun fl s' hs=>?_) fun e s' hs=>hs;have fin:∀ {σ':St} {H':Hp} {v:V} {u:Value},Inv (si CX P w K mg base N qual scope f cdv A outer s H E) [] σ' H' s'->RelV v u->Q v H'->CE outer P w H s Q u s' :=
   fun {σ' H' v u} J rv q=>⟨v,H',J.os,J.bare,J.base,J.hok,rv,q⟩
 cases fl with
 | ret u =>
   obtain ⟨v,σ',H',J,rv,q⟩:=hs;exact fin J rv q
 | next =>
   obtain ⟨σ',H',J,q⟩:=hs;exact fin (v:=V.non) (u:=Value.none) J rfl q
 | brk =>
   obtain ⟨_,_,_,q⟩:=hs;exact False.elim q
 | cont =>
   obtain ⟨_,_,_,q⟩:=hs;exact False.elim q
end L2
namespace L2
open PySem PySem.Spec PyProof.Rows
section
variable {X:Cx} {x:Str} {p pos:Pos} {e:Expr} {es:List Expr} {t:TA} {id T:String} {r:List V->Hp->VK->Prop}
def tCB (r:List V->Hp->VK->Prop) (t:TA):TE:=fun σ H Q=>t σ H fun vs H1=>r vs H1 Q
theorem bI (hc:kY X (.builtin id) r) (hg:Gl X x) (hm:X.mg x=none) (hv:bootBuiltins x=some (.builtin id)) (ha:PA X (e::es) t) (hn:x≠"__name__":=by decide) (hdb:(x == ("__debug__":Str))=false:=by decide)
   (he:starEach (e::es) X.env=(false,eval e X.env)::starEach es X.env:=by rfl) (hpl:(backTo pos (starEach es X.env)).any (·.1)=false:=by rfl):PE X (.Call (.Name x p) (e::es) [] pos) (tCB r t):=by
 intro pins s σ H Q I h;refine wpAny_Call_Name_kw (tV I hg hm hv ?_ hn hdb);exact PyProof.Rows.callWith_builtin1 (yw (ha pos pins s σ H _ I h) fun us s1 vs H1 I1 r1 q1=>hc pins s1 σ H1 vs us Q I1 r1 q1) he hpl
theorem fi (hc:kY X (.type T) r) (hg:Gl X x) (hm:X.mg x=none) (hv:bootBuiltins x=some (.type T)) (ha:PA X (e::es) t) (hn:x≠"__name__":=by decide) (hdb:(x == ("__debug__":Str))=false:=by decide)
   (he:starEach (e::es) X.env=(false,eval e X.env)::starEach es X.env:=by rfl) (hpl:(backTo pos (starEach es X.env)).any (·.1)=false:=by rfl):PE X (.Call (.Name x p) (e::es) [] pos) (tCB r t):=by
 intro pins s σ H Q I h;refine wpAny_Call_Name_kw (tV I hg hm hv ?_ hn hdb);exact PyProof.Rows.callWith_type1 (yw (ha pos pins s σ H _ I h) fun us s1 vs H1 I1 r1 q1=>hc pins s1 σ H1 vs us Q I1 r1 q1) he hpl
end
end L2
namespace HT
open PySem PyProof.Rows
section
open PySem.SeqAt
open PySem.AutoSeq1 (wpAny_loadPart')
open PySem.MeetsSeq PySem.MeetsSeq2 PySem.MeetsSeq3
end
section
variable {prog:Program} {w:World} {A:Around} {E:Value->Shared->Prop} {s:Shared}
def sIx (n d:Nat):Option Int->Nat
 | none=>d
 | some v=>if v<0 then (v+(n:Int)).toNat else min v.toNat n
end
end HT
namespace L2
open PySem PySem.Spec PyProof.Rows
abbrev TO:=St->Hp->(Option Int->Hp->Prop)->Prop
def PO (X:Cx) (e:Option Expr) (t:TO):Prop :=
 ∀ (pins:List (Addr × Obj)) (s:Shared) (σ:St) (H:Hp) (Q:Option Int->Hp->Prop),Inv X pins σ H s->t σ H Q ->
   wpAny (model X.prog X.w) X.A (evalPart e X.env) (fun u s'=>∃ o H',Inv X pins σ H' s'/\IsPart u o/\Q o H') X.xe s
def tNoPart:TO:=fun _ H Q=>Q none H
def Oc (t:TE):TO:=fun σ H Q=>t σ H fun x H1=>∃ i,x=.int i/\Q (some i) H1
section
variable {X:Cx} {e:Expr} {te:TE} {lo hi:Option Expr} {tl th:TO} {pos p2:Pos}
theorem tF:PO X none tNoPart:=by
 intro pins s σ H Q I h;rw [evalPart_none];exact wpAny_pure ⟨none,H,I,.none,h⟩
theorem tH (h:PE X e te):PO X (some e) (Oc te):=by
 intro pins s σ H Q I hw;rw [evalPart_some];refine bS (h pins s σ H _ I hw) fun u s1 x H1 I1 r1 q1=>?_;obtain ⟨i,rfl,q⟩:=q1;obtain ⟨t,rfl⟩:=r1;exact ⟨some i,H1,I1,.int i t,q⟩
def SlR (X:Cx) (r:V->Option Int->Option Int->Hp->VK->Prop):Prop :=
 ∀ (pins:List (Addr × Obj)) (s:Shared) (σ:St) (H:Hp) (x:V) (v vl vu:Value) (lo hi:Option Int) (sl:Addr) (Q:VK),Inv X pins σ H s->RelV x v->s.heap.IsSliceOf sl vl vu .none->IsPart vl lo->IsPart vu hi->r x lo hi H Q ->
   ∃ T id,typeLookup (.type T) "__getitem__"=pure (some (.builtin id))/\s.TypeIs v T/\wpAny (model X.prog X.w) X.A (getItem v (.ref sl)) (EP X pins σ Q) X.xe s
def tSl (r:V->Option Int->Option Int->Hp->VK->Prop) (te:TE) (tl th:TO):TE:=fun σ H Q=>te σ H fun x H1=>tl σ H1 fun l H2=>th σ H2 fun u H3=>r x l u H3 Q
theorem qF {r:V->Option Int->Option Int->Hp->VK->Prop} (hr:SlR X r) (he:PE X e te) (hl:PO X lo tl) (hu:PO X hi th):PE X (.Subscript e (.Slice lo hi none p2) pos) (tSl r te tl th):=by
 intro pins s σ H Q I h;refine Subscript_ (bS (he pins s σ H _ I h) fun v s1 x H1 I1 r1 q1=>?_);refine wpAny_Slice (thn (hl pins s1 σ H1 _ I1 q1) fun vl s2 ⟨l,H2,I2,pl,q2⟩=>thn (hu pins s2 σ H2 _ I2 q2) fun vu s3 ⟨u,H3,I3,pu,q3⟩=>?_);rw [evalPart_none];refine wpAny_pure ?_;have I4:Inv X pins σ H3 { s3 with heap:=s3.heap.push { cls:=.type "slice",data:=.fields #[vl,vu,.none] } }:=I3.kept (t':=s3.toks) fun b ob q=>Heap.get?_push_of_some _ q;obtain ⟨T,id,hT,ht,hg⟩:=hr pins { s3 with heap:=s3.heap.push { cls:=.type "slice",data:=.fields #[vl,vu,.none] } } σ H3 x v vl vu l u s3.heap.objs.size Q I4 r1 (Heap.IsSliceOf.new ..) pl pu q3;show wpAny (model X.prog X.w) X.A (subscriptTail e (.Slice lo hi none p2) v (.ref s3.heap.objs.size)) (EP X pins σ Q) X.xe { s3 with heap:=s3.heap.push { cls:=.type "slice",data:=.fields #[vl,vu,.none] } };exact tail_any (ops:=[.ref s3.heap.objs.size,v]) ht hT hg (by with_unfolding_all rfl)
def A6 (xs:List V) (lo hi:Option Int):List V:=(xs.drop (HT.sIx xs.length 0 lo)).take (HT.sIx xs.length xs.length hi - HT.sIx xs.length 0 lo)
theorem Mo (xs:List V) (lo hi:Option Int):(A6 xs lo hi).length<=xs.length:=by
 unfold A6;rw [List.length_take,List.length_drop];omega
end
end L2
namespace L2
open PySem PySem.Spec PyProof.Rows
def ixN (n:Nat) (i:Int):Option Nat:=if 0<=i then (if i<n then some i.toNat else none) else if -(n:Int)<=i then some (i+n).toNat else none
def atI {α:Type} (xs:List α) (i:Int):Option α:=(ixN xs.length i).bind fun j=>xs[j]?
theorem Mr {n:Nat} {i:Int} {j:Nat} (h:ixN n i=some j):seqIndex? i n=some j/\j<n/\-(n:Int)<=i/\i<n:=by
 unfold ixN at h;by_cases h0:0<=i
 . rw [if_pos h0] at h;by_cases h1:i<n
   . rw [if_pos h1] at h;have e:i.toNat=j:=Option.some.inj h;exact ⟨by rw [seqIndex_of h0 h1,e],by omega,by omega,h1⟩
   . rw [if_neg h1] at h;cases h
 . rw [if_neg h0] at h;by_cases h1:-(n:Int)<=i
   . rw [if_pos h1] at h;have e:(i+n).toNat=j:=Option.some.inj h;exact ⟨by rw [seqIndex_neg (by omega) h1,e],by omega,h1,by omega⟩
   . rw [if_neg h1] at h;cases h
theorem MG {α:Type} {xs:List α} {i:Int} {v:α} (h:atI xs i=some v):∃ j,seqIndex? i xs.length=some j/\xs[j]?=some v/\j<xs.length/\-(xs.length:Int)<=i/\i<xs.length:=by
 unfold atI at h;cases e:ixN xs.length i with
 | none=>rw [e] at h;cases h
 | some j =>
   rw [e] at h;obtain ⟨h1,h2,h3,h4⟩:=Mr e;exact ⟨j,h1,h,h2,h3,h4⟩
theorem qK {α:Type} {xs:List α} {j:Nat} {v:α} (h:xs[j]?=some v):atI xs (j:Int)=some v:=by
 have hj:j<xs.length:=(List.getElem?_eq_some_iff.mp h).1;have e:ixN xs.length (j:Int)=some j:=by
   unfold ixN;rw [if_pos (by omega),if_pos (by omega)];simp
 unfold atI;rw [e];exact h
def Vo (b:Expr):Prop:=∀ o i,subscripted b false o i=operate [o,i] (getItem o i)
def IxR (X:Cx) (r:R2):Prop :=
 ∀ (value slice:Expr) (pins:List (Addr × Obj)) (s:Shared) (σ:St) (H:Hp) (x y:V) (v u:Value) (Q:VK),Inv X pins σ H s->RelV x v->RelV y u->r x y H Q ->
   subscripted slice false v u=operate [v,u] (getItem v u)->wpAny (model X.prog X.w) X.A (subscriptTail value slice v u) (EP X pins σ Q) X.xe s
def MtR (X:Cx) (id:String) (r:V->List V->Hp->VK->Prop):Prop :=
 ∀ (pins:List (Addr × Obj)) (s:Shared) (σ:St) (H:Hp) (x:V) (xs:List V) (v:Value) (us:List Value) (Q:VK),Inv X pins σ H s->RelV x v->Vals xs us->r x xs H Q ->
   wpAny (model X.prog X.w) X.A (call (.builtin id) (v::us)) (EP X pins σ Q) X.xe s
section
variable {X:Cx} {a b:Expr} {ta tb:TE} {pos:Pos}
theorem az {r:R2} (hr:IxR X r) (ha:PE X a ta) (hb:PE X b tb) (hs:Vo b):PE X (.Subscript a b pos) (tOp r ta tb):=by
 intro pins s σ H Q I h;exact Subscript_ (Rx ha hb I h fun v u s2 x y H2 I2 rx ry q=>hr a b pins s2 σ H2 x y v u Q I2 rx ry q (hs _ _))
def OQ (K:PySem.W.Frag):R2:=fun x y H Q=>∃ p xs i v,x=.ref p/\y=.int i/\SqL K H p xs/\atI xs i=some v/\Q v H
def Ot (K:PySem.W.Frag):R2:=fun x y H Q=>∃ p xs i v,x=.ref p/\y=.int i/\SqT K H p xs/\atI xs i=some v/\Q v H
theorem aI:IxR X (OQ X.K):=by
 intro value slice pins s σ H x y v u Q I rx ry h hs;obtain ⟨p,xs,i,z,rfl,rfl,hq,he,q⟩:=h;cases rx;obtain ⟨t,rfl⟩:=ry;obtain ⟨its,r,pl,hz⟩:=I.list hq;obtain ⟨j,h1,h2,h3,h4,h5⟩:=MG he;obtain ⟨w,ew,rw'⟩:=r.get h2;have hl:=r.length;have hn:=xW;have fin:EP X pins σ Q w s:=⟨z,H,I,rw',q⟩;by_cases h0:0<=i
 . have hj:i.toNat=j:=by
     rw [seqIndex_of h0 h5] at h1;exact Option.some.inj h1
   exact item_listR pl.isList h0 (by omega) (by rw [hj];simpa using ew) fin hs
 . have hj:(i+(its.toArray.size:Int)).toNat=j:=by
     rw [seqIndex_neg (by omega) h4] at h1;rw [List.size_toArray,<- hl];exact Option.some.inj h1
   exact subscriptTail_builtinR (x:=w) pl.isList.typeIs slot_list_getitem.lookup
     (wpAny_getItem_list_neg (Q:=fun r s'=>r=w/\EP X pins σ Q r s') pl.isList (by omega) (by rw [List.size_toArray] <;> omega) (by omega) (by rw [hj];simpa using ew) ⟨rfl,fin⟩) hs
theorem bC:IxR X (Ot X.K):=by
 intro value slice pins s σ H x y v u Q I rx ry h hs;obtain ⟨p,xs,i,z,rfl,rfl,hq,he,q⟩:=h;cases rx;obtain ⟨t,rfl⟩:=ry;obtain ⟨its,r,pl,hz⟩:=I.tuple hq;obtain ⟨j,h1,h2,h3,h4,h5⟩:=MG he;obtain ⟨w,ew,rw'⟩:=r.get h2;have hl:=r.length;have hn:=xW;have fin:EP X pins σ Q w s:=⟨z,H,I,rw',q⟩;exact subscriptTail_builtinR (x:=w) pl.typeIs slot_tuple_getitem.lookup
   (getItem_tuple (j:=j) (Q:=fun r s'=>r=w/\EP X pins σ Q r s') pl (by omega) (by omega) (by rw [List.size_toArray,<- hl];exact h1) (by simpa using ew) ⟨rfl,fin⟩) hs
theorem NP (its:List Value) (n j:Nat) (u:Value):Obj.mapSeq (·.setIfInBounds j u) { cls:=.type "list",data:=.seq its.toArray n }={ cls:=.type "list",data:=.seq (its.set j u).toArray n }:=by
 simp [Obj.mapSeq]
theorem Inv.lst {pins:List (Addr × Obj)} {σ:St} {H:Hp} {s:Shared} {p:Addr} {xs:List V} (I:Inv X pins σ H s) (h:H p=some (.lst xs)) :
   ∃ (its:List Value) (n:Nat),Vals xs its/\s.heap.get? p=some { cls:=.type "list",data:=.seq its.toArray n }/\xs.length<=sizeLine:=by
 obtain ⟨z,its,n,r,e⟩:=I.hok p _ h;exact ⟨its,n,r,e,z⟩
theorem Inv.lstUpd {pins:List (Addr × Obj)} {σ:St} {H:Hp} {s:Shared} {p:Addr} {xs ys:List V} {its its':List Value} {n n':Nat} {f:Obj->Obj} (I:Inv X pins σ H s) (h:H p=some (.lst xs))
   (ho:s.heap.get? p=some { cls:=.type "list",data:=.seq its.toArray n }) (hf:f { cls:=.type "list",data:=.seq its.toArray n }={ cls:=.type "list",data:=.seq its'.toArray n' }) (r:Vals ys its') (hz:ys.length<=sizeLine) (t:Nat) :
   Inv X pins σ (upd H p (.lst ys)) { s with heap:=s.heap.update p f,toks:=t }:=by
 have e:(s.heap.update p f).get? p=some { cls:=.type "list",data:=.seq its'.toArray n' }:=by
   rw [Heap.get?_update_self f ho (by rw [hf] <;> rfl),hf]
 refine I.write (x:=p) (e:=p) (by rw [h];trivial) (.inl rfl) (fun b u hb q=>(Heap.get?_update_other _ _ (Ne.symm hb)).trans q) ⟨_,e⟩ ?_;exact ⟨hz,its',n',r,e⟩
def rSetL:V->V->V->Hp->(Hp->Prop)->Prop:=fun o i v H Q=>∃ p xs k j,o=.ref p/\i=.int k/\H p=some (.lst xs)/\ixN xs.length k=some j/\Q (upd H p (.lst (xs.set j v)))
theorem gL:WH X rSetL:=by
 intro pins s σ H o i v ov iv u Q I ro ri rv h;obtain ⟨p,xs,k,j,rfl,rfl,hp,hj,q⟩:=h;cases ro;obtain ⟨t,rfl⟩:=ri;obtain ⟨its,n,r,ho,hz⟩:=I.lst hp;obtain ⟨h1,h2,h3,h4⟩:=Mr hj;have hl:=r.length;have hn:=xW;have I':Inv X pins σ (upd H p (.lst (xs.set j v))) { s with heap:=s.heap.update p (Obj.mapSeq (·.setIfInBounds j u)) } :=
   I.lstUpd hp ho (NP its n j u) (r.set rv j) (by rw [List.length_set];exact hz) s.toks
 by_cases h0:0<=k
 . have hk:k.toNat=j:=by
     rw [seqIndex_of h0 h4] at h1;exact Option.some.inj h1
   exact PySem.W.ki_setAt ho h0 (by omega) (by rw [List.size_toArray,<- hl];exact h4) (by rw [hk];exact ⟨_,I',q⟩)
 . have hk:(k+(its.toArray.size:Int)).toNat=j:=by
     rw [seqIndex_neg (by omega) h3] at h1;rw [List.size_toArray,<- hl];exact Option.some.inj h1
   exact PySem.W.ki_setBack ho (by omega) (by rw [List.size_toArray,<- hl];exact h3) (by omega) (by rw [hk];exact ⟨_,I',q⟩)
theorem Iw (lo hi:Option Int) (n:Nat):(sliceBounds lo hi none n).1=((HT.sIx n 0 lo:Nat):Int)/\(sliceBounds lo hi none n).2.1=((HT.sIx n n hi:Nat):Int)/\(sliceBounds lo hi none n).2.2=1:=by
 refine ⟨?_,?_,rfl⟩
 . cases lo with
   | none=>simp [sliceBounds,HT.sIx]
   | some i =>
     simp only [sliceBounds,HT.sIx,Option.getD_none,show (1:Int) > 0 by decide,if_true];by_cases h:i<0
     . simp only [h,if_true] <;> omega
     . simp only [h,if_false] <;> omega
 . cases hi with
   | none=>simp [sliceBounds,HT.sIx]
   | some i =>
     simp only [sliceBounds,HT.sIx,Option.getD_none,show (1:Int) > 0 by decide,if_true];by_cases h:i<0
     . simp only [h,if_true] <;> omega
     . simp only [h,if_false] <;> omega
theorem GY (its:List Value) (lo hi:Option Int):slicePick its.toArray lo hi none=((its.drop (HT.sIx its.length 0 lo)).take (HT.sIx its.length its.length hi - HT.sIx its.length 0 lo)).toArray:=by
 obtain ⟨h1,h2,h3⟩:=Iw lo hi its.toArray.size;unfold slicePick;rw [h1,h2,h3];simp only [sliceRange_one,pick_run,List.size_toArray] <;> rfl
def V0 (K:PySem.W.Frag):V->Option Int->Option Int->Hp->VK->Prop:=fun x lo hi H Q=>∃ a xs,x=.ref a/\SqL K H a xs/\∀ p,H p=none->Q (.ref p) (upd H p (.lst (A6 xs lo hi)))
theorem tN:SlR X (V0 X.K):=by
 intro pins s σ H x v vl vu lo hi sl Q I rx hs pl pu h;obtain ⟨a,xs,rfl,hx,q⟩:=h;cases rx;obtain ⟨its,r,ht,hz⟩:=I.list hx;have hlen:=r.length;refine ⟨"list",_,slot_list_getitem.lookup,ht.isList.typeIs,?_⟩;refine wpAny_getItem_list_slice ht.isList hs pl pu .none (by simp) ?_ (by rw [List.size_toArray] <;> omega);rw [GY,<- hlen];refine ⟨.ref s.heap.objs.size,_,I.laid (t':=s.toks) (o:=.lst (A6 xs lo hi)) (fun b ob q=>Heap.get?_push_of_some _ q) (Nat.le_refl _) ?_,rfl,q _ (I.hok.fresh (Nat.le_refl _))⟩;exact ⟨Nat.le_trans (Mo xs lo hi) hz,_,0,(r.drop (HT.sIx xs.length 0 lo)).take (HT.sIx xs.length xs.length hi - HT.sIx xs.length 0 lo),Heap.get?_push_size _ rfl⟩
theorem ck:kY X (.builtin "len") (fun xs H Q=>∃ p ys,xs=[.ref p]/\(SqL X.K H p ys\/SqT X.K H p ys)/\Q (.int ys.length) H):=by
 intro pins s σ H xs us Q I r h;obtain ⟨p,ys,rfl,hq,q⟩:=h;obtain ⟨u,rfl,rx⟩:=oY r;cases rx;have hn:=xW;rcases hq with hq|hq
 . obtain ⟨its,r',pl,hz⟩:=I.list hq;have hlen:=r'.length;exact Calls.call_len_list pl.isList (by simp only [List.size_toArray] <;> omega) ⟨.int ys.length,H,I.tok _,⟨s.toks+1,by rw [List.size_toArray,hlen]⟩,q⟩
 . obtain ⟨its,r',pl,hz⟩:=I.tuple hq;have hlen:=r'.length;exact len_tuple pl (by simp only [List.size_toArray] <;> omega) ⟨.int ys.length,H,I.tok _,⟨s.toks+1,by rw [List.size_toArray,hlen]⟩,q⟩
theorem jU:kY X (.type "list") (fun xs H Q=>∃ p ys,xs=[.ref p]/\(SqL X.K H p ys\/SqT X.K H p ys)/\∀ l,H l=none->Q (.ref l) (upd H l (.lst ys))):=by
 intro pins s σ H xs us Q I r h;obtain ⟨p,ys,rfl,hq,q⟩:=h;obtain ⟨u,rfl,rx⟩:=oY r;cases rx;have fin:∀ (its:List Value),Vals ys its->ys.length<=sizeLine->∀ (h':Heap) (c':Nat),(∀ b o',s.heap.get? b=some o'->h'.get? b=some o') ->
     h'.get? s.heap.objs.size=some { cls:=.type "list",dict:=none,data:=.seq its.toArray c',slots:=#[] }->EP X pins σ Q (.ref s.heap.objs.size) { s with heap:=h' }:=fun its r' hz h' c' kp e =>
   ⟨.ref s.heap.objs.size,_,I.laid (t':=s.toks) kp (Nat.le_refl _) (show ObjOk X.prog X.w _ h' _ (.lst ys) from ⟨hz,its,c',r',e⟩),rfl,q _ (I.hok.fresh (Nat.le_refl _))⟩
 rcases hq with hq|hq
 . obtain ⟨its,r',pl,hz⟩:=I.list hq;have hlen:=r'.length;obtain ⟨o,ho,hc,n,hd⟩:=pl.isList;exact call_list_seq p (.inl rfl) ho hc hd (fun h' c' kp e=>fin its r' hz h' c' kp e) (by simp only [List.size_toArray] <;> omega)
 . obtain ⟨its,r',pl,hz⟩:=I.tuple hq;have hlen:=r'.length;obtain ⟨o,ho,hc,n,hd⟩:=pl;exact call_list_seq p (.inr rfl) ho hc hd (fun h' c' kp e=>fin its r' hz h' c' kp e) (by simp only [List.size_toArray] <;> omega)
theorem mV:kY X (.type "tuple") (fun xs H Q=>∃ p ys,xs=[.ref p]/\((SqL X.K H p ys/\∀ l,H l=none->Q (.ref l) (upd H l (.tup ys)))\/(SqT X.K H p ys/\Q (.ref p) H))):=by
 intro pins s σ H xs us Q I r h;obtain ⟨p,ys,rfl,h⟩:=h;obtain ⟨u,rfl,rx⟩:=oY r;cases rx;rcases h with ⟨hq,q⟩|⟨hq,q⟩
 . obtain ⟨its,r',pl,hz⟩:=I.list hq;have hlen:=r'.length;refine call_tuple_list pl.isList (fun h' kp=>?_) (by simp only [List.size_toArray] <;> omega);have I1:Inv X pins σ H { s with heap:=h' }:=I.kept (t':=s.toks) kp;have I2:Inv X pins σ (upd H h'.objs.size (.tup ys)) { s with heap:=h'.push { cls:=.type "tuple",data:=.seq its.toArray } } :=
     I1.laid (t':=s.toks) (fun b o e=>Heap.get?_push_of_some _ e) (Nat.le_refl _) (show ObjOk X.prog X.w _ _ _ (.tup ys) from ⟨hz,its,r',IsTup.new _ _⟩)
   exact ⟨.ref h'.objs.size,_,I2,rfl,q _ (I1.hok.fresh (Nat.le_refl _))⟩
 . obtain ⟨its,r',pl,hz⟩:=I.tuple hq;exact call_tuple_same pl ⟨.ref p,H,I,rfl,q⟩
def tyV (K:PySem.W.Frag) (T:String) (x:V) (H:Hp):Prop:=match x with
 | .str _=>T="str"
 | .int _=>T="int"
 | .ref p=>(T="list"/\∃ xs,SqL K H p xs)\/(T="tuple"/\∃ o,K.lookup p=some o/\o.cls=.type "tuple"/\o.dict=none) \/
     (T="dict"/\((∃ kvs,H p=some (.dK kvs))\/∃ kvs,H p=some (.dT kvs)))\/(T="set"/\∃ S n,H p=some (.set S n))
 | _=>False
theorem PN {pins:List (Addr × Obj)} {σ:St} {H:Hp} {s:Shared} {T:String} {x:V} {v:Value} (I:Inv X pins σ H s) (r:RelV x v) (ty:tyV X.K T x H) :
   s.TypeIs v T/\∀ a,v=.ref a->∃ ob,s.heap.get? a=some ob/\ob.dict=none:=by
 cases x with
 | str z =>
   obtain ⟨t,rfl⟩:=r;cases (show T="str" from ty);exact ⟨typeIs_str s z t,fun _ e=>nomatch e⟩
 | int i =>
   obtain ⟨t,rfl⟩:=r;cases (show T="int" from ty);exact ⟨typeIs_int s i t,fun _ e=>nomatch e⟩
 | ref p =>
   cases r;rcases ty with ⟨rfl,xs,hq⟩|⟨rfl,o,hk,hc,hd⟩|⟨rfl,hk⟩|⟨rfl,S,n,hk⟩
   . obtain ⟨its,_,pl,_⟩:=I.list hq;refine ⟨pl.isList.typeIs,fun a e=>?_⟩;cases e;obtain ⟨o,n,e,c,hd,_⟩:=pl;exact ⟨o,e,hd⟩
   . refine ⟨⟨o,I.kIn p o hk,hc⟩,fun a e=>?_⟩;cases e;exact ⟨o,I.kIn _ o hk,hd⟩
   . have z:∃ o,s.heap.get? p=some o/\o.ExactDict:=by
       rcases hk with ⟨kvs,hk⟩|⟨kvs,hk⟩
       . obtain ⟨_,_,_,_,o,_,_,e,ex,_⟩:=I.hok p _ hk;exact ⟨o,e,ex⟩
       . obtain ⟨_,_,_,_,o,_,_,e,ex,_⟩:=I.hok p _ hk;exact ⟨o,e,ex⟩
     obtain ⟨o,e,ex⟩:=z;refine ⟨⟨o,e,ex.1⟩,fun a e2=>?_⟩;cases e2;exact ⟨o,e,ex.2.1⟩
   . obtain ⟨o,_,_,_,e,ex,_⟩:=I.hok p _ hk;refine ⟨⟨o,e,ex.1⟩,fun a e2=>?_⟩;cases e2;exact ⟨o,e,ex.2.1⟩
 | _=>exact False.elim ty
def TK (K:PySem.W.Frag) (T:String) (r:V->List V->Hp->VK->Prop) (to:TE):TE:=fun σ H Q=>to σ H fun x H1=>tyV K T x H1/\r x [] H1 Q
def tBM (K:PySem.W.Frag) (T:String) (r:V->List V->Hp->VK->Prop) (to:TE) (t:TA):TE:=fun σ H Q=>to σ H fun x H1=>tyV K T x H1/\t σ H1 fun xs H2=>r x xs H2 Q
variable {o e:Expr} {es:List Expr} {to:TE} {t:TA} {name:Str} {apos cpos:Pos} {T id:String} {r:V->List V->Hp->VK->Prop}
theorem Jj (pa:PlainAttrs T) (slot:Slot T name id) (hty:typeOf (.builtin id)=pure (.type "method_descriptor")) (hm:MtR X id r) (ho:PE X o to)
   (hbase:attributeBase o name X.env (eval o X.env)=eval o X.env:=by rfl) (hline:(apos.endLine == cpos.line)=true:=by rfl):PE X (.Call (.Attribute o name apos) [] [] cpos) (TK X.K T r to):=by
 intro pins s σ H Q I h;refine wpAny_Call_method0_late hbase hline (bS (ho pins s σ H _ I h) fun v s1 x H1 I1 r1 ⟨ty,q1⟩=>?_);obtain ⟨h1,h2⟩:=PN I1 r1 ty;exact ⟨T,id,pa,slot,hty,h1,h2,Calls.callWith_builtin rfl (PySem.evalArgs_none (hm pins s1 σ H1 x [] v [] Q I1 r1 .nil q1))⟩
theorem pj (pa:PlainAttrs T) (slot:Slot T name id) (hty:typeOf (.builtin id)=pure (.type "method_descriptor")) (hm:MtR X id r) (ho:PE X o to) (ha:PA X (e::es) t)
   (hbase:attributeBase o name X.env (eval o X.env)=eval o X.env:=by rfl)
   (hfew:((backTo cpos (starEach (e::es) X.env)).all (fun x=>!x.1) && (backToKw cpos (keywordEach [] X.env)).all (fun x=>x.1.isSome)
     && decide ((e::es).length+([]:List Keyword).length+(if ([]:List Keyword).isEmpty then 0 else 1)<30))=true:=by rfl)
   (hline:(apos.endLine == cpos.line)=true:=by rfl) (hs:starEach (e::es) X.env=(false,eval e X.env)::starEach es X.env:=by rfl) (hplain:(backTo cpos (starEach es X.env)).any (·.1)=false:=by rfl) :
   PE X (.Call (.Attribute o name apos) (e::es) [] cpos) (tBM X.K T r to t):=by
 intro pins s σ H Q I h;refine wpAny_Call_method_late hbase hfew hline rfl (bS (ho pins s σ H _ I h) fun v s1 x H1 I1 r1 ⟨ty,q1⟩=>?_);obtain ⟨h1,h2⟩:=PN I1 r1 ty;refine ⟨T,id,pa,slot,hty,h1,h2,?_⟩;have hA:=ha cpos pins s1 σ H1 _ I1 q1;rw [hs] at hA ⊢;refine Calls.callWith_builtin (by show (false || (backTo cpos (starEach es X.env)).any (·.1))=false;rw [hplain] <;> rfl) (Calls.evalArgs_plain ?_);exact thn hA fun us s2 ⟨vs,H2,I2,r2,q2⟩=>hm pins s2 σ H2 x vs v us Q I2 r1 r2 q2
end
end L2
namespace L2
open PySem PySem.Spec PyProof.Rows
def MtM (X:Cx) (id:String) (r:V->List V->Hp->VK->Prop):Prop :=
 ∀ (pins:List (Addr × Obj)) (s:Shared) (σ:St) (H:Hp) (x:V) (xs:List V) (v:Value) (us:List Value) (Q:VK),Inv X pins σ H s->RelV x v->Vals xs us->r x xs H Q ->
   wpAny (model X.prog X.w) X.A (call (.builtin id) (v::us)) (EP X pins σ Q) X.xe s
theorem Vals.one {x:V} {us:List Value} (h:Vals [x] us):∃ u,us=[u]/\RelV x u:=by
 cases h with
 | cons r t=>cases t;exact ⟨_,rfl,r⟩
theorem Vals.two {x y:V} {us:List Value} (h:Vals [x,y] us):∃ u v,us=[u,v]/\RelV x u/\RelV y v:=by
 cases h with
 | cons r t =>
   obtain ⟨v,e,q⟩:=Vals.one t;subst e;exact ⟨_,v,rfl,r,q⟩
theorem Vals.zero:∀ {us:List Value},Vals [] us->us=[]
 | _,.nil=>rfl
theorem Vals.dropLast {xs:List V} {us:List Value} (h:Vals xs us):Vals xs.dropLast us.dropLast:=by
 induction h with
 | nil=>exact .nil
 | cons r t ih =>
   cases t with
   | nil=>exact .nil
   | cons q t'=>exact .cons r ih
theorem Vals.rep {xs:List V} {us:List Value} (h:Vals xs us):∀ k:Nat,Vals (List.replicate k xs).flatten (List.replicate k us).flatten
 | 0=>.nil
 | k+1=>by
   rw [List.replicate_succ,List.replicate_succ,List.flatten_cons,List.flatten_cons];exact Vals.append h (Vals.rep h k)
theorem Nn {α:Type} (l:List α):l.eraseIdx (l.length - 1)=l.dropLast:=by
 induction l with
 | nil=>rfl
 | cons a r ih =>
   cases r with
   | nil=>rfl
   | cons b r =>
     have e:(a::b::r).length - 1=((b::r).length - 1)+1:=by
       have h1:(a::b::r).length=r.length+2:=rfl;have h2:(b::r).length=r.length+1:=rfl;omega
     rw [e,List.eraseIdx_cons_succ,ih]
     all_goals rfl
theorem Go (its:List Value):∀ (k:Nat) (acc:List Value),
   List.foldl (fun x1 x2=>x1++x2) acc.toArray (List.replicate k its.toArray)=(acc++(List.replicate k its).flatten).toArray
 | 0,acc=>by simp
 | k+1,acc=>by
   have e:acc.toArray++its.toArray=(acc++its).toArray:=by simp
   have e2:(acc++its)++(List.replicate k its).flatten=acc++(List.replicate (k+1) its).flatten:=by
     rw [List.replicate_succ,List.flatten_cons,List.append_assoc]
   rw [<- e2,<- Go its k (acc++its),<- e,List.replicate_succ,List.foldl_cons]
section
variable {X:Cx} {pins:List (Addr × Obj)} {σ:St} {H:Hp} {s:Shared} {l b:Addr} {xs ys zs:List V}
theorem Inv.lset {its its':List Value} {n:Nat} {f:Array Value->Array Value} {t':Nat} (I:Inv X pins σ H s) (hH:H l=some (.lst xs))
   (e:s.heap.get? l=some { cls:=.type "list",data:=.seq its.toArray n }) (hf:f its.toArray=its'.toArray) (hv:Vals ys its') (hz:ys.length<=sizeLine) :
   Inv X pins σ (upd H l (.lst ys)) { s with heap:=s.heap.update l (Obj.mapSeq f),toks:=t' }:=by
 have q:=PySem.IsL.update e f;rw [hf] at q;refine I.write (x:=l) (e:=l) (by rw [hH];exact trivial) (.inl rfl) (fun b' u hb hu=>(Heap.get?_update_other s.heap (Obj.mapSeq f) (Ne.symm hb)).trans hu) ⟨_,q⟩ ?_;exact ⟨hz,its',_,hv,q⟩
theorem Inv.lnew {its:List Value} {t':Nat} (I:Inv X pins σ H s) (hv:Vals ys its) (hz:ys.length<=sizeLine) :
   Inv X pins σ (upd H s.heap.objs.size (.lst ys)) { s with heap:=s.heap.push { cls:=.type "list",data:=.seq its.toArray },toks:=t' } :=
 I.laid (fun _ _ q=>Heap.get?_push_of_some _ q) (Nat.le_refl _) ⟨hz,its,0,hv,Heap.get?_push_size _ rfl⟩
theorem Inv.fresh (I:Inv X pins σ H s):H s.heap.objs.size=none:=I.hok.fresh (Nat.le_refl _)
theorem Inv.lstM (I:Inv X pins σ H s) (hH:H l=some (.lst xs)):xs.length<=sizeLine/\∃ (its:List Value) (n:Nat),Vals xs its/\xs.length=its.length/\s.heap.get? l=some { cls:=.type "list",data:=.seq its.toArray n }:=by
 obtain ⟨z,its,n,r,e⟩:=I.hok l _ hH;exact ⟨z,its,n,r,r.length,e⟩
theorem Sq {n:Nat} (h:n<=sizeLine):Builtin.List.listTooLong n=false:=by
 unfold Builtin.List.listTooLong;exact decide_eq_false (by omega)
end
section
variable {X:Cx}
def rAppend:V->List V->Hp->VK->Prop:=fun x vs H Q=>∃ l xs y,x=.ref l/\vs=[y]/\H l=some (.lst xs)/\xs.length<sizeLine/\Q .non (upd H l (.lst (xs++[y])))
theorem ga:MtM X "list.append" rAppend:=by
 intro pins s σ H x vs v us Q I rx rv h;obtain ⟨l,xs,y,rfl,rfl,hH,hz,q⟩:=h;cases rx;obtain ⟨u,rfl,ru⟩:=rv.one;obtain ⟨z,its,n,r,hl,e⟩:=I.lstM hH;refine call_meets F.slot_list_append ⟨_,e,rfl⟩ F.entry_list_append (F.args_list_append_2 _ _) (PySem.list_append l its.toArray n u (by rw [List.size_toArray];omega)) ⟨e,?_⟩;refine ⟨.non,_,I.lset (its':=its++[u]) hH e (by simp) (r.append (.cons ru .nil)) ?_,rfl,q⟩;rw [List.length_append,List.length_singleton];omega
def rPop:V->List V->Hp->VK->Prop:=fun x vs H Q=>∃ l xs y,x=.ref l/\vs=[]/\H l=some (.lst xs)/\xs[xs.length - 1]?=some y/\Q y (upd H l (.lst xs.dropLast))
theorem IB:MtM X "list.pop" rPop:=by
 intro pins s σ H x vs v us Q I rx rv h;obtain ⟨l,xs,y,rfl,rfl,hH,hy,q⟩:=h;cases rx;have hus:=rv.zero;subst hus;obtain ⟨z,its,n,r,hl,e⟩:=I.lstM hH;obtain ⟨u,hu,ru⟩:=r.get hy;have hy':its.toArray[its.toArray.size - 1]?=some u:=by
   show its.toArray[its.length - 1]?=some u;rw [<- Array.getElem?_toList,<- hl];exact hu
 refine call_meets F.slot_list_pop ⟨_,e,rfl⟩ F.entry_list_pop (F.args_list_pop_1 _) (MeetsSeq.list_pop_last l its.toArray n u hy' (by rw [List.size_toArray];omega)) ⟨e,?_⟩;refine ⟨y,_,I.lset (its':=its.dropLast) hH e ?_ r.dropLast ?_,ru,q⟩
 . show its.toArray.eraseIdxIfInBounds (its.toArray.size - 1)=its.dropLast.toArray;rw [List.size_toArray,List.eraseIdxIfInBounds_toArray,Nn]
 . rw [List.length_dropLast];omega
def rCat:R2:=fun x y H Q=>∃ l b xs zs,x=.ref l/\y=.ref b/\H l=some (.lst xs)/\H b=some (.lst zs)/\xs.length+zs.length<=sizeLine/\∀ p,H p=none->Q (.ref p) (upd H p (.lst (xs++zs)))
theorem xc:OpR X (binaryOp .Add) rCat:=by
 intro pins s σ H x y v u Q I rx ry h;obtain ⟨l,b,xs,zs,rfl,rfl,hH,hB,hz,q⟩:=h;cases rx;cases ry;obtain ⟨z,its,n,r,hl,e⟩:=I.lstM hH;obtain ⟨z2,its2,n2,r2,hl2,e2⟩:=I.lstM hB;refine PySem.P.add_list e e2 ?_ (by rw [List.size_toArray,List.size_toArray];omega);have ea:its.toArray++its2.toArray=(its++its2).toArray:=by simp
 rw [ea];exact ⟨.ref _,_,I.lnew (t':=s.toks) (r.append r2) (by rw [List.length_append];omega),rfl,q _ I.fresh⟩
def rRep:R2:=fun x y H Q=>∃ l k xs,x=.ref l/\y=.int k/\H l=some (.lst xs)/\-(2^63)<=k/\k<2^63/\xs.length*k.toNat<=sizeLine /\
 ∀ p,H p=none->Q (.ref p) (upd H p (.lst (List.replicate k.toNat xs).flatten))
theorem Vg {α:Type} (xs:List α) (k:Nat):(List.replicate k xs).flatten.length=k*xs.length:=by
 induction k with
 | zero=>simp
 | succ k ih=>rw [List.replicate_succ,List.flatten_cons,List.length_append,ih,Nat.succ_mul,Nat.add_comm]
theorem uI:OpR X (binaryOp .Mult) rRep:=by
 intro pins s σ H x y v u Q I rx ry h;obtain ⟨l,k,xs,rfl,rfl,hH,h1,h2,hz,q⟩:=h;cases rx;obtain ⟨t,rfl⟩:=ry;obtain ⟨z,its,n,r,hl,e⟩:=I.lstM hH;have hlen:its.toArray.size*k.toNat<=sizeLine:=by rw [List.size_toArray,<- hl];exact hz
 have hcap:¬ its.toArray.size*k.toNat > (2^63 - 1) / 8:=by
   have:(sizeLine:Nat)<=(2^63 - 1) / 8:=by decide
   omega
 have hfit:¬ (!Builtin.List.listFitsIndex k)=true:=by
   rw [fitsIndex_both h1 h2];exact Bool.false_ne_true
 have hlong:¬ Builtin.List.listTooLong (its.toArray.size*k.toNat)=true:=by
   rw [Sq hlen];exact Bool.false_ne_true
 have hnew:List.foldl (fun x1 x2=>x1++x2) #[] (List.replicate (if its.toArray.isEmpty=true then 0 else k.toNat) its.toArray)=(List.replicate k.toNat its).flatten.toArray:=by
   have f0:∀ m:Nat,List.foldl (fun x1 x2=>x1++x2) #[] (List.replicate m its.toArray)=(List.replicate m its).flatten.toArray:=fun m=>by
     have:=Go its m [];rw [List.nil_append] at this;exact this
   rw [f0];cases its with
   | nil=>simp
   | cons a r'=>rw [if_neg (by simp)]
 refine wpAny_binaryOp_repeat_ref (T:="list") (U:="int") (by decide) ⟨_,e,rfl⟩ (fun s'=>typeIs_int s' k t) noFill_list_mul F.fills_int_mul F.slot_int_rmul repeat_list F.slot_int_index.lookup
   (call_meets F.slot_int_rmul (typeIs_int s k t) F.entry_int_rmul (F.args_int_rmul_2 _ _) (int___rmul___int_list k t l its.toArray n)
     ⟨e,rfl,⟨_,e,rfl⟩,call_meets F.slot_list_mul ⟨_,e,rfl⟩ F.entry_list_mul (F.args_list_mul_2 _ _) (AutoListH.list___mul___list_int_3 l its.toArray n k t hfit hcap hlong) ⟨e,?_⟩⟩)
 rw [hnew];exact ⟨.ref _,_,I.lnew (t':=s.toks) (r.rep k.toNat) (by rw [Vg,Nat.mul_comm];exact hz),rfl,q _ I.fresh⟩
end
section
variable {prog:Program} {w:World} {A:Around} {E:Value->Shared->Prop} {s:Shared}
set_option maxRecDepth 100000 in
end
section
variable {X:Cx}
end
end L2
namespace L2
open PySem PySem.Spec PyProof.Rows
section
variable {κ:Type} [DecidableEq κ]
def eA (kvs:List (κ × V)) (k:κ):Option V:=(kvs.find? fun kv=>decide (kv.1=k)).map (·.2)
def fL (kvs:List (κ × V)) (k:κ) (v:V):List (κ × V) :=
 if (kvs.any fun kv=>decide (kv.1=k))=true then kvs.map (fun kv=>if kv.1=k then (kv.1,v) else kv) else kvs++[(k,v)]
theorem gO {p:κ × V} {r:List (κ × V)} {k:κ} (e:p.1=k):eA (p::r) k=some p.2:=by simp [eA,List.find?_cons,e]
theorem gP {p:κ × V} {r:List (κ × V)} {k:κ} (e:¬ p.1=k):eA (p::r) k=eA r k:=by simp [eA,List.find?_cons,e]
theorem vc (k:κ):∀ kvs:List (κ × V),(kvs.any fun kv=>decide (kv.1=k))=(eA kvs k).isSome
 | []=>rfl
 | p::r=>by
   rw [List.any_cons];by_cases e:p.1=k
   . simp only [gO e,decide_eq_true e,Bool.true_or,Option.isSome_some]
   . rw [gP e,decide_eq_false e,Bool.false_or];exact vc k r
theorem IC (k j:κ) (y:V):∀ kvs:List (κ × V),eA (kvs.map fun kv=>if kv.1=k then (kv.1,y) else kv) j=(eA kvs j).map fun x=>if j=k then y else x
 | []=>rfl
 | p::r=>by
   have ih:=IC k j y r;rw [List.map_cons];by_cases h:p.1=k
   . rw [if_pos h];by_cases e:p.1=j
     . rw [gO (p:=(p.1,y)) e,gO e,Option.map_some,if_pos (e.symm.trans h)]
     . rw [gP (p:=(p.1,y)) e,gP e,ih]
   . rw [if_neg h];by_cases e:p.1=j
     . rw [gO (p:=p) e,gO e,Option.map_some,if_neg (fun z=>h (e.trans z))]
     . rw [gP (p:=p) e,gP e,ih]
theorem Gs (k j:κ) (y:V):∀ kvs:List (κ × V),eA kvs k=none->eA (kvs++[(k,y)]) j=if j=k then some y else eA kvs j
 | [],_=>by
   by_cases e:k=j
   . rw [if_pos e.symm];exact gO (p:=(k,y)) e
   . rw [if_neg (fun z=>e z.symm)];exact gP (p:=(k,y)) e
 | p::r,hn=>by
   rw [List.cons_append];have hk:¬ p.1=k:=fun z=>by rw [gO z] at hn;cases hn
   rw [gP hk] at hn;have ih:=Gs k j y r hn;by_cases e:p.1=j
   . rw [gO e,gO e,if_neg (fun z=>hk (e.trans z))]
   . rw [gP e,gP e,ih]
theorem JG (kvs:List (κ × V)) (k j:κ) (y:V):eA (fL kvs k y) j=if j=k then some y else eA kvs j:=by
 unfold fL;by_cases a:(kvs.any fun kv=>decide (kv.1=k))=true
 . rw [if_pos a,IC];rw [vc] at a;by_cases e:j=k
   . obtain ⟨x,hx⟩:=Option.isSome_iff_exists.mp a;rw [if_pos e,e,hx,Option.map_some,if_pos rfl]
   . rw [if_neg e];cases eA kvs j with
     | none=>rfl
     | some x=>rw [Option.map_some,if_neg e]
 . rw [if_neg a];refine Gs k j y kvs ?_;rw [vc] at a;cases q:eA kvs k with
   | none=>rfl
   | some x=>rw [q] at a;exact (a rfl).elim
theorem mJ (kvs:List (κ × V)) (k:κ) (v:V):(fL kvs k v).length<=kvs.length+1:=by
 unfold fL;split
 . rw [List.length_map];omega
 . rw [List.length_append,List.length_cons,List.length_nil];omega
theorem TU {kvs:List (κ × V)} {k:κ} (v:V) (h:eA kvs k=none):fL kvs k v=kvs++[(k,v)]:=by
 unfold fL;rw [vc,h];exact if_neg (by decide)
theorem RelO.isSome_eq {o:Option V} {u:Option Value} (r:RelO o u):o.isSome=u.isSome:=by
 cases o with
 | none=>cases u with
   | none=>rfl
   | some _=>exact (show False from r).elim
 | some _=>cases u with
   | none=>exact (show False from r).elim
   | some _=>rfl
theorem KV.val {kvs:List (κ × V)} {vs:List (κ × Value)} (r:KV kvs vs) (k:κ):RelO (eA kvs k) (valueAt vs k):=by
 unfold KV at r
 induction r with
 | nil=>exact True.intro
 | @cons p q ps qs h t ih =>
   obtain ⟨h1,h2⟩:=h;by_cases e:p.1=k
   . have e':q.1=k:=h1.symm.trans e;have b:valueAt (q::qs) k=some q.2:=(by simp [valueAt,List.find?_cons,e']);rw [gO e,b];exact h2
   . have e':¬ q.1=k:=fun z=>e (h1.trans z);have b:valueAt (q::qs) k=valueAt qs k:=(by simp [valueAt,List.find?_cons,e']);rw [gP e,b];exact ih
theorem KV.any {kvs:List (κ × V)} {vs:List (κ × Value)} (r:KV kvs vs) (k:κ):(kvs.any fun kv=>decide (kv.1=k))=vs.any fun kv=>decide (kv.1=k):=by
 unfold KV at r
 induction r with
 | nil=>rfl
 | cons h t ih=>rw [List.any_cons,List.any_cons,ih,h.1]
theorem KV.repl {kvs:List (κ × V)} {vs:List (κ × Value)} (r:KV kvs vs) (k:κ) {y:V} {u:Value} (ry:RelV y u) :
   KV (kvs.map fun kv=>if kv.1=k then (kv.1,y) else kv) (vs.map fun kv=>if kv.1=k then (kv.1,u) else kv):=by
 unfold KV at r ⊢
 induction r with
 | nil=>exact .nil
 | @cons p q ps qs h t ih =>
   rw [List.map_cons,List.map_cons];refine .cons ?_ ih;obtain ⟨h1,h2⟩:=h;by_cases e:p.1=k
   . rw [if_pos e,if_pos (h1.symm.trans e)];exact ⟨h1,ry⟩
   . rw [if_neg e,if_neg (fun z=>e (h1.trans z))];exact ⟨h1,h2⟩
theorem KV.put {kvs:List (κ × V)} {vs:List (κ × Value)} (r:KV kvs vs) (k:κ) {y:V} {u:Value} (ry:RelV y u):KV (fL kvs k y) (stored vs k u):=by
 unfold fL stored;rw [r.any k];by_cases e:(vs.any fun kv=>decide (kv.1=k))=true
 . rw [if_pos e,if_pos e];exact r.repl k ry
 . rw [if_neg e,if_neg e];exact Paired.snoc r ⟨rfl,ry⟩
theorem KV.length {kvs:List (κ × V)} {vs:List (κ × Value)} (r:KV kvs vs):kvs.length=vs.length:=Paired.length r
end
theorem BI {P:Program} {w:World} {k:Key} {u:Value} (r:RelV (kV k) u):(eZ P w).is k u=true:=by
 cases k with
 | inl i=>obtain ⟨t,e⟩:=(show ∃ t,u=Value.int i t from r);subst e;exact Mm P w i t
 | inr x=>obtain ⟨t,e⟩:=(show ∃ t,u=Value.str x t from r);subst e;exact Mb P w x t
theorem Gr {P:Program} {w:World}:∀ {ks:List Key} {us:List Value},Vals (ks.map kV) us->ItemsAre (eZ P w) ks us
 | [],_,r=>by rw [List.map_nil] at r;cases r;exact .nil
 | k::ks,_,r=>by
   rw [List.map_cons] at r;cases r with
   | cons h t=>exact .cons (BI h) (Gr t)
abbrev KT (H:Hp):List (List Key × V)->List (List Key × Addr × Value)->Prop:=Paired fun p q=>p.1=q.1/\H q.2.1=some (.tup (p.1.map kV))/\RelV p.2 q.2.2
theorem KT.val {H:Hp} {kvs:List (List Key × V)} {xs:List (List Key × Addr × Value)} (r:KT H kvs xs) (k:List Key):RelO (eA kvs k) ((atKey xs k).map (·.2)):=by
 induction r with
 | nil=>exact True.intro
 | @cons p q ps qs h t ih =>
   obtain ⟨h1,_,h2⟩:=h;by_cases e:p.1=k
   . have e':q.1=k:=h1.symm.trans e;have b:atKey (q::qs) k=some q.2:=(by simp [atKey,List.find?_cons,e']);rw [gO e,b];exact h2
   . have e':¬ q.1=k:=fun z=>e (h1.trans z);have b:atKey (q::qs) k=atKey qs k:=(by simp [atKey,List.find?_cons,e']);rw [gP e,b];exact ih
theorem KT.repl {H:Hp} {kvs:List (List Key × V)} {xs:List (List Key × Addr × Value)} (r:KT H kvs xs) (k:List Key) {y:V} {u:Value} (ry:RelV y u) :
   KT H (kvs.map fun kv=>if kv.1=k then (kv.1,y) else kv) (xs.map (putAt k u)):=by
 induction r with
 | nil=>exact .nil
 | @cons p q ps qs h t ih =>
   rw [List.map_cons,List.map_cons];refine .cons ?_ ih;obtain ⟨h1,h2,h3⟩:=h;unfold putAt;by_cases e:p.1=k
   . rw [if_pos e,if_pos (h1.symm.trans e)];exact ⟨h1,h2,ry⟩
   . rw [if_neg e,if_neg (fun z=>e (h1.trans z))];exact ⟨h1,h2,h3⟩
theorem KT.put {H:Hp} {kvs:List (List Key × V)} {xs:List (List Key × Addr × Value)} (r:KT H kvs xs) (k:List Key) {b:Addr} {y:V} {u:Value} (hb:H b=some (.tup (k.map kV))) (ry:RelV y u) :
   KT H (fL kvs k y) (storedH xs k b u):=by
 have e:(kvs.any fun kv=>decide (kv.1=k))=(atKey xs k).isSome:=by
   rw [vc,(r.val k).isSome_eq,Option.isSome_map]
 unfold fL storedH;rw [e];by_cases q:(atKey xs k).isSome=true
 . rw [if_pos q,if_pos q];exact r.repl k ry
 . rw [if_neg q,if_neg q];exact Paired.snoc r ⟨rfl,hb,ry⟩
theorem KT.keeps {H H':Hp} {kvs:List (List Key × V)} {xs:List (List Key × Addr × Value)} (r:KT H kvs xs) (ht:∀ b ys,H b=some (.tup ys)->H' b=some (.tup ys)):KT H' kvs xs :=
 Paired.mapP r fun _ _ z=>⟨z.1,ht _ _ z.2.1,z.2.2⟩
section
variable {P:Program} {w:World} {H:Hp} {h:Heap} {a:Addr}
theorem Uh {u:HO} (ok:HOk P w H h) (e:Rd H a u):ObjOk P w H h a u:=e.ok ok
theorem BA {kvs:List (Key × V)} (ok:HOk P w H h) (e:Rd H a (.dK kvs)):kvs.length<=sizeLine/\(a == sysModules)=false/\∃ vs,KV kvs vs/\h.DictOf (eZ P w) a vs :=
 show ObjOk P w H h a (.dK kvs) from Uh ok e
theorem Uc {kvs:List (Key × V)} (ok:HOk P w H h) (e:H a=some (.dK kvs)):kvs.length<=sizeLine/\(a == sysModules)=false/\∃ vs,KV kvs vs/\h.DictOf (eZ P w) a vs:=BA ok (.inl e)
theorem AY {ks:List Key} (ok:HOk P w H h) (e:H a=some (.tup (ks.map kV))):(tupleKind (eZ P w)).is h ks a:=by
 obtain ⟨_,its,r,o,h1,h2,n,h3⟩:=(show ObjOk P w H h a (.tup (ks.map kV)) from ok a _ e);exact ⟨o,its.toArray,n,h1,h2,h3,by simpa using Gr r⟩
theorem EL {kvs:List (List Key × V)} (ok:HOk P w H h) (e:Rd H a (.dT kvs)):kvs.length<=sizeLine/\(a == sysModules)=false /\
   ∃ xs,KT H kvs xs/\h.DictOfH (tupleKind (eZ P w)) a xs:=by
 obtain ⟨z,y,xs,r,o,es,ep,h1,h2,h3,h4,h5⟩:=(show ObjOk P w H h a (.dT kvs) from Uh ok e);refine ⟨z,y,xs,r,o,es,ep,h1,h2,h3,h4,fun x hx=>?_,h5⟩;have all:∀ {l:List (List Key × V)} {m:List (List Key × Addr × Value)},KT H l m->∀ x∈m,(tupleKind (eZ P w)).is h x.1 x.2.1:=by
   intro l m q
   induction q with
   | nil=>intro x hx;exact nomatch hx
   | @cons p q ps qs hq t ih =>
     intro x hx;rcases List.mem_cons.mp hx with e|hx
     . subst e;exact AY ok (by rw [<- hq.1];exact hq.2.1)
     . exact ih x hx
 exact all r x hx
theorem WX {kvs:List (List Key × V)} (ok:HOk P w H h) (e:H a=some (.dT kvs)):kvs.length<=sizeLine/\(a == sysModules)=false /\
   ∃ xs,KT H kvs xs/\h.DictOfH (tupleKind (eZ P w)) a xs:=EL ok (.inl e)
end
def DGet (H:Hp) (a:Addr) (y:V) (r:Option V):Prop :=
 (∃ kvs k,Rd H a (.dK kvs)/\y=kV k/\r=eA kvs k)\/∃ kvs k b,Rd H a (.dT kvs)/\y=.ref b/\H b=some (.tup (k.map kV))/\r=eA kvs k
def DPut (H:Hp) (a:Addr) (y v:V) (H':Hp):Prop :=
 (∃ kvs k,H a=some (.dK kvs)/\y=kV k/\kvs.length<sizeLine/\H'=upd H a (.dK (fL kvs k v))) \/
 ∃ kvs k b,H a=some (.dT kvs)/\y=.ref b/\H b=some (.tup (k.map kV))/\kvs.length<sizeLine/\H'=upd H a (.dT (fL kvs k v))
theorem DGet.k {H:Hp} {a:Addr} {kvs:List (Key × V)} {k:Key} (e:H a=some (.dK kvs)):DGet H a (kV k) (eA kvs k):=.inl ⟨kvs,k,.inl e,rfl,rfl⟩
theorem DGet.t {H:Hp} {a b:Addr} {kvs:List (List Key × V)} {k:List Key} (e:H a=some (.dT kvs)) (eb:H b=some (.tup (k.map kV))):DGet H a (.ref b) (eA kvs k):=.inr ⟨kvs,k,b,.inl e,rfl,eb,rfl⟩
theorem DPut.k {H:Hp} {a:Addr} {kvs:List (Key × V)} {k:Key} {v:V} (e:H a=some (.dK kvs)) (hl:kvs.length<sizeLine):DPut H a (kV k) v (upd H a (.dK (fL kvs k v))):=.inl ⟨kvs,k,e,rfl,hl,rfl⟩
theorem DPut.t {H:Hp} {a b:Addr} {kvs:List (List Key × V)} {k:List Key} {v:V} (e:H a=some (.dT kvs)) (eb:H b=some (.tup (k.map kV))) (hl:kvs.length<sizeLine) :
   DPut H a (.ref b) v (upd H a (.dT (fL kvs k v))):=.inr ⟨kvs,k,b,e,rfl,eb,hl,rfl⟩
section
variable {X:Cx} {pins:List (Addr × Obj)} {σ:St} {H:Hp} {s:Shared} {a:Addr} {y v:V} {u r:Value} {o:Option V} {A:Around} {E:Value->Shared->Prop}
theorem Inv.big (I:Inv X pins σ H s):sysModules<s.heap.objs.size:=by
 have h:mainGlobals<s.heap.objs.size:=(I.mod.glob.keeps I.bk).lt;exact Nat.lt_trans (by decide) h
theorem P4 {Q:Value->Shared->Prop} (hu:A.units+1<cLine) (I:Inv X pins σ H s) (g:DGet H a y (some v)) (ry:RelV y u) (h:∀ w' s',Inv X pins σ H s'->RelV v w'->Q w' s') :
   wpAny (model X.prog X.w) A (getItem (.ref a) u) Q E s:=by
 rcases g with ⟨kvs,k,e,ey,l⟩|⟨kvs,k,b,e,ey,eb,l⟩
 . subst ey;obtain ⟨z,hd,vs,rel,dd⟩:=BA I.hok e;obtain ⟨w',hw,rw'⟩:=RelO.some_of (v:=v) (o:=valueAt vs k) (by rw [l];exact rel.val k);exact wpAny_getItem_of (BI ry) dd.mapOf hw (h w' _ (I.tok _) rw')
 . subst ey;cases (show u=Value.ref b from ry);obtain ⟨z,hd,xs,rel,dd⟩:=EL I.hok e;obtain ⟨w',hw,rw'⟩:=RelO.some_of (v:=v) (o:=(atKey xs k).map (·.2)) (by rw [l];exact rel.val k);obtain ⟨p,hp,hp2⟩:=Option.map_eq_some_iff.mp hw;refine wpAny_getItem_heap (tupleKind_room_in1 hu) (AY I.hok eb) dd hp ?_;rw [hp2];exact h w' _ (I.tok _) rw'
theorem Xk {Q:Value->Shared->Prop} (hu:A.units+1<cLine) (I:Inv X pins σ H s) (g:DGet H a y o) (ry:RelV y u) (h:∀ s',Inv X pins σ H s'->Q (.bool o.isSome) s') :
   wpAny (model X.prog X.w) A (compareOp .In u (.ref a)) Q E s:=by
 rcases g with ⟨kvs,k,e,ey,l⟩|⟨kvs,k,b,e,ey,eb,l⟩
 . subst ey;obtain ⟨z,hd,vs,rel,dd⟩:=BA I.hok e;refine wpAny_in_of (BI ry) hd dd.mapOf ?_;rw [<- (rel.val k).isSome_eq,<- l];exact h _ (I.tok _)
 . subst ey;cases (show u=Value.ref b from ry);obtain ⟨z,hd,xs,rel,dd⟩:=EL I.hok e;refine wpAny_in_heap (tupleKind_room_in1 hu) (AY I.hok eb) hd dd ?_;have q:=(rel.val k).isSome_eq;rw [Option.isSome_map] at q;rw [<- q,<- l];exact h _ (I.tok _)
theorem Vm {Q:Value->Shared->Prop} (hu:A.units+1<cLine) (I:Inv X pins σ H s) (g:DGet H a y o) (ry:RelV y u) (h:∀ s',Inv X pins σ H s'->Q (.bool (!o.isSome)) s') :
   wpAny (model X.prog X.w) A (compareOp .NotIn u (.ref a)) Q E s:=by
 rcases g with ⟨kvs,k,e,ey,l⟩|⟨kvs,k,b,e,ey,eb,l⟩
 . subst ey;obtain ⟨z,hd,vs,rel,dd⟩:=BA I.hok e;refine wpAny_notIn_of (BI ry) hd dd.mapOf ?_;rw [<- (rel.val k).isSome_eq,<- l];exact h _ (I.tok _)
 . subst ey;cases (show u=Value.ref b from ry);obtain ⟨z,hd,xs,rel,dd⟩:=EL I.hok e;refine wpAny_notIn_heap (tupleKind_room_in1 hu) (AY I.hok eb) hd dd ?_;have q:=(rel.val k).isSome_eq;rw [Option.isSome_map] at q;rw [<- q,<- l];exact h _ (I.tok _)
theorem E3 {h':Heap} {t':Nat} {ob:HO} (I:Inv X pins σ H s) (mu:Mut (H a)) (hs:Heap.SameBut a s.heap h') (he:∃ q,h'.get? a=some q) (new:ObjOk X.prog X.w (upd H a ob) h' a ob) :
   Inv X pins σ (upd H a ob) { s with heap:=h',toks:=t' } :=
 I.write (x:=a) (e:=a) mu (.inl rfl) (fun b q hb z=>(hs.2 b hb).trans z) he new
theorem Qf {P:Program} {w:World} {H':Hp} {h':Heap} {kvs:List (Key × V)} {vs:List (Key × Value)} (z:kvs.length<=sizeLine) (hd:(a == sysModules)=false) (rel:KV kvs vs) (dd:h'.DictOf (eZ P w) a vs) :
   ObjOk P w H' h' a (.dK kvs):=⟨z,hd,vs,rel,dd⟩
theorem QI {H':Hp} {Q:Unit->Shared->Prop} (hu:A.units+1<cLine) (I:Inv X pins σ H s) (g:DPut H a y v H') (ry:RelV y u) (rv:RelV v r) (h:∀ s',Inv X pins σ H' s'->Q () s') :
   wpAny (model X.prog X.w) A (setItem (.ref a) u r) Q E s:=by
 rcases g with ⟨kvs,k,e,ey,l,eH⟩|⟨kvs,k,b,e,ey,eb,l,eH⟩
 . subst ey eH;obtain ⟨z,hd,vs,rel,dd⟩:=Uc I.hok e;have hz:vs.length<=sizeLine:=by rw [<- rel.length];exact z
   have hl:(fL kvs k v).length<=sizeLine:=by have:=mJ kvs k v;omega
   refine wpAny_setItem_pairs (hsz:=hz) (BI ry) dd fun h' dd' hs=>h _ ?_;have he:∃ q,h'.get? a=some q:=let ⟨q,_,_,hq,_⟩:=dd';⟨q,hq⟩;exact E3 I (by rw [e];exact True.intro) hs he (Qf hl hd (rel.put k rv) dd')
 . subst ey eH;cases (show u=Value.ref b from ry);obtain ⟨z,hd,xs,rel,dd⟩:=WX I.hok e;have hz:xs.length<=sizeLine:=by rw [<- Paired.length rel];exact z
   have hl:(fL kvs k v).length<=sizeLine:=by have:=mJ kvs k v;omega
   refine wpAny_setItem_heap (hsz:=hz) (tupleKind_room_in1 hu) (AY I.hok eb) dd fun h' dd' hs=>h _ ?_;obtain ⟨q,es,ep,hq,h2,h3,h4,_,h5⟩:=dd';refine E3 I (by rw [e];exact True.intro) hs ⟨q,hq⟩ ⟨hl,hd,_,(rel.put k eb rv).keeps fun c ys ec=>?_,q,es,ep,hq,h2,h3,h4,h5⟩;rw [ao (gv ec e (fun z=>nomatch z))];exact ec
end
section
variable {X:Cx} {pins:List (Addr × Obj)} {σ:St} {H:Hp} {s:Shared} {a:Addr} {kvs:List (Key × V)} {k:Key} {u:Value} {A:Around} {E:Value->Shared->Prop}
theorem Xb {Q:Value->Shared->Prop} (I:Inv X pins σ H s) (e:Rd H a (.dK kvs)) (h:∀ t s',Inv X pins σ H s'->Q (.int kvs.length t) s'):wpAny (model X.prog X.w) A (call (.builtin "len") [.ref a]) Q E s:=by
 obtain ⟨z,hd,vs,rel,dd⟩:=BA I.hok e;refine call_len_dict hd dd (by rw [<- rel.length];rw [sizeLine_eq] at z;omega) ?_;rw [<- rel.length];exact h _ _ (I.tok _)
end
def Wk (i:Expr):Prop:=∀ ov iv,subscripted i false ov iv=operate [ov,iv] (getItem ov iv)
theorem UO {prog:Program} {w:World} {A:Around} {E:Value->Shared->Prop} {s:Shared} {env:Env} {value slice:Expr} {pos:Pos} {T id:String} {Q:Value->Shared->Prop}
   (hl:typeLookup (.type T) "__getitem__"=pure (some (.builtin id))) (hs:Wk slice)
   (h:wpAny (model prog w) A (eval value env) (fun o s₁=>wpAny (model prog w) A (eval slice env) (fun i s₂=>s₂.TypeIs o T/\wpAny (model prog w) A (getItem o i) Q E s₂) E s₁) E s) :
   wpAny (model prog w) A (eval (.Subscript value slice pos) env) Q E s:=by
 refine Subscript_ (wpAny_mono h (fun o s₁ h₁=>wpAny_mono h₁ (fun i s₂ h₂=>?_) fun _ _ x=>x) fun _ _ x=>x);obtain ⟨hT,h₂⟩:=h₂;unfold subscriptTail;refine wpAny_bind ?_;rw [getitemInPython_of_ne hT.not_modules];refine wpAny_bind (wpAny_specialOf hT hl ?_);have fin:wpAny (model prog w) A (subscripted slice false o i) (fun r s₃=>wpAny (model prog w) A (letTemporaryGo value o r >>= fun _=>pure r) Q E s₃) E s₂:=by
   rw [hs o i];exact wpAny_operating (wpAny_mono h₂ (fun r s₃ h₃=>wpAny_bind (wpAny_letTemporaryGo (wpAny_pure h₃))) fun _ _ x=>x)
 first
   | exact wpAny_pure (wpAny_bind fin)
   | exact wpAny_bind (wpAny_pure (wpAny_bind fin))
   | exact wpAny_bind fin
theorem Md {X:Cx} {pins:List (Addr × Obj)} {σ:St} {H:Hp} {s:Shared} {a:Addr} {y:V} {o:Option V} (I:Inv X pins σ H s) (g:DGet H a y o):s.TypeIs (.ref a) "dict":=by
 rcases g with ⟨kvs,k,e,_,_⟩|⟨kvs,k,b,e,_,_,_⟩
 . obtain ⟨_,_,vs,_,dd⟩:=BA I.hok e;exact dd.typeIs
 . obtain ⟨_,_,xs,_,dd⟩:=EL I.hok e;exact dd.typeIs
def OP (td ty:TE):TE:=fun σ H Q=>td σ H fun x H1=>ty σ H1 fun y H2=>∃ a v,x=.ref a/\DGet H2 a y (some v)/\Q v H2
def RN (ty td:TE):TE:=fun σ H Q=>ty σ H fun y H1=>td σ H1 fun x H2=>∃ a o,x=.ref a/\DGet H2 a y o/\Q (.bl o.isSome) H2
def Fm (ty td:TE):TE:=fun σ H Q=>ty σ H fun y H1=>td σ H1 fun x H2=>∃ a o,x=.ref a/\DGet H2 a y o/\Q (.bl (!o.isSome)) H2
def OC (td ty tv:TE):TS:=fun D σ H=>tv σ H fun v H1=>td σ H1 fun x H2=>ty σ H2 fun y H3=>∃ a H4,x=.ref a/\DPut H3 a y v H4/\D.nx σ H4
section
variable {X:Cx} {o i e value:Expr} {pos pos' tpos:Pos} {td ty tv:TE}
theorem UP (hu:X.A.units+1<cLine) (ho:PE X o td) (hi:PE X i ty) (hs:Wk i):PE X (.Subscript o i pos) (OP td ty):=by
 intro pins s σ H Q I h;refine UO PySem.F.slot_dict_getitem.lookup hs (bS (ho pins s σ H _ I h) fun u s1 x H1 I1 rx q1=>bS (hi pins s1 σ H1 _ I1 q1) fun iv s2 y H2 I2 ry ⟨a,v,ex,g,q2⟩=>?_);subst ex;obtain rfl:u=Value.ref a:=rx;exact ⟨Md I2 g,P4 hu I2 g ry fun w' s3 I3 rw'=>⟨v,H2,I3,rw',q2⟩⟩
theorem WL (hu:X.A.units+1<cLine) (hi:PE X i ty) (ho:PE X o td):PC X .In i o (RN ty td):=by
 intro pins s σ H Q I h;refine bS (hi pins s σ H _ I h) fun iv s1 y H1 I1 ry q1=>bS (ho pins s1 σ H1 _ I1 q1) fun u s2 x H2 I2 rx ⟨a,ov,ex,g,q2⟩=>?_;subst ex;obtain rfl:u=Value.ref a:=rx;exact Xk hu I2 g ry fun s3 I3=>⟨.bl ov.isSome,H2,I3,rfl,q2⟩
theorem QC (hu:X.A.units+1<cLine) (hi:PE X i ty) (ho:PE X o td):PC X .NotIn i o (Fm ty td):=by
 intro pins s σ H Q I h;refine bS (hi pins s σ H _ I h) fun iv s1 y H1 I1 ry q1=>bS (ho pins s1 σ H1 _ I1 q1) fun u s2 x H2 I2 rx ⟨a,ov,ex,g,q2⟩=>?_;subst ex;obtain rfl:u=Value.ref a:=rx;exact Vm hu I2 g ry fun s3 I3=>⟨.bl (!ov.isSome),H2,I3,rfl,q2⟩
theorem Fz (hu:X.A.units+1<cLine) (ho:PE X o td) (hi:PE X i ty) (hv:PE X value tv) (hs:swapsWith value (some (.Subscript o i pos')) pos.line X.env=pure false) :
   PS X (.Assign [.Subscript o i pos'] value pos) (OC td ty tv):=by
 intro pins s σ H D I h;refine wpAny_Assign_Subscript (bS (hv pins s σ H _ I h) fun r s1 v H1 I1 rv q1=>bS (ho pins s1 σ H1 _ I1 q1) fun u s2 x H2 I2 rx q2=>bS (hi pins s2 σ H2 _ I2 q2) fun iv s3 y H3 I3 ry ⟨a,H4,ex,g,q3⟩=>?_) hs;subst ex;obtain rfl:u=Value.ref a:=rx;exact QI hu I3 g ry rv fun s4 I4=>⟨σ,H4,I4,q3⟩
end
theorem R6 {P:Program} {w:World} {H:Hp} (h:Heap) (hb:sysModules<h.objs.size):ObjOk P w H (h.push { cls:=.type "dict",data:=.dict #[] }) h.objs.size (.dK []) :=
 ⟨Nat.zero_le _,beq_eq_false_iff_ne.mpr (Ne.symm (Nat.ne_of_lt hb)),[],.nil,Heap.DictOf.new h⟩
theorem SD {P:Program} {w:World} {H:Hp} (h:Heap) (hb:sysModules<h.objs.size):ObjOk P w H (h.push { cls:=.type "dict",data:=.dict #[] }) h.objs.size (.dT []) :=
 ⟨Nat.zero_le _,beq_eq_false_iff_ne.mpr (Ne.symm (Nat.ne_of_lt hb)),[],.nil,_,#[],0,Heap.get?_push_size _ rfl,⟨rfl,rfl,rfl⟩,rfl,rfl,List.nodup_nil⟩
def PP:TE:=fun _ H Q=>∀ p,H p=none->Q (.ref p) (upd H p (.dK []))
def tDNewT:TE:=fun _ H Q=>∀ p,H p=none->Q (.ref p) (upd H p (.dT []))
section
variable {X:Cx} {pos:Pos}
theorem Tq:PE X (.Dict [] [] pos) tDNewT:=fun pins s σ H Q I h =>
 wpAny_Dict_empty ⟨.ref s.heap.objs.size,_,I.laid (a:=s.heap.objs.size) (o:=.dT []) (t':=s.toks) (fun _ _ q=>Heap.get?_push_of_some _ q) (Nat.le_refl _) (SD s.heap I.big),rfl,h _ (I.hok.fresh (Nat.le_refl _))⟩
end
def wY:List (TE × TE)->St->Hp->(List (V × V)->Hp->Prop)->Prop
 | [],_,H,Q=>Q [] H
 | (tk,tv)::r,σ,H,Q=>tk σ H fun x H1=>tv σ H1 fun y H2=>wY r σ H2 fun ps H3=>Q ((x,y)::ps) H3
abbrev VV:List (V × V)->List (Value × Value)->Prop:=Paired fun p q=>RelV p.1 q.1/\RelV p.2 q.2
def PPs (X:Cx) (pos:Pos) (keys:List (Option Expr)) (values:List Expr) (trs:List (TE × TE)):Prop :=
 ∀ (pins:List (Addr × Obj)) (s:Shared) (σ:St) (H:Hp) (Q:List (V × V)->Hp->Prop),Inv X pins σ H s->wY trs σ H Q ->
   wpAny (model X.prog X.w) X.A (evalPairs (pairTrees keys values X.env pos)) (fun vs s'=>∃ ps H',Inv X pins σ H' s'/\VV ps vs/\Q ps H') X.xe s
theorem U1 {X:Cx} {pos:Pos}:PPs X pos [] [] []:=fun pins s σ H Q I h=>pairTrees_nil_walk ⟨[],H,I,.nil,h⟩
theorem T6 {X:Cx} {pos:Pos} {k v:Expr} {ks:List (Option Expr)} {vs:List Expr} {tk tv:TE} {trs:List (TE × TE)} (hk:PE X k tk) (hv:PE X v tv) (hr:PPs X pos ks vs trs) :
   PPs X pos (some k::ks) (v::vs) ((tk,tv)::trs):=fun pins s σ H Q I h =>
 pairTrees_cons_walk (bS (hk pins s σ H _ I h) fun u s1 x H1 I1 rx q1=>bS (hv pins s1 σ H1 _ I1 q1) fun w2 s2 y H2 I2 ry q2 =>
   thn (hr pins s2 σ H2 _ I2 q2) fun ws s3 ⟨ps,H3,I3,rel,q3⟩=>⟨(x,y)::ps,H3,I3,.cons ⟨rx,ry⟩ rel,q3⟩)
def xz (kvs more:List (Key × V)):List (Key × V):=more.foldl (fun acc kv=>fL acc kv.1 kv.2) kvs
theorem KV.merge:∀ {more:List (Key × V)} {rs:List (Key × Value)} {kvs:List (Key × V)} {vs:List (Key × Value)},KV more rs->KV kvs vs->KV (xz kvs more) (merged vs rs):=by
 intro more rs kvs vs r;unfold KV at r
 induction r generalizing kvs vs with
 | nil=>intro q;exact q
 | @cons p q ps qs h t ih =>
   intro r0;have e:KV (fL kvs p.1 p.2) (stored vs q.1 q.2):=by
     have:=r0.put p.1 h.2;rw [<- h.1];exact this
   exact ih e
theorem zz:∀ (more kvs:List (Key × V)),(xz kvs more).length<=kvs.length+more.length
 | [],kvs=>by show kvs.length<=kvs.length+0;omega
 | p::r,kvs=>by
   have h1:=zz r (fL kvs p.1 p.2);have h2:=mJ kvs p.1 p.2;show (xz (fL kvs p.1 p.2) r).length<=_;rw [List.length_cons];omega
theorem DN {P:Program} {w:World}:∀ {kvs:List (Key × V)} {ws:List (Value × Value)},VV (kvs.map fun kv=>(kV kv.1,kv.2)) ws->∃ rs,Carries (eZ P w) ws rs/\KV kvs rs
 | [],_,r=>by rw [List.map_nil] at r;cases r;exact ⟨[],True.intro,.nil⟩
 | p::kvs,_,r=>by
   rw [List.map_cons] at r;cases r with
   | @cons a b as bs h t =>
     obtain ⟨rs,c,q⟩:=DN (P:=P) (w:=w) t;obtain ⟨b1,b2⟩:=b;exact ⟨(p.1,b2)::rs,⟨BI h.1,rfl,c⟩,.cons ⟨rfl,h.2⟩ q⟩
def Oq (trs:List (TE × TE)):TE:=fun σ H Q=>∀ p,H p=none->wY trs σ (upd H p (.dK [])) fun ps H2=>H2 p=some (.dK [])/\∃ kvs:List (Key × V),ps=kvs.map (fun kv=>(kV kv.1,kv.2))/\kvs.length<=15/\Q (.ref p) (upd H2 p (.dK (xz [] kvs)))
theorem UN {X:Cx} {pos:Pos} {keys:List (Option Expr)} {values:List Expr} {trs:List (TE × TE)} (h:PPs X pos keys values trs) (hall:keys.all (·.isSome)=true) (hl:keys.length=values.length) (h0:keys≠[])
   (h15:keys.length<=15):PE X (.Dict keys values pos) (Oq trs):=by
 intro pins s σ H Q I q;have hn:=I.hok.fresh (Nat.le_refl s.heap.objs.size);have I1:=I.laid (a:=s.heap.objs.size) (o:=.dK []) (h':=s.heap.push { cls:=.type "dict",data:=.dict #[] }) (t':=s.toks) (fun _ _ q=>Heap.get?_push_of_some _ q) (Nat.le_refl _) (R6 s.heap I.big);refine wpAny_Dict_walk (knd:=eZ X.prog X.w) hall hl h0 h15 (thn (h pins _ σ _ _ I1 (q _ hn)) fun ws s2 ⟨ps,H2,I2,rel,e,kvs,ep,lk,q2⟩=>?_);subst ep;obtain ⟨rs,c,rk⟩:=DN (P:=X.prog) (w:=X.w) rel;obtain ⟨z,hd,vs0,r0,dd⟩:=Uc I2.hok e;cases r0;refine ⟨rs,c,dd,fun h' dd' hs=>⟨.ref s.heap.objs.size,_,?_,rfl,q2⟩⟩;have hz:(xz [] kvs).length<=sizeLine:=by
   have h1:=zz kvs [];rw [List.length_nil] at h1;rw [sizeLine_eq];omega
 have he:∃ q,h'.get? s.heap.objs.size=some q:=let ⟨q,_,_,hq,_⟩:=dd';⟨q,hq⟩;exact E3 I2 (by rw [e];exact True.intro) hs he (Qf hz hd (rk.merge .nil) dd')
section
variable {X:Cx} {pins:List (Addr × Obj)} {σ:St} {H:Hp} {s:Shared} {a:Addr} {y d:V} {u r:Value} {o:Option V} {A:Around} {E:Value->Shared->Prop}
end
section
variable {X:Cx} {o e f:Expr} {apos cpos:Pos} {td ty tx:TE}
end
section
variable {X:Cx} {pins:List (Addr × Obj)} {σ:St} {H:Hp} {s:Shared} {a:Addr} {kvs:List (Key × V)} {A:Around} {E:Value->Shared->Prop}
end
section
variable {X:Cx} {pins:List (Addr × Obj)} {σ:St} {H:Hp} {s:Shared} {a:Addr} {y:V} {u:Value} {A:Around} {E:Value->Shared->Prop}
end
end L2
namespace Att
open PySem PySem.W PySem.Calls PyProof.Rows
theorem D6 {P:Params} {h:Heap}:∀ (ns:List Int) (vs:List Value),WellAll P h vs (ns.map WData.int)->IntsAre vs ns:=by
 intro ns
 induction ns with
 | nil =>
   intro vs w;rw [List.map_nil] at w;cases w;exact .nil
 | cons n ns ih =>
   intro vs w;rw [List.map_cons] at w;cases w with
   | cons a b =>
     cases a;exact .cons _ _ (ih _ b)
theorem P6 {l:OpenLaw} {n:Nat} (hn:l.most=some n) {P:Params} {h:Heap} {args:List WData} {vals:List Value}
   (hpre:l.row.toRowW.claim.pre args=true) (hwl:WellAll P h vals args) :
   ∃ a vs ns,vals=[Value.ref a]/\args=[WData.list (ns.map WData.int)]/\h.get? a=some { cls:=.type "list",data:=.seq vs.toArray }/\IntsAre vs ns/\ns.length<=n:=by
 have hsh:WShape.hasAll [] args [.list .int]=true:=(pre_splitW hpre).1;have hc:l.pre.holds [] { args:=args }=true:=(pre_splitW hpre).2;obtain ⟨d,r,rfl,h1,h2⟩:=hasAllW_cons hsh;obtain rfl:=hasAllW_nil h2;obtain ⟨xs,rfl,h3⟩:=hasW_list h1;obtain ⟨ns,rfl⟩:=items_int h3;have hlen:ns.length<=n:=by
   unfold OpenLaw.pre at hc;have h4:(WTm.not (.lt (.lit (.int (n:Int))) (.len (.arg 0)))).holds [] { args:=[.list (ns.map .int)] }=true:=by
     have h4:=(holds_andW hc).1;rw [hn] at h4;exact h4
   have h5:=condW_of h4 (w_not (w_lt w_lit (w_len_list (w_arg rfl))));rw [List.length_map] at h5;refine Nat.le_of_not_lt fun q=>?_;have q':(n:Int)<((ns.length:Nat):Int):=by omega
   first
     | (rw [decide_eq_true q'] at h5;exact absurd h5 (by decide))
     | (simp at h5;omega)
 cases hwl with
 | cons w1 w2 =>
   cases w2;cases w1 with
   | list ho hall=>exact ⟨_,_,ns,rfl,rfl,ho,D6 ns _ hall,hlen⟩
theorem Pn (l:OpenLaw) (args:List WData):l.row.toRowW.claim.post args (.bool true) args=true :=
 postW_of (r:=l.row.toRowW) (X:=(true == true))
   (show WShape.has [] (.bool true) .bool=true by first|rfl|decide|simp [WShape.has,WShape.arms,WShape.armsAll])
   (show (WTm.eq .res (.lit (.bool true))).value [] { args:=args,res:=some (.bool true),after:=args }=some (.bool (true == true)) from w_eq_bool (w_res rfl) w_lit) rfl
theorem attach_call {l:OpenLaw} {n:Nat} {q:Program} {loose:List Str} {XP:(Str->Option Value)->Heap->Prop} {YP:World->Heap->Prop} {d:DefRec}
   (hn:l.most=some n) (hdf:d.params.defaults=[])
   (call:∀ (w:World) (s₀ s₁:Shared) (mg mb:Str->Option Value) (fa:Addr) (o:Obj) (pm cd doc:Value) (a:Addr) (vs:List Value) (ns:List Int),
     Ground q loose [] XP w s₀ mg mb s₁.heap->YP w s₁.heap ->
     s₁.heap.get? fa=some o->o.data=.func (docDef d.name d.params d.body d.scope pm cd doc)->s₁.heap.CodeRec cd d.name->mg d.name=some (.ref fa) ->
     s₁.heap.get? a=some { cls:=.type "list",data:=.seq vs.toArray }->IntsAre vs ns->ns.length<=n->s₁.gens=#[] ->
     codeAny (model l.prog w) callerA (.call (.ref fa) ⟨[.ref a],[]⟩) (fun r s'=>r=.ok (.ret (.bool true))/\OldK s₁.heap s'.heap/\s'.os=s₁.os/\AllBare s'.gens) s₁) :
   WalkO q loose XP YP l.row.toRowW d [] (fun f vs=>PySem.call f vs):=by
 intro w s₀ s₁ mg mb G Y fa o pm cd doc dV kV ho hd hcd hD hmg hg args vals as hpre hlay hrd hwl hlo;obtain rfl:dV=.none:=Dflts.none hD hdf;obtain rfl:kV=.none:=Dflts.noKw hD;obtain ⟨a,vs,ns,rfl,rfl,hobj,hints,hlen⟩:=P6 hn hpre hwl;refine enter_call (codeAny_mono (call w s₀ s₁ mg mb fa o pm cd doc a vs ns G Y ho (fd_plain hd) hcd hmg hobj hints hlen hg) fun r s' hq=>?_);obtain ⟨rfl,h2,h3,h4⟩:=hq;exact ⟨.inl ⟨.bool true,.bool true,[],rfl,fun _=>rfl,.bool true,Pn l _,fun _=>⟨List.Pairwise.nil,fun _ hm=>(nomatch hm)⟩⟩,h2,h3,h4⟩
section
variable {prog:Program} {w:World} {A:Around} {E:Value->Shared->Prop} {s:Shared} {K:Frag}
end
end Att
namespace L2
open PySem PySem.Spec PyProof.Rows
theorem Gb:∀ {vs:List Value} {ns:List Int},IntsAre vs ns->Vals (ns.map V.int) vs
 | _,_,.nil=>.nil
 | _,_,.cons n t h=>.cons ⟨t,rfl⟩ (Gb h)
def TJ (H:Hp):Prop:=∀ b,H b=none\/∃ o xs,H b=some (.frz o (.lst xs))
theorem SV {P:Program} {w:World} {K:PySem.W.Frag} {mg mb:Str->Option Value} {CX:CXT} {k:Nat} {fa a:Addr} {fd:FuncData} {x:Str} {sp:Sp} {s₁:Shared} {vs:List Value} {ns:List Int}
   (KX:K.In s₁.heap) (hns:s₁.heap.Ns mainGlobals mg) (hb:s₁.heap.Ns builtinsNs mb) (hbb:∀ x:Str,x≠"__name__"->mb x=bootBuiltins x) (hlim:s₁.heap.NoLimit) (hg:s₁.gens=#[])
   (ha:s₁.heap.get? a=some { cls:=.type "list",data:=.seq vs.toArray }) (hi:IntsAre vs ns) (hl:ns.length<=sizeLine) (hr:Room k callerA)
   (F:∀ base:Heap,K.In base->base.Ns mainGlobals mg->FnOk P w K mg base CX k fa fd [x] sp) (hbind:∀ (s:Shared) (u:Value),BindsTo s fd ⟨[u],[]⟩ [(x,u)])
   (hsp:∀ H:Hp,TJ H->SqL K H a (ns.map V.int)->sp [.ref a] H (fun v _=>v=.bl true) fun _ _ _=>False)
   (hCX:∀ H e s',CX [] H s₁ (fun _ _ _=>False) e s'->False) :
   codeAny (model P w) callerA (.call (.ref fa) ⟨[.ref a],[]⟩) (fun r s'=>r=.ok (.ret (.bool true))/\OldK s₁.heap s'.heap/\s'.os=s₁.os/\AllBare s'.gens) s₁:=by
 have rv:=Gb hi;have lenV:=hi.length;have core:∀ H:Hp,TJ H->SqL K H a (ns.map V.int)->HOk P w H s₁.heap->(∀ b,H b≠none->b=a)->(H a≠none->K.lookup a=none) ->
     codeAny (model P w) callerA (.call (.ref fa) ⟨[.ref a],[]⟩) (fun r s'=>r=.ok (.ret (.bool true))/\OldK s₁.heap s'.heap/\s'.os=s₁.os/\AllBare s'.gens) s₁:=by
   intro H hO hS hok hA hK;have base_of:∀ {b:Addr} {o:Obj},s₁.heap.get? b=some o->H b=none->(y6 s₁.heap H).get? b=some o:=fun e n=>Sm e n;have noA:∀ {b:Addr} {o:Obj} {es:Array DictEntry} {ep:Nat},s₁.heap.get? b=some o->o.data=.dict es ep->H b=none:=fun {b o es ep} e d=>by
     cases q:H b with
     | none=>rfl
     | some u =>
       have e':b=a:=hA b (by rw [q];simp);subst e';rw [ha] at e;cases e;have d':Data.seq vs.toArray _=Data.dict es ep:=d;cases d'
   have nsK:∀ {b:Addr} {m:Str->Option Value},s₁.heap.Ns b m->(y6 s₁.heap H).Ns b m:=fun {b m} ⟨o,es,ep,e,d,r⟩=>⟨o,es,ep,base_of e (noA e d),d,r⟩;have hKb:K.In (y6 s₁.heap H):=fun b o e=>base_of (KX b o e) (by
     cases q:H b with
     | none=>rfl
     | some u =>
       have e':b=a:=hA b (by rw [q];simp);subst e';rw [hK (by rw [q];simp)] at e;cases e)
   have hM:Mod K mg (y6 s₁.heap H):=⟨hKb,nsK hns,⟨mb,nsK hb,hbb⟩,let ⟨mc,h1,h2⟩:=hlim;⟨mc,nsK h1,h2⟩⟩;have e0:Env0 P w K mg (y6 s₁.heap H) callerA [] s₁ H:=⟨rfl,hM,fun b o e=>Vb e,Nat.le_of_eq (Ps _ _),trivial,fun b hb=>absurd (show b∈([]:List Addr) from hb) (by simp),hok,.of_eq hg⟩;refine codeAny_mono ((F _ hKb (nsK hns)).run callerA [] s₁ H ⟨[.ref a],[]⟩ [.ref a] [.ref a] _ _ hr e0 (hbind s₁ (.ref a)) (.cons rfl .nil) (hsp H hO hS)) fun r s' h=>?_;cases r with
   | error e=>exact (hCX H e s' h).elim
   | ok fl =>
     cases fl with
     | next=>exact False.elim h
     | brk=>exact False.elim h
     | cont=>exact False.elim h
     | ret u =>
       obtain ⟨v,H',os,bare,un,hok',r',q⟩:=h;have q':v=.bl true:=q;subst q';obtain rfl:u=Value.bool true:=r';refine ⟨rfl,OldK.of_keep fun b o e=>?_,os,bare⟩;cases q:H b with
       | none=>exact un.keep b o e q (by intro z;exact absurd (show b∈([]:List Addr) from z) (by simp)) (by simp)
       | some u =>
         rcases hO b with z|⟨ob,xs,z⟩
         . rw [q] at z;cases z
         . have z2:=un.frzs b ob _ z;obtain ⟨e1,_⟩:=hok b _ z;obtain ⟨e2,_⟩:=hok' b _ z2;rw [e] at e1;cases e1;exact e2
 cases hk:K.lookup a with
 | some o =>
   have e:=KX a o hk;rw [ha] at e;cases e;refine core (fun _=>none) (fun _=>.inl rfl) (.inr ⟨_,vs.toArray,_,hk,rfl,rfl,rfl,by rw [List.size_toArray,lenV];exact hl,by simpa using rv⟩) (fun b u z=>by have z':(none:Option HO)=some u:=z;cases z') (fun b z=>absurd rfl z) fun z=>absurd rfl z
 | none =>
   refine core (fun b=>if b=a then some (.frz { cls:=.type "list",data:=.seq vs.toArray } (.lst (ns.map V.int))) else none) (fun b=>?_) (.inl (.inr ⟨{ cls:=.type "list",data:=.seq vs.toArray },if_pos rfl⟩)) (fun b u z=>?_) (fun b z=>?_) fun _=>hk
   . by_cases hb:b=a
     . exact .inr ⟨_,_,if_pos hb⟩
     . exact .inl (if_neg hb)
   . by_cases hb:b=a
     . have z':=(if_pos hb).symm.trans z;cases z';subst hb;exact ⟨ha,by rw [List.length_map];exact hl,vs,_,rv,ha⟩
     . have z':=(if_neg hb).symm.trans z;cases z'
   . by_cases hb:b=a
     . exact hb
     . exact absurd (if_neg hb) z
end L2
namespace L2
open PySem PySem.Spec PyProof.Rows
theorem walk_of {l:PySem.W.OpenLaw} {n k:Nat} {q:Program} {loose:List Str} {XP:(Str->Option Value)->Heap->Prop} {YP:World->Heap->Prop} {d:DefRec} {K:Params->PySem.W.Frag} {CX:World->CXT} {sp:World->Sp} {x:Str}
   (hn:l.most=some n) (hn2:n<=sizeLine) (hdf:d.params.defaults=[]) (hr:Room k callerA)
   (hY:∀ (w:World) (h:Heap),YP w h->(K w.params).In h)
   (F:∀ (w:World) (mg:Str->Option Value) (fa:Addr) (h:Heap),(K w.params).In h->h.Ns mainGlobals mg->mg d.name=some (.ref fa) ->
     ∃ fd:FuncData,(∀ (s:Shared) (u:Value),BindsTo s fd ⟨[u],[]⟩ [(x,u)]) /\
       ∀ base:Heap,(K w.params).In base->base.Ns mainGlobals mg->FnOk l.prog w (K w.params) mg base (CX w) k fa fd [x] (sp w))
   (hsp:∀ (w:World) (H:Hp) (a:Addr) (ns:List Int),ns.length<=n->TJ H->SqL (K w.params) H a (ns.map V.int)->sp w [.ref a] H (fun v _=>v=.bl true) fun _ _ _=>False)
   (hCX:∀ (w:World) (H:Hp) (s:Shared) (e:Value) (s':Shared),CX w [] H s (fun _ _ _=>False) e s'->False) :
   PySem.W.WalkO q loose XP YP l.row.toRowW d [] (fun f vs=>PySem.call f vs):=by
 refine Att.attach_call hn hdf fun w s₀ s₁ mg mb fa o pm cd doc a vs ns G Y ho hd hcd hmg hobj hints hlen hg=>?_;have KX:=hY w _ Y;obtain ⟨fd,hb,hF⟩:=F w mg fa _ KX G.T.g hmg;exact SV KX G.T.g G.T.b G.T.builtins G.T.nolimit hg hobj hints (Nat.le_trans hlen hn2) hr hF hb (fun H hO hS=>hsp w H a ns hlen hO hS) fun H e s'=>hCX w H s₁ e s'
end L2
namespace L2
open PySem PySem.Spec PyProof.Rows
def Uu (s:Stmt) (j:Nat):Stmt:=match s with
 | .ClassDef _ _ _ body _ _ _ _ _ _ _=>body.getD j (.Pass ⟨0,0,0,0⟩)
 | _=>.Pass ⟨0,0,0,0⟩
def aD (s:Stmt):Arguments:=match s with
 | .FunctionDef _ a _ _ _ _ _ _ _ _=>a
 | _=>{ posonlyargs:=[],args:=[],vararg:=none,kwonlyargs:=[],kw_defaults:=[],kwarg:=none,defaults:=[] }
def aA (s:Stmt):List Stmt:=match s with
 | .FunctionDef _ _ b _ _ _ _ _ _ _=>b
 | _=>[]
def aa (s:Stmt):Scope:=match s with
 | .FunctionDef _ _ _ _ _ _ sc _ _ _=>sc
 | _=>{ kind:=.function,names:=[],isGenerator:=false,isCoroutine:=false }
abbrev CX0:CXT:=fun _ _ _ _ _ _=>False
abbrev E0:XK:=fun _ _ _=>False
structure Fun (K:PySem.W.Frag) (x qual:Str) (st:Stmt) (f:Addr) (fd:FuncData):Prop where
 ex:∃ (oc:Value) (od:Option Addr) (kV doc pm:Value) (an:Option Addr) (cdv ct:Value) (osl:Array (Option Value)),
   fd=PySem.W.fnOf x qual (aD st) (aA st) (aa st) .none kV doc pm an cdv ct/\K.lookup f=some ⟨oc,od,.func fd,osl⟩/\PySem.W.codeIn K cdv qual=true
 kp:PySem.W.keepIn K (.ref f)=true
section
variable {P:Program} {w:World} {K:PySem.W.Frag} {mg:Str->Option Value} {base:Heap}
theorem Fun.binds {x qual:Str} {st:Stmt} {f:Addr} {fd:FuncData} {ps:List Str} (F:Fun K x qual st f fd)
   (h:∀ (kV doc pm:Value) (an:Option Addr) (cdv ct:Value) (us:List Value),us.length=ps.length->bindArgs (PySem.W.fnOf x qual (aD st) (aA st) (aa st) .none kV doc pm an cdv ct) ⟨us,[]⟩=pure (ps.zip us)):Binds K fd ps []:=by
 obtain ⟨oc,od,kV,doc,pm,an,cdv,ct,osl,rfl,lk,hcd⟩:=F.ex;exact .all (h kV doc pm an cdv ct)
theorem aK {x qual:Str} {st:Stmt} {f:Addr} {oc:Value} {od an:Option Addr} {osl:Array (Option Value)} {kV doc pm cdv ct:Value} (l:K.lookup f=some ⟨oc,od,.func (PySem.W.fnOf x qual (aD st) (aA st) (aa st) .none kV doc pm an cdv ct),osl⟩)
   (c:PySem.W.codeIn K cdv qual=true) (k:PySem.W.keepIn K (.ref f)=true):Fun K x qual st f (PySem.W.fnOf x qual (aD st) (aA st) (aa st) .none kV doc pm an cdv ct):=⟨⟨oc,od,kV,doc,pm,an,cdv,ct,osl,rfl,l,c⟩,k⟩
end
theorem Il {A:Around} {k:Nat} (hr:Room k A):A.units+1<cLine:=Nat.lt_of_le_of_lt (Nat.add_le_add_left (by decide:1<=64) _) hr.units
section
variable {X:Cx}
theorem pv (i:Nat) {x:Str} {pos:Pos} (hN:X.N[i]?=some x:=by rfl) (hv:Vis X.env.scope x:=by first|exact Or.inl rfl|exact Or.inr (Or.inl rfl)|exact Or.inr (Or.inr rfl)) (hd:(x == ("__debug__":Str))=false:=by decide)
   (hcd:(x == ("__classdict__":Str))=false:=by decide):PE X (.Name x pos) (E5 i):=IZ hN hv hd hcd
end
theorem Xj {A B:Prop} (h:B):if false=true then A else B:=by
 rw [if_neg Bool.false_ne_true];exact h
theorem Xe {A B:Prop} (h:A):if true=true then A else B:=by
 rw [if_pos rfl];exact h
def Same (H H':Hp):Prop:=∀ b o,H b=some o->H' b=some o
theorem Same.refl (H:Hp):Same H H:=fun _ _ h=>h
theorem Same.trans {H H1 H2:Hp} (a:Same H H1) (b:Same H1 H2):Same H H2:=fun c o h=>b c o (a c o h)
theorem Same.free {H H':Hp} (e:Same H H') {l:Addr} (h:H' l=Option.none):H l=Option.none:=by
 cases q:H l with
 | none=>rfl
 | some o =>
   rw [e l o q] at h;cases h
theorem Same.seq {K:PySem.W.Frag} {H H':Hp} {a:Addr} {xs:List V} (e:Same H H') (h:SqL K H a xs):SqL K H' a xs:=by
 rcases h with (h|⟨o,h⟩)|h
 . exact .inl (.inl (e _ _ h))
 . exact .inl (.inr ⟨o,e _ _ h⟩)
 . exact .inr h
end L2
namespace L2
open PySem PySem.Spec PyProof.Rows
section
variable {X:Cx}
theorem Qy:kY X (.builtin "len") (fun xs H Q=>∃ a kvs,xs=[V.ref a]/\H a=some (.dK kvs)/\Q (.int kvs.length) H):=by
 intro pins s σ H xs us Q I r h;obtain ⟨a,kvs,rfl,ha,q⟩:=h;obtain ⟨u,rfl,ru⟩:=oY r;cases ru;exact Xb I (.inl ha) fun t s' I'=>⟨.int kvs.length,H,I',⟨t,rfl⟩,q⟩
end
section
variable {κ:Type} [DecidableEq κ]
end
end L2
set_option Elab.async false
set_option linter.all false
set_option maxRecDepth 100000
namespace L2
open PySem PySem.Spec PyProof.Rows
def Cx.comp (X:Cx) (Nc:List Str) (scope:Scope) (cl:List (Str × Addr)) (C:Addr) (s₂:Shared) (H₁:Hp) (fp:List Addr):Cx where
 prog:=X.prog
 w:=X.w
 K:=X.K
 mg:=X.mg
 base:=X.base
 A:=X.A
 N:=Nc
 s₀:=s₂
 H₀:=H₁
 env:=compEnvC scope cl C X.env
 outer:=X.stack
 stack:=X.stack
 ex:=fp
 fn:=fun _=>false
 calm:=X.calm
 pn:=[]
 xe:=fun _ _=>False
structure CompTxt (X:Cx) (Nc:List Str) (own:Nat) (js:List Nat) (scope:Scope) (cl:List (Str × Addr)):Prop where
 clos:closureFor scope X.env=pure cl
 kind:scope.kind=.function
 nocell:∀ y∈scope.names,y.2≠.cell
 names:∀ y∈scope.names,y.2=.local->scope.names.lookup y.1=some .local
 cells:∀ x c,cl.lookup x=some c->X.env.cells.lookup x=some c
 has:∀ x,((relabel scope X.env).names.lookup x=some .cell\/(relabel scope X.env).names.lookup x=some .free)->∃ c,cl.lookup x=some c
 len:Nc.length=own+js.length
 outer:∀ i x,Nc[own+i]?=some x->∃ j,js[i]?=some j/\X.N[j]?=some x/\X.env.scope.names.lookup x=some .cell/\(relabel scope X.env).names.lookup x=some .cell
def ke (own:Nat) (js:List Nat) (σ:St):St:=List.replicate own none++js.map fun j=>(σ[j]?).getD none
def NC (own:Nat) (js:List Nat) (wi:TI) (g:TG) (tc:TT) (te:TE):TE:=fun σ H Q=>wi σ H fun J H1=>∀ p,H1 p=none ->
 ∃ W:Nat->Nat->List V->St->Hp->Prop,(∃ m,W 0 m [] (ke own js σ) (upd H1 p (.lst [])))/\∀ i m ys σc Hc,W i m ys σc Hc ->
   (J.stop i Hc/\Q (.ref p) Hc)\/(J.go i Hc/\∀ x H',J.yld i Hc x H'->g x σc H' fun σ2 H2=>tc σ2 H2 fun b H3 =>
     if b=true then te σ2 H3 fun y H4=>H4 p=some (.lst ys)/\ys.length<sizeLine/\∃ m',m'<m/\W (i+1) m' (ys++[y]) σ2 (upd H4 p (.lst (ys++[y])))
     else ∃ m',m'<m/\W (i+1) m' ys σ2 H3)
def PTs (X:Cx) (ifs:List Expr) (t:TT):Prop :=
 ∀ (pins:List (Addr × Obj)) (s:Shared) (σ:St) (H:Hp) (Q:Bool->Hp->Prop),Inv X pins σ H s->t σ H Q ->
   wpAny (model X.prog X.w) X.A (forIn ifs true fun c r=>if r=true then do let ok <- isTrue c X.env (eval c X.env);pure (ForInStep.yield ok) else pure (ForInStep.yield r)) (TP X pins σ Q) X.xe s
def tYes:TT:=fun _ H Q=>Q true H
theorem fK {X:Cx}:PTs X [] tYes:=fun pins s σ H Q I h=>wpAny_tests_nil ⟨H,I,h⟩
theorem BE {X:Cx} {c:Expr} {t:TT} (h:PT X c t):PTs X [c] t:=fun pins s σ H Q I q=>wpAny_tests_one (h pins s σ H Q I q)
section
variable {prog:Program} {w:World} {A:Around} {E:Value->Shared->Prop} {R:Result->Shared->Prop} {s:Shared}
theorem Cw {elt target iter:Expr} {ifs:List Expr} {scope:Scope} {pos:Pos} {it acc:Value} {env:Env} (I:Nat->Shared->Prop)
   (turn:∀ n s,I n s->wpAny (model prog w) A (pyNext it) (fun r s₁=>match r with
     | none=>R (.ok .next) s₁
     | some v=>wpAny (model prog w) A (letOwnedTupleGo target it v) (fun _ s₁'=>wpAny (model prog w) A (assign target env v) (fun _ s₂ =>
         wpAny (model prog w) A (forIn ifs true fun c r=>if r=true then do let ok <- isTrue c env (eval c env);pure (ForInStep.yield ok) else pure (ForInStep.yield r)) (fun ok s₃ =>
           if ok=true then wpAny (model prog w) A (eval elt env) (fun x s₄ =>
             wpAny (model prog w) A (call (.builtin "list.append") [acc,x]) (fun _ s₅=>∃ m,m<n/\I m s₅) (fun _ _=>False) s₄) (fun _ _=>False) s₃
           else ∃ m,m<n/\I m s₃) (fun _ _=>False) s₂) (fun _ _=>False) s₁') (fun _ _=>False) s₁) (fun _ _=>False) s)
   (n:Nat) (h:I n s) :
   codeAny (model prog w) A (.compLoop (.ListComp elt [⟨target,iter,ifs,0⟩] scope pos) 0 it acc env) R s:=by
 refine codeAny_loop rfl I (fun n s hI=>?_) n h;show wpAny _ A ((compTurn (.ListComp elt [⟨target,iter,ifs,0⟩] scope pos) 0 it acc env).onRaise (fun x=>do noteFrame x env;theTreesLotGoes x)) _ _ s;refine wpAny_noted ?_;rw [compTurn_list];refine wpAny_bind (wpAny_standAt (wpAny_bind (wpAny_mono (turn n s hI) (fun r s₁ h₁=>?_) fun _ _ h'=>h'.elim)));cases r with
 | none=>exact wpAny_pure h₁
 | some v =>
   refine wpAny_bind (wpAny_mono h₁ (fun _ s₁' h₁'=>?_) fun _ _ h'=>h'.elim);refine wpAny_bind (wpAny_mono h₁' (fun _ s₂ h₂=>wpAny_bind (wpAny_mono h₂ (fun ok s₃ h₃=>?_) fun _ _ h'=>h'.elim)) fun _ _ h'=>h'.elim);cases ok with
   | true =>
     rw [if_pos rfl] at h₃;simp only [if_true];exact wpAny_bind (wpAny_bind (wpAny_mono h₃ (fun x s₄ h₄=>wpAny_bind (wpAny_mono h₄ (fun _ s₅ h₅=>wpAny_pure (wpAny_pure ⟨rfl,h₅⟩)) fun _ _ h'=>h'.elim)) fun _ _ h'=>h'.elim))
   | false =>
     rw [if_neg Bool.false_ne_true] at h₃;simp only [Bool.false_eq_true,if_false]
     first
       | exact wpAny_pure ⟨rfl,h₃⟩
       | exact wpAny_bind (wpAny_pure (wpAny_pure ⟨rfl,h₃⟩))
end
end L2
set_option Elab.async false
set_option linter.all false
set_option maxRecDepth 100000
namespace L2
open PySem PySem.Spec PyProof.Rows
section
variable {X:Cx} {Nc:List Str} {own:Nat} {js:List Nat} {scope:Scope} {cl:List (Str × Addr)}
theorem FM {pins:List (Addr × Obj)} {σ:St} {H₁:Hp} {s₂:Shared} {C:Addr} {fp:List Addr} (T:CompTxt X Nc own js scope cl) (I:Inv X pins σ H₁ s₂) (hC:s₂.heap.objs.size<=C)
   (f1:∀ b∈fp,m9 X pins H₁ b) (hlt:∀ b∈fp,b<s₂.heap.objs.size):(X.comp Nc scope cl C s₂ H₁ fp).Ok where
 mod:=I.ok.mod
 kind:=by show (relabel scope X.env).kind=_;exact T.kind
 glob:=I.ok.glob
 blt:=I.ok.blt
 above:=hC
 inj:=fun x y c h1 h2=>I.ok.inj x y c (T.cells x c h1) (T.cells y c h2)
 has:=fun x h=>T.has x h
 cab:=fun x c h=>by cases h
 hd:=I.ok.hd
 frames:=I.ok.frames
 stk:=.inl rfl
 exf:=fun b hb=>⟨Nat.ne_of_lt (Nat.lt_of_lt_of_le (hlt b hb) hC),fun x c h=>(f1 b hb).2.2.2.2.1 x c (T.cells x c h)⟩
 bs:=I.bs
 bsz:=Nat.le_trans I.ok.bsz I.sz
 noex:=fun b o e hb=>by
   rcases (f1 b hb).2.2.2.1 with z|z
   . exact I.ok.noex b o e z
   . exact absurd (Nat.lt_of_lt_of_le (Heap.lt_size (I.ok.bs b o e).1) z) (Nat.lt_irrefl _)
 exfs:=fun b hb hs=>by
   rcases List.mem_cons.mp (I.stkSub b hs) with z|z
   . exact (f1 b hb).2.1 z
   . exact (f1 b hb).2.2.1 z
 funs:=I.stack
 frf:=I.stkFree
theorem IP {pins:List (Addr × Obj)} {σ:St} {H₁:Hp} {s₂:Shared} {C D:Addr} {fp:List Addr} {h₁:Heap} {t:Nat} {m:Str->Option Value} (T:CompTxt X Nc own js scope cl) (I:Inv X pins σ H₁ s₂) (hC:s₂.heap.objs.size<=C)
   (hD:s₂.heap.objs.size<=D) (hDC:D≠C) (f1:∀ b∈fp,m9 X pins H₁ b) (hlt:∀ b∈fp,b<s₂.heap.objs.size) (old:∀ b o,s₂.heap.get? b=some o->h₁.get? b=some o) (hns:h₁.Ns C m)
   (hacc:∃ n,h₁.get? D=some { cls:=.type "list",data:=.seq ([]:List Value).toArray n }) :
   Inv (X.comp Nc scope cl C s₂ H₁ fp) [] (ke own js σ) (upd H₁ D (.lst [])) { s₂ with heap:=h₁,toks:=t }:=by
 obtain ⟨na,hacc⟩:=hacc;have cellK:∀ c v,s₂.heap.IsCell c v->h₁.IsCell c v:=fun c v ⟨o,ho,hd⟩=>⟨o,old c o ho,hd⟩;refine ⟨FM T I hC f1 hlt,rfl,I.bare,Un.laid old hD (I.hok.fresh hD),⟨m,hns,fun i x v e1 e2 e3=>?_⟩,fun x c e=>?_,?_,fun x c e=>?_,fun p hp=>(by cases hp),I.hok.laid old hD ?_,?_⟩
 . have hN:Nc[i]?=some x:=e1;have hσ:(ke own js σ)[i]?=some (some v):=e2;unfold ke at hσ;by_cases hi:i<own
   . rw [List.getElem?_append_left (by simpa using hi),List.getElem?_replicate] at hσ;simp [hi] at hσ
   . obtain ⟨k,rfl⟩:∃ k,i=own+k:=⟨i - own,by omega⟩;rw [List.getElem?_append_right (by simp)] at hσ;simp only [List.length_replicate,Nat.add_sub_cancel_left,List.getElem?_map] at hσ;obtain ⟨j,hj,hx,hk,hr⟩:=T.outer k x hN;rw [hj] at hσ;replace hσ:some (σ[j]?.getD none)=some (some v):=hσ;have hσj:σ[j]?=some (some v):=by
       cases q:σ[j]? with
       | none=>rw [q] at hσ;simp at hσ
       | some y=>rw [q] at hσ;simpa using hσ
     obtain ⟨m0,hn0,hl0⟩:=I.loc;obtain ⟨u,ru,lk⟩:=hl0 j x v hx hσj (.inr (.inl hk));refine ⟨u,ru,.inr ⟨.inl hr,?_⟩⟩;rcases lk with ⟨z,_⟩|⟨_,c,hc,hcell⟩
     . have z':X.env.scope.names.lookup x=some .local:=z;rw [hk] at z';cases z'
     . obtain ⟨c',hc'⟩:=T.has x (.inl hr);have:=T.cells x c' hc';rw [hc] at this;cases this;exact ⟨c,hc',cellK c _ hcell⟩
 . obtain ⟨v,z⟩:=I.cell x c (T.cells x c e);exact ⟨v,cellK c v z⟩
 . show upd H₁ D (.lst []) C=none;rw [ao (Ne.symm hDC)];exact I.hok.fresh hC
 . have e':=T.cells x c e;obtain ⟨v,o,ho,_⟩:=I.cell x c e';rw [ao (Nat.ne_of_lt (Nat.lt_of_lt_of_le (Heap.lt_size ho) hD))];exact I.freeC x c e'
 . exact ⟨Nat.zero_le _,[],na,.nil,hacc⟩
 . show (ke own js σ).length=Nc.length;rw [T.len];simp [ke]
theorem F8 {pins:List (Addr × Obj)} {σ σc:St} {H₁ H':Hp} {s₂ s':Shared} {C:Addr} {fp:List Addr} {h':Heap} (I:Inv X pins σ H₁ s₂) (hC:s₂.heap.objs.size<=C)
   (f1:∀ b∈fp,m9 X pins H₁ b) (I':Inv (X.comp Nc scope cl C s₂ H₁ fp) [] σc H' s') (hs:Heap.SameBut C s'.heap h'):Inv X pins σ H' { s' with heap:=h' }:=by
 have u:Un (frs X.stack) fp H₁ H' s₂.heap s'.heap:=I'.base;have ne:∀ b o,s₂.heap.get? b=some o->b≠C:=fun b o e=>Nat.ne_of_lt (Nat.lt_of_lt_of_le (Heap.lt_size e) hC);have k:∀ b o,b≠C->s'.heap.get? b=some o->h'.get? b=some o:=fun b o n e=>hs.extBut b o n e;have u':Un (frs X.stack) fp H₁ H' s₂.heap h':=⟨fun b o e n hb hx=>k b o (ne b o e) (u.keep b o e n hb hx),fun b o e n hb hx=>let ⟨sl,q⟩:=u.slot b o e n hb hx;⟨sl,k b _ (ne b o e) q⟩,
   u.free,fun b o e hx=>let ⟨o',q⟩:=u.there b o e hx;⟨o',k b o' (ne b o e) q⟩,u.tups,u.frzs,u.tbls⟩
 have hfree:H' C=none:=I'.free;have hok':HOk X.prog X.w H' h':=fun a o e=>(I'.hok a o e).stay (fun b v hb q=>k b v (fun z=>by
   rcases hb with y|y
   . rw [y] at z;rw [z,hfree] at e;cases e
   . rw [z,hfree] at y;cases y) q) (fun _ q=>q) fun _ _ q=>q
 exact I.call' (s':={ s' with heap:=h' }) (ch:=fp) I'.os u' hok' I'.bare fun b hb=>⟨(f1 b hb).2.2.2.1,(f1 b hb).2.1,(f1 b hb).2.2.2.2.1,(f1 b hb).2.2.2.2.2⟩
theorem fM {elt target iter:Expr} {ifs:List Expr} {pos:Pos} {wi:TI} {g:TG} {tc:TT} {te:TE} (hc:X.calm=true) (T:CompTxt X Nc own js scope cl)
   (hi:PI X target iter wi) (hg:∀ C s₂ H₁ fp,PG (X.comp Nc scope cl C s₂ H₁ fp) target g) (ht:∀ C s₂ H₁ fp,PTs (X.comp Nc scope cl C s₂ H₁ fp) ifs tc)
   (he:∀ C s₂ H₁ fp,PE (X.comp Nc scope cl C s₂ H₁ fp) elt te) (hs:∀ x,foldedSetIterable iter X.env x=pure x:=by intro _;rfl) :
   PE X (.ListComp elt [⟨target,iter,ifs,0⟩] scope pos) (NC own js wi g tc te):=by
 intro pins s σ H Q I h;rw [eval_ListComp];refine wpAny_comprehension_free (use:=none) rfl hs T.clos T.kind T.names (thn (hi pins s σ H _ I h) fun v s1 h1=>thn h1 fun itv s2 h2=>?_);obtain ⟨it,fp,tn,J,H1,rfl,I1,Tn,st,f1,R⟩:=h2;have hfp:∀ b∈fp,b<s2.heap.objs.size:=fun b hb=>let ⟨o,e,_⟩:=Tn.obj _ _ st b hb;Heap.lt_size e;refine wpAny_newObj_type (wpAny_newFunctionEnv T.nocell (by intro y hy;simp at hy) (fun h₁ hns₁ hsb₁=>?_) T.kind);dsimp only at hns₁ hsb₁ ⊢;generalize hH2:s2.heap.push { cls:=.type "list",dict:=none,data:=.seq ([]:List Value).toArray }=H2 at hns₁ hsb₁ ⊢;have hC:H2.objs.size=s2.heap.objs.size+1:=by rw [<- hH2,Heap.size_push]
 have hDC:s2.heap.objs.size≠H2.objs.size:=by rw [hC];exact Nat.ne_of_lt (Nat.lt_succ_self _)
 have hCle:s2.heap.objs.size<=H2.objs.size:=by rw [hC];exact Nat.le_succ _
 have below:∀ b,b<s2.heap.objs.size->b≠H2.objs.size:=fun b hb=>by rw [hC];exact Nat.ne_of_lt (Nat.lt_succ_of_lt hb)
 have old:∀ b o,s2.heap.get? b=some o->h₁.get? b=some o:=fun b o e=>hsb₁.extBut b o (below b (Heap.lt_size e)) (Heap.get?_push_of_some _ (hH2 ▸ Heap.get?_push_of_some _ e));have hacc:∃ n,h₁.get? s2.heap.objs.size=some { cls:=.type "list",data:=.seq ([]:List Value).toArray n }:=⟨_,hsb₁.extBut _ _ hDC (Heap.get?_push_of_some _ (hH2 ▸ Heap.get?_push_size _ rfl))⟩;have st₁:tn 0 h₁:=Tn.keep _ _ _ st fun b _ o e=>old b o e;obtain ⟨W,⟨m0,w0⟩,turn⟩:=R s2.heap.objs.size I1.fresh;have Ic:=IP (t:=s2.toks+([]:List (Str × Value)).length) T I1 hCle (Nat.le_refl _) hDC f1 hfp old hns₁ hacc;generalize hXc:X.comp Nc scope cl H2.objs.size s2 H1 fp=Xc at Ic;have stat:∀ {H':Hp},(∀ b∈fp,H' b=none)->∀ b∈fp,m9 Xc [] H' b:=fun {H'} hn b hb=>by
   subst hXc;exact ⟨hn b hb,below b (hfp b hb),(FM T I1 hCle f1 hfp).exfs b hb,.inl hb,fun x c e=>(f1 b hb).2.2.2.2.1 x c (T.cells x c e),fun p hp=>by cases hp⟩
 have fr0:∀ b∈fp,upd H1 s2.heap.objs.size (.lst []) b=none:=fun b hb=>by
   rw [ao (Nat.ne_of_lt (hfp b hb))];exact (f1 b hb).1
 have calmc:Xc.calm=true:=by subst hXc;exact hc
 have loop:∀ s₃:Shared,s₃={ s2 with heap:=h₁,toks:=s2.toks+([]:List (Str × Value)).length } ->
     codeAny (model X.prog X.w) X.A (.compLoop (.ListComp elt [⟨target,iter,ifs,0⟩] scope pos) 0 (.ref it) (.ref s2.heap.objs.size) (compEnvC scope cl H2.objs.size X.env))
       (compPost (model X.prog X.w) X.A X.xe none (EP X pins σ Q) (.ref s2.heap.objs.size) H2.objs.size) s₃:=by
   rintro s₃ rfl;refine Cw (fun n s'=>∃ i ys σ' H',Inv Xc [] σ' H' s'/\tn i s'.heap/\(∀ b∈fp,H' b=none)/\W i n ys σ' H') ?_ m0 ⟨0,[],_,_,Ic,st₁,fr0,w0⟩;rintro n s3 ⟨i,ys,σ3,H3,I3,st3,fr3,w3⟩;rcases turn i n ys σ3 H3 w3 with ⟨stop,q⟩|⟨go,step⟩
   . subst hXc;refine thn (Tn.done (X.comp Nc scope cl H2.objs.size s2 H1 fp) rfl rfl rfl hc i [] s3 σ3 H3 _ I3 (stat fr3) st3 stop) fun r s4 ⟨hr,I4⟩=>?_;subst hr;obtain ⟨m4,hn4,_⟩:=id I4.loc;exact ⟨m4,hn4,fun h' hs'=>⟨.ref s2.heap.objs.size,H3,F8 I1 hCle f1 I4 hs',rfl,q⟩⟩
   . subst hXc;refine thn (Tn.item (X.comp Nc scope cl H2.objs.size s2 H1 fp) rfl rfl rfl hc i [] s3 σ3 H3 _ I3 (stat fr3) st3 go) fun r s4 ⟨u,hr,h4⟩=>?_;subst hr;refine thn h4 fun _ s5 ⟨x,H5,I5,r5,y5,st5,fr5⟩=>?_;have I5':=I5.pinned (stat fr5) (Tn.obj _ _ st5);have back:∀ {σ7:St} {H7:Hp} {s7:Shared},Inv (X.comp Nc scope cl H2.objs.size s2 H1 fp) ([]++xi fp s5.heap) σ7 H7 s7->Inv (X.comp Nc scope cl H2.objs.size s2 H1 fp) [] σ7 H7 s7/\tn (i+1) s7.heap/\∀ b∈fp,H7 b=none:=fun {σ7 H7 s7} I7=>by
       refine ⟨I7.unpinned,Tn.keep _ _ _ st5 fun b hb o e=>(I7.pin (b,o) (List.mem_append_right _ (List.mem_append_right _ (mn hb e)))).1,fun b hb=>?_⟩;obtain ⟨o,e,d⟩:=Tn.obj _ _ st5 b hb;exact (I7.pin (b,o) (List.mem_append_right _ (List.mem_append_right _ (mn hb e)))).2.1
     refine thn (hg _ _ _ _ _ s5 σ3 H5 x u _ I5' r5 (step x H5 y5)) fun _ s6 ⟨σ6,H6,I6,q6⟩=>?_;refine FL (ht _ _ _ _ _ s6 σ6 H6 _ I6 q6) fun ok s7 H7 I7 q7=>?_;cases ok with
     | false =>
       rw [if_neg Bool.false_ne_true] at q7 ⊢;obtain ⟨m',hm,w7⟩:=q7;obtain ⟨J1,J2,J3⟩:=back I7;exact ⟨m',hm,i+1,ys,σ6,H7,J1,J2,J3,w7⟩
     | true =>
       rw [if_pos rfl] at q7 ⊢;refine bS (he _ _ _ _ _ s7 σ6 H7 _ I7 q7) fun y s8 yv H8 I8 r8 ⟨hp8,hl8,m',hm,w8⟩=>?_;refine thn (ga _ s8 σ6 H8 (.ref s2.heap.objs.size) [yv] _ [y] (fun v' H'=>W (i+1) m' (ys++[yv]) σ6 H') I8 rfl (.cons r8 .nil) ⟨_,ys,yv,rfl,rfl,hp8,hl8,w8⟩) fun v9 s9 ⟨_,H9,I9,_,w9⟩=>?_;obtain ⟨J1,J2,J3⟩:=back I9;exact ⟨m',hm,i+1,ys++[yv],σ6,H9,J1,J2,J3,w9⟩
 exact codeAny_compStart_list (loop _ rfl) (Tn.self _ 0 _ _ _ st₁ (loop _ rfl))
end
end L2
set_option Elab.async false
set_option linter.all false
set_option maxRecDepth 100000
namespace L2
open PySem PySem.Spec PyProof.Rows
section
variable {X:Cx}
def rInsert:V->List V->Hp->VK->Prop:=fun x vs H Q=>∃ (l:Addr) (xs:List V) (i:Int) (y:V),x=.ref l/\vs=[.int i,y]/\H l=some (.lst xs)/\0<=i/\i<=xs.length/\xs.length<sizeLine/\Q .non (upd H l (.lst (xs.take i.toNat++y::xs.drop i.toNat)))
theorem Gm:MtM X "list.insert" rInsert:=by
 intro pins s σ H x vs v us Q I rx rv h;obtain ⟨l,xs,i,y,rfl,rfl,hH,h0,hk,hz,q⟩:=h;cases rx;obtain ⟨u1,u2,rfl,⟨t,rfl⟩,ru⟩:=rv.two;obtain ⟨z,its,n,r,hl,e⟩:=I.lstM hH;have hn:=xW;have hf:Builtin.List.listFitsIndex i=true:=by
   unfold Builtin.List.listFitsIndex;rw [Bool.and_eq_true];exact ⟨decide_eq_true (by omega),decide_eq_true (by omega)⟩
 have hf':¬ (!Builtin.List.listFitsIndex i)=true:=by rw [hf];decide
 have hzz:its.toArray.size<=sizeLine:=by rw [List.size_toArray,<- hl];exact z
 refine call_meets PySem.F.slot_list_insert ⟨_,e,rfl⟩ PySem.F.entry_list_insert (PySem.F.args_list_insert_3 _ _ _) (PySem.AutoSeq1.list_insert_list_int_val_1 l its.toArray n i t u2 hf' hzz) ⟨e,?_⟩;refine ⟨.non,_,I.lset (its':=its.take i.toNat++u2::its.drop i.toNat) hH e ?_ ((r.take i.toNat).append (.cons ru (r.drop i.toNat))) ?_,rfl,q⟩
 . show (its.toArray.extract 0 (if i<0 then (i+(its.toArray.size:Int)).toNat else min i.toNat its.toArray.size)).push u2++its.toArray.extract (if i<0 then (i+(its.toArray.size:Int)).toNat else min i.toNat its.toArray.size)=_;have e0:(if i<0 then (i+(its.toArray.size:Int)).toNat else min i.toNat its.toArray.size)=i.toNat:=by
     rw [if_neg (by omega),List.size_toArray];omega
   rw [e0];exact PySem.W.kl_ins_eq its i.toNat u2
 . rw [List.length_append,List.length_cons,List.length_take,List.length_drop];omega
theorem dc:OpR X (binaryOp .Mult) (rI (fun i j=>IntMulOk i j) fun i j=>.int (i*j)):=opI fun i j t u s Q E h q=>PyProof.Rows.mul_int q h
def Uw (K:PySem.W.Frag):List V->Hp->VK->Prop:=fun xs H Q=>∃ x c t b,xs=[x,c]/\TyOf K H x t/\(∀ cv,RelV c cv->PySem.W.kitOne K t cv=some b)/\Q (.bl b) H
theorem Lm:kY X (.builtin "isinstance") (Uw X.K):=by
 intro pins s σ H xs us Q I r h;obtain ⟨x,c,t,b,rfl,ty,hk,q⟩:=h;obtain ⟨u,cv,rfl,ru,rc⟩:=Ub r;exact PM I ru ty (hk cv rc) fun tk=>⟨.bl b,H,I.tok tk,rfl,q⟩
end
mutual
inductive Deep (K:PySem.W.Frag) (H:Hp):V->PyData->Prop
 | non:Deep K H .non .none
 | bl (b:Bool):Deep K H (.bl b) (.bool b)
 | int (i:Int):Deep K H (.int i) (.int i)
 | str {x:Str}:PyData.canLay0 (.str x)=true->Deep K H (.str x) (.str x)
 | lst {a:Addr} {xs:List V} {ds:List PyData}:SqL K H a xs->DeepAll K H xs ds->Deep K H (.ref a) (.list ds)
 | tup {a:Addr} {xs:List V} {ds:List PyData}:SqT K H a xs->DeepAll K H xs ds->Deep K H (.ref a) (.tuple ds)
inductive DeepAll (K:PySem.W.Frag) (H:Hp):List V->List PyData->Prop
 | nil:DeepAll K H [] []
 | cons {x:V} {d:PyData} {xs:List V} {ds:List PyData}:Deep K H x d->DeepAll K H xs ds->DeepAll K H (x::xs) (d::ds)
end
mutual
theorem Deep.reads {X:Cx} {pins:List (Addr × Obj)} {σ:St} {H:Hp} {s:Shared} (I:Inv X pins σ H s):∀ {x:V} {d:PyData} {u:Value},Deep X.K H x d->RelV x u->(∃ as,Reads s.heap u d as)/\d.canLay0=true
 | _,_,_,.non,r=>by cases (show _=Value.none from r);exact ⟨⟨_,.none⟩,by simp [PyData.canLay0]⟩
 | _,_,_,.bl b,r=>by cases (show _=Value.bool b from r);exact ⟨⟨_,.bool b⟩,by simp [PyData.canLay0]⟩
 | _,_,_,.int i,r=>by obtain ⟨t,e⟩:=(show ∃ t,_=Value.int i t from r);cases e;exact ⟨⟨_,.int i t⟩,by simp [PyData.canLay0]⟩
 | _,_,_,.str (x:=x) h,r=>by obtain ⟨t,e⟩:=(show ∃ t,_=Value.str x t from r);cases e;exact ⟨⟨_,.str x t⟩,h⟩
 | _,_,_,.lst (a:=a) h hs,r=>by
   cases (show _=Value.ref a from r);obtain ⟨its,rv,⟨o,n,e,c,_,dd⟩,hz⟩:=I.list h;obtain ⟨⟨as,ra⟩,cl⟩:=DeepAll.reads I hs rv;exact ⟨⟨_,.list e c dd (by simpa using ra)⟩,by simpa [PyData.canLay0] using cl⟩
 | _,_,_,.tup (a:=a) h hs,r=>by
   cases (show _=Value.ref a from r);obtain ⟨its,rv,⟨o,e,c,n,dd⟩,hz⟩:=I.tuple h;obtain ⟨⟨as,ra⟩,cl⟩:=DeepAll.reads I hs rv;exact ⟨⟨_,.tuple e c dd (by simpa using ra)⟩,by simpa [PyData.canLay0] using cl⟩
theorem DeepAll.reads {X:Cx} {pins:List (Addr × Obj)} {σ:St} {H:Hp} {s:Shared} (I:Inv X pins σ H s):∀ {xs:List V} {ds:List PyData} {us:List Value},DeepAll X.K H xs ds->Vals xs us->(∃ as,ReadsAll s.heap us ds as)/\PyData.canLayAll0 ds=true
 | _,_,_,.nil,.nil=>⟨⟨_,.nil⟩,by simp [PyData.canLayAll0]⟩
 | _,_,_,.cons h hs,.cons r rs=>by
   obtain ⟨⟨as,ra⟩,c1⟩:=Deep.reads I h r;obtain ⟨⟨bs,rb⟩,c2⟩:=DeepAll.reads I hs rs;exact ⟨⟨_,.cons ra rb⟩,by simp [PyData.canLayAll0,c1,c2]⟩
end
section
variable {X:Cx}
def Wa (K:PySem.W.Frag):R2:=fun x y H Q=>∃ d e,Deep K H x d/\Deep K H y e/\d.depth<=40/\Q (.bl (PyData.eqv d e)) H
def Xq (K:PySem.W.Frag):R2:=fun x y H Q=>∃ d e,Deep K H x d/\Deep K H y e/\d.depth<=40/\Q (.bl (!PyData.eqv d e)) H
theorem VD (hu:X.A.units+64<cLine):OpR X (compareOp .Eq) (Wa X.K):=by
 intro pins s σ H x y v u Q I rx ry h;obtain ⟨d,e,hd,he,hp,q⟩:=h;obtain ⟨⟨as,ra⟩,ca⟩:=hd.reads I rx;obtain ⟨⟨bs,rb⟩,cb⟩:=he.reads I ry;exact PySem.SeqAt.compareEq_reads ra rb ca cb (by omega) ⟨.bl _,H,I,rfl,q⟩
theorem Wc (hu:X.A.units+64<cLine):OpR X (compareOp .NotEq) (Xq X.K):=by
 intro pins s σ H x y v u Q I rx ry h;obtain ⟨d,e,hd,he,hp,q⟩:=h;obtain ⟨⟨as,ra⟩,ca⟩:=hd.reads I rx;obtain ⟨⟨bs,rb⟩,cb⟩:=he.reads I ry;exact PySem.SeqAt.compareNe_reads ra rb ca cb (by omega) ⟨.bl _,H,I,rfl,q⟩
end
end L2
set_option Elab.async false
set_option linter.all false
set_option maxRecDepth 100000
namespace L2
open PySem PySem.Spec PyProof.Rows
structure SubF (P:Program) (w:World) (l:Addr) (ob:Obj) (src:Heap->Array Value->Prop) (at':Addr->Nat->Heap->Prop):Prop where
 start:∀ (A:Around) (s:Shared) (vs:Array Value) (Q:Value->Shared->Prop) (E:Value->Shared->Prop),src s.heap vs->Q (.ref s.heap.objs.size) { s with heap:=s.heap.push ob }->wpAny (model P w) A (pyIter (.ref l)) Q E s
 first:∀ it h,h.get? it=some ob->at' it 0 h
 atK:∀ it i h h',at' it i h->(∀ o,h.get? it=some o->h'.get? it=some o)->at' it i h'
 srcK:∀ h h' vs,src h vs->(∀ o,h.get? l=some o->h'.get? l=some o)->src h' vs
 obj:∀ it i h,at' it i h->∃ o,h.get? it=some o/\∀ v,o.data≠.cell v
 item:∀ (A:Around) (s:Shared) (it:Addr) (i:Nat) (vs:Array Value) (x:Value) (Q:Value->Shared->Prop) (E:Value->Shared->Prop),at' it i s.heap->src s.heap vs->vs[i]?=some x ->
   (∀ h',at' it (i+1) h'->Heap.SameBut it s.heap h'->Q x { s with heap:=h' })->wpAny (model P w) A (Builtin.SmallTypes.nextOf (.ref it)) Q E s
 fin:∀ (A:Around) (s:Shared) (it:Addr) (i:Nat) (vs:Array Value) (Q:Value->Shared->Prop) (E:Value->Shared->Prop),A.handled=none->at' it i s.heap->src s.heap vs->vs[i]?=none ->
   (∀ h' e,Heap.ExtBut it s.heap h'->(∃ o,h'.get? e=some o/\o.cls=.type "StopIteration")->E (.ref e) { s with heap:=h' })->wpAny (model P w) A (Builtin.SmallTypes.nextOf (.ref it)) Q E s
theorem QE {P:Program} {w:World} (l:Addr):SubF P w l { cls:=.type "list_iterator",data:=.fields #[.ref l,.int 0 0] } (fun h vs=>h.IsList l vs) (fun it i h=>h.IsListIter it l i) where
 start:=fun A s vs Q E hl hq=>wpAny_pyIter_list hl hq
 first:=fun it h e=>⟨_,e,rfl,rfl⟩
 atK:=fun it i h h' x k=>x.at k
 srcK:=fun h h' vs x k=>x.at k
 obj:=fun it i h x=>by
   obtain ⟨o,ho,_,hd⟩:=x;exact ⟨o,ho,fun v z=>by rw [hd] at z;cases z⟩
 item:=fun A s it i vs x Q E ha hs hx hq=>wpAny_nextOf_list_item ha hs hx hq
 fin:=fun A s it i vs Q E hh ha hs hx hq=>wpAny_nextOf_list_end hh ha hs hx hq
section
variable {P:Program} {w:World} {A:Around} {E:Value->Shared->Prop} {s:Shared}
theorem B9 {it t:Addr} {i:Nat} {vs:Array Value} {x:Value} {Q:Value->Shared->Prop} (hi:s.heap.IsTupleIter it t i) (ht:s.heap.IsTuple t vs) (hx:vs[i]?=some x)
   (hq:∀ h',h'.IsTupleIter it t (i+1)->Heap.SameBut it s.heap h'->Q x { s with heap:=h' }):wpAny (model P w) A (Builtin.SmallTypes.nextOf (.ref it)) Q E s:=by
 obtain ⟨oi,hoi,hci,hdi⟩:=id hi;obtain ⟨ot,hot,_,nt,hdt⟩:=ht;unfold Builtin.SmallTypes.nextOf;refine wpAny_bind (wpAny_callSpecial?_slot (name:=Str.ofString "__next__") hi.typeIs F.slot_tuple_iterator_next (wpAny_call_entry F.slot_tuple_iterator_next hi.typeIs F.entry_tuple_iterator_next ?_ (F.args_tuple_iterator_next_1 _)));show wpAny (model P w) _ (field (.ref it) 0 >>= _) _ _ s;refine wpAny_bind (wpAny_field hoi hdi (x:=.ref t) rfl ?_);show wpAny (model P w) _ (if (Value.ref t == Value.none)=true then _ else _) _ _ s;rw [if_neg (by exact Bool.false_ne_true)];show wpAny (model P w) _ (field (.ref it) 1 >>= _) _ _ s;refine wpAny_bind (wpAny_field hoi hdi (x:=.int i 0) rfl ?_);show wpAny (model P w) _ (seqItems? (.ref t) >>= _) _ _ s;refine wpAny_bind (wpAny_seqItems hot hdt ?_);simp only [Int.toNat_natCast,hx];refine wpAny_bind (wpAny_setField hoi hdi (by simp) (wpAny_pure ⟨x,rfl,wpAny_pure (hq _ ?_ (Heap.SameBut.update ..))⟩));exact ⟨_,Heap.get?_update_self _ hoi (Obj.isFreed_of_fields (Obj.data_mapFields hdi _)),(Obj.cls_mapFields ..).trans hci,by rw [Obj.data_mapFields hdi];simp [rawInt]⟩
theorem Dx {it t:Addr} {i:Nat} {vs:Array Value} {Q:Value->Shared->Prop} (hh:A.handled=none) (hi:s.heap.IsTupleIter it t i) (ht:s.heap.IsTuple t vs) (hx:vs[i]?=none)
   (hE:∀ h' e,Heap.ExtBut it s.heap h'->(∃ o,h'.get? e=some o/\o.cls=.type "StopIteration")->E (.ref e) { s with heap:=h' }):wpAny (model P w) A (Builtin.SmallTypes.nextOf (.ref it)) Q E s:=by
 obtain ⟨oi,hoi,hci,hdi⟩:=id hi;obtain ⟨ot,hot,_,nt,hdt⟩:=ht;unfold Builtin.SmallTypes.nextOf;refine wpAny_bind (wpAny_callSpecial?_slot (name:=Str.ofString "__next__") hi.typeIs F.slot_tuple_iterator_next (wpAny_call_entry F.slot_tuple_iterator_next hi.typeIs F.entry_tuple_iterator_next ?_ (F.args_tuple_iterator_next_1 _)));show wpAny (model P w) _ (field (.ref it) 0 >>= _) _ _ s;refine wpAny_bind (wpAny_field hoi hdi (x:=.ref t) rfl ?_);show wpAny (model P w) _ (if (Value.ref t == Value.none)=true then _ else _) _ _ s;rw [if_neg (by exact Bool.false_ne_true)];show wpAny (model P w) _ (field (.ref it) 1 >>= _) _ _ s;refine wpAny_bind (wpAny_field hoi hdi (x:=.int i 0) rfl ?_);show wpAny (model P w) _ (seqItems? (.ref t) >>= _) _ _ s;refine wpAny_bind (wpAny_seqItems hot hdt ?_);simp only [Int.toNat_natCast,hx];refine wpAny_bind (wpAny_rule (wpAny_bind (wpAny_setField hoi hdi (by simp) ?_)));show wpAny (model P w) _ (newExc (.type "StopIteration") [] >>= _) _ _ _;refine wpAny_bind ?_;simp only [newExc,newTuple];refine wpAny_bind (wpAny_newObj_type ?_ (by size_fits));refine wpAny_bind (m:=firstArgMember _ _) (wpAny_of_eq (a:=Value.none) (by first|rfl|(simp only [firstArgMember];rfl)) ?_);refine wpAny_newObj_type ?_ (by size_fits);simp only [raiseNew];refine wpAny_bind (wpAny_handled ?_)
 first|rw [show A.in1.handled=none from hh]|rw [hh]
 refine wpAny_bind (wpAny_pure (wpAny_throw ?_));exact hE _ _ (((Heap.SameBut.update ..).extBut.push _).push _) ⟨_,Heap.get?_push_size _ rfl,rfl⟩
end
theorem Ry {P:Program} {w:World} (l:Addr):SubF P w l { cls:=.type "tuple_iterator",data:=.fields #[.ref l,.int 0 0] } (fun h vs=>h.IsTuple l vs) (fun it i h=>h.IsTupleIter it l i) where
 start:=fun A s vs Q E hl hq=>wpAny_pyIter_tuple hl hq
 first:=fun it h e=>⟨_,e,rfl,rfl⟩
 atK:=fun it i h h' x k=>let ⟨o,ho,r⟩:=x;⟨o,k o ho,r⟩
 srcK:=fun h h' vs x k=>let ⟨o,ho,r⟩:=x;⟨o,k o ho,r⟩
 obj:=fun it i h x=>by
   obtain ⟨o,ho,_,hd⟩:=x;exact ⟨o,ho,fun v z=>by rw [hd] at z;cases z⟩
 item:=fun A s it i vs x Q E ha hs hx hq=>B9 ha hs hx hq
 fin:=fun A s it i vs Q E hh ha hs hx hq=>Dx hh ha hs hx hq
end L2
set_option Elab.async false
set_option linter.all false
set_option maxRecDepth 100000
namespace L2
open PySem PySem.Spec PyProof.Rows
structure ZAp (z TI TO i1 i2 l1 l2:Addr):Prop where
 a1:TI≠z
 a2:TO≠z
 a3:i1≠z
 a4:i2≠z
 a5:TI≠TO
 a6:TI≠i1
 a7:TI≠i2
 a8:TO≠i1
 a9:TO≠i2
 a0:i1≠i2
 b1:l1≠z/\l1≠TO/\l1≠i1/\l1≠i2
 b2:l2≠z/\l2≠TO/\l2≠i1/\l2≠i2
section
variable {P:Program} {w:World} {A:Around} {E:Value->Shared->Prop} {s:Shared} {l1 l2:Addr} {ob1 ob2:Obj} {src1 src2:Heap->Array Value->Prop} {at1 at2:Addr->Nat->Heap->Prop}
theorem Js (S1:SubF P w l1 ob1 src1 at1) (S2:SubF P w l2 ob2 src2 at2) {z TI TO i1 i2:Addr} {k1 k2:Nat} {xs ys:Array Value} {x y a b:Value} {Q:Value->Shared->Prop} (D:ZAp z TI TO i1 i2 l1 l2)
   (Hz:IsZip s.heap z TI TO .none) (HI:IsPair s.heap TI (.ref i1) (.ref i2)) (HO':IsPair s.heap TO a b) (p1:at1 i1 k1 s.heap) (p2:at2 i2 k2 s.heap) (q1:src1 s.heap xs) (q2:src2 s.heap ys) (hx:xs[k1]?=some x) (hy:ys[k2]?=some y)
   (hQ:∀ h',IsZip h' z TI TO (rawInt s.heap.objs.size)->IsPair h' TO x y->at1 i1 (k1+1) h'->at2 i2 (k2+1) h'->IsPair h' s.heap.objs.size x y->h'.objs.size=s.heap.objs.size+1 ->
     (∀ c o,c≠z->c≠TO->c≠i1->c≠i2->s.heap.get? c=some o->h'.get? c=some o)->Q (.ref s.heap.objs.size) { s with heap:=h' }) :
   wpAny (model P w) A (Builtin.«zip.__next__» ⟨[.ref z],[]⟩) (fun fn s'=>∃ v,fn=.done (.ret v)/\Q v s') E s:=by
 show wpAny (model P w) _ (field (.ref z) 2 >>= _) _ _ _;refine wpAny_bind (wpAny_field Hz rfl (x:=.bool false) rfl ?_);show wpAny (model P w) _ (field (.ref z) 3 >>= _) _ _ _;refine wpAny_bind (wpAny_field Hz rfl (x:=.ref TI) rfl ?_);refine wpAny_bind (wpAny_seqItems HI rfl ?_);show wpAny (model P w) _ (Builtin.SmallTypes.ownedTupleIsFree (.ref z) >>= _) _ _ _;refine wpAny_bind ?_;unfold Builtin.SmallTypes.ownedTupleIsFree;refine wpAny_bind (wpAny_field Hz rfl (x:=.none) rfl (wpAny_pure ?_));simp only [if_true];refine wpAny_bind (wpAny_rule ?_);refine wpAny_bind (wpAny_field Hz rfl (x:=.ref TO) rfl ?_);refine wpAny_bind (wpAny_setField_rec Hz (by simp) fun g1 z1 e1=>?_);replace z1:IsZip g1 z TI TO .ellipsis:=z1;refine wpAny_bind ?_;simp only [List.zipIdx_cons,List.zipIdx_nil,List.forIn_cons,List.forIn_nil];refine wpAny_bind (wpAny_bind (wpAny_onRaise ?_));show wpAny (model P w) _ (Builtin.SmallTypes.nextOf (.ref i1) >>= _) _ _ _;refine wpAny_bind (S1.item _ { s with heap:=g1 } i1 k1 xs x _ _ (S1.atK _ _ _ _ p1 fun o e=>e1.extBut _ _ D.a3 e) (S1.srcK _ _ _ q1 fun o e=>e1.extBut _ _ D.b1.1 e) hx fun g2 p1b e2=>wpAny_pure ?_);have o2:IsPair g2 TO a b:=e2.extBut _ _ D.a8 (e1.extBut _ _ D.a2 HO');refine wpAny_bind (wpAny_seqItems o2 rfl ?_);refine wpAny_bind (wpAny_updateSeq_pair o2 fun g3 o3 e3=>?_);replace o3:IsPair g3 TO x b:=o3;refine wpAny_bind (wpAny_letGo (wpAny_pure ?_));refine wpAny_bind (wpAny_bind (wpAny_onRaise ?_));show wpAny (model P w) _ (Builtin.SmallTypes.nextOf (.ref i2) >>= _) _ _ _;refine wpAny_bind (S2.item _ { s with heap:=g3 } i2 k2 ys y _ _ (S2.atK _ _ _ _ p2 fun o e=>e3.extBut _ _ D.a9.symm (e2.extBut _ _ D.a0.symm (e1.extBut _ _ D.a4 e))) (S2.srcK _ _ _ q2 fun o e=>e3.extBut _ _ D.b2.2.1 (e2.extBut _ _ D.b2.2.2.1 (e1.extBut _ _ D.b2.1 e))) hy fun g4 p2b e4=>wpAny_pure ?_);have o4:IsPair g4 TO x b:=e4.extBut _ _ D.a9 o3;refine wpAny_bind (wpAny_seqItems o4 rfl ?_);refine wpAny_bind (wpAny_updateSeq_pair o4 fun g5 o5 e5=>?_);replace o5:IsPair g5 TO x y:=o5;refine wpAny_bind (wpAny_letGo (wpAny_pure (wpAny_pure ?_)));refine wpAny_bind (wpAny_seqItems o5 rfl ?_);refine wpAny_bind (wpAny_newTuple ?_);have sz:g5.objs.size=s.heap.objs.size:=by rw [e5.1,e4.1,e3.1,e2.1,e1.1]
 have z5:IsZip g5 z TI TO .ellipsis:=e5.extBut _ _ D.a2.symm (e4.extBut _ _ D.a4.symm (e3.extBut _ _ D.a2.symm (e2.extBut _ _ D.a3.symm z1)));have k5:∀ c o,c≠z->c≠TO->c≠i1->c≠i2->s.heap.get? c=some o->g5.get? c=some o:=fun c o c1 c2 c3 c4 e =>
   e5.extBut _ _ c2 (e4.extBut _ _ c4 (e3.extBut _ _ c2 (e2.extBut _ _ c3 (e1.extBut _ _ c1 e))))
 have p15:at1 i1 (k1+1) g5:=S1.atK _ _ _ _ p1b fun o e=>e5.extBut _ _ D.a8.symm (e4.extBut _ _ D.a0 (e3.extBut _ _ D.a8.symm e));have p25:at2 i2 (k2+1) g5:=S2.atK _ _ _ _ p2b fun o e=>e5.extBut _ _ D.a9.symm e;have zlt:z<g5.objs.size:=Heap.lt_size z5;show wpAny (model P w) _ (Builtin.SmallTypes.ownedTupleHandOut (.ref z) (.ref g5.objs.size) >>= _) _ _ _;refine wpAny_bind ?_;unfold Builtin.SmallTypes.ownedTupleHandOut;have z6:IsZip (g5.push { cls:=.type "tuple",data:=.seq #[x,y] }) z TI TO .ellipsis:=Heap.get?_push_of_some _ z5;refine wpAny_bind (wpAny_setField_rec z6 (by simp) fun g7 z7 e7=>?_);replace z7:IsZip g7 z TI TO (rawInt g5.objs.size):=z7;refine wpAny_setField_rec z7 (by simp) fun g8 z8 e8=>?_;replace z8:IsZip g8 z TI TO (rawInt g5.objs.size):=z8;have up:∀ c o,c≠z->g5.get? c=some o->g8.get? c=some o:=fun c o c1 e=>e8.extBut _ _ c1 (e7.extBut _ _ c1 (Heap.get?_push_of_some _ e));have t8:IsPair g8 g5.objs.size x y:=e8.extBut _ _ (Nat.ne_of_gt zlt) (e7.extBut _ _ (Nat.ne_of_gt zlt) (Heap.get?_push_size _ rfl));have s8:g8.objs.size=g5.objs.size+1:=by rw [e8.1,e7.1,Heap.size_push]
 rw [sz] at z8 t8 s8;refine wpAny_pure ⟨_,rfl,?_⟩;show Q (.ref g5.objs.size) _;rw [sz];exact hQ g8 z8 (up _ _ D.a2 o5) (S1.atK _ _ _ _ p15 fun o e=>up _ o D.a3 e) (S2.atK _ _ _ _ p25 fun o e=>up _ o D.a4 e) t8 s8 fun c o c1 c2 c3 c4 e=>up c o c1 (k5 c o c1 c2 c3 c4 e)
theorem LD (S1:SubF P w l1 ob1 src1 at1) (S2:SubF P w l2 ob2 src2 at2) {z TI TO i1 i2:Addr} {k1 k2:Nat} {xs ys:Array Value} {a b:Value} {Q:Fin->Shared->Prop} (hh:A.handled=none) (D:ZAp z TI TO i1 i2 l1 l2)
   (Hz:IsZip s.heap z TI TO .none) (HI:IsPair s.heap TI (.ref i1) (.ref i2)) (HO':IsPair s.heap TO a b) (p1:at1 i1 k1 s.heap) (p2:at2 i2 k2 s.heap) (q1:src1 s.heap xs) (q2:src2 s.heap ys) (hend:xs[k1]?=none\/ys[k2]?=none)
   (hE:∀ h' e,(∀ c o,c≠z->c≠TO->c≠i1->c≠i2->s.heap.get? c=some o->h'.get? c=some o)->(∃ o,h'.get? e=some o/\o.cls=.type "StopIteration")->E (.ref e) { s with heap:=h' }) :
   wpAny (model P w) A (Builtin.«zip.__next__» ⟨[.ref z],[]⟩) Q E s:=by
 show wpAny (model P w) _ (field (.ref z) 2 >>= _) _ _ _;refine wpAny_bind (wpAny_field Hz rfl (x:=.bool false) rfl ?_);show wpAny (model P w) _ (field (.ref z) 3 >>= _) _ _ _;refine wpAny_bind (wpAny_field Hz rfl (x:=.ref TI) rfl ?_);refine wpAny_bind (wpAny_seqItems HI rfl ?_);show wpAny (model P w) _ (Builtin.SmallTypes.ownedTupleIsFree (.ref z) >>= _) _ _ _;refine wpAny_bind ?_;unfold Builtin.SmallTypes.ownedTupleIsFree;refine wpAny_bind (wpAny_field Hz rfl (x:=.none) rfl (wpAny_pure ?_));simp only [if_true];refine wpAny_bind (wpAny_rule ?_);refine wpAny_bind (wpAny_field Hz rfl (x:=.ref TO) rfl ?_);refine wpAny_bind (wpAny_setField_rec Hz (by simp) fun g1 z1 e1=>?_);replace z1:IsZip g1 z TI TO .ellipsis:=z1;refine wpAny_bind ?_;simp only [List.zipIdx_cons,List.zipIdx_nil,List.forIn_cons,List.forIn_nil];refine wpAny_bind (wpAny_bind (wpAny_onRaise ?_));show wpAny (model P w) _ (Builtin.SmallTypes.nextOf (.ref i1) >>= _) _ _ _;have p1a:at1 i1 k1 g1:=S1.atK _ _ _ _ p1 fun o e=>e1.extBut _ _ D.a3 e;have q1a:src1 g1 xs:=S1.srcK _ _ _ q1 fun o e=>e1.extBut _ _ D.b1.1 e;cases hx:xs[k1]? with
 | none =>
   refine wpAny_bind (S1.fin _ { s with heap:=g1 } i1 k1 xs _ _ hh p1a q1a hx fun g2 e e2 he=>?_);obtain ⟨oe,hoe,hce⟩:=he;have z2:IsZip g2 z TI TO .ellipsis:=e2 _ _ D.a3.symm z1;have ez:e≠z:=fun t=>by subst t;rw [z2] at hoe;cases hoe;simp at hce
   refine wpAny_setField_rec z2 (by simp) fun g3 _ e3=>hE g3 e (fun c o c1 _ c3 _ t=>e3.extBut _ _ c1 (e2 _ _ c3 (e1.extBut _ _ c1 t))) ⟨oe,e3.extBut _ _ ez hoe,hce⟩
 | some x =>
   have hy:ys[k2]?=none:=by
     rcases hend with h|h
     . rw [hx] at h;cases h
     . exact h
   refine wpAny_bind (S1.item _ { s with heap:=g1 } i1 k1 xs x _ _ p1a q1a hx fun g2 p1b e2=>wpAny_pure ?_);have o2:IsPair g2 TO a b:=e2.extBut _ _ D.a8 (e1.extBut _ _ D.a2 HO');refine wpAny_bind (wpAny_seqItems o2 rfl ?_);refine wpAny_bind (wpAny_updateSeq_pair o2 fun g3 o3 e3=>?_);refine wpAny_bind (wpAny_letGo (wpAny_pure ?_));refine wpAny_bind (wpAny_bind (wpAny_onRaise ?_));show wpAny (model P w) _ (Builtin.SmallTypes.nextOf (.ref i2) >>= _) _ _ _;refine wpAny_bind (S2.fin _ { s with heap:=g3 } i2 k2 ys _ _ hh (S2.atK _ _ _ _ p2 fun o e=>e3.extBut _ _ D.a9.symm (e2.extBut _ _ D.a0.symm (e1.extBut _ _ D.a4 e))) (S2.srcK _ _ _ q2 fun o e=>e3.extBut _ _ D.b2.2.1 (e2.extBut _ _ D.b2.2.2.1 (e1.extBut _ _ D.b2.1 e))) hy fun g4 e e4 he=>?_);obtain ⟨oe,hoe,hce⟩:=he;have z4:IsZip g4 z TI TO .ellipsis:=e4 _ _ D.a4.symm (e3.extBut _ _ D.a2.symm (e2.extBut _ _ D.a3.symm z1));have ez:e≠z:=fun t=>by subst t;rw [z4] at hoe;cases hoe;simp at hce
   refine wpAny_setField_rec z4 (by simp) fun g5 _ e5=>hE g5 e (fun c o c1 c2 c3 c4 t=>e5.extBut _ _ c1 (e4 _ _ c4 (e3.extBut _ _ c2 (e2.extBut _ _ c3 (e1.extBut _ _ c1 t))))) ⟨oe,e5.extBut _ _ ez hoe,hce⟩
abbrev zp1 (h:Heap) (ob1 ob2:Obj):Heap:=(h.push ob1).push ob2
abbrev zp2 (h:Heap) (ob1 ob2:Obj):Heap:=(zp1 h ob1 ob2).push { cls:=.type "tuple",data:=.seq #[.ref h.objs.size,.ref (h.push ob1).objs.size] }
abbrev zp3 (h:Heap) (ob1 ob2:Obj):Heap:=(zp2 h ob1 ob2).push { cls:=.type "tuple",data:=.seq #[.none,.none] }
abbrev zp4 (h:Heap) (ob1 ob2:Obj):Heap:=(zp3 h ob1 ob2).push { cls:=.type "zip",data:=.fields #[.none,.bool false,.bool false,.ref (zp1 h ob1 ob2).objs.size,.ref (zp2 h ob1 ob2).objs.size] }
theorem Hq (S1:∀ P w,SubF P w l1 ob1 src1 at1) (S2:∀ P w,SubF P w l2 ob2 src2 at2) (ne:∀ h vs,src2 h vs->∃ o,h.get? l2=some o) (xs ys:Array Value) :
   Meets (Builtin.«zip.__new__» ⟨[.type "zip",.ref l1,.ref l2],[]⟩) (fun _ R s=>src1 s.heap xs/\src2 s.heap ys/\R (.ok (.ret (.ref (zp3 s.heap ob1 ob2).objs.size))) { s with heap:=zp4 s.heap ob1 ob2 }) :=
 .of_wp fun prog w A R s hyp=>by
   obtain ⟨hp,g,d,tk,os⟩:=s;obtain ⟨q1,q2,r⟩:=hyp;have zsub:=sub_zip;have B1:src1 (Shared.heap ⟨hp,g,d,tk,os⟩) xs:=q1;have B2:src2 (Shared.heap ⟨hp.push ob1,g,d,tk,os⟩) ys:=(S2 prog w).srcK _ _ _ q2 fun o e=>Heap.get?_push_of_some _ e
   wp_walk using ((S1 prog w).start _ _ _ _ _ B1),((S2 prog w).start _ _ _ _ _ B2)
   exact ⟨_,rfl,r⟩
theorem Rt (S1:∀ P w,SubF P w l1 ob1 src1 at1) (S2:∀ P w,SubF P w l2 ob2 src2 at2) (ne:∀ h vs,src2 h vs->∃ o,h.get? l2=some o) {xs ys:Array Value} {Q:Value->Shared->Prop} (q1:src1 s.heap xs) (q2:src2 s.heap ys)
   (h:∀ h',IsZip h' (s.heap.objs.size+4) (s.heap.objs.size+2) (s.heap.objs.size+3) .none->IsPair h' (s.heap.objs.size+2) (.ref s.heap.objs.size) (.ref (s.heap.objs.size+1)) ->
     IsPair h' (s.heap.objs.size+3) .none .none->at1 s.heap.objs.size 0 h'->at2 (s.heap.objs.size+1) 0 h' ->
     (∀ c o,s.heap.get? c=some o->h'.get? c=some o)->Q (.ref (s.heap.objs.size+4)) { s with heap:=h' }) (f1:ob1.isFreed=false) (f2:ob2.isFreed=false) :
   wpAny (model P w) A (call (.type "zip") [.ref l1,.ref l2]) Q E s:=by
 refine callType_new F.called_zip (by decide) (F.typeCall_zip_2 _ _) (F.newCall_zip_2 _ _) (fun obj=>F.args_object_init_3 obj _ _) F.entry_zip_new (Hq S1 S2 ne xs ys) ⟨q1,q2,?_⟩;have n0:(s.heap.push ob1).objs.size=s.heap.objs.size+1:=Heap.size_push ..;have n1:(zp1 s.heap ob1 ob2).objs.size=s.heap.objs.size+2:=by rw [Heap.size_push,n0]
 have n2:(zp2 s.heap ob1 ob2).objs.size=s.heap.objs.size+3:=by rw [Heap.size_push,n1]
 have n3:(zp3 s.heap ob1 ob2).objs.size=s.heap.objs.size+4:=by rw [Heap.size_push,n2]
 have c5:(zp4 s.heap ob1 ob2).get? (zp3 s.heap ob1 ob2).objs.size=some _:=Heap.get?_push_size _ rfl;have c4:(zp4 s.heap ob1 ob2).get? (zp2 s.heap ob1 ob2).objs.size=some _:=Heap.get?_push_of_some _ (Heap.get?_push_size _ rfl);have c3:(zp4 s.heap ob1 ob2).get? (zp1 s.heap ob1 ob2).objs.size=some _:=Heap.get?_push_of_some _ (Heap.get?_push_of_some _ (Heap.get?_push_size _ rfl));have c2:(zp4 s.heap ob1 ob2).get? (s.heap.push ob1).objs.size=some ob2:=Heap.get?_push_of_some _ (Heap.get?_push_of_some _ (Heap.get?_push_of_some _ (Heap.get?_push_size _ f2)));have c1:(zp4 s.heap ob1 ob2).get? s.heap.objs.size=some ob1:=Heap.get?_push_of_some _ (Heap.get?_push_of_some _ (Heap.get?_push_of_some _ (Heap.get?_push_of_some _ (Heap.get?_push_size _ f1))));show _/\_;rw [n1,n2,n3] at c5;rw [n0,n1] at c3;rw [n2] at c4;rw [n0] at c2;rw [n3];exact ⟨⟨_,c5,rfl⟩,h _ c5 c3 c4 ((S1 P w).first _ _ c1) ((S2 P w).first _ _ c2) fun c o e=>Heap.get?_push_of_some _ (Heap.get?_push_of_some _ (Heap.get?_push_of_some _ (Heap.get?_push_of_some _ (Heap.get?_push_of_some _ e))))⟩
end
def SqX (K:PySem.W.Frag):Bool->Hp->Addr->List V->Prop
 | true,H,a,xs=>SqL K H a xs
 | false,H,a,xs=>SqT K H a xs
def Itz (K:PySem.W.Frag) (c d:Bool) (a b:Addr):It :=
 ⟨fun i H=>∃ xs ys x y,SqX K c H a xs/\SqX K d H b ys/\xs[i]?=some x/\ys[i]?=some y,
  fun i H v H'=>∃ p x y,H p=none/\v=.ref p/\H'=upd H p (.tup [x,y])/\(∀ xs,SqX K c H a xs->xs[i]?=some x)/\∀ ys,SqX K d H b ys->ys[i]?=some y,
  fun i H=>∃ xs ys,SqX K c H a xs/\SqX K d H b ys/\(xs.length<=i\/ys.length<=i)⟩
def V1 (a:Addr):Bool->Obj
 | true=>{ cls:=.type "list_iterator",data:=.fields #[.ref a,.int 0 0] }
 | false=>{ cls:=.type "tuple_iterator",data:=.fields #[.ref a,.int 0 0] }
def NJ (a:Addr):Bool->Heap->Array Value->Prop
 | true,h,vs=>h.IsList a vs
 | false,h,vs=>h.IsTuple a vs
def zAt (a:Addr):Bool->Addr->Nat->Heap->Prop
 | true,it,i,h=>h.IsListIter it a i
 | false,it,i,h=>h.IsTupleIter it a i
theorem hV (a:Addr) (c:Bool) (P:Program) (w:World):SubF P w a (V1 a c) (NJ a c) (zAt a c):=by
 cases c
 . exact Ry a
 . exact QE a
theorem AG (a:Addr) (c:Bool):(V1 a c).isFreed=false:=by cases c <;> rfl
theorem tq (a:Addr) (c:Bool) (h:Heap) (vs:Array Value) (e:NJ a c h vs):∃ o,h.get? a=some o:=by
 cases c
 . obtain ⟨o,ho,_⟩:=e;exact ⟨o,ho⟩
 . obtain ⟨o,ho,_⟩:=e;exact ⟨o,ho⟩
theorem Inv.sqX {X:Cx} {pins:List (Addr × Obj)} {σ:St} {H:Hp} {s:Shared} {c:Bool} {a:Addr} {xs:List V} (I:Inv X pins σ H s) (h:SqX X.K c H a xs):∃ its:List Value,Vals xs its/\NJ a c s.heap its.toArray:=by
 cases c with
 | true =>
   obtain ⟨its,r,pl,_⟩:=I.list h;exact ⟨its,r,pl.isList⟩
 | false =>
   obtain ⟨its,r,⟨o,ho,hc,n,hd⟩,_⟩:=I.tuple h;exact ⟨its,r,⟨o,ho,hc,n,hd⟩⟩
theorem Inv.sqX_inj {X:Cx} {pins:List (Addr × Obj)} {σ:St} {H:Hp} {s:Shared} {c:Bool} {a:Addr} {xs ys:List V} (I:Inv X pins σ H s) (h:SqX X.K c H a xs) (h':SqX X.K c H a ys):xs=ys:=by
 cases c with
 | true=>exact I.list_inj h h'
 | false=>exact I.tuple_inj h h'
theorem RH {P:Program} {w:World} {K:PySem.W.Frag} {elts:List Expr} {x1} {tpos:Pos} (c d:Bool) (a b z TI TO i1 i2:Addr) (D:ZAp z TI TO i1 i2 a b) :
   Turn P w K (.Tuple elts x1 tpos) (Itz K c d a b) [z,TI,TO,i1,i2] z (fun i h=>IsZip h z TI TO .none/\IsPair h TI (.ref i1) (.ref i2)/\(∃ u v,IsPair h TO u v)/\zAt a c i1 i h/\zAt b d i2 i h) where
 mem:=by simp
 obj:=fun i h t e he=>by
   obtain ⟨t1,t2,⟨u,v,t3⟩,t4,t5⟩:=t;simp only [List.mem_cons,List.mem_nil_iff,or_false] at he;rcases he with rfl|rfl|rfl|rfl|rfl
   . exact ⟨_,t1,fun v z=>by cases z⟩
   . exact ⟨_,t2,fun v z=>by cases z⟩
   . exact ⟨_,t3,fun v z=>by cases z⟩
   . exact (hV a c P w).obj _ _ _ t4
   . exact (hV b d P w).obj _ _ _ t5
 keep:=fun i h h' t k=>by
   obtain ⟨t1,t2,⟨u,v,t3⟩,t4,t5⟩:=t;exact ⟨k z (by simp) _ t1,k TI (by simp) _ t2,⟨u,v,k TO (by simp) _ t3⟩,(hV a c P w).atK _ _ _ _ t4 fun o e=>k i1 (by simp) o e,(hV b d P w).atK _ _ _ _ t5 fun o e=>k i2 (by simp) o e⟩
 item:=fun X e1 e2 e3 hc i pins s σ H E I f t g=>by
   subst e1 e2 e3;obtain ⟨t1,t2,⟨u,v,t3⟩,t4,t5⟩:=t;obtain ⟨xs,ys,x,y,s1,s2,hx,hy⟩:=g;obtain ⟨us,r1,q1⟩:=I.sqX s1;obtain ⟨vs,r2,q2⟩:=I.sqX s2;obtain ⟨xu,hxu,rx⟩:=r1.get hx;obtain ⟨yu,hyu,ry⟩:=r2.get hy;have hT:s.TypeIs (.ref z) "zip":=⟨_,t1,rfl⟩;unfold pyNext;refine wpAny_bind (wpAny_attempt (wpAny_callSpecial?_slot (name:=Str.ofString "__next__") hT F.slot_zip_next (wpAny_call_entry F.slot_zip_next hT F.entry_zip_next
     (Js (hV a c _ _) (hV b d _ _) D t1 t2 t3 t4 t5 q1 q2 (x:=xu) (y:=yu) (by simpa using hxu) (by simpa using hyu) fun h' w1 w2 w3 w4 w5 w6 w7=>wpAny_pure ?_) (F.args_zip_next_1 _))))
   refine ⟨_,rfl,wpAny_letOwnedTupleGo_zip w1 fun h2 n1 n2=>?_⟩;have fz:∀ q∈[z,TI,TO,i1,i2],m9 X pins H q:=f;have lt0:s.heap.objs.size≠z:=Nat.ne_of_gt (Heap.lt_size t1);have new:IsPair h2 s.heap.objs.size xu yu:=n2.extBut _ _ lt0 w5;have kp:∀ q o,q ∉ [z,TI,TO,i1,i2]->s.heap.get? q=some o->h2.get? q=some o:=fun q o hq e=>by
     simp only [List.mem_cons,List.mem_nil_iff,or_false,not_or] at hq;exact n2.extBut _ _ hq.1 (w7 q o hq.1 hq.2.2.1 hq.2.2.2.1 hq.2.2.2.2 e)
   have kTI:h2.get? TI=some _:=n2.extBut _ _ D.a1 (w7 TI _ D.a1 D.a5 D.a6 D.a7 t2);have Hn:∀ q u,H q=some u->q ∉ [z,TI,TO,i1,i2]:=fun q u e hq=>by rw [(fz q hq).1] at e;cases e
   have I2:Inv X pins σ H { s with heap:=h2 }:=by
     refine I.step (g':=s.gens) (d':=s.drawn) (t':=s.toks) (ch:=[z,TI,TO,i1,i2]) (fun q hq=>⟨(fz q hq).2.2.2.1,(fz q hq).2.1,(fz q hq).2.2.2.2.1,(fz q hq).2.2.2.2.2⟩) (fun q o _ _ hq e _=>kp q o hq e) (fun q o _ _ hq e _=>⟨o.slots,kp q o hq e⟩) (fun _ _ _ _ n=>n)
       (fun q o hq e=>⟨o,kp q o hq e⟩) (fun _ _ e=>e) (fun _ _ _ e=>e) (fun q ps e=>⟨#[],by rw [e];simp⟩) (fun m hm=>?_) (fun q u e=>?_) I.bare
     . obtain ⟨o,es,ep,ho,r⟩:=hm;exact ⟨o,es,ep,kp _ o (fun hq=>(fz _ hq).2.1 rfl) ho,r⟩
     . refine (I.hok q u e).stay (fun q' v hq' e'=>kp q' v ?_ e') (fun _ e'=>e') fun _ _ e'=>e';rcases hq' with rfl|hq'
       . exact Hn _ u e
       . exact Hn _ _ hq'
   have nH:H s.heap.objs.size=none:=I.fresh;have I3:Inv X pins σ (upd H s.heap.objs.size (.tup [x,y])) { s with heap:=h2 }:=by
     refine ⟨I2.ok,I2.os,I2.bare,?_,I2.loc,I2.cell,?_,fun n c e=>?_,fun p hp=>?_,fun q u e=>?_,I2.len⟩
     . refine ⟨I2.base.keep,I2.base.slot,fun q o e n hx=>?_,I2.base.there,fun q xs e=>?_,fun q o u e=>?_,fun q ps e=>?_⟩
       . have lt:q<X.s₀.heap.objs.size:=Heap.lt_size e;rw [ao (Nat.ne_of_lt (Nat.lt_of_lt_of_le lt I.sz))];exact I2.base.free q o e n hx
       . have e':=I2.base.tups q xs e;rw [ao (fun z=>by rw [z,nH] at e';cases e')];exact e'
       . have e':=I2.base.frzs q o u e;rw [ao (fun z=>by rw [z,nH] at e';cases e')];exact e'
       . obtain ⟨more,e'⟩:=I2.base.tbls q ps e;exact ⟨more,by rw [ao (fun z=>by rw [z,nH] at e';cases e')];exact e'⟩
     . rw [ao (Nat.ne_of_lt I.lt)];exact I2.free
     . obtain ⟨vv,o,ho,_⟩:=I.cell n c e;rw [ao (Nat.ne_of_lt (Heap.lt_size ho))];exact I2.freeC n c e
     . obtain ⟨k1,k2,k3⟩:=I.pin p hp;rw [ao (Nat.ne_of_lt (Heap.lt_size k1))];exact I2.pin p hp
     . by_cases hq:q=s.heap.objs.size
       . subst hq;rw [ah] at e;cases e;exact ⟨by show 2<=sizeLine;decide,[xu,yu],.cons rx (.cons ry .nil),_,new,rfl,_,rfl⟩
       . rw [ao hq] at e;refine (I2.hok q u e).stay (fun _ _ _ e'=>e') (fun q' e'=>?_) fun q' xs e'=>?_
         . rw [ao (fun z=>by rw [z,nH] at e';cases e')];exact e'
         . rw [ao (fun z=>by rw [z,nH] at e';cases e')];exact e'
   refine ⟨.ref s.heap.objs.size,_,I3,rfl,⟨_,x,y,nH,rfl,rfl,fun xs' q=>?_,fun ys' q=>?_⟩,⟨n1,kTI,⟨_,_,n2.extBut _ _ D.a2 w2⟩,(hV a c X.prog X.w).atK _ _ _ _ w3 fun o e=>n2.extBut _ _ D.a3 e,(hV b d X.prog X.w).atK _ _ _ _ w4 fun o e=>n2.extBut _ _ D.a4 e⟩,fun q hq=>?_⟩
   . rw [<- I.sqX_inj s1 q];exact hx
   . rw [<- I.sqX_inj s2 q];exact hy
   . have hlt:q<s.heap.objs.size:=by
       simp only [List.mem_cons,List.mem_nil_iff,or_false] at hq;rcases hq with rfl|rfl|rfl|rfl|rfl
       . exact Heap.lt_size t1
       . exact Heap.lt_size t2
       . exact Heap.lt_size t3
       . exact let ⟨o,e,_⟩:=(hV a c X.prog X.w).obj _ _ _ t4;Heap.lt_size e
       . exact let ⟨o,e,_⟩:=(hV b d X.prog X.w).obj _ _ _ t5;Heap.lt_size e
     rw [ao (Nat.ne_of_lt hlt)];exact (fz q hq).1
 done:=fun X e1 e2 e3 hc i pins s σ H E I f t g=>by
   subst e1 e2 e3;obtain ⟨t1,t2,⟨u,v,t3⟩,t4,t5⟩:=t;obtain ⟨xs,ys,s1,s2,hend⟩:=g;obtain ⟨us,r1,q1⟩:=I.sqX s1;obtain ⟨vs,r2,q2⟩:=I.sqX s2;have fz:∀ q∈[z,TI,TO,i1,i2],m9 X pins H q:=f;have hh:X.A.handled=none:=I.ok.hd hc;have hT:s.TypeIs (.ref z) "zip":=⟨_,t1,rfl⟩;have hend':us.toArray[i]?=none\/vs.toArray[i]?=none:=by
     rcases hend with e|e
     . exact .inl (by have:=r1.length;simp;omega)
     . exact .inr (by have:=r2.length;simp;omega)
   unfold pyNext;refine wpAny_bind (wpAny_attempt (wpAny_callSpecial?_slot (name:=Str.ofString "__next__") hT F.slot_zip_next (wpAny_call_entry F.slot_zip_next hT F.entry_zip_next
     (LD (hV a c _ _) (hV b d _ _) hh D t1 t2 t3 t4 t5 q1 q2 hend' fun h' e hk he=>?_) (F.args_zip_next_1 _))))
   obtain ⟨o,ho,hcl⟩:=he;refine wpAny_bind (wpAny_isInstance (T:="StopIteration") (b:=true) ⟨o,ho,hcl⟩ isSubtype_stop (wpAny_pure ⟨rfl,?_⟩));have kp:∀ q o,q ∉ [z,TI,TO,i1,i2]->s.heap.get? q=some o->h'.get? q=some o:=fun q o hq e=>by
     simp only [List.mem_cons,List.mem_nil_iff,or_false,not_or] at hq;exact hk q o hq.1 hq.2.2.1 hq.2.2.2.1 hq.2.2.2.2 e
   have Hn:∀ q u,H q=some u->q ∉ [z,TI,TO,i1,i2]:=fun q u e hq=>by rw [(fz q hq).1] at e;cases e
   refine I.step (g':=s.gens) (d':=s.drawn) (t':=s.toks) (ch:=[z,TI,TO,i1,i2]) (fun q hq=>⟨(fz q hq).2.2.2.1,(fz q hq).2.1,(fz q hq).2.2.2.2.1,(fz q hq).2.2.2.2.2⟩) (fun q o _ _ hq e _=>kp q o hq e) (fun q o _ _ hq e _=>⟨o.slots,kp q o hq e⟩) (fun _ _ _ _ n=>n)
     (fun q o hq e=>⟨o,kp q o hq e⟩) (fun _ _ e=>e) (fun _ _ _ e=>e) (fun q ps e=>⟨#[],by rw [e];simp⟩) (fun m hm=>?_) (fun q u e=>?_) I.bare
   . obtain ⟨o,es,ep,ho,r⟩:=hm;exact ⟨o,es,ep,kp _ o (fun hq=>(fz _ hq).2.1 rfl) ho,r⟩
   . refine (I.hok q u e).stay (fun q' v hq' e'=>kp q' v ?_ e') (fun _ e'=>e') fun _ _ e'=>e';rcases hq' with rfl|hq'
     . exact Hn _ u e
     . exact Hn _ _ hq'
 self:=fun A i s Q E t q=>wpAny_pyIter_zip t.1 q
end L2
set_option Elab.async false
set_option linter.all false
set_option maxRecDepth 100000
namespace L2
open PySem PySem.Spec PyProof.Rows
section
variable {X:Cx} {pins:List (Addr × Obj)} {σ:St} {H H2:Hp} {s s2:Shared} {a:Addr} {o:HO}
end
section
variable {P:Program} {w:World} {A:Around} {E:Value->Shared->Prop} {s:Shared}
end
end L2
set_option Elab.async false
set_option linter.all false
set_option maxRecDepth 100000
namespace L2
open PySem PySem.Spec PyProof.Rows
section
variable {P:Program} {w:World} {A:Around} {E:Value->Shared->Prop} {s:Shared} {R:Result->Shared->Prop}
end
section
variable {X:Cx} {e:Expr} {te:TE} {p1 p2 pos pos2:Pos}
end
end L2
set_option Elab.async false
set_option linter.all false
set_option maxRecDepth 100000
namespace L2
open PySem PySem.Spec PyProof.Rows
theorem iM {a b:Nat} (h:a<b\/b<a):a≠b:=by omega
theorem WF (n a b:Nat) (h1:a<n) (h2:b<n):ZAp (n+4) (n+2) (n+3) n (n+1) a b :=
 ⟨iM (by omega),iM (by omega),iM (by omega),iM (by omega),iM (by omega),iM (by omega),iM (by omega),iM (by omega),iM (by omega),iM (by omega),⟨iM (by omega),iM (by omega),iM (by omega),iM (by omega)⟩,⟨iM (by omega),iM (by omega),iM (by omega),iM (by omega)⟩⟩
section
variable {X:Cx}
def S9 (K:PySem.W.Frag) (c d:Bool) (ta:TA):TI:=fun σ H R=>ta σ H fun vs H1=>∃ a b,vs=[.ref a,.ref b]/\(∃ xs,SqX K c H1 a xs)/\(∃ ys,SqX K d H1 b ys)/\R (Itz K c d a b) H1
theorem Pp {elts:List Expr} {x1} {tpos:Pos} {ea eb:Expr} {ta:TA} {p pos:Pos} (c d:Bool) (hg:Gl X "zip") (hm:X.mg "zip"=none) (ha:PA X [ea,eb] ta)
   (hs:starEach [ea,eb] X.env=[(false,eval ea X.env),(false,eval eb X.env)]:=by rfl) (hs2:starEach [eb] X.env=[(false,eval eb X.env)]:=by rfl) :
   PI X (.Tuple elts x1 tpos) (.Call (.Name "zip" p) [ea,eb] [] pos) (S9 X.K c d ta):=by
 intro pins s σ H R I h;refine Call_ (tV I hg hm boot_zip (PyProof.Rows.callWith_type1 (yw (ha pos pins s σ H _ I h) fun us s1 vs H1 I1 r1 q1=>?_) (by rw [hs,hs2]) (by rw [hs2];rfl)));obtain ⟨a,b,e,⟨xs,sa⟩,⟨ys,sb⟩,q⟩:=q1;subst e;obtain ⟨u,v,rfl,ru,rv⟩:=Ub r1;cases ru;cases rv;obtain ⟨us,r1,q1⟩:=I1.sqX sa;obtain ⟨vs,r2,q2⟩:=I1.sqX sb;obtain ⟨oa,hoa⟩:=tq a c _ _ q1;obtain ⟨ob,hob⟩:=tq b d _ _ q2;have la:=Heap.lt_size hoa;have lb:=Heap.lt_size hob;refine Rt (hV a c) (hV b d) (tq b d) q1 q2 (fun h' w1 w2 w3 w4 w5 w6=>?_) (AG a c) (AG b d);refine wpAny_pyIter_zip w1 ?_;have D:=WF s1.heap.objs.size a b la lb;refine ⟨_,[s1.heap.objs.size+4,s1.heap.objs.size+2,s1.heap.objs.size+3,s1.heap.objs.size,s1.heap.objs.size+1],_,_,H1,rfl,I1.kept (t':=s1.toks) w6,RH c d a b _ _ _ _ _ D,⟨w1,w2,⟨_,_,w3⟩,w4,w5⟩,fun q hq=>?_,q⟩;have hle:s1.heap.objs.size<=q:=by
   simp only [List.mem_cons,List.mem_nil_iff,or_false] at hq;rcases hq with rfl|rfl|rfl|rfl|rfl
   . exact Nat.le_add_right _ 4
   . exact Nat.le_add_right _ 2
   . exact Nat.le_add_right _ 3
   . exact Nat.le_refl _
   . exact Nat.le_add_right _ 1
 exact I1.fpOk hle (I1.hok.fresh hle)
end
theorem Vd {K:PySem.W.Frag} {c d:Bool} {a b:Addr} {xs ys:List V} {g:TG} {tb:TS} {D:Ends} {σ:St} {H:Hp} (Pv:Nat->St->Hp->Prop) (h0:Pv 0 σ H) (hl:∀ i σ H,Pv i σ H->SqX K c H a xs/\SqX K d H b ys)
   (hs:∀ i x y σ H p,xs[i]?=some x->ys[i]?=some y->Pv i σ H->H p=none->g (.ref p) σ (upd H p (.tup [x,y])) fun σ2 H2=>tb { D with nx:=Pv (i+1),ct:=Pv (i+1),bk:=D.nx } σ2 H2) (hd:∀ σ H,Pv (min xs.length ys.length) σ H->D.nx σ H) :
   ∃ W:Nat->Nat->St->Hp->Prop,(∃ m,W 0 m σ H)/\∀ i m σ H,W i m σ H ->
     ((Itz K c d a b).stop i H/\D.nx σ H)\/((Itz K c d a b).go i H/\∃ N:St->Hp->Prop,(∀ σ' H',N σ' H'->∃ m',m'<m/\W (i+1) m' σ' H')/\∀ x H',(Itz K c d a b).yld i H x H'->g x σ H' fun σ2 H2=>tb { D with nx:=N,ct:=N,bk:=D.nx } σ2 H2):=by
 refine ⟨fun i m σ H=>m=min xs.length ys.length - i/\i<=min xs.length ys.length/\Pv i σ H,⟨_,rfl,Nat.zero_le _,h0⟩,?_⟩;rintro i m σ H ⟨rfl,hi,p⟩;obtain ⟨q1,q2⟩:=hl i σ H p;by_cases hlt:i<min xs.length ys.length
 . refine .inr ⟨⟨xs,ys,xs[i]'(by omega),ys[i]'(by omega),q1,q2,List.getElem?_eq_getElem (by omega),List.getElem?_eq_getElem (by omega)⟩,Pv (i+1),fun σ' H' p'=>⟨min xs.length ys.length - (i+1),by omega,rfl,hlt,p'⟩,fun x H' y=>?_⟩;obtain ⟨p',x',y',hp,rfl,rfl,e1,e2⟩:=y;exact hs i x' y' σ H p' (e1 xs q1) (e2 ys q2) p hp
 . have e:i=min xs.length ys.length:=by omega
   subst e;exact .inl ⟨⟨xs,ys,q1,q2,by omega⟩,hd σ H p⟩
end L2
set_option linter.all false
namespace Pb
structure Road where
 a:Int
 b:Int
 t:Int
 u:Int
 deriving DecidableEq
def PB (m:Int) (rs:List Road):Prop:=∀ S:Int->Prop,S 0->(∀ r∈rs,(S r.a↔S r.b))->∀ v,0<=v->v<m->S v
structure RoadOk (m:Int) (r:Road):Prop where
 a0:0<=r.a
 a1:r.a<m
 b0:0<=r.b
 b1:r.b<m
 ne:r.a≠r.b
 t0:2<=r.t
 t1:r.t<=1000000
 u0:2<=r.u
 u1:r.u<=1000000
structure Good (m:Int) (rs:List Road):Prop where
 m1:1<=m
 m24:m<=24
 len:(rs.length:Int)=m - 1
 ok:∀ r∈rs,RoadOk m r
 jn:PB m rs
theorem qG {α:Type} [DecidableEq α]:∀ {l l':List α},l.Nodup->(∀ x∈l,x∈l')->l.length<=l'.length
 | [],_,_,_=>Nat.zero_le _
 | x::r,l',hn,hs=>by
   obtain ⟨h1,h2⟩:=List.nodup_cons.mp hn;have hx:x∈l':=hs x List.mem_cons_self;have:r.length<=(l'.erase x).length:=qG h2 fun y hy=>(List.mem_erase_of_ne (fun (e:y=x)=>h1 (by rw [<- e];exact hy))).mpr (hs y (List.mem_cons_of_mem _ hy));rw [List.length_erase_of_mem hx] at this;have hp:0<l'.length:=List.length_pos_of_mem hx;rw [List.length_cons];omega
def below (n:Nat):List Int:=(List.range n).map fun (k:Nat)=>(k:Int)
theorem gg {n:Nat} {v:Int}:v∈below n↔0<=v/\v<n:=by
 unfold below;rw [List.mem_map]
 constructor
 . rintro ⟨k,hk,rfl⟩;have:=List.mem_range.mp hk;omega
 . rintro ⟨h0,h1⟩;exact ⟨v.toNat,List.mem_range.mpr (by omega),by omega⟩
theorem bo (n:Nat):(below n).length=n:=by simp [below]
theorem rd (n:Nat):(below n).Nodup:=by
 unfold below;refine List.Pairwise.map _ (fun a b h=>?_) (List.nodup_range (n:=n));intro e;exact h (by omega)
theorem dw {m:Int} {l:List Int} (hm:0<=m) (hn:l.Nodup) (h:∀ x∈l,0<=x/\x<m):(l.length:Int)<=m:=by
 have:=qG (l':=below m.toNat) hn fun x hx=>gg.mpr ⟨(h x hx).1,by have:=(h x hx).2;omega⟩;rw [bo] at this;omega
theorem QT {m:Int} {l:List Int} (hm:0<=m) (h:∀ v,0<=v->v<m->v∈l):m<=(l.length:Int):=by
 have:=qG (l:=below m.toNat) (l':=l) (rd _) fun x hx=>by
   obtain ⟨h0,h1⟩:=gg.mp hx;exact h x h0 (by omega)
 rw [bo] at this;omega
def vH (p:Int) (r:Road):List Int:=(if r.a=p then [r.b] else [])++(if r.b=p then [r.a] else [])
def cF (rs:List Road) (p:Int):List Int:=rs.flatMap (vH p)
theorem vk {rs:List Road} {p e:Int}:e∈cF rs p↔∃ r∈rs,(r.a=p/\r.b=e)\/(r.b=p/\r.a=e):=by
 unfold cF vH;rw [List.mem_flatMap]
 constructor
 . rintro ⟨r,hr,h⟩;refine ⟨r,hr,?_⟩;rcases List.mem_append.mp h with h|h
   . by_cases c:r.a=p
     . rw [if_pos c] at h;exact .inl ⟨c,(List.mem_singleton.mp h).symm⟩
     . rw [if_neg c] at h;cases h
   . by_cases c:r.b=p
     . rw [if_pos c] at h;exact .inr ⟨c,(List.mem_singleton.mp h).symm⟩
     . rw [if_neg c] at h;cases h
 . rintro ⟨r,hr,h⟩;refine ⟨r,hr,List.mem_append.mpr ?_⟩;rcases h with ⟨h1,h2⟩|⟨h1,h2⟩
   . exact .inl (by rw [if_pos h1,h2];exact List.mem_singleton.mpr rfl)
   . exact .inr (by rw [if_pos h1,h2];exact List.mem_singleton.mpr rfl)
theorem Jc (rs:List Road) (p:Int):(cF rs p).length<=2*rs.length:=by
 unfold cF
 induction rs with
 | nil=>simp
 | cons r rs ih =>
   rw [List.flatMap_cons,List.length_append,List.length_cons];have:(vH p r).length<=2:=by
     unfold vH;rw [List.length_append];by_cases c:r.a=p <;> by_cases d:r.b=p <;> simp [c,d]
   omega
theorem vx (rs:List Road) (r:Road) (p:Int):cF (rs++[r]) p=cF rs p++vH p r:=by
 unfold cF;rw [List.flatMap_append];simp
def DZ (c:List Int × List Int) (e:Int):List Int × List Int:=if e∈c.1 then c else (c.1++[e],c.2++[e])
structure JInv (m:Int) (rs:List Road) (ks ws:List Int):Prop where
 nd:ks.Nodup
 zero:0∈ks
 rng:∀ k∈ks,0<=k/\k<m
 sub:∀ w∈ws,w∈ks
 cl:∀ k∈ks,k ∉ ws->∀ e∈cF rs k,e∈ks
 wl:ws.length<=ks.length
theorem MS {l:List Int} {e:Int} (h:l.Nodup) (he:e ∉ l):(l++[e]).Nodup:=by
 rw [List.nodup_append];refine ⟨h,by simp,fun a ha b hb=>?_⟩;rw [List.mem_singleton.mp hb];exact fun z=>he (z ▸ ha)
structure JMid (m:Int) (rs:List Road) (p:Int) (es ks ws ks0:List Int) (n0:Nat):Prop where
 nd:ks.Nodup
 zero:0∈ks
 rng:∀ k∈ks,0<=k/\k<m
 sub:∀ w∈ws,w∈ks
 cl:∀ k∈ks,k ∉ ws->k=p\/∀ e∈cF rs k,e∈ks
 seen:∀ e∈es,e∈ks
 pin:p∈ks
 mu:ks.length+n0=ks0.length+ws.length
 up:ks0.length<=ks.length
 wl:ws.length<=ks.length
theorem JMid.start {m:Int} {rs:List Road} {ks ws:List Int} {p:Int} (h:JInv m rs ks (ws++[p])):JMid m rs p [] ks ws ks ws.length where
 nd:=h.nd
 zero:=h.zero
 rng:=h.rng
 sub:=fun w hw=>h.sub w (List.mem_append_left _ hw)
 cl:=fun k hk hw=>by
   by_cases e:k=p
   . exact .inl e
   . exact .inr (h.cl k hk fun z=>by
       rcases List.mem_append.mp z with z|z
       . exact hw z
       . exact e (List.mem_singleton.mp z))
 seen:=fun e he=>by cases he
 pin:=h.sub p (List.mem_append_right _ (List.mem_singleton.mpr rfl))
 mu:=rfl
 up:=Nat.le_refl _
 wl:=by have:=h.wl;rw [List.length_append] at this;simp at this;omega
theorem JMid.step {m:Int} {rs:List Road} {p:Int} {es ks ws ks0:List Int} {n0:Nat} {e:Int} (h:JMid m rs p es ks ws ks0 n0) (h0:0<=e) (h1:e<m) :
   JMid m rs p (es++[e]) (DZ (ks,ws) e).1 (DZ (ks,ws) e).2 ks0 n0:=by
 unfold DZ;by_cases c:e∈ks
 . rw [if_pos c];refine ⟨h.nd,h.zero,h.rng,h.sub,h.cl,fun x hx=>?_,h.pin,h.mu,h.up,h.wl⟩;rcases List.mem_append.mp hx with z|z
   . exact h.seen x z
   . rw [List.mem_singleton.mp z];exact c
 . rw [if_neg c];dsimp only;refine ⟨MS h.nd c,List.mem_append_left _ h.zero,fun k hk=>?_,fun w hw=>?_,fun k hk hw=>?_,fun x hx=>?_,List.mem_append_left _ h.pin,?_,by have:=h.up;simp;omega,by have:=h.wl;simp;exact this⟩
   . rcases List.mem_append.mp hk with z|z
     . exact h.rng k z
     . rw [List.mem_singleton.mp z];exact ⟨h0,h1⟩
   . rcases List.mem_append.mp hw with z|z
     . exact List.mem_append_left _ (h.sub w z)
     . exact List.mem_append_right _ z
   . rcases List.mem_append.mp hk with z|z
     . rcases h.cl k z fun y=>hw (List.mem_append_left _ y) with y|y
       . exact .inl y
       . exact .inr fun x hx=>List.mem_append_left _ (y x hx)
     . exact absurd (List.mem_append_right _ z) hw
   . rcases List.mem_append.mp hx with z|z
     . exact List.mem_append_left _ (h.seen x z)
     . exact List.mem_append_right _ z
   . have:=h.mu;simp only [List.length_append,List.length_cons,List.length_nil];omega
theorem JMid.done {m:Int} {rs:List Road} {p:Int} {ks ws ks0:List Int} {n0:Nat} (h:JMid m rs p (cF rs p) ks ws ks0 n0):JInv m rs ks ws where
 nd:=h.nd
 zero:=h.zero
 rng:=h.rng
 sub:=h.sub
 cl:=fun k hk hw=>by
   rcases h.cl k hk hw with z|z
   . rw [z];exact h.seen
   . exact z
 wl:=h.wl
theorem JInv.start {m:Int} {rs:List Road} (hm:1<=m):JInv m rs [0] [0] where
 nd:=by simp
 zero:=by simp
 rng:=fun k hk=>by rw [List.mem_singleton.mp hk];omega
 sub:=fun w hw=>hw
 cl:=fun k hk hw=>absurd hk hw
 wl:=by simp
theorem JInv.all {m:Int} {rs:List Road} {ks:List Int} (h:JInv m rs ks []) (hm:1<=m) (j:PB m rs):(ks.length:Int)=m:=by
 have up:=dw (by omega) h.nd h.rng;have:∀ v,0<=v->v<m->v∈ks:=j (fun v=>v∈ks) h.zero fun r hr=>by
   constructor
   . intro ha;exact h.cl r.a ha (by simp) r.b (vk.mpr ⟨r,hr,.inl ⟨rfl,rfl⟩⟩)
   . intro hb;exact h.cl r.b hb (by simp) r.a (vk.mpr ⟨r,hr,.inr ⟨rfl,rfl⟩⟩)
 have:=QT (by omega) this;omega
theorem S4 {m:Int} {rs:List Road} (h:∀ r∈rs,RoadOk m r) {p e:Int} (he:e∈cF rs p):0<=e/\e<m:=by
 obtain ⟨r,hr,z⟩:=vk.mp he;have k:=h r hr;rcases z with ⟨_,rfl⟩|⟨_,rfl⟩
 . exact ⟨k.b0,k.b1⟩
 . exact ⟨k.a0,k.a1⟩
structure Row where
 k:Int
 un:Int
 t:Int
 u:Int
 sw:Int
 sp:Int
structure RowOk (r:Row):Prop where
 u0:0<=r.un
 u1:r.un<r.k
 t0:2<=r.t
 t1:r.t<=1000000
 v0:2<=r.u
 v1:r.u<=1000000
 s0:0<=r.sp
 s1:r.sp<r.k
structure Rows (n:Nat) (rows:List Row):Prop where
 len:rows.length=n
 ok:∀ (i:Nat) (r:Row),rows[i]?=some r->r.k=(i:Int)+1/\RowOk r
structure Labels (n:Nat) (ls:List Int):Prop where
 len:ls.length=n
 nd:ls.Nodup
 all:∀ v:Int,0<=v->v<n->v∈ls
 rng:∀ v∈ls,0<=v/\v<n
theorem Labels.nil:Labels 0 []:=⟨rfl,by simp,fun v h0 h1=>(by omega),fun v h=>(by cases h)⟩
theorem tE {α:Type} {l:List α} {k:Nat} {x y:α}:y∈l.take k++x::l.drop k↔y=x\/y∈l:=by
 rw [List.mem_append,List.mem_cons]
 constructor
 . rintro (h|h|h)
   . exact .inr (List.mem_of_mem_take h)
   . exact .inl h
   . exact .inr (List.mem_of_mem_drop h)
 . rintro (h|h)
   . exact .inr (.inl h)
   . rw [<- List.take_append_drop k l] at h;rcases List.mem_append.mp h with z|z
     . exact .inl z
     . exact .inr (.inr z)
theorem Labels.put {n:Nat} {ls:List Int} (h:Labels n ls) (k:Nat) (hk:k<=n):Labels (n+1) (ls.take k++(n:Int)::ls.drop k) where
 len:=by
   rw [List.length_append,List.length_cons,List.length_take,List.length_drop,h.len];omega
 nd:=by
   have p:(ls.take k++(n:Int)::ls.drop k).Perm ((n:Int)::ls):=by
     refine List.perm_middle.trans ?_;rw [List.take_append_drop]
   refine p.nodup_iff.mpr (List.nodup_cons.mpr ⟨fun z=>?_,h.nd⟩);have:=(h.rng _ z).2;omega
 all:=fun v h0 h1=>by
   rw [tE];by_cases e:v=n
   . exact .inl e
   . exact .inr (h.all v h0 (by omega))
 rng:=fun v hv=>by
   rcases tE.mp hv with z|z
   . omega
   . have:=h.rng v z;omega
def pP (ls:List Int) (r:Row):Road:=if r.sw=1 then ⟨ls.getD r.un.toNat 0,ls.getD r.k.toNat 0,r.t,r.u⟩ else ⟨ls.getD r.k.toNat 0,ls.getD r.un.toNat 0,r.t,r.u⟩
structure Put (ls:List Int) (rows:List Row) (rs:List Road):Prop where
 len:rs.length=rows.length
 of:∀ r∈rs,∃ w∈rows,r=pP ls w
 to:∀ w∈rows,pP ls w∈rs
theorem Put.nil (ls:List Int):Put ls [] []:=⟨rfl,fun r h=>(by cases h),fun r h=>(by cases h)⟩
theorem Put.step {ls:List Int} {rows:List Row} {rs:List Road} (h:Put ls rows rs) (w:Row) (k:Nat):Put ls (rows++[w]) (rs.take k++pP ls w::rs.drop k) where
 len:=by
   rw [List.length_append,List.length_cons,List.length_take,List.length_drop,List.length_append,h.len];simp;omega
 of:=fun r hr=>by
   rcases tE.mp hr with z|z
   . exact ⟨w,by simp,z⟩
   . obtain ⟨w',hw,e⟩:=h.of r z;exact ⟨w',List.mem_append_left _ hw,e⟩
 to:=fun w' hw=>by
   rw [tE];rcases List.mem_append.mp hw with z|z
   . exact .inr (h.to w' z)
   . exact .inl (by rw [List.mem_singleton.mp z])
theorem tQ {ls:List Int} {n:Nat} (h:Labels n ls) {i:Nat} (hi:i<n):ls[i]?=some (ls.getD i 0):=by
 have:i<ls.length:=by rw [h.len];exact hi
 simp [List.getD,List.getElem?_eq_getElem this]
theorem K6 {ls:List Int} {n:Nat} (h:Labels n ls) {i:Nat} (hi:i<n):ls.getD i 0∈ls:=List.mem_of_getElem? (tQ h hi)
theorem Ra {ls:List Int} {n:Nat} (h:Labels n ls) {i j:Nat} (hi:i<n) (hj:j<n) (e:ls.getD i 0=ls.getD j 0):i=j:=by
 have h1:i<ls.length:=by rw [h.len];exact hi
 have h2:j<ls.length:=by rw [h.len];exact hj
 have e1:=tQ h hi;have e2:=tQ h hj;rw [e] at e1;have e3:ls[i]'h1=ls[j]'h2:=by
   rw [List.getElem?_eq_getElem h1] at e1;rw [List.getElem?_eq_getElem h2] at e2;exact Option.some.inj (e1.trans e2.symm)
 have nd:=List.pairwise_iff_getElem.mp h.nd;rcases Nat.lt_trichotomy i j with z|z|z
 . exact absurd e3 (nd i j h1 h2 z)
 . exact z
 . exact absurd e3.symm (nd j i h2 h1 z)
theorem UA {n:Nat} {ls:List Int} {rows:List Row} {rs:List Road} (h1:1<=n) (h24:n<=24) (L:Labels n ls) (W:Rows (n - 1) rows) (P:Put ls rows rs):Good n rs where
 m1:=by omega
 m24:=by omega
 len:=by rw [P.len,W.len];omega
 ok:=fun r hr=>by
   obtain ⟨w,hw,rfl⟩:=P.of r hr;obtain ⟨i,hi⟩:=List.getElem?_of_mem hw;obtain ⟨ek,ok⟩:=W.ok i w hi;have hil:i<rows.length:=(List.getElem?_eq_some_iff.mp hi).1;rw [W.len] at hil;have hk:w.k.toNat<n:=by omega
   have hu:w.un.toNat<n:=by have:=ok.u0;have:=ok.u1;omega
   have r1:=L.rng _ (K6 L hk);have r2:=L.rng _ (K6 L hu);have ne:ls.getD w.k.toNat 0≠ls.getD w.un.toNat 0:=fun e=>by
     have:=Ra L hk hu e;have:=ok.u0;have:=ok.u1;omega
   unfold pP;by_cases c:w.sw=1
   . rw [if_pos c];exact ⟨r2.1,r2.2,r1.1,r1.2,ne.symm,ok.t0,ok.t1,ok.v0,ok.v1⟩
   . rw [if_neg c];exact ⟨r1.1,r1.2,r2.1,r2.2,ne,ok.t0,ok.t1,ok.v0,ok.v1⟩
 jn:=by
   intro S s0 hS;have key:∀ i:Nat,i<n->(S (ls.getD i 0)↔S (ls.getD 0 0)):=by
     intro i
     induction i using Nat.strongRecOn with
     | ind i ih =>
       intro hi;by_cases z:i=0
       . rw [z]
       . have hil:i - 1<rows.length:=(by rw [W.len];omega);obtain ⟨ek,ok⟩:=W.ok (i - 1) rows[i - 1] (List.getElem?_eq_getElem hil);have hm:=P.to rows[i - 1] (List.getElem_mem hil);have hr:=hS _ hm;have hk:(rows[i - 1]).k.toNat=i:=(by omega);have hu:(rows[i - 1]).un.toNat<i:=(by have:=ok.u0;have:=ok.u1;omega);have hh:=ih _ hu (by omega);unfold pP at hr;rw [hk] at hr;by_cases c:(rows[i - 1]).sw=1
         . rw [if_pos c] at hr;exact hr.symm.trans hh
         . rw [if_neg c] at hr;exact hr.trans hh
   have at_:∀ v,0<=v->v<(n:Int)->∃ i,i<n/\ls.getD i 0=v:=fun v h0 h1=>by
     obtain ⟨i,hi⟩:=List.getElem?_of_mem (L.all v h0 h1);have hil:i<n:=(by have:=(List.getElem?_eq_some_iff.mp hi).1;rw [L.len] at this;exact this);refine ⟨i,hil,?_⟩;have:=tQ L hil;rw [hi] at this;exact (Option.some.inj this).symm
   intro v h0 hv;obtain ⟨i,hi,rfl⟩:=at_ v h0 hv;obtain ⟨j,hj,ej⟩:=at_ 0 (by omega) (by omega);refine (key i hi).mpr ((key j hj).mp ?_);rw [ej];exact s0
end Pb
set_option linter.all false
namespace Pb
def Adj (rs:List Road) (a b:Int):Prop:=∃ x∈rs,(x.a=a/\x.b=b)\/(x.b=a/\x.a=b)
theorem Adj.symm {rs:List Road} {a b:Int} (h:Adj rs a b):Adj rs b a:=by
 obtain ⟨x,hx,h⟩:=h;rcases h with ⟨h1,h2⟩|⟨h1,h2⟩
 . exact ⟨x,hx,.inr ⟨h2,h1⟩⟩
 . exact ⟨x,hx,.inl ⟨h2,h1⟩⟩
theorem CS {rs:List Road} {a b:Int}:b∈cF rs a↔Adj rs a b:=vk
theorem Good.adj {m:Int} {rs:List Road} (g:Good m rs) {a b:Int} (h:Adj rs a b):(0<=a/\a<m)/\(0<=b/\b<m)/\a≠b:=by
 obtain ⟨x,hx,h⟩:=h;have k:=g.ok x hx;rcases h with ⟨h1,h2⟩|⟨h1,h2⟩
 . subst h1 h2;exact ⟨⟨k.a0,k.a1⟩,⟨k.b0,k.b1⟩,k.ne⟩
 . subst h1 h2;exact ⟨⟨k.b0,k.b1⟩,⟨k.a0,k.a1⟩,k.ne.symm⟩
theorem Good.from {m:Int} {rs:List Road} (g:Good m rs) {r:Int} (h0:0<=r) (h1:r<m) (S:Int->Prop) (sr:S r) (hS:∀ x∈rs,(S x.a↔S x.b)):∀ v,0<=v->v<m->S v:=by
 have key:∀ v,0<=v->v<m->(S v↔S 0):=g.jn (fun v=>S v↔S 0) Iff.rfl fun x hx=>by
   have:=hS x hx;exact ⟨fun h=>this.symm.trans h,fun h=>this.trans h⟩
 intro v a b;exact (key v a b).mpr ((key r h0 h1).mp sr)
inductive Dist (rs:List Road) (r:Int):Nat->Int->Prop
 | zero:Dist rs r 0 r
 | step {n:Nat} {u v:Int}:Dist rs r n u->Adj rs u v->Dist rs r (n+1) v
theorem W9 {P:Nat->Prop}:∀ n,P n->∃ k,P k/\∀ j,j<k->¬ P j:=by
 intro n
 induction n using Nat.strongRecOn with
 | ind n ih =>
   intro h;by_cases z:∃ j,j<n/\P j
   . obtain ⟨j,hj,hp⟩:=z;exact ih j hj hp
   . exact ⟨n,h,fun j hj hp=>z ⟨j,hj,hp⟩⟩
structure Rooted (m:Int) (rs:List Road) (r:Int) (par:Int->Int) (dep:Int->Nat):Prop where
 root:dep r=0
 up:∀ v,0<=v->v<m->v≠r->(0<=par v/\par v<m)/\Adj rs v (par v)/\dep (par v)+1=dep v
 road:∀ x∈rs,(x.a≠r/\par x.a=x.b)\/(x.b≠r/\par x.b=x.a)
 one:(rs.map fun x=>if x.a≠r/\par x.a=x.b then x.a else x.b).Nodup
theorem U8 {n:Nat} {l:List Nat} (hn:l.Nodup) (hl:l.length=n) (hb:∀ x∈l,x<n):∀ i,i<n->i∈l:=by
 intro i hi;by_cases z:i∈l
 . exact z
 . have:=qG (l:=i::l) (l':=List.range n) (List.nodup_cons.mpr ⟨z,hn⟩) fun x hx=>by
     rcases List.mem_cons.mp hx with rfl|hx
     . exact List.mem_range.mpr hi
     . exact List.mem_range.mpr (hb x hx)
   rw [List.length_cons,List.length_range] at this;omega
theorem Jr {m:Int} {rs:List Road} (g:Good m rs) {r:Int} (h0:0<=r) (h1:r<m):∃ par dep,Rooted m rs r par dep:=by
 classical
 have reach:∀ v,0<=v->v<m->∃ n,Dist rs r n v:=g.from h0 h1 (fun v=>∃ n,Dist rs r n v) ⟨0,.zero⟩ fun x hx=>by
   constructor
   . rintro ⟨n,d⟩;exact ⟨n+1,d.step ⟨x,hx,.inl ⟨rfl,rfl⟩⟩⟩
   . rintro ⟨n,d⟩;exact ⟨n+1,d.step ⟨x,hx,.inr ⟨rfl,rfl⟩⟩⟩
 have hd:∀ v,∃ k,(0<=v/\v<m)->Dist rs r k v/\∀ j,j<k->¬ Dist rs r j v:=fun v=>by
   by_cases z:0<=v/\v<m
   . obtain ⟨n,d⟩:=reach v z.1 z.2;obtain ⟨k,h⟩:=W9 (P:=fun k=>Dist rs r k v) n d;exact ⟨k,fun _=>h⟩
   . exact ⟨0,fun h=>absurd h z⟩
 let dep:Int->Nat:=fun v=>(hd v).choose
 have dspec:∀ v,0<=v->v<m->Dist rs r (dep v) v/\∀ j,j<dep v->¬ Dist rs r j v:=fun v a b=>(hd v).choose_spec ⟨a,b⟩;have dr:dep r=0:=by
   have:=(dspec r h0 h1).2 0;by_cases z:dep r=0
   . exact z
   . exact absurd Dist.zero (this (by omega))
 have hp:∀ v,∃ u,(0<=v/\v<m/\v≠r)->Adj rs v u/\dep u+1=dep v:=fun v=>by
   by_cases z:0<=v/\v<m/\v≠r
   . obtain ⟨a,b,c⟩:=z;obtain ⟨d,dm⟩:=dspec v a b;generalize hk:dep v=k at d dm;cases d with
     | zero=>exact absurd rfl c
     | @step n u _ d e =>
       refine ⟨u,fun _=>⟨e.symm,?_⟩⟩;obtain ⟨⟨u0,u1⟩,_⟩:=g.adj e;have l1:dep u<=n:=by
         by_cases w:dep u<=n
         . exact w
         . exact absurd d ((dspec u u0 u1).2 n (by omega))
       have l2:¬ dep u<n:=fun w=>dm (dep u+1) (by omega) ((dspec u u0 u1).1.step e);omega
   . exact ⟨0,fun h=>absurd h z⟩
 let par:Int->Int:=fun v=>(hp v).choose
 have pspec:∀ v,0<=v->v<m->v≠r->Adj rs v (par v)/\dep (par v)+1=dep v:=fun v a b c=>(hp v).choose_spec ⟨a,b,c⟩;have hi:∀ v,∃ i:Nat,(0<=v/\v<m/\v≠r)->∃ x,rs[i]?=some x/\((x.a=v/\x.b=par v)\/(x.b=v/\x.a=par v)):=fun v=>by
   by_cases z:0<=v/\v<m/\v≠r
   . obtain ⟨x,hx,h⟩:=(pspec v z.1 z.2.1 z.2.2).1;obtain ⟨i,e⟩:=List.getElem?_of_mem hx;exact ⟨i,fun _=>⟨x,e,h⟩⟩
   . exact ⟨0,fun h=>absurd h z⟩
 let ix:Int->Nat:=fun v=>(hi v).choose
 have ispec:∀ v,0<=v->v<m->v≠r->∃ x,rs[ix v]?=some x/\((x.a=v/\x.b=par v)\/(x.b=v/\x.a=par v)):=fun v a b c=>(hi v).choose_spec ⟨a,b,c⟩;have inj:∀ v u,0<=v->v<m->v≠r->0<=u->u<m->u≠r->ix v=ix u->v=u:=by
   intro v u a b c a' b' c' e;obtain ⟨x,hx,h⟩:=ispec v a b c;obtain ⟨y,hy,h'⟩:=ispec u a' b' c';rw [e,hy] at hx;cases hx;have d1:=(pspec v a b c).2;have d2:=(pspec u a' b' c').2;rcases h with ⟨p,q⟩|⟨p,q⟩ <;> rcases h' with ⟨p',q'⟩|⟨p',q'⟩
   . exact p.symm.trans p'
   . exfalso
     have e1:v=par u:=p.symm.trans q';have e2:u=par v:=p'.symm.trans q;rw [<- e1] at d2;rw [<- e2] at d1;omega
   . exfalso
     have e1:v=par u:=p.symm.trans q';have e2:u=par v:=p'.symm.trans q;rw [<- e1] at d2;rw [<- e2] at d1;omega
   . exact p.symm.trans p'
 let vs:List Int:=(below m.toNat).filter fun v=>decide (v≠r)
 have mv:∀ v,v∈vs↔(0<=v/\v<m/\v≠r):=fun v=>by
   rw [List.mem_filter,gg,decide_eq_true_eq]
   constructor
   . rintro ⟨⟨a,b⟩,c⟩;exact ⟨a,by omega,c⟩
   . rintro ⟨a,b,c⟩;exact ⟨⟨a,by omega⟩,c⟩
 have nv:vs.Nodup:=(rd _).filter _;have lv:vs.length=rs.length:=by
   have e1:(r::vs).length<=(below m.toNat).length:=qG (List.nodup_cons.mpr ⟨fun h=>((mv r).mp h).2.2 rfl,nv⟩) fun x hx=>by
     rcases List.mem_cons.mp hx with rfl|hx
     . exact gg.mpr ⟨h0,by omega⟩
     . have:=(mv x).mp hx;exact gg.mpr ⟨this.1,by omega⟩
   have e2:(below m.toNat).length<=(r::vs).length:=qG (rd _) fun x hx=>by
     have:=gg.mp hx;by_cases z:x=r
     . rw [z];exact List.mem_cons_self
     . exact List.mem_cons_of_mem _ ((mv x).mpr ⟨this.1,by omega,z⟩)
   rw [bo,List.length_cons] at e1 e2;have:=g.len;have:=g.m1;omega
 have il:(vs.map ix).Nodup:=by
   have:∀ (l:List Int),l.Nodup->(∀ v∈l,0<=v/\v<m/\v≠r)->(l.map ix).Nodup:=by
     intro l
     induction l with
     | nil=>intro _ _;simp
     | cons v l ih =>
       intro hn hm;obtain ⟨n1,n2⟩:=List.nodup_cons.mp hn;rw [List.map_cons];refine List.nodup_cons.mpr ⟨fun z=>?_,ih n2 fun u hu=>hm u (List.mem_cons_of_mem _ hu)⟩;obtain ⟨u,hu,e⟩:=List.mem_map.mp z;obtain ⟨a,b,c⟩:=hm v List.mem_cons_self;obtain ⟨a',b',c'⟩:=hm u (List.mem_cons_of_mem _ hu);exact n1 (inj u v a' b' c' a b c e ▸ hu)
   exact this vs nv fun v hv=>(mv v).mp hv
 have ib:∀ i∈vs.map ix,i<rs.length:=fun i hi'=>by
   obtain ⟨v,hv,rfl⟩:=List.mem_map.mp hi';obtain ⟨a,b,c⟩:=(mv v).mp hv;obtain ⟨x,hx,_⟩:=ispec v a b c;exact (List.getElem?_eq_some_iff.mp hx).1
 have all:=U8 il (by rw [List.length_map,lv]) ib;have back:∀ i x,rs[i]?=some x->∃ v,(0<=v/\v<m/\v≠r)/\ix v=i/\((x.a=v/\x.b=par v)\/(x.b=v/\x.a=par v)):=fun i x e=>by
   obtain ⟨v,hv,rfl⟩:=List.mem_map.mp (all i (List.getElem?_eq_some_iff.mp e).1);obtain ⟨a,b,c⟩:=(mv v).mp hv;obtain ⟨y,hy,h⟩:=ispec v a b c;rw [e] at hy;cases hy;exact ⟨v,⟨a,b,c⟩,rfl,h⟩
 have noback:∀ v,0<=v->v<m->v≠r->par v≠r->par (par v)≠v:=fun v a b c c' z=>by
   have d1:=pspec v a b c;obtain ⟨_,⟨a',b'⟩,_⟩:=g.adj d1.1;have d2:=pspec (par v) a' b' c';rw [z] at d2;omega
 have kid:∀ i x,rs[i]?=some x->∃ v,(0<=v/\v<m/\v≠r)/\ix v=i/\(if x.a≠r/\par x.a=x.b then x.a else x.b)=v:=fun i x e=>by
   obtain ⟨v,⟨a,b,c⟩,hv,h⟩:=back i x e;refine ⟨v,⟨a,b,c⟩,hv,?_⟩;rcases h with ⟨p,q⟩|⟨p,q⟩
   . rw [if_pos ⟨by rw [p];exact c,by rw [p];exact q.symm⟩];exact p
   . rw [if_neg]
     . exact p
     . rintro ⟨z1,z2⟩;rw [q] at z1 z2;exact noback v a b c z1 (z2.trans p)
 refine ⟨par,dep,dr,fun v a b c=>?_,fun x hx=>?_,?_⟩
 . obtain ⟨p,q⟩:=pspec v a b c;obtain ⟨_,w,_⟩:=g.adj p;exact ⟨w,p,q⟩
 . obtain ⟨i,e⟩:=List.getElem?_of_mem hx;obtain ⟨v,⟨a,b,c⟩,_,h⟩:=back i x e;rcases h with ⟨p,q⟩|⟨p,q⟩
   . exact .inl ⟨by rw [p];exact c,by rw [p];exact q.symm⟩
   . exact .inr ⟨by rw [p];exact c,by rw [p];exact q.symm⟩
 . refine List.pairwise_iff_getElem.mpr fun i j hi' hj' lt=>?_;rw [List.length_map] at hi' hj';rw [List.getElem_map,List.getElem_map];intro z;obtain ⟨v,_,e1,k1⟩:=kid i rs[i] (List.getElem?_eq_getElem hi');obtain ⟨u,_,e2,k2⟩:=kid j rs[j] (List.getElem?_eq_getElem hj');rw [k1,k2] at z;rw [z] at e1;omega
theorem NT {m:Int} {rs:List Road} (g:Good m rs) {p:Int} (h0:0<=p) (h1:p<m):(cF rs p).Nodup:=by
 obtain ⟨par,dep,R⟩:=Jr g h0 h1;have one:=R.one;have ok:=g.ok;have road:=R.road;clear R g
 induction rs with
 | nil=>simp [cF]
 | cons x l ih =>
   have ox:=ok x List.mem_cons_self;have ol:∀ y∈l,RoadOk m y:=fun y hy=>ok y (List.mem_cons_of_mem _ hy);rw [List.map_cons] at one;obtain ⟨n1,n2⟩:=List.nodup_cons.mp one;have il:=ih n2 ol fun y hy=>road y (List.mem_cons_of_mem _ hy);have e:cF (x::l) p=vH p x++cF l p:=by unfold cF;rw [List.flatMap_cons]
   rw [e];have kid:∀ y,RoadOk m y->((y.a≠p/\par y.a=y.b)\/(y.b≠p/\par y.b=y.a))->(y.a=p->(if y.a≠p/\par y.a=y.b then y.a else y.b)=y.b)/\(y.b=p->(if y.a≠p/\par y.a=y.b then y.a else y.b)=y.a):=fun y oy hy=>by
     constructor
     . intro z;rw [if_neg (fun w=>w.1 z)]
     . intro z;rcases hy with hy|hy
       . rw [if_pos hy]
       . exact absurd z hy.1
   have kx:=kid x ox (road x List.mem_cons_self);have inl:∀ e∈cF l p,e∈l.map fun y=>if y.a≠p/\par y.a=y.b then y.a else y.b:=fun e he=>by
     obtain ⟨y,hy,h⟩:=vk.mp he;have ky:=kid y (ol y hy) (road y (List.mem_cons_of_mem _ hy));refine List.mem_map.mpr ⟨y,hy,?_⟩;rcases h with ⟨p1,q1⟩|⟨p1,q1⟩
     . rw [ky.1 p1];exact q1
     . rw [ky.2 p1];exact q1
   unfold vH;by_cases c:x.a=p
   . have d:¬ x.b=p:=fun z=>ox.ne (c.trans z.symm);rw [if_pos c,if_neg d,List.append_nil];refine List.nodup_cons.mpr ⟨fun z=>n1 ?_,il⟩;rw [kx.1 c];exact inl _ z
   . rw [if_neg c,List.nil_append];by_cases d:x.b=p
     . rw [if_pos d];refine List.nodup_cons.mpr ⟨fun z=>n1 ?_,il⟩;rw [kx.2 d];exact inl _ z
     . rw [if_neg d];exact il
def cN (m:Int) (rs:List Road) (p:Int):List Int:=(below m.toNat).filter fun q=>decide (q∈cF rs p)
theorem Gy:∀ {l l':List Int},l.Perm l'->l.Pairwise (·<=·)->l'.Pairwise (·<=·)->l=l'
 | [],l',p,_,_=>(List.Perm.nil_eq p)
 | a::l,l',p,h,h'=>by
   cases l' with
   | nil=>exact absurd p.symm.nil_eq (by simp)
   | cons b r =>
     obtain ⟨h1,h2⟩:=List.pairwise_cons.mp h;obtain ⟨h1',h2'⟩:=List.pairwise_cons.mp h';have e:a=b:=by
       have ma:a∈b::r:=p.subset List.mem_cons_self;have mb:b∈a::l:=p.symm.subset List.mem_cons_self;rcases List.mem_cons.mp ma with z|z
       . exact z
       . rcases List.mem_cons.mp mb with w|w
         . exact w.symm
         . have:=h1 b w;have:=h1' a z;omega
     subst e;rw [Gy (List.Perm.cons_inv p) h2 h2']
theorem K1 (n:Nat):(below n).Pairwise (·<=·):=by
 unfold below;refine List.Pairwise.map _ (fun a b (h:a<b)=>?_) List.pairwise_lt_range;omega
theorem Lv (m:Int) (rs:List Road) (p:Int):(cN m rs p).Pairwise (·<=·):=(K1 _).filter _
theorem Eo (m:Int) (rs:List Road) (p:Int):(cN m rs p).Nodup:=(rd _).filter _
theorem yF {m:Int} {rs:List Road} (g:Good m rs) {p q:Int}:q∈cN m rs p↔Adj rs p q:=by
 unfold cN;rw [List.mem_filter,decide_eq_true_eq,CS,gg]
 constructor
 . exact fun h=>h.2
 . intro h;obtain ⟨_,⟨a,b⟩,_⟩:=g.adj h;exact ⟨⟨a,by omega⟩,h⟩
theorem zH:∀ {l l':List Int},l.Nodup->l'.Nodup->(∀ x,x∈l↔x∈l')->l.Perm l'
 | [],l',_,_,h=>by
   cases l' with
   | nil=>exact .nil
   | cons b r=>exact absurd ((h b).mpr List.mem_cons_self) (by simp)
 | a::l,l',n,n',h=>by
   obtain ⟨n1,n2⟩:=List.nodup_cons.mp n;have ma:a∈l':=(h a).mp List.mem_cons_self;refine List.Perm.trans (List.Perm.cons a ?_) (List.perm_cons_erase ma).symm;refine zH n2 (n'.erase a) fun x=>?_
   constructor
   . intro hx;have ne:x≠a:=fun z=>n1 (z ▸ hx);exact (List.mem_erase_of_ne ne).mpr ((h x).mp (List.mem_cons_of_mem _ hx))
   . intro hx;have:x≠a:=fun z=>by
       subst z;exact (List.Nodup.not_mem_erase n') hx
     rcases List.mem_cons.mp ((h x).mpr (List.mem_of_mem_erase hx)) with z|z
     . exact absurd z this
     . exact z
theorem Vy {m:Int} {rs:List Road} (g:Good m rs) {p:Int} (h0:0<=p) (h1:p<m) {zs:List Int} (hp:zs.Perm (cF rs p)) (hs:zs.Pairwise (·<=·)):zs=cN m rs p:=by
 refine Gy (hp.trans (zH (NT g h0 h1) (Eo m rs p) fun x=>?_)) hs (Lv m rs p);rw [yF g,CS]
def gA (a b:Int) (x:Road):Option Int:=if x.a=a/\x.b=b then some x.t else if x.a=b/\x.b=a then some x.u else none
def cQ (rs:List Road) (a b:Int):Option Int:=rs.findSome? (gA a b)
theorem Jt {rs:List Road} {a b:Int}:(cQ rs a b).isSome=true↔Adj rs a b:=by
 unfold cQ;rw [List.findSome?_isSome_iff]
 constructor
 . rintro ⟨x,hx,h⟩;unfold gA at h;by_cases c:x.a=a/\x.b=b
   . exact ⟨x,hx,.inl c⟩
   . rw [if_neg c] at h;by_cases d:x.a=b/\x.b=a
     . exact ⟨x,hx,.inr ⟨d.2,d.1⟩⟩
     . rw [if_neg d] at h;cases h
 . rintro ⟨x,hx,h⟩;refine ⟨x,hx,?_⟩;unfold gA;rcases h with h|h
   . rw [if_pos h];rfl
   . by_cases c:x.a=a/\x.b=b
     . rw [if_pos c];rfl
     . rw [if_neg c,if_pos ⟨h.2,h.1⟩];rfl
def q9 (x:Road) (a b:Int):Prop:=(x.a=a/\x.b=b)\/(x.b=a/\x.a=b)
theorem Gf {m:Int} {rs:List Road} (g:Good m rs) {a b:Int} {i j:Nat} {x y:Road} (hi:rs[i]?=some x) (hj:rs[j]?=some y) (jx:q9 x a b) (jy:q9 y a b):i=j:=by
 obtain ⟨⟨a0,a1⟩,_,_⟩:=g.adj (show Adj rs a b from ⟨x,List.mem_of_getElem? hi,jx⟩);obtain ⟨par,dep,R⟩:=Jr g a0 a1;have kid:∀ z∈rs,q9 z a b->(if z.a≠a/\par z.a=z.b then z.a else z.b)=b:=fun z hz jz=>by
   rcases jz with ⟨p,q⟩|⟨p,q⟩
   . rw [if_neg (fun w=>w.1 p)];exact q
   . rcases R.road z hz with w|w
     . rw [if_pos w];exact q
     . exact absurd p w.1
 have li:=(List.getElem?_eq_some_iff.mp hi);have lj:=(List.getElem?_eq_some_iff.mp hj);obtain ⟨li,ei⟩:=li;obtain ⟨lj,ej⟩:=lj;have nd:=List.pairwise_iff_getElem.mp R.one;have vi:(rs.map fun z=>if z.a≠a/\par z.a=z.b then z.a else z.b)[i]'(by rw [List.length_map];exact li)=b:=by
   rw [List.getElem_map];exact kid _ (List.getElem_mem li) (ei ▸ jx)
 have vj:(rs.map fun z=>if z.a≠a/\par z.a=z.b then z.a else z.b)[j]'(by rw [List.length_map];exact lj)=b:=by
   rw [List.getElem_map];exact kid _ (List.getElem_mem lj) (ej ▸ jy)
 rcases Nat.lt_trichotomy i j with z|z|z
 . exact absurd (vi.trans vj.symm) (nd i j _ _ z)
 . exact z
 . exact absurd (vj.trans vi.symm) (nd j i _ _ z)
theorem OW {a b:Int} {x:Road} (h:¬ q9 x a b):gA a b x=none:=by
 unfold gA;rw [if_neg (fun z=>h (.inl z)),if_neg (fun z=>h (.inr ⟨z.2,z.1⟩))]
theorem Gp {m:Int} {rs:List Road} (g:Good m rs) {a b:Int} {i:Nat} {x:Road} (hi:rs[i]?=some x) (j:q9 x a b):cQ rs a b=gA a b x:=by
 have lt:=(List.getElem?_eq_some_iff.mp hi);obtain ⟨lt,ex⟩:=lt;have e:rs=rs.take i++x::rs.drop (i+1):=by rw [<- ex,List.getElem_cons_drop,List.take_append_drop]
 have pre:cQ (rs.take i) a b=none:=by
   unfold cQ;rw [List.findSome?_eq_none_iff];intro y hy;refine OW fun jy=>?_;obtain ⟨k,hk⟩:=List.getElem?_of_mem hy;have lk:=(List.getElem?_eq_some_iff.mp hk).1;rw [List.length_take] at lk;rw [List.getElem?_take_of_lt (by omega)] at hk;have:=Gf g hk hi jy j;omega
 have hx:(gA a b x).isSome=true:=by
   unfold gA;rcases j with z|z
   . rw [if_pos z];rfl
   . by_cases c:x.a=a/\x.b=b
     . rw [if_pos c];rfl
     . rw [if_neg c,if_pos ⟨z.2,z.1⟩];rfl
 obtain ⟨v,hv⟩:=Option.isSome_iff_exists.mp hx;have:cQ (rs.take i++x::rs.drop (i+1)) a b=gA a b x:=by
   unfold cQ at pre ⊢;rw [List.findSome?_append,pre,List.findSome?_cons,hv]
   rfl
 rw [<- e] at this;exact this
theorem Qn {rs:List Road} {a b:Int} (h:¬ Adj rs a b):cQ rs a b=none:=by
 cases q:cQ rs a b with
 | none=>rfl
 | some v=>exact absurd (Jt.mp (by rw [q];rfl)) h
theorem Rg {x:Road} (h:x.a≠x.b):gA x.a x.b x=some x.t:=by unfold gA;rw [if_pos ⟨rfl,rfl⟩]
theorem Rr {x:Road} (h:x.a≠x.b):gA x.b x.a x=some x.u:=by unfold gA;rw [if_neg (fun z=>h z.1),if_pos ⟨rfl,rfl⟩]
theorem Pe {m:Int} {rs:List Road} (p:Int):cN m rs p=(below m.toNat).filter fun q=>(cQ rs p q).isSome:=by
 unfold cN
 congr 1
 funext q
 rw [Bool.eq_iff_iff,decide_eq_true_eq,Jt,CS]
section
variable {m:Int} {row:List Int} {rs rs':List Road}
end
end Pb
set_option Elab.async false
set_option linter.all false
set_option maxRecDepth 100000
namespace L2
open PySem PySem.Spec PyProof.Rows
def aP (CX:CXT):Prop:=∀ outer H s e s',¬ CX outer H s E0 e s'
theorem ax {CX:CXT} (q:aP CX) {X:Cx}:xm CX X E0:=fun _ _ _ _ _ _ _ h=>(q _ _ _ _ _ h).elim
structure Df (K:PySem.W.Frag) (mg:Str->Option Value) (x:Str) (st:Stmt) (ps:List Str) (f:Addr) (fd:FuncData):Prop where
 F:Fun K x x st f fd
 m:mg x=some (.ref f)
 b:Binds K fd ps []
section
variable {P:Program} {w:World} {K:PySem.W.Frag} {mg:Str->Option Value} {base:Heap} {CX:CXT}
theorem Fun.okC {x qual:Str} {st:Stmt} {f:Addr} {fd:FuncData} {N ps:List Str} {k:Nat} {sp:Sp} (F:Fun K x qual st f fd) (S:FnScope N ps (aa st)) (len:∀ vs H Q E,sp vs H Q E->vs.length=ps.length)
   (hbody:∀ (cdv:Value) (A:Around) (outer:List Env) (s:Shared) (H:Hp) (vs:List V) (Q:VK) (E:XK),Room k (A.deeper (envOfC qual (aa st) s.heap.objs.size f cdv))->sp vs H Q E ->
     ∃ t,PSs (si CX P w K mg base N qual (aa st) f cdv A outer s H E).nox (aA st) t/\t { nx:=fun _ H'=>Q .non H',rt:=Q } (start N vs) H):FnOk P w K mg base CX (k+1) f fd ps sp:=by
 obtain ⟨oc,od,kV,doc,pm,an,cdv,ct,osl,rfl,lk,hcd⟩:=F.ex;refine Ui lk hcd S len fun A outer s H vs Q E hr hsp=>?_;obtain ⟨t,h,q⟩:=hbody cdv A outer s H vs Q E hr hsp;exact ⟨t,h.nox,q⟩
end
structure NmL (sc:Scope) (x:Str):Prop where
 l:sc.names.lookup x=some .local
 d:(x == ("__debug__":Str))=false
 c:(x == ("__classdict__":Str))=false
structure NmC (sc:Scope) (x:Str):Prop where
 l:sc.names.lookup x=some .cell
 d:(x == ("__debug__":Str))=false
 c:(x == ("__classdict__":Str))=false
structure NmG (sc:Scope) (x:Str):Prop where
 g:sc.names.lookup x=some .globalImplicit
 d:(x == ("__debug__":Str))=false
 n:x≠"__name__"
theorem us1 {us:List Value} (h:us.length=1):∃ a0,us=[a0]:=List.length_eq_one_iff.mp h
theorem us2 {us:List Value} (h:us.length=2):∃ a0 a1,us=[a0,a1]:=by
 cases us with
 | nil=>cases h
 | cons a0 t =>
   obtain ⟨a1,e⟩:=us1 (Nat.succ.inj h);subst e;exact ⟨a0,a1,rfl⟩
theorem us3 {us:List Value} (h:us.length=3):∃ a0 a1 a2,us=[a0,a1,a2]:=by
 cases us with
 | nil=>cases h
 | cons a0 t =>
   obtain ⟨a1,a2,e⟩:=us2 (Nat.succ.inj h);subst e;exact ⟨a0,a1,a2,rfl⟩
theorem us4 {us:List Value} (h:us.length=4):∃ a0 a1 a2 a3,us=[a0,a1,a2,a3]:=by
 cases us with
 | nil=>cases h
 | cons a0 t =>
   obtain ⟨a1,a2,a3,e⟩:=us3 (Nat.succ.inj h);subst e;exact ⟨a0,a1,a2,a3,rfl⟩
theorem us5 {us:List Value} (h:us.length=5):∃ a0 a1 a2 a3 a4,us=[a0,a1,a2,a3,a4]:=by
 cases us with
 | nil=>cases h
 | cons a0 t =>
   obtain ⟨a1,a2,a3,a4,e⟩:=us4 (Nat.succ.inj h);subst e;exact ⟨a0,a1,a2,a3,a4,rfl⟩
def nmL (sc:Scope) (x:Str):Bool:=decide (sc.names.lookup x=some .local) && !(x == ("__debug__":Str)) && !(x == ("__classdict__":Str))
def nmC (sc:Scope) (x:Str):Bool:=decide (sc.names.lookup x=some .cell) && !(x == ("__debug__":Str)) && !(x == ("__classdict__":Str))
def nmG (sc:Scope) (x:Str):Bool:=decide (sc.names.lookup x=some .globalImplicit) && !(x == ("__debug__":Str)) && !decide (x="__name__")
theorem NmL.of {sc:Scope} {x:Str} (h:nmL sc x=true):NmL sc x:=by
 unfold nmL at h;simp only [Bool.and_eq_true,decide_eq_true_eq,Bool.not_eq_true'] at h;exact ⟨h.1.1,h.1.2,h.2⟩
theorem NmC.of {sc:Scope} {x:Str} (h:nmC sc x=true):NmC sc x:=by
 unfold nmC at h;simp only [Bool.and_eq_true,decide_eq_true_eq,Bool.not_eq_true'] at h;exact ⟨h.1.1,h.1.2,h.2⟩
theorem NmG.of {sc:Scope} {x:Str} (h:nmG sc x=true):NmG sc x:=by
 unfold nmG at h;simp only [Bool.and_eq_true,decide_eq_true_eq,Bool.not_eq_true',decide_eq_false_iff_not] at h;exact ⟨h.1.1,h.1.2,h.2⟩
def Wf (N ps:List Str) (sc:Scope):Bool:=decide (sc.kind=.function) && !sc.isCoroutine && !sc.isGenerator && decide N.Nodup && decide (N.take ps.length=ps) && (ps.all fun x=>decide (sc.names.lookup x=some .local\/sc.names.lookup x=some .cell)) && (sc.names.all fun y=>decide (y.2≠.free))
theorem FnScope.of {N ps:List Str} {sc:Scope} (h:Wf N ps sc=true):FnScope N ps sc:=by
 unfold Wf at h;simp only [Bool.and_eq_true,decide_eq_true_eq,Bool.not_eq_true',List.all_eq_true] at h;obtain ⟨⟨⟨⟨⟨⟨h1,h2⟩,h3⟩,h4⟩,h5⟩,h6⟩,h7⟩:=h;exact ⟨h1,h2,h3,h4,h5,h6,h7⟩
theorem pvl {X:Cx} (i:Nat) {x:Str} {pos:Pos} (n:NmL X.env.scope x) (hN:X.N[i]?=some x:=by rfl):PE X (.Name x pos) (E5 i):=IZ hN (.inl n.l) n.d n.c
theorem pvc {X:Cx} (i:Nat) {x:Str} {pos:Pos} (n:NmC X.env.scope x) (hN:X.N[i]?=some x:=by rfl):PE X (.Name x pos) (E5 i):=IZ hN (.inr (.inl n.l)) n.d n.c
theorem QA {CX:CXT} {P:Program} {w:World} {K:PySem.W.Frag} {mg:Str->Option Value} {base:Heap} {N:List Str} {qual:Str} {scope:Scope} {f:Addr} {cd:Value} {A:Around} {outer:List Env} {s:Shared} {H:Hp} {E:XK} :
   (si CX P w K mg base N qual scope f cd A outer s H E).K=K:=rfl
theorem Gi (D:Ends) (σ:St) (H:Hp):tNever D σ H=False:=rfl
theorem U0 (i j:Int):wa (.int i) (.int j)=true:=rfl
theorem UU (i j:Bool):wa (.bl i) (.bl j)=true:=rfl
theorem U6 (i:Int):wa (.int i) .non=true:=rfl
theorem U4 (i:Int):wa .non (.int i)=true:=rfl
theorem UF:wa .non .non=true:=rfl
theorem UV (i j:Str):wa (.str i) (.str j)=true:=rfl
theorem ixT {K:PySem.W.Frag} {H:Hp} {p:Addr} {xs:List V} {i:Int} {v:V} {Q:VK} (h:H p=some (.tup xs)) (e:atI xs i=some v) (q:Q v H):Ot K (.ref p) (.int i) H Q:=⟨p,xs,i,v,rfl,rfl,SqT.of h,e,q⟩
theorem ixL {K:PySem.W.Frag} {H:Hp} {p:Addr} {xs:List V} {i:Int} {v:V} {Q:VK} (h:H p=some (.lst xs)) (e:atI xs i=some v) (q:Q v H):OQ K (.ref p) (.int i) H Q:=⟨p,xs,i,v,rfl,rfl,SqL.of h,e,q⟩
theorem ixS {K:PySem.W.Frag} {H:Hp} {p:Addr} {xs:List V} {i:Int} {v:V} {Q:VK} (h:SqL K H p xs) (e:atI xs i=some v) (q:Q v H):OQ K (.ref p) (.int i) H Q:=⟨p,xs,i,v,rfl,rfl,h,e,q⟩
theorem tyL {K:PySem.W.Frag} {H:Hp} {l:Addr} {xs:List V} (h:H l=some (.lst xs)):tyV K "list" (.ref l) H:=.inl ⟨rfl,_,SqL.of h⟩
theorem wF {H:Hp} {l:Addr} {xs:List V} {y:V} {Q:VK} (h:H l=some (.lst xs)) (hz:xs.length<sizeLine) (q:Q .non (upd H l (.lst (xs++[y])))):rAppend (.ref l) [y] H Q:=⟨l,xs,y,rfl,rfl,h,hz,q⟩
theorem VE {H:Hp} {l:Addr} {xs:List V} {i:Int} {y:V} {Q:VK} (h:H l=some (.lst xs)) (h0:0<=i) (h1:i<=xs.length) (hz:xs.length<sizeLine) (q:Q .non (upd H l (.lst (xs.take i.toNat++y::xs.drop i.toNat)))):rInsert (.ref l) [.int i,y] H Q :=
 ⟨l,xs,i,y,rfl,rfl,h,h0,h1,hz,q⟩
theorem S5 {H:Hp} {l:Addr} {xs:List V} {y:V} {Q:VK} (h:H l=some (.lst (xs++[y]))) (q:Q y (upd H l (.lst xs))):rPop (.ref l) [] H Q :=
 ⟨l,xs++[y],y,rfl,rfl,h,by simp,by rw [List.dropLast_concat];exact q⟩
theorem cj {n:Nat} (h:n<=100000):n<sizeLine:=Nat.lt_of_le_of_lt h (by decide)
theorem aE {n:Nat} (h:n<=100000):n<=sizeLine:=Nat.le_of_lt (cj h)
theorem iW {α:Type} {xs:List α} {i:Int} {v:α} (h0:0<=i) (h:xs[i.toNat]?=some v):atI xs i=some v:=by
 obtain ⟨n,rfl⟩:∃ n:Nat,i=n:=⟨i.toNat,by omega⟩;exact qK (by simpa using h)
theorem CL {X:Cx} {x:Str} {i:Int} {pos:Pos} (hg:Gl X x) (hm:∃ t,X.mg x=some (.int i t)) (hd:(x == ("__debug__":Str))=false:=by decide):PE X (.Name x pos) (tC (.int i)):=by
 obtain ⟨t,e⟩:=hm;exact tG hg e ⟨t,rfl⟩ hd
def Itx (K:PySem.W.Frag):Bool->Addr->It
 | true,a=>Itl K a
 | false,a=>Itt K a
def Ts (K:PySem.W.Frag) (c:Bool) (tl:TE):TI:=fun σ H R=>tl σ H fun x H1=>∃ a,x=.ref a/\(∃ xs,SqX K c H1 a xs)/\R (Itx K c a) H1
theorem xU {X:Cx} {tg l:Expr} {tl:TE} (c:Bool) (hl:PE X l tl):PI X tg l (Ts X.K c tl):=by
 cases c
 . exact Ap hl
 . exact iY hl
theorem Vt {K:PySem.W.Frag} {c:Bool} {a:Addr} {xs:List V} {g:TG} {tb:TS} {D:Ends} {σ:St} {H:Hp} (Pv:Nat->St->Hp->Prop) (h0:Pv 0 σ H) (hl:∀ i σ H,i<=xs.length->Pv i σ H->SqX K c H a xs)
   (hs:∀ i x σ H,xs[i]?=some x->Pv i σ H->g x σ H fun σ2 H2=>tb { D with nx:=Pv (i+1),ct:=Pv (i+1),bk:=D.nx } σ2 H2) (hd:∀ σ H,Pv xs.length σ H->D.nx σ H) :
   ∃ W:Nat->Nat->St->Hp->Prop,(∃ m,W 0 m σ H)/\∀ i m σ H,W i m σ H ->
     ((Itx K c a).stop i H/\D.nx σ H)\/((Itx K c a).go i H/\∃ N:St->Hp->Prop,(∀ σ' H',N σ' H'->∃ m',m'<m/\W (i+1) m' σ' H')/\∀ x H',(Itx K c a).yld i H x H'->g x σ H' fun σ2 H2=>tb { D with nx:=N,ct:=N,bk:=D.nx } σ2 H2):=by
 cases c
 . exact BC Pv h0 hl hs hd
 . exact J4 Pv h0 hl hs hd
def Bj (J:It) (p:Addr) (Q:VK) (g:TG) (tc:TT) (te:TE) (σ0:St) (H0:Hp):Prop :=
 ∃ W:Nat->Nat->List V->St->Hp->Prop,(∃ m,W 0 m [] σ0 H0)/\∀ i m ys σc Hc,W i m ys σc Hc ->
   (J.stop i Hc/\Q (.ref p) Hc)\/(J.go i Hc/\∀ x H',J.yld i Hc x H'->g x σc H' fun σ2 H2=>tc σ2 H2 fun b H3 =>
     if b=true then te σ2 H3 fun y H4=>H4 p=some (.lst ys)/\ys.length<sizeLine/\∃ m',m'<m/\W (i+1) m' (ys++[y]) σ2 (upd H4 p (.lst (ys++[y])))
     else ∃ m',m'<m/\W (i+1) m' ys σ2 H3)
theorem F7 {own:Nat} {js:List Nat} {wi:TI} {g:TG} {tc:TT} {te:TE} {σ:St} {H:Hp} {Q:VK}:NC own js wi g tc te σ H Q=wi σ H fun J H1=>∀ p,H1 p=none->Bj J p Q g tc te (ke own js σ) (upd H1 p (.lst [])):=rfl
def ph (J:It) (D:Ends) (g:TG) (tb:TS) (σ:St) (H:Hp):Prop:=∃ W:Nat->Nat->St->Hp->Prop,(∃ m,W 0 m σ H)/\∀ i m σ H,W i m σ H ->
 (J.stop i H/\D.nx σ H)\/(J.go i H/\∃ N:St->Hp->Prop,(∀ σ' H',N σ' H'->∃ m',m'<m/\W (i+1) m' σ' H')/\∀ x H',J.yld i H x H'->g x σ H' fun σ2 H2=>tb { D with nx:=N,ct:=N,bk:=D.nx } σ2 H2)
theorem Mw {wi:TI} {g:TG} {tb:TS} {D:Ends} {σ:St} {H:Hp}:WO wi g tb D σ H=wi σ H fun J H1=>ph J D g tb σ H1:=rfl
theorem iA {K:PySem.W.Frag} {c:Bool} {a p:Addr} {xs:List V} {Q:VK} {g:TG} {tc:TT} {te:TE} {σ0:St} {H0:Hp} (Pv:Nat->List V->St->Hp->Prop) (h0:Pv 0 [] σ0 H0) (hl:∀ i ys σ H,i<=xs.length->Pv i ys σ H->SqX K c H a xs)
   (hs:∀ (i:Nat) (x:V) (ys:List V) (σ:St) (H:Hp) (N:List V->St->Hp->Prop),(∀ ys' σ' H',Pv (i+1) ys' σ' H'->N ys' σ' H')->xs[i]?=some x->Pv i ys σ H->g x σ H fun σ2 H2=>tc σ2 H2 fun b H3 =>
     if b=true then te σ2 H3 fun y H4=>H4 p=some (.lst ys)/\ys.length<sizeLine/\N (ys++[y]) σ2 (upd H4 p (.lst (ys++[y]))) else N ys σ2 H3)
   (hd:∀ ys σ H,Pv xs.length ys σ H->Q (.ref p) H):Bj (Itx K c a) p Q g tc te σ0 H0:=by
 refine ⟨fun i m ys σ H=>m=xs.length - i/\i<=xs.length/\Pv i ys σ H,⟨xs.length,by simp,Nat.zero_le _,h0⟩,?_⟩;rintro i m ys σ H ⟨rfl,hi,pv⟩;have q:=hl i ys σ H hi pv;by_cases hlt:i<xs.length
 . refine .inr ⟨?_,fun x H' y=>?_⟩
   . cases c
     . exact ⟨xs,xs[i],q,by simp [hlt]⟩
     . exact ⟨xs,xs[i],q,by simp [hlt]⟩
   . have e:H'=H/\xs[i]?=some x:=by
       cases c
       . exact ⟨y.1,y.2 xs q⟩
       . exact ⟨y.1,y.2 xs q⟩
     obtain ⟨rfl,hx⟩:=e;exact hs i x ys σ _ (fun ys' σ' H'=>∃ m',m'<xs.length - i/\(m'=xs.length - (i+1)/\i+1<=xs.length/\Pv (i+1) ys' σ' H')) (fun ys' σ' H' pv'=>⟨xs.length - (i+1),by omega,rfl,hlt,pv'⟩) hx pv
 . have e:i=xs.length:=by omega
   subst e;refine .inl ⟨?_,hd ys σ H pv⟩;cases c
   . exact ⟨xs,q,Nat.le_refl _⟩
   . exact ⟨xs,q,Nat.le_refl _⟩
theorem mj {lo:Int} {n:Nat} {p:Addr} {Q:VK} {g:TG} {tc:TT} {te:TE} {σ0:St} {H0:Hp} (Pv:Nat->List V->St->Hp->Prop) (h0:Pv 0 [] σ0 H0)
   (hs:∀ (i:Nat) (ys:List V) (σ:St) (H:Hp) (N:List V->St->Hp->Prop),(∀ ys' σ' H',Pv (i+1) ys' σ' H'->N ys' σ' H')->i<n->Pv i ys σ H->g (.int (lo+i)) σ H fun σ2 H2=>tc σ2 H2 fun b H3 =>
     if b=true then te σ2 H3 fun y H4=>H4 p=some (.lst ys)/\ys.length<sizeLine/\N (ys++[y]) σ2 (upd H4 p (.lst (ys++[y]))) else N ys σ2 H3)
   (hd:∀ ys σ H,Pv n ys σ H->Q (.ref p) H):Bj (Itr lo n) p Q g tc te σ0 H0:=by
 refine ⟨fun i m ys σ H=>m=n - i/\i<=n/\Pv i ys σ H,⟨n,by simp,Nat.zero_le _,h0⟩,?_⟩;rintro i m ys σ H ⟨rfl,hi,pv⟩;by_cases hlt:i<n
 . refine .inr ⟨hlt,fun x H' y=>?_⟩;obtain ⟨rfl,rfl⟩:=y;exact hs i ys σ _ (fun ys' σ' H'=>∃ m',m'<n - i/\(m'=n - (i+1)/\i+1<=n/\Pv (i+1) ys' σ' H')) (fun ys' σ' H' pv'=>⟨n - (i+1),by omega,rfl,hlt,pv'⟩) hlt pv
 . have e:i=n:=by omega
   subst e;exact .inl ⟨Nat.le_refl _,hd ys σ H pv⟩
theorem iH:bootBuiltins "len"=some (.builtin "len"):=by decide +kernel
theorem GV:bootBuiltins "isinstance"=some (.builtin "isinstance"):=by decide +kernel
theorem WA:bootBuiltins "min"=some (.builtin "min"):=by decide +kernel
theorem Qb:bootBuiltins "sorted"=some (.builtin "sorted"):=by decide +kernel
theorem P5:bootBuiltins "int"=some (.type "int"):=by decide +kernel
theorem tJ:bootBuiltins "list"=some (.type "list"):=by decide +kernel
theorem zg:bootBuiltins "tuple"=some (.type "tuple"):=by decide +kernel
theorem Vr:bootBuiltins "bool"=some (.type "bool"):=by decide +kernel
section
variable {X:Cx} {a b o e:Expr} {es:List Expr} {ta tb to:TE} {t:TA} {pos apos cpos:Pos} {f name:Str} {T id:String} {r:V->List V->Hp->VK->Prop}
theorem E4 (K:PySem.W.Frag) (h:X.K=K):kY X (.type "tuple") (fun xs H Q=>∃ p ys,xs=[.ref p]/\((SqL K H p ys/\∀ l,H l=none->Q (.ref l) (upd H l (.tup ys)))\/(SqT K H p ys/\Q (.ref p) H))):=by subst h;exact mV
theorem Sv (K:PySem.W.Frag) (h:X.K=K):IxR X (OQ K):=by subst h;exact aI
theorem mq (K:PySem.W.Frag) (h:X.K=K):IxR X (Ot K):=by subst h;exact bC
end
theorem D1 {x:Str} {k:NameKind}:∀ {l:List (Str × NameKind)},l.lookup x=some k->∃ y,(y,k)∈l
 | [],h=>by simp at h
 | (n,j)::r,h=>by
   rw [List.lookup_cons] at h;cases q:x == n with
   | true =>
     rw [q] at h;cases h;exact ⟨n,List.mem_cons_self⟩
   | false =>
     rw [q] at h;obtain ⟨y,hy⟩:=D1 h;exact ⟨y,List.mem_cons_of_mem _ hy⟩
theorem uE {X:Cx} {Nc:List Str} {scope:Scope} (own:Nat) (hf:∀ y∈scope.names,y.2≠.free) (hc:∀ y∈scope.names,y.2≠.cell) (hk:scope.kind=.function) (hn:∀ y∈scope.names,y.2=.local->scope.names.lookup y.1=some .local)
   (hl:Nc.length=own):CompTxt X Nc own [] scope [] where
 clos:=closureFor_none hf
 kind:=hk
 nocell:=hc
 names:=hn
 cells:=fun x c h=>by cases h
 has:=fun x h=>by
   have key:∀ k,(relabel scope X.env).names.lookup x=some k->k≠.cell/\k≠.free:=fun k e=>by
     obtain ⟨y,hy⟩:=D1 e;obtain ⟨⟨n,k0⟩,hm,e2⟩:=List.mem_map.mp hy;have h1:=hf _ hm;have h2:=hc _ hm;have e3:(k0 == NameKind.free)=false:=(by simpa using h1);simp only [e3,Bool.false_and,Bool.false_eq_true,if_false] at e2;cases e2;exact ⟨h2,h1⟩
   rcases h with h|h
   . exact absurd rfl (key _ h).1
   . exact absurd rfl (key _ h).2
 len:=by simpa using hl
 outer:=fun i x h=>by
   rw [List.getElem?_eq_none (by omega)] at h;cases h
theorem RG {K:PySem.W.Frag} {c:Bool} {a:Addr} {xs:List V} {g:TG} {tb:TS} {D:Ends} {σ:St} {H:Hp} (Pv:Nat->St->Hp->Prop) (h0:Pv 0 σ H) (hl:∀ i σ H,i<=xs.length->Pv i σ H->SqX K c H a xs)
   (hs:∀ (i:Nat) (x:V) (σ:St) (H:Hp) (N:St->Hp->Prop),(∀ σ' H',Pv (i+1) σ' H'->N σ' H')->xs[i]?=some x->Pv i σ H->g x σ H fun σ2 H2=>tb { D with nx:=N,ct:=N,bk:=D.nx } σ2 H2) (hd:∀ σ H,Pv xs.length σ H->D.nx σ H) :
   ph (Itx K c a) D g tb σ H:=Vt Pv h0 hl (fun i x σ H hx p=>hs i x σ H (Pv (i+1)) (fun _ _ z=>z) hx p) hd
theorem rp {K:PySem.W.Frag} {a:Addr} {xs:List V} {g:TG} {tb:TS} {D:Ends} {σ:St} {H:Hp} (Pv:Nat->St->Hp->Prop) (h0:Pv 0 σ H) (hl:∀ i σ H,i<=xs.length->Pv i σ H->SqL K H a xs)
   (hs:∀ (i:Nat) (x:V) (σ:St) (H:Hp) (N:St->Hp->Prop),(∀ σ' H',Pv (i+1) σ' H'->N σ' H')->xs[i]?=some x->Pv i σ H->g x σ H fun σ2 H2=>tb { D with nx:=N,ct:=N,bk:=D.nx } σ2 H2) (hd:∀ σ H,Pv xs.length σ H->D.nx σ H) :
   ph (Itl K a) D g tb σ H:=J4 Pv h0 hl (fun i x σ H hx p=>hs i x σ H (Pv (i+1)) (fun _ _ z=>z) hx p) hd
theorem Ks {K:PySem.W.Frag} {a:Addr} {xs:List V} {g:TG} {tb:TS} {D:Ends} {σ:St} {H:Hp} (Pv:Nat->St->Hp->Prop) (h0:Pv 0 σ H) (hl:∀ i σ H,i<=xs.length->Pv i σ H->SqT K H a xs)
   (hs:∀ (i:Nat) (x:V) (σ:St) (H:Hp) (N:St->Hp->Prop),(∀ σ' H',Pv (i+1) σ' H'->N σ' H')->xs[i]?=some x->Pv i σ H->g x σ H fun σ2 H2=>tb { D with nx:=N,ct:=N,bk:=D.nx } σ2 H2) (hd:∀ σ H,Pv xs.length σ H->D.nx σ H) :
   ph (Itt K a) D g tb σ H:=BC Pv h0 hl (fun i x σ H hx p=>hs i x σ H (Pv (i+1)) (fun _ _ z=>z) hx p) hd
theorem tD {lo:Int} {n:Nat} {g:TG} {tb:TS} {D:Ends} {σ:St} {H:Hp} (Pv:Nat->St->Hp->Prop) (h0:Pv 0 σ H)
   (hs:∀ (i:Nat) (σ:St) (H:Hp) (N:St->Hp->Prop),(∀ σ' H',Pv (i+1) σ' H'->N σ' H')->i<n->Pv i σ H->g (.int (lo+i)) σ H fun σ2 H2=>tb { D with nx:=N,ct:=N,bk:=D.nx } σ2 H2) (hd:∀ σ H,Pv n σ H->D.nx σ H) :
   ph (Itr lo n) D g tb σ H:=Pt Pv h0 (fun i σ H hi p=>hs i σ H (Pv (i+1)) (fun _ _ z=>z) hi p) hd
theorem Ro {K:PySem.W.Frag} {c d:Bool} {a b:Addr} {xs ys:List V} {g:TG} {tb:TS} {D:Ends} {σ:St} {H:Hp} (Pv:Nat->St->Hp->Prop) (h0:Pv 0 σ H) (hl:∀ i σ H,Pv i σ H->SqX K c H a xs/\SqX K d H b ys)
   (hs:∀ (i:Nat) (x y:V) (σ:St) (H:Hp) (p:Addr) (N:St->Hp->Prop),(∀ σ' H',Pv (i+1) σ' H'->N σ' H')->xs[i]?=some x->ys[i]?=some y->Pv i σ H->H p=none->g (.ref p) σ (upd H p (.tup [x,y])) fun σ2 H2=>tb { D with nx:=N,ct:=N,bk:=D.nx } σ2 H2)
   (hd:∀ σ H,Pv (min xs.length ys.length) σ H->D.nx σ H):ph (Itz K c d a b) D g tb σ H:=Vd Pv h0 hl (fun i x y σ H p hx hy pv hp=>hs i x y σ H p (Pv (i+1)) (fun _ _ z=>z) hx hy pv hp) hd
theorem FC {c:TT} {tb:TS} {D:Ends} {σ:St} {H:Hp} (W:Nat->St->Hp->Prop) (n0:Nat) (h0:W n0 σ H)
   (hs:∀ (n:Nat) (σ:St) (H:Hp) (N:St->Hp->Prop),(∀ n' σ' H',n'<n->W n' σ' H'->N σ' H')->(∀ σ' H',N σ' H'->∃ m',m'<n/\W m' σ' H')->W n σ H ->
     c σ H fun b H1=>if b=true then ∃ N:St->Hp->Prop,(∀ σ' H',N σ' H'->∃ m',m'<n/\W m' σ' H')/\tb { D with nx:=N,ct:=N,bk:=D.nx } σ H1 else D.nx σ H1):KY c tb D σ H :=
 ⟨W,⟨n0,h0⟩,fun n σ H w=>hs n σ H (fun σ' H'=>∃ m',m'<n/\W m' σ' H') (fun n' _ _ hn w'=>⟨n',hn,w'⟩) (fun _ _ z=>z) w⟩
theorem p60:(0:Int)<10^(60:Int).toNat:=Int.pow_pos (by decide)
theorem BN {a:Int} {n:Nat} (h:a.natAbs<2^n):Builtin.Int.intBits a<=n:=by
 unfold Builtin.Int.intBits;by_cases z:a=0
 . subst z;simp
 . have hz:(a == 0)=false:=by simpa using z
   rw [hz];simp only [Bool.false_eq_true,if_false];have:=(Nat.log2_lt (by omega)).mpr h;omega
theorem jh {a b:Int} (ha:a.natAbs<2^4000) (hb:b.natAbs<2^4000):IntMulOk a b :=
 IntMulOk.of_bits (Nat.le_trans (BN ha) (by decide)) (Nat.le_trans (BN hb) (by decide))
theorem lx {a b:Int} {n:Nat} (ha:a.natAbs<2^n) (hb:b.natAbs<2^n):(a+b).natAbs<2^(n+1):=by
 have:=Int.natAbs_add_le a b;rw [Nat.pow_succ];omega
theorem bR {a b:Int} {m n:Nat} (ha:a.natAbs<2^m) (hb:b.natAbs<2^n):(a*b).natAbs<2^(m+n):=by
 rw [Int.natAbs_mul,Nat.pow_add];exact Nat.mul_lt_mul'' ha hb
theorem bc {a:Int} {m n:Nat} (h:a.natAbs<2^m) (hm:m<=n):a.natAbs<2^n:=Nat.lt_of_lt_of_le h (Nat.pow_le_pow_right (by decide) hm)
theorem Rk:(10^(60:Int).toNat:Int).natAbs<2^200:=by decide +kernel
theorem Sf {c M:Int} {n:Nat} (h0:0<M) (h:M.natAbs<2^n):(c % M).natAbs<2^n:=by
 have h1:=Int.emod_nonneg c (Int.ne_of_gt h0);have h2:=Int.emod_lt_of_pos c h0;omega
theorem Pf (c i:Int) (h0:0<=i) (h1:i<=1000000):(c % 10^(60:Int).toNat+3).natAbs<2^300/\(16180339887498948482045868343656381177203+2*i*i).natAbs<2^300 /\
   ((c % 10^(60:Int).toNat+3)*(16180339887498948482045868343656381177203+2*i*i)+6151*i).natAbs<2^4000:=by
 have hi:i.natAbs<2^20:=by omega
 have a1:(c % 10^(60:Int).toNat+3).natAbs<2^201:=lx (Sf p60 Rk) (by decide +kernel);have b1:(2*i*i).natAbs<2^199:=bc (bR (bR (a:=2) (m:=2) (by decide) hi) hi) (by decide);have b2:(16180339887498948482045868343656381177203+2*i*i).natAbs<2^200:=lx (by decide +kernel) b1;have c1:(6151*i).natAbs<2^401:=bc (bR (a:=6151) (m:=20) (by decide) hi) (by decide);exact ⟨bc a1 (by decide),bc b2 (by decide),bc (lx (bR a1 b2) c1) (by decide)⟩
open Pb
def py (r:Road):List V:=[.int r.a,.int r.b,.int r.t,.int r.u]
abbrev RoadsAt (H:Hp):List Addr->List Road->Prop:=Paired fun p r=>H p=some (.tup (py r))
theorem RoadsAt.same {H H':Hp} (e:Same H H') {ps:List Addr} {rs:List Road} (h:RoadsAt H ps rs):RoadsAt H' ps rs:=Paired.imp' (fun p r q=>e p _ q) h
theorem RoadsAt.get {H:Hp}:∀ {ps:List Addr} {rs:List Road} {i:Nat} {x:V},RoadsAt H ps rs->(ps.map V.ref)[i]?=some x->∃ p r,x=.ref p/\ps[i]?=some p/\rs[i]?=some r/\H p=some (.tup (py r))
 | _,_,i,x,.nil,e=>by simp at e
 | _,_,0,x,.cons (a:=p) (b:=r) h hs,e=>⟨p,r,by simpa using e.symm,by simp,by simp,h⟩
 | a::l1,_,i+1,x,.cons h hs,e=>by
   have e':(List.map V.ref l1)[i]?=some x:=by simpa using e
   obtain ⟨p,r,h1,h2,h3,h4⟩:=RoadsAt.get hs e';exact ⟨p,r,h1,by simpa using h2,by simpa using h3,h4⟩
theorem Same.tup {K:PySem.W.Frag} {H H':Hp} {a:Addr} {xs:List V} (e:Same H H') (h:SqT K H a xs):SqT K H' a xs:=by
 rcases h with (h|⟨o,h⟩)|h
 . exact .inl (.inl (e _ _ h))
 . exact .inl (.inr ⟨o,e _ _ h⟩)
 . exact .inr h
theorem Same.sqX {K:PySem.W.Frag} {H H':Hp} {c:Bool} {a:Addr} {xs:List V} (e:Same H H') (h:SqX K c H a xs):SqX K c H' a xs:=by
 cases c
 . exact Same.tup e h
 . exact Same.seq e h
theorem Same.new {H:Hp} {p:Addr} (o:HO) (h:H p=none):Same H (upd H p o):=fun b u e=>by rw [ao (aG e h)];exact e
end L2
set_option Elab.async false
set_option linter.all false
set_option maxRecDepth 100000
namespace L2
open PySem PySem.Spec PyProof.Rows
abbrev bmV:List Value:=[.type "ValueError",.type "Exception",.type "BaseException",.type "object"]
section
variable {prog:Program} {w:World} {A:Around} {E:Value->Shared->Prop} {s:Shared} {K:PySem.W.Frag} {x C:Addr} {ox:Obj} {od:Option Obj}
end
end L2
set_option Elab.async false
set_option linter.all false
set_option maxRecDepth 100000
namespace L2
open PySem PySem.Spec PyProof.Rows
def pN (h:Heap) (ea:Addr) (cls:Value) (od:Option Addr) (head:Value):Prop:=∃ oe vs,h.get? ea=some oe/\oe.cls=cls/\oe.dict=od/\oe.data=.fields vs/\vs[1]?=some head/\vs[2]?=some .none
def TbO (h:Heap) (T:Addr) (fl:Value):Prop:=∃ oT ts,h.get? T=some oT/\oT.data=.fields ts/\ts[3]?=some fl
structure Err (h:Heap) (ea T:Addr) (cls:Value) (od:Option Addr) (fl:Value):Prop where
 e:pN h ea cls od (.ref T)
 t:TbO h T fl
 ne:T≠ea
structure Kept (fs xs:List Addr) (h h':Heap):Prop where
 keep:∀ b o,h.get? b=some o->b ∉ fs->b ∉ xs->h'.get? b=some o
 slot:∀ b o,h.get? b=some o->b∈fs->b ∉ xs->∃ sl,h'.get? b=some { o with slots:=sl }
 there:∀ b o,h.get? b=some o->∃ o',h'.get? b=some o'
theorem Kept.mono {fs xs ys:List Addr} {h h':Heap} (k:Kept fs xs h h') (s:∀ b∈xs,b∈ys):Kept fs ys h h':=⟨fun b o e f x=>k.keep b o e f fun z=>x (s b z),fun b o e f x=>k.slot b o e f fun z=>x (s b z),k.there⟩
theorem Kept.trans {fs xs:List Addr} {h h1 h2:Heap} (a:Kept fs xs h h1) (b:Kept fs xs h1 h2):Kept fs xs h h2 where
 keep:=fun c o e f x=>b.keep c o (a.keep c o e f x) f x
 slot:=fun c o e f x=>by
   obtain ⟨s1,e1⟩:=a.slot c o e f x;obtain ⟨s2,e2⟩:=b.slot c _ e1 f x;exact ⟨s2,e2⟩
 there:=fun c o e=>by
   obtain ⟨o1,e1⟩:=a.there c o e;exact b.there c o1 e1
theorem Kept.of_all {fs xs:List Addr} {h h':Heap} (k:∀ b o,h.get? b=some o->h'.get? b=some o):Kept fs xs h h':=⟨fun b o e _ _=>k b o e,fun b o e _ _=>⟨o.slots,k b o e⟩,fun b o e=>⟨o,k b o e⟩⟩
theorem CM {fs xs:List Addr} {h:Heap} {a:Addr} {oa:Obj} {vs:Array Value} {i:Nat} {v:Value} (ha:h.get? a=some oa) (hd:oa.data=.fields vs) (hx:a∈xs):Kept fs xs h (h.update a (Obj.mapFields (·.setIfInBounds i v))):=by
 have oth:∀ b o,h.get? b=some o->b ∉ xs->(h.update a (Obj.mapFields (·.setIfInBounds i v))).get? b=some o:=fun b o e x=>by
   rw [Heap.get?_update_other _ _ (fun (z:a=b)=>x (z ▸ hx))];exact e
 refine ⟨fun b o e _ x=>oth b o e x,fun b o e _ x=>⟨o.slots,oth b o e x⟩,fun b o e=>?_⟩;by_cases z:b=a
 . subst z;exact ⟨_,Heap.get?_update_self _ ha (Obj.isFreed_of_fields (Obj.data_mapFields hd _))⟩
 . rw [Heap.get?_update_other _ _ (Ne.symm z)];exact ⟨o,e⟩
theorem Q7 {h:Heap} {ea:Addr} {cls hd v:Value} {od:Option Addr} (e:pN h ea cls od hd):pN (h.update ea (Obj.mapFields (·.setIfInBounds 1 v))) ea cls od v:=by
 obtain ⟨oe,vs,h1,h2,h3,h4,h5,h6⟩:=e;have sz:1<vs.size:=(Array.getElem?_eq_some_iff.mp h5).1;refine ⟨_,_,Heap.get?_update_self _ h1 (Obj.isFreed_of_fields (Obj.data_mapFields h4 _)),?_,?_,Obj.data_mapFields h4 _,by simp [sz],by rw [Array.getElem?_setIfInBounds_ne (by decide)];exact h6⟩
 . rw [<- h2];exact Obj.cls_mapFields _ _
 . rw [<- h3];obtain ⟨c,d,dt,sl⟩:=oe;cases dt <;> rfl
theorem ET {h:Heap} {ea a:Addr} {cls hd:Value} {od:Option Addr} {f:Obj->Obj} (e:pN h ea cls od hd) (ne:a≠ea):pN (h.update a f) ea cls od hd:=by
 obtain ⟨oe,vs,h1,h2⟩:=e;exact ⟨oe,vs,by rw [Heap.get?_update_other _ _ ne];exact h1,h2⟩
theorem Gk {h h':Heap} {ea:Addr} {cls hd:Value} {od:Option Addr} (e:pN h ea cls od hd) (k:∀ o,h.get? ea=some o->h'.get? ea=some o):pN h' ea cls od hd:=by
 obtain ⟨oe,vs,h1,h2⟩:=e;exact ⟨oe,vs,k _ h1,h2⟩
theorem QD {h base:Heap} {ea:Addr} {cls hd:Value} {od:Option Addr} {l:List Env} (e:pN h ea cls od hd) (f:h.FunFrames base l):ea ∉ frs l:=fun z=>by
 obtain ⟨oe,vs,h1,_,_,h4,_⟩:=e;obtain ⟨_,o,ho,hn⟩:=f.mem z;rw [h1] at ho;cases ho;exact hn vs h4
theorem SA {h base:Heap} {T:Addr} {fl:Value} {l:List Env} (e:TbO h T fl) (f:h.FunFrames base l):T ∉ frs l:=fun z=>by
 obtain ⟨oe,vs,h1,h4,_⟩:=e;obtain ⟨_,o,ho,hn⟩:=f.mem z;rw [h1] at ho;cases ho;exact hn vs h4
section
variable {M:Model} {A:Around} {E:Value->Shared->Prop} {s:Shared} {Q:Unit->Shared->Prop} {fs:List Addr} {ea T L:Addr} {cls fl hd:Value} {od:Option Addr} {base:Heap} {env:Env} {outer:List Env}
theorem MB (r:Err s.heap ea T cls od fl) (h:∀ h',Err h' ea T cls od .none->Kept fs [T] s.heap h'->Q () { s with heap:=h' }):wpAny M A (setFlight (.ref ea) none) Q E s:=by
 obtain ⟨⟨oe,vs,h1,h2,h3,h4,h5,h6⟩,⟨oT,ts,t1,t2,t3⟩,ne⟩:=r;have sz:3<ts.size:=(Array.getElem?_eq_some_iff.mp t3).1;unfold setFlight;refine wpAny_bind (wpAny_field h1 h4 h5 ?_);rw [if_pos (by simp:(Value.ref T != Value.none)=true)];refine wpAny_setField t1 t2 sz (h _ ⟨ET ⟨oe,vs,h1,h2,h3,h4,h5,h6⟩ ne,⟨_,_,Heap.get?_update_self _ t1 (Obj.isFreed_of_fields (Obj.data_mapFields t2 _)),Obj.data_mapFields t2 _,by simp [sz]⟩,ne⟩ (CM t1 t2 (by simp)))
theorem KM {head:Value} {hadNext:Bool} (hfr:A.frames=some (env::outer)) (hl:s.heap.FunFrames base (env::outer)) (hf:env.frame=some L) (r:pN s.heap ea cls od hd)
   (h:∀ h' T',Err h' ea T' cls od (rawInt L)->Kept (frs (env::outer)) [ea] s.heap h'->s.heap.get? T'=none->Q () { s with heap:=h' }) :
   wpAny M A (do let a <- frameOf env;let pl <- entryPlaceOf L hadNext;let b <- EntryCells.newEntry head a .none (rawInt L) .none pl;setField (.ref ea) 1 b) Q E s:=by
 have nf:=QD r hl;refine wpAny_bind (wpAny_frameOf_fun hfr hl hf fun g1 so=>wpAny_bind (wpAny_entryPlaceOf fun pl hpl=>?_));unfold EntryCells.newEntry newFields;refine wpAny_bind (wpAny_newObj_type ?_ (hpl.sizeOk5 _ _ _ _ _));have r1:pN g1 ea cls od hd:=Gk r fun o e=>(so.2.1 ea nf).trans e;generalize ht:({ cls:=.type "traceback",dict:=none,data:=.fields ([head,.ref L,.none,rawInt L,.none]++(if pl.isEmpty then List.replicate 6 Value.none else pl)).toArray }:Obj)=tb;have r2:pN (g1.push tb) ea cls od hd:=Gk r1 fun o e=>Heap.get?_push_of_some _ e;obtain ⟨oe,vs,e1,e2,e3,e4,e5,e6⟩:=id r2;have lt:ea<g1.objs.size:=by
   obtain ⟨_,_,e,_⟩:=r1;exact Heap.lt_size e
 have hT:(g1.push tb).get? g1.objs.size=some tb:=Heap.get?_push_size g1 (by rw [<- ht];rfl);refine wpAny_setField e1 e4 (Array.getElem?_eq_some_iff.mp e5).1 (h _ g1.objs.size ⟨Q7 r2,⟨tb,([head,.ref L,.none,rawInt L,.none]++(if pl.isEmpty then List.replicate 6 Value.none else pl)).toArray,?_,by rw [<- ht],by simp⟩,Nat.ne_of_gt lt⟩ ?_ ?_)
 . rw [Heap.get?_update_other _ _ (Nat.ne_of_lt lt)];exact hT
 . have k1:Kept (frs (env::outer)) [ea] s.heap g1:=⟨fun b o e f _=>(so.2.1 b f).trans e,fun b o e _ _=>so.2.2 b o e,fun b o e=>by
     obtain ⟨sl,z⟩:=so.2.2 b o e;exact ⟨_,z⟩⟩
   exact k1.trans ((Kept.of_all fun b o e=>Heap.get?_push_of_some _ e).trans (CM e1 e4 (by simp)))
 . exact Heap.get?_none_of_le (by rw [so.1];exact Nat.le_refl _)
theorem RF (hfr:A.frames=some (env::outer)) (hl:s.heap.FunFrames base (env::outer)) (hf:env.frame=some L) (r:pN s.heap ea cls od .none)
   (h:∀ h' T',Err h' ea T' cls od (rawInt L)->Kept (frs (env::outer)) [ea] s.heap h'->s.heap.get? T'=none->Q () { s with heap:=h' }):wpAny M A (noteFrame (.ref ea) env) Q E s:=by
 obtain ⟨oe,vs,e1,e2,e3,e4,e5,e6⟩:=id r;unfold noteFrame;simp only [hf];refine wpAny_bind (wpAny_field e1 e4 e5 ?_);rw [if_neg (by decide)];exact KM hfr hl hf r h
theorem Uy (hfr:A.frames=some (env::outer)) (hl:s.heap.FunFrames base (env::outer)) (hf:env.frame=some L) (r:Err s.heap ea T cls od .none)
   (h:∀ h' T',Err h' ea T' cls od (rawInt L)->Kept (frs (env::outer)) [ea,T] s.heap h'->s.heap.get? T'=none->Q () { s with heap:=h' }):wpAny M A (noteFrame (.ref ea) env) Q E s:=by
 have nT:=SA r.t hl;obtain ⟨⟨oe,vs,e1,e2,e3,e4,e5,e6⟩,⟨oT,ts,t1,t2,t3⟩,ne⟩:=id r;unfold noteFrame;simp only [hf];refine wpAny_bind (wpAny_field e1 e4 e5 ?_);rw [if_pos (by simp:(Value.ref T != Value.none)=true)];refine wpAny_bind (wpAny_field t1 t2 t3 ?_);rw [if_neg (by simp [rawInt])];have k1:Kept (frs (env::outer)) [ea,T] s.heap (s.heap.update T (Obj.mapFields (·.setIfInBounds 3 Value.none))):=CM t1 t2 (by simp);refine wpAny_bind (wpAny_setField t1 t2 (Array.getElem?_eq_some_iff.mp t3).1 ?_);refine KM hfr (hl.of_keeps fun b o e nf=>⟨o,?_,rfl⟩) hf (ET r.e ne) fun h' T' r' k2 n=>h h' T' r' (k1.trans (k2.mono (by simp))) ?_
 . by_cases z:b=T
   . subst z;rw [t1] at e;cases e;exact absurd t2 (nf ts)
   . rw [Heap.get?_update_other _ _ (Ne.symm z)];exact e
 . cases q:s.heap.get? T' with
   | none=>rfl
   | some o =>
     obtain ⟨o',z⟩:=k1.there T' o q;rw [z] at n;cases n
theorem Qq (hfr:A.frames=some (env::outer)) (hl:s.heap.FunFrames base (env::outer)) (hf:env.frame=some L) (r:pN s.heap ea cls od .none)
   (h:∀ h' T',Err h' ea T' cls od .none->Kept (frs (env::outer)) [ea] s.heap h'->s.heap.get? T'=none->Q () { s with heap:=h' }):wpAny M A (leaving env (.ref ea)) Q E s:=by
 unfold leaving;refine wpAny_bind (RF hfr hl hf r fun h1 T1 r1 k1 n1=>MB (fs:=frs (env::outer)) (s:={ s with heap:=h1 }) r1 fun h2 r2 k2=>h h2 T1 r2 ⟨fun b o e f x=>k2.keep b o (k1.keep b o e f x) f ?_,fun b o e f x=>?_,fun b o e=>?_⟩ n1)
 . simp only [List.mem_singleton];rintro rfl;rw [n1] at e;cases e
 . obtain ⟨s1,e1⟩:=k1.slot b o e f x;obtain ⟨s2,e2⟩:=k2.slot b _ e1 f (by
     simp only [List.mem_singleton];rintro rfl;rw [n1] at e;cases e)
   exact ⟨s2,e2⟩
 . obtain ⟨o1,e1⟩:=k1.there b o e;exact k2.there b o1 e1
theorem QW (hfr:A.frames=some (env::outer)) (hl:s.heap.FunFrames base (env::outer)) (hf:env.frame=some L) (r:Err s.heap ea T cls od .none)
   (h:∀ h' T',Err h' ea T' cls od .none->Kept (frs (env::outer)) [ea,T] s.heap h'->s.heap.get? T'=none->Q () { s with heap:=h' }):wpAny M A (leaving env (.ref ea)) Q E s:=by
 unfold leaving;refine wpAny_bind (Uy hfr hl hf r fun h1 T1 r1 k1 n1=>MB (fs:=frs (env::outer)) (s:={ s with heap:=h1 }) r1 fun h2 r2 k2=>h h2 T1 r2 ⟨fun b o e f x=>k2.keep b o (k1.keep b o e f x) f ?_,fun b o e f x=>?_,fun b o e=>?_⟩ n1)
 . simp only [List.mem_singleton];rintro rfl;rw [n1] at e;cases e
 . obtain ⟨s1,e1⟩:=k1.slot b o e f x;obtain ⟨s2,e2⟩:=k2.slot b _ e1 f (by
     simp only [List.mem_singleton];rintro rfl;rw [n1] at e;cases e)
   exact ⟨s2,e2⟩
 . obtain ⟨o1,e1⟩:=k1.there b o e;exact k2.there b o1 e1
end
def CXe (P:Program) (w:World):CXT:=fun outer H s E e s'=>∃ (ea T:Addr) (cls:Value) (od:Option Addr) (H':Hp),e=.ref ea/\s'.os=s.os/\AllBare s'.gens/\Un (frs outer) [] H H' s.heap s'.heap/\HOk P w H' s'.heap /\
 H' ea=none/\H' T=none/\s.heap.get? ea=none/\s.heap.get? T=none/\Err s'.heap ea T cls od .none/\E cls od H'
theorem aJ {P:Program} {w:World}:aP (CXe P w):=fun outer H s e s' h=>by
 obtain ⟨_,_,_,_,_,_,_,_,_,_,_,_,_,_,_,z⟩:=h;exact z
theorem Kx {P:Program} {w:World} {H:Hp} {h h':Heap} {fs xs:List Addr} (x:HOk P w H h) (k:Kept fs xs h h') (f:∀ b∈fs,H b=none) (u:∀ b∈xs,H b=none):HOk P w H h':=fun a o e=>by
 refine (x a o e).stay (fun b ob hb q=>k.keep b ob q ?_ ?_) (fun _ q=>q) fun _ _ q=>q
 . intro z;rcases hb with rfl|hb
   . rw [f _ z] at e;cases e
   . rw [f _ z] at hb;cases hb
 . intro z;rcases hb with rfl|hb
   . rw [u _ z] at e;cases e
   . rw [u _ z] at hb;cases hb
theorem Nm {P:Program} {w:World} {H:Hp} {h:Heap} {b:Addr} (x:HOk P w H h) (n:h.get? b=none):H b=none:=by
 cases q:H b with
 | none=>rfl
 | some o =>
   have lt:=x.lt q;cases z:h.get? b with
   | some o'=>rw [z] at n;cases n
   | none =>
     exfalso
     have:=(x b o q);cases o with
     | lst xs=>obtain ⟨_,_,_,_,e⟩:=this;rw [n] at e;cases e
     | tup xs=>obtain ⟨_,_,_,ob,e,_⟩:=this;rw [n] at e;cases e
     | dK kvs=>obtain ⟨_,_,_,_,ob,_,_,e,_⟩:=this;rw [n] at e;cases e
     | dT kvs=>obtain ⟨_,_,_,_,ob,_,_,e,_⟩:=this;rw [n] at e;cases e
     | set S m=>obtain ⟨ob,_,_,_,e,_⟩:=this;rw [n] at e;cases e
     | ins C dx fs=>obtain ⟨_,_,_,e,_⟩:=this;rw [n] at e;cases e
     | own y=>obtain ⟨_,e⟩:=this;rw [n] at e;cases e
     | xd fs=>obtain ⟨_,⟨_,_,_,e,_⟩,_⟩:=this;rw [n] at e;cases e
     | rng lo hi=>obtain ⟨_,_,_,e⟩:=this;rw [n] at e;cases e
     | frz ob u=>obtain ⟨e,_⟩:=this;rw [n] at e;cases e
     | tbl ps=>have e:h.get? b=some _:=this;rw [n] at e;cases e
     | met f y=>have e:h.get? b=some _:=this;rw [n] at e;cases e
     | ext φ=>obtain ⟨_,⟨_,e⟩,_⟩:=this;rw [n] at e;cases e
section
variable {P:Program} {w:World} {K:PySem.W.Frag} {mg:Str->Option Value} {base:Heap} {N:List Str} {qual:Str} {scope:Scope} {f:Addr} {cd:Value} {A:Around} {outer:List Env} {s:Shared} {H:Hp} {E:XK}
theorem IA {CX:CXT} {pins:List (Addr × Obj)} {σ:St} {H':Hp} {s':Shared} {h':Heap} {xs:List Addr} (J:Inv (si CX P w K mg base N qual scope f cd A outer s H E) pins σ H' s') (k:Kept (frs (envOfC qual scope s.heap.objs.size f cd::outer)) xs s'.heap h') (nx:∀ b∈xs,s.heap.get? b=none) :
   Un (frs outer) [] H H' s.heap h':=by
 have b0:Un (frs outer) [] H H' s.heap s'.heap:=J.base;have nl:∀ b o,s.heap.get? b=some o->b ∉ xs:=fun b o e z=>by rw [nx b z] at e;cases e
 have nf:∀ b o,s.heap.get? b=some o->b ∉ frs outer->b ∉ frs (envOfC qual scope s.heap.objs.size f cd::outer):=fun b o e z m=>by
   unfold frs at m z;rw [List.filterMap_cons] at m;have:(envOfC qual scope s.heap.objs.size f cd).frame=some s.heap.objs.size:=rfl;rw [this] at m;rcases List.mem_cons.mp m with m|m
   . exact absurd (Heap.lt_size e) (by rw [m];exact Nat.lt_irrefl _)
   . exact z m
 refine ⟨fun b o e n hf hx=>k.keep b o (b0.keep b o e n hf hx) (nf b o e hf) (nl b o e),fun b o e n hf hx=>?_,b0.free,fun b o e hx=>?_,b0.tups,b0.frzs,b0.tbls⟩
 . obtain ⟨sl,e1⟩:=b0.slot b o e n hf hx;by_cases m:b∈frs (envOfC qual scope s.heap.objs.size f cd::outer)
   . obtain ⟨s2,e2⟩:=k.slot b _ e1 m (nl b o e);exact ⟨s2,e2⟩
   . exact ⟨sl,k.keep b _ e1 m (nl b o e)⟩
 . obtain ⟨o1,e1⟩:=b0.there b o e hx;exact k.there b o1 e1
theorem qU {CX:CXT} {pins:List (Addr × Obj)} {σ:St} {H':Hp} {s':Shared} (J:Inv (si CX P w K mg base N qual scope f cd A outer s H E) pins σ H' s') {b:Addr} (n:s'.heap.get? b=none):s.heap.get? b=none:=by
 cases q:s.heap.get? b with
 | none=>rfl
 | some o =>
   have b0:Un (frs outer) [] H H' s.heap s'.heap:=J.base;obtain ⟨o',e⟩:=b0.there b o q (by simp);rw [n] at e;cases e
theorem hZ:xm (CXe P w) (si (CXe P w) P w K mg base N qual scope f cd A outer s H E) E:=by
 intro pins σ H1 s1 e s' I h;obtain ⟨ea,T,cls,od,H',rfl,os,bare,un,hok,n1,n2,f1,f2,er,q⟩:=h;have J:=I.call' (ch:=[]) os un hok bare (by simp);refine QW (base:=base) J.ok.frames J.stack rfl er fun h' T' er' k nT=>?_;have fr:∀ b∈frs (envOfC qual scope s.heap.objs.size f cd::outer),H' b=none:=J.stkFree;refine ⟨ea,T',cls,od,H',rfl,J.os,J.bare,IA J k ?_,Kx hok k fr ?_,n1,Nm hok nT,qU I f1,qU J nT,er',q⟩
 . intro b hb;simp only [List.mem_cons,List.not_mem_nil,or_false] at hb;rcases hb with rfl|rfl
   . exact qU I f1
   . exact qU I f2
 . intro b hb;simp only [List.mem_cons,List.not_mem_nil,or_false] at hb;rcases hb with rfl|rfl
   . exact n1
   . exact n2
end
def QH (X:Cx) (E:XK):Prop:=∀ (pins:List (Addr × Obj)) (σ:St) (H:Hp) (s:Shared) (ea:Addr) (cls:Value) (od:Option Addr) (h':Heap) (tk:Nat),Inv X pins σ H s->(∀ b o,s.heap.get? b=some o->h'.get? b=some o)->s.heap.get? ea=none->pN h' ea cls od .none->E cls od H ->
 X.xe (.ref ea) { s with heap:=h',toks:=tk }
section
variable {P:Program} {w:World} {K:PySem.W.Frag} {mg:Str->Option Value} {base:Heap} {N:List Str} {qual:Str} {scope:Scope} {f:Addr} {cd:Value} {A:Around} {outer:List Env} {s:Shared} {H:Hp} {E:XK}
theorem MF:QH (si (CXe P w) P w K mg base N qual scope f cd A outer s H E) E:=by
 intro pins σ H1 s1 ea cls od h' tk I kp nw er q;have J:=I.kept (t':=tk) kp;refine Qq (base:=base) J.ok.frames J.stack rfl er fun h2 T' er' k nT=>?_;have fr:∀ b∈frs (envOfC qual scope s.heap.objs.size f cd::outer),H1 b=none:=J.stkFree;refine ⟨ea,T',cls,od,H1,rfl,J.os,J.bare,IA J k ?_,Kx J.hok k fr ?_,Nm I.hok nw,Nm J.hok nT,qU I nw,qU J nT,er',q⟩
 . intro b hb;rw [List.mem_singleton.mp hb];exact qU I nw
 . intro b hb;rw [List.mem_singleton.mp hb];exact Nm I.hok nw
end
end L2
set_option Elab.async false
set_option linter.all false
set_option maxRecDepth 100000
namespace L2
open PySem PySem.Spec PyProof.Rows
def OX (K:PySem.W.Frag) (C:Addr):Prop:=∃ (nm qn:Str) (N:Addr) (bs bm:List Value) (hdct:Bool) (sn:List Str) (sub:List Value) (ab:Bool) (col:Option Bool) (dd:Option Addr) (k0 k1 k2 k3 k5:Option Value),
   K.lookup C=some (excClassObj nm qn C N bs bm hdct sn sub ab col dd k0 k1 k2 k3 k5 "ValueError.__new__")/\PySem.W.nsOkIn K N=true/\PySem.W.nsIn K N "__init__"=some none/\PySem.W.tailIn K bmV bm=true
theorem My {K:PySem.W.Frag} {C:Addr} {o:Obj} (nm qn:Str) (N:Addr) (bs bm:List Value) (hdct:Bool) (sn:List Str) (sub:List Value) (ab:Bool) (col:Option Bool) (dd:Option Addr) (k0 k1 k2 k3 k5:Option Value) (l:K.lookup C=some o)
   (e:o=excClassObj nm qn C N bs bm hdct sn sub ab col dd k0 k1 k2 k3 k5 "ValueError.__new__") (a:PySem.W.nsOkIn K N=true) (b:PySem.W.nsIn K N "__init__"=some none) (c:PySem.W.tailIn K bmV bm=true):OX K C:=by
 subst e;exact ⟨_,_,_,_,_,_,_,_,_,_,_,_,_,_,_,_,l,a,b,c⟩
def PD (C:Addr) (E:XK) (t:TA):TS:=fun _ σ H=>t σ H fun vs H1=>vs.length<=sizeLine/\E (.ref C) none H1
section
variable {X:Cx} {x:Str} {np cpos pos:Pos} {e0:Expr} {es:List Expr} {t:TA} {C:Addr} {E:XK}
theorem IJ (q:OX X.K C) (hc:X.calm=true) (hR:QH X E) (hg:Gl X x) (hm:X.mg x=some (.ref C)) (ha:PA X (e0::es) t) (hdb:(x == ("__debug__":Str))=false:=by decide)
   (he:starEach (e0::es) X.env=(false,eval e0 X.env)::starEach es X.env:=by rfl) (hpl:(backTo cpos (starEach es X.env)).any (·.1)=false:=by rfl):PS X (.Raise (some (.Call (.Name x np) (e0::es) [] cpos)) none pos) (PD C E t):=by
 intro pins s σ H D I h;obtain ⟨nm,qn,N,bs,bm,hdct,sn,sub,ab,col,dd,k0,k1,k2,k3,k5,ho,z5,z6,z4⟩:=q;have B:=I.mod.kin;have T0:=PySem.W.tail_of_in B z4;have N0:X.base.Ns N (X.base.nsMap N):=.of_isNs (PySem.W.isNs_of_in B z5);have hp:(backTo cpos (starEach (e0::es) X.env)).any (·.1)=false:=by
   rw [he];show (false || (backTo cpos (starEach es X.env)).any (·.1))=false;rw [hpl]
   rfl
 refine wpAny_Raise_call_subT (C:=C) (nm:=nm) (q:=qn) (N:=N) (bs:=bs) (bm:=bm) (hdct:=hdct) (sn:=sn) (sub:=sub) (ab:=ab) (col:=col) (dd:=dd) (k0:=k0) (k1:=k1) (k2:=k2) (k3:=k3) (k5:=k5) PySem.F.excBase_ValueError
   (T0.hasType (by decide +kernel)) (I.ok.hd hc) hp (PySem.W.nsMap_none_of_in B z5 z6) (BH I hg hm ⟨rfl,?_⟩ hdb)
 have g:=ha cpos pins s σ H _ I h;rw [he] at g ⊢;refine Calls.evalArgs_plain (thn g fun us s1 ⟨vs,H1,I1,r1,q1⟩=>⟨rfl,by show us.length<=_;rw [<- r1.length];exact q1.1,I1.bk _ _ (B _ _ ho),N0.keeps I1.bk,T0.keeps I1.bk,fun h' ea m=>?_⟩);obtain ⟨tt,m1,_,_⟩:=m.there;exact hR pins σ H1 s1 ea (.ref C) none h' s1.toks I1 m.keeps m.new ⟨_,_,m1,rfl,rfl,rfl,rfl,rfl⟩ q1.2
end
section
variable {CX:CXT} {X:Cx} {k:Nat} {f C:Addr} {fd:FuncData} {ps:List Str} {sp:Sp} {dvs:List V} {ds:List Value} {x:Str} {p pos:Pos} {e:Expr} {es:List Expr} {te:TE} {t:TA} {st:Stmt} {sts:List Stmt} {ts:TS} {tx ux:(St->XK)->TS} {ex:XK->TE}
end
end L2
set_option Elab.async false
set_option linter.all false
set_option maxRecDepth 100000
namespace L2
open PySem PySem.Spec PyProof.Rows
section
variable {X:Cx} {pins:List (Addr × Obj)} {σ:St} {H:Hp} {s:Shared}
end
section
variable {K:PySem.W.Frag} {C C':Addr} {x:Addr} {ox:Obj} {od:Option Obj} {M:Model} {A:Around} {E:Value->Shared->Prop} {s:Shared} {b:Bool} {Q:Bool->Shared->Prop}
end
end L2
set_option Elab.async false
set_option linter.all false
set_option maxRecDepth 100000
namespace L2
open PySem PySem.Spec PyProof.Rows
def ExO (ea:Addr) (cls:Value) (od:Option Addr):HO:=.ext fun h=>∃ oe vs,h.get? ea=some oe/\oe.cls=cls/\oe.dict=od/\oe.data=.fields vs/\vs[2]?=some .none
section
variable {X:Cx} {pins:List (Addr × Obj)} {σ:St} {H:Hp} {s:Shared}
end
abbrev TH:=Ends->St->Value->Option Addr->Hp->Prop
def Ends.less (D:Ends) (i:Nat):Ends:={ nx:=fun σ H=>D.nx (σ.set i none) H,rt:=D.rt,bk:=fun σ H=>D.bk (σ.set i none) H,ct:=fun σ H=>D.ct (σ.set i none) H }
def Xa (K:PySem.W.Frag) (C':Addr) (i:Nat) (ts:TS) (tr:TH):TH:=fun D σ cls od H=>∃ C b,cls=.ref C/\PySem.W.mroIn K C (.ref C')=some b /\
 if b=true then ∀ ea,H ea=none->ts (D.less i) (σ.set i (some (.ref ea))) (upd H ea (ExO ea cls od)) else tr D σ cls od H
section
variable {X:Cx} {x n:Str} {np pos:Pos} {i:Nat} {C':Addr} {b0:Stmt} {suite:List Stmt} {kc:List ExceptHandler} {ts:TS} {tr:TH}
def Xl (tb:(St->XK)->TS) (th:TH):TS:=fun D σ H=>tb (fun σ' cls od H'=>th D σ' cls od H') D σ H
end
end L2
set_option Elab.async false
set_option linter.all false
set_option maxRecDepth 100000
namespace L2
open PySem PySem.Spec PyProof.Rows
section
variable {P:Program} {w:World} {K:PySem.W.Frag} {mg:Str->Option Value} {base:Heap}
end
section
variable {X:Cx} {k:Nat} {f:Addr} {fd:FuncData} {ps:List Str} {sp:Sp} {x:Str} {p pos:Pos} {e:Expr} {es:List Expr} {t:TA}
end
section
variable {X:Cx}
end
def wL (cells:List (Str × Addr)):List (Str × NameKind)->List (Str × Addr)->List (Str × Addr)
 | [],acc=>acc
 | (n,k)::r,acc=>if k == .free then wL cells r ((n,(cells.lookup n).getD 0)::acc) else wL cells r acc
theorem OG {scope:Scope} {env:Env} (h:∀ y∈scope.names,y.2=.free->(env.cells.lookup y.1).isSome=true):closureFor scope env=pure (wL env.cells scope.names []):=by
 have key:∀ (l:List (Str × NameKind)) (acc:List (Str × Addr)),(∀ y∈l,y.2=.free->(env.cells.lookup y.1).isSome=true) ->
     (forIn l acc fun (y:Str × NameKind) (c:List (Str × Addr))=>(if y.2 == NameKind.free then do let a <- cellOf env y.1;pure (ForInStep.yield ((y.1,a)::c)) else pure (ForInStep.yield c):Sem (ForInStep (List (Str × Addr)))))=(pure (wL env.cells l acc):Sem (List (Str × Addr))):=by
   intro l
   induction l with
   | nil=>intro acc _;rfl
   | cons y l ih =>
     obtain ⟨n,k⟩:=y;intro acc hh;have h1:=hh (n,k) List.mem_cons_self;have h2:∀ y∈l,y.2=.free->(env.cells.lookup y.1).isSome=true:=fun y hy=>hh y (List.mem_cons_of_mem _ hy);rw [List.forIn_cons];unfold wL;cases q:k == NameKind.free with
     | false =>
       simp only [Bool.false_eq_true,if_false,pure_bind];exact ih acc h2
     | true =>
       obtain ⟨c,hc⟩:=Option.isSome_iff_exists.mp (h1 (by simpa using q));dsimp only at hc;simp only [if_true,cellOf,hc,pure_bind,Option.getD_some];exact ih _ h2
 have:=key scope.names [] h;unfold closureFor;simp only [bind_pure];exact this
theorem Dd {cells:List (Str × Addr)} {x:Str} {c:Addr}:∀ {l:List (Str × NameKind)} {acc:List (Str × Addr)},(∀ y∈l,y.2=.free->(cells.lookup y.1).isSome=true)->(∀ x c,acc.lookup x=some c->cells.lookup x=some c)->(wL cells l acc).lookup x=some c->cells.lookup x=some c
 | [],acc,_,h2,h3=>h2 x c h3
 | (n,k)::r,acc,h1,h2,h3=>by
   have h1':∀ y∈r,y.2=.free->(cells.lookup y.1).isSome=true:=fun y hy=>h1 y (List.mem_cons_of_mem _ hy);unfold wL at h3;cases q:k == NameKind.free with
   | false =>
     rw [q] at h3;exact Dd h1' h2 (by simpa using h3)
   | true =>
     rw [q] at h3;simp only [if_true] at h3;obtain ⟨a,ha⟩:=Option.isSome_iff_exists.mp (h1 (n,k) List.mem_cons_self (by simpa using q));dsimp only at ha;rw [ha] at h3;refine Dd h1' (fun y d hy=>?_) h3;rw [List.lookup_cons] at hy;cases z:y == n with
     | true =>
       rw [z] at hy;cases hy;rw [eq_of_beq z];exact ha
     | false =>
       rw [z] at hy;exact h2 y d hy
theorem C3 {cells:List (Str × Addr)} {x:Str}:∀ {l:List (Str × NameKind)} {acc:List (Str × Addr)},((∃ c,acc.lookup x=some c)\/(x,NameKind.free)∈l)->∃ c,(wL cells l acc).lookup x=some c
 | [],acc,h=>by
   rcases h with h|h
   . exact h
   . cases h
 | (n,k)::r,acc,h=>by
   unfold wL;cases q:k == NameKind.free with
   | false =>
     simp only [Bool.false_eq_true,if_false];refine C3 ?_;rcases h with h|h
     . exact .inl h
     . rcases List.mem_cons.mp h with z|z
       . cases z;simp at q
       . exact .inr z
   | true =>
     simp only [if_true];refine C3 ?_;by_cases z:x=n
     . subst z;exact .inl ⟨(cells.lookup x).getD 0,by rw [List.lookup_cons];simp⟩
     . rcases h with ⟨c,h⟩|h
       . refine .inl ⟨c,?_⟩;rw [List.lookup_cons];have:(x == n)=false:=(by simpa using z);rw [this];exact h
       . rcases List.mem_cons.mp h with y|y
         . cases y;exact absurd rfl z
         . exact .inr y
theorem qy {env:Env} {x:Str} {k:NameKind}:∀ {l:List (Str × NameKind)},l.lookup x=some k ->
   (l.map fun (n,k)=>if (k == NameKind.free && env.scope.kind == .function && env.kindOf n == some .cell) then (n,NameKind.cell) else (n,k)).lookup x=some (if (k == NameKind.free && env.scope.kind == .function && env.kindOf x == some .cell) then NameKind.cell else k)
 | [],h=>by simp at h
 | (n,j)::r,h=>by
   have ih:=@qy env x k r;rw [List.map_cons];rw [List.lookup_cons] at h;cases z:x == n with
   | true =>
     rw [z] at h;cases h;have e:=eq_of_beq z;subst e;by_cases q:(k == NameKind.free && env.scope.kind == .function && env.kindOf x == some .cell)=true
     . simp only [q,if_true,List.lookup_cons,z]
     . simp only [q,if_false,List.lookup_cons,z,Bool.false_eq_true]
   | false =>
     rw [z] at h;dsimp only;by_cases q:(j == NameKind.free && env.scope.kind == .function && env.kindOf n == some .cell)=true
     . rw [if_pos q,List.lookup_cons,z];exact ih h
     . rw [if_neg q,List.lookup_cons,z];exact ih h
theorem gI {X:Cx} {Nc:List Str} {scope:Scope} (own:Nat) (js:List Nat) (hc:∀ y∈scope.names,y.2≠.cell) (hk:scope.kind=.function) (hn:∀ y∈scope.names,y.2=.local->scope.names.lookup y.1=some .local) (hl:Nc.length=own+js.length)
   (hf:∀ y∈scope.names,y.2=.free->X.env.scope.names.lookup y.1=some .cell) (hX:X.env.scope.kind=.function) (hcell:∀ x,X.env.scope.names.lookup x=some .cell->∃ c,X.env.cells.lookup x=some c)
   (hU:∀ i,i<js.length->∃ x j,Nc[own+i]?=some x/\js[i]?=some j/\X.N[j]?=some x/\scope.names.lookup x=some .free):CompTxt X Nc own js scope (wL X.env.cells scope.names []):=by
 have hs:∀ y∈scope.names,y.2=.free->(X.env.cells.lookup y.1).isSome=true:=fun y hy e=>by
   obtain ⟨c,q⟩:=hcell _ (hf y hy e);rw [q]
   rfl
 have free_cell:∀ x,scope.names.lookup x=some .free->X.env.scope.names.lookup x=some .cell:=fun x h=>hf (x,.free) (PySem.mem_of_lookup h) rfl;refine ⟨OG hs,hk,hc,hn,fun x c h=>Dd hs (fun x c z=>by simp at z) h,fun x h=>?_,hl,fun i x h=>?_⟩
 . cases q:scope.names.lookup x with
   | none =>
     exfalso
     have:(relabel scope X.env).names.lookup x=none:=by
       unfold relabel;dsimp only
       revert q
       generalize scope.names=l
       induction l with
       | nil=>intro _;rfl
       | cons y l ih =>
         obtain ⟨n,k⟩:=y;intro q;rw [List.lookup_cons] at q;cases z:x == n with
         | true=>rw [z] at q;cases q
         | false =>
           rw [z] at q;rw [List.map_cons];dsimp only;by_cases w:(k == NameKind.free && X.env.scope.kind == .function && X.env.kindOf n == some .cell)=true
           . rw [if_pos w,List.lookup_cons,z];exact ih q
           . rw [if_neg w,List.lookup_cons,z];exact ih q
     rw [this] at h;rcases h with h|h <;> cases h
   | some k =>
     have r:(relabel scope X.env).names.lookup x=some _:=qy (env:=X.env) q;cases k with
     | free=>exact C3 (.inr (PySem.mem_of_lookup q))
     | cell=>exact absurd rfl (hc _ (PySem.mem_of_lookup q))
     | _ =>
       rw [r] at h;simp at h
 . have hi:i<js.length:=by
     have:=(List.getElem?_eq_some_iff.mp h).1;omega
   obtain ⟨y,j,e1,e2,e3,e4⟩:=hU i hi;rw [h] at e1;cases e1;have fc:=free_cell x e4;refine ⟨j,e2,e3,fc,?_⟩;have r:(relabel scope X.env).names.lookup x=some _:=qy (env:=X.env) e4;rw [r];have:X.env.kindOf x=some .cell:=fc;rw [this,hX]
   rfl
end L2
set_option Elab.async false
set_option linter.all false
set_option maxRecDepth 100000
namespace L2
open PySem PySem.Spec PyProof.Rows
theorem Mu:∀ {ns:List Int} {us:List Value},Vals (ns.map V.int) us->IntsAre us ns
 | [],_,h=>by cases h;exact .nil
 | n::ns,_,h=>by
   cases h with
   | cons r t =>
     obtain ⟨k,rfl⟩:=(show ∃ t,_=Value.int n t from r);exact .cons n k (Mu t)
theorem MI:∀ {ns:List Int} {us:List Value},IntsAre us ns->Vals (ns.map V.int) us
 | _,_,.nil=>.nil
 | _,_,.cons n t r=>.cons ⟨t,rfl⟩ (MI r)
section
variable {X:Cx}
theorem Lk:kY X (.builtin "sorted") (fun xs H Q=>∃ (p:Addr) (ns:List Int),xs=[.ref p]/\SqL X.K H p (ns.map V.int)/\ns.length<64/\∀ (l:Addr) (zs:List Int),H l=none->zs.Perm ns->zs.Pairwise (·<=·)->Q (.ref l) (upd H l (.lst (zs.map V.int)))):=by
 intro pins s σ H xs us Q I r h;obtain ⟨p,ns,rfl,hp,h64,q⟩:=h;obtain ⟨u,rfl,ru⟩:=oY r;cases ru;obtain ⟨its,rv,pl,hz⟩:=I.list hp;have hi:=Mu rv;have e1:=IntsAre.length hi;refine sorted_ints pl.isList hi (by omega) fun out zs a1 a2 a3=>?_;obtain ⟨e,he⟩:=sortedAll_at s.heap its out;have hn:H (s.heap.objs.size+1)=none:=I.hok.fresh (Nat.le_succ _);have ln:zs.length=ns.length:=a2.length_eq;refine ⟨.ref (s.heap.objs.size+1),_,I.laid (a:=s.heap.objs.size+1) (o:=.lst (zs.map V.int)) (t':=s.toks) (fun b o e=>sortedAll_old e) (Nat.le_succ _) ⟨?_,out.toList,e,MI a1,?_⟩,rfl,q _ zs hn a2 a3⟩
 . rw [List.length_map,ln];exact aE (by omega)
 . exact he
end
section
variable {K:PySem.W.Frag} {T C:Addr} {c0:Value} {dd:Option Addr} {cd:ClassData} {sl:Array (Option Value)}
end
section
variable {P:Program} {w:World} {K:PySem.W.Frag} {mg:Str->Option Value} {base:Heap}
theorem Fun.okX {x qual:Str} {st:Stmt} {f:Addr} {fd:FuncData} {N ps:List Str} {k:Nat} {sp:Sp} (F:Fun K x qual st f fd) (S:FnScope N ps (aa st)) (len:∀ vs H Q E,sp vs H Q E->vs.length=ps.length)
   (hbody:∀ (cdv:Value) (A:Around) (outer:List Env) (s:Shared) (H:Hp) (vs:List V) (Q:VK) (E:XK),Room k (A.deeper (envOfC qual (aa st) s.heap.objs.size f cdv))->sp vs H Q E ->
     ∃ t,PSs (si (CXe P w) P w K mg base N qual (aa st) f cdv A outer s H E) (aA st) t/\t { nx:=fun _ H'=>Q .non H',rt:=Q } (start N vs) H):FnOk P w K mg base (CXe P w) (k+1) f fd ps sp:=by
 obtain ⟨oc,od,kV,doc,pm,an,cdv,ct,osl,rfl,lk,hcd⟩:=F.ex;exact Ui lk hcd S len fun A outer s H vs Q E hr hsp=>hbody cdv A outer s H vs Q E hr hsp
end
theorem GB {C:Addr} {E:XK} {t:TA} {D:Ends} {σ:St} {H:Hp}:PD C E t D σ H=t σ H fun vs H1=>vs.length<=sizeLine/\E (.ref C) none H1:=rfl
theorem Ms {tb:(St->XK)->TS} {th:TH} {D:Ends} {σ:St} {H:Hp}:Xl tb th D σ H=tb (fun σ' cls od H'=>th D σ' cls od H') D σ H:=rfl
theorem JU {K:PySem.W.Frag} {C':Addr} {i:Nat} {ts:TS} {tr:TH} {D:Ends} {σ:St} {cls:Value} {od:Option Addr} {H:Hp}:Xa K C' i ts tr D σ cls od H=∃ C b,cls=.ref C/\PySem.W.mroIn K C (.ref C')=some b /\
 if b=true then ∀ ea,H ea=none->ts (D.less i) (σ.set i (some (.ref ea))) (upd H ea (ExO ea cls od)) else tr D σ cls od H:=rfl
theorem Xr {H:Hp} {l b:Addr} {xs zs:List V} {Q:VK} (h1:H l=some (.lst xs)) (h2:H b=some (.lst zs)) (hz:xs.length+zs.length<=sizeLine) (q:∀ p,H p=none->Q (.ref p) (upd H p (.lst (xs++zs)))):rCat (.ref l) (.ref b) H Q:=⟨l,b,xs,zs,rfl,rfl,h1,h2,hz,q⟩
theorem Same.put {H H':Hp} {l:Addr} (e:Same H H') (n:H l=none) (o:HO):Same H (upd H' l o):=fun b u h=>by rw [ao (aG h n)];exact e b u h
end L2
set_option Elab.async false
set_option linter.all false
set_option maxRecDepth 100000
namespace L2
open PySem PySem.Spec PyProof.Rows
theorem Q1 {M:Model} {A:Around} {E:Value->Shared->Prop} {s:Shared} {env:Env} {x:Str} {px:Pos} {v:Value} {Q:Unit->Shared->Prop} (h:wpAny M A (storeName env x v) Q E s):wpAny M A (assign (.Name x px) env v) Q E s:=by
 show wpAny M A (do standAt px;bindName env x v) Q E s;exact wpAny_bind (wpAny_standAt (wpAny_bindName h))
section
variable {X:Cx} {Nc:List Str} {own:Nat} {js:List Nat} {scope:Scope} {cl:List (Str × Addr)}
theorem tz {i:Nat} {x:Str} {px pos:Pos} {elt target iter:Expr} {ifs:List Expr} {cpos:Pos} {wi:TI} {g:TG} {tc:TT} {te:TE} (hN:X.N.Nodup) (hxi:X.N[i]?=some x) (hxl:X.env.scope.names.lookup x=some .local) (hc:X.calm=true) (T:CompTxt X Nc own js scope cl)
   (hi:PI X target iter wi) (hg:∀ C s₂ H₁ fp,PG (X.comp Nc scope cl C s₂ H₁ fp) target g) (ht:∀ C s₂ H₁ fp,PTs (X.comp Nc scope cl C s₂ H₁ fp) ifs tc)
   (he:∀ C s₂ H₁ fp,PE (X.comp Nc scope cl C s₂ H₁ fp) elt te) (hs:∀ x,foldedSetIterable iter X.env x=pure x:=by intro _;rfl)
   (hsw:swapsWith (.ListComp elt [⟨target,iter,ifs,0⟩] scope cpos) (some (.Name x px)) pos.line X.env=pure true:=by rfl) :
   PS X (.Assign [.Name x px] (.ListComp elt [⟨target,iter,ifs,0⟩] scope cpos) pos) (JS (NC own js wi g tc te) (yD i)):=by
 intro pins s σ H D I h;rw [exec_Assign_Name_used _ _ _ _ hsw];refine wpAny_bind (wpAny_standAt (wpAny_bind ?_));rw [arm_evalThenUse_ListComp];refine wpAny_bind ?_;refine wpAny_comprehension_free (use:=some (assign (.Name x px) X.env)) rfl hs T.clos T.kind T.names (thn (hi pins s σ H _ I h) fun v s1 h1=>thn h1 fun itv s2 h2=>?_);obtain ⟨it,fp,tn,J,H1,rfl,I1,Tn,st,f1,R⟩:=h2;have hfp:∀ b∈fp,b<s2.heap.objs.size:=fun b hb=>let ⟨o,e,_⟩:=Tn.obj _ _ st b hb;Heap.lt_size e;refine wpAny_newObj_type (wpAny_newFunctionEnv T.nocell (by intro y hy;simp at hy) (fun h₁ hns₁ hsb₁=>?_) T.kind);dsimp only at hns₁ hsb₁ ⊢;generalize hH2:s2.heap.push { cls:=.type "list",dict:=none,data:=.seq ([]:List Value).toArray }=H2 at hns₁ hsb₁ ⊢;have hC:H2.objs.size=s2.heap.objs.size+1:=by rw [<- hH2,Heap.size_push]
 have hDC:s2.heap.objs.size≠H2.objs.size:=by rw [hC];exact Nat.ne_of_lt (Nat.lt_succ_self _)
 have hCle:s2.heap.objs.size<=H2.objs.size:=by rw [hC];exact Nat.le_succ _
 have below:∀ b,b<s2.heap.objs.size->b≠H2.objs.size:=fun b hb=>by rw [hC];exact Nat.ne_of_lt (Nat.lt_succ_of_lt hb)
 have old:∀ b o,s2.heap.get? b=some o->h₁.get? b=some o:=fun b o e=>hsb₁.extBut b o (below b (Heap.lt_size e)) (Heap.get?_push_of_some _ (hH2 ▸ Heap.get?_push_of_some _ e));have hacc:∃ n,h₁.get? s2.heap.objs.size=some { cls:=.type "list",data:=.seq ([]:List Value).toArray n }:=⟨_,hsb₁.extBut _ _ hDC (Heap.get?_push_of_some _ (hH2 ▸ Heap.get?_push_size _ rfl))⟩;have st₁:tn 0 h₁:=Tn.keep _ _ _ st fun b _ o e=>old b o e;obtain ⟨W,⟨m0,w0⟩,turn⟩:=R s2.heap.objs.size I1.fresh;have Ic:=IP (t:=s2.toks+([]:List (Str × Value)).length) T I1 hCle (Nat.le_refl _) hDC f1 hfp old hns₁ hacc;generalize hXc:X.comp Nc scope cl H2.objs.size s2 H1 fp=Xc at Ic;have stat:∀ {H':Hp},(∀ b∈fp,H' b=none)->∀ b∈fp,m9 Xc [] H' b:=fun {H'} hn b hb=>by
   subst hXc;exact ⟨hn b hb,below b (hfp b hb),(FM T I1 hCle f1 hfp).exfs b hb,.inl hb,fun x c e=>(f1 b hb).2.2.2.2.1 x c (T.cells x c e),fun p hp=>by cases hp⟩
 have fr0:∀ b∈fp,upd H1 s2.heap.objs.size (.lst []) b=none:=fun b hb=>by
   rw [ao (Nat.ne_of_lt (hfp b hb))];exact (f1 b hb).1
 have calmc:Xc.calm=true:=by subst hXc;exact hc
 have loop:∀ s₃:Shared,s₃={ s2 with heap:=h₁,toks:=s2.toks+([]:List (Str × Value)).length } ->
     codeAny (model X.prog X.w) X.A (.compLoop (.ListComp elt [⟨target,iter,ifs,0⟩] scope cpos) 0 (.ref it) (.ref s2.heap.objs.size) (compEnvC scope cl H2.objs.size X.env))
       (compPost (model X.prog X.w) X.A X.xe (some (assign (.Name x px) X.env)) (fun _ s'=>wpAny (model X.prog X.w) X.A (pure ()) (fun _ s''=>wpAny (model X.prog X.w) X.A (pure Flow.next) (SP X pins D) X.xe s'') X.xe s') (.ref s2.heap.objs.size) H2.objs.size) s₃:=by
   rintro s₃ rfl;refine Cw (fun n s'=>∃ i ys σ' H',Inv Xc [] σ' H' s'/\tn i s'.heap/\(∀ b∈fp,H' b=none)/\W i n ys σ' H') ?_ m0 ⟨0,[],_,_,Ic,st₁,fr0,w0⟩;rintro n s3 ⟨i,ys,σ3,H3,I3,st3,fr3,w3⟩;rcases turn i n ys σ3 H3 w3 with ⟨stop,q⟩|⟨go,step⟩
   . subst hXc;refine thn (Tn.done (X.comp Nc scope cl H2.objs.size s2 H1 fp) rfl rfl rfl hc i [] s3 σ3 H3 _ I3 (stat fr3) st3 stop) fun r s4 ⟨hr,I4⟩=>?_;subst hr;obtain ⟨m4,hn4,_⟩:=id I4.loc;have J:=F8 I1 hCle f1 I4 (h':=s4.heap) (Heap.SameBut.refl _ _);have cl0:H2.objs.size≠X.env.locals:=Nat.ne_of_gt (Nat.lt_of_lt_of_le I1.lt hCle);have cy:X.s₀.heap.objs.size<=H2.objs.size:=Nat.le_trans I1.sz hCle;have cc:∀ y c,X.env.cells.lookup y=some c->c≠H2.objs.size:=fun y c e=>by
       obtain ⟨v',o',ho',_⟩:=I1.cell y c e;exact Nat.ne_of_lt (Nat.lt_of_lt_of_le (Heap.lt_size ho') hCle)
     have cp:∀ p∈X.pn++pins,p.1≠H2.objs.size:=fun p hp=>by
       obtain ⟨ho',_⟩:=I1.pin p hp;exact Nat.ne_of_lt (Nat.lt_of_lt_of_le (Heap.lt_size ho') hCle)
     refine Q1 (Gv (v:=.ref s2.heap.objs.size) J hN hxi (.inl hxl) rfl (fun s5 I5 ⟨ad,sb,had⟩=>?_) (.inr hxl));have nad:H2.objs.size≠ad:=by
       rcases had with rfl|had
       . exact cl0
       . exact (cc _ _ had).symm
     obtain ⟨oo,es,ep,e1,e2⟩:=hn4;refine ⟨m4,⟨oo,es,ep,(sb.2 _ nad).trans e1,e2⟩,fun h' hs'=>wpAny_pure (wpAny_pure ⟨_,H3,?_,q⟩)⟩;exact I5.turned (it:=H2.objs.size) (t':=s5.toks) (fun b o n e=>hs'.extBut b o n e) I4.free cl0 (.inr cy) cc cp
   . subst hXc;refine thn (Tn.item (X.comp Nc scope cl H2.objs.size s2 H1 fp) rfl rfl rfl hc i [] s3 σ3 H3 _ I3 (stat fr3) st3 go) fun r s4 ⟨u,hr,h4⟩=>?_;subst hr;refine thn h4 fun _ s5 ⟨x,H5,I5,r5,y5,st5,fr5⟩=>?_;have I5':=I5.pinned (stat fr5) (Tn.obj _ _ st5);have back:∀ {σ7:St} {H7:Hp} {s7:Shared},Inv (X.comp Nc scope cl H2.objs.size s2 H1 fp) ([]++xi fp s5.heap) σ7 H7 s7->Inv (X.comp Nc scope cl H2.objs.size s2 H1 fp) [] σ7 H7 s7/\tn (i+1) s7.heap/\∀ b∈fp,H7 b=none:=fun {σ7 H7 s7} I7=>by
       refine ⟨I7.unpinned,Tn.keep _ _ _ st5 fun b hb o e=>(I7.pin (b,o) (List.mem_append_right _ (List.mem_append_right _ (mn hb e)))).1,fun b hb=>?_⟩;obtain ⟨o,e,d⟩:=Tn.obj _ _ st5 b hb;exact (I7.pin (b,o) (List.mem_append_right _ (List.mem_append_right _ (mn hb e)))).2.1
     refine thn (hg _ _ _ _ _ s5 σ3 H5 x u _ I5' r5 (step x H5 y5)) fun _ s6 ⟨σ6,H6,I6,q6⟩=>?_;refine FL (ht _ _ _ _ _ s6 σ6 H6 _ I6 q6) fun ok s7 H7 I7 q7=>?_;cases ok with
     | false =>
       rw [if_neg Bool.false_ne_true] at q7 ⊢;obtain ⟨m',hm,w7⟩:=q7;obtain ⟨J1,J2,J3⟩:=back I7;exact ⟨m',hm,i+1,ys,σ6,H7,J1,J2,J3,w7⟩
     | true =>
       rw [if_pos rfl] at q7 ⊢;refine bS (he _ _ _ _ _ s7 σ6 H7 _ I7 q7) fun y s8 yv H8 I8 r8 ⟨hp8,hl8,m',hm,w8⟩=>?_;refine thn (ga _ s8 σ6 H8 (.ref s2.heap.objs.size) [yv] _ [y] (fun v' H'=>W (i+1) m' (ys++[yv]) σ6 H') I8 rfl (.cons r8 .nil) ⟨_,ys,yv,rfl,rfl,hp8,hl8,w8⟩) fun v9 s9 ⟨_,H9,I9,_,w9⟩=>?_;obtain ⟨J1,J2,J3⟩:=back I9;exact ⟨m',hm,i+1,ys++[yv],σ6,H9,J1,J2,J3,w9⟩
 exact codeAny_compStart_list (loop _ rfl) (Tn.self _ 0 _ _ _ st₁ (loop _ rfl))
end
end L2
set_option Elab.async false
set_option linter.all false
set_option maxRecDepth 100000
namespace L2
open PySem PySem.Spec PyProof.Rows
end L2
set_option Elab.async false
set_option linter.all false
set_option maxRecDepth 100000
namespace Pb
open L2 PySem
def front (r:Int) (par:Int->Int) (p:Int):V:=if p=r then .non else .int (par p)
def cR (m:Int) (rs:List Road) (fv:V) (p:Int):List Int:=(cN m rs p).filter fun v=>decide (V.int v≠fv)
variable {m:Int} {rs:List Road} {r:Int} {par:Int->Int} {dep:Int->Nat}
theorem Rooted.ne (R:Rooted m rs r par dep) {v:Int} (h0:0<=v) (h1:v<m) (hr:v≠r):par v≠v:=fun z=>by
 have:=(R.up v h0 h1 hr).2.2;rw [z] at this;omega
theorem nB (g:Good m rs) (R:Rooted m rs r par dep) {p v:Int} (p0:0<=p) (p1:p<m):v∈cR m rs (front r par p) p↔(0<=v/\v<m)/\v≠r/\par v=p:=by
 unfold cR;rw [List.mem_filter,yF g,decide_eq_true_eq]
 constructor
 . rintro ⟨ad,hf⟩;obtain ⟨_,hv,_⟩:=g.adj ad;refine ⟨hv,?_⟩;obtain ⟨x,hx,j⟩:=ad;have key:∀ u w:Int,(u≠r/\par u=w)\/(w≠r/\par w=u)->u=p->w=v->v≠r/\par v=p:=fun u w h e1 e2=>by
     subst e1 e2;rcases h with h|h
     . exfalso
       apply hf;unfold front;rw [if_neg h.1,h.2]
     . exact h
   rcases j with ⟨a,b⟩|⟨a,b⟩
   . exact key x.a x.b (R.road x hx) a b
   . exact key x.b x.a (R.road x hx).symm a b
 . rintro ⟨hv,hr,hp⟩;have u:=R.up v hv.1 hv.2 hr;rw [hp] at u;refine ⟨?_,fun z=>?_⟩
   . obtain ⟨x,hx,j⟩:=u.2.1;exact ⟨x,hx,j.elim (fun q=>.inr ⟨q.2,q.1⟩) (fun q=>.inl ⟨q.2,q.1⟩)⟩
   . unfold front at z;by_cases c:p=r
     . rw [if_pos c] at z;cases z
     . rw [if_neg c] at z;have e:v=par p:=(by injection z);have w:=(R.up p p0 p1 c).2.2;have w2:=u.2.2;rw [<- e] at w;omega
theorem EY {fv:V} {p:Int}:(cR m rs fv p).Nodup:=(Eo m rs p).filter _
def nl (m:Int) (par:Int->Int) (ks:List Int):List V:=(below m.toNat).map fun v=>if v∈ks then .int (par v) else .non
def qI (m r:Int) (par:Int->Int):List V:=(below m.toNat).map (front r par)
theorem rC {ks:List Int}:(nl m par ks).length=m.toNat:=by unfold nl;rw [List.length_map,bo]
theorem Aw {n i:Nat} (h:i<n):(below n)[i]?=some (i:Int):=by unfold below;rw [List.getElem?_map,List.getElem?_range h];rfl
theorem Jd {ks:List Int} {v:Int} (h0:0<=v) (h1:v<m):(nl m par ks)[v.toNat]?=some (if v∈ks then .int (par v) else .non):=by
 unfold nl;rw [List.getElem?_map,Aw (by omega)];show some (if ((v.toNat:Nat):Int)∈ks then V.int (par ((v.toNat:Nat):Int)) else V.non)=_;rw [Int.toNat_of_nonneg h0]
theorem Qc {ks:List Int} {v:Int} (h0:0<=v) (h1:v<m):(nl m par ks).set v.toNat (.int (par v))=nl m par (ks++[v]):=by
 refine List.ext_getElem? fun i=>?_;rw [List.getElem?_set];by_cases c:i<m.toNat
 . have e:∀ l:List Int,(nl m par l)[i]?=some (if (i:Int)∈l then .int (par (i:Int)) else .non):=fun l=>by
     have:=Jd (par:=par) (ks:=l) (v:=(i:Int)) (m:=m) (by omega) (by omega)
     rwa [Int.toNat_natCast] at this
   rw [e,rC];by_cases z:v.toNat=i
   . have z2:v=(i:Int):=(by omega);rw [if_pos z,if_pos (by omega),e,if_pos (by rw [z2];simp),<- z2]
   . rw [if_neg z,e];have z2:¬ ((i:Int)=v):=(by omega);simp [z2]
 . have e:∀ l:List Int,(nl m par l)[i]?=none:=fun l=>List.getElem?_eq_none (by rw [rC];omega);rw [e,e,rC];by_cases z:v.toNat=i
   . omega
   . rw [if_neg z]
structure AInv (m:Int) (rs:List Road) (r:Int) (par:Int->Int) (ks ws:List Int):Prop where
 nd:ks.Nodup
 rng:∀ k∈ks,0<=k/\k<m
 nr:r ∉ ks
 sub:∀ w∈ws,w=r\/w∈ks
 wnd:ws.Nodup
 ok:∀ v∈ks,par v ∉ ws/\(par v=r\/par v∈ks)
 dn:∀ v,0<=v->v<m->v≠r->(par v=r\/par v∈ks)->par v ∉ ws->v∈ks
theorem AInv.start:AInv m rs r par [] [r] where
 nd:=List.nodup_nil
 rng:=fun _ h=>by cases h
 nr:=fun h=>by cases h
 sub:=fun w h=>.inl (List.mem_singleton.mp h)
 wnd:=by simp
 ok:=fun _ h=>by cases h
 dn:=fun v _ _ _ h n=>by
   rcases h with h|h
   . exact absurd (by rw [h];simp) n
   . cases h
theorem AInv.at_ (J:AInv m rs r par ks ws) (r0:0<=r) (r1:r<m) {p:Int} (hp:p∈ws):0<=p/\p<m:=by
 rcases J.sub p hp with h|h
 . rw [h];exact ⟨r0,r1⟩
 . exact J.rng p h
theorem AInv.front (J:AInv m rs r par ks ws) {p:Int} (hp:p∈ws):(if p∈ks then V.int (par p) else V.non)=front r par p:=by
 unfold Pb.front;by_cases c:p=r
 . rw [if_pos c,if_neg (by rw [c];exact J.nr)]
 . rw [if_neg c,if_pos ((J.sub p hp).resolve_left c)]
theorem AInv.step (g:Good m rs) (R:Rooted m rs r par dep) (r0:0<=r) (r1:r<m) {ks ws ws':List Int} {p:Int} (J:AInv m rs r par ks ws) (e:ws.Perm (p::ws')):AInv m rs r par (ks++cR m rs (Pb.front r par p) p) (ws'++cR m rs (Pb.front r par p) p):=by
 have hp:p∈ws:=e.mem_iff.mpr List.mem_cons_self;have pr:=J.at_ r0 r1 hp;have mk:∀ v,v∈cR m rs (Pb.front r par p) p↔(0<=v/\v<m)/\v≠r/\par v=p:=fun v=>nB g R pr.1 pr.2;have nk:(cR m rs (Pb.front r par p) p).Nodup:=EY;generalize cR m rs (Pb.front r par p) p=kk at mk nk ⊢;have dis:∀ v∈kk,v ∉ ks:=fun v hv z=>(J.ok v z).1 (by rw [((mk v).mp hv).2.2];exact hp);obtain ⟨n1,n2⟩:=List.nodup_cons.mp (e.nodup_iff.mp J.wnd);have sw:∀ w∈ws',w∈ws:=fun w hw=>e.mem_iff.mpr (List.mem_cons_of_mem _ hw);refine ⟨?_,?_,?_,?_,?_,?_,?_⟩
 . rw [List.nodup_append];exact ⟨J.nd,nk,fun a ha b hb z=>dis b hb (z ▸ ha)⟩
 . intro k hk;rcases List.mem_append.mp hk with h|h
   . exact J.rng k h
   . exact ((mk k).mp h).1
 . intro z;rcases List.mem_append.mp z with h|h
   . exact J.nr h
   . exact ((mk r).mp h).2.1 rfl
 . intro w hw;rcases List.mem_append.mp hw with h|h
   . exact (J.sub w (sw w h)).imp id (List.mem_append_left _)
   . exact .inr (List.mem_append_right _ h)
 . rw [List.nodup_append];refine ⟨n2,nk,fun a ha b hb z=>?_⟩;subst z;rcases J.sub a (sw a ha) with h|h
   . exact ((mk a).mp hb).2.1 h
   . exact dis a hb h
 . intro v hv;rcases List.mem_append.mp hv with h|h
   . obtain ⟨o1,o2⟩:=J.ok v h;refine ⟨fun z=>?_,o2.imp id (List.mem_append_left _)⟩;rcases List.mem_append.mp z with z|z
     . exact o1 (sw _ z)
     . rcases o2 with o|o
       . exact ((mk _).mp z).2.1 o
       . exact dis _ z o
   . obtain ⟨q1,q2,q3⟩:=(mk v).mp h;rw [q3];refine ⟨fun z=>?_,(J.sub p hp).imp id (List.mem_append_left _)⟩;rcases List.mem_append.mp z with z|z
     . exact n1 z
     . obtain ⟨w1,w2,w3⟩:=(mk p).mp z;exact R.ne w1.1 w1.2 w2 w3
 . intro v v0 v1 vr h n;have nk2:par v ∉ kk:=fun z=>n (List.mem_append_right _ z);have h':par v=r\/par v∈ks:=h.imp id fun z=>(List.mem_append.mp z).resolve_right nk2;by_cases c:par v=p
   . exact List.mem_append_right _ ((mk v).mpr ⟨⟨v0,v1⟩,vr,c⟩)
   . refine List.mem_append_left _ (J.dn v v0 v1 vr h' fun z=>?_);rcases List.mem_cons.mp (e.mem_iff.mp z) with z|z
     . exact c z
     . exact n (List.mem_append_left _ z)
theorem AInv.perm {ks ws ws2:List Int} (J:AInv m rs r par ks ws) (e:ws.Perm ws2):AInv m rs r par ks ws2 where
 nd:=J.nd
 rng:=J.rng
 nr:=J.nr
 sub:=fun w h=>J.sub w (e.mem_iff.mpr h)
 wnd:=e.nodup_iff.mp J.wnd
 ok:=fun v h=>⟨fun z=>(J.ok v h).1 (e.mem_iff.mpr z),(J.ok v h).2⟩
 dn:=fun v h0 h1 hr h n=>J.dn v h0 h1 hr h fun z=>n (e.mem_iff.mp z)
theorem AInv.all (R:Rooted m rs r par dep) {ks:List Int} (J:AInv m rs r par ks []):∀ v,0<=v->v<m->v≠r->v∈ks:=by
 have key:∀ n v,dep v=n->0<=v->v<m->v≠r->v∈ks:=by
   intro n
   induction n with
   | zero =>
     intro v e v0 v1 vr;have:=(R.up v v0 v1 vr).2.2;omega
   | succ n ih =>
     intro v e v0 v1 vr;have u:=R.up v v0 v1 vr;refine J.dn v v0 v1 vr ?_ (by simp);by_cases c:par v=r
     . exact .inl c
     . exact .inr (ih (par v) (by omega) u.1.1 u.1.2 c)
 exact fun v=>key _ v rfl
theorem AInv.done (R:Rooted m rs r par dep) {ks:List Int} (J:AInv m rs r par ks []):nl m par ks=qI m r par:=by
 unfold nl qI;refine List.map_congr_left fun v hv=>?_;have hv':0<=v/\v<m:=by
   unfold below at hv;obtain ⟨k,hk,rfl⟩:=List.mem_map.mp hv;have:=List.mem_range.mp hk;omega
 unfold Pb.front;by_cases c:v=r
 . rw [if_pos c,if_neg (by rw [c];exact J.nr)]
 . rw [if_neg c,if_pos (J.all R v hv'.1 hv'.2 c)]
theorem yf (n:Nat) (v:V):(List.replicate n [v]).flatten=List.replicate n v:=by
 induction n with
 | zero=>rfl
 | succ n ih=>rw [List.replicate_succ,List.flatten_cons,ih,List.replicate_succ];rfl
theorem P7:nl m par []=List.replicate m.toNat V.non:=by
 unfold nl;refine List.ext_getElem? fun i=>?_;by_cases c:i<m.toNat
 . rw [List.getElem?_map,Aw c,List.getElem?_replicate,if_pos c];simp
 . rw [List.getElem?_eq_none (by rw [List.length_map,bo];omega),List.getElem?_eq_none (by rw [List.length_replicate];omega)]
def qV (par:Int->Int):Nat->Int->List Int
 | 0,v=>[v]
 | n+1,v=>v::qV par n (par v)
theorem Rooted.pos (R:Rooted m rs r par dep) {v:Int} (h0:0<=v) (h1:v<m) (hr:v≠r):dep v=dep (par v)+1:=(R.up v h0 h1 hr).2.2.symm
theorem EW (R:Rooted m rs r par dep):∀ (n:Nat) (v:Int),dep v=n->0<=v->v<m->(qV par n v).Nodup/\(∀ x∈qV par n v,(0<=x/\x<m)/\dep x<=n)/\(qV par n v).length=n+1
 | 0,v,e,h0,h1=>⟨by unfold qV;simp,fun x hx=>by
     unfold qV at hx;rw [List.mem_singleton.mp hx];exact ⟨⟨h0,h1⟩,by omega⟩,rfl⟩
 | n+1,v,e,h0,h1=>by
   have hr:v≠r:=fun z=>by rw [z,R.root] at e;omega
   have u:=R.up v h0 h1 hr;obtain ⟨i1,i2,i3⟩:=EW R n (par v) (by omega) u.1.1 u.1.2;unfold qV;refine ⟨List.nodup_cons.mpr ⟨fun z=>?_,i1⟩,fun x hx=>?_,by rw [List.length_cons,i3]⟩
   . have:=(i2 v z).2;omega
   . rcases List.mem_cons.mp hx with rfl|hx
     . exact ⟨⟨h0,h1⟩,by omega⟩
     . exact ⟨(i2 x hx).1,by have:=(i2 x hx).2;omega⟩
theorem Bw (R:Rooted m rs r par dep) {v:Int} (h0:0<=v) (h1:v<m):dep v+1<=m.toNat:=by
 obtain ⟨i1,i2,i3⟩:=EW R _ v rfl h0 h1;have:=dw (m:=m) (by omega) i1 fun x hx=>(i2 x hx).1;omega
theorem C2 {v:Int} (h0:0<=v) (h1:v<m):(qI m r par)[v.toNat]?=some (front r par v):=by
 unfold qI;rw [List.getElem?_map,Aw (by omega)];show some (front r par ((v.toNat:Nat):Int))=_;rw [Int.toNat_of_nonneg h0]
def sL (m:Int) (rs:List Road) (r:Int) (par:Int->Int):Nat->Int->List Int
 | 0,v=>[v]
 | n+1,v=>v::(cR m rs (front r par v) v).flatMap (sL m rs r par n)
def nV (m:Int) (rs:List Road) (r:Int) (par:Int->Int) (dep:Int->Nat) (v:Int):List Int:=sL m rs r par (m.toNat - 1 - dep v) v
theorem xt {f h:Int->List Int}:∀ {l:List Int},(∀ x∈l,f x=h x)->l.flatMap f=l.flatMap h
 | [],_=>rfl
 | a::l,e=>by rw [List.flatMap_cons,List.flatMap_cons,e a List.mem_cons_self,xt fun x hx=>e x (List.mem_cons_of_mem _ hx)]
theorem F9 (g:Good m rs) (R:Rooted m rs r par dep) {v:Int} (h0:0<=v) (h1:v<m):nV m rs r par dep v=v::(cR m rs (front r par v) v).flatMap (nV m rs r par dep):=by
 have mk:∀ u,u∈cR m rs (front r par v) v->(0<=u/\u<m)/\u≠r/\par u=v:=fun u=>(nB g R h0 h1).mp;have du:∀ u∈cR m rs (front r par v) v,dep u=dep v+1/\dep u+1<=m.toNat:=fun u hu=>by
   obtain ⟨w1,w2,w3⟩:=mk u hu;have:=R.pos w1.1 w1.2 w2;rw [w3] at this;exact ⟨this,Bw R w1.1 w1.2⟩
 unfold nV;cases e:m.toNat - 1 - dep v with
 | zero =>
   have:cR m rs (front r par v) v=[]:=List.eq_nil_iff_forall_not_mem.mpr fun u hu=>by
     have:=du u hu;omega
   rw [this]
   rfl
 | succ n =>
   show v::(cR m rs (front r par v) v).flatMap (sL m rs r par n)=_;rw [xt fun u hu=>show sL m rs r par n u=sL m rs r par (m.toNat - 1 - dep u) u by rw [show m.toNat - 1 - dep u=n by have:=du u hu;omega]]
def up (par:Int->Int):Nat->Int->Int
 | 0,x=>x
 | k+1,x=>par (up par k x)
theorem EE {f:Int->List Int}:∀ {l:List Int},l.Nodup->(∀ u∈l,(f u).Nodup)->(∀ u∈l,∀ w∈l,∀ x,x∈f u->x∈f w->u=w)->(l.flatMap f).Nodup
 | [],_,_,_=>by simp
 | a::l,n,h1,h2=>by
   obtain ⟨n1,n2⟩:=List.nodup_cons.mp n;rw [List.flatMap_cons,List.nodup_append];refine ⟨h1 a List.mem_cons_self,EE n2 (fun u hu=>h1 u (List.mem_cons_of_mem _ hu)) (fun u hu w hw=>h2 u (List.mem_cons_of_mem _ hu) w (List.mem_cons_of_mem _ hw)),fun x hx y hy z=>?_⟩;subst z;obtain ⟨w,hw,hxw⟩:=List.mem_flatMap.mp hy;have:=h2 a List.mem_cons_self w (List.mem_cons_of_mem _ hw) x hx hxw;exact n1 (this ▸ hw)
theorem MC (g:Good m rs) (R:Rooted m rs r par dep):∀ (n:Nat) (v:Int),0<=v->v<m->(sL m rs r par n v).Nodup/\∀ x∈sL m rs r par n v,(0<=x/\x<m)/\∃ k,dep x=dep v+k/\up par k x=v
 | 0,v,h0,h1=>⟨by unfold sL;simp,fun x hx=>by
     unfold sL at hx;rw [List.mem_singleton.mp hx];exact ⟨⟨h0,h1⟩,0,rfl,rfl⟩⟩
 | n+1,v,h0,h1=>by
   have mk:∀ u,u∈cR m rs (front r par v) v->(0<=u/\u<m)/\u≠r/\par u=v:=fun u=>(nB g R h0 h1).mp;have nk:(cR m rs (front r par v) v).Nodup:=EY;have ih:=fun u hu=>MC g R n u (mk u hu).1.1 (mk u hu).1.2;have du:∀ u∈cR m rs (front r par v) v,dep u=dep v+1:=fun u hu=>by
     obtain ⟨w1,w2,w3⟩:=mk u hu;have:=R.pos w1.1 w1.2 w2;rw [w3] at this;exact this
   unfold sL;refine ⟨List.nodup_cons.mpr ⟨fun z=>?_,EE nk (fun u hu=>(ih u hu).1) fun u hu w hw x hx hy=>?_⟩,fun x hx=>?_⟩
   . obtain ⟨u,hu,hv⟩:=List.mem_flatMap.mp z;obtain ⟨_,k,e,_⟩:=(ih u hu).2 v hv;have:=du u hu;omega
   . obtain ⟨_,k1,e1,f1⟩:=(ih u hu).2 x hx;obtain ⟨_,k2,e2,f2⟩:=(ih w hw).2 x hy;have d1:=du u hu;have d2:=du w hw;have:k1=k2:=(by omega);rw [<- f1,<- f2,this]
   . rcases List.mem_cons.mp hx with rfl|hx
     . exact ⟨⟨h0,h1⟩,0,rfl,rfl⟩
     . obtain ⟨u,hu,hv⟩:=List.mem_flatMap.mp hx;obtain ⟨xr,k,e,f⟩:=(ih u hu).2 x hv;exact ⟨xr,k+1,by rw [e,du u hu];omega,by show par (up par k x)=v;rw [f];exact (mk u hu).2.2⟩
theorem Ti (g:Good m rs) (R:Rooted m rs r par dep) {v:Int} (h0:0<=v) (h1:v<m):(nV m rs r par dep v).length<=24:=by
 obtain ⟨n1,n2⟩:=MC g R (m.toNat - 1 - dep v) v h0 h1;have:=dw (m:=m) (by omega) n1 fun x hx=>(n2 x hx).1;have:=g.m24;unfold nV;omega
end Pb
set_option Elab.async false
set_option linter.all false
set_option maxRecDepth 100000
namespace L2
open PySem PySem.Spec PyProof.Rows
def Itv (K:PySem.W.Frag) (a:Addr) (n:Nat):It :=
 ⟨fun i H=>i<n/\∃ xs x,SqL K H a xs/\xs[n - 1 - i]?=some x,fun i H x H'=>H'=H/\∀ xs,SqL K H a xs->xs[n - 1 - i]?=some x,fun i H=>n<=i⟩
theorem Rp {P:Program} {w:World} {K:PySem.W.Frag} {tg:Expr} (a it:Addr) (n:Nat):Turn P w K tg (Itv K a n) [it] it (fun i h=>i<=n/\h.IsRevIter it a ((n:Int) - 1 - (i:Int))) where
 mem:=by simp
 obj:=fun i h st b hb=>by
   have e:b=it:=by simpa using hb
   subst e;obtain ⟨_,o,e,c,d⟩:=st;exact ⟨o,e,fun v z=>by rw [d] at z;cases z⟩
 keep:=fun i h h' st k=>⟨st.1,st.2.at fun o e=>k it (by simp) o e⟩
 item:=by
   intro X hP hw hK hc i pins s σ H E I hf st hg;subst hP hw hK;obtain ⟨hi,xs,x,hq,hx⟩:=hg;obtain ⟨its,rv,p,hz⟩:=I.list hq;obtain ⟨u,hu,ru⟩:=rv.get hx;obtain ⟨f0,f1,f2,f3,f4,f5⟩:=hf it (by simp);have e0:(n:Int) - 1 - (i:Int)=((n - 1 - i:Nat):Int):=by omega
   have st2:=st.2;rw [e0] at st2;refine wpAny_pyNext_rev_item st2 p.isList (x:=u) (by simpa using hu) fun h' st' sb=>?_;have I1:Inv X pins σ H { s with heap:=h' }:=I.turned (t':=s.toks) (fun b o hb e=>(sb.2 b hb).trans e) f0 f1 f3 f4 f5;obtain ⟨o,e,c,d⟩:=id st';have e1:((n - 1 - i:Nat):Int) - 1=(n:Int) - 1 - ((i+1:Nat):Int):=by omega
   rw [e1] at st';exact ⟨u,rfl,Ih (s:={ s with heap:=h' }) e c d (by decide) ⟨x,H,I1,ru,⟨rfl,fun ys hy=>by rw [I.list_inj hy hq];exact hx⟩,⟨hi,st'⟩,fun b hb=>(hf b hb).1⟩⟩
 done:=by
   intro X hP hw hK hc i pins s σ H E I hf st hg;subst hP hw hK;have hg':n<=i:=hg;obtain ⟨f0,f1,f2,f3,f4,f5⟩:=hf it (by simp);have st2:=st.2;have st1:=st.1;rw [show (n:Int) - 1 - (i:Int)=-1 by omega] at st2;exact wpAny_pyNext_rev_end (I.ok.hd hc) st2 fun h' eb=>⟨rfl,I.turned (t':=s.toks) (fun b o hb e=>eb b o hb e) f0 f1 f3 f4 f5⟩
 self:=fun _ _ _ _ _ st h=>wpAny_pyIter_revIter st.2 h
def SR (K:PySem.W.Frag) (tl:TE):TI:=fun σ H R=>tl σ H fun x H1=>∃ a xs,x=.ref a/\SqL K H1 a xs/\R (Itv K a xs.length) H1
section
variable {X:Cx} {tg e:Expr} {te:TE} {p2 pos:Pos}
theorem DV (hg:Gl X "reversed") (hm:X.mg "reversed"=none) (he:PE X e te) (h2:starEach [e] X.env=[(false,eval e X.env)]:=by rfl):PI X tg (.Call (.Name "reversed" p2) [e] [] pos) (SR X.K te):=by
 intro pins s σ H R I h;refine Call_ (tV I hg hm boot_reversed (PyProof.Rows.callWith_type1 ?_ h2 rfl));rw [h2];show wpAny _ _ (spliced ((false,eval e X.env)::backTo pos [])) _ _ s;refine Calls.spliced_cons (bS (he pins s σ H _ I h) fun u s1 x H1 I1 r1 q1=>Calls.spliced_nil ?_);obtain ⟨a,ys,ex,sa,q⟩:=q1;subst ex;cases r1;obtain ⟨its,rv,pl,hz⟩:=I1.list sa;refine call_reversed_list pl.isList ?_;have sz:its.toArray.size=ys.length:=by rw [List.size_toArray,rv.length]
 rw [sz];refine wpAny_pyIter_revIter (i:=(ys.length:Int) - 1) (l:=a) ⟨_,Heap.get?_push_size _ rfl,rfl,rfl⟩ ?_;refine ⟨s1.heap.objs.size,[s1.heap.objs.size],_,_,H1,rfl,I1.kept (t':=s1.toks) fun b o e=>Heap.get?_push_of_some _ e,Rp a _ ys.length,⟨Nat.zero_le _,?_⟩,fun b hb=>?_,q⟩
 . exact ⟨_,Heap.get?_push_size _ rfl,rfl,by simp [revObj]⟩
 . have e:b=s1.heap.objs.size:=by simpa using hb
   subst e;exact I1.fpOk (Nat.le_refl _) (I1.hok.fresh (Nat.le_refl _))
end
theorem DK {K:PySem.W.Frag} {a:Addr} {xs:List V} {g:TG} {tb:TS} {D:Ends} {σ:St} {H:Hp} (Pv:Nat->St->Hp->Prop) (h0:Pv 0 σ H) (hl:∀ i σ H,i<=xs.length->Pv i σ H->SqL K H a xs)
   (hs:∀ (i:Nat) (x:V) (σ:St) (H:Hp) (N:St->Hp->Prop),(∀ σ' H',Pv (i+1) σ' H'->N σ' H')->xs.reverse[i]?=some x->Pv i σ H->g x σ H fun σ2 H2=>tb { D with nx:=N,ct:=N,bk:=D.nx } σ2 H2) (hd:∀ σ H,Pv xs.length σ H->D.nx σ H) :
   ph (Itv K a xs.length) D g tb σ H:=by
 refine ⟨fun i m σ H=>m=xs.length - i/\i<=xs.length/\Pv i σ H,⟨xs.length,by simp,Nat.zero_le _,h0⟩,?_⟩;rintro i m σ H ⟨rfl,hi,p⟩;have q:=hl i σ H hi p;by_cases hlt:i<xs.length
 . have hx:xs[xs.length - 1 - i]?=some xs[xs.length - 1 - i]:=List.getElem?_eq_getElem (by omega);refine .inr ⟨⟨hlt,xs,_,q,hx⟩,fun σ' H'=>∃ m',m'<xs.length - i/\(m'=xs.length - (i+1)/\i+1<=xs.length/\Pv (i+1) σ' H'),fun σ' H' z=>z,fun x H' y=>?_⟩;obtain ⟨e,y⟩:=y;subst e;exact hs i x σ _ _ (fun σ' H' p'=>⟨xs.length - (i+1),by omega,rfl,hlt,p'⟩) (by rw [List.getElem?_reverse hlt];exact y xs q) p
 . have e:i=xs.length:=by omega
   subst e;exact .inl ⟨Nat.le_refl _,hd σ H p⟩
end L2
set_option Elab.async false
set_option linter.all false
set_option maxRecDepth 100000
namespace L2
open PySem PySem.Spec PyProof.Rows
def Ql (te:TE):TE:=fun σ H Q=>te σ H fun x H1=>∃ i,x=.int i/\0<=i/\i<=100000/\∀ l,H1 l=none->Q (.ref l) (upd H1 l (.lst ((Pb.below i.toNat).map V.int)))
section
variable {X:Cx} {e:Expr} {te:TE} {p1 p2 pos pos2:Pos}
end
end L2
set_option Elab.async false
set_option linter.all false
set_option maxRecDepth 100000
namespace L2
open PySem PySem.Spec PyProof.Rows PySem.W
section
variable {X:Cx}
end
end L2
set_option Elab.async false
set_option linter.all false
set_option maxRecDepth 100000
namespace L2
open PySem PySem.Spec PyProof.Rows
theorem WB:bootBuiltins "sum"=some (.builtin "sum"):=by decide +kernel
theorem Cy (ns:List Int):∀ n,n<=ns.length->preSum (fun i=>ns.getD i 0) n=(ns.take n).sum
 | 0,_=>by simp [preSum]
 | n+1,h=>by
   have ih:=Cy ns n (by omega);have hn:n<ns.length:=by omega
   rw [List.take_succ,List.getElem?_eq_getElem hn,List.sum_append,<- ih];simp [preSum,List.getD,hn]
section
variable {X:Cx}
theorem RQ (hc:X.calm=true):kY X (.builtin "sum") (fun xs H Q=>∃ (p:Addr) (ns:List Int),xs=[.ref p]/\(SqL X.K H p (ns.map V.int)\/SqT X.K H p (ns.map V.int))/\Q (.int ns.sum) H):=by
 intro pins s σ H xs us Q I r h;obtain ⟨p,ns,rfl,hp,q⟩:=h;obtain ⟨u,rfl,ru⟩:=oY r;cases ru;have hh:X.A.in1.handled=none:=I.ok.hd hc;have vals:∀ {its:List Value},Vals (ns.map V.int) its->its.length=ns.length/\∀ (i:Nat) (v:Value),its.toArray[i]?=some v->∃ t,v=Value.int (ns.getD i 0) t:=by
   intro its rv;have hlen:its.length=ns.length:=by rw [<- rv.length,List.length_map]
   refine ⟨hlen,fun i v hP=>?_⟩;have hi:its[i]?=some v:=by simpa using hP
   have hib:i<ns.length:=by rw [<- hlen];exact (List.getElem?_eq_some_iff.mp hi).1
   obtain ⟨u,hu,ru⟩:=rv.get (i:=i) (x:=V.int ns[i]) (by rw [List.getElem?_map,List.getElem?_eq_getElem hib];rfl);rw [hi] at hu;cases hu;obtain ⟨t,e⟩:=(show ∃ t,v=Value.int ns[i] t from ru);exact ⟨t,by rw [e];simp [List.getD,hib]⟩
 have fin:∀ {n:Nat},n=ns.length->preSum (fun i=>ns.getD i 0) n=ns.sum:=fun {n} e=>by rw [Cy ns n (by omega),List.take_of_length_le (by omega)]
 rcases hp with hp|hp
 . obtain ⟨its,rv,pl,hz⟩:=I.list hp;obtain ⟨hlen,hv⟩:=vals rv;have hl:=pl.isList;have hlt:=pl.lt;refine call_sum_walkG (wpAny_pyIter_list hl ?_);refine ⟨s.heap.objs.size,[s.heap.objs.size,p],[s.heap.objs.size],its.toArray.size,_,_,fun i=>ns.getD i 0,rfl,Walks.list (A:=X.A.in1) hh _ p (Nat.ne_of_lt hlt) its.toArray,
     ⟨⟨_,Heap.get?_push_size _ rfl,rfl,rfl⟩,hl.push _⟩,fun b hb=>?_,fun i v hP=>hv i v hP,fun h' tk t' hk=>?_⟩
   . simp only [Heap.push,Array.size_push];rcases List.mem_cons.mp hb with e|e
     . rw [e];exact Nat.lt_succ_self _
     . rw [List.mem_singleton.mp e];exact Nat.lt_succ_of_lt hlt
   . have kk:∀ b o,s.heap.get? b=some o->h'.get? b=some o:=fun b o eb=>hk b o (fun hm=>by rw [List.mem_singleton.mp hm] at eb;exact Nat.lt_irrefl _ (Heap.lt_size eb)) (Heap.get?_push_of_some _ eb);rw [fin (by rw [List.size_toArray,hlen])];exact ⟨.int _,H,I.kept (t':=tk) kk,⟨t',rfl⟩,q⟩
 . obtain ⟨its,rv,pl,hz⟩:=I.tuple hp;obtain ⟨hlen,hv⟩:=vals rv;have hl:s.heap.IsTuple p its.toArray:=pl;have hlt:p<s.heap.objs.size:=by
     obtain ⟨o,e,_⟩:=id hl;exact Heap.lt_size e
   refine call_sum_walkG (wpAny_pyIter_tuple hl ?_);refine ⟨s.heap.objs.size,[s.heap.objs.size,p],[s.heap.objs.size],its.toArray.size,_,_,fun i=>ns.getD i 0,rfl,Walks.tuple (A:=X.A.in1) hh _ p (Nat.ne_of_lt hlt) its.toArray,
     ⟨⟨_,Heap.get?_push_size _ rfl,rfl,rfl⟩,hl.push _⟩,fun b hb=>?_,fun i v hP=>hv i v hP,fun h' tk t' hk=>?_⟩
   . simp only [Heap.push,Array.size_push];rcases List.mem_cons.mp hb with e|e
     . rw [e];exact Nat.lt_succ_self _
     . rw [List.mem_singleton.mp e];exact Nat.lt_succ_of_lt hlt
   . have kk:∀ b o,s.heap.get? b=some o->h'.get? b=some o:=fun b o eb=>hk b o (fun hm=>by rw [List.mem_singleton.mp hm] at eb;exact Nat.lt_irrefl _ (Heap.lt_size eb)) (Heap.get?_push_of_some _ eb);rw [fin (by rw [List.size_toArray,hlen])];exact ⟨.int _,H,I.kept (t':=tk) kk,⟨t',rfl⟩,q⟩
end
theorem Vc {X:Cx} (K:PySem.W.Frag) (hK:X.K=K) {es:List Expr} {k:Nat} {pos:Pos} {t:TGs} {n:Nat} (hc:X.calm=true) (h:PGs X es t)
   (hn:(assignEach es X.env).length=n:=by rfl) (hst:(assignEach es X.env).findIdx? (·.1)=none:=by rfl):PG X (.Tuple es k pos) (Kj K n t):=by
 subst hK;exact kr hc h hn hst
theorem Rc {K:PySem.W.Frag} {c d:Bool} {a b p:Addr} {xs zs:List V} {Q:VK} {g:TG} {tc:TT} {te:TE} {σ0:St} {H0:Hp} (Pv:Nat->List V->St->Hp->Prop) (h0:Pv 0 [] σ0 H0) (hl:∀ i ys σ H,Pv i ys σ H->SqX K c H a xs/\SqX K d H b zs)
   (hs:∀ (i:Nat) (x z:V) (ys:List V) (σ:St) (H:Hp) (q:Addr) (N:List V->St->Hp->Prop),(∀ ys' σ' H',Pv (i+1) ys' σ' H'->N ys' σ' H')->xs[i]?=some x->zs[i]?=some z->Pv i ys σ H->H q=none->g (.ref q) σ (upd H q (.tup [x,z])) fun σ2 H2=>tc σ2 H2 fun b H3 =>
     if b=true then te σ2 H3 fun y H4=>H4 p=some (.lst ys)/\ys.length<sizeLine/\N (ys++[y]) σ2 (upd H4 p (.lst (ys++[y]))) else N ys σ2 H3)
   (hd:∀ ys σ H,Pv (min xs.length zs.length) ys σ H->Q (.ref p) H):Bj (Itz K c d a b) p Q g tc te σ0 H0:=by
 refine ⟨fun i m ys σ H=>m=min xs.length zs.length - i/\i<=min xs.length zs.length/\Pv i ys σ H,⟨_,rfl,Nat.zero_le _,h0⟩,?_⟩;rintro i m ys σ H ⟨rfl,hi,pv⟩;obtain ⟨q1,q2⟩:=hl i ys σ H pv;by_cases hlt:i<min xs.length zs.length
 . refine .inr ⟨⟨xs,zs,xs[i]'(by omega),zs[i]'(by omega),q1,q2,List.getElem?_eq_getElem (by omega),List.getElem?_eq_getElem (by omega)⟩,fun x H' y=>?_⟩;obtain ⟨p',x',y',hp,rfl,rfl,e1,e2⟩:=y;exact hs i x' y' ys σ H p' (fun ys' σ' H'=>∃ m',m'<min xs.length zs.length - i/\(m'=min xs.length zs.length - (i+1)/\i+1<=min xs.length zs.length/\Pv (i+1) ys' σ' H')) (fun ys' σ' H' pv'=>⟨min xs.length zs.length - (i+1),by omega,rfl,hlt,pv'⟩) (e1 xs q1) (e2 zs q2) pv hp
 . have e:i=min xs.length zs.length:=by omega
   subst e;exact .inl ⟨⟨xs,zs,q1,q2,by omega⟩,hd ys σ H pv⟩
theorem Wt {H:Hp} {l:Addr} {xs:List V} {i:Int} {v:V} {Q:Hp->Prop} (h:H l=some (.lst xs)) (i0:0<=i) (i1:i<xs.length) (q:Q (upd H l (.lst (xs.set i.toNat v)))):rSetL (.ref l) (.int i) v H Q :=
 ⟨l,xs,i,i.toNat,rfl,rfl,h,by unfold ixN;rw [if_pos i0,if_pos (by omega)],q⟩
theorem atG {xs:List Int} {i:Int} (i0:0<=i) (i1:i<xs.length):atI (xs.map V.int) i=some (.int (xs.getD i.toNat 0)):=iW i0 (by
 have h:i.toNat<xs.length:=by omega
 rw [List.getElem?_map,List.getElem?_eq_getElem h];simp [List.getD,h])
theorem Ul (n:Nat) (v:V):(List.replicate n [v]).flatten=List.replicate n v:=by
 induction n with
 | zero=>rfl
 | succ n ih=>rw [List.replicate_succ,List.flatten_cons,ih,List.replicate_succ];rfl
theorem Rj {K:PySem.W.Frag} {a p:Addr} {xs:List V} {Q:VK} {g:TG} {tc:TT} {te:TE} {σ0:St} {H0:Hp} (Pv:Nat->List V->St->Hp->Prop) (h0:Pv 0 [] σ0 H0) (hl:∀ i ys σ H,i<=xs.length->Pv i ys σ H->SqL K H a xs)
   (hs:∀ (i:Nat) (x:V) (ys:List V) (σ:St) (H:Hp) (N:List V->St->Hp->Prop),(∀ ys' σ' H',Pv (i+1) ys' σ' H'->N ys' σ' H')->xs.reverse[i]?=some x->Pv i ys σ H->g x σ H fun σ2 H2=>tc σ2 H2 fun b H3 =>
     if b=true then te σ2 H3 fun y H4=>H4 p=some (.lst ys)/\ys.length<sizeLine/\N (ys++[y]) σ2 (upd H4 p (.lst (ys++[y]))) else N ys σ2 H3)
   (hd:∀ ys σ H,Pv xs.length ys σ H->Q (.ref p) H):Bj (Itv K a xs.length) p Q g tc te σ0 H0:=by
 refine ⟨fun i m ys σ H=>m=xs.length - i/\i<=xs.length/\Pv i ys σ H,⟨xs.length,by simp,Nat.zero_le _,h0⟩,?_⟩;rintro i m ys σ H ⟨rfl,hi,pv⟩;have q:=hl i ys σ H hi pv;by_cases hlt:i<xs.length
 . have hx:xs[xs.length - 1 - i]?=some xs[xs.length - 1 - i]:=List.getElem?_eq_getElem (by omega);refine .inr ⟨⟨hlt,xs,_,q,hx⟩,fun x H' y=>?_⟩;obtain ⟨e,y⟩:=y;subst e;exact hs i x ys σ _ (fun ys' σ' H'=>∃ m',m'<xs.length - i/\(m'=xs.length - (i+1)/\i+1<=xs.length/\Pv (i+1) ys' σ' H')) (fun ys' σ' H' pv'=>⟨xs.length - (i+1),by omega,rfl,hlt,pv'⟩) (by rw [List.getElem?_reverse hlt];exact y xs q) pv
 . have e:i=xs.length:=by omega
   subst e;exact .inl ⟨Nat.le_refl _,hd ys σ H pv⟩
end L2
set_option Elab.async false
set_option linter.all false
set_option maxRecDepth 100000
namespace Pb
open L2
def After (par:Int->Int):List Int->List Int->Prop
 | _,[]=>True
 | S,c::t=>par c∈S/\After par (c::S) t
section
variable {m:Int} {rs:List Road} {r:Int} {par:Int->Int} {dep:Int->Nat}
theorem After.mono:∀ {l S S':List Int},(∀ x∈S,x∈S')->After par S l->After par S' l
 | [],_,_,_,_=>trivial
 | c::t,S,S',h,a=>⟨h _ a.1,After.mono (fun x hx=>by
     rcases List.mem_cons.mp hx with e|e
     . exact List.mem_cons.mpr (.inl e)
     . exact List.mem_cons_of_mem _ (h x e)) a.2⟩
theorem After.append:∀ {l1 l2 S:List Int},After par S l1->After par S l2->After par S (l1++l2)
 | [],_,_,_,b=>b
 | c::t,l2,S,a,b=>⟨a.1,After.append a.2 (b.mono fun x hx=>List.mem_cons_of_mem _ hx)⟩
theorem After.up:∀ {A B S:List Int},After par S (A++B)->∀ k∈A,par k∈S\/par k∈A
 | [],_,_,_,k,hk=>by cases hk
 | c::t,B,S,a,k,hk=>by
   rcases List.mem_cons.mp hk with e|e
   . rw [e];exact .inl a.1
   . rcases After.up (A:=t) (B:=B) a.2 k e with h|h
     . rcases List.mem_cons.mp h with h|h
       . exact .inr (by rw [h];exact List.mem_cons_self)
       . exact .inl h
     . exact .inr (List.mem_cons_of_mem _ h)
structure Order (m r:Int) (par:Int->Int) (t:List Int):Prop where
 nd:(r::t).Nodup
 rng:∀ v∈t,0<=v/\v<m
 all:∀ v,0<=v->v<m->v=r\/v∈t
 af:After par [r] t
theorem Order.ne {t:List Int} (O:Order m r par t) {v:Int} (h:v∈t):v≠r:=fun z=>(List.nodup_cons.mp O.nd).1 (z ▸ h)
theorem Es (g:Good m rs) (R:Rooted m rs r par dep):∀ (n:Nat) (v:Int) (S:List Int),0<=v->v<m->par v∈S->After par S (sL m rs r par n v)
 | 0,v,S,_,_,h=>⟨h,trivial⟩
 | n+1,v,S,h0,h1,h=>by
   refine ⟨h,?_⟩;have:∀ (ks:List Int) (S:List Int),v∈S->(∀ u∈ks,u∈cR m rs (front r par v) v)->After par S (ks.flatMap (sL m rs r par n)):=by
     intro ks
     induction ks with
     | nil=>intro S _ _;exact trivial
     | cons u ks ih =>
       intro S hv hk;rw [List.flatMap_cons];obtain ⟨w1,w2,w3⟩:=(nB g R h0 h1).mp (hk u List.mem_cons_self);exact (Es g R n u S w1.1 w1.2 (by rw [w3];exact hv)).append (ih S hv fun x hx=>hk x (List.mem_cons_of_mem _ hx))
   exact this _ _ List.mem_cons_self fun u hu=>hu
theorem NQ (g:Good m rs) (R:Rooted m rs r par dep) (r0:0<=r) (r1:r<m) (nd:(nV m rs r par dep r).Nodup) (al:∀ v,v∈nV m rs r par dep r↔0<=v/\v<m):∃ t,nV m rs r par dep r=r::t/\Order m r par t:=by
 have e:=F9 g R r0 r1;refine ⟨_,e,?_⟩;rw [e] at nd al;refine ⟨nd,fun v hv=>(al v).mp (List.mem_cons_of_mem _ hv),fun v h0 h1=>List.mem_cons.mp ((al v).mpr ⟨h0,h1⟩),?_⟩;have:∀ ks:List Int,(∀ u∈ks,u∈cR m rs (front r par r) r)->After par [r] (ks.flatMap (nV m rs r par dep)):=by
   intro ks
   induction ks with
   | nil=>intro _;exact trivial
   | cons u ks ih =>
     intro hk;rw [List.flatMap_cons];obtain ⟨w1,w2,w3⟩:=(nB g R r0 r1).mp (hk u List.mem_cons_self);exact (Es g R _ u [r] w1.1 w1.2 (by rw [w3];exact List.mem_cons_self)).append (ih fun x hx=>hk x (List.mem_cons_of_mem _ hx))
 exact this _ fun u hu=>hu
variable {held:Int->Int} {con:Int->Int->Int}
end
end Pb
set_option Elab.async false
set_option linter.all false
set_option maxRecDepth 100000
namespace Pb
open L2
section
variable {m:Int} {rs:List Road} {r:Int} {par:Int->Int} {dep:Int->Nat} {held:Int->Int}
theorem Kr (l:List Int) (i j:Nat) (x:Int) (h:i<l.length):(l.set i x).getD j 0=if i=j then x else l.getD j 0:=by
 by_cases c:i=j
 . subst c;rw [if_pos rfl];simp [List.getD,h]
 . rw [if_neg c];simp [List.getD,List.getElem?_set_ne c]
end
section
open PySem
end
end Pb
set_option Elab.async false
set_option linter.all false
set_option maxRecDepth 100000
namespace L2
open PySem PySem.Spec PyProof.Rows
end L2
set_option Elab.async false
set_option linter.all false
set_option maxRecDepth 100000
namespace L2
open PySem PySem.Spec PyProof.Rows
def Xh (lo st:Int) (n:Nat):It:=⟨fun i _=>i<n,fun i H x H'=>H'=H/\x=.int (lo+i*st),fun i _=>n<=i⟩
def Uf (ta:TA):TI:=fun σ H R=>ta σ H fun vs H1=>∃ i j c:Int,vs=[.int i,.int j,.int c]/\(0<=i/\i<=1000000/\0<=j/\j<=1000000/\0<c/\c<=1000000)/\R (Xh i c (Builtin.Range.rangeSize i j c).toNat) H1
section
variable {X:Cx} {tg:Expr}
end
end L2
set_option Elab.async false
set_option linter.all false
set_option maxRecDepth 100000
namespace L2
open PySem PySem.Spec PyProof.Rows
theorem qW {K:PySem.W.Frag} {H:Hp} {p:Addr} {xs:List V} {i:Int} {v:V} {Q:VK} (h:SqT K H p xs) (e:atI xs i=some v) (q:Q v H):Ot K (.ref p) (.int i) H Q:=⟨p,xs,i,v,rfl,rfl,h,e,q⟩
end L2
namespace Pb
open L2 PySem
theorem Mp {α β:Type} {R:α->β->Prop}:∀ (n:Nat) {l₁:List α} {l₂:List β},Paired R l₁ l₂->Paired R (l₁.take n) (l₂.take n)
 | 0,_,_,_=>by rw [List.take_zero,List.take_zero];exact .nil
 | _+1,_,_,.nil=>.nil
 | n+1,_,_,.cons x xs=>.cons x (Mp n xs)
theorem MH {α β:Type} {R:α->β->Prop}:∀ (n:Nat) {l₁:List α} {l₂:List β},Paired R l₁ l₂->Paired R (l₁.drop n) (l₂.drop n)
 | 0,_,_,h=>h
 | _+1,_,_,.nil=>.nil
 | n+1,_,_,.cons x xs=>MH n xs
theorem rF {α β:Type} {R:α->β->Prop} {k₁:List α} {k₂:List β} (h:Paired R k₁ k₂):∀ {l₁:List α} {l₂:List β},Paired R l₁ l₂->Paired R (l₁++k₁) (l₂++k₂)
 | _,_,.nil=>h
 | _,_,.cons x xs=>.cons x (rF h xs)
section
variable {m:Int} {rs:List Road} {r:Int} {par:Int->Int} {dep:Int->Nat}
end
end Pb
set_option Elab.async false
set_option linter.all false
set_option maxRecDepth 100000
namespace L2
open PySem PySem.Spec PyProof.Rows
theorem Jl {P:Program} {w:World} {A:Around} {l:Addr} (c:Bool) {it:Addr} (hh:A.handled=none) (ne:l≠it) (its:Array Value):Draws P w A it [it,l] its.size (fun i v=>its[i]?=some v) (fun i h=>zAt l c it i h/\NJ l c h its) where
 live:=fun i h st=>let ⟨o,e,_⟩:=(hV l c P w).obj _ _ _ st.1;⟨o,e⟩
 frame:=fun i h h' st k=>⟨(hV l c P w).atK _ _ _ _ st.1 fun o e=>k it (by simp) o e,(hV l c P w).srcK _ _ _ st.2 fun o e=>k l (by simp) o e⟩
 item:=fun i s Q E hi st hq=>(hV l c P w).item A s it i its its[i] Q E st.1 st.2 (by simp [hi]) fun h' at' sb=>hq its[i] h' s.toks (by simp [hi]) ⟨at',(hV l c P w).srcK _ _ _ st.2 fun o e=>sb.extBut _ _ ne e⟩ sb
 done:=fun s Q E st hq=>(hV l c P w).fin A s it its.size its Q E hh st.1 st.2 (by simp) fun h' e eb he=>hq h' e eb he
section
variable {P:Program} {w:World} {A:Around} {E:Value->Shared->Prop} {s:Shared} {l:Addr} {ob:Obj} {src:Heap->Array Value->Prop} {at':Addr->Nat->Heap->Prop}
abbrev Ii (n:Nat):Obj:={ cls:=.type "enumerate",data:=.fields #[.none,.bool false,.ref n,rawInt 0,.none,.none] }
theorem FQ (S:∀ P w,SubF P w l ob src at') (xs:Array Value) :
   Meets (Builtin.«enumerate.__new__» ⟨[.type "enumerate",.ref l],[]⟩) (fun _ R s=>src s.heap xs/\R (.ok (.ret (.ref (s.heap.push ob).objs.size))) { s with heap:=(s.heap.push ob).push (Ii s.heap.objs.size) }) :=
 .of_wp fun prog w A R s hyp=>by
   obtain ⟨hp,g,d,tk,os⟩:=s;obtain ⟨q1,r⟩:=hyp;have zsub:=sub_enumerate;have B1:src (Shared.heap ⟨hp,g,d,tk,os⟩) xs:=q1
   wp_walk using ((S prog w).start _ _ _ _ _ B1)
   refine wpAny_stack_any fun st=>?_;dsimp only;refine wpAny_pure ?_;have go:∀ b:Bool,b=true\/b=false:=fun b=>by cases b <;> simp
   split
   . rename_i c _ _ _ _ _
     rcases go (c == Value.type "enumerate") with z|z
     . rw [z]
       wp_walk using ((S prog w).start _ _ _ _ _ B1)
       exact ⟨_,rfl,r⟩
     . rw [z]
       wp_walk using ((S prog w).start _ _ _ _ _ B1)
       exact ⟨_,rfl,r⟩
   . wp_walk using ((S prog w).start _ _ _ _ _ B1)
     exact ⟨_,rfl,r⟩
theorem Qi (S:∀ P w,SubF P w l ob src at') {xs:Array Value} {Q:Value->Shared->Prop} (q1:src s.heap xs) (f1:ob.isFreed=false)
   (h:∀ h',IsEnum h' (s.heap.objs.size+1) s.heap.objs.size 0 .none->at' s.heap.objs.size 0 h'->(∀ c o,s.heap.get? c=some o->h'.get? c=some o)->Q (.ref (s.heap.objs.size+1)) { s with heap:=h' }) :
   wpAny (model P w) A (call (.type "enumerate") [.ref l]) Q E s:=by
 refine callType_new F.called_enumerate (by decide) (F.typeCall_enumerate_1 _) (F.newCall_enumerate_1 _) (fun obj=>F.args_object_init_2 obj _) F.entry_enumerate_new (FQ S xs) ⟨q1,?_⟩;have n0:(s.heap.push ob).objs.size=s.heap.objs.size+1:=Heap.size_push ..;have c2:((s.heap.push ob).push (Ii s.heap.objs.size)).get? (s.heap.push ob).objs.size=some (Ii s.heap.objs.size):=Heap.get?_push_size _ rfl;have c1:((s.heap.push ob).push (Ii s.heap.objs.size)).get? s.heap.objs.size=some ob:=Heap.get?_push_of_some _ (Heap.get?_push_size _ f1);show _/\_;rw [n0] at c2;rw [n0];exact ⟨⟨_,c2,rfl⟩,h _ c2 ((S P w).first _ _ c1) fun c o e=>Heap.get?_push_of_some _ (Heap.get?_push_of_some _ e)⟩
end
def Ite (K:PySem.W.Frag) (c:Bool) (a:Addr):It :=
 ⟨fun i H=>∃ xs x,SqX K c H a xs/\xs[i]?=some x,
  fun i H v H'=>∃ p x,H p=none/\v=.ref p/\H'=upd H p (.tup [.int i,x])/\∀ xs,SqX K c H a xs->xs[i]?=some x,
  fun i H=>∃ xs,SqX K c H a xs/\xs.length=i⟩
theorem PU {P:Program} {w:World} {K:PySem.W.Frag} {elts:List Expr} {x1} {tpos:Pos} (c:Bool) (a e it:Addr) (ne:e≠it) (ae:a≠e) (ai:a≠it) :
   Turn P w K (.Tuple elts x1 tpos) (Ite K c a) [e,it] e (fun i h=>(∃ old,IsEnum h e it (i:Nat) old)/\zAt a c it i h) where
 mem:=by simp
 obj:=fun i h t b hb=>by
   obtain ⟨⟨old,t1⟩,t2⟩:=t;simp only [List.mem_cons,List.mem_nil_iff,or_false] at hb;rcases hb with rfl|rfl
   . exact ⟨_,t1,fun v z=>by cases z⟩
   . exact (hV a c P w).obj _ _ _ t2
 keep:=fun i h h' t k=>by
   obtain ⟨⟨old,t1⟩,t2⟩:=t;exact ⟨⟨old,k e (by simp) _ t1⟩,(hV a c P w).atK _ _ _ _ t2 fun o e=>k it (by simp) o e⟩
 item:=fun X e1 e2 e3 hc i pins s σ H E I f t g=>by
   subst e1 e2 e3;obtain ⟨⟨old,t1⟩,t2⟩:=t;obtain ⟨xs,x,s1,hx⟩:=g;obtain ⟨us,r1,q1⟩:=I.sqX s1;obtain ⟨xu,hxu,rx⟩:=r1.get hx;have hh:X.A.in1.handled=none:=I.ok.hd hc;have fz:∀ q∈[e,it],m9 X pins H q:=f;have W:=WalksT.enumerateD (A:=X.A) (Jl (P:=X.prog) (w:=X.w) (A:=X.A.in1) (l:=a) c (it:=it) hh ai us.toArray) e ne (by simp;exact ⟨ne,ae.symm⟩) (by simp);have hil:i<us.toArray.size:=by
     have:=(List.getElem?_eq_some_iff.mp hxu).1
     simpa using this
   refine W.item i s _ _ hil ⟨⟨old,t1⟩,t2,q1⟩ fun T vals h' tk pt le tup mid keep=>?_;refine ⟨_,rfl,W.go elts x1 tpos i T { s with heap:=h',toks:=tk } _ _ mid fun h2 st2 keep2=>?_⟩;obtain ⟨tt,xv,px,ev⟩:=pt;have exv:xv=xu:=by
     have h1:us[i]?=some xv:=(by simpa using px);rw [hxu] at h1;cases h1
     rfl
   subst exv;have Tw:T ∉ [e,it]:=W.apart i T h' mid;have kp:∀ q o,q ∉ [e,it]->s.heap.get? q=some o->h2.get? q=some o:=fun q o hq eo=>keep2 q o hq (keep q o hq eo);obtain ⟨ot,ht,hct,nt,hdt⟩:=tup;have new:h2.get? T=some ot:=keep2 T ot Tw ht;have Hn:∀ q u,H q=some u->q ∉ [e,it]:=fun q u e hq=>by rw [(fz q hq).1] at e;cases e
   have nH:H T=none:=I.hok.fresh le;have Tb:∀ q o,s.heap.get? q=some o->q≠T:=fun q o eo=>Nat.ne_of_lt (Nat.lt_of_lt_of_le (Heap.lt_size eo) le);have I2:Inv X pins σ H { s with heap:=h2,toks:=tk }:=by
     refine I.step (g':=s.gens) (d':=s.drawn) (t':=tk) (ch:=[e,it]) (fun q hq=>⟨(fz q hq).2.2.2.1,(fz q hq).2.1,(fz q hq).2.2.2.2.1,(fz q hq).2.2.2.2.2⟩) (fun q o _ _ hq e _=>kp q o hq e) (fun q o _ _ hq e _=>⟨o.slots,kp q o hq e⟩) (fun _ _ _ _ n=>n)
       (fun q o hq e=>⟨o,kp q o hq e⟩) (fun _ _ e=>e) (fun _ _ _ e=>e) (fun q ps e=>⟨#[],by rw [e];simp⟩) (fun m hm=>?_) (fun q u e=>?_) I.bare
     . obtain ⟨o,es,ep,ho,r⟩:=hm;exact ⟨o,es,ep,kp _ o (fun hq=>(fz _ hq).2.1 rfl) ho,r⟩
     . refine (I.hok q u e).stay (fun q' v hq' e'=>kp q' v ?_ e') (fun _ e'=>e') fun _ _ e'=>e';rcases hq' with rfl|hq'
       . exact Hn _ u e
       . exact Hn _ _ hq'
   have I3:Inv X pins σ (upd H T (.tup [.int i,x])) { s with heap:=h2,toks:=tk }:=by
     refine ⟨I2.ok,I2.os,I2.bare,?_,I2.loc,I2.cell,?_,fun n c e=>?_,fun p hp=>?_,fun q u e=>?_,I2.len⟩
     . refine ⟨I2.base.keep,I2.base.slot,fun q o e n hx=>?_,I2.base.there,fun q xs e=>?_,fun q o u e=>?_,fun q ps e=>?_⟩
       . have lt:q<X.s₀.heap.objs.size:=Heap.lt_size e;rw [ao (Nat.ne_of_lt (Nat.lt_of_lt_of_le lt (Nat.le_trans I.sz le)))];exact I2.base.free q o e n hx
       . have e':=I2.base.tups q xs e;rw [ao (fun z=>by rw [z,nH] at e';cases e')];exact e'
       . have e':=I2.base.frzs q o u e;rw [ao (fun z=>by rw [z,nH] at e';cases e')];exact e'
       . obtain ⟨more,e'⟩:=I2.base.tbls q ps e;exact ⟨more,by rw [ao (fun z=>by rw [z,nH] at e';cases e')];exact e'⟩
     . rw [ao (Nat.ne_of_lt (Nat.lt_of_lt_of_le I.lt le))];exact I2.free
     . obtain ⟨vv,o,ho,_⟩:=I.cell n c e;rw [ao (Tb _ _ ho)];exact I2.freeC n c e
     . obtain ⟨k1,k2,k3⟩:=I.pin p hp;rw [ao (Tb _ _ k1)];exact I2.pin p hp
     . by_cases hq:q=T
       . subst hq;rw [ah] at e;cases e;refine ⟨by show 2<=sizeLine;decide,[.int (i:Nat) tt,xv],.cons ⟨tt,rfl⟩ (.cons rx .nil),ot,new,hct,nt,?_⟩;rw [hdt,ev]
       . rw [ao hq] at e;refine (I2.hok q u e).stay (fun _ _ _ e'=>e') (fun q' e'=>?_) fun q' xs e'=>?_
         . rw [ao (fun z=>by rw [z,nH] at e';cases e')];exact e'
         . rw [ao (fun z=>by rw [z,nH] at e';cases e')];exact e'
   refine ⟨.ref T,_,I3,rfl,⟨T,x,nH,rfl,rfl,fun xs' q=>?_⟩,⟨st2.1,st2.2.1⟩,fun q hq=>?_⟩
   . rw [<- I.sqX_inj s1 q];exact hx
   . have hlt:q≠T:=by
       simp only [List.mem_cons,List.mem_nil_iff,or_false] at hq;rcases hq with rfl|rfl
       . exact Tb _ _ t1
       . exact let ⟨o,e,_⟩:=(hV a c X.prog X.w).obj _ _ _ t2;Tb _ _ e
     rw [ao hlt];exact (fz q hq).1
 done:=fun X e1 e2 e3 hc i pins s σ H E I f t g=>by
   subst e1 e2 e3;obtain ⟨⟨old,t1⟩,t2⟩:=t;obtain ⟨xs,s1,hend⟩:=g;obtain ⟨us,r1,q1⟩:=I.sqX s1;have hh:X.A.in1.handled=none:=I.ok.hd hc;have fz:∀ q∈[e,it],m9 X pins H q:=f;have W:=WalksT.enumerateD (A:=X.A) (Jl (P:=X.prog) (w:=X.w) (A:=X.A.in1) (l:=a) c (it:=it) hh ai us.toArray) e ne (by simp;exact ⟨ne,ae.symm⟩) (by simp);have ei:i=us.toArray.size:=by
     have:=r1.length;simp;omega
   subst ei;refine W.done s _ _ ⟨⟨old,t1⟩,t2,q1⟩ fun h' tk keep=>⟨rfl,?_⟩;have kp:∀ q o,q ∉ [e,it]->s.heap.get? q=some o->h'.get? q=some o:=fun q o hq e=>keep q o hq e;have Hn:∀ q u,H q=some u->q ∉ [e,it]:=fun q u e hq=>by rw [(fz q hq).1] at e;cases e
   refine I.step (g':=s.gens) (d':=s.drawn) (t':=tk) (ch:=[e,it]) (fun q hq=>⟨(fz q hq).2.2.2.1,(fz q hq).2.1,(fz q hq).2.2.2.2.1,(fz q hq).2.2.2.2.2⟩) (fun q o _ _ hq e _=>kp q o hq e) (fun q o _ _ hq e _=>⟨o.slots,kp q o hq e⟩) (fun _ _ _ _ n=>n)
     (fun q o hq e=>⟨o,kp q o hq e⟩) (fun _ _ e=>e) (fun _ _ _ e=>e) (fun q ps e=>⟨#[],by rw [e];simp⟩) (fun m hm=>?_) (fun q u e=>?_) I.bare
   . obtain ⟨o,es,ep,ho,r⟩:=hm;exact ⟨o,es,ep,kp _ o (fun hq=>(fz _ hq).2.1 rfl) ho,r⟩
   . refine (I.hok q u e).stay (fun q' v hq' e'=>kp q' v ?_ e') (fun _ e'=>e') fun _ _ e'=>e';rcases hq' with rfl|hq'
     . exact Hn _ u e
     . exact Hn _ _ hq'
 self:=fun A i s Q E t q=>by
   obtain ⟨⟨old,t1⟩,t2⟩:=t;exact wpAny_pyIter_enum t1 q
def Nk (K:PySem.W.Frag) (c:Bool) (tl:TE):TI:=fun σ H R=>tl σ H fun x H1=>∃ a,x=.ref a/\(∃ xs,SqX K c H1 a xs)/\R (Ite K c a) H1
section
variable {X:Cx} {e:Expr} {te:TE} {p2 pos:Pos}
theorem Ur {elts:List Expr} {x1} {tpos:Pos} (c:Bool) (hg:Gl X "enumerate") (hm:X.mg "enumerate"=none) (he:PE X e te) (h2:starEach [e] X.env=[(false,eval e X.env)]:=by rfl):PI X (.Tuple elts x1 tpos) (.Call (.Name "enumerate" p2) [e] [] pos) (Nk X.K c te):=by
 intro pins s σ H R I h;refine Call_ (tV I hg hm boot_enumerate (PyProof.Rows.callWith_type1 ?_ h2 rfl));rw [h2];show wpAny _ _ (spliced ((false,eval e X.env)::backTo pos [])) _ _ s;refine Calls.spliced_cons (bS (he pins s σ H _ I h) fun u s1 x H1 I1 r1 q1=>Calls.spliced_nil ?_);obtain ⟨a,ex,⟨xs,sa⟩,q⟩:=q1;subst ex;cases r1;obtain ⟨us,r1,q1⟩:=I1.sqX sa;obtain ⟨oa,hoa⟩:=tq a c _ _ q1;have la:=Heap.lt_size hoa;refine Qi (hV a c) q1 (AG a c) fun h' w1 w2 w3=>?_;refine wpAny_pyIter_enum w1 ?_;refine ⟨_,[s1.heap.objs.size+1,s1.heap.objs.size],_,_,H1,rfl,I1.kept (t':=s1.toks) w3,PU c a _ _ (Nat.succ_ne_self _) (Nat.ne_of_lt (Nat.lt_succ_of_lt la)) (Nat.ne_of_lt la),⟨⟨_,w1⟩,w2⟩,fun b hb=>?_,q⟩;have hle:s1.heap.objs.size<=b:=by
   simp only [List.mem_cons,List.mem_nil_iff,or_false] at hb;rcases hb with rfl|rfl
   . exact Nat.le_succ _
   . exact Nat.le_refl _
 exact I1.fpOk hle (I1.hok.fresh hle)
end
theorem T4 {K:PySem.W.Frag} {c:Bool} {a:Addr} {xs:List V} {g:TG} {tb:TS} {D:Ends} {σ:St} {H:Hp} (Pv:Nat->St->Hp->Prop) (h0:Pv 0 σ H) (hl:∀ i σ H,Pv i σ H->SqX K c H a xs)
   (hs:∀ (i:Nat) (x:V) (σ:St) (H:Hp) (p:Addr) (N:St->Hp->Prop),(∀ σ' H',Pv (i+1) σ' H'->N σ' H')->xs[i]?=some x->Pv i σ H->H p=none->g (.ref p) σ (upd H p (.tup [.int i,x])) fun σ2 H2=>tb { D with nx:=N,ct:=N,bk:=D.nx } σ2 H2)
   (hd:∀ σ H,Pv xs.length σ H->D.nx σ H):ph (Ite K c a) D g tb σ H:=by
 refine ⟨fun i m σ H=>m=xs.length - i/\i<=xs.length/\Pv i σ H,⟨_,rfl,Nat.zero_le _,h0⟩,?_⟩;rintro i m σ H ⟨rfl,hi,p⟩;have q1:=hl i σ H p;by_cases hlt:i<xs.length
 . refine .inr ⟨⟨xs,xs[i],q1,List.getElem?_eq_getElem hlt⟩,fun σ' H'=>∃ m',m'<xs.length - i/\(m'=xs.length - (i+1)/\i+1<=xs.length/\Pv (i+1) σ' H'),fun σ' H' z=>z,fun x H' y=>?_⟩;obtain ⟨p',x',hp,rfl,rfl,e1⟩:=y;exact hs i x' σ H p' _ (fun σ' H' p'=>⟨xs.length - (i+1),by omega,rfl,hlt,p'⟩) (e1 xs q1) p hp
 . have e:i=xs.length:=by omega
   subst e;exact .inl ⟨⟨xs,q1,rfl⟩,hd σ H p⟩
end L2
set_option Elab.async false
set_option linter.all false
set_option maxRecDepth 100000
namespace Pb
open L2 PySem
theorem tI {α β:Type} {R:α->β->Prop} {a:α} {b:β} (h:R a b):∀ {l₁:List α} {l₂:List β},Paired R l₁ l₂->Paired R (l₁++[a]) (l₂++[b])
 | _,_,.nil=>.cons h .nil
 | _,_,.cons x xs=>.cons x (tI h xs)
theorem mL {α β:Type} {R:α->β->Prop}:∀ {ps:List α} {vs:List β} {i:Nat} {x:α},Paired R ps vs->ps[i]?=some x->∃ v,vs[i]?=some v/\R x v
 | _,_,i,x,.nil,e=>by simp at e
 | _,_,0,x,.cons (a:=p) (b:=r) h hs,e=>by
   have:p=x:=by simpa using e
   subst this;exact ⟨r,by simp,h⟩
 | a::l1,_,i+1,x,.cons h hs,e=>by
   have e':l1[i]?=some x:=by simpa using e
   obtain ⟨v,h1,h2⟩:=mL hs e';exact ⟨v,by simpa using h1,h2⟩
def jc (rs:List Road) (a b:Int):Int:=(cQ rs a b).getD 1
theorem kb {m:Int} {rs:List Road} (g:Good m rs) {a b:Int} (h:Adj rs a b):∃ k,cQ rs a b=some k/\2<=k/\k<=1000000:=by
 obtain ⟨x,hx,j⟩:=h;obtain ⟨i,hi⟩:=List.getElem?_of_mem hx;have ok:=g.ok x hx;have jj:q9 x a b:=j;rw [Gp g hi jj];unfold gA;by_cases c:x.a=a/\x.b=b
 . rw [if_pos c];exact ⟨_,rfl,ok.t0,ok.t1⟩
 . rw [if_neg c];have c2:x.a=b/\x.b=a:=by
     rcases jj with w|w
     . exact absurd w c
     . exact ⟨w.2,w.1⟩
   rw [if_pos c2];exact ⟨_,rfl,ok.u0,ok.u1⟩
end Pb
namespace L2
open PySem PySem.Spec PyProof.Rows
def Ua (i j k:Nat) (ta:TA):TS:=fun D σ H=>ta σ H fun vs H1=>∃ v w z,vs=[v,w,z]/\D.nx (((σ.set i (some v)).set j (some w)).set k (some z)) H1
end L2
set_option Elab.async false
set_option linter.all false
set_option maxRecDepth 100000
namespace Pb
open L2
section
variable {m:Int} {rs:List Road} {r:Int} {par:Int->Int} {dep:Int->Nat} {held held':Int->Int} {con:Int->Int->Int}
end
end Pb
set_option Elab.async false
set_option linter.all false
set_option maxRecDepth 100000
namespace L2
open PySem PySem.Spec PyProof.Rows
theorem VO (zs:List V) {k:Int} (k0:0<=k):A6 zs none (some k)=zs.take k.toNat:=by
 unfold A6;have e1:HT.sIx zs.length 0 none=0:=rfl;have e2:HT.sIx zs.length zs.length (some k)=min k.toNat zs.length:=by
   show (if k<0 then (k+(zs.length:Int)).toNat else min k.toNat zs.length)=_;rw [if_neg (by omega)]
 rw [e1,e2,List.drop_zero,Nat.sub_zero,List.take_eq_take_iff];omega
end L2
namespace Pb
open L2 PySem
end Pb
set_option Elab.async false
set_option linter.all false
set_option maxRecDepth 100000
namespace Pb
open L2 PySem
section
variable {m:Int} {rs:List Road}
end
def AtX (c:Bool) (H:Hp) (a:Addr) (xs:List V):Prop:=H a=some (if c then .lst xs else .tup xs)
theorem AtX.sq {K:PySem.W.Frag} {c:Bool} {H:Hp} {a:Addr} {xs:List V} (h:AtX c H a xs):SqX K c H a xs:=by
 cases c
 . exact SqT.of h
 . exact SqL.of h
end Pb
set_option Elab.async false
set_option linter.all false
set_option maxRecDepth 100000
namespace L2
open PySem PySem.Spec PyProof.Rows
section
variable {X:Cx} {i o:Expr} {ty td:TE}
def T8 (ty td:TE):TE:=fun σ H Q=>ty σ H fun y H1=>td σ H1 fun x H2=>∃ a,x=.ref a/\((∃ o,DGet H2 a y o/\Q (.bl o.isSome) H2)\/(y=.non/\(∃ kvs,H2 a=some (.dK kvs))/\Q (.bl false) H2))
end
end L2
set_option Elab.async false
set_option linter.all false
set_option maxRecDepth 100000
namespace Pb
open L2 PySem
section
variable {m:Int} {rs:List Road} {r b:Int} {par:Int->Int} {dep:Int->Nat}
end
end Pb
namespace L2
theorem aW {A B:TS} {D:Ends} {σ:St} {H:Hp} (h:∀ N:St->Hp->Prop,(∀ σ' H',B D σ' H'->N σ' H')->A { D with nx:=N } σ H):NH A B D σ H:=h (B D) fun _ _ z=>z
end L2
set_option Elab.async false
set_option linter.all false
set_option maxRecDepth 100000
namespace L2
open PySem
theorem P1 {K:PySem.W.Frag} {a:Addr} {xs:List V} {g:TG} {tb:TS} {D:Ends} {σ:St} {H:Hp} (Pv:Nat->St->Hp->Prop) (h0:Pv 0 σ H) (hl:∀ i σ H,i<=xs.length->Pv i σ H->SqL K H a xs)
   (hs:∀ (i:Nat) (x:V) (σ:St) (H:Hp) (N B:St->Hp->Prop),(∀ σ H,(g x σ H fun σ2 H2=>tb { D with nx:=N,ct:=N,bk:=D.nx } σ2 H2)->B σ H)->(∀ σ' H',Pv (i+1) σ' H'->N σ' H')->xs[i]?=some x->Pv i σ H->B σ H)
   (hd:∀ (B:St->Hp->Prop) σ H,(∀ σ H,D.nx σ H->B σ H)->Pv xs.length σ H->B σ H):ph (Itl K a) D g tb σ H :=
 rp Pv h0 hl (fun i x σ H N hN hx p=>hs i x σ H N (fun σ H=>g x σ H fun σ2 H2=>tb { D with nx:=N,ct:=N,bk:=D.nx } σ2 H2) (fun _ _ z=>z) hN hx p) fun σ H p=>hd (fun σ H=>D.nx σ H) σ H (fun _ _ z=>z) p
theorem NL {lo:Int} {n:Nat} {g:TG} {tb:TS} {D:Ends} {σ:St} {H:Hp} (Pv:Nat->St->Hp->Prop) (h0:Pv 0 σ H)
   (hs:∀ (i:Nat) (σ:St) (H:Hp) (N B:St->Hp->Prop),(∀ σ H,(g (.int (lo+i)) σ H fun σ2 H2=>tb { D with nx:=N,ct:=N,bk:=D.nx } σ2 H2)->B σ H)->(∀ σ' H',Pv (i+1) σ' H'->N σ' H')->i<n->Pv i σ H->B σ H)
   (hd:∀ (B:St->Hp->Prop) σ H,(∀ σ H,D.nx σ H->B σ H)->Pv n σ H->B σ H):ph (Itr lo n) D g tb σ H :=
 tD Pv h0 (fun i σ H N hN hi p=>hs i σ H N (fun σ H=>g (.int (lo+i)) σ H fun σ2 H2=>tb { D with nx:=N,ct:=N,bk:=D.nx } σ2 H2) (fun _ _ z=>z) hN hi p) fun σ H p=>hd (fun σ H=>D.nx σ H) σ H (fun _ _ z=>z) p
theorem xB {c:TT} {tb:TS} {D:Ends} {σ:St} {H:Hp} (W:Nat->St->Hp->Prop) (n0:Nat) (h0:W n0 σ H)
   (hs:∀ (n:Nat) (σ:St) (H:Hp) (N:St->Hp->Prop) (B:Nat->St->Hp->Prop),(∀ n σ H,(c σ H fun b H1=>if b=true then ∃ N:St->Hp->Prop,(∀ σ' H',N σ' H'->∃ m',m'<n/\W m' σ' H')/\tb { D with nx:=N,ct:=N,bk:=D.nx } σ H1 else D.nx σ H1)->B n σ H)->(∀ n' σ' H',n'<n->W n' σ' H'->N σ' H')->(∀ σ' H',N σ' H'->∃ m',m'<n/\W m' σ' H')->W n σ H->B n σ H):KY c tb D σ H :=
 FC W n0 h0 fun n σ H N hN hN2 w=>hs n σ H N (fun n σ H=>c σ H fun b H1=>if b=true then ∃ N:St->Hp->Prop,(∀ σ' H',N σ' H'->∃ m',m'<n/\W m' σ' H')/\tb { D with nx:=N,ct:=N,bk:=D.nx } σ H1 else D.nx σ H1) (fun _ _ _ z=>z) hN hN2 w
theorem ex6 {α0:Sort _} {α1:Sort _} {α2:Sort _} {α3:Sort _} {α4:Sort _} {α5:Sort _} {P:α0->α1->α2->α3->α4->α5->Prop} (a0:α0) (a1:α1) (a2:α2) (a3:α3) (a4:α4) (a5:α5) (h:P a0 a1 a2 a3 a4 a5):∃ a0 a1 a2 a3 a4 a5,P a0 a1 a2 a3 a4 a5:=⟨a0,a1,a2,a3,a4,a5,h⟩
theorem an4 {p0 p1 p2 p3:Prop} (h0:p0) (h1:p1) (h2:p2) (h3:p3):p0/\p1/\p2/\p3:=⟨h0,h1,h2,h3⟩
end L2
set_option Elab.async false
set_option linter.all false
set_option maxRecDepth 100000
namespace Pb
open L2 PySem
section
variable {m:Int} {rs:List Road} {r:Int} {par:Int->Int} {dep:Int->Nat}
variable {para parb parc:Int->Int} {depa depb depc:Int->Nat} {a b c:Int}
end
section
variable {m:Int} {rs:List Road} {r b:Int} {par:Int->Int} {dep:Int->Nat}
end
end Pb
set_option Elab.async false
set_option linter.all false
set_option maxRecDepth 100000
namespace Pb
open L2 PySem
section
variable {m:Int} {rs:List Road} {r b:Int} {par:Int->Int} {dep:Int->Nat}
end
end Pb
set_option Elab.async false
set_option linter.all false
namespace L2
open PySem
def Ug (_ j:Int):Prop:=0<j/\j.natAbs.log2<9000
theorem uc {X:Cx}:OpR X (binaryOp .FloorDiv) (rI Ug fun i j=>.int (i / j)):=opI fun i j _ _ _ _ _ hc q=>by
 have h1:(0:Int)<j:=hc.1;exact PyProof.Rows.floordiv_int (by omega) (by rw [Int.fdiv_eq_ediv_of_nonneg i (by omega)];exact q) (.inl (PyProof.noPylong_of_log2 hc.2))
end L2
namespace Pb
open PySem L2
end Pb
set_option Elab.async false
set_option linter.all false
set_option maxRecDepth 100000
set_option exponentiation.threshold 5000
namespace Pb
open L2 PySem
section
variable {m:Int} {rs:List Road} {r:Int} {par:Int->Int} {dep:Int->Nat}
variable {op:Int->Int->Int} {held:Int->Int} {con:Int->Int->Int}
end
end Pb
set_option Elab.async false
set_option linter.all false
set_option maxRecDepth 100000
namespace L2
open PySem PySem.Spec PyProof.Rows
section
variable {X:Cx}
end
end L2
namespace Pb
end Pb
set_option Elab.async false
set_option linter.all false
set_option maxRecDepth 100000
namespace L2
open PySem PySem.Spec PyProof.Rows
section
variable {X:Cx}
end
end L2
set_option Elab.async false
set_option linter.all false
set_option maxRecDepth 100000
namespace L2
open PySem PySem.Spec PyProof.Rows
section
variable {P:Program} {w:World} {A:Around} {R:Result->Shared->Prop} {I S:Addr} {fp wr:List Addr} {n:Nat} {Pv:Nat->Value->Prop} {St:Nat->Heap->Prop} {bt:Nat->Nat->Bool} {kw:List (Str × Value)}
end
theorem Cf (f:Nat->Int):∀ n,argBest (fun i j=>decide (f i<f j)) n<=n/\∀ i,i<=n->f (argBest (fun i j=>decide (f i<f j)) n)<=f i
 | 0=>⟨Nat.le_refl _,fun i h=>by rw [show i=0 by omega];exact Int.le_refl _⟩
 | n+1=>by
   obtain ⟨h1,h2⟩:=Cf f n;show (if decide (f (n+1)<f (argBest (fun i j=>decide (f i<f j)) n))=true then n+1 else argBest (fun i j=>decide (f i<f j)) n)<=n+1/\∀ i,i<=n+1->f (if decide (f (n+1)<f (argBest (fun i j=>decide (f i<f j)) n))=true then n+1 else argBest (fun i j=>decide (f i<f j)) n)<=f i;by_cases c:f (n+1)<f (argBest (fun i j=>decide (f i<f j)) n)
   . rw [if_pos (decide_eq_true c)];refine ⟨Nat.le_refl _,fun i h=>?_⟩;by_cases z:i=n+1
     . rw [z];exact Int.le_refl _
     . have:=h2 i (by omega);omega
   . rw [if_neg (by simpa using c)];refine ⟨by omega,fun i h=>?_⟩;by_cases z:i=n+1
     . rw [z];omega
     . exact h2 i (by omega)
section
variable {X:Cx} {x:Str} {p pos kpos:Pos} {e de:Expr} {t tk:TA}
def Ue (K:PySem.W.Frag) (t tk:TA):TE:=fun σ H Q=>t σ H fun vs H1=>tk σ H1 fun zs H2=>∃ (q:Addr) (ns:List Int) (d:V),vs=[.ref q]/\zs=[d]/\SqL K H2 q (ns.map V.int)/\ns≠[]/\∀ y,y∈ns->(∀ x∈ns,y<=x)->Q (.int y) H2
theorem JY:bootBuiltins "any"=some (.builtin "any"):=by decide +kernel
theorem CP (hc:X.calm=true):kY X (.builtin "any") (fun xs H Q=>∃ (p:Addr) (bs:List Bool),xs=[.ref p]/\SqL X.K H p (bs.map V.bl)/\Q (.bl (bs.any id)) H):=by
 intro pins s σ H xs us Q I r h;obtain ⟨p,bs,rfl,hp,q⟩:=h;obtain ⟨u,rfl,ru⟩:=oY r;cases ru;obtain ⟨its,rv,pl,hz⟩:=I.list hp;have hl:=pl.isList;have hlt:=pl.lt;have hh:X.A.in1.handled=none:=I.ok.hd hc;have hlen:its.length=bs.length:=by rw [<- rv.length,List.length_map]
 refine call_any_walk (wpAny_pyIter_list hl ?_);refine ⟨s.heap.objs.size,[s.heap.objs.size,p],[s.heap.objs.size],its.toArray.size,_,_,fun i=>(bs[i]?).getD false,rfl,Walks.list (A:=X.A.in1) hh _ p (Nat.ne_of_lt hlt) its.toArray,
   ⟨⟨_,Heap.get?_push_size _ rfl,rfl,rfl⟩,hl.push _⟩,fun i v s' Q' E' hP hQ=>?_,fun h' tk hk=>?_⟩
 . have hi:its[i]?=some v:=by simpa using hP
   have hib:i<bs.length:=by rw [<- hlen];exact (List.getElem?_eq_some_iff.mp hi).1
   obtain ⟨u,hu,ru⟩:=rv.get (i:=i) (x:=V.bl bs[i]) (by rw [List.getElem?_map,List.getElem?_eq_getElem hib];rfl);rw [hi] at hu;cases hu;cases ru;replace hQ:Q' (bs[i]?.getD false) s':=hQ;rw [List.getElem?_eq_getElem hib] at hQ;exact wpAny_truthy_bool hQ
 . have e:((List.range its.toArray.size).any fun i=>(bs[i]?).getD false)=bs.any id:=by
     rw [List.size_toArray,hlen];rw [Bool.eq_iff_iff,List.any_eq_true,List.any_eq_true]
     constructor
     . rintro ⟨i,hi,z⟩;have hi':=List.mem_range.mp hi;rw [List.getElem?_eq_getElem hi'] at z;exact ⟨_,List.getElem_mem hi',z⟩
     . rintro ⟨b,hb,z⟩;obtain ⟨i,hi,rfl⟩:=List.getElem_of_mem hb;refine ⟨i,List.mem_range.mpr hi,?_⟩;rw [List.getElem?_eq_getElem hi];exact z
   have kk:∀ b o,s.heap.get? b=some o->h'.get? b=some o:=fun b o eb=>hk b o (fun hm=>by rw [List.mem_singleton.mp hm] at eb;exact Nat.lt_irrefl _ (Heap.lt_size eb)) (Heap.get?_push_of_some _ eb);rw [e];exact ⟨.bl _,H,I.kept (t':=tk) kk,rfl,q⟩
def Uo (t:TE):TE:=fun σ H Q=>t σ H fun x H1=>∃ b,x=.bl b/\Q (.bl (b != true)) H1
end
end L2
set_option Elab.async false
set_option linter.all false
set_option maxRecDepth 100000
namespace Pb
open L2 PySem
section
variable {m:Int} {rs:List Road} {r:Int} {par:Int->Int} {dep:Int->Nat}
variable {ch:Int->Option Int} {w:Int} {cn:Int->Int}
end
end Pb
set_option Elab.async false
set_option linter.all false
set_option maxRecDepth 100000
namespace L2
open PySem PySem.Spec PyProof.Rows PySem.W
section
variable {n:Nat}
variable (hn:0<n)
include hn
end
section
variable {prog:Program} {w:World} {A:Around} {E:Value->Shared->Prop} {s:Shared}
end
end L2
set_option Elab.async false
set_option linter.all false
set_option maxRecDepth 100000
namespace L2
open PySem PySem.Spec PyProof.Rows PySem.W Pb
section
variable {prog:Program} {w:World} {A:Around} {E:Value->Shared->Prop} {s:Shared} {it d:Addr} {i ep:Nat} {es:Array DictEntry}
end
section
variable {prog:Program} {w:World} {A:Around} {E:Value->Shared->Prop} {s:Shared} {fin:Bool} {C:Bool->Shared->Prop}
end
section
variable {prog:Program} {w:World} {A:Around} {E:Value->Shared->Prop} {s:Shared}
end
section
variable {X:Cx}
end
end L2
set_option Elab.async false
set_option linter.all false
set_option maxRecDepth 100000
namespace L2
theorem KU {κ:Type} [DecidableEq κ] {kvs:List (κ × V)} {k:κ} {v:V} {p:κ × V} (h:p∈fL kvs k v):p.1=k\/∃ q∈kvs,p.1=q.1:=by
 unfold fL at h;split at h
 . obtain ⟨q,hq,e⟩:=List.mem_map.mp h;refine .inr ⟨q,hq,?_⟩;rw [<- e];split <;> rfl
 . rcases List.mem_append.mp h with h|h
   . exact .inr ⟨p,h,rfl⟩
   . rw [List.mem_singleton.mp h];exact .inl rfl
end L2
namespace Pb
open L2 PySem
section
variable {m:Int} {rs:List Road} {r:Int} {par:Int->Int} {dep:Int->Nat}
end
section
end
end Pb
set_option Elab.async false
set_option linter.all false
set_option maxRecDepth 100000
namespace L2
open PySem PySem.Spec PyProof.Rows
def Pg (tk tv:TE):TE:=fun σ H Q=>∀ p,H p=none->wY [(tk,tv)] σ (upd H p (.dT [])) fun ps H2=>H2 p=some (.dT [])/\∃ (k:List Key) (b:Addr) (y:V),ps=[(.ref b,y)]/\H2 b=some (.tup (k.map kV))/\Q (.ref p) (upd H2 p (.dT [(k,y)]))
end L2
set_option Elab.async false
set_option linter.all false
set_option maxRecDepth 100000
namespace Pb
open L2 PySem
end Pb
namespace Pb
open L2 PySem
section
variable {m:Int} {rs:List Road} {xs:List Int}
variable {r:Int} {par:Int->Int} {dep:Int->Nat}
end
end Pb
set_option Elab.async false
set_option linter.all false
set_option maxRecDepth 100000
namespace L2
open PySem PySem.Spec PyProof.Rows Pb
section
variable {X:Cx}
end
end L2
set_option Elab.async false
set_option linter.all false
set_option maxRecDepth 100000
namespace L2
open PySem PySem.Spec PyProof.Rows
theorem PX:bootBuiltins "abs"=some (.builtin "abs"):=by decide +kernel
def KH (_ j:Int):Prop:=j≠0/\j.natAbs.log2<9000
theorem F6 {X:Cx}:OpR X (binaryOp .FloorDiv) (rI KH fun i j=>.int (i.fdiv j)):=opI fun i j _ _ _ _ _ hc q=>PyProof.Rows.floordiv_int hc.1 q (.inl (PyProof.noPylong_of_log2 hc.2))
theorem uF {j:Int} {n:Nat} (h0:j≠0) (h:j.natAbs<2^n) (hn:n<=9000):j.natAbs.log2<9000:=Nat.lt_of_lt_of_le ((Nat.log2_lt (by omega)).mpr h) hn
end L2
namespace Pb
theorem WK (a b:Int):Int.gcd b (a.fmod b)=Int.gcd a b:=by
 rw [Int.fmod_def,Int.gcd_sub_mul_left_right,Int.gcd_comm]
theorem V8 (a b:Int):Int.gcd b (a % b)=Int.gcd a b:=by
 rw [Int.emod_def,Int.gcd_sub_mul_left_right,Int.gcd_comm]
theorem Pl {a b:Int} (h:b≠0):(a.fmod b).natAbs<b.natAbs:=by
 have h1:=Int.emod_nonneg a h;have h2:=Int.emod_lt a h;rw [Int.fmod_eq_emod];split
 . omega
 . rename_i z
   have:a % b≠0:=fun e=>z (.inr (Int.dvd_of_emod_eq_zero e));omega
structure Frc (t b p q:Int):Prop where
 pos:0<q
 one:p.gcd q=1
 eq:p*b=t*q
theorem PR {t b c:Int} (h:b≠0) (hc:c.natAbs=t.gcd b) (hs:0<c↔0<b):Frc t b (t.fdiv c) (b.fdiv c):=by
 have gp:=Int.gcd_pos_of_ne_zero_right t h;have c0:c≠0:=by omega
 obtain ⟨x,hx⟩:c ∣ t:=Int.natAbs_dvd.mp (by rw [hc];exact Int.gcd_dvd_left ..);obtain ⟨y,hy⟩:c ∣ b:=Int.natAbs_dvd.mp (by rw [hc];exact Int.gcd_dvd_right ..);have e:c.natAbs*x.gcd y=c.natAbs*1:=by rw [<- Int.gcd_mul_left,<- hx,<- hy,<- hc,Nat.mul_one]
 subst hx hy;rw [Int.mul_fdiv_cancel_left _ c0,Int.mul_fdiv_cancel_left _ c0];refine ⟨?_,Nat.eq_of_mul_eq_mul_left (by omega) e,?_⟩
 . rcases Int.lt_or_gt_of_ne c0 with z|z
   . have:c*y<=0:=(by omega);rcases Int.lt_trichotomy y 0 with w|w|w
     . have:=Int.mul_pos_of_neg_of_neg z w;omega
     . subst w;simp at h
     . exact w
   . exact Int.pos_of_mul_pos_right (hs.mp z) z
 . rw [Int.mul_left_comm,Int.mul_assoc]
theorem BF {p q p' q':Int} (one:p.gcd q=1) (e:p*q'=p'*q):q.natAbs ∣ q'.natAbs:=by
 have h:Nat.Coprime q.natAbs p.natAbs:=by
   show Nat.gcd _ _=1;rw [Nat.gcd_comm];exact one
 refine h.dvd_of_dvd_mul_left (m:=p.natAbs) ?_;rw [<- Int.natAbs_mul,e,Int.natAbs_mul];exact Nat.dvd_mul_left ..
theorem V5 {p q p' q':Int} (h0:0<q) (h1:p.gcd q=1) (h0':0<q') (h1':p'.gcd q'=1) (e:p*q'=p'*q):p=p'/\q=q':=by
 have d1:=BF h1 e;have d2:=BF h1' e.symm;have:=Nat.dvd_antisymm d1 d2;have e2:q=q':=by omega
 subst e2;exact ⟨Int.eq_of_mul_eq_mul_right (Int.ne_of_gt h0) e,rfl⟩
theorem Qj (i:Int):(if i<0 then -i else i)=(i.natAbs:Int):=by split <;> omega
theorem lw {t b p q:Int} (h:Frc t b p q) (b0:b≠0):p.natAbs<=t.natAbs/\q.natAbs<=b.natAbs:=by
 refine ⟨?_,Nat.le_of_dvd (by omega) (BF h.one h.eq)⟩;by_cases c:t=0
 . have e:=h.eq;rw [c,Int.zero_mul] at e;rcases Int.mul_eq_zero.mp e with z|z
   . rw [z];exact Nat.zero_le _
   . exact absurd z b0
 . refine Nat.le_of_dvd (by omega) ?_;refine BF (p:=q) (p':=b) (by rw [Int.gcd_comm];exact h.one) ?_;rw [Int.mul_comm,<- h.eq,Int.mul_comm]
theorem VL {t b t' b' p q:Int} (h:Frc t b p q) (e:t*b'=t'*b) (b0:b≠0):Frc t' b' p q:=by
 refine ⟨h.pos,h.one,Int.eq_of_mul_eq_mul_right b0 ?_⟩
 calc (p*b')*b=(p*b)*b':=by ac_rfl
   _=(t*b')*q:=by rw [h.eq];ac_rfl
   _=(t'*q)*b:=by rw [e];ac_rfl
theorem Vh (t b:Int):Int.gcd (t.natAbs:Int) b=t.gcd b:=by
 unfold Int.gcd;rw [Int.natAbs_natCast]
def nG (fs:List (Int × Int)) (tb:Int × Int):Int × Int:=fs.foldl (fun z f=>(z.1*f.2+f.1*z.2,z.2*f.2)) tb
theorem Kq {B:Int}:∀ {fs:List (Int × Int)} {S:Int} {tb:Int × Int},(∀ f∈fs,f.2 ∣ B)->S*tb.2=tb.1*B->(S+(fs.map fun f=>f.1*(B / f.2)).sum)*(nG fs tb).2=(nG fs tb).1*B
 | [],S,tb,_,e=>by
   show (S+0)*tb.2=tb.1*B;rw [Int.add_zero];exact e
 | f::fs,S,tb,h,e=>by
   have ih:=Kq (fs:=fs) (S:=S+f.1*(B / f.2)) (tb:=(tb.1*f.2+f.1*tb.2,tb.2*f.2)) (fun g hg=>h g (.tail _ hg)) (by
     show (S+f.1*(B / f.2))*(tb.2*f.2)=(tb.1*f.2+f.1*tb.2)*B;have d:B / f.2*f.2=B:=Int.ediv_mul_cancel (h f (.head _))
     calc (S+f.1*(B / f.2))*(tb.2*f.2)=(S*tb.2)*f.2+f.1*tb.2*(B / f.2*f.2):=by rw [Int.add_mul];congr 1 <;> ac_rfl
       _=(tb.1*f.2+f.1*tb.2)*B:=by rw [e,d,Int.add_mul];congr 1;ac_rfl)
   rw [List.map_cons,List.sum_cons,<- Int.add_assoc];exact ih
theorem uG:∀ {fs:List (Int × Int)} {tb:Int × Int},(∀ f∈fs,0<f.2)->0<tb.2->0<(nG fs tb).2
 | [],_,_,h=>h
 | f::fs,tb,h,h2=>uG (fs:=fs) (tb:=(tb.1*f.2+f.1*tb.2,tb.2*f.2)) (fun g hg=>h g (.tail _ hg)) (Int.mul_pos h2 (h f (.head _)))
theorem SN {b q:Int} (b0:0<b) (q0:0<q):0<b*(q / (b.gcd q:Int))/\q ∣ b*(q / (b.gcd q:Int)):=by
 obtain ⟨x,hx⟩:=Int.gcd_dvd_left b q;obtain ⟨y,hy⟩:=Int.gcd_dvd_right b q;have gp:(0:Int)<b.gcd q:=by have:=Int.gcd_pos_of_ne_zero_right b (Int.ne_of_gt q0);omega
 have e:q / (b.gcd q:Int)=y:=by
   conv=>lhs;arg 1;rw [hy]
   exact Int.mul_ediv_cancel_left _ (Int.ne_of_gt gp)
 rw [e];have yp:0<y:=Int.pos_of_mul_pos_right (by rw [<- hy];exact q0) gp;refine ⟨Int.mul_pos b0 yp,x,?_⟩
 calc b*y=(b.gcd q*x)*y:=by rw [<- hx]
   _=(b.gcd q*y)*x:=by ac_rfl
   _=q*x:=by rw [<- hy]
end Pb
namespace L2
open PySem Pb
abbrev FrsAt (H:Hp):List Addr->List (Int × Int)->Prop:=Paired fun q f=>H q=some (.tup [.int f.1,.int f.2])
theorem FrsAt.same {H H':Hp} {qs:List Addr} {fs:List (Int × Int)} (e:Same H H') (h:FrsAt H qs fs):FrsAt H' qs fs:=Paired.imp' (fun q v x=>e q _ x) h
def FrB (n:Nat) (f:Int × Int):Prop:=0<f.2/\f.1.natAbs<2^n/\f.2.natAbs<2^n
def dFr (f:Int × Int):PyData:=.tuple [.int f.1,.int f.2]
theorem E6 {K:PySem.W.Frag} {H:Hp} {q:Addr} {f:Int × Int} (h:H q=some (.tup [.int f.1,.int f.2])):Deep K H (.ref q) (dFr f):=.tup (SqT.of h) (.cons (.int _) (.cons (.int _) .nil))
theorem Da {K:PySem.W.Frag} {H:Hp}:∀ {qs:List Addr} {fs:List (Int × Int)},FrsAt H qs fs->DeepAll K H (qs.map V.ref) (fs.map dFr)
 | _,_,.nil=>.nil
 | _,_,.cons x xs=>.cons (E6 x) (Da xs)
theorem Qg (f:Int × Int):PyData.eqv (dFr f) (dFr f)=true:=by simp [dFr,PyData.eqv,PyData.eqvAll]
theorem FV:∀ fs:List (Int × Int),PyData.eqvAll (fs.map dFr) (fs.map dFr)=true
 | []=>by simp [PyData.eqvAll]
 | f::fs=>by
   have h1:=Qg f;have h2:=FV fs;rw [List.map_cons];simp only [PyData.eqvAll,h1,h2,Bool.and_self]
theorem Ab:∀ fs:List (Int × Int),PyData.depthAll (fs.map dFr)<=1
 | []=>by simp [PyData.depthAll]
 | f::fs=>by
   have h2:=Ab fs;rw [List.map_cons];simp only [PyData.depthAll,dFr,PyData.depth];simp;omega
end L2
namespace L2
open PySem
theorem Oj {K:PySem.W.Frag} {i j:Nat} {a:Addr} {x y:V} {σ:St} {H:Hp} {Q:St->Hp->Prop} (h:SqT K H a [x,y]) (q:Q ((σ.set i (some x)).set j (some y)) H):Kj K 2 (Ef (yD i) (Ef (yD j) gNil)) (.ref a) σ H Q :=
 ⟨a,_,rfl,h,rfl,_,_,rfl,_,_,rfl,rfl,q⟩
end L2
namespace L2
open PySem
theorem Rq (f:Int × Int):(dFr f).depth<=40:=by simp [dFr,PyData.depth,PyData.depthAll]
theorem O7 {K:PySem.W.Frag} {H:Hp} {a b:Addr} {f:Int × Int} {Q:VK} (ha:H a=some (.tup [.int f.1,.int f.2])) (hb:H b=some (.tup [.int f.1,.int f.2])) (q:Q (.bl true) H):Wa K (.ref a) (.ref b) H Q :=
 ⟨_,_,E6 ha,E6 hb,Rq f,by rw [Qg];exact q⟩
end L2
namespace L2
open PySem PySem.Spec PyProof.Rows Pb
theorem vF {n:Nat}:∀ {fs:List (Int × Int)} {tb:Int × Int} {b:Nat},(∀ f∈fs,FrB n f)->tb.1.natAbs<2^b->tb.2.natAbs<2^b->(nG fs tb).1.natAbs<2^(b+fs.length*(n+1))/\(nG fs tb).2.natAbs<2^(b+fs.length*(n+1))
 | [],tb,b,_,h1,h2=>by
   rw [List.length_nil,Nat.zero_mul,Nat.add_zero];exact ⟨h1,h2⟩
 | f::fs,tb,b,h,h1,h2=>by
   obtain ⟨f0,fb1,fb2⟩:=h f (.head _);have a1:(tb.1*f.2+f.1*tb.2).natAbs<2^(b+n+1):=lx (bR h1 fb2) (by rw [Int.mul_comm];exact bR h2 fb1);have a2:(tb.2*f.2).natAbs<2^(b+n+1):=bc (bR h2 fb2) (by omega);have ih:=vF (fs:=fs) (tb:=(tb.1*f.2+f.1*tb.2,tb.2*f.2)) (b:=b+n+1) (fun g hg=>h g (.tail _ hg)) a1 a2;rw [List.length_cons,show b+(fs.length+1)*(n+1)=b+n+1+fs.length*(n+1) by rw [Nat.succ_mul];omega];exact ih
end L2
namespace L2
open PySem
abbrev Wu (K:PySem.W.Frag) (H:Hp):List Addr->List (Int × Int)->Prop:=Paired fun q f=>SqT K H q [.int f.1,.int f.2]
theorem FrsAt.k {K:PySem.W.Frag} {H:Hp} {qs:List Addr} {fs:List (Int × Int)} (h:FrsAt H qs fs):Wu K H qs fs:=Paired.imp' (fun q v x=>SqT.of x) h
def TupK (K:PySem.W.Frag) (a:Addr) (xs:List V):Prop:=∃ (o:Obj) (its:Array Value) (n:Nat),K.lookup a=some o/\o.cls=.type "tuple"/\o.data=.seq its n/\its.size<=sizeLine/\Vals xs its.toList
theorem Um {K:PySem.W.Frag} {a:Addr} {od:Option Addr} {i j:Int} {t u:Tok} {n:Nat} {sl:Array (Option Value)} (h:K.lookup a=some ⟨.type "tuple",od,.seq #[.int i t,.int j u] n,sl⟩):TupK K a [.int i,.int j] :=
 ⟨_,_,_,h,rfl,rfl,(by show 2<=sizeLine;decide),.cons ⟨_,rfl⟩ (.cons ⟨_,rfl⟩ .nil)⟩
theorem TupK.sq {K:PySem.W.Frag} {H:Hp} {a:Addr} {xs:List V} (h:TupK K a xs):SqT K H a xs:=.inr h
end L2
set_option Elab.async false
set_option linter.all false
set_option maxRecDepth 100000
namespace Pb
open L2 PySem
section
variable {m:Int} {rs:List Road} {r:Int} {par:Int->Int} {dep:Int->Nat}
end
section
variable {m:Int} {rs:List Road} {xs:List Int}
end
end Pb
set_option Elab.async false
set_option linter.all false
set_option maxRecDepth 100000
namespace L2
open PySem PySem.Spec PyProof.Rows PySem.W Pb
section
variable {X:Cx} {pins:List (Addr × Obj)} {σ:St} {H:Hp} {s:Shared}
end
def Itd (d:Addr) (o:Obj) (kvs:List (List Key × V)):It :=
 ⟨fun i H=>H d=some (.frz o (.dT kvs))/\i<kvs.length,fun i H x H'=>H'=H/\∃ (q:Addr) (k:List Key) (v:V),x=.ref q/\kvs[i]?=some (k,v)/\H q=some (.tup (k.map kV)),fun i H=>H d=some (.frz o (.dT kvs))/\i=kvs.length⟩
def Uk (tl:TE) (g:TG) (tb:TS):TS:=fun D σ H=>tl σ H fun x H1=>∃ (d:Addr) (kvs:List (List Key × V)),x=.ref d/\H1 d=some (.dT kvs) /\
 ∀ o,ph (Itd d o kvs) { D with nx:=fun σ' H'=>H' d=some (.frz o (.dT kvs))/\D.nx σ' (upd H' d (.dT kvs)) } g tb σ (upd H1 d (.frz o (.dT kvs)))
section
variable {X:Cx} {tg:Expr}
end
end L2
set_option Elab.async false
set_option linter.all false
set_option maxRecDepth 100000
namespace Pb
open L2 PySem
def eB {α:Type} (l:List α) (f:α->Rat):Rat:=l.foldr (fun x s=>f x+s) 0
section
variable {α β:Type}
theorem rh (x:α) (l:List α) (f:α->Rat):eB (x::l) f=f x+eB l f:=rfl
end
section
variable {m:Int} {rs:List Road} {r:Int} {par:Int->Int} {dep:Int->Nat}
def evp (rs:List Road) (u x:Int):Rat:=((jc rs u x:Int) - 1:Rat) / (jc rs u x*jc rs x u - 1)
def sep (rs:List Road) (u x:Int):Rat:=((jc rs x u:Int) - 1:Rat) / (jc rs x u*jc rs u x - 1)
def shr (m:Int) (rs:List Road) (F:Int->Int->Rat) (u:Int):Rat:=1 - eB (cN m rs u) (F u)
theorem Jk (g:Good m rs) {u x:Int} (h:Adj rs u x):2<=jc rs u x/\jc rs u x<=1000000:=by
 obtain ⟨k,e,h1,h2⟩:=kb g h;unfold jc;rw [e];exact ⟨h1,h2⟩
theorem eY {a:Int} (ha:a≠0):(a:Rat)≠0:=fun z=>ha (Rat.intCast_inj.mp (z.trans rfl))
theorem u9:∀ {fs:List (Int × Int)} {tb:Int × Int},(∀ f∈fs,f.2≠0)->tb.2≠0->(((nG fs tb).1:Int):Rat) / (nG fs tb).2=(tb.1:Rat) / tb.2+eB fs (fun f=>(f.1:Rat) / f.2)
 | [],tb,_,_=>(Rat.add_zero _).symm
 | f::fs,tb,h,h2=>by
   have f2:=h f (.head _);have ih:=u9 (fs:=fs) (tb:=(tb.1*f.2+f.1*tb.2,tb.2*f.2)) (fun g hg=>h g (.tail _ hg)) (Int.mul_ne_zero h2 f2);rw [rh];have n1:=eY f2;have n2:=eY h2;refine ih.trans ?_;show ((tb.1*f.2+f.1*tb.2:Int):Rat) / ((tb.2*f.2:Int):Rat)+_=_;rw [Rat.intCast_add,Rat.intCast_mul,Rat.intCast_mul,Rat.intCast_mul]
   grind
theorem lX {t b p q:Int} (h:Frc t b p q) (b0:b≠0):(p:Rat) / q=(t:Rat) / b:=by
 have n1:=eY b0;have n2:=eY (Int.ne_of_gt h.pos);have e:(p:Rat)*b=t*q:=by rw [<- Rat.intCast_mul,<- Rat.intCast_mul,h.eq]
 grind
theorem P0 {a b c d:Int} (b0:b≠0) (d0:d≠0) (h:(a:Rat) / b=(c:Rat) / d):a*d=c*b:=by
 have n1:=eY b0;have n2:=eY d0;have e:(a:Rat)*d=c*b:=by grind
 rw [<- Rat.intCast_mul,<- Rat.intCast_mul] at e;exact Rat.intCast_inj.mp e
end
end Pb
namespace Pb
open L2 PySem
theorem lL {α:Type} (l:List α) (x:α) (f:α->Rat):eB (l++[x]) f=eB l f+f x:=by
 induction l with
 | nil=>show f x+0=0+f x;grind
 | cons y l ih=>rw [List.cons_append,rh,rh,ih];grind
def We (tl:Int->Int) (par:Int->Int):Nat->Int->Int
 | 0,_=>1
 | n+1,u=>tl u*We tl par n (par u)
def tlf (rs:List Road) (par:Int->Int) (to:Bool) (u:Int):Int:=if to=true then jc rs u (par u) else jc rs (par u) u
def prc (rs:List Road) (par:Int->Int) (dep:Int->Nat) (to:Bool) (u:Int):Int:=We (tlf rs par to) par (dep u) u
section
variable {m:Int} {rs:List Road} {r:Int} {par:Int->Int} {dep:Int->Nat} {to:Bool}
theorem DA (R:Rooted m rs r par dep):prc rs par dep to r=1:=by unfold prc;rw [R.root];rfl
theorem Kp (R:Rooted m rs r par dep) {c:Int} (c0:0<=c) (c1:c<m) (cr:c≠r):prc rs par dep to c=tlf rs par to c*prc rs par dep to (par c):=by
 have:=(R.up c c0 c1 cr).2.2;unfold prc;rw [<- this]
 rfl
theorem MJ (g:Good m rs) (R:Rooted m rs r par dep) {c:Int} (c0:0<=c) (c1:c<m) (cr:c≠r):2<=tlf rs par to c/\tlf rs par to c<=1000000:=by
 have ad:=(R.up c c0 c1 cr).2.1;unfold tlf;split
 . exact Jk g ad
 . exact Jk g ad.symm
theorem yY (g:Good m rs) (R:Rooted m rs r par dep):∀ (n:Nat) {c:Int},dep c=n->0<=c->c<m->0<prc rs par dep to c/\(prc rs par dep to c).natAbs<2^(n*20+1):=by
 intro n
 induction n with
 | zero =>
   intro c e c0 c1;unfold prc;rw [e];show (0:Int)<1/\(1:Int).natAbs<2^1;exact ⟨by decide,by decide⟩
 | succ n ih =>
   intro c e c0 c1;have cr:c≠r:=fun z=>by rw [z,R.root] at e;cases e
   obtain ⟨u1,_,u3⟩:=R.up c c0 c1 cr;obtain ⟨h1,h2⟩:=ih (c:=par c) (by omega) u1.1 u1.2;obtain ⟨t1,t2⟩:=MJ (to:=to) g R c0 c1 cr;rw [Kp R c0 c1 cr];refine ⟨Int.mul_pos (by omega) h1,?_⟩;rw [show (n+1)*20+1=20+(n*20+1) by omega];exact bR (by omega) h2
end
end Pb
namespace Pb
open L2 PySem
theorem CK {α β:Type} {f:α->Rat} {k:β->Rat}:∀ {l:List α} {l':List β},l.length=l'.length->(∀ (i:Nat) x y,l[i]?=some x->l'[i]?=some y->f x=k y)->eB l f=eB l' k
 | [],[],_,_=>rfl
 | x::l,y::l',hl,h=>by
   rw [rh,rh,h 0 x y rfl rfl,CK (l:=l) (l':=l') (by simpa using hl) fun i x y h1 h2=>h (i+1) x y (by simpa using h1) (by simpa using h2)]
theorem RZ {n i:Nat} {u:Int} (h:(below n)[i]?=some u):u=(i:Int):=by
 have hl:=(List.getElem?_eq_some_iff.mp h).1;rw [bo] at hl;unfold below at h;rw [List.getElem?_map,List.getElem?_range hl] at h;exact (Option.some.inj h).symm
end Pb
namespace Pb
open L2 PySem
end Pb
set_option Elab.async false
set_option linter.all false
set_option maxRecDepth 100000
namespace L2
open PySem PySem.Spec PyProof.Rows
section
variable {X:Cx} {cx:Str} {Nc:List Str} {own:Nat} {js:List Nat} {scope:Scope} {cl:List (Str × Addr)}
end
section
variable {X:Cx} {cx:Str} {Nc:List Str} {own:Nat} {js:List Nat} {scope:Scope} {cl:List (Str × Addr)}
end
end L2
set_option Elab.async false
set_option linter.all false
set_option maxRecDepth 100000
namespace L2
open PySem PySem.Spec PyProof.Rows PySem.W
section
variable {X:Cx}
end
def Its (z:Str):It:=⟨fun i _=>i<z.cps.size,fun i H x H'=>H'=H/\∃ c,z.cps[i]?=some c/\x=.str ⟨#[c]⟩,fun i _=>z.cps.size<=i⟩
section
variable {X:Cx} {tg:Expr}
def Wd (tl:TE):TI:=fun σ H R=>tl σ H fun x H1=>∃ z,x=.str z/\z.cps.all (·<128)=true/\R (Its z) H1
end
section
variable {P:Program} {w:World} {A:Around} {E:Value->Shared->Prop} {s:Shared}
end
section
variable {X:Cx} {e:Expr} {te:TE} {p2 apos cpos pos2:Pos} {z:Str} {zp:Pos} {zk:Nat}
def Pr (K:PySem.W.Frag) (z:Str) (te:TE):TE:=fun σ H Q=>te σ H fun x H1=>∃ (a:Addr) (ys:List Str),x=.ref a/\SqL K H1 a (ys.map V.str)/\(ys.map (·.length)).sum+ys.length*z.length<=16777216/\Q (.str (Str.join z ys.reverse)) H1
end
end L2
set_option Elab.async false
set_option linter.all false
set_option maxRecDepth 100000
namespace Pb
open L2 PySem PySem.W NumText
end Pb
set_option Elab.async false
set_option linter.all false
set_option maxRecDepth 100000
namespace L2
open PySem PySem.Spec PyProof.Rows PySem.W
end L2
namespace Pb
open L2 PySem PySem.W NumText
open PySem.StrLaws (At ChainG occ_tight partsBetween_eq partsFrom strSub_toList subAt_eq sub_whole)
section
variable {X:Str} {u c v:Nat}
end
end Pb
set_option Elab.async false
set_option linter.all false
set_option maxRecDepth 100000
namespace L2
open PySem PySem.Spec PyProof.Rows PySem.W
end L2
namespace Pb
open L2 PySem PySem.W NumText
end Pb
set_option Elab.async false
set_option linter.all false
set_option maxRecDepth 100000
namespace Pb
open L2 PySem
section
variable {m:Int} {rs:List Road} {r:Int} {par:Int->Int} {dep:Int->Nat} {held:Int->Int}
theorem Nw:∀ (xs:List Int),(List.range xs.length).map (fun i=>xs.getD i 0)=xs:=fun xs=>by
 refine List.ext_getElem? fun i=>?_;rw [List.getElem?_map];by_cases h:i<xs.length
 . rw [List.getElem?_range h,List.getElem?_eq_getElem h];show some (xs.getD i 0)=_;rw [List.getD,List.getElem?_eq_getElem h]
   rfl
 . rw [List.getElem?_eq_none (by rw [List.length_range];omega),List.getElem?_eq_none (by omega)]
   rfl
structure Pso (m:Int) (rs:List Road) (r:Int) (par:Int->Int) (dep:Int->Nat) (to:Bool) (t cs:List Int):Prop where
 len:(cs.length:Int)=m
 val:∀ u∈r::t,cs.getD u.toNat 0=prc rs par dep to u
theorem Pso.ahead (R:Rooted m rs r par dep) {tl:List Int} (O:Order m r par tl) {i:Nat} {v:Int} (hv:tl[i]?=some v):par v∈r::tl.take i/\v ∉ r::tl.take i:=by
 have vm:=List.mem_of_getElem? hv;have vr:=O.rng v vm;have vn:=O.ne vm;have ndt:=(List.nodup_cons.mp O.nd).2;have es:tl=tl.take (i+1)++tl.drop (i+1):=(List.take_append_drop _ _).symm;have et:tl.take (i+1)=tl.take i++[v]:=by rw [List.take_succ,hv];rfl
 have nv:v ∉ tl.take i:=fun z=>by
   have nd:=ndt;rw [es,et] at nd;exact (List.nodup_append.mp (List.nodup_append.mp nd).1).2.2 v z v (List.mem_singleton.mpr rfl) rfl
 refine ⟨?_,fun z=>(List.mem_cons.mp z).elim vn nv⟩;have af:=O.af;rw [es] at af;rcases af.up v (by rw [et];exact List.mem_append_right _ (.head _)) with x|x
 . rw [List.mem_singleton.mp x];exact .head _
 . rw [et] at x;rcases List.mem_append.mp x with x|x
   . exact .tail _ x
   . exact absurd (List.mem_singleton.mp x) (R.ne vr.1 vr.2 vn)
theorem Pso.step (R:Rooted m rs r par dep) {to:Bool} {tl cs:List Int} (O:Order m r par tl) (r0:0<=r) {i:Nat} {v y:Int} (S:Pso m rs r par dep to (tl.take i) cs) (hv:tl[i]?=some v) (hy:y=cs.getD (par v).toNat 0*tlf rs par to v):Pso m rs r par dep to (tl.take (i+1)) (cs.set v.toNat y):=by
 have sl:=S.len;have vm:=List.mem_of_getElem? hv;have vr:=O.rng v vm;have vn:=O.ne vm;obtain ⟨pa,nv⟩:=Pso.ahead R O hv;have et:tl.take (i+1)=tl.take i++[v]:=by rw [List.take_succ,hv];rfl
 refine ⟨by rw [List.length_set];exact sl,fun u hu=>?_⟩;rw [et,<- List.cons_append] at hu;rcases List.mem_append.mp hu with hu|hu
 . have ur:0<=u:=by
     rcases List.mem_cons.mp hu with h|h
     . rw [h];exact r0
     . exact (O.rng u ((List.take_sublist i tl).subset h)).1
   have un:u≠v:=fun z=>nv (z ▸ hu);rw [Kr _ _ _ _ (by omega),if_neg (by omega)];exact S.val u hu
 . rw [List.mem_singleton.mp hu,Kr _ _ _ _ (by omega),if_pos rfl,hy,S.val _ pa,Kp R vr.1 vr.2 vn,Int.mul_comm]
theorem Pso.done (g:Good m rs) {to:Bool} {tl cs:List Int} (O:Order m r par tl) (S:Pso m rs r par dep to tl cs):cs=(below m.toNat).map (prc rs par dep to):=by
 have sl:=S.len;have h:(below m.toNat).map (prc rs par dep to)=(below m.toNat).map fun v=>cs.getD v.toNat 0:=List.map_congr_left fun v hv=>by
   obtain ⟨v0,v1⟩:=gg.mp hv;exact (S.val v (List.mem_cons.mpr (O.all v v0 (by omega)))).symm
 rw [h];unfold below;rw [List.map_map,show m.toNat=cs.length by omega];exact (Nw cs).symm
end
end Pb
set_option Elab.async false
set_option linter.all false
set_option maxRecDepth 100000
namespace L2
open PySem PySem.Spec PyProof.Rows
section
variable {prog:Program} {w:World} {A:Around} {E:Value->Shared->Prop} {R:Result->Shared->Prop} {s:Shared}
end
section
variable {M:Model} {A:Around} {E:Value->Shared->Prop} {s:Shared} {Q:Unit->Shared->Prop} {fs:List Addr} {ea T L:Addr} {cls fl hd:Value} {od:Option Addr} {base:Heap} {env:Env} {outer:List Env}
end
section
variable {P:Program} {w:World} {K:PySem.W.Frag} {mg:Str->Option Value} {base:Heap} {N:List Str} {qual:Str} {scope:Scope} {f:Addr} {cd:Value} {A:Around} {outer:List Env} {s:Shared} {H:Hp} {E:XK}
end
section
variable {X:Cx} {Nc:List Str} {own:Nat} {js:List Nat} {scope:Scope} {cl:List (Str × Addr)}
end
section
variable {X:Cx} {Nc:List Str} {own:Nat} {js:List Nat} {scope:Scope} {cl:List (Str × Addr)}
end
section
variable {X:Cx}
end
end L2
set_option Elab.async false
set_option linter.all false
set_option maxRecDepth 100000
namespace L2
open PySem PySem.Spec PyProof.Rows
section
variable {prog:Program} {w:World} {A:Around} {E:Value->Shared->Prop} {h:Heap} {g:Array GenState} {d:Drawn} {t:Nat} {os:OsState}
variable {nm q:Str} {C N:Addr} {bs bm bmB:List Value} {hdct:Bool} {sn:List Str} {sub:List Value} {ab:Bool} {col:Option Bool} {dd:Option Addr} {k0 k1 k2 k3 k5:Option Value} {B newId initId:String}
end
section
variable {M:Model} {A:Around} {E:Value->Shared->Prop} {env:Env}
variable {nm q:Str} {C N:Addr} {bs bm:List Value} {hdct:Bool} {sn:List Str} {sub:List Value} {ab:Bool} {col:Option Bool} {dd:Option Addr} {k0 k1 k2 k3 k5:Option Value} {newId:String}
end
section
variable {prog:Program} {w:World} {A:Around} {E:Value->Shared->Prop} {s:Shared} {env:Env}
variable {nm q:Str} {C N:Addr} {bs bm bmB:List Value} {hdct:Bool} {sn:List Str} {sub:List Value} {ab:Bool} {col:Option Bool} {dd:Option Addr} {k0 k1 k2 k3 k5:Option Value} {B newId initId:String}
end
section
variable {X:Cx} {pins:List (Addr × Obj)} {σ:St} {H:Hp} {s:Shared}
end
section
variable {P:Program} {w:World} {K:PySem.W.Frag} {mg:Str->Option Value} {base:Heap} {N:List Str} {qual:Str} {scope:Scope} {f:Addr} {cd:Value} {A:Around} {outer:List Env} {s:Shared} {H:Hp} {E:XK}
end
section
variable {X:Cx} {x:Str} {np cpos pos:Pos} {e0:Expr} {es:List Expr} {t:TA} {C fI:Addr} {E:XK} {CX:CXT} {k:Nat} {fd:FuncData} {ps:List Str} {sp:Sp}
end
section
variable {X:Cx} {x:Str} {np apos pos:Pos} {e0:Expr} {es:List Expr} {t:TA} {Tl:Addr} {pl:Sem Bool}
end
end L2
set_option Elab.async false
set_option linter.all false
set_option maxRecDepth 100000
namespace L2
open PySem PySem.Spec PyProof.Rows PySem.W PySem.Builtin PySem.Builtin.ObjectAttr
section
variable {K:PySem.W.Frag} {prog:Program} {w:World} {A:Around} {s:Shared} {x C Tl:Addr} {R:Result->Shared->Prop}
end
section
variable {X:Cx} {pins:List (Addr × Obj)} {σ:St} {H:Hp} {s:Shared}
end
section
variable {X:Cx} {pins:List (Addr × Obj)} {σ:St} {H:Hp} {s:Shared} {A:Around} {E:Value->Shared->Prop} {ea C Tl:Addr} {f:Str}
end
section
variable {X:Cx} {o value:Expr} {ta tv:TE} {f:Str} {pos pos':Pos}
end
section
variable {prog:Program} {w:World} {A:Around} {E:Value->Shared->Prop} {s:Shared} {K:PySem.W.Frag} {x C:Addr} {ox:Obj} {od:Obj}
end
section
variable {X:Cx} {o:Expr} {ta:TE} {f:Str} {pos:Pos}
end
end L2
set_option Elab.async false
set_option linter.all false
set_option maxRecDepth 100000
namespace L2
open PySem
def Qu (K:PySem.W.Frag) (C':Addr) (ts:TS) (tr:TH):TH:=fun D σ cls od H=>∃ C b,cls=.ref C/\PySem.W.mroIn K C (.ref C')=some b/\if b=true then ts D σ H else tr D σ cls od H
section
variable {X:Cx} {x:Str} {np pos:Pos} {C':Addr} {b0:Stmt} {suite:List Stmt} {kc:List ExceptHandler} {ts:TS} {tr:TH}
end
end L2
namespace Pb
open L2 PySem
end Pb
set_option Elab.async false
set_option linter.all false
set_option maxRecDepth 100000
namespace Pb
open L2 PySem
section
variable {m:Int} {rs:List Road}
end
section
variable {m:Int} {rs:List Road} {r:Int} {par:Int->Int} {dep:Int->Nat} {st:Int->Int} {xs ys:List Int}
end
end Pb
set_option Elab.async false
set_option linter.all false
set_option maxRecDepth 100000
namespace L2
open PySem PySem.Spec PyProof.Rows
section
variable {X:Cx}
theorem QL (hc:X.calm=true):kY X (.builtin "min") (fun xs H Q=>∃ (p:Addr) (ns:List Int),xs=[.ref p]/\SqL X.K H p (ns.map V.int)/\ns≠[]/\∀ y,y∈ns->(∀ x∈ns,y<=x)->Q (.int y) H):=by
 intro pins s σ H xs us Q I r h;obtain ⟨p,ns,rfl,hp,hne,q⟩:=h;obtain ⟨u,rfl,ru⟩:=oY r;cases ru;have hh:X.A.in1.handled=none:=I.ok.hd hc;obtain ⟨its,rv,pl,hz⟩:=I.list hp;have hlen:its.length=ns.length:=by rw [<- rv.length,List.length_map]
 have hv:∀ (i:Nat) (v:Value),its.toArray[i]?=some v->∃ t,v=Value.int (ns.getD i 0) t:=fun i v hP=>by
   have hi:its[i]?=some v:=by simpa using hP
   have hib:i<ns.length:=by rw [<- hlen];exact (List.getElem?_eq_some_iff.mp hi).1
   obtain ⟨u,hu,ru⟩:=rv.get (i:=i) (x:=V.int ns[i]) (by rw [List.getElem?_map,List.getElem?_eq_getElem hib];rfl);rw [hi] at hu;cases hu;obtain ⟨t,e⟩:=(show ∃ t,v=Value.int ns[i] t from ru);exact ⟨t,by rw [e];simp [List.getD,hib]⟩
 have hl:=pl.isList;have hlt:=pl.lt;have n0:0<ns.length:=List.length_pos_iff.mpr hne;refine call_min_walk (wpAny_pyIter_list hl ?_);refine ⟨s.heap.objs.size,[s.heap.objs.size,p],[s.heap.objs.size],its.toArray.size,_,_,_,rfl,Walks.list (A:=X.A.in1) hh _ p (Nat.ne_of_lt hlt) its.toArray,
   ⟨⟨_,Heap.get?_push_size _ rfl,rfl,rfl⟩,hl.push _⟩,fun b hb=>?_,by rw [List.size_toArray,hlen];exact n0,CmpOf.ints_lt (fun i=>ns.getD i 0) fun i v hP=>hv i v hP,fun v h' tk hP hk=>?_⟩
 . simp only [Heap.push,Array.size_push];rcases List.mem_cons.mp hb with e|e
   . rw [e];exact Nat.lt_succ_self _
   . rw [List.mem_singleton.mp e];exact Nat.lt_succ_of_lt hlt
 . have kk:∀ b o,s.heap.get? b=some o->h'.get? b=some o:=fun b o eb=>hk b o (fun hm=>by rw [List.mem_singleton.mp hm] at eb;exact Nat.lt_irrefl _ (Heap.lt_size eb)) (Heap.get?_push_of_some _ eb);obtain ⟨t,rfl⟩:=hv _ v hP;obtain ⟨a1,a2⟩:=Cf (fun i=>ns.getD i 0) (its.toArray.size - 1);rw [List.size_toArray,hlen] at a1 a2 ⊢;generalize argBest (fun i j=>decide (ns.getD i 0<ns.getD j 0)) (ns.length - 1)=b at a1 a2 ⊢;have hb:b<ns.length:=by omega
   refine ⟨.int _,H,I.kept (t':=tk) kk,⟨t,rfl⟩,q _ ?_ fun x hx=>?_⟩
   . rw [List.getD,List.getElem?_eq_getElem hb];exact List.getElem_mem hb
   . obtain ⟨i,hi,rfl⟩:=List.getElem_of_mem hx;have:=a2 i (by omega);have e:ns.getD i 0=ns[i]:=(by rw [List.getD,List.getElem?_eq_getElem hi];rfl);rw [e] at this;exact this
def VX (t:TE):TE:=fun σ H Q=>t σ H fun x H1=>∃ b,x=.bl b/\Q (.bl (b == true)) H1
end
end L2
namespace Pb
open L2 PySem
theorem UR {a:Int} (h:0<=a):(0:Rat)<=(a:Rat):=Rat.intCast_le_intCast.mpr h
theorem Bp {a:Int} (h:0<a):(0:Rat)<(a:Rat):=Rat.intCast_lt_intCast.mpr h
theorem VQ {a b:Rat} (h:0<=a) (k:0<b):0<=a / b:=by
 rw [Rat.div_def];exact Rat.mul_nonneg h (Rat.le_of_lt (Rat.inv_pos.mpr k))
section
variable {m:Int} {rs:List Road} {r:Int} {par:Int->Int} {dep:Int->Nat} {P:Int->Int} {xs:List Int}
end
theorem Uq {p q:Int} (h:0<q):((p:Rat) / q<0)↔p<0:=by
 have hq:=Bp h
 constructor
 . intro z;refine Int.not_le.mp fun w=>?_;exact absurd (VQ (UR w) hq) (Rat.not_le.mpr z)
 . intro z;refine Rat.not_le.mp fun w=>?_;have e:(p:Rat)=(p:Rat) / q*q:=by
     have:(q:Rat)≠0:=eY (by omega)
     grind
   have:=Rat.mul_nonneg w (Rat.le_of_lt hq);rw [<- e] at this;have:=Rat.intCast_le_intCast.mp (show ((0:Int):Rat)<=(p:Rat) from this);omega
theorem IR {f g:Int × Int} (hf:0<f.2) (hg:0<g.2):f.1*g.2<g.1*f.2↔(f.1:Rat) / f.2<(g.1:Rat) / g.2:=by
 have h1:=Bp hf;have h2:=Bp hg;have n1:(f.2:Rat)≠0:=eY (by omega);have n2:(g.2:Rat)≠0:=eY (by omega);have e:(f.1:Rat) / f.2 - (g.1:Rat) / g.2=((f.1*g.2 - g.1*f.2:Int):Rat) / ((f.2*g.2:Int):Rat):=by
   rw [Rat.intCast_sub,Rat.intCast_mul,Rat.intCast_mul,Rat.intCast_mul]
   grind
 have k:=Uq (p:=f.1*g.2 - g.1*f.2) (q:=f.2*g.2) (Int.mul_pos hf hg);rw [<- e] at k
 constructor
 . intro z;have:=k.mpr (by omega)
   grind
 . intro z;have:=k.mp (by grind);omega
theorem K0 {m:Int} {fs:List (Int × Int)} {S:Int->Rat} (fl:(fs.length:Int)=m) (fv:∀ (i:Nat) f,fs[i]?=some f->(f.1:Rat) / f.2=S i):eB fs (fun f=>(f.1:Rat) / f.2)=eB (below m.toNat) S:=by
 refine CK (by rw [bo];omega) fun i f u hf hu=>?_;rw [RZ hu];exact fv i f hf
theorem Sr {m:Int} {fs:List (Int × Int)} {S:Int->Rat} {p q:Int} (f0:∀ f∈fs,0<f.2) (fl:(fs.length:Int)=m) (fv:∀ (i:Nat) f,fs[i]?=some f->(f.1:Rat) / f.2=S i) (fr:Frc (nG fs (0,1)).1 (nG fs (0,1)).2 p q):(p:Rat) / q=eB (below m.toNat) S:=by
 have mp:=uG (fs:=fs) (tb:=(0,1)) f0 (by decide);have mr:=u9 (fs:=fs) (tb:=(0,1)) (fun f h=>Int.ne_of_gt (f0 f h)) (by decide);rw [lX fr (Int.ne_of_gt mp),mr,K0 fl fv];rw [show (((0:Int),(1:Int)).1:Rat) / ((0:Int),(1:Int)).2=0 from by show ((0:Int):Rat) / ((1:Int):Rat)=0;rw [show ((0:Int):Rat)=0 from rfl,Rat.div_def,Rat.zero_mul],Rat.zero_add]
end Pb
set_option Elab.async false
set_option linter.all false
set_option maxRecDepth 100000
namespace Pb
open L2 PySem
def Bar (p:Addr) (H H':Hp):Prop:=∀ b o,H b=some o->b≠p->H' b=some o
theorem Bar.refl (p:Addr) (H:Hp):Bar p H H:=fun _ _ e _=>e
theorem Bar.pot {p:Addr} {H H':Hp} (h:Bar p H H') (z:HO):Bar p H (upd H' p z):=fun b o e n=>by rw [ao n];exact h b o e n
theorem Bar.put {p:Addr} {H H':Hp} (h:Bar p H H') {t:Addr} (ht:H t=none) (z:HO):Bar p H (upd H' t z):=fun b o e n=>by rw [ao (aG e ht)];exact h b o e n
theorem Bar.trans {p:Addr} {H H' H2:Hp} (h:Bar p H H') (h2:Bar p H' H2):Bar p H H2:=fun b o e n=>h2 b o (h b o e n) n
theorem Bar.same {p:Addr} {H H' H2:Hp} (h:Bar p H H') (h2:Same H' H2):Bar p H H2:=fun b o e n=>h2 _ _ (h b o e n)
theorem Bar.free {p:Addr} {H H':Hp} (h:Bar p H H') {t:Addr} {x:HO} (hp:H p=some x) {y:HO} (hp':H' p=some y) (ht:H' t=none):H t=none:=by
 rcases e:H t with _|o
 . rfl
 . by_cases z:t=p
   . subst z;rw [hp'] at ht;cases ht
   . rw [h t o e z] at ht;cases ht
theorem BD (x:Int) {n:Int} (h:0<n):0<=x % n/\x % n<n:=⟨Int.emod_nonneg x (Int.ne_of_gt h),Int.emod_lt_of_pos x h⟩
end Pb
set_option Elab.async false
set_option linter.all false
set_option maxRecDepth 100000
namespace L2
open PySem PySem.Spec PyProof.Rows
section
variable {prog:Program} {w:World} {A:Around} {E:Value->Shared->Prop} {s:Shared}
end
section
variable {X:Cx} {tg:Expr} {Nc:List Str} {own:Nat} {js:List Nat} {scope:Scope} {cl:List (Str × Addr)}
end
section
variable {X:Cx} {x n:Str} {np pos:Pos} {i:Nat} {C':Addr} {b0:Stmt} {suite:List Stmt} {kc:List ExceptHandler} {ts:Addr->TS} {tr:TH}
end
end L2
namespace Pb
open L2 PySem
theorem ia {n m:Nat} {f:Int × Int} (h:FrB n f) (l:n<=m):FrB m f:=⟨h.1,bc h.2.1 l,bc h.2.2 l⟩
end Pb
set_option Elab.async false
set_option linter.all false
set_option maxRecDepth 100000
namespace Pb
open L2 PySem
def oA (m:Int) (fs:List (Int × Int)):Bool:=decide ((fs.length:Int)=m) && fs.all fun f=>decide (0<=f.1)
theorem Ck:∀ (fs:List (Int × Int)),((fs.map fun f=>decide (f.1<0)).any id)=!(fs.all fun f=>decide (0<=f.1))
 | []=>rfl
 | f::fs=>by
   rw [List.map_cons,List.any_cons,List.all_cons,Ck fs];by_cases c:f.1<0
   . rw [id,decide_eq_true c,decide_eq_false (by omega:¬ 0<=f.1)];rfl
   . rw [id,decide_eq_false c,decide_eq_true (by omega:0<=f.1)];rfl
theorem MO:((1:Int):Rat) / ((1:Int):Rat)=1:=by
 show (1:Rat) / (1:Rat)=1
 grind
theorem F1 {x y:Int} {W:Rat} (y0:0<y) (e:(x:Rat) / y=W):decide (x*1<1*y)=decide (W<1):=by
 have z:x*1<1*y↔(x:Rat) / y<((1:Int):Rat) / ((1:Int):Rat):=IR (f:=(x,y)) (g:=(1,1)) y0 (by decide);rw [MO,e] at z;exact decide_eq_decide.mpr z
theorem Dg {x y:Int} {W:Rat} (y0:0<y) (e:(x:Rat) / y=W):decide (1*y<x*1)=decide (1<W):=by
 have z:1*y<x*1↔((1:Int):Rat) / ((1:Int):Rat)<(x:Rat) / y:=IR (f:=(1,1)) (g:=(x,y)) (by decide) y0;rw [MO,e] at z;exact decide_eq_decide.mpr z
theorem PK {fs:List (Int × Int)} {p q:Int} (f0:∀ f∈fs,0<f.2) (fr:Frc (nG fs (0,1)).1 (nG fs (0,1)).2 p q):(p:Rat) / q=eB fs (fun f=>(f.1:Rat) / f.2):=by
 have fv:∀ (i:Nat) f,fs[i]?=some f->(f.1:Rat) / f.2=(fun u:Int=>((fs.getD u.toNat (0,1)).1:Rat) / ((fs.getD u.toNat (0,1)).2:Rat)) (i:Int):=fun i f hf=>by
   show _=((fs.getD (i:Int).toNat (0,1)).1:Rat) / ((fs.getD (i:Int).toNat (0,1)).2:Rat);rw [Int.toNat_natCast,List.getD,hf]
   rfl
 exact (Sr (S:=fun u:Int=>((fs.getD u.toNat (0,1)).1:Rat) / ((fs.getD u.toNat (0,1)).2:Rat)) f0 rfl fv fr).trans (K0 (S:=fun u:Int=>((fs.getD u.toNat (0,1)).1:Rat) / ((fs.getD u.toNat (0,1)).2:Rat)) rfl fv).symm
theorem BM {n:Nat} {P:Nat->Bool}:((List.range n).map P).any id=true↔∃ v,v<n/\P v=true:=by
 rw [List.any_eq_true]
 constructor
 . rintro ⟨x,hx,h⟩;obtain ⟨v,hv,rfl⟩:=List.mem_map.mp hx;exact ⟨v,List.mem_range.mp hv,h⟩
 . rintro ⟨v,hv,h⟩;exact ⟨_,List.mem_map.mpr ⟨v,List.mem_range.mpr hv,rfl⟩,h⟩
theorem UM {p q x y:Int} (h:¬ (p=x/\q=y)):PyData.eqv (.tuple [.int p,.int q]) (.tuple [.int x,.int y])=false:=by
 simp only [PyData.eqv,PyData.eqvAll,Bool.and_true];by_cases c:p=x
 . have:q≠y:=fun z=>h ⟨c,z⟩;simp [c,this]
 . simp [c]
def oP (m:Int) (rs:List Road) (par:Int->Int) (dep:Int->Nat) (to:Bool) (fs:List (Int × Int)):Rat:=eB (fs.zip ((below m.toNat).map (prc rs par dep to))) (fun z=>(z.1.1:Rat) / z.1.2 / z.2)
structure Shown (m:Int) (rs:List Road) (pr:Int->Int->Int) (dp:Int->Int->Nat) (fs gs:List (Int × Int)):Prop where
 f:oA m fs=true
 g:oA m gs=true
 lo:∀ v,0<=v->v<m->¬ oP m rs (pr v) (dp v) true fs<1
 hi:∀ v,0<=v->v<m->¬ 1<oP m rs (pr v) (dp v) false gs
 eq:eB fs (fun f=>(f.1:Rat) / f.2)=eB gs (fun f=>(f.1:Rat) / f.2)
theorem BL {H:Hp} {qs:List Addr} {fs:List (Int × Int)} (h:FrsAt H qs fs) {i:Int} (i0:0<=i) (i1:i<fs.length):∃ q f,atI (qs.map V.ref) i=some (.ref q)/\H q=some (.tup [.int f.1,.int f.2])/\f∈fs:=by
 have hl:qs.length=fs.length:=Paired.length h;have j:i.toNat<qs.length:=by omega
 obtain ⟨f,e,x⟩:=mL h (List.getElem?_eq_getElem j);exact ⟨_,f,iW i0 (by rw [List.getElem?_map,List.getElem?_eq_getElem j];rfl),x,List.mem_of_getElem? e⟩
theorem W0 {n:Nat} {i:Int} (i0:0<=i) (i1:i<n):ixN n i=some i.toNat:=by
 unfold ixN;rw [if_pos i0,if_pos (by omega)]
theorem MM {α β:Type} {R:α->β->Prop} {a:α} {b:β} (h:R a b):∀ {l₁:List α} {l₂:List β} (i:Nat),Paired R l₁ l₂->Paired R (l₁.set i a) (l₂.set i b)
 | _,_,_,.nil=>.nil
 | _,_,0,.cons _ xs=>.cons h xs
 | _,_,i+1,.cons x xs=>.cons x (MM h i xs)
theorem xo {G:Hp} {a q:Addr} {qs:List Addr} {fs:List (Int × Int)} {f:Int × Int} {i:Int} {Q:Hp->Prop} (e:G a=some (.lst (qs.map V.ref))) (fa:FrsAt G qs fs) (i0:0<=i) (i1:i<fs.length) (hx:G q=some (.tup [.int f.1,.int f.2]))
   (k:∀ G',(∀ b o,G b=some o->b≠a->G' b=some o)->G' a=some (.lst ((qs.set i.toNat q).map V.ref))->FrsAt G' (qs.set i.toNat q) (fs.set i.toNat f)->Q G'):rSetL (.ref a) (.int i) (.ref q) G Q:=by
 have hl:qs.length=fs.length:=Paired.length fa;refine ⟨a,_,i,i.toNat,rfl,rfl,e,W0 i0 (by rw [List.length_map];omega),?_⟩;have o:∀ b y,G b=some y->b≠a->upd G a (.lst ((qs.map V.ref).set i.toNat (.ref q))) b=some y:=fun b y z n=>by rw [ao n];exact z
 have na:∀ {b:Addr} {g:Int × Int},G b=some (.tup [.int g.1,.int g.2])->b≠a:=fun z y=>by rw [y,e] at z;cases z
 refine k _ o (by rw [ah,List.map_set]) (MM (R:=fun b (g:Int × Int)=>upd G a (.lst ((qs.map V.ref).set i.toNat (.ref q))) b=some (.tup [.int g.1,.int g.2])) (o _ _ hx (na hx)) _ (Paired.imp' (fun b g x=>o _ _ x (na x)) fa))
theorem tK {fs:List (Int × Int)} {f:Int × Int} {i n:Nat} (h:∀ g∈fs,FrB n g) (hf:FrB n f):∀ g∈fs.set i f,FrB n g:=fun g hg=>(List.mem_or_eq_of_mem_set hg).elim (h g) (fun z=>z ▸ hf)
theorem EM {K:PySem.W.Frag} {H:Hp} {l:Addr} {ps:List Addr} {rs:List (Int × Int)} {lo hi:Option Int} {n:Nat} {Q:VK} (hl:H l=some (.lst (ps.map V.ref))) (ro:FrsAt H ps rs) (rB:∀ f∈rs,FrB n f)
   (q:∀ t H' ps' rs',H t=none->Same H H'->H' t=some (.lst (ps'.map V.ref))->FrsAt H' ps' rs'->(∀ f∈rs',FrB n f)->rs'.length<=rs.length->Q (.ref t) H'):V0 K (.ref l) lo hi H Q:=by
 refine ⟨l,_,rfl,SqL.of hl,fun t ht=>?_⟩;have e:A6 (ps.map V.ref) lo hi=((ps.drop (HT.sIx ps.length 0 lo)).take (HT.sIx ps.length ps.length hi - HT.sIx ps.length 0 lo)).map V.ref:=by
   unfold A6;rw [List.length_map,<- List.map_drop,<- List.map_take]
 rw [e];refine q t _ _ _ ht (Same.new _ ht) ah (FrsAt.same (Same.new _ ht) (Mp _ (MH _ ro))) (fun f hf=>rB f (List.mem_of_mem_drop (List.mem_of_mem_take hf))) ?_;rw [List.length_take,List.length_drop];omega
theorem D7 {H:Hp} {a b:Addr} {ps qs:List Addr} {rs ss:List (Int × Int)} {n:Nat} {Q:VK} (ha:H a=some (.lst (ps.map V.ref))) (hb:H b=some (.lst (qs.map V.ref))) (ra:FrsAt H ps rs) (rb:FrsAt H qs ss) (rB:∀ f∈rs,FrB n f) (sB:∀ f∈ss,FrB n f) (l:rs.length+ss.length<=1000)
   (q:∀ t H' ps' rs',H t=none->Same H H'->H' t=some (.lst (ps'.map V.ref))->FrsAt H' ps' rs'->(∀ f∈rs',FrB n f)->rs'.length<=rs.length+ss.length->Q (.ref t) H'):rCat (.ref a) (.ref b) H Q:=by
 have l1:ps.length=rs.length:=Paired.length ra;have l2:qs.length=ss.length:=Paired.length rb;refine ⟨a,b,_,_,rfl,rfl,ha,hb,aE (by rw [List.length_map,List.length_map];omega),fun t ht=>?_⟩;exact q t _ (ps++qs) (rs++ss) ht (Same.new _ ht) (by rw [ah,List.map_append]) (FrsAt.same (Same.new _ ht) (rF rb ra)) (fun f hf=>(List.mem_append.mp hf).elim (rB f) (sB f)) (by rw [List.length_append];omega)
end Pb
set_option Elab.async false
set_option linter.all false
set_option maxRecDepth 100000
set_option maxHeartbeats 4000000
namespace Pk
open PySem L2 Pb
seal L2.PSs L2.PS L2.PE L2.PT L2.PW L2.PA L2.PG L2.PGs L2.PI L2.PTs L2.PC L2.PPs L2.PO
abbrev top (i:Nat):Stmt:=Hd.top i
local macro_rules|`(tactic| walk_at "rd") => `(tactic| ((try dsimp only [tYes, Wm, T7, Ends.less, GB, Ms, JU, Qu, Mw, Uk, Wd, Pr, F7, Ri, Nf, Ts, OH, T9, Uf, Nk, SR, S9, QA, Gi, Ql, QM, Uj, NH, tNext, JS, yD, Kj, Ef, gNil, T3, Ua, Ud, V6, Ue, Uo, VX, ipI, Td, NF, Ib, tB, EV, tC, E5, tOp, tUn, rI0, rI, rU, rEq, rNe, OA, Np, Nh, tNil, SX, RB, tCB, tBM, TK, Rh, RY, RN, T8, Fm, OC, OP, Oq, Pg, wY, PP, tDNewT, S6, tOr, R0, NU, Ws, NB, tIf, List.nil_append, List.append_nil, List.set_cons_zero, List.set_cons_succ, List.getElem?_cons_zero, List.getElem?_cons_succ]);(try simp only [tYes, Wm, T7, Ends.less, GB, Ms, JU, Qu, Mw, Uk, Wd, Pr, F7, Ri, Nf, Ts, OH, T9, Uf, Nk, SR, S9, QA, Gi, Ql, QM, Uj, NH, tNext, JS, yD, Kj, Ef, gNil, T3, Ua, Ud, V6, Ue, Uo, VX, ipI, Td, NF, Ib, tB, EV, tC, E5, tOp, tUn, rI0, rI, rU, rEq, rNe, U0, UU, U6, U4, UF, UV, OA, Np, Nh, tNil, SX, RB, tCB, tBM, TK, Rh, RY, RN, T8, Fm, OC, OP, Oq, Pg, wY, PP, tDNewT, S6, tOr, R0, NU, Ws, NB, tIf, List.nil_append, List.append_nil, List.set_cons_zero, List.set_cons_succ, List.getElem?_cons_zero, List.getElem?_cons_succ, Option.some.injEq, V.int.injEq, V.bl.injEq, V.ref.injEq, List.cons.injEq, exists_eq_left, exists_eq_left', exists_and_left, exists_const, and_true, true_and, decide_eq_true_eq, Bool.not_eq_true', decide_eq_false_iff_not, Bool.true_eq_false, Bool.false_eq_true, if_true, if_false])))
set_option genSizeOf false in
set_option genInjectivity false in
structure Txt (K:PySem.W.Frag) (mg:Str->Option Value) where
 BadWeb:Addr
 Xf:mg "BadWeb"=some (.ref BadWeb)
 NoPlace:Addr
 Qa:mg "NoPlace"=some (.ref NoPlace)
 NoRoad:Addr
 TD:mg "NoRoad"=some (.ref NoRoad)
 Web:Addr
 WW:mg "Web"=some (.ref Web)
 Qw:OX K NoPlace
 Sa:OX K NoRoad
 range:mg "range"=none
 zip:mg "zip"=none
 len:mg "len"=none
 isinstance:mg "isinstance"=none
 all:mg "all"=none
 any:mg "any"=none
 int:mg "int"=none
 bool:mg "bool"=none
 tuple:mg "tuple"=none
 list:mg "list"=none
 reversed:mg "reversed"=none
 sorted:mg "sorted"=none
 min:mg "min"=none
 enumerate:mg "enumerate"=none
 sum:mg "sum"=none
 abs:mg "abs"=none
 c_MOST_PLACES:∃ t,mg "MOST_PLACES"=some (.int 24 t)
 c_LEAST_TOLL:∃ t,mg "LEAST_TOLL"=some (.int 2 t)
 c_MOST_TOLL:∃ t,mg "MOST_TOLL"=some (.int 1000000 t)
 NOUGHT:Addr
 Q2:mg "NOUGHT"=some (.ref NOUGHT)
 TQ:TupK K NOUGHT [.int 0,.int 1]
 ONE:Addr
 Ia:mg "ONE"=some (.ref ONE)
 Ik:TupK K ONE [.int 1,.int 1]
 ja:Cls K Web
 n_many:NoAttr K Web "many"
 n_roads:NoAttr K Web "roads"
section
variable {P:Program} {w:World} {K:PySem.W.Frag} {mg:Str->Option Value} {base:Heap} {CX:CXT}
def vy (T:Txt K mg):Sp:=fun vs H Q _=>∃ (m:Int) (t:Addr) (xs:List V),vs=[.int m,.ref t]/\SqT K H t xs/\1<=m/\m<=24/\(xs.length:Int)=m - 1/\Q .non H
abbrev bM:Stmt:=top 21
theorem DS:FnScope ["many","roads"] ["many","roads"] (aa bM):=FnScope.of (by kernel_rfl)
theorem oC:NmL (aa bM) "many":=.of (by kernel_rfl)
theorem xg:NmL (aa bM) "roads":=.of (by kernel_rfl)
theorem j3:NmG (aa bM) "MOST_PLACES":=.of (by kernel_rfl)
theorem Mi:NmG (aa bM) "BadWeb":=.of (by kernel_rfl)
theorem kN:NmG (aa bM) "len":=.of (by kernel_rfl)
theorem DW (T:Txt K mg) (hq:aP (CXe P w)) {f:Addr} {fd:FuncData} (D:Df K mg "check_counts" bM ["many","roads"] f fd):FnOk P w K mg base (CXe P w) 1 f fd ["many","roads"] (vy T):=by
 refine D.F.okC DS (fun vs H Q E h=>?_) (fun cdv A outer s H vs Q E hr h=>?_)
 . obtain ⟨m,t,xs,rfl,_⟩:=h
   rfl
 . obtain ⟨m,t,xs,rfl,ht,h1,h2,hl,k⟩:=h;refine ⟨_,(ak (bA (jQ (Jv El El am (pvl 0 oC) (CL j3.g T.c_MOST_PLACES (hd:=j3.d)))) (aq qt) aO) (aq (bA (aM pA (bI ck kN.g T.len iH (ag (pvl 1 xg) aj) (hn:=kN.n) (hdb:=kN.d)) (av Ah (pvl 0 oC) am) (aL _)) (aq qt) aO))),?_⟩;rw [show L2.start ["many","roads"] [V.int m,V.ref t]=[some (V.int m),some (V.ref t)] from rfl];walk_at "rd";rw [if_pos h1,if_neg (by omega)];exact ⟨xs,.inr ht,by rw [if_neg (by omega)];exact k⟩
def wJ (T:Txt K mg):Sp:=fun vs H Q _=>∃ m n:Int,vs=[.int m,.int n]/\Q (.bl (decide (0<=n) && decide (n<m))) H
abbrev eK:Stmt:=top 20
theorem Ly:FnScope ["many","number"] ["many","number"] (aa eK):=FnScope.of (by kernel_rfl)
theorem CQ:NmL (aa eK) "many":=.of (by kernel_rfl)
theorem Bf:NmL (aa eK) "number":=.of (by kernel_rfl)
theorem LX (T:Txt K mg) (hq:aP (CXe P w)) {f:Addr} {fd:FuncData} (D:Df K mg "is_place" eK ["many","number"] f fd):FnOk P w K mg base (CXe P w) 1 f fd ["many","number"] (wJ T):=by
 refine D.F.okC Ly (fun vs H Q E h=>?_) (fun cdv A outer s H vs Q E hr h=>?_)
 . obtain ⟨m,n,rfl,_⟩:=h
   rfl
 . obtain ⟨m,n,rfl,k⟩:=h;refine ⟨_,(aq (aF (Si El yW am (pvl 1 Bf) (pvl 0 CQ)))),?_⟩;rw [show L2.start ["many","number"] [V.int m,V.int n]=[some (V.int m),some (V.int n)] from rfl];walk_at "rd";by_cases c:0<=n
   . simpa [c] using k
   . simpa [c] using k
def zR (T:Txt K mg):Sp:=fun vs H Q _=>∃ (m:Int) (p:Addr) (r:Road),vs=[.int m,.ref p]/\H p=some (.tup (py r))/\0<=r.a/\r.a<m/\0<=r.b/\r.b<m/\r.a≠r.b/\Q .non H
abbrev cZ:Stmt:=top 22
theorem GZ:FnScope ["many","road"] ["many","road"] (aa cZ):=FnScope.of (by kernel_rfl)
theorem rE:NmL (aa cZ) "many":=.of (by kernel_rfl)
theorem jq:NmL (aa cZ) "road":=.of (by kernel_rfl)
theorem fP:NmG (aa cZ) "is_place":=.of (by kernel_rfl)
theorem Of:NmG (aa cZ) "BadWeb":=.of (by kernel_rfl)
theorem GS (T:Txt K mg) (hq:aP (CXe P w)) {f:Addr} {fd:FuncData} (D:Df K mg "check_ends" cZ ["many","road"] f fd) {fS:Addr} {mG:FuncData} (dj:Df K mg "is_place" eK ["many","number"] fS mG) (G_is_place:FnOk P w K mg base (CXe P w) 1 fS mG ["many","number"] (wJ T)):FnOk P w K mg base (CXe P w) 2 f fd ["many","road"] (zR T):=by
 refine D.F.okC GZ (fun vs H Q E h=>?_) (fun cdv A outer s H vs Q E hr h=>?_)
 . obtain ⟨m,p,r,rfl,_⟩:=h
   rfl
 . obtain ⟨m,p,r,rfl,hp,a0,a1,b0,b1,ne,k⟩:=h;refine ⟨_,(ak (bA (PW.pt (BG (jQ (mH (ar G_is_place (hr.mono (by decide)) fP.g dj.m dj.F.kp dj.b .nil (ax hq) (ag (pvl 0 rE) (ag (az bC (pvl 1 jq) am (fun _ _=>rfl)) aj)) (hdb:=fP.d)))) (Bx (jQ (mH (ar G_is_place (hr.mono (by decide)) fP.g dj.m dj.F.kp dj.b .nil (ax hq) (ag (pvl 0 rE) (ag (az bC (pvl 1 jq) am (fun _ _=>rfl)) aj)) (hdb:=fP.d))))))) (aq qt) aO) (aq (bA (aM dv (az bC (pvl 1 jq) am (fun _ _=>rfl)) (az bC (pvl 1 jq) am (fun _ _=>rfl)) (aL _)) (aq qt) aO))),?_⟩;rw [show L2.start ["many","road"] [V.int m,V.ref p]=[some (V.int m),some (V.ref p)] from rfl];walk_at "rd";refine ixT hp rfl ⟨m,r.a,rfl,_,rfl,?_⟩;rw [if_neg (by simp [a0,a1])];refine ixT hp rfl ⟨m,r.b,rfl,_,rfl,?_⟩;rw [if_neg (by simp [b0,b1])];refine ixT hp rfl (ixT hp rfl ⟨rfl,?_⟩);rw [if_neg (by simpa using ne)];exact k
def sd (T:Txt K mg):Sp:=fun vs H Q _=>∃ (t:Addr) (ps:List Addr) (rs:List Road) (n:Int),vs=[.ref t,.int n]/\SqT K H t (ps.map V.ref)/\RoadsAt H ps rs/\rs.length<=1000 /\
 ∀ l H',H l=none->Same H H'->H' l=some (.lst ((cF rs n).map V.int))->Q (.ref l) H'
abbrev cD:Stmt:=top 25
theorem rO:FnScope ["roads","place","ends","road"] ["roads","place"] (aa cD):=FnScope.of (by kernel_rfl)
theorem Aa:NmL (aa cD) "roads":=.of (by kernel_rfl)
theorem qc:NmL (aa cD) "place":=.of (by kernel_rfl)
theorem i9:NmL (aa cD) "ends":=.of (by kernel_rfl)
theorem fZ:NmL (aa cD) "road":=.of (by kernel_rfl)
theorem GC (T:Txt K mg) (hq:aP (CXe P w)) {f:Addr} {fd:FuncData} (D:Df K mg "other_ends" cD ["roads","place"] f fd):FnOk P w K mg base (CXe P w) 1 f fd ["roads","place"] (sd T):=by
 refine D.F.okC rO (fun vs H Q E h=>?_) (fun cdv A outer s H vs Q E hr h=>?_)
 . obtain ⟨t,ps,rs,n,rfl,_⟩:=h
   rfl
 . obtain ⟨t,ps,rs,n,rfl,ht,hp,hl,k⟩:=h;refine ⟨_,(ak (aw (i:=2) rO.nd rfl (Or.inl i9.l) (bj aj)) (ak (eS PassesOwn.never rfl (Ap (pvl 0 Aa)) (aB (i:=3) rO.nd rfl (Or.inl fZ.l)) (ak (bA (aM dv (az bC (pvl 3 fZ) am (fun _ _=>rfl)) (pvl 1 qc) (aL _)) (aq (dG (pj PySem.F.plainAttrs_list PySem.F.slot_list_append PySem.F.type_list_append ga (pvl 2 i9) (ag (az bC (pvl 3 fZ) am (fun _ _=>rfl)) aj)))) aO) (aq (bA (aM dv (az bC (pvl 3 fZ) am (fun _ _=>rfl)) (pvl 1 qc) (aL _)) (aq (dG (pj PySem.F.plainAttrs_list PySem.F.slot_list_append PySem.F.type_list_append ga (pvl 2 i9) (ag (az bC (pvl 3 fZ) am (fun _ _=>rfl)) aj)))) aO)))) (aq (aF (pvl 2 i9))))),?_⟩;rw [show L2.start ["roads","place","ends","road"] [V.ref t,V.int n]=[some (V.ref t),some (V.int n),none,none] from rfl];walk_at "rd";refine ⟨by decide,fun l hn=>?_⟩;have hlen:ps.length=rs.length:=Paired.length hp;refine ⟨⟨_,Same.tup (Same.new _ hn) ht⟩,BC (xs:=ps.map V.ref) (fun i σ H2=>H2=upd H l (.lst ((cF (rs.take i) n).map V.int))/\∃ v,σ=[some (.ref t),some (.int n),some (.ref l),v]) ⟨rfl,_,rfl⟩ (fun i σ H2 _ z=>by rw [z.1];exact Same.tup (Same.new _ hn) ht) ?_ ?_⟩
   . rintro i x σ H2 hi ⟨rfl,v,rfl⟩;obtain ⟨p,r,rfl,h1,h2,h3⟩:=hp.get hi;have np:p≠l:=aG h3 hn;have hil:i<rs.length:=(List.getElem?_eq_some_iff.mp h2).1;have et:rs.take (i+1)=rs.take i++[r]:=(by rw [List.take_succ,h2];rfl);have hb:(cF (rs.take i) n).length<=2000:=Nat.le_trans (Jc _ _) (by rw [List.length_take];omega);have hx:∀ o,upd H l o p=some (.tup (py r)):=fun o=>by rw [ao np];exact h3
     walk_at "rd";refine ixT (hx _) rfl ?_;walk_at "rd";have fin:∀ (ys:List Int),(cF (rs.take i) n++ys)=cF (rs.take (i+1)) n->upd H l (.lst ((cF (rs.take i) n).map V.int++ys.map V.int))=upd H l (.lst ((cF (rs.take (i+1)) n).map V.int)):=fun ys e=>by
       rw [<- List.map_append,e]
     have e1:vH n r=(if r.a=n then [r.b] else [])++(if r.b=n then [r.a] else []):=rfl;by_cases ca:r.a=n
     . rw [if_pos ca];refine ⟨tyL ah,ixT (hx _) rfl (wF ah (cj (by rw [List.length_map];omega)) ?_)⟩;rw [iV];refine ixT (hx _) rfl ?_;walk_at "rd";by_cases cb:r.b=n
       . rw [if_pos cb];refine ⟨tyL ah,ixT (hx _) rfl (wF ah (cj (by rw [List.length_append,List.length_map];simp;omega)) ?_)⟩;rw [iV,List.append_assoc];exact ⟨fin [r.b,r.a] (by rw [et,vx,e1,if_pos ca,if_pos cb];rfl),_,rfl⟩
       . rw [if_neg cb];exact ⟨fin [r.b] (by rw [et,vx,e1,if_pos ca,if_neg cb];rfl),_,rfl⟩
     . rw [if_neg ca];refine ixT (hx _) rfl ?_;walk_at "rd";by_cases cb:r.b=n
       . rw [if_pos cb];refine ⟨tyL ah,ixT (hx _) rfl (wF ah (cj (by rw [List.length_map];omega)) ?_)⟩;rw [iV];exact ⟨fin [r.a] (by rw [et,vx,e1,if_neg ca,if_pos cb];rfl),_,rfl⟩
       . rw [if_neg cb];have:=fin [] (by rw [et,vx,e1,if_neg ca,if_neg cb];rfl);rw [List.map_nil,List.append_nil] at this;exact ⟨this,_,rfl⟩
   . rintro σ H2 ⟨rfl,v,rfl⟩;rw [List.length_map,hlen,List.take_length];exact ⟨_,rfl,k l _ hn (Same.new _ hn) ah⟩
def l9 (ks:List Int):List (Key × V):=ks.map fun k=>((Sum.inl k:Key),V.bl true)
theorem Gh (ks:List Int):(l9 ks).length=ks.length:=by unfold l9;rw [List.length_map]
theorem Kn (ks:List Int) (e:Int):eA (l9 ks) (Sum.inl e:Key)=if e∈ks then some (V.bl true) else none:=by
 unfold l9
 induction ks with
 | nil=>rfl
 | cons k ks ih =>
   rw [List.map_cons];by_cases c:k=e
   . rw [gO (by rw [c]),if_pos (by rw [c];exact List.mem_cons_self)]
   . rw [gP (fun z=>c (Sum.inl.inj z)),ih];by_cases d:e∈ks
     . rw [if_pos d,if_pos (List.mem_cons_of_mem _ d)]
     . rw [if_neg d,if_neg (fun z=>by rcases List.mem_cons.mp z with z|z;exact c z.symm;exact d z)]
theorem TN {ks:List Int} {e:Int} (h:e ∉ ks):fL (l9 ks) (Sum.inl e:Key) (V.bl true)=l9 (ks++[e]):=by
 rw [TU _ (by rw [Kn,if_neg h])];unfold l9;rw [List.map_append]
 rfl
def vR (T:Txt K mg):Sp:=fun vs H Q _=>∃ (m:Int) (t:Addr) (ps:List Addr) (rs:List Road),vs=[.int m,.ref t]/\SqT K H t (ps.map V.ref)/\RoadsAt H ps rs/\Good m rs/\∀ H',Same H H'->Q .non H'
abbrev ba:Stmt:=top 24
theorem jd:FnScope ["many","roads","reached","waiting","place","end"] ["many","roads"] (aa ba):=FnScope.of (by kernel_rfl)
theorem zm:NmL (aa ba) "many":=.of (by kernel_rfl)
theorem xA:NmL (aa ba) "roads":=.of (by kernel_rfl)
theorem fq:NmL (aa ba) "reached":=.of (by kernel_rfl)
theorem fw:NmL (aa ba) "waiting":=.of (by kernel_rfl)
theorem om:NmL (aa ba) "place":=.of (by kernel_rfl)
theorem iK:NmL (aa ba) "end":=.of (by kernel_rfl)
theorem kt:NmG (aa ba) "other_ends":=.of (by kernel_rfl)
theorem kL:NmG (aa ba) "len":=.of (by kernel_rfl)
theorem LM:NmG (aa ba) "BadWeb":=.of (by kernel_rfl)
theorem Ed (T:Txt K mg) (hq:aP (CXe P w)) {f:Addr} {fd:FuncData} (D:Df K mg "check_joined" ba ["many","roads"] f fd) {dY:Addr} {ku:FuncData} (dy:Df K mg "other_ends" cD ["roads","place"] dY ku) (G_other_ends:FnOk P w K mg base (CXe P w) 1 dY ku ["roads","place"] (sd T)):FnOk P w K mg base (CXe P w) 2 f fd ["many","roads"] (vR T):=by
 refine D.F.okC jd (fun vs H Q E h=>?_) (fun cdv A outer s H vs Q E hr h=>?_)
 . obtain ⟨m,t,ps,rs,rfl,_⟩:=h
   rfl
 . obtain ⟨m,t,ps,rs,rfl,ht,hp,g,k⟩:=h;have hu:=Il hr;refine ⟨_,(ak (aw (i:=2) jd.nd rfl (Or.inl fq.l) (UN (T6 am jH U1) rfl rfl (List.cons_ne_nil _ _) (by decide))) (ak (aw (i:=3) jd.nd rfl (Or.inl fw.l) (bj (ag am aj))) (ak (nQ PassesOwn.never (q8 (pvl 3 fw) (fun _=>rfl)) (ak (aw (i:=4) jd.nd rfl (Or.inl om.l) (Jj PySem.F.plainAttrs_list PySem.F.slot_list_pop PySem.F.type_list_pop IB (pvl 3 fw))) (aq (eS PassesOwn.never rfl (iY (ar G_other_ends (hr.mono (by decide)) kt.g dy.m dy.F.kp dy.b .nil (ax hq) (ag (pvl 1 xA) (ag (pvl 4 om) aj)) (hdb:=kt.d))) (aB (i:=5) jd.nd rfl (Or.inl iK.l)) (aq (bA (Qe (QC hu (pvl 5 iK) (pvl 2 fq))) (ak (Fz hu (pvl 2 fq) (pvl 5 iK) jH rfl) (aq (dG (pj PySem.F.plainAttrs_list PySem.F.slot_list_append PySem.F.type_list_append ga (pvl 3 fw) (ag (pvl 5 iK) aj))))) aO)))))) (aq (bA (aM pA (bI Qy kL.g T.len iH (ag (pvl 2 fq) aj) (hn:=kL.n) (hdb:=kL.d)) (pvl 0 zm) (aL _)) (aq qt) aO))))),?_⟩;rw [show L2.start ["many","roads","reached","waiting","place","end"] [V.int m,V.ref t]=[some (V.int m),some (V.ref t),none,none,none,none] from rfl];have m1:=g.m1;have m24:=g.m24;have glen:=g.len;walk_at "rd";intro d hd;refine ⟨ah,[(Sum.inl 0,.bl true)],rfl,by decide,?_⟩;rw [iV];refine ⟨by decide,fun w0 hw=>?_⟩;have ed:xz [] [((Sum.inl 0:Key),V.bl true)]=l9 [0]:=rfl;rw [ed];have ndw:w0≠d:=fun z=>by rw [z,ah] at hw;cases hw
   have hw0:H w0=none:=by rw [ao ndw] at hw;exact hw
   refine FC (fun n σ H2=>∃ (ks ws:List Int) (v4 v5:Option V),n=2*(m.toNat - ks.length)+ws.length/\σ=[some (.int m),some (.ref t),some (.ref d),some (.ref w0),v4,v5]/\Same H H2/\H2 d=some (.dK (l9 ks))/\H2 w0=some (.lst (ws.map V.int))/\JInv m rs ks ws) _ ⟨[0],[0],none,none,rfl,rfl,?_,?_,ah,JInv.start m1⟩ ?_
   . exact Same.trans (Same.new _ hd) (Same.new _ hw)
   . rw [ao ndw.symm,ah]
   rintro n σ H2 NW hN hN2 ⟨ks,ws,v4,v5,rfl,rfl,sm,h1,h2,J⟩;have kl:=dw (by omega) J.nd J.rng;refine ⟨_,rfl,!(ws.map V.int).isEmpty,.inl ⟨_,SqL.of h2,rfl⟩,?_⟩;rcases List.eq_nil_or_concat ws with rfl|⟨ws',p,rfl⟩
   . -- nothing waits: all places have been reached
     have full:=J.all m1 g.jn;refine Xj ?_;walk_at "rd";refine ⟨l9 ks,h1,?_⟩;rw [Gh,if_neg (by omega)];exact k _ sm
   . rw [List.concat_eq_append] at J h2 hN hN2 ⊢;have e1:(!(List.map V.int (ws'++[p])).isEmpty)=true:=(by simp);rw [e1];refine Xe ⟨NW,hN2,?_⟩;walk_at "rd";rw [List.map_append,List.map_cons,List.map_nil] at h2;refine ⟨tyL h2,S5 h2 ?_⟩;have ndw':d≠w0:=ndw.symm;have sm2:Same H (upd H2 w0 (.lst (ws'.map V.int))):=fun b o e=>by rw [ao (aG e hw0)];exact sm b o e
     refine ⟨t,ps,rs,p,rfl,Same.tup sm2 ht,RoadsAt.same sm2 hp,by omega,fun l H3 hn s3 hl=>?_⟩;have nlw:w0≠l:=aG (o:=.lst (ws'.map V.int)) ah hn;have nld:d≠l:=aG (o:=.dK (l9 ks)) (by rw [ao ndw'];exact h1) hn;have hl0:H l=none:=sm2.free hn;refine ⟨l,rfl,⟨_,SqL.of hl⟩,rp (K:=K) (xs:=(cF rs p).map V.int) (fun i σ H4=>∃ (v5:Option V),σ=[some (.int m),some (.ref t),some (.ref d),some (.ref w0),some (.int p),v5]/\Same H H4/\H4 l=some (.lst ((cF rs p).map V.int)) /\
       ∃ ks4 ws4:List Int,H4 d=some (.dK (l9 ks4))/\H4 w0=some (.lst (ws4.map V.int))/\JMid m rs p ((cF rs p).take i) ks4 ws4 ks ws'.length) ?_ (fun i σ H4 _ z=>by obtain ⟨_,_,_,z,_⟩:=z;exact SqL.of z) ?_ ?_⟩
     . refine ⟨_,rfl,sm2.trans s3,hl,ks,ws',?_,?_,?_⟩
       . exact s3 _ _ (by rw [ao ndw'];exact h1)
       . exact s3 _ _ ah
       . rw [List.take_zero];exact JMid.start J
     . rintro i x σ H4 NI hI hi ⟨v5,rfl,s4,hl4,ks4,ws4,hd4,hw4,M⟩;rw [List.getElem?_map] at hi;obtain ⟨e,he,rfl⟩:∃ e,(cF rs p)[i]?=some e/\V.int e=x:=by
         cases q:(cF rs p)[i]? with
         | none=>rw [q] at hi;cases hi
         | some e=>rw [q] at hi;exact ⟨e,rfl,Option.some.inj hi⟩
       have er:=S4 g.ok (List.mem_of_getElem? he);have et:(cF rs p).take (i+1)=(cF rs p).take i++[e]:=(by rw [List.take_succ,he];rfl);have st:=M.step er.1 er.2;have k4:=dw (by omega) M.nd M.rng;have mu4:=M.mu;walk_at "rd";refine ⟨_,DGet.k (k:=Sum.inl e) hd4,?_⟩;rw [Kn];by_cases c:e∈ks4
       . rw [if_pos c];rw [if_neg (by simp)];refine hI _ _ ⟨_,rfl,s4,hl4,ks4,ws4,hd4,hw4,?_⟩;rw [et];unfold DZ at st;rw [if_pos c] at st;exact st
       . rw [if_neg c];rw [if_pos (by simp)];refine ⟨_,DPut.k (k:=Sum.inl e) hd4 (cj (by rw [Gh];omega)),?_⟩;rw [TN c];have hw5:upd H4 d (.dK (l9 (ks4++[e]))) w0=some (.lst (ws4.map V.int)):=(by rw [ao ndw];exact hw4);refine ⟨tyL hw5,wF hw5 (cj (by rw [List.length_map];have:=M.wl;omega)) ?_⟩;have hmid:=M.mu;refine hI _ _ ⟨_,rfl,fun b o z=>?_,?_,ks4++[e],ws4++[e],?_,?_,?_⟩
         . rw [ao (aG z hw0),ao (aG z hd)];exact s4 b o z
         . rw [ao nlw.symm,ao nld.symm];exact hl4
         . rw [ao ndw',ah]
         . rw [ah,List.map_append];rfl
         . rw [et];unfold DZ at st;rw [if_neg c] at st;exact st
     . rintro σ H4 ⟨v5,rfl,s4,hl4,ks4,ws4,hd4,hw4,M⟩;rw [List.length_map,List.take_length] at M;have k4:=dw (by omega) M.nd M.rng;have mu4:=M.mu;have up4:=M.up;refine hN _ _ _ ?_ ⟨ks4,ws4,some (.int p),v5,rfl,rfl,s4,hd4,hw4,M.done⟩;rw [List.length_append];simp only [List.length_cons,List.length_nil];omega
def xh (T:Txt K mg):Sp:=fun vs H Q _=>∃ (p:Addr) (r:Road),vs=[.ref p]/\H p=some (.tup (py r))/\2<=r.t/\r.t<=1000000/\2<=r.u/\r.u<=1000000/\∀ H',Same H H'->Q .non H'
abbrev cg:Stmt:=top 23
theorem xR:FnScope ["road","number"] ["road"] (aa cg):=FnScope.of (by kernel_rfl)
theorem p5:NmL (aa cg) "road":=.of (by kernel_rfl)
theorem oj:NmL (aa cg) "number":=.of (by kernel_rfl)
theorem lm:NmG (aa cg) "LEAST_TOLL":=.of (by kernel_rfl)
theorem lG:NmG (aa cg) "MOST_TOLL":=.of (by kernel_rfl)
theorem Mz:NmG (aa cg) "BadWeb":=.of (by kernel_rfl)
theorem FG (T:Txt K mg) (hq:aP (CXe P w)) {f:Addr} {fd:FuncData} (D:Df K mg "check_tolls" cg ["road"] f fd):FnOk P w K mg base (CXe P w) 1 f fd ["road"] (xh T):=by
 refine D.F.okC xR (fun vs H Q E h=>?_) (fun cdv A outer s H vs Q E hr h=>?_)
 . obtain ⟨p,r,rfl,_⟩:=h
   rfl
 . obtain ⟨p,r,rfl,hp,t0,t1,u0,u1,k⟩:=h;refine ⟨_,(aq (eS PassesOwn.never rfl (Ap (bW (ag (az bC (pvl 0 p5) am (fun _ _=>rfl)) (ag (az bC (pvl 0 p5) am (fun _ _=>rfl)) aj)))) (aB (i:=1) xR.nd rfl (Or.inl oj.l)) (aq (bA (jQ (Jv El El (CL lm.g T.c_LEAST_TOLL (hd:=lm.d)) (pvl 1 oj) (CL lG.g T.c_MOST_TOLL (hd:=lG.d)))) (aq qt) aO)))),?_⟩;rw [show L2.start ["road","number"] [V.ref p]=[some (V.ref p),none] from rfl];walk_at "rd";refine ixT hp rfl (ixT hp rfl ⟨aE (by simp),fun q hn=>?_⟩);have e1:upd H q (.tup [.int r.t,.int r.u]) q=some (.tup [.int r.t,.int r.u]):=ah;refine ⟨⟨_,SqT.of e1⟩,BC (K:=K) (xs:=[.int r.t,.int r.u]) (fun i σ H2=>H2=upd H q (.tup [.int r.t,.int r.u])/\∃ v,σ=[some (.ref p),v]) ⟨rfl,_,rfl⟩ (fun i σ H2 _ z=>by rw [z.1];exact SqT.of e1) ?_ ?_⟩
   . rintro i x σ H2 hi ⟨rfl,v,rfl⟩;have hx:∃ n:Int,x=.int n/\2<=n/\n<=1000000:=by
       match i,hi with
       | 0,hi=>exact ⟨r.t,by simpa using hi.symm,t0,t1⟩
       | 1,hi=>exact ⟨r.u,by simpa using hi.symm,u0,u1⟩
     obtain ⟨n,rfl,n0,n1⟩:=hx;walk_at "rd";rw [if_pos n0,if_neg (by omega)];exact ⟨_,rfl⟩
   . rintro σ H2 ⟨rfl,v,rfl⟩;exact k _ (Same.new _ hn)
/-- the attributes of a web -/
def Ev (m:Int) (t:Addr):List (Str × V):=kP "roads" (.ref t) (kP "many" (.int m) [])
theorem W6:¬ (("many":Str)="roads"):=by decide +kernel
theorem hW (m:Int) (t:Addr):(Ev m t).lookup ("many":Str)=some (.int m):=by
 unfold Ev;rw [mM,if_neg W6,mM,if_pos rfl]
theorem CF (m:Int) (t:Addr):(Ev m t).lookup ("roads":Str)=some (.ref t):=by
 unfold Ev;rw [mM,if_pos rfl]
/-- a web of m places and the roads rs stands at p,its tuple at t,the roads' tuples at ps -/
structure WebAt (C:Addr) (H:Hp) (p:Addr) (m:Int) (t:Addr) (ps:List Addr) (rs:List Road):Prop where
 ob:∃ dx,H p=some (.ins C dx (Ev m t))
 tu:H t=some (.tup (ps.map V.ref))
 ro:RoadsAt H ps rs
 go:Good m rs
theorem WebAt.same {C:Addr} {H H':Hp} {p:Addr} {m:Int} {t:Addr} {ps:List Addr} {rs:List Road} (e:Same H H') (h:WebAt C H p m t ps rs):WebAt C H' p m t ps rs :=
 ⟨let ⟨dx,q⟩:=h.ob;⟨dx,e _ _ q⟩,e _ _ h.tu,RoadsAt.same e h.ro,h.go⟩
def pp (T:Txt K mg):Sp:=fun vs H Q _=>∃ (p dx:Addr) (m:Int) (c:Bool) (a:Addr) (ps:List Addr) (rs:List Road),vs=[.ref p,.int m,.ref a]/\H p=some (.ins T.Web dx [])/\SqX K c H a (ps.map V.ref)/\RoadsAt H ps rs/\Good m rs /\
 ∀ t H',H t=none->WebAt T.Web H' p m t ps rs->(∀ b o,H b=some o->b≠p->H' b=some o)->Q .non H'
abbrev aZ:Stmt:=Uu (top 16) 0
theorem oz:FnScope ["self","many","roads","kept","road"] ["self","many","roads"] (aa aZ):=FnScope.of (by kernel_rfl)
theorem pH:NmL (aa aZ) "self":=.of (by kernel_rfl)
theorem ie:NmL (aa aZ) "many":=.of (by kernel_rfl)
theorem xM:NmL (aa aZ) "roads":=.of (by kernel_rfl)
theorem eI:NmL (aa aZ) "kept":=.of (by kernel_rfl)
theorem j6:NmL (aa aZ) "road":=.of (by kernel_rfl)
theorem jP:NmG (aa aZ) "tuple":=.of (by kernel_rfl)
theorem jO:NmG (aa aZ) "check_counts":=.of (by kernel_rfl)
theorem kj:NmG (aa aZ) "check_ends":=.of (by kernel_rfl)
theorem j4:NmG (aa aZ) "check_tolls":=.of (by kernel_rfl)
theorem jZ:NmG (aa aZ) "check_joined":=.of (by kernel_rfl)
theorem D8 (T:Txt K mg) (hq:aP (CXe P w)) {f:Addr} {fd:FuncData} (F:Fun K "__init__" "Web.__init__" aZ f fd) {fF:Addr} {vS:FuncData} (im:Df K mg "check_counts" bM ["many","roads"] fF vS) (G_check_counts:FnOk P w K mg base (CXe P w) 1 fF vS ["many","roads"] (vy T)) {iB:Addr} {zI:FuncData} (jN:Df K mg "check_ends" cZ ["many","road"] iB zI) (G_check_ends:FnOk P w K mg base (CXe P w) 2 iB zI ["many","road"] (zR T)) {fJ:Addr} {vT:FuncData} (ik:Df K mg "check_joined" ba ["many","roads"] fJ vT) (G_check_joined:FnOk P w K mg base (CXe P w) 2 fJ vT ["many","roads"] (vR T)) {gM:Addr} {xZ:FuncData} (iU:Df K mg "check_tolls" cg ["road"] gM xZ) (G_check_tolls:FnOk P w K mg base (CXe P w) 1 gM xZ ["road"] (xh T)):FnOk P w K mg base (CXe P w) 3 f fd ["self","many","roads"] (pp T):=by
 refine F.okC oz (fun vs H Q E h=>?_) (fun cdv A outer s H vs Q E hr h=>?_)
 . obtain ⟨p,dx,m,c,a,ps,rs,rfl,_⟩:=h
   rfl
 . obtain ⟨p,dx,m,c,a,ps,rs,rfl,hp,ha,hro,g,k⟩:=h;refine ⟨_,(ak (aw (i:=3) oz.nd rfl (Or.inl eI.l) (fi mV jP.g T.tuple zg (ag (fM rfl (uE (Nc:=["road"]) 1 (by decide +kernel) (by decide +kernel) rfl (by decide +kernel) rfl) (xU c (pvl 2 xM)) (fun _ _ _ _=>(aB (i:=0) (show (["road"]:List Str).Nodup from by decide +kernel) rfl (Or.inl rfl))) (fun _ _ _ _=>fK) (fun _ _ _ _=>(fi (E4 K rfl) (by rfl) T.tuple zg (ag (pv 0) aj)))) aj) (hn:=jP.n) (hdb:=jP.d))) (ak (dG (ar G_check_counts (hr.mono (by decide)) jO.g im.m im.F.kp im.b .nil (ax hq) (ag (pvl 1 ie) (ag (pvl 3 eI) aj)) (hdb:=jO.d))) (ak (eS PassesOwn.never rfl (Ap (pvl 3 eI)) (aB (i:=4) oz.nd rfl (Or.inl j6.l)) (ak (dG (ar G_check_ends (hr.mono (by decide)) kj.g jN.m jN.F.kp jN.b .nil (ax hq) (ag (pvl 1 ie) (ag (pvl 4 j6) aj)) (hdb:=kj.d))) (aq (dG (ar G_check_tolls (hr.mono (by decide)) j4.g iU.m iU.F.kp iU.b .nil (ax hq) (ag (pvl 4 j6) aj) (hdb:=j4.d)))))) (ak (dG (ar G_check_joined (hr.mono (by decide)) jZ.g ik.m ik.F.kp ik.b .nil (ax hq) (ag (pvl 1 ie) (ag (pvl 3 eI) aj)) (hdb:=jZ.d))) (ak (Pj (pvl 0 pH) (pvl 1 ie) rfl) (aq (Pj (pvl 0 pH) (pvl 3 eI) rfl))))))),?_⟩;rw [show L2.start ["self","many","roads","kept","road"] [V.ref p,V.int m,V.ref a]=[some (V.ref p),some (V.int m),some (V.ref a),none,none] from rfl];walk_at "rd";refine ⟨⟨_,ha⟩,fun l hl=>?_⟩;have hlen:ps.length=rs.length:=Paired.length hro;have glen:=g.len;have m24:=g.m24;have hl1:Same H (upd H l (.lst [])):=Same.new _ hl;refine iA (K:=K) (xs:=ps.map V.ref) (fun i ys σ H2=>H2=upd H l (.lst ((ps.take i).map V.ref))/\ys=(ps.take i).map V.ref/\∃ v,σ=[v]) ⟨rfl,rfl,_,rfl⟩ (fun i ys σ H2 _ ⟨z,_⟩=>by rw [z];exact Same.sqX (Same.new _ hl) ha) ?_ ?_
   . rintro i x ys σ H2 N hN hi ⟨rfl,rfl,v,rfl⟩;obtain ⟨q,r,rfl,h1,h2,h3⟩:=hro.get hi;have nq:q≠l:=aG h3 hl;have hil:i<ps.length:=(List.getElem?_eq_some_iff.mp h1).1;have et:ps.take (i+1)=ps.take i++[q]:=(by rw [List.take_succ,h1];rfl);walk_at "rd";refine ⟨py r,.inr ⟨SqT.of (by rw [ao nq];exact h3),ah,cj (by rw [List.length_map,List.length_take];omega),hN _ _ _ ⟨?_,?_,_,rfl⟩⟩⟩
     . rw [iV,et,List.map_append];rfl
     . rw [et,List.map_append];rfl
   . rintro ys σ H2 ⟨rfl,rfl,v,rfl⟩;rw [List.length_map,List.take_length];refine ⟨l,rfl,ps.map V.ref,.inl ⟨SqL.of ah,fun t ht=>?_⟩⟩;have s1:Same H (upd H l (.lst (ps.map V.ref))):=Same.new _ hl;have s2:Same (upd H l (.lst (ps.map V.ref))) (upd (upd H l (.lst (ps.map V.ref))) t (.tup (ps.map V.ref))):=Same.new _ ht;have ht0:H t=none:=s1.free ht;have ht1:∀ {H':Hp},Same (upd (upd H l (.lst (ps.map V.ref))) t (.tup (ps.map V.ref))) H'->H' t=some (.tup (ps.map V.ref)):=fun e=>e _ _ ah;refine ⟨m,t,ps.map V.ref,rfl,SqT.of ah,g.m1,g.m24,by rw [List.length_map];omega,⟨_,SqT.of ah⟩,?_⟩;refine Ks (K:=K) (xs:=ps.map V.ref) (fun i σ H3=>Same (upd (upd H l (.lst (ps.map V.ref))) t (.tup (ps.map V.ref))) H3/\∃ v,σ=[some (.ref p),some (.int m),some (.ref a),some (.ref t),v]) ⟨Same.refl _,_,rfl⟩ (fun i σ H3 _ ⟨z,_⟩=>SqT.of (ht1 z)) ?_ ?_
     . rintro i x σ H3 N hN hi ⟨s3,v,rfl⟩;have s03:=s1.trans (s2.trans s3);obtain ⟨q,r,rfl,h1,h2,h3⟩:=hro.get hi;have ok:=g.ok r (List.mem_of_getElem? h2);walk_at "rd";refine ⟨m,q,r,rfl,s03 _ _ h3,ok.a0,ok.a1,ok.b0,ok.b1,ok.ne,?_⟩;exact ⟨q,r,rfl,s03 _ _ h3,ok.t0,ok.t1,ok.u0,ok.u1,fun H4 s4=>hN _ _ ⟨s3.trans s4,_,rfl⟩⟩
     . rintro σ H3 ⟨s3,v,rfl⟩;have s03:=s1.trans (s2.trans s3);walk_at "rd";refine ⟨m,t,ps,rs,rfl,SqT.of (ht1 s3),RoadsAt.same s03 hro,g,fun H4 s4=>?_⟩;have s04:=s03.trans s4;have ntp:t≠p:=fun z=>by rw [z,hp] at ht0;cases ht0
       refine ⟨T.Web,dx,[],s04 _ _ hp,T.ja,T.n_many,by decide,?_⟩;refine ⟨T.Web,dx,_,ah,T.ja,T.n_roads,by show 1<1000;decide,?_⟩;rw [iV];refine k t _ ht0 ⟨⟨dx,ah⟩,?_,?_,g⟩ fun b o hb nb=>?_
       . rw [ao ntp];exact ht1 (s3.trans s4)
       . refine Paired.imp' (fun q r hq=>?_) hro;rw [ao (gv hq hp (by intro z;cases z))];exact s04 _ _ hq
       . rw [ao nb];exact s04 _ _ hb
/-- Web(m,roads),at a call: nothing is changed,a new web stands -/
theorem Wz (T:Txt K mg) {H:Hp} {m:Int} {c:Bool} {a:Addr} {ps:List Addr} {rs:List Road} {Q:Addr->Hp->Prop} (ha:SqX K c H a (ps.map V.ref)) (ro:RoadsAt H ps rs) (g:Good m rs)
   (k:∀ x t H',H x=none->H t=none->Same H H'->WebAt T.Web H' x m t ps rs->Q x H') :
   ∀ x dx,H x=none->H dx=none->dx≠x->pp T [.ref x,.int m,.ref a] (upd (upd H dx (.own x)) x (.ins T.Web dx [])) (fun v H2=>v=.non/\Q x H2) E0:=by
 intro x dx hx hdx ne;have hx1:upd H dx (.own x) x=none:=by rw [ao ne.symm];exact hx
 have s0:Same H (upd (upd H dx (.own x)) x (.ins T.Web dx [])):=(Same.new _ hdx).trans (Same.new _ hx1);exact ⟨x,dx,m,c,a,ps,rs,rfl,ah,Same.sqX s0 ha,RoadsAt.same s0 ro,g,fun t H' ht W kp=>⟨rfl,k x t H' hx (s0.free ht) (fun b o e=>kp b o (s0 b o e) (aG e hx)) W⟩⟩
/-- the dict of the tolls of the first roads -/
def Vz (H:Hp) (d:Addr) (rs:List Road) (n:Nat):Prop:=∃ kvs,H d=some (.dT kvs)/\(kvs.length<=2*n/\∀ p∈kvs,∃ a b:Int,p.1=[.inl a,.inl b])/\∀ a b:Int,(∀ i x,i<n->rs[i]?=some x->q9 x a b->eA kvs [.inl a,.inl b]=(gA a b x).map V.int)/\((∀ i x,i<n->rs[i]?=some x->¬ q9 x a b)->eA kvs [.inl a,.inl b]=none)
/-- the dict of the tolls of a web -/
structure TollsAt (H:Hp) (d:Addr) (rs:List Road):Prop where
 ex:∃ kvs,H d=some (.dT kvs)/\∀ a b:Int,eA kvs [.inl a,.inl b]=(cQ rs a b).map V.int
 ks:∃ kvs,H d=some (.dT kvs)/\kvs.length<=2*rs.length/\∀ p∈kvs,∃ a b:Int,p.1=[.inl a,.inl b]
theorem TollsAt.same {H H':Hp} {d:Addr} {rs:List Road} (e:Same H H') (h:TollsAt H d rs):TollsAt H' d rs:=by
 obtain ⟨kvs,h1,h2⟩:=h.ex;obtain ⟨kws,h3,h4⟩:=h.ks;exact ⟨⟨kvs,e _ _ h1,h2⟩,⟨kws,e _ _ h3,h4⟩⟩
def Ao (T:Txt K mg):Sp:=fun vs H Q _=>∃ (l:Addr) (ps:List Addr) (m:Int) (rs:List Road),vs=[.ref l]/\H l=some (.lst (ps.map V.ref))/\RoadsAt H ps rs/\Good m rs/\∀ d H',H d=none->Same H H'->TollsAt H' d rs->Q (.ref d) H'
abbrev cM:Stmt:=top 55
theorem jV:FnScope ["roads","tolls","one","other","there","back"] ["roads"] (aa cM):=FnScope.of (by kernel_rfl)
theorem AM:NmL (aa cM) "roads":=.of (by kernel_rfl)
theorem jf:NmL (aa cM) "tolls":=.of (by kernel_rfl)
theorem nL:NmL (aa cM) "one":=.of (by kernel_rfl)
theorem lD:NmL (aa cM) "other":=.of (by kernel_rfl)
theorem rK:NmL (aa cM) "there":=.of (by kernel_rfl)
theorem sV:NmL (aa cM) "back":=.of (by kernel_rfl)
theorem Jn (T:Txt K mg) (hq:aP (CXe P w)) {f:Addr} {fd:FuncData} (D:Df K mg "_law_tolls" cM ["roads"] f fd):FnOk P w K mg base (CXe P w) 1 f fd ["roads"] (Ao T):=by
 refine D.F.okC jV (fun vs H Q E h=>?_) (fun cdv A outer s H vs Q E hr h=>?_)
 . obtain ⟨l,ps,m,rs,rfl,_⟩:=h
   rfl
 . obtain ⟨l,ps,m,rs,rfl,hl,ro,g,k⟩:=h;have hu:=Il hr;refine ⟨_,(ak (aw (i:=1) jV.nd rfl (Or.inl jf.l) Tq) (ak (eS PassesOwn.never rfl (iY (pvl 0 AM)) (kr (n:=4) rfl (aU (aB (i:=2) jV.nd rfl (Or.inl nL.l)) (aU (aB (i:=3) jV.nd rfl (Or.inl lD.l)) (aU (aB (i:=4) jV.nd rfl (Or.inl rK.l)) (aU (aB (i:=5) jV.nd rfl (Or.inl sV.l)) iT))))) (ak (Fz hu (pvl 1 jf) (bW (ag (pvl 2 nL) (ag (pvl 3 lD) aj))) (pvl 4 rK) rfl) (aq (Fz hu (pvl 1 jf) (bW (ag (pvl 3 lD) (ag (pvl 2 nL) aj))) (pvl 5 sV) rfl)))) (aq (aF (pvl 1 jf))))),?_⟩;rw [show L2.start ["roads","tolls","one","other","there","back"] [V.ref l]=[some (V.ref l),none,none,none,none,none] from rfl];walk_at "rd";intro d hd;have s0:=Same.new (.dT []) hd;have hlen:ps.length=rs.length:=Paired.length ro;have glen:=g.len;have m24:=g.m24;refine ⟨⟨_,SqL.of (s0 _ _ hl)⟩,?_⟩;refine rp (K:=K) (xs:=ps.map V.ref) (fun i σ H2=>Same H H2/\Vz H2 d rs i/\∃ v1 v2 v3 v4,σ=[some (V.ref l),some (V.ref d),v1,v2,v3,v4]) ⟨s0,⟨[],ah,⟨by simp,fun p hp=>nomatch hp⟩,fun a b=>⟨fun i x hi=>absurd hi (Nat.not_lt_zero _),fun _=>rfl⟩⟩,_,_,_,_,rfl⟩ (fun i σ H2 _ z=>SqL.of (z.1 _ _ hl)) ?_ ?_
   . rintro i x σ H2 N hN hx ⟨s2,⟨kvs,hk,⟨hkl,hks⟩,hkv⟩,v1,v2,v3,v4,rfl⟩;obtain ⟨q,r,rfl,h1,h2,h3⟩:=ro.get hx;have hil:i<rs.length:=(List.getElem?_eq_some_iff.mp h2).1;have ok:=g.ok r (List.mem_of_getElem? h2);walk_at "rd";refine ⟨_,SqT.of (s2 _ _ h3),rfl,_,_,rfl,_,_,rfl,_,_,rfl,_,_,rfl,rfl,?_⟩;refine ⟨aE (by simp),fun p1 n1=>⟨_,DPut.t (k:=[.inl r.a,.inl r.b]) (Same.new (.tup [V.int r.a,V.int r.b]) n1 _ _ hk) ah (cj (by omega)),aE (by simp),fun p2 n2=>?_⟩⟩;have l1:=mJ kvs [Sum.inl r.a,Sum.inl r.b] (V.int r.t);have np2:d≠p2:=fun z=>by rw [<- z,ah] at n2;cases n2
     refine ⟨_,DPut.t (k:=[.inl r.b,.inl r.a]) (by rw [ao np2];exact ah) ah (cj (by omega)),hN _ _ ⟨?_,⟨_,ah,?_,?_⟩,_,_,_,_,rfl⟩⟩
     . intro b o hb;have nd:b≠d:=aG hb hd;have b2:=s2 _ _ hb;have nb1:b≠p1:=aG b2 n1;have b3:upd (upd H2 p1 (.tup [V.int r.a,V.int r.b])) d (.dT (fL kvs [Sum.inl r.a,Sum.inl r.b] (V.int r.t))) b=some o:=(by rw [ao nd,ao nb1];exact b2);rw [ao nd,ao (aG b3 n2)];exact b3
     . have l2:=mJ (fL kvs [Sum.inl r.a,Sum.inl r.b] (V.int r.t)) [Sum.inl r.b,Sum.inl r.a] (V.int r.u);refine ⟨by omega,fun p hp=>?_⟩;rcases KU hp with e|⟨q,hq,e⟩
       . exact ⟨_,_,e⟩
       rcases KU hq with e'|⟨q',hq',e'⟩
       . exact ⟨_,_,e.trans e'⟩
       . obtain ⟨a',b',e2⟩:=hks q' hq';exact ⟨a',b',e.trans (e'.trans e2)⟩
     . intro a' b';have v2:eA (fL (fL kvs [Sum.inl r.a,Sum.inl r.b] (V.int r.t)) [Sum.inl r.b,Sum.inl r.a] (V.int r.u)) [Sum.inl a',Sum.inl b']=if a'=r.b/\b'=r.a then some (V.int r.u) else if a'=r.a/\b'=r.b then some (V.int r.t) else eA kvs [Sum.inl a',Sum.inl b']:=by
         rw [JG,JG];simp
       rw [v2];have away:¬ q9 r a' b'->(if a'=r.b/\b'=r.a then some (V.int r.u) else if a'=r.a/\b'=r.b then some (V.int r.t) else eA kvs [Sum.inl a',Sum.inl b'])=eA kvs [Sum.inl a',Sum.inl b']:=fun z=>by
         rw [if_neg (fun w=>z (.inr ⟨w.1.symm,w.2.symm⟩)),if_neg (fun w=>z (.inl ⟨w.1.symm,w.2.symm⟩))]
       constructor
       . intro j x hj hy jx;by_cases e:j=i
         . subst e;rw [h2] at hy;cases hy;rcases jx with ⟨w1,w2⟩|⟨w1,w2⟩
           . subst w1 w2;rw [if_neg (fun z=>ok.ne z.1),if_pos ⟨rfl,rfl⟩,Rg ok.ne]
             rfl
           . subst w1 w2;rw [if_pos ⟨rfl,rfl⟩,Rr ok.ne]
             rfl
         . rw [away fun w=>e (Gf g hy h2 jx w)];exact (hkv a' b').1 j x (by omega) hy jx
       . intro z;rw [away (z i r (by omega) h2)];exact (hkv a' b').2 fun j x hj hx=>z j x (by omega) hx
   . rintro σ H2 ⟨s2,⟨kvs,hk,⟨hkl,hks⟩,hkv⟩,v1,v2,v3,v4,rfl⟩;rw [List.length_map,hlen] at hkv;walk_at "rd";refine k d H2 hd s2 ⟨⟨kvs,hk,fun a b=>?_⟩,⟨kvs,hk,by rw [List.length_map,hlen] at hkl;exact hkl,hks⟩⟩;by_cases z:∃ (i:Nat) (x:Road),rs[i]?=some x/\q9 x a b
     . obtain ⟨i,x,hi,j⟩:=z;rw [(hkv a b).1 i x (List.getElem?_eq_some_iff.mp hi).1 hi j,Gp g hi j]
     . rw [(hkv a b).2 fun i x _ hi j=>z ⟨i,x,hi,j⟩,Qn]
       . rfl
       . rintro ⟨x,hx,j⟩;obtain ⟨i,hi⟩:=List.getElem?_of_mem hx;exact z ⟨i,x,hi,j⟩
theorem qu {a b:Int} {m n:Nat} (ha:a.natAbs<2^m) (hb:b.natAbs<2^n) (h:m<=100000/\n<=100000):IntMulOk a b :=
 IntMulOk.of_bits (Nat.le_trans (BN ha) (Nat.le_trans h.1 (by decide))) (Nat.le_trans (BN hb) (Nat.le_trans h.2 (by decide)))
def xD (T:Txt K mg):Sp:=fun vs H Q _=>∃ (a b:Addr) (qs:List Addr) (fs:List (Int × Int)) (ns:List Int),vs=[.ref a,.ref b]/\H a=some (.lst (qs.map V.ref))/\FrsAt H qs fs/\(∀ f∈fs,FrB 990 f)/\H b=some (.lst (ns.map V.int))/\fs.length=ns.length/\fs.length<=24/\(∀ x∈ns,0<x/\x.natAbs<2^500) /\
 ∀ (t:Addr) (x y:Int) (H':Hp),H t=none->Same H H'->H' t=some (.tup [.int x,.int y])->0<y->x.natAbs<2^40000->y.natAbs<2^40000->(x:Rat) / y=eB (fs.zip ns) (fun z=>(z.1.1:Rat) / z.1.2 / z.2)->Q (.ref t) H'
abbrev bE:Stmt:=top 63
theorem fD:FnScope ["shares","prices","top","bottom","share","much"] ["shares","prices"] (aa bE):=FnScope.of (by kernel_rfl)
theorem xS:NmL (aa bE) "shares":=.of (by kernel_rfl)
theorem xF:NmL (aa bE) "prices":=.of (by kernel_rfl)
theorem jm:NmL (aa bE) "top":=.of (by kernel_rfl)
theorem eg:NmL (aa bE) "bottom":=.of (by kernel_rfl)
theorem hJ:NmL (aa bE) "share":=.of (by kernel_rfl)
theorem kQ:NmL (aa bE) "much":=.of (by kernel_rfl)
theorem Bt:NmG (aa bE) "zip":=.of (by kernel_rfl)
theorem Fq (T:Txt K mg) (hq:aP (CXe P w)) {f:Addr} {fd:FuncData} (D:Df K mg "_law_divided" bE ["shares","prices"] f fd):FnOk P w K mg base (CXe P w) 1 f fd ["shares","prices"] (xD T):=by
 refine D.F.okC fD (fun vs H Q E h=>?_) (fun cdv A outer s H vs Q E hr h=>?_)
 . obtain ⟨a,b,qs,fs,ns,rfl,_⟩:=h
   rfl
 . obtain ⟨a,b,qs,fs,ns,rfl,ha,hf,fb,hb,fl,f24,nb,k⟩:=h;have ql:qs.length=fs.length:=Paired.length hf;refine ⟨_,(ak (aw (i:=2) fD.nd rfl (Or.inl jm.l) am) (ak (aw (i:=3) fD.nd rfl (Or.inl eg.l) am) (ak (eS PassesOwn.never rfl (Pp true true Bt.g T.zip (ag (pvl 0 xS) (ag (pvl 1 xF) aj))) (kr (n:=2) rfl (aU (aB (i:=4) fD.nd rfl (Or.inl hJ.l)) (aU (aB (i:=5) fD.nd rfl (Or.inl kQ.l)) iT))) (ak (aw (i:=2) fD.nd rfl (Or.inl jm.l) (av gY (av dc (av dc (pvl 2 jm) (az bC (pvl 4 hJ) am (fun _ _=>rfl))) (pvl 5 kQ)) (av dc (az bC (pvl 4 hJ) am (fun _ _=>rfl)) (pvl 3 eg)))) (aq (aw (i:=3) fD.nd rfl (Or.inl eg.l) (av dc (av dc (pvl 3 eg) (az bC (pvl 4 hJ) am (fun _ _=>rfl))) (pvl 5 kQ)))))) (aq (aF (bW (ag (pvl 2 jm) (ag (pvl 3 eg) aj)))))))),?_⟩;rw [show L2.start ["shares","prices","top","bottom","share","much"] [V.ref a,V.ref b]=[some (V.ref a),some (V.ref b),none,none,none,none] from rfl];refine aW fun N1 h1=>?_;walk_at "rd";refine h1 _ _ (aW fun N2 h2=>?_);walk_at "rd";refine h2 _ _ (aW fun N3 h3=>?_);walk_at "rd";refine ⟨a,b,⟨rfl,rfl⟩,⟨_,SqL.of ha⟩,⟨_,SqL.of hb⟩,?_⟩;refine Ro (K:=K) (c:=true) (d:=true) (xs:=qs.map V.ref) (ys:=ns.map V.int) (fun i σ H2=>Same H H2/\∃ (x y:Int) (v4 v5:Option V),0<y/\x.natAbs<2^(1+i*1500)/\y.natAbs<2^(1+i*1500)/\(x:Rat) / y=eB ((fs.zip ns).take i) (fun z=>(z.1.1:Rat) / z.1.2 / z.2)/\σ=[some (V.ref a),some (V.ref b),some (V.int x),some (V.int y),v4,v5]) ⟨Same.refl _,0,1,_,_,by decide,by decide,by decide,by rw [List.take_zero];exact (by rw [show ((0:Int):Rat)=0 from rfl,Rat.div_def,Rat.zero_mul];rfl),rfl⟩ (fun i σ H2 z=>⟨SqL.of (z.1 _ _ ha),SqL.of (z.1 _ _ hb)⟩) ?_ ?_
   . rintro i u w σ H2 pq N hN hu hw ⟨s2,x,y,v4,v5,y0,xb,yb,su,rfl⟩ npq;rw [List.getElem?_map] at hu hw;obtain ⟨q,gq,rfl⟩:=Option.map_eq_some_iff.mp hu;obtain ⟨n,gn,rfl⟩:=Option.map_eq_some_iff.mp hw;obtain ⟨f,gf,eq⟩:=mL hf gq;obtain ⟨f0,fb1,fb2⟩:=fb f (List.mem_of_getElem? gf);obtain ⟨n0,nb1⟩:=nb n (List.mem_of_getElem? gn);have il:=(List.getElem?_eq_some_iff.mp gf).1;have s3:=s2.trans (Same.new (.tup [V.ref q,V.int n]) npq);refine Oj (SqT.of ah) ?_;simp only [List.set_cons_zero,List.set_cons_succ];have eq3:=s3 _ _ eq;generalize upd H2 pq (.tup [V.ref q,V.int n])=H3 at s3 eq3 ⊢;have b1:(x*f.2).natAbs<2^(1+i*1500+990):=bR xb fb2;have b2:(x*f.2*n).natAbs<2^(1+i*1500+990+500):=bR b1 nb1;have b3:(f.1*y).natAbs<2^(990+(1+i*1500)):=bR fb1 yb;have b4:(y*f.2).natAbs<2^(1+i*1500+990):=bR yb fb2;have b5:(y*f.2*n).natAbs<2^(1+i*1500+990+500):=bR b4 nb1;refine aW fun M1 k1=>?_;walk_at "rd";refine qW (SqT.of eq3) rfl ⟨_,rfl,qu xb fb2 (by omega),qu b1 nb1 (by omega),qW (SqT.of eq3) rfl ⟨_,rfl,qu fb1 yb (by omega),k1 _ _ ?_⟩⟩;walk_at "rd";refine qW (SqT.of eq3) rfl ⟨_,rfl,qu yb fb2 (by omega),qu b4 nb1 (by omega),hN _ _ ⟨s3,_,_,_,_,Int.mul_pos (Int.mul_pos y0 f0) n0,?_,bc b5 (by omega),?_,rfl⟩⟩
     . exact bc (lx b2 (bc b3 (by omega))) (by omega)
     . have gz:(fs.zip ns)[i]?=some (f,n):=(by rw [List.getElem?_zip_eq_some];exact ⟨gf,gn⟩);rw [List.take_succ,gz,Option.toList_some,lL,<- su];have n1:=eY (Int.ne_of_gt f0);have n2:=eY (Int.ne_of_gt n0);have n3:=eY (Int.ne_of_gt y0);rw [Rat.intCast_add,Rat.intCast_mul,Rat.intCast_mul,Rat.intCast_mul,Rat.intCast_mul,Rat.intCast_mul];show _=(x:Rat) / y+(f.1:Rat) / f.2 / n;generalize ((f.2:Int):Rat)=f2 at *;generalize ((n:Int):Rat)=nn at *;generalize ((y:Int):Rat)=yy at *
       grind
   . rintro σ H2 ⟨s2,x,y,v4,v5,y0,xb,yb,su,rfl⟩;refine h3 _ _ ?_;rw [List.length_map,List.length_map,ql,<- fl,Nat.min_self] at xb yb su;rw [List.take_of_length_le (by rw [List.length_zip];omega)] at su;walk_at "rd";exact ⟨aE (by simp),fun t nt=>k t x y _ (s2.free nt) (s2.trans (Same.new _ nt)) ah y0 (bc xb (by omega)) (bc yb (by omega)) su⟩
def zv (T:Txt K mg):Sp:=fun vs H Q _=>∃ (d:Addr) (m:Int) (rs:List Road) (p:Int),vs=[.int m,.ref d,.int p]/\TollsAt H d rs/\0<=m/\m<=1000/\∀ l H',H l=none->Same H H'->H' l=some (.lst ((cN m rs p).map V.int))->Q (.ref l) H'
abbrev cH:Stmt:=top 56
theorem Hx:FnScope ["many","tolls","place"] ["many","tolls","place"] (aa cH):=FnScope.of (by kernel_rfl)
theorem Bs:NmL (aa cH) "many":=.of (by kernel_rfl)
theorem O9:NmC (aa cH) "tolls":=.of (by kernel_rfl)
theorem Pa:NmC (aa cH) "place":=.of (by kernel_rfl)
theorem zZ:NmG (aa cH) "range":=.of (by kernel_rfl)
theorem He (T:Txt K mg) (hq:aP (CXe P w)) {f:Addr} {fd:FuncData} (D:Df K mg "_law_beside" cH ["many","tolls","place"] f fd):FnOk P w K mg base (CXe P w) 1 f fd ["many","tolls","place"] (zv T):=by
 refine D.F.okC Hx (fun vs H Q E h=>?_) (fun cdv A outer s H vs Q E hr h=>?_)
 . obtain ⟨d,m,rs,p,rfl,_⟩:=h
   rfl
 . obtain ⟨d,m,rs,p,rfl,ta,m0,m1,k⟩:=h;have hu:=Il hr;obtain ⟨kvs,hk,hv⟩:=ta.ex;refine ⟨_,(aq (aF (fM rfl (gI (Nc:=["other","tolls","place"]) 1 [1,2] (by decide +kernel) rfl (by decide +kernel) rfl (by show ∀ (y:Str × NameKind),y∈_->y.2=NameKind.free->(aa cH).names.lookup y.1=some NameKind.cell;decide +kernel) rfl (fun _ h=>dL h) (fun i hi=>match i,hi with|0,_=>⟨"tolls",1,rfl,rfl,rfl,by decide +kernel⟩|1,_=>⟨"place",2,rfl,rfl,rfl,by decide +kernel⟩|i+2,hi=>absurd hi (by show ¬ i+2<2;omega))) (ij zZ.g T.range (ag (pvl 0 Bs) aj)) (fun _ _ _ _=>(aB (i:=0) (show (["other","tolls","place"]:List Str).Nodup from by decide +kernel) rfl (Or.inl rfl))) (fun _ _ _ _=>(BE (Qe (WL hu (bW (ag (pv 2) (ag (pv 0) aj))) (pv 1))))) (fun _ _ _ _=>(pv 0))))),?_⟩;rw [show L2.start ["many","tolls","place"] [V.int m,V.ref d,V.int p]=[some (V.int m),some (V.ref d),some (V.int p)] from rfl];walk_at "rd";refine ⟨by omega,by omega,fun l hl=>?_⟩;refine mj (lo:=0) (n:=m.toNat) (fun i ys σ H2=>Same H H2/\H2 l=some (.lst ys)/\ys=(((below i).filter fun q=>(cQ rs p q).isSome).map V.int)/\∃ v,σ=[v,some (V.ref d),some (V.int p)]) ⟨Same.new _ hl,ah,rfl,_,rfl⟩ ?_ ?_
   . rintro i ys σ H2 N hN hi ⟨s2,h2,rfl,v,rfl⟩;walk_at "rd";refine ⟨aE (by simp),fun q nq=>?_⟩;have s3:=Same.new (.tup [V.int p,V.int (0+(i:Int))]) nq;have ll:((List.filter (fun q=>(cQ rs p q).isSome) (below i)).map V.int).length<sizeLine:=by
       rw [List.length_map];have a1:=List.length_filter_le (fun q=>(cQ rs p q).isSome) (below i);rw [bo] at a1;exact cj (by omega)
     have bs:below (i+1)=below i++[(i:Int)]:=(by unfold below;rw [List.range_succ,List.map_append];rfl);have hg:=DGet.t (k:=[.inl p,.inl (0+(i:Int))]) (s3 _ _ (s2 _ _ hk)) ah;rw [hv] at hg;refine ⟨_,hg,?_⟩;have ez:(0:Int)+(i:Int)=(i:Int):=(by omega);rw [ez] at hg s3 ⊢;cases q':cQ rs p (i:Int) with
     | none =>
       refine hN _ _ _ ⟨s2.trans s3,s3 _ _ h2,?_,_,rfl⟩;rw [bs,List.filter_append];simp [q']
     | some t =>
       refine ⟨s3 _ _ h2,ll,hN _ _ _ ⟨?_,ah,?_,_,rfl⟩⟩
       . intro b o hb;rw [ao (aG hb hl)];exact s3 _ _ (s2 _ _ hb)
       . rw [bs,List.filter_append];simp [q']
   . rintro ys σ H2 ⟨s2,h2,rfl,v,rfl⟩;rw [<- Pe] at h2;exact k l H2 hl s2 h2
def AE (T:Txt K mg):Sp:=fun vs H Q _=>∃ (d:Addr) (m:Int) (rs:List Road) (r:Int),vs=[.int m,.ref d,.int r]/\TollsAt H d rs/\Good m rs/\0<=r/\r<m /\
 ∃ par dep,Rooted m rs r par dep/\∀ l H',H l=none->Same H H'->H' l=some (.lst (qI m r par))->Q (.ref l) H'
abbrev bK:Stmt:=top 57
theorem jX:FnScope ["many","tolls","r","found","row","at","other"] ["many","tolls","r"] (aa bK):=FnScope.of (by kernel_rfl)
theorem sU:NmL (aa bK) "many":=.of (by kernel_rfl)
theorem Ay:NmL (aa bK) "tolls":=.of (by kernel_rfl)
theorem Fb:NmL (aa bK) "r":=.of (by kernel_rfl)
theorem je:NmL (aa bK) "found":=.of (by kernel_rfl)
theorem fE:NmL (aa bK) "row":=.of (by kernel_rfl)
theorem eX:NmL (aa bK) "at":=.of (by kernel_rfl)
theorem jg:NmL (aa bK) "other":=.of (by kernel_rfl)
theorem nU:NmG (aa bK) "len":=.of (by kernel_rfl)
theorem mx:NmG (aa bK) "_law_beside":=.of (by kernel_rfl)
theorem JP (T:Txt K mg) (hq:aP (CXe P w)) {f:Addr} {fd:FuncData} (D:Df K mg "_law_ahead" bK ["many","tolls","r"] f fd) {iE:Addr} {zJ:FuncData} (jY:Df K mg "_law_beside" cH ["many","tolls","place"] iE zJ) (G_law_beside:FnOk P w K mg base (CXe P w) 1 iE zJ ["many","tolls","place"] (zv T)):FnOk P w K mg base (CXe P w) 2 f fd ["many","tolls","r"] (AE T):=by
 refine D.F.okC jX (fun vs H Q E h=>?_) (fun cdv A outer s H vs Q E hr h=>?_)
 . obtain ⟨d,m,rs,r,rfl,_⟩:=h
   rfl
 . obtain ⟨d,m,rs,r,rfl,ta,g,r0,r1,par,dep,R,k⟩:=h;have m24:=g.m24;refine ⟨_,(ak (aw (i:=3) jX.nd rfl (Or.inl je.l) (av uI (bj (ag Qh aj)) (pvl 0 sU))) (ak (aw (i:=4) jX.nd rfl (Or.inl fE.l) (bj (ag (pvl 2 Fb) aj))) (ak (aw (i:=5) jX.nd rfl (Or.inl eX.l) am) (ak (nQ PassesOwn.never (aM yW (pvl 5 eX) (bI ck nU.g T.len iH (ag (pvl 4 fE) aj) (hn:=nU.n) (hdb:=nU.d)) (aL _)) (ak (eS PassesOwn.never rfl (iY (ar G_law_beside (hr.mono (by decide)) mx.g jY.m jY.F.kp jY.b .nil (ax hq) (ag (pvl 0 sU) (ag (pvl 1 Ay) (ag (az aI (pvl 4 fE) (pvl 5 eX) (fun _ _=>rfl)) aj))) (hdb:=mx.d))) (aB (i:=6) jX.nd rfl (Or.inl jg.l)) (aq (bA (aM pA (pvl 6 jg) (az aI (pvl 3 je) (az aI (pvl 4 fE) (pvl 5 eX) (fun _ _=>rfl)) (fun _ _=>rfl)) (aL _)) (ak (gZ (az aI (pvl 4 fE) (pvl 5 eX) (fun _ _=>rfl)) (kq (pvl 3 je) (pvl 6 jg) gL)) (aq (dG (pj PySem.F.plainAttrs_list PySem.F.slot_list_append PySem.F.type_list_append ga (pvl 4 fE) (ag (pvl 6 jg) aj))))) aO))) (aq (aw (i:=5) jX.nd rfl (Or.inl eX.l) (av gY (pvl 5 eX) am))))) (aq (aF (pvl 3 je))))))),?_⟩;rw [show L2.start ["many","tolls","r","found","row","at","other"] [V.int m,V.ref d,V.int r]=[some (V.int m),some (V.ref d),some (V.int r),none,none,none,none] from rfl];walk_at "rd";refine ⟨by decide,fun l1 n1=>?_⟩;have s1:=Same.new (.lst [V.non]) n1;refine ⟨l1,m,[V.non],rfl,rfl,ah,by omega,by omega,aE (by simp;omega),fun l2 n2=>?_⟩;have n20:H l2=none:=s1.free n2;rw [yf,<- P7 (par:=par)];have s2:=s1.trans (Same.new (.lst (nl m par [])) n2);refine ⟨aE (by simp),fun l3 n3=>?_⟩;have n30:H l3=none:=s2.free n3;have n32:l3≠l2:=fun z=>by rw [z,ah] at n3;cases n3
   have s3:=s2.trans (Same.new (.lst [V.int r]) n3);have e2:upd (upd (upd H l1 (.lst [V.non])) l2 (.lst (nl m par []))) l3 (.lst [V.int r]) l2=some (.lst (nl m par [])):=by rw [ao n32.symm,ah]
   have e3:upd (upd (upd H l1 (.lst [V.non])) l2 (.lst (nl m par []))) l3 (.lst [V.int r]) l3=some (.lst [V.int r]):=ah;generalize upd (upd (upd H l1 (.lst [V.non])) l2 (.lst (nl m par []))) l3 (.lst [V.int r])=H3 at s3 e2 e3 ⊢;refine FC (fun n σ H4=>∃ (ks:List Int) (a:Nat) (v6:Option V),n=m.toNat - a/\a<=(r::ks).length/\σ=[some (.int m),some (.ref d),some (.int r),some (.ref l2),some (.ref l3),some (.int (a:Int)),v6]/\Same H H4/\H4 l2=some (.lst (nl m par ks))/\H4 l3=some (.lst ((r::ks).map V.int))/\AInv m rs r par ks ((r::ks).drop a)) m.toNat ⟨[],0,_,rfl,Nat.zero_le _,rfl,s3,e2,e3,AInv.start⟩ ?_;rintro n σ H4 NW hN hN2 ⟨ks,a,v6,rfl,al,rfl,s4,h2,h3,J⟩;have kl:=dw (m:=m) (by omega) (List.nodup_cons.mpr ⟨J.nr,J.nd⟩) fun w hw=>by
     rcases List.mem_cons.mp hw with rfl|z
     . exact ⟨r0,r1⟩
     . exact J.rng w z
   walk_at "rd";refine ⟨_,.inl (SqL.of h3),?_⟩;rw [List.length_map];by_cases c:a<(r::ks).length
   . rw [if_pos (by omega)];refine ⟨NW,fun σ' H' z=>?_,?_⟩
     . obtain ⟨m',lt,ks',a',v,e1,e2,e3,e4⟩:=hN2 _ _ z;exact ⟨m',lt,ks',a',e1,e2,v,e3,e4⟩
     have qa:(r::ks)[a]?=some (r::ks)[a]:=List.getElem?_eq_getElem c;have dr:(r::ks).drop a=(r::ks)[a]::(r::ks).drop (a+1):=List.drop_eq_getElem_cons c;generalize (r::ks)[a]=q at qa dr;rw [dr] at J;have hq:q∈q::(r::ks).drop (a+1):=List.mem_cons_self;have pr:=J.at_ r0 r1 hq;have J2:=J.step g R r0 r1 (List.Perm.refl _);have mk:∀ v,v∈cR m rs (Pb.front r par q) q↔(0<=v/\v<m)/\v≠r/\par v=q:=fun v=>nB g R pr.1 pr.2;have fr:=J.front hq;have qk:q ∉ cR m rs (Pb.front r par q) q:=fun z=>by
       obtain ⟨w1,w2,w3⟩:=(mk q).mp z;exact R.ne w1.1 w1.2 w2 w3
     have hfv:Pb.front r par q=.non\/∃ i,Pb.front r par q=.int i:=by
       unfold Pb.front;by_cases c:q=r
       . rw [if_pos c];exact .inl rfl
       . rw [if_neg c];exact .inr ⟨_,rfl⟩
     have kl2:=dw (by omega) J2.nd J2.rng;rw [List.length_append] at kl2;refine ixL h3 (qK (by rw [List.getElem?_map,qa];rfl)) ?_;refine ⟨d,m,rs,q,rfl,ta.same s4,by omega,by omega,fun l6 H6 n6 s6 e6=>⟨l6,rfl,⟨_,SqL.of e6⟩,?_⟩⟩;have n62:l6≠l2:=fun z=>by rw [z,h2] at n6;cases n6
     have n63:l6≠l3:=fun z=>by rw [z,h3] at n6;cases n6
     have rowA:∀ l:List Int,((r::(ks++l)).map V.int)[a]?=some (V.int q):=fun l=>by
       rw [List.getElem?_map,<- List.cons_append,List.getElem?_append_left c,qa];rfl
     refine rp (K:=K) (xs:=(cN m rs q).map V.int) (fun i σ H7=>∃ v6,σ=[some (.int m),some (.ref d),some (.int r),some (.ref l2),some (.ref l3),some (.int (a:Int)),v6]/\Same H H7/\H7 l6=some (.lst ((cN m rs q).map V.int))/\H7 l2=some (.lst (nl m par (ks++((cN m rs q).take i).filter fun v=>decide (V.int v≠Pb.front r par q)))) /\
       H7 l3=some (.lst ((r::(ks++((cN m rs q).take i).filter fun v=>decide (V.int v≠Pb.front r par q))).map V.int))) ⟨_,rfl,s4.trans s6,e6,?_,?_⟩ (fun i σ H7 _ z=>by obtain ⟨_,_,_,z,_⟩:=z;exact SqL.of z) ?_ ?_
     . rw [List.take_zero,List.filter_nil,List.append_nil];exact s6 _ _ h2
     . rw [List.take_zero,List.filter_nil,List.append_nil];exact s6 _ _ h3
     . rintro i x σ H7 NI hI hi ⟨v6,rfl,s7,e7,h27,h37⟩;rw [List.getElem?_map] at hi;obtain ⟨b,hb,rfl⟩:=Option.map_eq_some_iff.mp hi;have et:(cN m rs q).take (i+1)=(cN m rs q).take i++[b]:=(by rw [List.take_succ,hb];rfl);have sub:∀ v∈((cN m rs q).take i).filter (fun v=>decide (V.int v≠Pb.front r par q)),v∈cR m rs (Pb.front r par q) q:=fun v hv=>by
         obtain ⟨h1,h2⟩:=List.mem_filter.mp hv;exact List.mem_filter.mpr ⟨List.mem_of_mem_take h1,h2⟩
       have len:(((cN m rs q).take i).filter (fun v=>decide (V.int v≠Pb.front r par q))).length<=24:=by
         have h1:=List.length_filter_le (fun v=>decide (V.int v≠Pb.front r par q)) ((cN m rs q).take i);have h2:=List.length_filter_le (fun z=>decide (z∈cF rs q)) (below m.toNat);rw [bo] at h2;have h3:(cN m rs q).length<=m.toNat:=h2;rw [List.length_take] at h1;omega
       have ef:(((cN m rs q).take (i+1)).filter fun v=>decide (V.int v≠Pb.front r par q))=(((cN m rs q).take i).filter fun v=>decide (V.int v≠Pb.front r par q))++if V.int b=Pb.front r par q then [] else [b]:=by
         rw [et,List.filter_append];by_cases z:V.int b=Pb.front r par q <;> simp [z]
       rw [ef] at hI;generalize (((cN m rs q).take i).filter fun v=>decide (V.int v≠Pb.front r par q))=kp at h27 h37 sub len hI;have fr2:(if q∈ks++kp then V.int (par q) else V.non)=Pb.front r par q:=by
         rw [<- fr];have:q∈ks++kp↔q∈ks:=⟨fun z=>(List.mem_append.mp z).resolve_right fun y=>qk (sub q y),List.mem_append_left _⟩;simp only [this]
       walk_at "rd";refine ixL h37 (qK (rowA kp)) (ixL h27 (iW pr.1 (Jd pr.1 pr.2)) ?_);rw [fr2];have sc:wa (V.int b) (Pb.front r par q)=true:=by
         rcases hfv with z|⟨i,z⟩ <;> rw [z] <;> rfl
       refine ⟨sc,?_⟩;by_cases c2:V.int b=Pb.front r par q
       . rw [if_neg (fun z=>z c2)];rw [if_pos c2,List.append_nil] at hI;exact hI _ _ ⟨_,rfl,s7,e7,h27,h37⟩
       . rw [if_pos c2];rw [if_neg c2] at hI;obtain ⟨vr,_,vp⟩:=(mk b).mp (List.mem_filter.mpr ⟨List.mem_of_getElem? hb,decide_eq_true c2⟩);refine ixL h37 (qK (rowA kp)) ?_;refine ⟨l2,_,b,b.toNat,rfl,rfl,h27,by unfold ixN;rw [if_pos vr.1,if_pos (by rw [rC];omega)],?_⟩;rw [<- vp,Qc vr.1 vr.2,List.append_assoc];have h38:upd H7 l2 (.lst (nl m par (ks++(kp++[b])))) l3=some (.lst ((r::(ks++kp)).map V.int)):=(by rw [ao n32];exact h37);refine ⟨tyL h38,wF h38 (cj (by rw [List.length_map,List.length_cons,List.length_append];omega)) (hI _ _ ⟨_,rfl,(s7.put n20 _).put n30 _,?_,?_,?_⟩)⟩
         . rw [ao n63,ao n62];exact e7
         . rw [ao n32.symm,ah]
         . rw [ah];simp
     . rintro σ H7 ⟨v6,rfl,s7,e7,h27,h37⟩;rw [List.length_map,List.take_length] at h27 h37;walk_at "rd";refine hN (m.toNat - (a+1)) _ _ (by omega) ⟨_,a+1,_,rfl,?_,rfl,s7,h27,h37,?_⟩
       . rw [List.length_cons,List.length_append];rw [List.length_cons] at c;omega
       . rw [<- List.cons_append,List.drop_append_of_le_length (by omega)];exact J2
   . rw [if_neg (by omega)];rw [List.drop_eq_nil_of_le (by omega)] at J;rw [J.done R] at h2;exact k l2 H4 n20 s4 h2
def zC (T:Txt K mg):Sp:=fun vs H Q _=>∃ (d:Addr) (m v:Int) (to:Bool) (rs:List Road) (par:Int->Int) (dep:Int->Nat),vs=[.int m,.ref d,.int v,.bl to]/\TollsAt H d rs/\Good m rs/\0<=v/\v<m/\Rooted m rs v par dep /\
 ∀ l H',H l=none->Same H H'->H' l=some (.lst (((below m.toNat).map (prc rs par dep to)).map V.int))->Q (.ref l) H'
abbrev aY:Stmt:=top 62
theorem dF:FnScope ["many","tolls","v","to","towards","told","place","product","here","step"] ["many","tolls","v","to"] (aa aY):=FnScope.of (by kernel_rfl)
theorem rn:NmL (aa aY) "many":=.of (by kernel_rfl)
theorem pT:NmL (aa aY) "tolls":=.of (by kernel_rfl)
theorem vK:NmL (aa aY) "v":=.of (by kernel_rfl)
theorem Dk:NmL (aa aY) "to":=.of (by kernel_rfl)
theorem gw:NmL (aa aY) "towards":=.of (by kernel_rfl)
theorem lM:NmL (aa aY) "told":=.of (by kernel_rfl)
theorem pY:NmL (aa aY) "place":=.of (by kernel_rfl)
theorem gJ:NmL (aa aY) "product":=.of (by kernel_rfl)
theorem cP:NmL (aa aY) "here":=.of (by kernel_rfl)
theorem lO:NmL (aa aY) "step":=.of (by kernel_rfl)
theorem mz:NmG (aa aY) "_law_ahead":=.of (by kernel_rfl)
theorem zY:NmG (aa aY) "range":=.of (by kernel_rfl)
theorem Hf (T:Txt K mg) (hq:aP (CXe P w)) {f:Addr} {fd:FuncData} (D:Df K mg "_law_prices" aY ["many","tolls","v","to"] f fd) {jA:Addr} {AZ:FuncData} (kE:Df K mg "_law_ahead" bK ["many","tolls","r"] jA AZ) (G_law_ahead:FnOk P w K mg base (CXe P w) 2 jA AZ ["many","tolls","r"] (AE T)):FnOk P w K mg base (CXe P w) 3 f fd ["many","tolls","v","to"] (zC T):=by
 refine D.F.okC dF (fun vs H Q E h=>?_) (fun cdv A outer s H vs Q E hr h=>?_)
 . obtain ⟨d,m,v,to,rs,par,dep,rfl,_⟩:=h
   rfl
 . obtain ⟨d,m,v,to,rs,par,dep,rfl,td,g,v0,v1,R,k⟩:=h;have hu:=Il hr;have m24:=g.m24;refine ⟨_,(ak (aw (i:=4) dF.nd rfl (Or.inl gw.l) (ar G_law_ahead (hr.mono (by decide)) mz.g kE.m kE.F.kp kE.b .nil (ax hq) (ag (pvl 0 rn) (ag (pvl 1 pT) (ag (pvl 2 vK) aj))) (hdb:=mz.d))) (ak (aw (i:=5) dF.nd rfl (Or.inl lM.l) (bj aj)) (ak (eS PassesOwn.never rfl (ij zY.g T.range (ag (pvl 0 rn) aj)) (aB (i:=6) dF.nd rfl (Or.inl pY.l)) (ak (aw (i:=7) dF.nd rfl (Or.inl gJ.l) am) (ak (aw (i:=8) dF.nd rfl (Or.inl cP.l) (pvl 6 pY)) (ak (nQ PassesOwn.never (aM pA (pvl 8 cP) (pvl 2 vK) (aL _)) (ak (aw (i:=9) dF.nd rfl (Or.inl lO.l) (bW (ag (pvl 8 cP) (ag (az aI (pvl 4 gw) (pvl 8 cP) (fun _ _=>rfl)) aj)))) (ak (bA (jQ (q8 (pvl 3 Dk) (fun _=>rfl))) (aq (aw (i:=9) dF.nd rfl (Or.inl lO.l) (bW (ag (az aI (pvl 4 gw) (pvl 8 cP) (fun _ _=>rfl)) (ag (pvl 8 cP) aj))))) aO) (ak (aw (i:=7) dF.nd rfl (Or.inl gJ.l) (av dc (pvl 7 gJ) (UP hu (pvl 1 pT) (pvl 9 lO) (fun _ _=>rfl)))) (aq (aw (i:=8) dF.nd rfl (Or.inl cP.l) (az aI (pvl 4 gw) (pvl 8 cP) (fun _ _=>rfl)))))))) (aq (dG (pj PySem.F.plainAttrs_list PySem.F.slot_list_append PySem.F.type_list_append ga (pvl 5 lM) (ag (pvl 7 gJ) aj)))))))) (aq (aF (pvl 5 lM)))))),?_⟩;rw [show L2.start ["many","tolls","v","to","towards","told","place","product","here","step"] [V.int m,V.ref d,V.int v,V.bl to]=[some (V.int m),some (V.ref d),some (V.int v),some (V.bl to),none,none,none,none,none,none] from rfl];refine aW fun N1 h1=>?_;walk_at "rd";refine ⟨d,m,rs,v,rfl,td,g,v0,v1,par,dep,R,fun lt H1 nlt s1 et=>h1 _ _ (aW fun N2 h2=>?_)⟩;walk_at "rd";refine ⟨aE (by simp),fun ld nld=>h2 _ _ (aW fun N3 h3=>?_)⟩;have s12:=s1.trans (Same.new (.lst []) nld);have nld0:=s1.free nld;have et2:=Same.new (.lst []) nld _ _ et;have ed2:upd H1 ld (.lst []) ld=some (.lst ((((below m.toNat).map (prc rs par dep to)).take 0).map V.int)):=ah;have nlt2:lt≠ld:=fun z=>by rw [<- z,et] at nld;cases nld
   generalize upd H1 ld (.lst [])=H2 at s12 et2 ed2 ⊢;clear s1 et nld;walk_at "rd";refine ⟨by omega,by omega,?_⟩;refine NL (fun i σ H3=>Same H H3/\H3 lt=some (.lst (qI m v par))/\H3 ld=some (.lst ((((below m.toNat).map (prc rs par dep to)).take i).map V.int))/\∃ v6 v7 v8 v9,σ=[some (V.int m),some (V.ref d),some (V.int v),some (V.bl to),some (V.ref lt),some (V.ref ld),v6,v7,v8,v9]) ⟨s12,et2,ed2,_,_,_,_,rfl⟩ ?_ ?_
   . rintro i σ H3 N BB hBB hN hi ⟨s3,et3,ed3,v6,v7,v8,v9,rfl⟩;refine hBB _ _ (aW fun M1 k1=>?_);rw [Int.zero_add];have i0:(0:Int)<=(i:Int):=(by omega);have i1:(i:Int)<m:=(by omega);walk_at "rd";refine k1 _ _ (aW fun M2 k2=>?_);walk_at "rd";refine k2 _ _ (aW fun M3 k3=>?_);have pb:=yY (to:=to) g R _ rfl i0 i1;refine xB (fun n σ H4=>Same H3 H4/\∃ (pr h:Int) (v9:Option V),n=dep h/\(0<=h/\h<m)/\pr*prc rs par dep to h=prc rs par dep to i/\0<pr/\pr.natAbs<2^((dep i - dep h)*20+1)/\dep h<=dep i/\σ=[some (V.int m),some (V.ref d),some (V.int v),some (V.bl to),some (V.ref lt),some (V.ref ld),some (V.int i),some (V.int pr),some (V.int h),v9]) (dep i) ⟨Same.refl _,1,i,_,rfl,⟨i0,i1⟩,Int.one_mul _,by decide,by rw [Nat.sub_self];decide,Nat.le_refl _,rfl⟩ ?_;rintro n σ H4 N4 BB4 hBB4 hN4 hN42 ⟨s4,pr,h,w9,rfl,hr',pe,p0,ppb,dl,rfl⟩;refine hBB4 _ _ _ ?_;walk_at "rd";by_cases c:h=v
     . rw [if_neg (fun z=>z c)];refine k3 _ _ ?_;walk_at "rd";have ed4:=s4 _ _ ed3;have epr:pr=prc rs par dep to i:=by
         rw [c,DA R,Int.mul_one] at pe;exact pe
       refine ⟨tyL ed4,wF ed4 (cj (by rw [List.length_map,List.length_take,List.length_map,bo];omega)) (hN _ _ ⟨(s3.trans s4).put nld0 _,by rw [ao nlt2];exact s4 _ _ et3,?_,_,_,_,_,rfl⟩)⟩;rw [ah,epr];have gi:((below m.toNat).map (prc rs par dep to))[i]?=some (prc rs par dep to i):=by
         rw [List.getElem?_map];unfold below;rw [List.getElem?_map,List.getElem?_range (by omega)]
         rfl
       rw [List.take_succ,gi,List.map_append]
       rfl
     . rw [if_pos c];obtain ⟨u1,ad,u3⟩:=R.up h hr'.1 hr'.2 c;have gb:atI (qI m v par) h=some (V.int (par h)):=by
         have ef:Pb.front v par h=V.int (par h):=(by unfold Pb.front;rw [if_neg c]);rw [<- ef];exact iW hr'.1 (C2 hr'.1 hr'.2)
       obtain ⟨kvs,ekv,tv⟩:=(td.same (s3.trans s4)).ex;obtain ⟨t2,t6⟩:=MJ (to:=to) g R hr'.1 hr'.2 c;have pu:=Kp (to:=to) R hr'.1 hr'.2 c;have mo:IntMulOk pr (tlf rs par to h):=jh (bc ppb (by have:=Bw R i0 i1;omega)) (bc (m:=20) (by omega) (by decide));have go:∀ {H5:Hp} {v9:Option V},Same H4 H5->N4 [some (V.int m),some (V.ref d),some (V.int v),some (V.bl to),some (V.ref lt),some (V.ref ld),some (V.int i),some (V.int (pr*tlf rs par to h)),some (V.int (par h)),v9] H5:=fun {H5 v9} s5=>by
         refine hN4 (dep (par h)) _ _ (by omega) ⟨s4.trans s5,_,_,_,rfl,u1,?_,Int.mul_pos p0 (by omega),?_,by omega,rfl⟩
         . rw [Int.mul_assoc,<- pu];exact pe
         . rw [show (dep (i:Int) - dep (par h))*20+1=(dep (i:Int) - dep h)*20+1+20 by omega];exact bR ppb (by omega)
       have et4:=s4 _ _ et3;refine ⟨N4,fun σ' H' w=>?_,ixL et4 gb ⟨aE (by simp),fun q1 n1=>⟨_,rfl,?_⟩⟩⟩
       . obtain ⟨m',lt',a1,pr',h',x9,a2,a3,a4,a5,a6,a7,a8⟩:=hN42 _ _ w;exact ⟨m',lt',a1,pr',h',a2,a3,a4,a5,a6,a7,x9,a8⟩
       have s5:=Same.new (.tup [V.int h,V.int (par h)]) n1;cases to with
       | true =>
         rw [if_neg (by decide)];have e7:=tv h (par h);obtain ⟨kk,ek,_,_⟩:=kb g ad;rw [ek] at e7;have ekk:kk=tlf rs par true h:=(by unfold tlf jc;rw [if_pos rfl,ek];rfl);refine ⟨V.int kk,?_,kk,rfl,by rw [ekk];exact mo,ixL (s5 _ _ et4) gb (by rw [ekk];exact go s5)⟩;have:=DGet.t (k:=[.inl h,.inl (par h)]) (s5 _ _ ekv) (b:=q1) ah;rw [e7] at this;exact this
       | false =>
         rw [if_pos rfl];refine ixL (s5 _ _ et4) gb ⟨aE (by simp),fun q2 n2=>?_⟩;have s6:=s5.trans (Same.new (.tup [V.int (par h),V.int h]) n2);have e7:=tv (par h) h;obtain ⟨kk,ek,_,_⟩:=kb g ad.symm;rw [ek] at e7;have ekk:kk=tlf rs par false h:=(by unfold tlf jc;rw [if_neg (by decide),ek];rfl);refine ⟨V.int kk,?_,kk,rfl,by rw [ekk];exact mo,ixL (s6 _ _ et4) gb (by rw [ekk];exact go s6)⟩;have:=DGet.t (k:=[.inl (par h),.inl h]) (s6 _ _ ekv) (b:=q2) ah;rw [e7] at this;exact this
   . rintro BB σ H3 hBB ⟨s3,et3,ed3,v6,v7,v8,v9,rfl⟩;refine hBB _ _ (h3 _ _ ?_);walk_at "rd";rw [List.take_of_length_le (by rw [List.length_map,bo];exact Nat.le_refl _)] at ed3;exact k ld H3 nld0 s3 ed3
theorem Pm (fs:List (Int × Int)):eB (fs.zip (List.replicate fs.length (1:Int))) (fun z=>(z.1.1:Rat) / z.1.2 / z.2)=eB fs (fun f=>(f.1:Rat) / f.2):=by
 refine CK (by rw [List.length_zip,List.length_replicate,Nat.min_self]) fun i z f hz hf=>?_;obtain ⟨z1,z2⟩:=List.getElem?_zip_eq_some.mp hz;rw [hf] at z1;injection z1 with z1
 have e2:z.2=1:=List.eq_of_mem_replicate (List.mem_of_getElem? z2);rw [<- z1,e2];show _ / (1:Rat)=_
 grind
theorem Wh {x y x2 y2:Int} (y0:0<y) (z0:0<y2) (e:x*y2=x2*y):(x:Rat) / y=(x2:Rat) / y2:=by
 have n1:=eY (show y≠0 by omega);have n2:=eY (show y2≠0 by omega);have h:((x*y2:Int):Rat)=((x2*y:Int):Rat):=by rw [e]
 rw [Rat.intCast_mul,Rat.intCast_mul] at h
 grind
def Ec (T:Txt K mg):Sp:=fun vs H Q _=>∃ (d la lb:Addr) (m:Int) (rs:List Road) (qa qb:List Addr) (fs gs:List (Int × Int)) (pr:Int->Int->Int) (dp:Int->Int->Nat),vs=[.int m,.ref d,.ref la,.ref lb]/\TollsAt H d rs/\Good m rs/\H la=some (.lst (qa.map V.ref))/\H lb=some (.lst (qb.map V.ref))/\FrsAt H qa fs/\FrsAt H qb gs/\(∀ f∈fs,FrB 400 f)/\(∀ f∈gs,FrB 400 f)/\fs.length<=100/\gs.length<=100/\(∀ v,0<=v->v<m->Rooted m rs v (pr v) (dp v)) /\
 (Shown m rs pr dp fs gs->∀ H',Same H H'->Q (.bl true) H')/\(¬ Shown m rs pr dp fs gs->∀ H',Same H H'->Q (.bl false) H')
abbrev bF:Stmt:=top 68
theorem jp:FnScope ["many","tolls","shares","second","place","top","bottom","one","two"] ["many","tolls","shares","second"] (aa bF):=FnScope.of (by kernel_rfl)
theorem eJ:NmL (aa bF) "many":=.of (by kernel_rfl)
theorem uz:NmL (aa bF) "tolls":=.of (by kernel_rfl)
theorem jG:NmL (aa bF) "shares":=.of (by kernel_rfl)
theorem jI:NmL (aa bF) "second":=.of (by kernel_rfl)
theorem nO:NmL (aa bF) "place":=.of (by kernel_rfl)
theorem mf:NmL (aa bF) "top":=.of (by kernel_rfl)
theorem jM:NmL (aa bF) "bottom":=.of (by kernel_rfl)
theorem qB:NmL (aa bF) "one":=.of (by kernel_rfl)
theorem qz:NmL (aa bF) "two":=.of (by kernel_rfl)
theorem iu:NmG (aa bF) "len":=.of (by kernel_rfl)
theorem qQ:NmG (aa bF) "min":=.of (by kernel_rfl)
theorem Ds:NmG (aa bF) "range":=.of (by kernel_rfl)
theorem bL:NmG (aa bF) "_law_divided":=.of (by kernel_rfl)
theorem gH:NmG (aa bF) "_law_prices":=.of (by kernel_rfl)
theorem Nz (T:Txt K mg) (hq:aP (CXe P w)) {f:Addr} {fd:FuncData} (D:Df K mg "_law_due" bF ["many","tolls","shares","second"] f fd) {gR:Addr} {xf:FuncData} (bD:Df K mg "_law_divided" bE ["shares","prices"] gR xf) (G_law_divided:FnOk P w K mg base (CXe P w) 1 gR xf ["shares","prices"] (xD T)) {iy:Addr} {zy:FuncData} (eU:Df K mg "_law_prices" aY ["many","tolls","v","to"] iy zy) (G_law_prices:FnOk P w K mg base (CXe P w) 3 iy zy ["many","tolls","v","to"] (zC T)):FnOk P w K mg base (CXe P w) 4 f fd ["many","tolls","shares","second"] (Ec T):=by
 refine D.F.okC jp (fun vs H Q E h=>?_) (fun cdv A outer s H vs Q E hr h=>?_)
 . obtain ⟨d,la,lb,m,rs,qa,qb,fs,gs,pr,dp,rfl,_⟩:=h
   rfl
 . obtain ⟨d,la,lb,m,rs,qa,qb,fs,gs,pr,dp,rfl,hd,g,ha,hb,fa,gb,fB,gB,f100,g100,R,k,kn⟩:=h;have qla:qa.length=fs.length:=Paired.length fa;have qlb:qb.length=gs.length:=Paired.length gb;have m1:=g.m1;have m24:=g.m24;refine ⟨_,(ak (bA (PW.pt (BG (aM pA (bI ck iu.g T.len iH (ag (pvl 2 jG) aj) (hn:=iu.n) (hdb:=iu.d)) (pvl 0 eJ) (aL _)) (Bx (aM pA (bI ck iu.g T.len iH (ag (pvl 3 jI) aj) (hn:=iu.n) (hdb:=iu.d)) (pvl 0 eJ) (aL _))))) (aq (aF jH)) aO) (ak (bA (aM yW (bI (QL rfl) qQ.g T.min WA (ag (fM rfl (uE (Nc:=["share"]) 1 (by decide +kernel) (by decide +kernel) rfl (by decide +kernel) rfl) (iY (av xc (pvl 2 jG) (pvl 3 jI))) (fun _ _ _ _=>(aB (i:=0) (show (["share"]:List Str).Nodup from by decide +kernel) rfl (Or.inl rfl))) (fun _ _ _ _=>fK) (fun _ _ _ _=>(az (mq K rfl) (pv 0) am (fun _ _=>rfl)))) aj) (hn:=qQ.n) (hdb:=qQ.d)) am (aL _)) (aq (aF jH)) aO) (ak (eS PassesOwn.never rfl (ij Ds.g T.range (ag (pvl 0 eJ) aj)) (aB (i:=4) jp.nd rfl (Or.inl nO.l)) (ak (gZ (ar G_law_divided (hr.mono (by decide)) bL.g bD.m bD.F.kp bD.b .nil (ax hq) (ag (pvl 2 jG) (ag (ar G_law_prices (hr.mono (by decide)) gH.g eU.m eU.F.kp eU.b .nil (ax hq) (ag (pvl 0 eJ) (ag (pvl 1 uz) (ag (pvl 4 nO) (ag jH aj)))) (hdb:=gH.d)) aj)) (hdb:=bL.d)) (kr (n:=2) rfl (aU (aB (i:=5) jp.nd rfl (Or.inl mf.l)) (aU (aB (i:=6) jp.nd rfl (Or.inl jM.l)) iT)))) (ak (bA (aM yW (pvl 5 mf) (pvl 6 jM) (aL _)) (aq (aF jH)) aO) (ak (gZ (ar G_law_divided (hr.mono (by decide)) bL.g bD.m bD.F.kp bD.b .nil (ax hq) (ag (pvl 3 jI) (ag (ar G_law_prices (hr.mono (by decide)) gH.g eU.m eU.F.kp eU.b .nil (ax hq) (ag (pvl 0 eJ) (ag (pvl 1 uz) (ag (pvl 4 nO) (ag jH aj)))) (hdb:=gH.d)) aj)) (hdb:=bL.d)) (kr (n:=2) rfl (aU (aB (i:=5) jp.nd rfl (Or.inl mf.l)) (aU (aB (i:=6) jp.nd rfl (Or.inl jM.l)) iT)))) (aq (bA (aM EN (pvl 5 mf) (pvl 6 jM) (aL _)) (aq (aF jH)) aO)))))) (ak (aw (i:=7) jp.nd rfl (Or.inl qB.l) (ar G_law_divided (hr.mono (by decide)) bL.g bD.m bD.F.kp bD.b .nil (ax hq) (ag (pvl 2 jG) (ag (av uI (bj (ag am aj)) (pvl 0 eJ)) aj)) (hdb:=bL.d))) (ak (aw (i:=8) jp.nd rfl (Or.inl qz.l) (ar G_law_divided (hr.mono (by decide)) bL.g bD.m bD.F.kp bD.b .nil (ax hq) (ag (pvl 3 jI) (ag (av uI (bj (ag am aj)) (pvl 0 eJ)) aj)) (hdb:=bL.d))) (aq (aF (me dv (av dc (az bC (pvl 7 qB) am (fun _ _=>rfl)) (az bC (pvl 8 qz) am (fun _ _=>rfl))) (av dc (az bC (pvl 8 qz) am (fun _ _=>rfl)) (az bC (pvl 7 qB) am (fun _ _=>rfl))) (aL _))))))))),?_⟩;rw [show L2.start ["many","tolls","shares","second","place","top","bottom","one","two"] [V.int m,V.ref d,V.ref la,V.ref lb]=[some (V.int m),some (V.ref d),some (V.ref la),some (V.ref lb),none,none,none,none,none] from rfl];refine aW fun N1 h1=>?_;walk_at "rd";refine ⟨_,.inl (SqL.of ha),?_⟩;rw [List.length_map,qla];by_cases c1:(fs.length:Int)=m
   . rw [if_neg (fun z=>z c1)];refine ⟨_,.inl (SqL.of hb),?_⟩;rw [List.length_map,qlb];by_cases c2:(gs.length:Int)=m
     . rw [if_neg (fun z=>z c2)];refine h1 _ _ (aW fun N2 h2=>?_);walk_at "rd";refine Xr ha hb (aE (by rw [List.length_map,List.length_map];omega)) fun lc nc=>⟨lc,rfl,⟨_,SqL.of ah⟩,fun pm nm=>?_⟩;have ec:qa.map V.ref++qb.map V.ref=(qa++qb).map V.ref:=(by rw [List.map_append]);rw [ec] at nm ⊢;have s13:=Same.new (.lst ((qa++qb).map V.ref)) nc;have elc:upd H lc (.lst ((qa++qb).map V.ref)) lc=some (.lst ((qa++qb).map V.ref)):=ah;have fab:FrsAt (upd H lc (.lst ((qa++qb).map V.ref))) (qa++qb) (fs++gs):=rF (FrsAt.same s13 gb) (FrsAt.same s13 fa);generalize upd H lc (.lst ((qa++qb).map V.ref))=H3 at s13 elc fab nm ⊢;refine iA (c:=true) (K:=K) (a:=lc) (xs:=(qa++qb).map V.ref) (fun i zs σ H4=>Same H3 H4/\H4 pm=some (.lst zs)/\zs=(((fs++gs).take i).map fun f=>f.1).map V.int/\∃ v,σ=[v]) ⟨Same.new _ nm,ah,rfl,_,rfl⟩ (fun i zs σ H4 _ z=>SqL.of (z.1 _ _ elc)) ?_ ?_
       . rintro i x zs σ H4 N hN hx ⟨s4,e4,rfl,v,rfl⟩;rw [List.getElem?_map] at hx;obtain ⟨qx,gx,rfl⟩:=Option.map_eq_some_iff.mp hx;obtain ⟨f,gf,ef⟩:=mL (FrsAt.same s4 fab) gx;have il:=(List.getElem?_eq_some_iff.mp gf).1;rw [List.length_append] at il;walk_at "rd";refine ixT ef rfl ⟨e4,cj (by rw [List.length_map,List.length_map,List.length_take,List.length_append];omega),hN _ _ _ ⟨s4.put nm _,ah,?_,_,rfl⟩⟩;rw [List.take_succ,gf,List.map_append,List.map_append]
         rfl
       rintro zs σ H4 ⟨s4,e4,rfl,v,rfl⟩;have s14:=s13.trans s4;rw [List.take_of_length_le (by rw [List.length_map,List.length_append,List.length_append];omega)] at e4;refine ⟨pm,rfl,_,SqL.of e4,fun z=>?_,fun y hy low=>?_⟩
       . have:=congrArg List.length z;rw [List.length_map,List.length_append,List.length_nil] at this;omega
       by_cases c3:y<0
       . rw [if_pos c3];obtain ⟨f,hf,rfl⟩:=List.mem_map.mp hy;refine kn (fun S=>?_) _ s14;rcases List.mem_append.mp hf with hf|hf
         . have:=of_decide_eq_true (List.all_eq_true.mp (Bool.and_eq_true_iff.mp S.f).2 f hf);omega
         . have:=of_decide_eq_true (List.all_eq_true.mp (Bool.and_eq_true_iff.mp S.g).2 f hf);omega
       rw [if_neg c3];have sf:oA m fs=true:=Bool.and_eq_true_iff.mpr ⟨decide_eq_true c1,List.all_eq_true.mpr fun f hf=>decide_eq_true (by have:=low f.1 (List.mem_map.mpr ⟨f,List.mem_append.mpr (.inl hf),rfl⟩);omega)⟩;have sg:oA m gs=true:=Bool.and_eq_true_iff.mpr ⟨decide_eq_true c2,List.all_eq_true.mpr fun f hf=>decide_eq_true (by have:=low f.1 (List.mem_map.mpr ⟨f,List.mem_append.mpr (.inr hf),rfl⟩);omega)⟩;refine h2 _ _ (aW fun N3 h3=>?_);have up9:∀ {f:Int × Int},FrB 400 f->FrB 990 f:=fun h=>ia h (by decide);have pb:∀ (v:Int) (v0:0<=v) (v1:v<m) (to:Bool),∀ x∈(below m.toNat).map (prc rs (pr v) (dp v) to),0<x/\x.natAbs<2^500:=fun v v0 v1 to x hx=>by
         obtain ⟨u,hu,rfl⟩:=List.mem_map.mp hx;obtain ⟨u0,u1⟩:=gg.mp hu;obtain ⟨b0,b1⟩:=yY (to:=to) g (R v v0 v1) _ rfl u0 (show u<m by omega);have dl:=Bw (R v v0 v1) u0 (show u<m by omega);exact ⟨b0,Nat.lt_of_lt_of_le b1 (Nat.pow_le_pow_right (by decide) (by omega))⟩
       walk_at "rd";refine ⟨by omega,by omega,?_⟩;refine tD (fun i σ H5=>Same H H5/\(∀ v:Int,0<=v->v<i->¬ oP m rs (pr v) (dp v) true fs<1/\¬ 1<oP m rs (pr v) (dp v) false gs)/\∃ v4 v5 v6 v7 v8,σ=[some (V.int m),some (V.ref d),some (V.ref la),some (V.ref lb),v4,v5,v6,v7,v8]) ⟨s14,fun v a b=>absurd b (by omega),_,_,_,_,_,rfl⟩ ?_ ?_
       . rintro i σ H5 N hN hi ⟨s5,ok,v4,v5,v6,v7,v8,rfl⟩;have i0:(0:Int)<=(i:Int):=(by omega);have i1:(i:Int)<m:=(by omega);refine aW fun M1 k1=>?_;walk_at "rd";rw [Int.zero_add];refine ⟨d,m,(i:Int),true,rs,_,_,rfl,hd.same s5,g,i0,i1,R _ i0 i1,fun l6 H6 n6 s6 e6=>?_⟩;have s56:=s5.trans s6;refine ⟨la,l6,qa,fs,_,rfl,s56 _ _ ha,FrsAt.same s56 fa,fun f hf=>up9 (fB f hf),e6,by rw [List.length_map,bo];omega,by omega,pb _ i0 i1 true,fun t7 x7 y7 H7 n7 s7 e7 p7 b7 b7' w7=>?_⟩;have s57:=s56.trans s7;refine ⟨t7,rfl,_,SqT.of e7,rfl,_,_,rfl,_,_,rfl,rfl,k1 _ _ (aW fun M2 k2=>?_)⟩;walk_at "rd";by_cases c5:x7<y7
         . rw [if_pos c5];exact kn (fun S=>S.lo _ i0 i1 (of_decide_eq_true ((F1 p7 w7).symm.trans (decide_eq_true (by omega))))) _ s57
         rw [if_neg c5];have lo:¬ oP m rs (pr (i:Int)) (dp (i:Int)) true fs<1:=fun z=>c5 (by have:=of_decide_eq_true ((F1 p7 w7).trans (decide_eq_true z));omega);refine k2 _ _ (aW fun M3 k3=>?_);walk_at "rd";refine ⟨d,m,(i:Int),false,rs,_,_,rfl,hd.same s57,g,i0,i1,R _ i0 i1,fun l8 H8 n8 s8 e8=>?_⟩;have s58:=s57.trans s8;refine ⟨lb,l8,qb,gs,_,rfl,s58 _ _ hb,FrsAt.same s58 gb,fun f hf=>up9 (gB f hf),e8,by rw [List.length_map,bo];omega,by omega,pb _ i0 i1 false,fun t9 x9 y9 H9 n9 s9 e9 p9 b9 b9' w9=>?_⟩;have s59:=s58.trans s9;refine ⟨t9,rfl,_,SqT.of e9,rfl,_,_,rfl,_,_,rfl,rfl,k3 _ _ ?_⟩;walk_at "rd";by_cases c6:y9<x9
         . rw [if_pos c6];exact kn (fun S=>S.hi _ i0 i1 (of_decide_eq_true ((Dg p9 w9).symm.trans (decide_eq_true (by omega))))) _ s59
         rw [if_neg c6];have hi':¬ 1<oP m rs (pr (i:Int)) (dp (i:Int)) false gs:=fun z=>c6 (by have:=of_decide_eq_true ((Dg p9 w9).trans (decide_eq_true z));omega);refine hN _ _ ⟨s59,fun v v0 v1=>?_,_,_,_,_,_,rfl⟩;by_cases z:v=(i:Int)
         . rw [z];exact ⟨lo,hi'⟩
         . exact ok v v0 (by omega)
       . rintro σ H5 ⟨s5,ok,v4,v5,v6,v7,v8,rfl⟩;refine h3 _ _ ?_;walk_at "rd";have ml:m.toNat=fs.length:=(by omega);have mg:m.toNat=gs.length:=(by omega);refine ⟨aE (by simp),fun p6 n6=>⟨p6,m,[V.int 1],rfl,rfl,ah,by omega,by omega,aE (by simp;omega),fun p7 n7=>?_⟩⟩;rw [yf];have s6:=(Same.new (.lst [V.int 1]) n6).trans (Same.new (.lst (List.replicate m.toNat (V.int 1))) n7);have e7:upd (upd H5 p6 (.lst [V.int 1])) p7 (.lst (List.replicate m.toNat (V.int 1))) p7=some (.lst ((List.replicate fs.length (1:Int)).map V.int)):=(by rw [ah,List.map_replicate,ml]);generalize upd (upd H5 p6 (.lst [V.int 1])) p7 (.lst (List.replicate m.toNat (V.int 1)))=H7 at s6 e7 ⊢;have s57:=s5.trans s6;have ones:∀ (n:Nat),∀ x∈List.replicate n (1:Int),0<x/\x.natAbs<2^500:=fun n x hx=>by
           rw [List.eq_of_mem_replicate hx];exact ⟨by decide,Nat.one_lt_two_pow (by decide)⟩
         refine ⟨la,p7,qa,fs,_,rfl,s57 _ _ ha,FrsAt.same s57 fa,fun f hf=>up9 (fB f hf),e7,by rw [List.length_replicate],by omega,ones _,fun t8 x8 y8 H8 n8 s8 e8 p8 b8 b8' w8=>?_⟩;have s58:=s57.trans s8;refine ⟨aE (by simp),fun p9 n9=>⟨p9,m,[V.int 1],rfl,rfl,ah,by omega,by omega,aE (by simp;omega),fun p10 n10=>?_⟩⟩;rw [yf];have s9:=(Same.new (.lst [V.int 1]) n9).trans (Same.new (.lst (List.replicate m.toNat (V.int 1))) n10);have e10:upd (upd H8 p9 (.lst [V.int 1])) p10 (.lst (List.replicate m.toNat (V.int 1))) p10=some (.lst ((List.replicate gs.length (1:Int)).map V.int)):=(by rw [ah,List.map_replicate,mg]);generalize upd (upd H8 p9 (.lst [V.int 1])) p10 (.lst (List.replicate m.toNat (V.int 1)))=H10 at s9 e10 ⊢;have s510:=s58.trans s9;refine ⟨lb,p10,qb,gs,_,rfl,s510 _ _ hb,FrsAt.same s510 gb,fun f hf=>up9 (gB f hf),e10,by rw [List.length_replicate],by omega,ones _,fun t11 x11 y11 H11 n11 s11 e11 p11 b11 b11' w11=>?_⟩;have e8':=s11 _ _ (s9 _ _ e8);have s511:=s510.trans s11;refine ixT e8' rfl (ixT e11 rfl ⟨_,rfl,_,rfl,qu b8 b11' (by decide),ixT e11 rfl (ixT e8' rfl ⟨_,rfl,_,rfl,qu b11 b8' (by decide),?_⟩)⟩);rw [Pm] at w8 w11;by_cases c7:x8*y11=x11*y8
         . rw [decide_eq_true c7];exact k ⟨sf,sg,fun v v0 v1=>(ok v v0 (by omega)).1,fun v v0 v1=>(ok v v0 (by omega)).2,by rw [<- w8,<- w11];exact Wh p8 p11 c7⟩ _ s511
         . rw [decide_eq_false c7];exact kn (fun S=>c7 (P0 (by omega) (by omega) (by rw [w8,w11];exact S.eq))) _ s511
     . rw [if_pos c2];exact kn (fun S=>c2 (of_decide_eq_true (Bool.and_eq_true_iff.mp S.g).1)) _ (Same.refl _)
   . rw [if_pos c1];exact kn (fun S=>c1 (of_decide_eq_true (Bool.and_eq_true_iff.mp S.f).1)) _ (Same.refl _)
def Fs (T:Txt K mg):Sp:=fun vs H Q _=>∃ (a b:Addr) (f g:Int × Int) (n:Nat),vs=[.ref a,.ref b]/\SqT K H a [.int f.1,.int f.2]/\SqT K H b [.int g.1,.int g.2]/\FrB n f/\FrB n g/\n<=4000/\Q (.bl (decide (f.1*g.2<g.1*f.2))) H
abbrev lU:Stmt:=top 5
theorem U9:FnScope ["one","two"] ["one","two"] (aa lU):=FnScope.of (by kernel_rfl)
theorem CD:NmL (aa lU) "one":=.of (by kernel_rfl)
theorem Ce:NmL (aa lU) "two":=.of (by kernel_rfl)
theorem UK (T:Txt K mg) (hq:aP (CXe P w)) {f:Addr} {fd:FuncData} (D:Df K mg "less" lU ["one","two"] f fd):FnOk P w K mg base (CXe P w) 1 f fd ["one","two"] (Fs T):=by
 refine D.F.okC U9 (fun vs H Q E h=>?_) (fun cdv A outer s H vs Q E hr h=>?_)
 . obtain ⟨a,b,f,g,n,rfl,_⟩:=h
   rfl
 . obtain ⟨a,b,f,g,n,rfl,ha,hb,fb,gb,n1,k⟩:=h;refine ⟨_,(aq (aF (me yW (av dc (az bC (pvl 0 CD) am (fun _ _=>rfl)) (az bC (pvl 1 Ce) am (fun _ _=>rfl))) (av dc (az bC (pvl 1 Ce) am (fun _ _=>rfl)) (az bC (pvl 0 CD) am (fun _ _=>rfl))) (aL _)))),?_⟩;rw [show L2.start ["one","two"] [V.ref a,V.ref b]=[some (V.ref a),some (V.ref b)] from rfl];have ub:∀ {x:Int},x.natAbs<2^n->x.natAbs<2^4000:=fun h=>bc h (by omega);walk_at "rd";refine qW (ha) rfl (qW (hb) rfl ?_);exact ⟨_,rfl,_,rfl,jh (ub fb.2.1) (ub gb.2.2),qW (hb) rfl (qW (ha) rfl ⟨_,rfl,_,rfl,jh (ub gb.2.1) (ub fb.2.2),k⟩)⟩
def Cm (T:Txt K mg):Sp:=fun vs H Q _=>∃ (a:Addr) (f:Int × Int) (n:Nat),vs=[.ref a]/\SqT K H a [.int f.1,.int f.2]/\FrB n f/\1<=n/\n<=4000/\Q (.bl (decide (f.1<0))) H
abbrev eL:Stmt:=top 46
theorem Mn:FnScope ["share"] ["share"] (aa eL):=FnScope.of (by kernel_rfl)
theorem BO:NmL (aa eL) "share":=.of (by kernel_rfl)
theorem uY:NmG (aa eL) "less":=.of (by kernel_rfl)
theorem rG:NmG (aa eL) "NOUGHT":=.of (by kernel_rfl)
theorem LQ (T:Txt K mg) (hq:aP (CXe P w)) {f:Addr} {fd:FuncData} (D:Df K mg "is_below" eL ["share"] f fd) {mF:Addr} {xQ:FuncData} (jk:Df K mg "less" lU ["one","two"] mF xQ) (G_less:FnOk P w K mg base (CXe P w) 1 mF xQ ["one","two"] (Fs T)):FnOk P w K mg base (CXe P w) 2 f fd ["share"] (Cm T):=by
 refine D.F.okC Mn (fun vs H Q E h=>?_) (fun cdv A outer s H vs Q E hr h=>?_)
 . obtain ⟨a,f,n,rfl,_⟩:=h
   rfl
 . obtain ⟨a,f,n,rfl,ha,fb,n1,n2,k⟩:=h;refine ⟨_,(aq (aF (ar G_less (hr.mono (by decide)) uY.g jk.m jk.F.kp jk.b .nil (ax hq) (ag (pvl 0 BO) (ag (tG (v:=.ref T.NOUGHT) rG.g T.Q2 rfl (hd:=rG.d)) aj)) (hdb:=uY.d)))),?_⟩;rw [show L2.start ["share"] [V.ref a]=[some (V.ref a)] from rfl];walk_at "rd";refine ⟨a,T.NOUGHT,f,(0,1),n,rfl,ha,T.TQ.sq,fb,⟨by decide,Nat.two_pow_pos n,Nat.lt_of_lt_of_le (by decide) (Nat.pow_le_pow_right (n:=2) (by decide) n1)⟩,n2,?_⟩;show Q (.bl (decide (f.1*1<0*f.2))) H;rw [Int.mul_one,Int.zero_mul];exact k
def Br (T:Txt K mg):Sp:=fun vs H Q _=>∃ (p a t:Addr) (c:Bool) (m:Int) (ps qs:List Addr) (rs:List Road) (fs:List (Int × Int)),vs=[.ref p,.ref a]/\WebAt T.Web H p m t ps rs/\AtX c H a (qs.map V.ref)/\FrsAt H qs fs/\(∀ f∈fs,FrB 400 f)/\fs.length<=100/\∀ H',Same H H'->Q (.bl (oA m fs)) H'
abbrev dC:Stmt:=top 45
theorem JH:FnScope ["web","shares"] ["web","shares"] (aa dC):=FnScope.of (by kernel_rfl)
theorem Dm:NmL (aa dC) "web":=.of (by kernel_rfl)
theorem p4:NmL (aa dC) "shares":=.of (by kernel_rfl)
theorem ni:NmG (aa dC) "len":=.of (by kernel_rfl)
theorem nS:NmG (aa dC) "any":=.of (by kernel_rfl)
theorem Jz (T:Txt K mg) (hq:aP (CXe P w)) {f:Addr} {fd:FuncData} (D:Df K mg "are_sound" dC ["web","shares"] f fd) {j9:Addr} {Cg:FuncData} (mi:Df K mg "is_below" eL ["share"] j9 Cg) (G_is_below:FnOk P w K mg base (CXe P w) 2 j9 Cg ["share"] (Cm T)):FnOk P w K mg base (CXe P w) 3 f fd ["web","shares"] (Br T):=by
 refine D.F.okC JH (fun vs H Q E h=>?_) (fun cdv A outer s H vs Q E hr h=>?_)
 . obtain ⟨p,a,t,c,m,ps,qs,rs,fs,rfl,_⟩:=h
   rfl
 . obtain ⟨p,a,t,c,m,ps,qs,rs,fs,rfl,W,ha,fa,fb,f100,k⟩:=h;have ql:qs.length=fs.length:=Paired.length fa;obtain ⟨dx,ob⟩:=W.ob;refine ⟨_,(aq (aF (Wb (me dv (bI ck ni.g T.len iH (ag (pvl 1 p4) aj) (hn:=ni.n) (hdb:=ni.d)) (ki  (pvl 0 Dm) rfl) (aL _)) (VP (VN (bI (CP rfl) nS.g T.any JY (ag (fM rfl (uE (Nc:=["share"]) 1 (by decide +kernel) (by decide +kernel) rfl (by decide +kernel) rfl) (xU c (pvl 1 p4)) (fun _ _ _ _=>(aB (i:=0) (show (["share"]:List Str).Nodup from by decide +kernel) rfl (Or.inl rfl))) (fun _ _ _ _=>fK) (fun _ _ _ _=>(ar G_is_below (hr.mono (by decide)) (by rfl) mi.m mi.F.kp mi.b .nil (ax hq) (ag (pv 0) aj)))) aj) (hn:=nS.n) (hdb:=nS.d))))))),?_⟩;rw [show L2.start ["web","shares"] [V.ref p,V.ref a]=[some (V.ref p),some (V.ref a)] from rfl];have sq:∀ {H2:Hp},Same H H2->SqX K c H2 a (qs.map V.ref):=fun {H2} s2=>AtX.sq (K:=K) (show AtX c H2 a (qs.map V.ref) from s2 _ _ ha);have ha':SqL K H a (qs.map V.ref)\/SqT K H a (qs.map V.ref):=by
     cases c
     . exact .inr (SqT.of ha)
     . exact .inl (SqL.of ha)
   walk_at "rd";refine ⟨_,ha',T.Web,dx,_,ob,T.ja,T.n_many,_,hW m t,rfl,?_⟩;rw [List.length_map,ql];by_cases fl:(fs.length:Int)=m
   . rw [if_pos (by rw [fl])];refine ⟨⟨_,sq (Same.refl _)⟩,fun l nl=>?_⟩;refine iA (K:=K) (c:=c) (xs:=qs.map V.ref) (fun i bs σ H2=>Same H H2/\H2 l=some (.lst bs)/\bs=((fs.take i).map fun f=>decide (f.1<0)).map V.bl/\∃ v,σ=[v]) ⟨Same.new _ nl,ah,rfl,_,rfl⟩ (fun i bs σ H2 _ z=>sq z.1) ?_ ?_
     . rintro i x bs σ H2 N hN hx ⟨s2,e2,rfl,v,rfl⟩;rw [List.getElem?_map] at hx;obtain ⟨qx,gx,rfl⟩:=Option.map_eq_some_iff.mp hx;have il:=(List.getElem?_eq_some_iff.mp gx).1;obtain ⟨f,gf,ef⟩:=mL (FrsAt.same s2 fa) gx;have fB:=fb f (List.mem_of_getElem? gf);walk_at "rd";refine ⟨qx,f,400,rfl,SqT.of ef,fB,by decide,by decide,e2,cj (by rw [List.length_map,List.length_map,List.length_take];omega),hN _ _ _ ⟨s2.put nl _,ah,?_,_,rfl⟩⟩;rw [List.take_succ,gf,Option.toList,List.map_append,List.map_append]
       rfl
     . rintro bs σ H2 ⟨s2,e2,rfl,v,rfl⟩;rw [List.length_map,ql,List.take_length] at e2;refine ⟨l,rfl,_,SqL.of e2,?_⟩;rw [Ck,Bool.not_not];have z:=k H2 s2;unfold oA at z;rw [decide_eq_true fl,Bool.true_and] at z;exact z
   . rw [if_neg (fun z=>fl (by injection z))];have z:=k H (Same.refl _);unfold oA at z;rw [decide_eq_false fl,Bool.false_and] at z;exact z
def mC (T:Txt K mg):Sp:=fun vs H Q _=>∃ (i j:Int),vs=[.int i,.int j]/\Q (.int (i.gcd j:Int)) H
abbrev bq:Stmt:=top 2
theorem jL:FnScope ["one","two","rest"] ["one","two"] (aa bq):=FnScope.of (by kernel_rfl)
theorem jW:NmL (aa bq) "one":=.of (by kernel_rfl)
theorem gD:NmL (aa bq) "two":=.of (by kernel_rfl)
theorem mS:NmL (aa bq) "rest":=.of (by kernel_rfl)
theorem jS:NmG (aa bq) "abs":=.of (by kernel_rfl)
theorem Ca (T:Txt K mg) (hq:aP (CXe P w)) {f:Addr} {fd:FuncData} (D:Df K mg "common_divisor" bq ["one","two"] f fd):FnOk P w K mg base (CXe P w) 1 f fd ["one","two"] (mC T):=by
 refine D.F.okC jL (fun vs H Q E h=>?_) (fun cdv A outer s H vs Q E hr h=>?_)
 . obtain ⟨i,j,rfl,_⟩:=h
   rfl
 . obtain ⟨i,j,rfl,k⟩:=h;refine ⟨_,(ak (nQ PassesOwn.never (aM pA (pvl 1 gD) am (aL _)) (ak (aw (i:=2) jL.nd rfl (Or.inl mS.l) (av UJ (pvl 0 jW) (pvl 1 gD))) (ak (aw (i:=0) jL.nd rfl (Or.inl jW.l) (pvl 1 gD)) (aq (aw (i:=1) jL.nd rfl (Or.inl gD.l) (pvl 2 mS)))))) (aq (aF (bI Ji jS.g T.abs PX (ag (pvl 0 jW) aj) (hn:=jS.n) (hdb:=jS.d))))),?_⟩;rw [show L2.start ["one","two","rest"] [V.int i,V.int j]=[some (V.int i),some (V.int j),none] from rfl];refine aW fun N1 h1=>?_;refine xB (fun n σ H'=>H'=H/\∃ (x y:Int) (v:Option V),n=y.natAbs/\x.gcd y=i.gcd j/\σ=[some (V.int x),some (V.int y),v]) j.natAbs ⟨rfl,i,j,_,rfl,rfl,rfl⟩ ?_;rintro n σ H' N BB hBB hN hN2 ⟨rfl,x,y,v,rfl,e,rfl⟩;refine hBB _ _ _ ?_;walk_at "rd";by_cases c:y=0
   . subst c;rw [if_neg (fun z=>z rfl)];refine h1 _ _ ?_;walk_at "rd";rw [Qj,show (x.natAbs:Int)=(i.gcd j:Int) by rw [<- e,Int.gcd_zero_right]];exact k
   . rw [if_pos c];refine ⟨N,fun σ' H2 w=>?_,c,hN (x.fmod y).natAbs _ _ (Pl c) ⟨rfl,y,x.fmod y,_,rfl,by rw [WK];exact e,rfl⟩⟩;obtain ⟨m',lt,e1,x',y',v',e2,e3,e4⟩:=hN2 _ _ w;exact ⟨m',lt,e1,x',y',e2,e3,v',e4⟩
def rf (T:Txt K mg):Sp:=fun vs H Q _=>∃ (i j:Int),vs=[.int i,.int j]/\j≠0/\j.natAbs<2^4000/\∀ (p q:Int) (r:Addr),Frc i j p q->H r=none->Q (.ref r) (upd H r (.tup [.int p,.int q]))
abbrev dh:Stmt:=top 1
theorem wB:FnScope ["top","bottom","common"] ["top","bottom"] (aa dh):=FnScope.of (by kernel_rfl)
theorem vO:NmL (aa dh) "top":=.of (by kernel_rfl)
theorem lQ:NmL (aa dh) "bottom":=.of (by kernel_rfl)
theorem fY:NmL (aa dh) "common":=.of (by kernel_rfl)
theorem ko:NmG (aa dh) "common_divisor":=.of (by kernel_rfl)
theorem LR (T:Txt K mg) (hq:aP (CXe P w)) {f:Addr} {fd:FuncData} (D:Df K mg "fraction" dh ["top","bottom"] f fd) {cA:Addr} {gW:FuncData} (bT:Df K mg "common_divisor" bq ["one","two"] cA gW) (G_common_divisor:FnOk P w K mg base (CXe P w) 1 cA gW ["one","two"] (mC T)):FnOk P w K mg base (CXe P w) 2 f fd ["top","bottom"] (rf T):=by
 refine D.F.okC wB (fun vs H Q E h=>?_) (fun cdv A outer s H vs Q E hr h=>?_)
 . obtain ⟨i,j,rfl,_⟩:=h
   rfl
 . obtain ⟨i,j,rfl,j0,jb,k⟩:=h;refine ⟨_,(ak (aw (i:=2) wB.nd rfl (Or.inl fY.l) (ar G_common_divisor (hr.mono (by decide)) ko.g bT.m bT.F.kp bT.b .nil (ax hq) (ag (pvl 0 vO) (ag (pvl 1 lQ) aj)) (hdb:=ko.d))) (ak (bA (aM yW (pvl 1 lQ) am (aL _)) (aq (aw (i:=2) wB.nd rfl (Or.inl fY.l) (Ie D9 (pvl 2 fY)))) aO) (aq (aF (bW (ag (av F6 (pvl 0 vO) (pvl 2 fY)) (ag (av F6 (pvl 1 lQ) (pvl 2 fY)) aj))))))),?_⟩;rw [show L2.start ["top","bottom","common"] [V.int i,V.int j]=[some (V.int i),some (V.int j),none] from rfl];have gp:=Int.gcd_pos_of_ne_zero_right i j0;have gl:=Int.gcd_le_natAbs_right i j0;refine aW fun N1 h1=>?_;walk_at "rd";refine ⟨i,j,rfl,h1 _ _ ?_⟩;have go:∀ c:Int,c.natAbs=i.gcd j->(0<c↔0<j)->KH i c/\KH j c/\Frc i j (i.fdiv c) (j.fdiv c):=fun c h1 h2=>by
     have c0:c≠0:=(by omega);have lb:c.natAbs.log2<9000:=uF c0 (n:=4000) (by omega) (by decide);exact ⟨⟨c0,lb⟩,⟨c0,lb⟩,PR j0 h1 h2⟩
   walk_at "rd";by_cases c:j<0
   . rw [if_pos c];obtain ⟨h1,h2,h3⟩:=go (-(i.gcd j:Int)) (by omega) (by omega);exact ⟨h1,h2,aE (by simp),fun p np=>k _ _ p h3 np⟩
   . rw [if_neg c];obtain ⟨h1,h2,h3⟩:=go (i.gcd j:Int) (by omega) (by omega);exact ⟨h1,h2,aE (by simp),fun p np=>k _ _ p h3 np⟩
def nW (T:Txt K mg):Sp:=fun vs H Q _=>∃ (a:Addr) (c:Bool) (qs:List Addr) (fs:List (Int × Int)) (n:Nat),vs=[.ref a]/\AtX c H a (qs.map V.ref)/\Wu K H qs fs/\(∀ f∈fs,FrB n f)/\fs.length*n<=3990/\n<=1000/\fs.length<=1000 /\
 ∀ (p q:Int) (r:Addr) (H':Hp),Frc (nG fs (0,1)).1 (nG fs (0,1)).2 p q->H r=none->Same H H'->H' r=some (.tup [.int p,.int q])->Q (.ref r) H'
abbrev cY:Stmt:=top 6
theorem vI:FnScope ["some","bottom","part"] ["some"] (aa cY):=FnScope.of (by kernel_rfl)
theorem xG:NmL (aa cY) "some":=.of (by kernel_rfl)
theorem iz:NmC (aa cY) "bottom":=.of (by kernel_rfl)
theorem qS:NmL (aa cY) "part":=.of (by kernel_rfl)
theorem lW:NmG (aa cY) "common_divisor":=.of (by kernel_rfl)
theorem rL:NmG (aa cY) "fraction":=.of (by kernel_rfl)
theorem sD:NmG (aa cY) "sum":=.of (by kernel_rfl)
theorem Qd (T:Txt K mg) (hq:aP (CXe P w)) {f:Addr} {fd:FuncData} (D:Df K mg "sum_up" cY ["some"] f fd) {cA:Addr} {gW:FuncData} (bT:Df K mg "common_divisor" bq ["one","two"] cA gW) (G_common_divisor:FnOk P w K mg base (CXe P w) 1 cA gW ["one","two"] (mC T)) {dI:Addr} {ii:FuncData} (cC:Df K mg "fraction" dh ["top","bottom"] dI ii) (G_fraction:FnOk P w K mg base (CXe P w) 2 dI ii ["top","bottom"] (rf T)):FnOk P w K mg base (CXe P w) 3 f fd ["some"] (nW T):=by
 refine D.F.okC vI (fun vs H Q E h=>?_) (fun cdv A outer s H vs Q E hr h=>?_)
 . obtain ⟨a,c,qs,fs,n,rfl,_⟩:=h
   rfl
 . obtain ⟨a,c,qs,fs,n,rfl,ha,hf,fb,fl,n1,f1,k⟩:=h;refine ⟨_,(ak (aw (i:=1) vI.nd rfl (Or.inr iz.l) am) (ak (eS PassesOwn.never rfl (xU c (pvl 0 xG)) (aB (i:=2) vI.nd rfl (Or.inl qS.l)) (aq (aw (i:=1) vI.nd rfl (Or.inr iz.l) (av dc (pvc 1 iz) (av uc (az bC (pvl 2 qS) am (fun _ _=>rfl)) (ar G_common_divisor (hr.mono (by decide)) lW.g bT.m bT.F.kp bT.b .nil (ax hq) (ag (pvc 1 iz) (ag (az bC (pvl 2 qS) am (fun _ _=>rfl)) aj)) (hdb:=lW.d))))))) (aq (aF (ar G_fraction (hr.mono (by decide)) rL.g cC.m cC.F.kp cC.b .nil (ax hq) (ag (bI (RQ rfl) sD.g T.sum WB (ag (fM rfl (gI (Nc:=["part","bottom"]) 1 [1] (by decide +kernel) rfl (by decide +kernel) rfl (by show ∀ (y:Str × NameKind),y∈_->y.2=NameKind.free->(aa cY).names.lookup y.1=some NameKind.cell;decide +kernel) rfl (fun _ h=>dL h) (fun i hi=>match i,hi with|0,_=>⟨"bottom",1,rfl,rfl,rfl,by decide +kernel⟩|i+1,hi=>absurd hi (by show ¬ i+1<1;omega))) (xU c (pvl 0 xG)) (fun _ _ _ _=>(aB (i:=0) (show (["part","bottom"]:List Str).Nodup from by decide +kernel) rfl (Or.inl rfl))) (fun _ _ _ _=>fK) (fun _ _ _ _=>(av dc (az (mq K rfl) (pv 0) am (fun _ _=>rfl)) (av uc (pv 1) (az (mq K rfl) (pv 0) am (fun _ _=>rfl)))))) aj) (hn:=sD.n) (hdb:=sD.d)) (ag (pvc 1 iz) aj)) (hdb:=rL.d)))))),?_⟩;rw [show L2.start ["some","bottom","part"] [V.ref a]=[some (V.ref a),none,none] from rfl];have sq:∀ {H2:Hp},Same H H2->SqX K c H2 a (qs.map V.ref):=fun {H2} s2=>AtX.sq (K:=K) (show AtX c H2 a (qs.map V.ref) from s2 _ _ ha);have ql:qs.length=fs.length:=Paired.length hf;refine aW fun N1 h1=>?_;walk_at "rd";refine h1 _ _ (aW fun N2 h2=>?_);walk_at "rd";refine ⟨⟨_,sq (Same.refl _)⟩,?_⟩;refine RG (K:=K) (c:=c) (xs:=qs.map V.ref) (fun i σ H2=>H2=H/\∃ (B:Int) (v:Option V),0<B/\B.natAbs<=2^(i*n)/\(∀ f∈fs.take i,f.2 ∣ B)/\σ=[some (V.ref a),some (V.int B),v]) ⟨rfl,1,_,by decide,by simp,fun f hf=>by simp at hf,rfl⟩ (fun i σ H2 _ z=>by rw [z.1];exact sq (Same.refl _)) ?_ ?_
   . rintro i x σ H2 N hN hx ⟨rfl,B,v,B0,Bb,Bd,rfl⟩;rw [List.getElem?_map] at hx;obtain ⟨q,gq,rfl⟩:=Option.map_eq_some_iff.mp hx;obtain ⟨f,gf,eq⟩:=mL hf gq;have fm:=List.mem_of_getElem? gf;obtain ⟨f0,fb1,fb2⟩:=fb f fm;have il:=(List.getElem?_eq_some_iff.mp gf).1;have gp:=Int.gcd_pos_of_ne_zero_right B (show f.2≠0 by omega);have gl:=Int.gcd_le_natAbs_right B (show f.2≠0 by omega);obtain ⟨l0,l1⟩:=SN B0 f0;have gd:(0:Int)<=f.2 / (B.gcd f.2:Int):=Int.ediv_nonneg (by omega) (by omega);have qle:f.2 / (B.gcd f.2:Int)<=f.2:=Int.ediv_le_self _ (by omega);have qb:(f.2 / (B.gcd f.2:Int)).natAbs<=2^n:=(by omega);have ile:i*n<=fs.length*n:=Nat.mul_le_mul_right _ (by omega);have Bb':B.natAbs<2^4000:=Nat.lt_of_le_of_lt Bb (Nat.pow_lt_pow_right (by decide) (by omega));walk_at "rd";refine qW eq rfl (qW eq rfl ⟨_,_,rfl,_,rfl,_,rfl,⟨by omega,uF (n:=n) (by omega) (by omega) (by omega)⟩,jh Bb' (Nat.lt_of_le_of_lt qb (Nat.pow_lt_pow_right (by decide) (by omega))),hN _ _ ⟨rfl,_,_,l0,?_,?_,rfl⟩⟩)
     . rw [Int.natAbs_mul,Nat.succ_mul,Nat.pow_add];exact Nat.mul_le_mul Bb qb
     . intro g hg;rw [List.take_succ,gf] at hg;rcases List.mem_append.mp hg with hg|hg
       . exact Int.dvd_mul_of_dvd_left (Bd g hg)
       . rw [show g=f by simpa using hg];exact l1
   . rintro σ H2 ⟨rfl,B,v,B0,Bb,Bd,rfl⟩;refine h2 _ _ ?_;rw [List.length_map,ql] at Bb Bd;rw [List.take_length] at Bd;have Bb':B.natAbs<2^4000:=Nat.lt_of_le_of_lt Bb (Nat.pow_lt_pow_right (by decide) (by omega));walk_at "rd";refine ⟨⟨_,sq (Same.refl _)⟩,fun p np=>?_⟩;refine iA (K:=K) (c:=c) (xs:=qs.map V.ref) (fun i ys σ H3=>Same H2 H3/\H3 p=some (.lst ys)/\ys=((fs.take i).map fun f=>f.1*(B / f.2)).map V.int/\∃ v,σ=[v,some (V.int B)]) ⟨Same.new _ np,ah,rfl,_,rfl⟩ (fun i ys σ H3 _ z=>sq z.1) ?_ ?_
     . rintro i x ys σ H3 N hN hx ⟨s3,e3,rfl,v,rfl⟩;rw [List.getElem?_map] at hx;obtain ⟨q,gq,rfl⟩:=Option.map_eq_some_iff.mp hx;obtain ⟨f,gf,eq⟩:=mL hf gq;have fm:=List.mem_of_getElem? gf;obtain ⟨f0,fb1,fb2⟩:=fb f fm;have il:=(List.getElem?_eq_some_iff.mp gf).1;have qle:B / f.2<=B:=Int.ediv_le_self _ (by omega);have qnn:0<=B / f.2:=Int.ediv_nonneg (by omega) (by omega);have eq3:=Same.tup s3 eq;have Bq:(B / f.2).natAbs<2^4000:=Nat.lt_of_le_of_lt (show (B / f.2).natAbs<=B.natAbs by omega) Bb';walk_at "rd";refine qW eq3 rfl (qW eq3 rfl ⟨_,rfl,⟨f0,uF (n:=n) (by omega) fb2 (by omega)⟩,_,rfl,jh (bc fb1 (by omega)) Bq,e3,cj (by rw [List.length_map,List.length_map,List.length_take];omega),hN _ _ _ ⟨s3.put np _,ah,?_,_,rfl⟩⟩);rw [List.take_succ,gf,List.map_append,List.map_append]
       rfl
     . rintro ys σ H3 ⟨s3,e3,rfl,v,rfl⟩;rw [List.length_map,ql,List.take_length] at e3;refine ⟨p,rfl,_,.inl (SqL.of e3),_,_,rfl,by omega,Bb',fun x y r fr nr=>k x y r _ ?_ (s3.free nr) (s3.trans (Same.new _ nr)) ah⟩;have ms:=Kq (B:=B) (fs:=fs) (S:=0) (tb:=(0,1)) Bd (by rw [Int.zero_mul,Int.zero_mul]);rw [Int.zero_add] at ms;exact VL fr ms (by omega)
def rQ (T:Txt K mg):Sp:=fun vs H Q _=>∃ (a b:Addr) (c:Bool) (qs:List Addr) (fs:List (Int × Int)) (ns:List Int),vs=[.ref a,.ref b]/\AtX c H a (qs.map V.ref)/\FrsAt H qs fs/\(∀ f∈fs,FrB 400 f)/\H b=some (.lst (ns.map V.int))/\fs.length=ns.length/\fs.length<=6/\(∀ x∈ns,0<x/\x.natAbs<2^150) /\
 ∀ (p q:Int) (r:Addr) (H':Hp),0<q->p.gcd q=1->p.natAbs<2^3950->q.natAbs<2^3950->(p:Rat) / q=eB (fs.zip ns) (fun z=>(z.1.1:Rat) / z.1.2 / z.2)->H r=none->Same H H'->H' r=some (.tup [.int p,.int q])->Q (.ref r) H'
abbrev cI:Stmt:=top 36
theorem GJ:FnScope ["shares","prices"] ["shares","prices"] (aa cI):=FnScope.of (by kernel_rfl)
theorem yC:NmL (aa cI) "shares":=.of (by kernel_rfl)
theorem yJ:NmL (aa cI) "prices":=.of (by kernel_rfl)
theorem oH:NmG (aa cI) "sum_up":=.of (by kernel_rfl)
theorem BR:NmG (aa cI) "zip":=.of (by kernel_rfl)
theorem HF (T:Txt K mg) (hq:aP (CXe P w)) {f:Addr} {fd:FuncData} (D:Df K mg "divided_up" cI ["shares","prices"] f fd) {dI:Addr} {ii:FuncData} (cC:Df K mg "fraction" dh ["top","bottom"] dI ii) (G_fraction:FnOk P w K mg base (CXe P w) 2 dI ii ["top","bottom"] (rf T)) {cW:Addr} {dM:FuncData} (be:Df K mg "sum_up" cY ["some"] cW dM) (G_sum_up:FnOk P w K mg base (CXe P w) 3 cW dM ["some"] (nW T)):FnOk P w K mg base (CXe P w) 4 f fd ["shares","prices"] (rQ T):=by
 refine D.F.okC GJ (fun vs H Q E h=>?_) (fun cdv A outer s H vs Q E hr h=>?_)
 . obtain ⟨a,b,c,qs,fs,ns,rfl,_⟩:=h
   rfl
 . obtain ⟨a,b,c,qs,fs,ns,rfl,ha,hq1,fb,hb,fl,f8,nb,k⟩:=h;refine ⟨_,(aq (aF (ar G_sum_up (hr.mono (by decide)) oH.g be.m be.F.kp be.b .nil (ax hq) (ag (fM rfl (uE (Nc:=["share","cost"]) 2 (by decide +kernel) (by decide +kernel) rfl (by decide +kernel) rfl) (Pp c true BR.g T.zip (ag (pvl 0 yC) (ag (pvl 1 yJ) aj))) (fun _ _ _ _=>(Vc K rfl (n:=2) rfl (aU (aB (i:=0) (show (["share","cost"]:List Str).Nodup from by decide +kernel) rfl (Or.inl rfl)) (aU (aB (i:=1) (show (["share","cost"]:List Str).Nodup from by decide +kernel) rfl (Or.inl rfl)) iT)))) (fun _ _ _ _=>fK) (fun _ _ _ _=>(ar G_fraction (hr.mono (by decide)) (by rfl) cC.m cC.F.kp cC.b .nil (ax hq) (ag (az (mq K rfl) (pv 0) am (fun _ _=>rfl)) (ag (av dc (az (mq K rfl) (pv 0) am (fun _ _=>rfl)) (pv 1)) aj))))) aj) (hdb:=oH.d)))),?_⟩;rw [show L2.start ["shares","prices"] [V.ref a,V.ref b]=[some (V.ref a),some (V.ref b)] from rfl];walk_at "rd";have ql:qs.length=fs.length:=Paired.length hq1;refine ⟨a,b,⟨rfl,rfl⟩,⟨_,ha.sq⟩,⟨_,SqL.of hb⟩,fun pc npc=>?_⟩;refine Rc (K:=K) (c:=c) (d:=true) (xs:=qs.map V.ref) (zs:=ns.map V.int) (fun i zs σ H2=>Same H H2/\H2 pc=some (.lst zs)/\(∃ (rq:List Addr) (gs:List (Int × Int)),zs=rq.map V.ref/\gs.length=i/\FrsAt H2 rq gs/\(∀ f∈gs,FrB 550 f)/\eB gs (fun f=>(f.1:Rat) / f.2)=eB ((fs.zip ns).take i) (fun z=>(z.1.1:Rat) / z.1.2 / z.2))/\∃ v w,σ=[v,w]) ⟨Same.new _ npc,ah,⟨[],[],rfl,rfl,.nil,(fun f hf=>nomatch hf),rfl⟩,_,_,rfl⟩ (fun i zs σ H2 z=>⟨Same.sqX z.1 ha.sq,SqL.of (z.1 _ _ hb)⟩) ?_ ?_
   . rintro i u w zs σ H2 pq N hN hu hw ⟨s2,e2,⟨rq,gs,rfl,gl,fg,gb,su⟩,v1,v2,rfl⟩ npq;rw [List.getElem?_map] at hu hw;obtain ⟨q,gq,rfl⟩:=Option.map_eq_some_iff.mp hu;obtain ⟨n,gn,rfl⟩:=Option.map_eq_some_iff.mp hw;obtain ⟨f,gf,eq⟩:=mL hq1 gq;obtain ⟨f0,fb1,fb2⟩:=fb f (List.mem_of_getElem? gf);obtain ⟨n0,nb1⟩:=nb n (List.mem_of_getElem? gn);have il:=(List.getElem?_eq_some_iff.mp gf).1;have rl:rq.length=gs.length:=Paired.length fg;have s3:=s2.trans (Same.new (.tup [V.ref q,V.int n]) npq);have e3:=(Same.new (.tup [V.ref q,V.int n]) npq) _ _ e2;have fg3:FrsAt (upd H2 pq (.tup [V.ref q,V.int n])) rq gs:=Paired.imp' (fun a b h=>Same.new _ npq _ _ h) fg;refine Oj (SqT.of ah) ?_;simp only [List.set_cons_zero,List.set_cons_succ];have eq3:=s3 _ _ eq;generalize upd H2 pq (.tup [V.ref q,V.int n])=H3 at s3 eq3 e3 fg3 ⊢;have b1:(f.2*n).natAbs<2^(400+150):=bR fb2 nb1;have fn0:0<f.2*n:=Int.mul_pos f0 n0;walk_at "rd";refine ixT eq3 rfl (ixT eq3 rfl ⟨_,rfl,jh (bc fb2 (by decide)) (bc nb1 (by decide)),f.1,f.2*n,rfl,by omega,Nat.lt_of_lt_of_le b1 (Nat.pow_le_pow_right (by decide) (by decide)),fun p' q' r' fr nr=>?_⟩);obtain ⟨pl,ql'⟩:=lw fr (by omega);have nrp:r'≠pc:=fun z=>by rw [z,e3] at nr;cases nr
     have s4:=Same.new (.tup [V.int p',V.int q']) nr;refine ⟨s4 _ _ e3,cj (by rw [List.length_map];omega),hN _ _ _ ⟨?_,ah,⟨rq++[r'],gs++[(p',q')],by rw [List.map_append];rfl,by rw [List.length_append,gl];rfl,?_,?_,?_⟩,_,_,rfl⟩⟩
     . exact fun b o e=>by rw [ao (aG e npc)];exact s4 _ _ (s3 _ _ e)
     . refine rF (.cons ?_ .nil) (Paired.imp' (fun b m hb=>?_) fg3)
       . rw [ao nrp];exact ah
       . rw [ao (gv hb e3 (by intro z;cases z))];exact s4 _ _ hb
     . intro x hx;rcases List.mem_append.mp hx with hx|hx
       . exact gb x hx
       . rw [List.mem_singleton.mp hx];exact ⟨fr.pos,Nat.lt_of_le_of_lt pl (Nat.lt_of_lt_of_le fb1 (Nat.pow_le_pow_right (by decide) (by decide))),Nat.lt_of_le_of_lt ql' b1⟩
     . have hz:(fs.zip ns)[i]?=some (f,n):=(by rw [List.getElem?_zip_eq_some];exact ⟨gf,gn⟩);rw [List.take_succ,hz];show eB (gs++[(p',q')]) _=eB ((fs.zip ns).take i++[(f,n)]) _;rw [lL,lL,su,lX fr (by omega)]
       congr 1
       show (f.1:Rat) / ((f.2*n:Int):Rat)=(f.1:Rat) / f.2 / n;rw [show ((f.2*n:Int):Rat)=(f.2:Rat)*n from Rat.intCast_mul ..];have h1:(f.2:Rat)≠0:=fun z=>by have:=Rat.intCast_eq_zero_iff.mp z;omega
       have h2:(n:Rat)≠0:=fun z=>by have:=Rat.intCast_eq_zero_iff.mp z;omega
       grind
   . rintro zs σ H2 ⟨s2,e2,⟨rq,gs,rfl,gl,fg,gb,su⟩,v1,v2,rfl⟩;rw [List.length_map,List.length_map] at gl;have zl:(fs.zip ns).length=fs.length:=(by rw [List.length_zip];omega);rw [List.take_of_length_le (by rw [zl,List.length_map,List.length_map];omega)] at su;have gl8:gs.length<=6:=(by omega);refine ⟨pc,true,rq,gs,550,rfl,e2,fg.k,gb,by omega,by omega,by omega,fun p q r H3 fr nr s3 er=>?_⟩;have m0:=uG (fs:=gs) (tb:=(0,1)) (fun f hf=>(gb f hf).1) (by decide);obtain ⟨pl,ql'⟩:=lw fr (by omega);obtain ⟨mb1,mb2⟩:=vF (n:=550) (fs:=gs) (tb:=(0,1)) (b:=1) gb (by decide) (by decide);have hp:1+gs.length*(550+1)<=3950:=(by omega);refine k p q r H3 fr.pos fr.one (Nat.lt_of_le_of_lt pl (Nat.lt_of_lt_of_le mb1 (Nat.pow_le_pow_right (by decide) hp))) (Nat.lt_of_le_of_lt ql' (Nat.lt_of_lt_of_le mb2 (Nat.pow_le_pow_right (by decide) hp))) ?_ (s2.free nr) (s2.trans s3) er;rw [<- su];have h1:=u9 (fs:=gs) (tb:=(0,1)) (fun f hf=>by have:=(gb f hf).1;omega) (by decide);rw [lX fr (by omega),h1];rw [show (((0:Int),(1:Int)).1:Rat) / ((0:Int),(1:Int)).2=0 from by show ((0:Int):Rat) / ((1:Int):Rat)=0;rw [show ((0:Int):Rat)=0 from rfl,Rat.div_def,Rat.zero_mul]]
     grind
def l7 (T:Txt K mg):Sp:=fun vs H Q E=>∃ (p t:Addr) (m:Int) (ps:List Addr) (rs:List Road) (n:Int),vs=[.ref p,.int n]/\WebAt T.Web H p m t ps rs/\(0<=n->n<m->Q .non H)/\(¬ (0<=n/\n<m)->E (.ref T.NoPlace) none H)
abbrev bO:Stmt:=top 19
theorem Fl:FnScope ["web","number"] ["web","number"] (aa bO):=FnScope.of (by kernel_rfl)
theorem AX:NmL (aa bO) "web":=.of (by kernel_rfl)
theorem xx:NmL (aa bO) "number":=.of (by kernel_rfl)
theorem mw:NmG (aa bO) "is_place":=.of (by kernel_rfl)
theorem mP:NmG (aa bO) "NoPlace":=.of (by kernel_rfl)
theorem FH (T:Txt K mg) (hq:aP (CXe P w)) {f:Addr} {fd:FuncData} (D:Df K mg "check_place" bO ["web","number"] f fd) {fS:Addr} {mG:FuncData} (dj:Df K mg "is_place" eK ["many","number"] fS mG) (G_is_place:FnOk P w K mg base (CXe P w) 1 fS mG ["many","number"] (wJ T)):FnOk P w K mg base (CXe P w) 2 f fd ["web","number"] (l7 T):=by
 refine D.F.okX Fl (fun vs H Q E h=>?_) (fun cdv A outer s H vs Q E hr h=>?_)
 . obtain ⟨p,t,m,ps,rs,n,rfl,_⟩:=h
   rfl
 . obtain ⟨p,t,m,ps,rs,n,rfl,W,k,e⟩:=h;obtain ⟨dx,ob⟩:=W.ob;refine ⟨_,(aq (bA (jQ (mH (ar G_is_place (hr.mono (by decide)) mw.g dj.m dj.F.kp dj.b .nil hZ (ag (ki  (pvl 0 AX) rfl) (ag (pvl 1 xx) aj)) (hdb:=mw.d)))) (aq (IJ T.Qw rfl MF mP.g T.Qa (ag PY aj) (hdb:=mP.d))) aO)),?_⟩;rw [show L2.start ["web","number"] [V.ref p,V.int n]=[some (V.ref p),some (V.int n)] from rfl];walk_at "rd";refine ⟨T.Web,dx,_,ob,T.ja,T.n_many,_,hW m t,m,n,rfl,_,rfl,?_⟩;by_cases c:0<=n/\n<m
   . rw [if_neg (by simp [c.1,c.2])];exact k c.1 c.2
   . rw [if_pos (by simpa [Bool.and_eq_true] using c)];exact ⟨by decide,e c⟩
def mU (T:Txt K mg):Sp:=fun vs H Q E=>∃ (p t:Addr) (m:Int) (ps:List Addr) (rs:List Road) (a:Int),vs=[.ref p,.int a]/\WebAt T.Web H p m t ps rs /\
 (∀ l H',0<=a->a<m->H l=none->Same H H'->H' l=some (.lst ((cN m rs a).map V.int))->Q (.ref l) H')/\(¬ (0<=a/\a<m)->E (.ref T.NoPlace) none H)
abbrev bU:Stmt:=top 18
theorem G4:FnScope ["web","a"] ["web","a"] (aa bU):=FnScope.of (by kernel_rfl)
theorem tf:NmL (aa bU) "web":=.of (by kernel_rfl)
theorem vN:NmL (aa bU) "a":=.of (by kernel_rfl)
theorem kU:NmG (aa bU) "check_place":=.of (by kernel_rfl)
theorem kh:NmG (aa bU) "sorted":=.of (by kernel_rfl)
theorem lP:NmG (aa bU) "other_ends":=.of (by kernel_rfl)
theorem HK (T:Txt K mg) (hq:aP (CXe P w)) {f:Addr} {fd:FuncData} (D:Df K mg "neighbours" bU ["web","a"] f fd) {ci:Addr} {eu:FuncData} (aV:Df K mg "check_place" bO ["web","number"] ci eu) (G_check_place:FnOk P w K mg base (CXe P w) 2 ci eu ["web","number"] (l7 T)) {dY:Addr} {ku:FuncData} (dy:Df K mg "other_ends" cD ["roads","place"] dY ku) (G_other_ends:FnOk P w K mg base (CXe P w) 1 dY ku ["roads","place"] (sd T)):FnOk P w K mg base (CXe P w) 3 f fd ["web","a"] (mU T):=by
 refine D.F.okX G4 (fun vs H Q E h=>?_) (fun cdv A outer s H vs Q E hr h=>?_)
 . obtain ⟨p,t,m,ps,rs,a,rfl,_⟩:=h
   rfl
 . obtain ⟨p,t,m,ps,rs,a,rfl,W,k,e⟩:=h;obtain ⟨dx,ob⟩:=W.ob;refine ⟨_,(ak (dG (ar G_check_place (hr.mono (by decide)) kU.g aV.m aV.F.kp aV.b .nil hZ (ag (pvl 0 tf) (ag (pvl 1 vN) aj)) (hdb:=kU.d))) (aq (aF (bI Lk kh.g T.sorted Qb (ag (ar G_other_ends (hr.mono (by decide)) lP.g dy.m dy.F.kp dy.b .nil hZ (ag (ki  (pvl 0 tf) rfl) (ag (pvl 1 vN) aj)) (hdb:=lP.d)) aj) (hn:=kh.n) (hdb:=kh.d))))),?_⟩;rw [show L2.start ["web","a"] [V.ref p,V.int a]=[some (V.ref p),some (V.int a)] from rfl];walk_at "rd";refine ⟨p,t,m,ps,rs,a,rfl,W,fun a0 a1=>?_,e⟩;have hlen:(rs.length:Int)=m - 1:=W.go.len;have m24:=W.go.m24;refine ⟨T.Web,dx,_,ob,T.ja,T.n_roads,_,CF m t,t,ps,rs,a,rfl,SqT.of W.tu,W.ro,by omega,fun l1 H1 n1 s1 e1=>?_⟩;refine ⟨l1,rfl,cF rs a,SqL.of e1,by have:=Jc rs a;omega,fun l2 zs n2 pz sz=>?_⟩;rw [Vy W.go a0 a1 pz sz];exact k l2 _ a0 a1 (s1.free n2) (s1.trans (Same.new _ n2)) ah
def Fy (T:Txt K mg):Sp:=fun vs H Q _=>∃ (p t:Addr) (m:Int) (ps:List Addr) (rs:List Road) (a:Int) (fv:V),vs=[.ref p,.int a,fv]/\WebAt T.Web H p m t ps rs/\0<=a/\a<m/\(fv=.non\/∃ i,fv=.int i) /\
 ∀ l H',H l=none->Same H H'->H' l=some (.lst ((cR m rs fv a).map V.int))->Q (.ref l) H'
abbrev ji:Stmt:=top 29
theorem Ut:FnScope ["web","place","front"] ["web","place","front"] (aa ji):=FnScope.of (by kernel_rfl)
theorem Lr:NmL (aa ji) "web":=.of (by kernel_rfl)
theorem HH:NmL (aa ji) "place":=.of (by kernel_rfl)
theorem VC:NmC (aa ji) "front":=.of (by kernel_rfl)
theorem rA:NmG (aa ji) "neighbours":=.of (by kernel_rfl)
theorem U7 (T:Txt K mg) (hq:aP (CXe P w)) {f:Addr} {fd:FuncData} (D:Df K mg "kids" ji ["web","place","front"] f fd) {cG:Addr} {fj:FuncData} (bG:Df K mg "neighbours" bU ["web","a"] cG fj) (G_neighbours:FnOk P w K mg base (CXe P w) 3 cG fj ["web","a"] (mU T)):FnOk P w K mg base (CXe P w) 4 f fd ["web","place","front"] (Fy T):=by
 refine D.F.okC Ut (fun vs H Q E h=>?_) (fun cdv A outer s H vs Q E hr h=>?_)
 . obtain ⟨p,t,m,ps,rs,a,fv,rfl,_⟩:=h
   rfl
 . obtain ⟨p,t,m,ps,rs,a,fv,rfl,W,a0,a1,hf,k⟩:=h;have m24:=W.go.m24;refine ⟨_,(aq (aF (fM rfl (gI (Nc:=["near","front"]) 1 [2] (by decide +kernel) rfl (by decide +kernel) rfl (by show ∀ (y:Str × NameKind),y∈_->y.2=NameKind.free->(aa ji).names.lookup y.1=some NameKind.cell;decide +kernel) rfl (fun _ h=>dL h) (fun i hi=>match i,hi with|0,_=>⟨"front",2,rfl,rfl,rfl,by decide +kernel⟩|i+1,hi=>absurd hi (by show ¬ i+1<1;omega))) (iY (ar G_neighbours (hr.mono (by decide)) rA.g bG.m bG.F.kp bG.b .nil (ax hq) (ag (pvl 0 Lr) (ag (pvl 1 HH) aj)) (hdb:=rA.d))) (fun _ _ _ _=>(aB (i:=0) (show (["near","front"]:List Str).Nodup from by decide +kernel) rfl (Or.inl rfl))) (fun _ _ _ _=>(BE (aM pA (pv 0) (pv 1) (aL _)))) (fun _ _ _ _=>(pv 0))))),?_⟩;rw [show L2.start ["web","place","front"] [V.ref p,V.int a,fv]=[some (V.ref p),some (V.int a),some fv] from rfl];walk_at "rd";have nl:(cN m rs a).length<=24:=by
     have:=List.length_filter_le (fun q=>decide (q∈cF rs a)) (below m.toNat);rw [bo] at this;unfold cN;omega
   refine ⟨p,t,m,ps,rs,a,rfl,W,fun l1 H1 _ _ n1 s1 e1=>⟨l1,rfl,⟨_,SqL.of e1⟩,fun l2 n2=>?_⟩,fun z=>absurd ⟨a0,a1⟩ z⟩;have n20:H l2=none:=s1.free n2;refine iA (c:=true) (K:=K) (a:=l1) (xs:=(cN m rs a).map V.int) (fun j ys σ H2=>Same H1 H2/\H2 l2=some (.lst ys)/\ys=(((cN m rs a).take j).filter fun v=>decide (V.int v≠fv)).map V.int/\∃ v,σ=[v,some fv]) ⟨Same.new _ n2,ah,rfl,_,rfl⟩ (fun j ys σ H2 _ z=>SqL.of (z.1 _ _ e1)) ?_ ?_
   . rintro j xj ys σ H2 N hN hj ⟨s2,h2,rfl,v,rfl⟩;rw [List.getElem?_map] at hj;obtain ⟨b,hb,rfl⟩:=Option.map_eq_some_iff.mp hj;have et:(cN m rs a).take (j+1)=(cN m rs a).take j++[b]:=(by rw [List.take_succ,hb];rfl);have ll:(((cN m rs a).take j).filter fun v=>decide (V.int v≠fv)).length<=24:=by
       have h1:=List.length_filter_le (fun v=>decide (V.int v≠fv)) ((cN m rs a).take j);rw [List.length_take] at h1;omega
     walk_at "rd";have sc:wa (V.int b) fv=true:=by
       rcases hf with rfl|⟨i,rfl⟩ <;> rfl
     refine ⟨sc,?_⟩;by_cases c:V.int b=fv
     . rw [if_neg (fun z=>z c)];refine hN _ _ _ ⟨s2,h2,?_,_,rfl⟩;rw [et,List.filter_append];simp [c]
     . rw [if_pos c];refine ⟨h2,cj (by rw [List.length_map];omega),hN _ _ _ ⟨s2.put n2 _,ah,?_,_,rfl⟩⟩;rw [et,List.filter_append];simp [c]
   . rintro ys σ H2 ⟨s2,h2,rfl,v,rfl⟩;rw [List.length_map,List.take_length] at h2;exact k l2 H2 n20 (s1.trans s2) h2
def CZ (T:Txt K mg):Sp:=fun vs H Q E=>∃ (p t:Addr) (m:Int) (ps:List Addr) (rs:List Road) (r:Int),vs=[.ref p,.int r]/\WebAt T.Web H p m t ps rs /\
 (0<=r->r<m->∃ par dep,Rooted m rs r par dep/\∀ l H',H l=none->Same H H'->H' l=some (.lst (qI m r par))->Q (.ref l) H')/\(¬ (0<=r/\r<m)->E (.ref T.NoPlace) none H)
abbrev dS:Stmt:=top 27
theorem qM:FnScope ["web","r","nearer","waiting","place","front","kid"] ["web","r"] (aa dS):=FnScope.of (by kernel_rfl)
theorem tS:NmL (aa dS) "web":=.of (by kernel_rfl)
theorem Eb:NmL (aa dS) "r":=.of (by kernel_rfl)
theorem kX:NmL (aa dS) "nearer":=.of (by kernel_rfl)
theorem j8:NmL (aa dS) "waiting":=.of (by kernel_rfl)
theorem lZ:NmL (aa dS) "place":=.of (by kernel_rfl)
theorem xK:NmL (aa dS) "front":=.of (by kernel_rfl)
theorem ui:NmL (aa dS) "kid":=.of (by kernel_rfl)
theorem o0:NmG (aa dS) "check_place":=.of (by kernel_rfl)
theorem zM:NmG (aa dS) "kids":=.of (by kernel_rfl)
theorem SJ (T:Txt K mg) (hq:aP (CXe P w)) {f:Addr} {fd:FuncData} (D:Df K mg "ahead" dS ["web","r"] f fd) {ci:Addr} {eu:FuncData} (aV:Df K mg "check_place" bO ["web","number"] ci eu) (G_check_place:FnOk P w K mg base (CXe P w) 2 ci eu ["web","number"] (l7 T)) {mK:Addr} {xI:FuncData} (lB:Df K mg "kids" ji ["web","place","front"] mK xI) (G_kids:FnOk P w K mg base (CXe P w) 4 mK xI ["web","place","front"] (Fy T)):FnOk P w K mg base (CXe P w) 5 f fd ["web","r"] (CZ T):=by
 refine D.F.okX qM (fun vs H Q E h=>?_) (fun cdv A outer s H vs Q E hr h=>?_)
 . obtain ⟨p,t,m,ps,rs,r,rfl,_⟩:=h
   rfl
 . obtain ⟨p,t,m,ps,rs,r,rfl,W,k,e⟩:=h;obtain ⟨dx,ob⟩:=W.ob;have g:=W.go;have m24:=g.m24;refine ⟨_,(ak (dG (ar G_check_place (hr.mono (by decide)) o0.g aV.m aV.F.kp aV.b .nil hZ (ag (pvl 0 tS) (ag (pvl 1 Eb) aj)) (hdb:=o0.d))) (ak (aw (i:=2) qM.nd rfl (Or.inl kX.l) (av uI (bj (ag Qh aj)) (ki  (pvl 0 tS) rfl))) (ak (aw (i:=3) qM.nd rfl (Or.inl j8.l) (bj (ag (pvl 1 Eb) aj))) (ak (nQ PassesOwn.leaving (q8 (pvl 3 j8) (fun _=>rfl)) (ak (aw (i:=4) qM.nd rfl (Or.inl lZ.l) (Jj PySem.F.plainAttrs_list PySem.F.slot_list_pop PySem.F.type_list_pop IB (pvl 3 j8))) (ak (aw (i:=5) qM.nd rfl (Or.inl xK.l) (az aI (pvl 2 kX) (pvl 4 lZ) (fun _ _=>rfl))) (aq (eS PassesOwn.leaving rfl (iY (ar G_kids (hr.mono (by decide)) zM.g lB.m lB.F.kp lB.b .nil hZ (ag (pvl 0 tS) (ag (pvl 4 lZ) (ag (pvl 5 xK) aj))) (hdb:=zM.d))) (aB (i:=6) qM.nd rfl (Or.inl ui.l)) (ak (gZ (pvl 4 lZ) (kq (pvl 2 kX) (pvl 6 ui) gL)) (aq (dG (pj PySem.F.plainAttrs_list PySem.F.slot_list_append PySem.F.type_list_append ga (pvl 3 j8) (ag (pvl 6 ui) aj)))))))))) (aq (aF (pvl 2 kX))))))),?_⟩;rw [show L2.start ["web","r","nearer","waiting","place","front","kid"] [V.ref p,V.int r]=[some (V.ref p),some (V.int r),none,none,none,none,none] from rfl];walk_at "rd";refine ⟨p,t,m,ps,rs,r,rfl,W,fun r0 r1=>?_,e⟩;obtain ⟨par,dep,R,k⟩:=k r0 r1;refine ⟨by decide,fun l1 n1=>?_⟩;have s1:=Same.new (.lst [V.non]) n1;refine ⟨T.Web,dx,_,s1 _ _ ob,T.ja,T.n_many,_,rfl,?_⟩;refine ⟨l1,m,[V.non],rfl,rfl,ah,by omega,by omega,aE (by simp;omega),fun l2 n2=>?_⟩;have n20:H l2=none:=s1.free n2;rw [yf,<- P7 (par:=par)];have s2:=s1.trans (Same.new (.lst (nl m par [])) n2);refine ⟨aE (by simp),fun l3 n3=>?_⟩;have n30:H l3=none:=s2.free n3;have n32:l3≠l2:=fun z=>by rw [z,ah] at n3;cases n3
   have s3:=s2.trans (Same.new (.lst [V.int r]) n3);have e2:upd (upd (upd H l1 (.lst [V.non])) l2 (.lst (nl m par []))) l3 (.lst [V.int r]) l2=some (.lst (nl m par [])):=by rw [ao n32.symm,ah]
   have e3:upd (upd (upd H l1 (.lst [V.non])) l2 (.lst (nl m par []))) l3 (.lst [V.int r]) l3=some (.lst [V.int r]):=ah;generalize upd (upd (upd H l1 (.lst [V.non])) l2 (.lst (nl m par []))) l3 (.lst [V.int r])=H3 at s3 e2 e3 ⊢;refine xB (fun n σ H4=>∃ (ks ws:List Int) (v4 v5 v6:Option V),n=2*(m.toNat - ks.length)+ws.length/\σ=[some (.ref p),some (.int r),some (.ref l2),some (.ref l3),v4,v5,v6]/\Same H H4/\H4 l2=some (.lst (nl m par ks))/\H4 l3=some (.lst (ws.map V.int))/\AInv m rs r par ks ws) (2*m.toNat+1) ⟨[],[r],_,_,_,rfl,rfl,s3,e2,e3,AInv.start⟩ ?_;rintro n σ H4 NW BB hBB hN hN2 ⟨ks,ws,v4,v5,v6,rfl,rfl,s4,h2,h3,J⟩;refine hBB _ _ _ ?_;have kl:=dw (by omega) J.nd J.rng;walk_at "rd";refine ⟨_,.inl ⟨_,SqL.of h3,rfl⟩,?_⟩;rcases List.eq_nil_or_concat ws with rfl|⟨ws',q,rfl⟩
   . rw [if_neg (by simp)];rw [J.done R] at h2;exact k l2 H4 n20 s4 h2
   . rw [List.concat_eq_append] at J h3 hN hN2 ⊢;rw [if_pos (by simp)];have hq:q∈ws'++[q]:=List.mem_append_right _ (List.mem_singleton.mpr rfl);have pr:=J.at_ r0 r1 hq;have J2:=J.step g R r0 r1 (p:=q) (ws':=ws') (List.perm_append_singleton q ws');refine ⟨NW,fun σ' H' z=>?_,?_⟩
     . obtain ⟨m',lt,ks',ws'',a4,a5,a6,e1,e2,e3⟩:=hN2 _ _ z;exact ⟨m',lt,ks',ws'',e1,a4,a5,a6,e2,e3⟩
     rw [List.map_append,List.map_cons,List.map_nil] at h3;refine ⟨tyL h3,S5 h3 ?_⟩;have s5:Same H (upd H4 l3 (.lst (ws'.map V.int))):=s4.put n30 _;have h25:upd H4 l3 (.lst (ws'.map V.int)) l2=some (.lst (nl m par ks)):=(by rw [ao n32.symm];exact h2);have h35:upd H4 l3 (.lst (ws'.map V.int)) l3=some (.lst (ws'.map V.int)):=ah;generalize upd H4 l3 (.lst (ws'.map V.int))=H5 at s5 h25 h35 ⊢;refine ixL h25 (iW pr.1 (Jd pr.1 pr.2)) ?_;rw [J.front hq];have hfv:Pb.front r par q=.non\/∃ i,Pb.front r par q=.int i:=by
       unfold Pb.front;by_cases c:q=r
       . rw [if_pos c];exact .inl rfl
       . rw [if_neg c];exact .inr ⟨_,rfl⟩
     have mk:∀ v,v∈cR m rs (Pb.front r par q) q->(0<=v/\v<m)/\v≠r/\par v=q:=fun v=>(nB g R pr.1 pr.2).mp;refine ⟨p,t,m,ps,rs,q,_,rfl,W.same s5,pr.1,pr.2,hfv,fun l6 H6 n6 s6 e6=>⟨l6,rfl,⟨_,SqL.of e6⟩,?_⟩⟩;generalize cR m rs (Pb.front r par q) q=kk at mk e6 J2 ⊢;have n6':H l6=none:=s5.free n6;have n62:l6≠l2:=fun z=>by rw [z,h25] at n6;cases n6
     have n63:l6≠l3:=fun z=>by rw [z,h35] at n6;cases n6
     have kl2:=dw (by omega) J2.nd J2.rng;rw [List.length_append] at kl2;have wl2:=dw (by omega) J2.wnd fun w hw=>J2.at_ r0 r1 hw;rw [List.length_append] at wl2;refine P1 (K:=K) (xs:=kk.map V.int) (fun i σ H7=>∃ v6,σ=[some (.ref p),some (.int r),some (.ref l2),some (.ref l3),some (.int q),some (Pb.front r par q),v6]/\Same H H7/\H7 l6=some (.lst (kk.map V.int))/\H7 l2=some (.lst (nl m par (ks++kk.take i)))/\H7 l3=some (.lst ((ws'++kk.take i).map V.int))) ⟨_,rfl,s5.trans s6,e6,by rw [List.take_zero,List.append_nil];exact s6 _ _ h25,by rw [List.take_zero,List.append_nil];exact s6 _ _ h35⟩ (fun i σ H7 _ z=>by obtain ⟨_,_,_,z,_⟩:=z;exact SqL.of z) ?_ ?_
     . rintro i x σ H7 NI BB hBB hI hi ⟨v6,rfl,s7,e7,h27,h37⟩;refine hBB _ _ ?_;rw [List.getElem?_map] at hi;obtain ⟨v,hv,rfl⟩:=Option.map_eq_some_iff.mp hi;obtain ⟨vr,_,vp⟩:=mk v (List.mem_of_getElem? hv);have et:kk.take (i+1)=kk.take i++[v]:=(by rw [List.take_succ,hv];rfl);walk_at "rd";refine ⟨l2,_,v,v.toNat,rfl,rfl,h27,by unfold ixN;rw [if_pos vr.1,if_pos (by rw [rC];omega)],?_⟩;rw [<- vp,Qc vr.1 vr.2,vp,List.append_assoc,<- et];have h38:upd H7 l2 (.lst (nl m par (ks++kk.take (i+1)))) l3=some (.lst ((ws'++kk.take i).map V.int)):=(by rw [ao n32];exact h37);have wlen:(ws'++kk.take i).length<=100:=by
         rw [List.length_append,List.length_take];omega
       refine ⟨tyL h38,wF h38 (cj (by rw [List.length_map];omega)) (hI _ _ ⟨_,rfl,(s7.put n20 _).put n30 _,?_,?_,?_⟩)⟩
       . rw [ao n63,ao n62];exact e7
       . rw [ao n32.symm,ah]
       . rw [ah,et,<- List.append_assoc,List.map_append (l₁:=ws'++kk.take i)];rfl
     . rintro BB σ H7 hBB ⟨v6,rfl,s7,e7,h27,h37⟩;refine hBB _ _ ?_;rw [List.length_map,List.take_length] at h27 h37;refine hN _ _ _ ?_ ⟨_,_,_,_,_,rfl,rfl,s7,h27,h37,J2⟩;rw [List.length_append,List.length_append,List.length_append];simp only [List.length_cons,List.length_nil];omega
def MK (T:Txt K mg):Sp:=fun vs H Q E=>∃ (p t:Addr) (m:Int) (ps:List Addr) (rs:List Road) (r:Int),vs=[.ref p,.int r]/\WebAt T.Web H p m t ps rs /\
 (0<=r->r<m->∃ par dep,Rooted m rs r par dep/\∀ l H',H l=none->Same H H'->H' l=some (.lst ((nV m rs r par dep r).map V.int))->(nV m rs r par dep r).Nodup->(∀ v,v∈nV m rs r par dep r↔0<=v/\v<m)->Q (.ref l) H')/\(¬ (0<=r/\r<m)->E (.ref T.NoPlace) none H)
abbrev fy:Stmt:=top 28
theorem tP:FnScope ["web","r","nearer","places","waiting","place","kid"] ["web","r"] (aa fy):=FnScope.of (by kernel_rfl)
theorem Cb:NmL (aa fy) "web":=.of (by kernel_rfl)
theorem Gz:NmL (aa fy) "r":=.of (by kernel_rfl)
theorem xC:NmL (aa fy) "nearer":=.of (by kernel_rfl)
theorem qH:NmL (aa fy) "places":=.of (by kernel_rfl)
theorem lh:NmL (aa fy) "waiting":=.of (by kernel_rfl)
theorem mT:NmL (aa fy) "place":=.of (by kernel_rfl)
theorem Ct:NmL (aa fy) "kid":=.of (by kernel_rfl)
theorem zu:NmG (aa fy) "ahead":=.of (by kernel_rfl)
theorem Dr:NmG (aa fy) "reversed":=.of (by kernel_rfl)
theorem AQ:NmG (aa fy) "kids":=.of (by kernel_rfl)
theorem Up (T:Txt K mg) (hq:aP (CXe P w)) {f:Addr} {fd:FuncData} (D:Df K mg "down" fy ["web","r"] f fd) {kI:Addr} {uB:FuncData} (j2:Df K mg "ahead" dS ["web","r"] kI uB) (G_ahead:FnOk P w K mg base (CXe P w) 5 kI uB ["web","r"] (CZ T)) {mK:Addr} {xI:FuncData} (lB:Df K mg "kids" ji ["web","place","front"] mK xI) (G_kids:FnOk P w K mg base (CXe P w) 4 mK xI ["web","place","front"] (Fy T)):FnOk P w K mg base (CXe P w) 6 f fd ["web","r"] (MK T):=by
 refine D.F.okX tP (fun vs H Q E h=>?_) (fun cdv A outer s H vs Q E hr h=>?_)
 . obtain ⟨p,t,m,ps,rs,r,rfl,_⟩:=h
   rfl
 . obtain ⟨p,t,m,ps,rs,r,rfl,W,k,e⟩:=h;have g:=W.go;have m24:=g.m24;refine ⟨_,(ak (aw (i:=2) tP.nd rfl (Or.inl xC.l) (ar G_ahead (hr.mono (by decide)) zu.g j2.m j2.F.kp j2.b .nil hZ (ag (pvl 0 Cb) (ag (pvl 1 Gz) aj)) (hdb:=zu.d))) (ak (aw (i:=3) tP.nd rfl (Or.inl qH.l) (bj aj)) (ak (aw (i:=4) tP.nd rfl (Or.inl lh.l) (bj (ag (pvl 1 Gz) aj))) (ak (nQ PassesOwn.leaving (q8 (pvl 4 lh) (fun _=>rfl)) (ak (aw (i:=5) tP.nd rfl (Or.inl mT.l) (Jj PySem.F.plainAttrs_list PySem.F.slot_list_pop PySem.F.type_list_pop IB (pvl 4 lh))) (ak (dG (pj PySem.F.plainAttrs_list PySem.F.slot_list_append PySem.F.type_list_append ga (pvl 3 qH) (ag (pvl 5 mT) aj))) (aq (eS PassesOwn.leaving rfl (DV Dr.g T.reversed (ar G_kids (hr.mono (by decide)) AQ.g lB.m lB.F.kp lB.b .nil hZ (ag (pvl 0 Cb) (ag (pvl 5 mT) (ag (az aI (pvl 2 xC) (pvl 5 mT) (fun _ _=>rfl)) aj))) (hdb:=AQ.d))) (aB (i:=6) tP.nd rfl (Or.inl Ct.l)) (aq (dG (pj PySem.F.plainAttrs_list PySem.F.slot_list_append PySem.F.type_list_append ga (pvl 4 lh) (ag (pvl 6 Ct) aj))))))))) (aq (aF (pvl 3 qH))))))),?_⟩;rw [show L2.start ["web","r","nearer","places","waiting","place","kid"] [V.ref p,V.int r]=[some (V.ref p),some (V.int r),none,none,none,none,none] from rfl];walk_at "rd";refine ⟨p,t,m,ps,rs,r,rfl,W,fun r0 r1=>?_,e⟩;obtain ⟨par,dep,R,k⟩:=k r0 r1;refine ⟨par,dep,R,fun l1 H1 n1 s1 e1=>⟨by decide,fun l3 n3=>⟨aE (by simp),fun l4 n4=>?_⟩⟩⟩;have n30:H l3=none:=s1.free n3;have s3:=s1.trans (Same.new (.lst []) n3);have n40:H l4=none:=s3.free n4;have n13:l1≠l3:=fun z=>by rw [<- z,e1] at n3;cases n3
   have n34:l3≠l4:=fun z=>by rw [<- z,ah] at n4;cases n4
   have e13:=Same.new (.lst []) n3 _ _ e1;have n14:l1≠l4:=fun z=>by rw [<- z,e13] at n4;cases n4
   have s4:=s3.trans (Same.new (.lst [V.int r]) n4);have e14:=Same.new (.lst [V.int r]) n4 _ _ e13;have e34:upd (upd H1 l3 (.lst [])) l4 (.lst [V.int r]) l3=some (.lst []):=by rw [ao n34,ah]
   have e44:upd (upd H1 l3 (.lst [])) l4 (.lst [V.int r]) l4=some (.lst [V.int r]):=ah;generalize upd (upd H1 l3 (.lst [])) l4 (.lst [V.int r])=H4 at s4 e14 e34 e44 ⊢;refine xB (fun n σ H5=>∃ (ks ws pl:List Int) (v5 v6:Option V),n=2*(m.toNat - ks.length)+ws.length/\σ=[some (.ref p),some (.int r),some (.ref l1),some (.ref l3),some (.ref l4),v5,v6]/\Same H H5/\H5 l1=some (.lst (qI m r par))/\H5 l3=some (.lst (pl.map V.int))/\H5 l4=some (.lst (ws.map V.int))/\AInv m rs r par ks ws/\(pl++ws).Perm (r::ks)/\pl++ws.reverse.flatMap (nV m rs r par dep)=nV m rs r par dep r) (2*m.toNat+1) ⟨[],[r],[],_,_,rfl,rfl,s4,e14,e34,e44,AInv.start,List.Perm.refl _,by simp⟩ ?_;rintro n σ H5 NW BB hBB hN hN2 ⟨ks,ws,pl,v5,v6,rfl,rfl,s5,h1,h3,h4,J,pe,ep⟩;refine hBB _ _ _ ?_;have rk:∀ w∈r::ks,0<=w/\w<m:=fun w hw=>by
     rcases List.mem_cons.mp hw with rfl|z
     . exact ⟨r0,r1⟩
     . exact J.rng w z
   have nk:(r::ks).Nodup:=List.nodup_cons.mpr ⟨J.nr,J.nd⟩;have kl:=dw (m:=m) (by omega) nk rk;have kl1:=dw (m:=m) (by omega) J.nd J.rng;have pl1:=pe.length_eq;rw [List.length_append] at pl1;rw [List.length_cons] at kl pl1;walk_at "rd";refine ⟨_,.inl ⟨_,SqL.of h4,rfl⟩,?_⟩;rcases List.eq_nil_or_concat ws with rfl|⟨ws',q,rfl⟩
   . rw [if_neg (by simp)];rw [List.reverse_nil,List.flatMap_nil,List.append_nil] at ep;rw [List.append_nil] at pe;subst ep;refine k l3 H5 n30 s5 h3 (pe.nodup_iff.mpr nk) fun v=>⟨fun z=>rk v (pe.mem_iff.mp z),fun z=>pe.mem_iff.mpr ?_⟩;by_cases c:v=r
     . rw [c];exact List.mem_cons_self
     . exact List.mem_cons_of_mem _ (J.all R v z.1 z.2 c)
   . rw [List.concat_eq_append] at J h4 hN hN2 pe ep pl1 ⊢;rw [if_pos (by simp)];have hq:q∈ws'++[q]:=List.mem_append_right _ (List.mem_singleton.mpr rfl);have pr:=J.at_ r0 r1 hq;have J2:=J.step g R r0 r1 (p:=q) (ws':=ws') (List.perm_append_singleton q ws');refine ⟨NW,fun σ' H' z=>?_,?_⟩
     . obtain ⟨m',lt,ks',ws'',pl',a5,a6,z1,z2⟩:=hN2 _ _ z;exact ⟨m',lt,ks',ws'',z1,pl',a5,a6,z2⟩
     rw [List.map_append,List.map_cons,List.map_nil] at h4;refine ⟨tyL h4,S5 h4 ?_⟩;have s6:Same H (upd H5 l4 (.lst (ws'.map V.int))):=s5.put n40 _;have h36:upd H5 l4 (.lst (ws'.map V.int)) l3=some (.lst (pl.map V.int)):=(by rw [ao n34];exact h3);have h16:upd H5 l4 (.lst (ws'.map V.int)) l1=some (.lst (qI m r par)):=(by rw [ao n14];exact h1);have h46:upd H5 l4 (.lst (ws'.map V.int)) l4=some (.lst (ws'.map V.int)):=ah;generalize upd H5 l4 (.lst (ws'.map V.int))=H6 at s6 h36 h16 h46 ⊢;refine ⟨tyL h36,wF h36 (cj (by rw [List.length_map];omega)) ?_⟩;have s7:Same H (upd H6 l3 (.lst (pl.map V.int++[V.int q]))):=s6.put n30 _;have h37:upd H6 l3 (.lst (pl.map V.int++[V.int q])) l3=some (.lst ((pl++[q]).map V.int)):=(by rw [ah,List.map_append];rfl);have h17:upd H6 l3 (.lst (pl.map V.int++[V.int q])) l1=some (.lst (qI m r par)):=(by rw [ao n13];exact h16);have h47:upd H6 l3 (.lst (pl.map V.int++[V.int q])) l4=some (.lst (ws'.map V.int)):=(by rw [ao n34.symm];exact h46);generalize upd H6 l3 (.lst (pl.map V.int++[V.int q]))=H7 at s7 h37 h17 h47 ⊢;refine ixL h17 (iW pr.1 (C2 pr.1 pr.2)) ?_;have hfv:Pb.front r par q=.non\/∃ i,Pb.front r par q=.int i:=by
       unfold Pb.front;by_cases c:q=r
       . rw [if_pos c];exact .inl rfl
       . rw [if_neg c];exact .inr ⟨_,rfl⟩
     have pq:=F9 g R pr.1 pr.2;refine ⟨p,t,m,ps,rs,q,_,rfl,W.same s7,pr.1,pr.2,hfv,fun l8 H8 n8 s8 e8=>⟨l8,rfl,_,SqL.of e8,?_⟩⟩;generalize cR m rs (Pb.front r par q) q=kk at e8 J2 pq ⊢;have n81:l1≠l8:=fun z=>by rw [<- z,h17] at n8;cases n8
     have n83:l3≠l8:=fun z=>by rw [<- z,h37] at n8;cases n8
     have n84:l4≠l8:=fun z=>by rw [<- z,h47] at n8;cases n8
     have kl2:=dw (m:=m) (by omega) J2.nd J2.rng;rw [List.length_append] at kl2;have wl2:=dw (m:=m) (by omega) J2.wnd fun w hw=>J2.at_ r0 r1 hw;rw [List.length_append] at wl2;refine DK (K:=K) (xs:=kk.map V.int) (fun i σ H9=>∃ v6,σ=[some (.ref p),some (.int r),some (.ref l1),some (.ref l3),some (.ref l4),some (.int q),v6]/\Same H H9/\H9 l8=some (.lst (kk.map V.int))/\H9 l1=some (.lst (qI m r par))/\H9 l3=some (.lst ((pl++[q]).map V.int))/\H9 l4=some (.lst ((ws'++kk.reverse.take i).map V.int))) ⟨_,rfl,s7.trans s8,e8,s8 _ _ h17,s8 _ _ h37,by rw [List.take_zero,List.append_nil];exact s8 _ _ h47⟩ (fun i σ H9 _ z=>by obtain ⟨_,_,_,z,_⟩:=z;exact SqL.of z) ?_ ?_
     . rintro i x σ H9 NI hI hi ⟨v6,rfl,s9,e9,h19,h39,h49⟩;rw [<- List.map_reverse,List.getElem?_map] at hi;obtain ⟨v,hv,rfl⟩:=Option.map_eq_some_iff.mp hi;have et:kk.reverse.take (i+1)=kk.reverse.take i++[v]:=(by rw [List.take_succ,hv];rfl);have wlen:(ws'++kk.reverse.take i).length<=100:=by
         rw [List.length_append,List.length_take,List.length_reverse];omega
       walk_at "rd";refine ⟨tyL h49,wF h49 (cj (by rw [List.length_map];omega)) (hI _ _ ⟨_,rfl,s9.put n40 _,?_,?_,?_,?_⟩)⟩
       . rw [ao n84.symm];exact e9
       . rw [ao n14];exact h19
       . rw [ao n34];exact h39
       . rw [ah,et,<- List.append_assoc,List.map_append (l₁:=ws'++kk.reverse.take i)];rfl
     . rintro σ H9 ⟨v6,rfl,s9,e9,h19,h39,h49⟩;rw [List.length_map,show kk.length=kk.reverse.length by rw [List.length_reverse],List.take_length] at h49;refine hN _ _ _ ?_ ⟨ks++kk,ws'++kk.reverse,pl++[q],_,_,rfl,rfl,s9,h19,h39,h49,J2.perm (List.Perm.append_left _ kk.reverse_perm.symm),?_,?_⟩
       . rw [List.length_append,List.length_append,List.length_append,List.length_reverse];simp only [List.length_cons,List.length_nil];omega
       . have p1:(pl++[q]++(ws'++kk.reverse)).Perm (pl++(ws'++[q])++kk):=by
           rw [List.append_assoc,List.append_assoc];refine List.Perm.append_left _ ?_;rw [<- List.append_assoc];exact List.Perm.append (List.perm_append_comm) kk.reverse_perm
         exact p1.trans (List.Perm.append_right _ pe)
       . rw [<- ep,List.reverse_append,List.reverse_append,List.reverse_reverse,List.reverse_singleton,List.singleton_append,List.flatMap_cons,pq,List.flatMap_append];simp
/-- the places of a row with the ones ahead of them,from its end -/
def ON (par:Int->Int) (v:Int):List V:=[.int v,.int (par v)]
abbrev PairsAt (H:Hp) (par:Int->Int):List Addr->List Int->Prop:=Paired fun q v=>H q=some (.tup (ON par v))
theorem PairsAt.same {H H':Hp} {par:Int->Int} {qs:List Addr} {vs:List Int} (e:Same H H') (h:PairsAt H par qs vs):PairsAt H' par qs vs:=Paired.imp' (fun q v x=>e q _ x) h
theorem PairsAt.get {H:Hp} {par:Int->Int}:∀ {ps:List Addr} {rs:List Int} {i:Nat} {x:V},PairsAt H par ps rs->(ps.map V.ref)[i]?=some x->∃ p r,x=.ref p/\ps[i]?=some p/\rs[i]?=some r/\H p=some (.tup (ON par r))
 | _,_,i,x,.nil,e=>by simp at e
 | _,_,0,x,.cons (a:=p) (b:=r) h hs,e=>⟨p,r,by simpa using e.symm,by simp,by simp,h⟩
 | a::l1,_,i+1,x,.cons h hs,e=>by
   have e':(List.map V.ref l1)[i]?=some x:=by simpa using e
   obtain ⟨p,r,h1,h2,h3,h4⟩:=PairsAt.get hs e';exact ⟨p,r,h1,by simpa using h2,by simpa using h3,h4⟩
theorem PairsAt.snoc {H:Hp} {par:Int->Int} {q:Addr} {v:Int} (e:H q=some (.tup (ON par v))):∀ {qs:List Addr} {vs:List Int},PairsAt H par qs vs->PairsAt H par (qs++[q]) (vs++[v])
 | _,_,.nil=>.cons e .nil
 | _,_,.cons x xs=>.cons x (PairsAt.snoc e xs)
def Bg (T:Txt K mg):Sp:=fun vs H Q E=>∃ (p t:Addr) (m:Int) (ps:List Addr) (rs:List Road) (r:Int),vs=[.ref p,.int r]/\WebAt T.Web H p m t ps rs /\
 (0<=r->r<m->∃ par dep,Rooted m rs r par dep/\∀ l qs tl H',nV m rs r par dep r=r::tl->H l=none->Same H H'->H' l=some (.lst (qs.map V.ref))->PairsAt H' par qs tl.reverse->Order m r par tl->Q (.ref l) H')/\(¬ (0<=r/\r<m)->E (.ref T.NoPlace) none H)
abbrev dJ:Stmt:=top 30
theorem Ga:FnScope ["web","r","nearer"] ["web","r"] (aa dJ):=FnScope.of (by kernel_rfl)
theorem zO:NmL (aa dJ) "web":=.of (by kernel_rfl)
theorem Cr:NmC (aa dJ) "r":=.of (by kernel_rfl)
theorem Dh:NmC (aa dJ) "nearer":=.of (by kernel_rfl)
theorem vJ:NmG (aa dJ) "ahead":=.of (by kernel_rfl)
theorem AI:NmG (aa dJ) "reversed":=.of (by kernel_rfl)
theorem xN:NmG (aa dJ) "down":=.of (by kernel_rfl)
theorem Py (T:Txt K mg) (hq:aP (CXe P w)) {f:Addr} {fd:FuncData} (D:Df K mg "inward" dJ ["web","r"] f fd) {kI:Addr} {uB:FuncData} (j2:Df K mg "ahead" dS ["web","r"] kI uB) (G_ahead:FnOk P w K mg base (CXe P w) 5 kI uB ["web","r"] (CZ T)) {uW:Addr} {Mt:FuncData} (xV:Df K mg "down" fy ["web","r"] uW Mt) (G_down:FnOk P w K mg base (CXe P w) 6 uW Mt ["web","r"] (MK T)):FnOk P w K mg base (CXe P w) 7 f fd ["web","r"] (Bg T):=by
 refine D.F.okX Ga (fun vs H Q E h=>?_) (fun cdv A outer s H vs Q E hr h=>?_)
 . obtain ⟨p,t,m,ps,rs,r,rfl,_⟩:=h
   rfl
 . obtain ⟨p,t,m,ps,rs,r,rfl,W,k,e⟩:=h;have g:=W.go;have m24:=g.m24;refine ⟨_,(ak (aw (i:=2) Ga.nd rfl (Or.inr Dh.l) (ar G_ahead (hr.mono (by decide)) vJ.g j2.m j2.F.kp j2.b .nil hZ (ag (pvl 0 zO) (ag (pvc 1 Cr) aj)) (hdb:=vJ.d))) (aq (aF (fM rfl (gI (Nc:=["place","nearer","r"]) 1 [2,1] (by decide +kernel) rfl (by decide +kernel) rfl (by show ∀ (y:Str × NameKind),y∈_->y.2=NameKind.free->(aa dJ).names.lookup y.1=some NameKind.cell;decide +kernel) rfl (fun _ h=>dL h) (fun i hi=>match i,hi with|0,_=>⟨"nearer",2,rfl,rfl,rfl,by decide +kernel⟩|1,_=>⟨"r",1,rfl,rfl,rfl,by decide +kernel⟩|i+2,hi=>absurd hi (by show ¬ i+2<2;omega))) (DV AI.g T.reversed (ar G_down (hr.mono (by decide)) xN.g xV.m xV.F.kp xV.b .nil hZ (ag (pvl 0 zO) (ag (pvc 1 Cr) aj)) (hdb:=xN.d))) (fun _ _ _ _=>(aB (i:=0) (show (["place","nearer","r"]:List Str).Nodup from by decide +kernel) rfl (Or.inl rfl))) (fun _ _ _ _=>(BE (aM pA (pv 0) (pv 2) (aL _)))) (fun _ _ _ _=>(bW (ag (pv 0) (ag (az (Sv K rfl) (pv 1) (pv 0) (fun _ _=>rfl)) aj)))))))),?_⟩;rw [show L2.start ["web","r","nearer"] [V.ref p,V.int r]=[some (V.ref p),some (V.int r),none] from rfl];walk_at "rd";refine ex6 p t m ps rs r ?_;refine an4 rfl W (fun r0 r1=>?_) e;obtain ⟨par,dep,R,k⟩:=k r0 r1;refine ⟨par,dep,R,fun l1 H1 n1 s1 e1=>?_⟩;refine ex6 p t m ps rs r ?_;refine an4 rfl (W.same s1) (fun _ _=>⟨par,dep,R,fun l2 H2 n2 s2 e2 nd al=>?_⟩) (fun z=>absurd ⟨r0,r1⟩ z);obtain ⟨tl,et,O⟩:=NQ g R r0 r1 nd al;have ll:=Ti g R r0 r1;rw [et] at e2 ll;rw [List.length_cons] at ll;refine ⟨l2,rfl,_,SqL.of e2,fun pc npc=>?_⟩;have e12:=s2 _ _ e1;have s12:=s1.trans s2;have npc0:=s12.free npc;refine Rj (K:=K) (xs:=(r::tl).map V.int) (fun i zs σ H3=>Same H2 H3/\H3 pc=some (.lst zs)/\(∃ qs:List Addr,zs=qs.map V.ref/\PairsAt H3 par qs (tl.reverse.take i))/\∃ v,σ=[v,some (V.ref l1),some (V.int r)]) ⟨Same.new _ npc,ah,⟨[],rfl,.nil⟩,_,rfl⟩ (fun i zs σ H3 _ z=>SqL.of (z.1 _ _ e2)) ?_ ?_
   . rintro i x zs σ H3 N hN hx ⟨s3,e3,⟨qs,rfl,pa⟩,v,rfl⟩;rw [<- List.map_reverse,List.reverse_cons,List.getElem?_map] at hx;obtain ⟨y,gy,rfl⟩:=Option.map_eq_some_iff.mp hx;have il:=(List.getElem?_eq_some_iff.mp gy).1;rw [List.length_append,List.length_reverse] at il;have ql:qs.length=(tl.reverse.take i).length:=Paired.length pa;rw [List.length_take,List.length_reverse] at ql;walk_at "rd";by_cases c:i<tl.length
     . rw [List.getElem?_append_left (by rw [List.length_reverse];exact c)] at gy;have ym:y∈tl:=List.mem_reverse.mp (List.mem_of_getElem? gy);have yr:=O.rng y ym;rw [if_pos (O.ne ym)];have gp:atI (qI m r par) y=some (V.int (par y)):=by
         have ef:Pb.front r par y=V.int (par y):=(by unfold Pb.front;rw [if_neg (O.ne ym)]);rw [<- ef];exact iW yr.1 (C2 yr.1 yr.2)
       refine ixL (s3 _ _ e12) gp ⟨aE (by simp),fun q nq=>?_⟩;have s4:=Same.new (.tup [V.int y,V.int (par y)]) nq;have nqp:q≠pc:=fun z=>by rw [z,e3] at nq;cases nq
       refine ⟨s4 _ _ e3,cj (by rw [List.length_map];omega),hN _ _ _ ⟨(s3.trans s4).put npc _,ah,⟨qs++[q],by rw [List.map_append];rfl,?_⟩,_,rfl⟩⟩;rw [List.take_succ,gy];refine PairsAt.snoc (by rw [ao nqp,ah];rfl) ?_;exact Paired.imp' (fun a b h=>by
         rw [ao (gv h e3 (by intro z;cases z)),ao (aG h nq)];exact h) pa
     . have ei:i=tl.reverse.length:=(by rw [List.length_reverse];simp at il;omega);rw [ei,List.getElem?_append_right (Nat.le_refl _),Nat.sub_self] at gy;cases gy;rw [if_neg (fun z=>z rfl)];refine hN _ _ _ ⟨s3,e3,⟨qs,rfl,?_⟩,_,rfl⟩;rw [List.take_of_length_le (by omega)] at pa ⊢;exact pa
   . rintro zs σ H3 ⟨s3,e3,⟨qs,rfl,pa⟩,v,rfl⟩;rw [List.take_of_length_le (by rw [List.length_map,List.length_reverse,List.length_cons];omega)] at pa;exact k pc qs tl H3 et npc0 (s12.trans s3) e3 pa O
def xL (T:Txt K mg):Sp:=fun vs H Q E=>∃ (p t:Addr) (m:Int) (ps:List Addr) (rs:List Road) (a b:Int),vs=[.ref p,.int a,.int b]/\WebAt T.Web H p m t ps rs /\
 (∀ k,0<=a->a<m->0<=b->b<m->cQ rs a b=some k->Q (.int k) H)/\(¬ ((0<=a/\a<m)/\(0<=b/\b<m))->E (.ref T.NoPlace) none H)/\(0<=a->a<m->0<=b->b<m->cQ rs a b=none->E (.ref T.NoRoad) none H)
abbrev eh:Stmt:=top 17
theorem xa:FnScope ["web","a","b","one","other","there","back"] ["web","a","b"] (aa eh):=FnScope.of (by kernel_rfl)
theorem wq:NmL (aa eh) "web":=.of (by kernel_rfl)
theorem Aj:NmL (aa eh) "a":=.of (by kernel_rfl)
theorem AD:NmL (aa eh) "b":=.of (by kernel_rfl)
theorem wG:NmL (aa eh) "one":=.of (by kernel_rfl)
theorem sE:NmL (aa eh) "other":=.of (by kernel_rfl)
theorem zN:NmL (aa eh) "there":=.of (by kernel_rfl)
theorem Ar:NmL (aa eh) "back":=.of (by kernel_rfl)
theorem iP:NmG (aa eh) "check_place":=.of (by kernel_rfl)
theorem xJ:NmG (aa eh) "NoRoad":=.of (by kernel_rfl)
theorem VA (T:Txt K mg) (hq:aP (CXe P w)) {f:Addr} {fd:FuncData} (D:Df K mg "toll" eh ["web","a","b"] f fd) {ci:Addr} {eu:FuncData} (aV:Df K mg "check_place" bO ["web","number"] ci eu) (G_check_place:FnOk P w K mg base (CXe P w) 2 ci eu ["web","number"] (l7 T)):FnOk P w K mg base (CXe P w) 3 f fd ["web","a","b"] (xL T):=by
 refine D.F.okX xa (fun vs H Q E h=>?_) (fun cdv A outer s H vs Q E hr h=>?_)
 . obtain ⟨p,t,m,ps,rs,a,b,rfl,_⟩:=h
   rfl
 . obtain ⟨p,t,m,ps,rs,a,b,rfl,W,k,e1,e2⟩:=h;obtain ⟨dx,ob⟩:=W.ob;refine ⟨_,(ak (dG (ar G_check_place (hr.mono (by decide)) iP.g aV.m aV.F.kp aV.b .nil hZ (ag (pvl 0 wq) (ag (pvl 1 Aj) aj)) (hdb:=iP.d))) (ak (dG (ar G_check_place (hr.mono (by decide)) iP.g aV.m aV.F.kp aV.b .nil hZ (ag (pvl 0 wq) (ag (pvl 2 AD) aj)) (hdb:=iP.d))) (ak (eS PassesOwn.leaving rfl (Ap (ki  (pvl 0 wq) rfl)) (kr (n:=4) rfl (aU (aB (i:=3) xa.nd rfl (Or.inl wG.l)) (aU (aB (i:=4) xa.nd rfl (Or.inl sE.l)) (aU (aB (i:=5) xa.nd rfl (Or.inl zN.l)) (aU (aB (i:=6) xa.nd rfl (Or.inl Ar.l)) iT))))) (ak (bA (PW.pt (D5 (aM dv (pvl 3 wG) (pvl 1 Aj) (aL _)) (BJ (aM dv (pvl 4 sE) (pvl 2 AD) (aL _))))) (aq (aF (pvl 5 zN))) aO) (aq (bA (PW.pt (D5 (aM dv (pvl 3 wG) (pvl 2 AD) (aL _)) (BJ (aM dv (pvl 4 sE) (pvl 1 Aj) (aL _))))) (aq (aF (pvl 6 Ar))) aO)))) (aq (IJ T.Sa rfl MF xJ.g T.TD (ag PY aj) (hdb:=xJ.d)))))),?_⟩;rw [show L2.start ["web","a","b","one","other","there","back"] [V.ref p,V.int a,V.int b]=[some (V.ref p),some (V.int a),some (V.int b),none,none,none,none] from rfl];walk_at "rd";refine ⟨p,t,m,ps,rs,a,rfl,W,fun a0 a1=>?_,fun z=>e1 fun w=>z w.1⟩;refine ⟨p,t,m,ps,rs,b,rfl,W,fun b0 b1=>?_,fun z=>e1 fun w=>z w.2⟩;refine ⟨T.Web,dx,_,ob,T.ja,T.n_roads,_,CF m t,t,rfl,⟨_,SqT.of W.tu⟩,?_⟩;have hlen:ps.length=rs.length:=Paired.length W.ro;refine Ks (K:=K) (xs:=ps.map V.ref) (fun i σ H2=>H2=H/\cQ (rs.take i) a b=none/\∃ v1 v2 v3 v4,σ=[some (V.ref p),some (V.int a),some (V.int b),v1,v2,v3,v4]) ⟨rfl,rfl,_,_,_,_,rfl⟩ (fun i σ H2 _ z=>by rw [z.1];exact SqT.of W.tu) ?_ ?_
   . rintro i x σ H2 N hN hx ⟨rfl,hno,v1,v2,v3,v4,rfl⟩;obtain ⟨q,r,rfl,h1,h2,h3⟩:=W.ro.get hx;have et:rs.take (i+1)=rs.take i++[r]:=(by rw [List.take_succ,h2];rfl);have split:cQ rs a b=(cQ (rs.take i) a b).or ((gA a b r).or (cQ (rs.drop (i+1)) a b)):=by
       have:rs=rs.take i++r::rs.drop (i+1):=by
         have hil:i<rs.length:=(List.getElem?_eq_some_iff.mp h2).1;have e:rs[i]=r:=(by rw [List.getElem?_eq_getElem hil] at h2;exact Option.some.inj h2);rw [<- e,List.getElem_cons_drop,List.take_append_drop]
       conv=>lhs;rw [this]
       unfold cQ;rw [List.findSome?_append,List.findSome?_cons];cases gA a b r <;> rfl
     rw [hno,Option.none_or] at split;walk_at "rd";refine ⟨_,SqT.of h3,rfl,_,_,rfl,_,_,rfl,_,_,rfl,_,_,rfl,rfl,?_⟩;walk_at "rd";have next:gA a b r=none->N [some (V.ref p),some (V.int a),some (V.int b),some (V.int r.a),some (V.int r.b),some (V.int r.t),some (V.int r.u)] H2:=fun z=>hN _ _ ⟨rfl,by
       rw [et];unfold cQ at hno ⊢;rw [List.findSome?_append,hno,List.findSome?_cons,z]
       rfl,_,_,_,_,rfl⟩
     have got:∀ v,gA a b r=some v->cQ rs a b=some v:=fun v z=>by rw [split,z];rfl
     unfold gA at next got;split
     . rename_i c1
       split
       . rename_i c2
         exact k _ a0 a1 b0 b1 (got _ (by rw [if_pos ⟨c1,c2⟩]))
       . rename_i c2
         split
         . rename_i c3
           split
           . rename_i c4
             exact k _ a0 a1 b0 b1 (got _ (by rw [if_neg (fun z=>c2 z.2),if_pos ⟨c3,c4⟩]))
           . rename_i c4
             exact next (by rw [if_neg (fun z=>c2 z.2),if_neg (fun z=>c4 z.2)])
         . rename_i c3
           exact next (by rw [if_neg (fun z=>c2 z.2),if_neg (fun z=>c3 z.1)])
     . rename_i c1
       split
       . rename_i c3
         split
         . rename_i c4
           exact k _ a0 a1 b0 b1 (got _ (by rw [if_neg (fun z=>c1 z.1),if_pos ⟨c3,c4⟩]))
         . rename_i c4
           exact next (by rw [if_neg (fun z=>c1 z.1),if_neg (fun z=>c4 z.2)])
       . rename_i c3
         exact next (by rw [if_neg (fun z=>c1 z.1),if_neg (fun z=>c3 z.1)])
   . rintro σ H2 ⟨rfl,hno,v1,v2,v3,v4,rfl⟩;rw [List.length_map,hlen,List.take_length] at hno;walk_at "rd";exact ⟨by decide,e2 a0 a1 b0 b1 hno⟩
def AU (T:Txt K mg):Sp:=fun vs H Q E=>∃ (p t:Addr) (m:Int) (ps:List Addr) (rs:List Road) (r:Int),vs=[.ref p,.int r]/\WebAt T.Web H p m t ps rs /\
 (0<=r->r<m->∃ par dep,Rooted m rs r par dep/\∀ l H',H l=none->Same H H'->H' l=some (.lst (((below m.toNat).map (prc rs par dep true)).map V.int))->Q (.ref l) H')/\(¬ (0<=r/\r<m)->∀ H',Same H H'->E (.ref T.NoPlace) none H')
abbrev ce:Stmt:=top 37
theorem oG:FnScope ["web","v","prices","place","front"] ["web","v"] (aa ce):=FnScope.of (by kernel_rfl)
theorem nP:NmL (aa ce) "web":=.of (by kernel_rfl)
theorem Fd:NmL (aa ce) "v":=.of (by kernel_rfl)
theorem iL:NmL (aa ce) "prices":=.of (by kernel_rfl)
theorem lF:NmL (aa ce) "place":=.of (by kernel_rfl)
theorem lr:NmL (aa ce) "front":=.of (by kernel_rfl)
theorem ya:NmG (aa ce) "reversed":=.of (by kernel_rfl)
theorem pS:NmG (aa ce) "inward":=.of (by kernel_rfl)
theorem sT:NmG (aa ce) "toll":=.of (by kernel_rfl)
theorem J6 (T:Txt K mg) (hq:aP (CXe P w)) {f:Addr} {fd:FuncData} (D:Df K mg "prices_to" ce ["web","v"] f fd) {jE:Addr} {rD:FuncData} (iI:Df K mg "inward" dJ ["web","r"] jE rD) (G_inward:FnOk P w K mg base (CXe P w) 7 jE rD ["web","r"] (Bg T)) {gS:Addr} {jT:FuncData} (cK:Df K mg "toll" eh ["web","a","b"] gS jT) (G_toll:FnOk P w K mg base (CXe P w) 3 gS jT ["web","a","b"] (xL T)):FnOk P w K mg base (CXe P w) 8 f fd ["web","v"] (AU T):=by
 refine D.F.okX oG (fun vs H Q E h=>?_) (fun cdv A outer s H vs Q E hr h=>?_)
 . obtain ⟨p,t,m,ps,rs,r,rfl,_⟩:=h
   rfl
 . obtain ⟨p,t,m,ps,rs,r,rfl,W,k,e⟩:=h;have g:=W.go;have m1:=g.m1;have m24:=g.m24;obtain ⟨dx,ob⟩:=W.ob;refine ⟨_,(ak (aw (i:=2) oG.nd rfl (Or.inl iL.l) (av uI (bj (ag am aj)) (ki  (pvl 0 nP) rfl))) (ak (eS PassesOwn.leaving rfl (DV ya.g T.reversed (ar G_inward (hr.mono (by decide)) pS.g iI.m iI.F.kp iI.b .nil hZ (ag (pvl 0 nP) (ag (pvl 1 Fd) aj)) (hdb:=pS.d))) (kr (n:=2) rfl (aU (aB (i:=3) oG.nd rfl (Or.inl lF.l)) (aU (aB (i:=4) oG.nd rfl (Or.inl lr.l)) iT))) (aq (gZ (av oE (az aI (pvl 2 iL) (pvl 4 lr) (fun _ _=>rfl)) (ar G_toll (hr.mono (by decide)) sT.g cK.m cK.F.kp cK.b .nil hZ (ag (pvl 0 nP) (ag (pvl 3 lF) (ag (pvl 4 lr) aj))) (hdb:=sT.d))) (kq (pvl 2 iL) (pvl 3 lF) gL)))) (aq (aF (pvl 2 iL))))),?_⟩;rw [show L2.start ["web","v","prices","place","front"] [V.ref p,V.int r]=[some (V.ref p),some (V.int r),none,none,none] from rfl];walk_at "rd";refine ⟨aE (by simp),fun l0 n0=>?_⟩;have s1:=Same.new (.lst [V.int 1]) n0;refine ⟨T.Web,dx,_,s1 _ _ ob,T.ja,T.n_many,_,hW m t,?_⟩;refine ⟨l0,m,_,rfl,rfl,ah,by omega,by omega,aE (by simp;omega),fun l n1=>?_⟩;rw [Ul];have s2:=s1.trans (Same.new (.lst (List.replicate m.toNat (V.int 1))) n1);have nl:=s1.free n1;have e1:upd (upd H l0 (.lst [V.int 1])) l (.lst (List.replicate m.toNat (V.int 1))) l=some (.lst ((List.replicate m.toNat (1:Int)).map V.int)):=by rw [ah,List.map_replicate]
   generalize upd (upd H l0 (.lst [V.int 1])) l (.lst (List.replicate m.toNat (V.int 1)))=H1 at s2 e1 ⊢;refine ex6 p t m ps rs r ?_;refine an4 rfl (W.same s2) (fun r0 r1=>?_) (fun z=>e z _ s2);obtain ⟨par,dep,R,k⟩:=k r0 r1;refine ⟨par,dep,R,fun l2 qs tl H4 et n2 s4 e4 pa O=>?_⟩;have nll:l2≠l:=fun z=>by rw [z,e1] at n2;cases n2
   have ql:qs.length=tl.reverse.length:=Paired.length pa;rw [List.length_reverse] at ql;have st:Pso m rs r par dep true [] (List.replicate m.toNat (1:Int)):=⟨by rw [List.length_replicate];omega,fun u hu=>by
     rw [List.mem_singleton.mp hu,DA R,List.getD,List.getElem?_replicate,if_pos (by omega)]
     rfl⟩
   refine ⟨l2,rfl,_,SqL.of e4,?_⟩;refine DK (K:=K) (xs:=qs.map V.ref) (fun i σ H5=>Same H H5/\H5 l2=some (.lst (qs.map V.ref))/\PairsAt H5 par qs tl.reverse/\∃ (cs:List Int) (v5 v6:Option V),H5 l=some (.lst (cs.map V.int))/\Pso m rs r par dep true (tl.take i) cs/\σ=[some (V.ref p),some (V.int r),some (V.ref l),v5,v6]) ⟨s2.trans s4,e4,pa,_,_,_,s4 _ _ e1,by rw [List.take_zero];exact st,rfl⟩ (fun i σ H5 _ z=>SqL.of z.2.1) ?_ ?_
   . rintro i x σ H5 N hN hx ⟨s5,e5,pa5,cs,v5,v6,c5,S,rfl⟩;have il:=(List.getElem?_eq_some_iff.mp hx).1;rw [List.length_reverse,List.length_map] at il;rw [List.getElem?_reverse (by rw [List.length_map];exact il),List.length_map] at hx;obtain ⟨q,v,rfl,hq',hv,eq⟩:=pa5.get hx;rw [List.getElem?_reverse (by omega),show tl.length - 1 - (qs.length - 1 - i)=i by omega] at hv;have vm:=List.mem_of_getElem? hv;have vr:=O.rng v vm;have vn:=O.ne vm;have u:=R.up v vr.1 vr.2 vn;obtain ⟨kk,hk,k0,k1⟩:=kb g u.2.1;have ek:tlf rs par true v=kk:=(by unfold tlf jc;rw [if_pos rfl,hk];rfl);have sl:=S.len;walk_at "rd";refine ⟨_,SqT.of eq,rfl,_,_,rfl,_,_,rfl,rfl,?_⟩;refine ixL c5 (atG u.1.1 (by omega)) ⟨p,t,m,ps,rs,v,par v,rfl,W.same s5,fun k' _ _ _ _ h=>?_,fun z=>absurd ⟨vr,u.1⟩ z,fun _ _ _ _ z=>by rw [hk] at z;cases z⟩;rw [hk] at h;cases h;exact ⟨_,rfl,_,rfl,.inr ⟨by omega,by omega⟩,Wt c5 vr.1 (by rw [List.length_map];omega) (hN _ _ ⟨s5.put nl _,by rw [ao nll];exact e5,Paired.imp' (fun a b h=>by rw [ao (gv h c5 (by intro z;cases z))];exact h) pa5,_,_,_,by rw [ah,<- List.map_set],S.step R O r0 hv (by rw [ek]),rfl⟩)⟩
   . rintro σ H5 ⟨s5,e5,pa5,cs,v5,v6,c5,S,rfl⟩;rw [List.length_map,ql,List.take_length] at S;walk_at "rd";rw [S.done g O] at c5;exact k l H5 nl s5 c5
def Iu (T:Txt K mg):Sp:=fun vs H Q E=>∃ (p a t:Addr) (c:Bool) (m:Int) (ps qs:List Addr) (rs:List Road) (fs:List (Int × Int)) (r:Int),vs=[.ref p,.ref a,.int r]/\WebAt T.Web H p m t ps rs/\AtX c H a (qs.map V.ref)/\FrsAt H qs fs/\(∀ f∈fs,FrB 400 f)/\(fs.length:Int)=m/\m<=6 /\
 (0<=r->r<m->∃ par dep,Rooted m rs r par dep/\∀ (x y:Int) (l:Addr) (H':Hp),0<y->x.gcd y=1->x.natAbs<2^3950->y.natAbs<2^3950->(x:Rat) / y=eB (fs.zip ((below m.toNat).map (prc rs par dep true))) (fun z=>(z.1.1:Rat) / z.1.2 / z.2)->H l=none->Same H H'->H' l=some (.tup [.int x,.int y])->Q (.ref l) H')/\(¬ (0<=r/\r<m)->∀ H',Same H H'->E (.ref T.NoPlace) none H')
abbrev ir:Stmt:=top 34
theorem Ta:FnScope ["web","shares","v"] ["web","shares","v"] (aa ir):=FnScope.of (by kernel_rfl)
theorem JL:NmL (aa ir) "web":=.of (by kernel_rfl)
theorem Eu:NmL (aa ir) "shares":=.of (by kernel_rfl)
theorem OF:NmL (aa ir) "v":=.of (by kernel_rfl)
theorem pW:NmG (aa ir) "divided_up":=.of (by kernel_rfl)
theorem rj:NmG (aa ir) "prices_to":=.of (by kernel_rfl)
theorem Q4 (T:Txt K mg) (hq:aP (CXe P w)) {f:Addr} {fd:FuncData} (D:Df K mg "worth" ir ["web","shares","v"] f fd) {dX:Addr} {kz:FuncData} (dA:Df K mg "divided_up" cI ["shares","prices"] dX kz) (G_divided_up:FnOk P w K mg base (CXe P w) 4 dX kz ["shares","prices"] (rQ T)) {jF:Addr} {Bk:FuncData} (kJ:Df K mg "prices_to" ce ["web","v"] jF Bk) (G_prices_to:FnOk P w K mg base (CXe P w) 8 jF Bk ["web","v"] (AU T)):FnOk P w K mg base (CXe P w) 9 f fd ["web","shares","v"] (Iu T):=by
 refine D.F.okX Ta (fun vs H Q E h=>?_) (fun cdv A outer s H vs Q E hr h=>?_)
 . obtain ⟨p,a,t,c,m,ps,qs,rs,fs,r,rfl,_⟩:=h
   rfl
 . obtain ⟨p,a,t,c,m,ps,qs,rs,fs,r,rfl,W,ha,hq1,fb,fl,m8,k,e⟩:=h;have g:=W.go;refine ⟨_,(aq (aF (ar G_divided_up (hr.mono (by decide)) pW.g dA.m dA.F.kp dA.b .nil hZ (ag (pvl 1 Eu) (ag (ar G_prices_to (hr.mono (by decide)) rj.g kJ.m kJ.F.kp kJ.b .nil hZ (ag (pvl 0 JL) (ag (pvl 2 OF) aj)) (hdb:=rj.d)) aj)) (hdb:=pW.d)))),?_⟩;rw [show L2.start ["web","shares","v"] [V.ref p,V.ref a,V.int r]=[some (V.ref p),some (V.ref a),some (V.int r)] from rfl];walk_at "rd";refine ⟨p,t,m,ps,rs,r,rfl,W,fun r0 r1=>?_,fun z H' s'=>e z H' s'⟩;obtain ⟨par,dep,R,k⟩:=k r0 r1;refine ⟨par,dep,R,fun l H1 nl s1 el=>?_⟩;refine ⟨a,l,c,qs,fs,_,rfl,s1 _ _ ha,Paired.imp' (fun q v x=>s1 q _ x) hq1,fb,el,by rw [List.length_map,bo];omega,by omega,?_,fun x y b H2 y0 xy xb yb su nb s2 eb=>k x y b H2 y0 xy xb yb su (s1.free nb) (s1.trans s2) eb⟩;intro x hx;obtain ⟨v,hv,rfl⟩:=List.mem_map.mp hx;obtain ⟨v0,v1⟩:=gg.mp hv;obtain ⟨b0,b1⟩:=yY (to:=true) g R _ rfl v0 (show v<m by omega);have dl:=Bw R v0 (show v<m by omega);exact ⟨b0,Nat.lt_of_lt_of_le b1 (Nat.pow_le_pow_right (by decide) (by omega))⟩
def xX (T:Txt K mg):Sp:=fun vs H Q E=>∃ (p t:Addr) (m:Int) (ps:List Addr) (rs:List Road) (r:Int),vs=[.ref p,.int r]/\WebAt T.Web H p m t ps rs /\
 (0<=r->r<m->∃ par dep,Rooted m rs r par dep/\∀ l H',H l=none->Same H H'->H' l=some (.lst (((below m.toNat).map (prc rs par dep false)).map V.int))->Q (.ref l) H')/\(¬ (0<=r/\r<m)->∀ H',Same H H'->E (.ref T.NoPlace) none H')
abbrev bu:Stmt:=top 38
theorem lY:FnScope ["web","u","prices","place","front"] ["web","u"] (aa bu):=FnScope.of (by kernel_rfl)
theorem ly:NmL (aa bu) "web":=.of (by kernel_rfl)
theorem Dp:NmL (aa bu) "u":=.of (by kernel_rfl)
theorem gm:NmL (aa bu) "prices":=.of (by kernel_rfl)
theorem j7:NmL (aa bu) "place":=.of (by kernel_rfl)
theorem kd:NmL (aa bu) "front":=.of (by kernel_rfl)
theorem vw:NmG (aa bu) "reversed":=.of (by kernel_rfl)
theorem og:NmG (aa bu) "inward":=.of (by kernel_rfl)
theorem pR:NmG (aa bu) "toll":=.of (by kernel_rfl)
theorem Fj (T:Txt K mg) (hq:aP (CXe P w)) {f:Addr} {fd:FuncData} (D:Df K mg "prices_from" bu ["web","u"] f fd) {jE:Addr} {rD:FuncData} (iI:Df K mg "inward" dJ ["web","r"] jE rD) (G_inward:FnOk P w K mg base (CXe P w) 7 jE rD ["web","r"] (Bg T)) {gS:Addr} {jT:FuncData} (cK:Df K mg "toll" eh ["web","a","b"] gS jT) (G_toll:FnOk P w K mg base (CXe P w) 3 gS jT ["web","a","b"] (xL T)):FnOk P w K mg base (CXe P w) 8 f fd ["web","u"] (xX T):=by
 refine D.F.okX lY (fun vs H Q E h=>?_) (fun cdv A outer s H vs Q E hr h=>?_)
 . obtain ⟨p,t,m,ps,rs,r,rfl,_⟩:=h
   rfl
 . obtain ⟨p,t,m,ps,rs,r,rfl,W,k,e⟩:=h;have g:=W.go;have m1:=g.m1;have m24:=g.m24;obtain ⟨dx,ob⟩:=W.ob;refine ⟨_,(ak (aw (i:=2) lY.nd rfl (Or.inl gm.l) (av uI (bj (ag am aj)) (ki  (pvl 0 ly) rfl))) (ak (eS PassesOwn.leaving rfl (DV vw.g T.reversed (ar G_inward (hr.mono (by decide)) og.g iI.m iI.F.kp iI.b .nil hZ (ag (pvl 0 ly) (ag (pvl 1 Dp) aj)) (hdb:=og.d))) (kr (n:=2) rfl (aU (aB (i:=3) lY.nd rfl (Or.inl j7.l)) (aU (aB (i:=4) lY.nd rfl (Or.inl kd.l)) iT))) (aq (gZ (av oE (az aI (pvl 2 gm) (pvl 4 kd) (fun _ _=>rfl)) (ar G_toll (hr.mono (by decide)) pR.g cK.m cK.F.kp cK.b .nil hZ (ag (pvl 0 ly) (ag (pvl 4 kd) (ag (pvl 3 j7) aj))) (hdb:=pR.d))) (kq (pvl 2 gm) (pvl 3 j7) gL)))) (aq (aF (pvl 2 gm))))),?_⟩;rw [show L2.start ["web","u","prices","place","front"] [V.ref p,V.int r]=[some (V.ref p),some (V.int r),none,none,none] from rfl];walk_at "rd";refine ⟨aE (by simp),fun l0 n0=>?_⟩;have s1:=Same.new (.lst [V.int 1]) n0;refine ⟨T.Web,dx,_,s1 _ _ ob,T.ja,T.n_many,_,hW m t,?_⟩;refine ⟨l0,m,_,rfl,rfl,ah,by omega,by omega,aE (by simp;omega),fun l n1=>?_⟩;rw [Ul];have s2:=s1.trans (Same.new (.lst (List.replicate m.toNat (V.int 1))) n1);have nl:=s1.free n1;have e1:upd (upd H l0 (.lst [V.int 1])) l (.lst (List.replicate m.toNat (V.int 1))) l=some (.lst ((List.replicate m.toNat (1:Int)).map V.int)):=by rw [ah,List.map_replicate]
   generalize upd (upd H l0 (.lst [V.int 1])) l (.lst (List.replicate m.toNat (V.int 1)))=H1 at s2 e1 ⊢;refine ex6 p t m ps rs r ?_;refine an4 rfl (W.same s2) (fun r0 r1=>?_) (fun z=>e z _ s2);obtain ⟨par,dep,R,k⟩:=k r0 r1;refine ⟨par,dep,R,fun l2 qs tl H4 et n2 s4 e4 pa O=>?_⟩;have nll:l2≠l:=fun z=>by rw [z,e1] at n2;cases n2
   have ql:qs.length=tl.reverse.length:=Paired.length pa;rw [List.length_reverse] at ql;have st:Pso m rs r par dep false [] (List.replicate m.toNat (1:Int)):=⟨by rw [List.length_replicate];omega,fun u hu=>by
     rw [List.mem_singleton.mp hu,DA R,List.getD,List.getElem?_replicate,if_pos (by omega)]
     rfl⟩
   refine ⟨l2,rfl,_,SqL.of e4,?_⟩;refine DK (K:=K) (xs:=qs.map V.ref) (fun i σ H5=>Same H H5/\H5 l2=some (.lst (qs.map V.ref))/\PairsAt H5 par qs tl.reverse/\∃ (cs:List Int) (v5 v6:Option V),H5 l=some (.lst (cs.map V.int))/\Pso m rs r par dep false (tl.take i) cs/\σ=[some (V.ref p),some (V.int r),some (V.ref l),v5,v6]) ⟨s2.trans s4,e4,pa,_,_,_,s4 _ _ e1,by rw [List.take_zero];exact st,rfl⟩ (fun i σ H5 _ z=>SqL.of z.2.1) ?_ ?_
   . rintro i x σ H5 N hN hx ⟨s5,e5,pa5,cs,v5,v6,c5,S,rfl⟩;have il:=(List.getElem?_eq_some_iff.mp hx).1;rw [List.length_reverse,List.length_map] at il;rw [List.getElem?_reverse (by rw [List.length_map];exact il),List.length_map] at hx;obtain ⟨q,v,rfl,hq',hv,eq⟩:=pa5.get hx;rw [List.getElem?_reverse (by omega),show tl.length - 1 - (qs.length - 1 - i)=i by omega] at hv;have vm:=List.mem_of_getElem? hv;have vr:=O.rng v vm;have vn:=O.ne vm;have u:=R.up v vr.1 vr.2 vn;obtain ⟨kk,hk,k0,k1⟩:=kb g u.2.1.symm;have ek:tlf rs par false v=kk:=(by unfold tlf jc;rw [if_neg (by decide),hk];rfl);have sl:=S.len;walk_at "rd";refine ⟨_,SqT.of eq,rfl,_,_,rfl,_,_,rfl,rfl,?_⟩;refine ixL c5 (atG u.1.1 (by omega)) ⟨p,t,m,ps,rs,par v,v,rfl,W.same s5,fun k' _ _ _ _ h=>?_,fun z=>absurd ⟨u.1,vr⟩ z,fun _ _ _ _ z=>by rw [hk] at z;cases z⟩;rw [hk] at h;cases h;exact ⟨_,rfl,_,rfl,.inr ⟨by omega,by omega⟩,Wt c5 vr.1 (by rw [List.length_map];omega) (hN _ _ ⟨s5.put nl _,by rw [ao nll];exact e5,Paired.imp' (fun a b h=>by rw [ao (gv h c5 (by intro z;cases z))];exact h) pa5,_,_,_,by rw [ah,<- List.map_set],S.step R O r0 hv (by rw [ek]),rfl⟩)⟩
   . rintro σ H5 ⟨s5,e5,pa5,cs,v5,v6,c5,S,rfl⟩;rw [List.length_map,ql,List.take_length] at S;walk_at "rd";rw [S.done g O] at c5;exact k l H5 nl s5 c5
def Gn (T:Txt K mg):Sp:=fun vs H Q E=>∃ (p a t:Addr) (c:Bool) (m:Int) (ps qs:List Addr) (rs:List Road) (fs:List (Int × Int)) (r:Int),vs=[.ref p,.ref a,.int r]/\WebAt T.Web H p m t ps rs/\AtX c H a (qs.map V.ref)/\FrsAt H qs fs/\(∀ f∈fs,FrB 400 f)/\(fs.length:Int)=m/\m<=6 /\
 (0<=r->r<m->∃ par dep,Rooted m rs r par dep/\∀ (x y:Int) (l:Addr) (H':Hp),0<y->x.gcd y=1->x.natAbs<2^3950->y.natAbs<2^3950->(x:Rat) / y=eB (fs.zip ((below m.toNat).map (prc rs par dep false))) (fun z=>(z.1.1:Rat) / z.1.2 / z.2)->H l=none->Same H H'->H' l=some (.tup [.int x,.int y])->Q (.ref l) H')/\(¬ (0<=r/\r<m)->∀ H',Same H H'->E (.ref T.NoPlace) none H')
abbrev fN:Stmt:=top 35
theorem Ph:FnScope ["web","shares","u"] ["web","shares","u"] (aa fN):=FnScope.of (by kernel_rfl)
theorem GK:NmL (aa fN) "web":=.of (by kernel_rfl)
theorem C5:NmL (aa fN) "shares":=.of (by kernel_rfl)
theorem Mj:NmL (aa fN) "u":=.of (by kernel_rfl)
theorem o8:NmG (aa fN) "divided_up":=.of (by kernel_rfl)
theorem nX:NmG (aa fN) "prices_from":=.of (by kernel_rfl)
theorem PL (T:Txt K mg) (hq:aP (CXe P w)) {f:Addr} {fd:FuncData} (D:Df K mg "yields" fN ["web","shares","u"] f fd) {dX:Addr} {kz:FuncData} (dA:Df K mg "divided_up" cI ["shares","prices"] dX kz) (G_divided_up:FnOk P w K mg base (CXe P w) 4 dX kz ["shares","prices"] (rQ T)) {gN:Addr} {xE:FuncData} (iR:Df K mg "prices_from" bu ["web","u"] gN xE) (G_prices_from:FnOk P w K mg base (CXe P w) 8 gN xE ["web","u"] (xX T)):FnOk P w K mg base (CXe P w) 9 f fd ["web","shares","u"] (Gn T):=by
 refine D.F.okX Ph (fun vs H Q E h=>?_) (fun cdv A outer s H vs Q E hr h=>?_)
 . obtain ⟨p,a,t,c,m,ps,qs,rs,fs,r,rfl,_⟩:=h
   rfl
 . obtain ⟨p,a,t,c,m,ps,qs,rs,fs,r,rfl,W,ha,hq1,fb,fl,m8,k,e⟩:=h;have g:=W.go;refine ⟨_,(aq (aF (ar G_divided_up (hr.mono (by decide)) o8.g dA.m dA.F.kp dA.b .nil hZ (ag (pvl 1 C5) (ag (ar G_prices_from (hr.mono (by decide)) nX.g iR.m iR.F.kp iR.b .nil hZ (ag (pvl 0 GK) (ag (pvl 2 Mj) aj)) (hdb:=nX.d)) aj)) (hdb:=o8.d)))),?_⟩;rw [show L2.start ["web","shares","u"] [V.ref p,V.ref a,V.int r]=[some (V.ref p),some (V.ref a),some (V.int r)] from rfl];walk_at "rd";refine ⟨p,t,m,ps,rs,r,rfl,W,fun r0 r1=>?_,fun z H' s'=>e z H' s'⟩;obtain ⟨par,dep,R,k⟩:=k r0 r1;refine ⟨par,dep,R,fun l H1 nl s1 el=>?_⟩;refine ⟨a,l,c,qs,fs,_,rfl,s1 _ _ ha,Paired.imp' (fun q v x=>s1 q _ x) hq1,fb,el,by rw [List.length_map,bo];omega,by omega,?_,fun x y b H2 y0 xy xb yb su nb s2 eb=>k x y b H2 y0 xy xb yb su (s1.free nb) (s1.trans s2) eb⟩;intro x hx;obtain ⟨v,hv,rfl⟩:=List.mem_map.mp hx;obtain ⟨v0,v1⟩:=gg.mp hv;obtain ⟨b0,b1⟩:=yY (to:=false) g R _ rfl v0 (show v<m by omega);have dl:=Bw R v0 (show v<m by omega);exact ⟨b0,Nat.lt_of_lt_of_le b1 (Nat.pow_le_pow_right (by decide) (by omega))⟩
def ny (T:Txt K mg):Sp:=fun vs H Q _=>∃ (p a b t:Addr) (c d:Bool) (m:Int) (ps qa qb:List Addr) (rs:List Road) (fs gs:List (Int × Int)) (pr:Int->Int->Int) (dp:Int->Int->Nat),vs=[.ref p,.ref a,.ref b]/\WebAt T.Web H p m t ps rs/\m<=6/\AtX c H a (qa.map V.ref)/\FrsAt H qa fs/\AtX d H b (qb.map V.ref)/\FrsAt H qb gs/\(∀ f∈fs,FrB 400 f)/\(∀ f∈gs,FrB 400 f)/\fs.length<=100/\gs.length<=100 /\
 (∀ v,0<=v->v<m->Rooted m rs v (pr v) (dp v))/\(Shown m rs pr dp fs gs->∀ H',Same H H'->Q (.bl true) H')/\(¬ Shown m rs pr dp fs gs->∀ H',Same H H'->Q (.bl false) H')
abbrev aR:Stmt:=top 44
theorem Dw:FnScope ["web","shares","second"] ["web","shares","second"] (aa aR):=FnScope.of (by kernel_rfl)
theorem ic:NmC (aa aR) "web":=.of (by kernel_rfl)
theorem mt:NmC (aa aR) "shares":=.of (by kernel_rfl)
theorem my:NmC (aa aR) "second":=.of (by kernel_rfl)
theorem dZ:NmG (aa aR) "are_sound":=.of (by kernel_rfl)
theorem dH:NmG (aa aR) "any":=.of (by kernel_rfl)
theorem mQ:NmG (aa aR) "range":=.of (by kernel_rfl)
theorem ft:NmG (aa aR) "sum_up":=.of (by kernel_rfl)
theorem Dn (T:Txt K mg) (hq:aP (CXe P w)) {f:Addr} {fd:FuncData} (D:Df K mg "shows_fairest" aR ["web","shares","second"] f fd) {jw:Addr} {Bn:FuncData} (fQ:Df K mg "are_sound" dC ["web","shares"] jw Bn) (G_are_sound:FnOk P w K mg base (CXe P w) 3 jw Bn ["web","shares"] (Br T)) {mF:Addr} {xQ:FuncData} (jk:Df K mg "less" lU ["one","two"] mF xQ) (G_less:FnOk P w K mg base (CXe P w) 1 mF xQ ["one","two"] (Fs T)) {cW:Addr} {dM:FuncData} (be:Df K mg "sum_up" cY ["some"] cW dM) (G_sum_up:FnOk P w K mg base (CXe P w) 3 cW dM ["some"] (nW T)) {qJ:Addr} {J5:FuncData} (tM:Df K mg "worth" ir ["web","shares","v"] qJ J5) (G_worth:FnOk P w K mg base (CXe P w) 9 qJ J5 ["web","shares","v"] (Iu T)) {nA:Addr} {Gc:FuncData} (qR:Df K mg "yields" fN ["web","shares","u"] nA Gc) (G_yields:FnOk P w K mg base (CXe P w) 9 nA Gc ["web","shares","u"] (Gn T)):FnOk P w K mg base (CXe P w) 10 f fd ["web","shares","second"] (ny T):=by
 refine D.F.okC Dw (fun vs H Q E h=>?_) (fun cdv A outer s H vs Q E hr h=>?_)
 . obtain ⟨p,a,b,t,c,d,m,ps,qa,qb,rs,fs,gs,pr,dp,rfl,_⟩:=h
   rfl
 . obtain ⟨p,a,b,t,c,d,m,ps,qa,qb,rs,fs,gs,pr,dp,rfl,W,m6,ha,fa,hb,gb,fB,gB,f100,g100,R,k,kn⟩:=h;have hv:=hr.units;have g:=W.go;have m1:=g.m1;refine ⟨_,(ak (bA (PW.pt (BG (jQ (mH (ar G_are_sound (hr.mono (by decide)) dZ.g fQ.m fQ.F.kp fQ.b .nil (ax hq) (ag (pvc 0 ic) (ag (pvc 1 mt) aj)) (hdb:=dZ.d)))) (Bx (jQ (mH (ar G_are_sound (hr.mono (by decide)) dZ.g fQ.m fQ.F.kp fQ.b .nil (ax hq) (ag (pvc 0 ic) (ag (pvc 2 my) aj)) (hdb:=dZ.d))))))) (aq (aF jH)) aO) (ak (bA (mH (bI (CP rfl) dH.g T.any JY (ag (fM rfl (gI (Nc:=["v","web","shares"]) 1 [0,1] (by decide +kernel) rfl (by decide +kernel) rfl (by show ∀ (y:Str × NameKind),y∈_->y.2=NameKind.free->(aa aR).names.lookup y.1=some NameKind.cell;decide +kernel) rfl (fun _ h=>dL h) (fun i hi=>match i,hi with|0,_=>⟨"web",0,rfl,rfl,rfl,by decide +kernel⟩|1,_=>⟨"shares",1,rfl,rfl,rfl,by decide +kernel⟩|i+2,hi=>absurd hi (by show ¬ i+2<2;omega))) (ij mQ.g T.range (ag (ki  (pvc 0 ic) rfl) aj)) (fun _ _ _ _=>(aB (i:=0) (show (["v","web","shares"]:List Str).Nodup from by decide +kernel) rfl (Or.inl rfl))) (fun _ _ _ _=>fK) (fun _ _ _ _=>(ar G_less (hr.mono (by decide)) (by rfl) jk.m jk.F.kp jk.b .nil (ax hq) (ag (ar G_worth (hr.mono (by decide)) (by rfl) tM.m tM.F.kp tM.b .nil (ax hq) (ag (pv 1) (ag (pv 2) (ag (pv 0) aj)))) (ag (tG (v:=.ref T.ONE) (by rfl) T.Ia rfl) aj))))) aj) (hn:=dH.n) (hdb:=dH.d))) (aq (aF jH)) aO) (ak (bA (mH (bI (CP rfl) dH.g T.any JY (ag (fM rfl (gI (Nc:=["u","web","second"]) 1 [0,2] (by decide +kernel) rfl (by decide +kernel) rfl (by show ∀ (y:Str × NameKind),y∈_->y.2=NameKind.free->(aa aR).names.lookup y.1=some NameKind.cell;decide +kernel) rfl (fun _ h=>dL h) (fun i hi=>match i,hi with|0,_=>⟨"web",0,rfl,rfl,rfl,by decide +kernel⟩|1,_=>⟨"second",2,rfl,rfl,rfl,by decide +kernel⟩|i+2,hi=>absurd hi (by show ¬ i+2<2;omega))) (ij mQ.g T.range (ag (ki  (pvc 0 ic) rfl) aj)) (fun _ _ _ _=>(aB (i:=0) (show (["u","web","second"]:List Str).Nodup from by decide +kernel) rfl (Or.inl rfl))) (fun _ _ _ _=>fK) (fun _ _ _ _=>(ar G_less (hr.mono (by decide)) (by rfl) jk.m jk.F.kp jk.b .nil (ax hq) (ag (tG (v:=.ref T.ONE) (by rfl) T.Ia rfl) (ag (ar G_yields (hr.mono (by decide)) (by rfl) qR.m qR.F.kp qR.b .nil (ax hq) (ag (pv 1) (ag (pv 2) (ag (pv 0) aj)))) aj))))) aj) (hn:=dH.n) (hdb:=dH.d))) (aq (aF jH)) aO) (aq (aF (me (VD hv) (ar G_sum_up (hr.mono (by decide)) ft.g be.m be.F.kp be.b .nil (ax hq) (ag (pvc 1 mt) aj) (hdb:=ft.d)) (ar G_sum_up (hr.mono (by decide)) ft.g be.m be.F.kp be.b .nil (ax hq) (ag (pvc 2 my) aj) (hdb:=ft.d)) (aL _))))))),?_⟩;rw [show L2.start ["web","shares","second"] [V.ref p,V.ref a,V.ref b]=[some (V.ref p),some (V.ref a),some (V.ref b)] from rfl];refine aW fun N1 h1=>?_;walk_at "rd";refine ⟨p,a,t,c,m,ps,qa,rs,fs,rfl,W,ha,fa,fB,f100,fun H1 s1=>⟨_,rfl,?_⟩⟩;by_cases c1:oA m fs=true
   . rw [c1,if_neg (by decide)];refine ⟨p,b,t,d,m,ps,qb,rs,gs,rfl,W.same s1,s1 _ _ hb,FrsAt.same s1 gb,gB,g100,fun H2 s2=>⟨_,rfl,?_⟩⟩;have s12:=s1.trans s2;by_cases c2:oA m gs=true
     . rw [c2,if_neg (by decide)];have fl:(fs.length:Int)=m:=of_decide_eq_true (Bool.and_eq_true_iff.mp c1).1;have gl:(gs.length:Int)=m:=of_decide_eq_true (Bool.and_eq_true_iff.mp c2).1;refine h1 _ _ (aW fun N2 h2=>?_);obtain ⟨dx,ob⟩:=(W.same s12).ob;walk_at "rd";refine ⟨T.Web,dx,_,ob,T.ja,T.n_many,_,hW m t,m,rfl,by omega,by omega,fun pc nc=>?_⟩;refine mj (fun i zs σ H3=>Same H2 H3/\H3 pc=some (.lst zs)/\zs=((List.range i).map fun (v:Nat)=>decide (oP m rs (pr (v:Int)) (dp (v:Int)) true fs<1)).map V.bl/\∃ v,σ=[v,some (V.ref p),some (V.ref a)]) ⟨Same.new _ nc,ah,rfl,_,rfl⟩ ?_ ?_
       . rintro i zs σ H3 N hN hi ⟨s3,e3,rfl,v,rfl⟩;rw [Int.zero_add];have i0:(0:Int)<=(i:Int):=(by omega);have i1:(i:Int)<m:=(by omega);have s13:=s12.trans s3;walk_at "rd";refine ⟨p,a,t,c,m,ps,qa,rs,fs,(i:Int),rfl,W.same s13,s13 _ _ ha,FrsAt.same s13 fa,fB,fl,m6,fun _ _=>⟨_,_,R _ i0 i1,fun x y l H4 y0 _ xb yb su nl s4 el=>?_⟩,fun z=>absurd ⟨i0,i1⟩ z⟩;refine ⟨l,T.ONE,(x,y),(1,1),3950,rfl,SqT.of el,T.Ik.sq,⟨y0,xb,yb⟩,⟨by decide,Nat.one_lt_two_pow (by decide),Nat.one_lt_two_pow (by decide)⟩,by decide,s4 _ _ e3,cj (by rw [List.length_map,List.length_map,List.length_range];omega),hN _ _ _ ⟨(s3.trans s4).put nc _,ah,?_,_,rfl⟩⟩;show _++[V.bl (decide (x*1<1*y))]=_;rw [List.range_succ,List.map_append,List.map_append];have e:decide (x*1<1*y)=decide (oP m rs (pr (i:Int)) (dp (i:Int)) true fs<1):=by
           exact F1 y0 su
         rw [e]
         rfl
       . rintro zs σ H3 ⟨s3,e3,rfl,v,rfl⟩;have s13:=s12.trans s3;refine ⟨pc,rfl,_,SqL.of e3,?_⟩;by_cases c3:(((List.range m.toNat).map fun (v:Nat)=>decide (oP m rs (pr (v:Int)) (dp (v:Int)) true fs<1)).any id)=true
         . rw [if_pos c3];obtain ⟨v,hv,hx⟩:=BM.mp c3;exact kn (fun S=>S.lo v (by omega) (by omega) (of_decide_eq_true hx)) _ s13
         rw [if_neg c3];have lo:∀ v,0<=v->v<m->¬ oP m rs (pr v) (dp v) true fs<1:=fun v v0 v1 z=>c3 (BM.mpr ⟨v.toNat,by omega,by rw [Int.toNat_of_nonneg v0];exact decide_eq_true z⟩);refine h2 _ _ (aW fun N3 h3=>?_);obtain ⟨dx,ob⟩:=(W.same s13).ob;walk_at "rd";refine ⟨T.Web,dx,_,ob,T.ja,T.n_many,_,hW m t,m,rfl,by omega,by omega,fun pd nd=>?_⟩;refine mj (fun i zs σ H4=>Same H3 H4/\H4 pd=some (.lst zs)/\zs=((List.range i).map fun (v:Nat)=>decide (1<oP m rs (pr (v:Int)) (dp (v:Int)) false gs)).map V.bl/\∃ v,σ=[v,some (V.ref p),some (V.ref b)]) ⟨Same.new _ nd,ah,rfl,_,rfl⟩ ?_ ?_
         . rintro i zs σ H4 N hN hi ⟨s4,e4,rfl,v,rfl⟩;rw [Int.zero_add];have i0:(0:Int)<=(i:Int):=(by omega);have i1:(i:Int)<m:=(by omega);have s14:=s13.trans s4;walk_at "rd";refine ⟨p,b,t,d,m,ps,qb,rs,gs,(i:Int),rfl,W.same s14,s14 _ _ hb,FrsAt.same s14 gb,gB,gl,m6,fun _ _=>⟨_,_,R _ i0 i1,fun x y l H5 y0 _ xb yb su nl s5 el=>?_⟩,fun z=>absurd ⟨i0,i1⟩ z⟩;refine ⟨T.ONE,l,(1,1),(x,y),3950,rfl,T.Ik.sq,SqT.of el,⟨by decide,Nat.one_lt_two_pow (by decide),Nat.one_lt_two_pow (by decide)⟩,⟨y0,xb,yb⟩,by decide,s5 _ _ e4,cj (by rw [List.length_map,List.length_map,List.length_range];omega),hN _ _ _ ⟨(s4.trans s5).put nd _,ah,?_,_,rfl⟩⟩;show _++[V.bl (decide (1*y<x*1))]=_;rw [List.range_succ,List.map_append,List.map_append];have e:decide (1*y<x*1)=decide (1<oP m rs (pr (i:Int)) (dp (i:Int)) false gs):=by
             exact Dg y0 su
           rw [e]
           rfl
         . rintro zs σ H4 ⟨s4,e4,rfl,v,rfl⟩;have s14:=s13.trans s4;refine ⟨pd,rfl,_,SqL.of e4,?_⟩;by_cases c4:(((List.range m.toNat).map fun (v:Nat)=>decide (1<oP m rs (pr (v:Int)) (dp (v:Int)) false gs)).any id)=true
           . rw [if_pos c4];obtain ⟨v,hv,hx⟩:=BM.mp c4;exact kn (fun S=>S.hi v (by omega) (by omega) (of_decide_eq_true hx)) _ s14
           rw [if_neg c4];have hi:∀ v,0<=v->v<m->¬ 1<oP m rs (pr v) (dp v) false gs:=fun v v0 v1 z=>c4 (BM.mpr ⟨v.toNat,by omega,by rw [Int.toNat_of_nonneg v0];exact decide_eq_true z⟩);refine h3 _ _ ?_;walk_at "rd";refine ⟨a,c,qa,fs,400,rfl,s14 _ _ ha,(FrsAt.same s14 fa).k,fB,by omega,by decide,by omega,fun p1 q1 l1 H5 fr1 n1 s5 e5=>?_⟩;have s15:=s14.trans s5;refine ⟨b,d,qb,gs,400,rfl,s15 _ _ hb,(FrsAt.same s15 gb).k,gB,by omega,by decide,by omega,fun p2 q2 l2 H6 fr2 n2 s6 e6=>?_⟩;have r1:=PK (fun f hf=>(fB f hf).1) fr1;have r2:=PK (fun f hf=>(gB f hf).1) fr2;have q10:=fr1.pos;have q20:=fr2.pos;by_cases c5:p1=p2/\q1=q2
           . obtain ⟨rfl,rfl⟩:=c5;exact O7 (f:=(p1,q1)) (s6 _ _ e5) e6 (k ⟨c1,c2,lo,hi,by rw [<- r1,<- r2]⟩ _ (s15.trans s6))
           . refine ⟨_,_,.tup (SqT.of (s6 _ _ e5)) (.cons (.int _) (.cons (.int _) .nil)),.tup (SqT.of e6) (.cons (.int _) (.cons (.int _) .nil)),by simp [PyData.depth,PyData.depthAll],?_⟩;rw [UM c5];exact kn (fun S=>c5 (V5 fr1.pos fr1.one fr2.pos fr2.one (P0 (by omega) (by omega) (by rw [r1,r2];exact S.eq)))) _ (s15.trans s6)
     . rw [if_pos (by simpa using c2)];exact kn (fun S=>c2 S.g) _ s12
   . rw [if_pos (by simpa using c1)];exact kn (fun S=>c1 S.f) _ s1
theorem WZ {m:Int} {rs:List Road} (g:Good m rs):∃ (pr:Int->Int->Int) (dp:Int->Int->Nat),∀ v,0<=v->v<m->Rooted m rs v (pr v) (dp v):=by
 have h:∀ v:Int,∃ x:(Int->Int) × (Int->Nat),0<=v->v<m->Rooted m rs v x.1 x.2:=fun v=>by
   by_cases c:0<=v/\v<m
   . obtain ⟨par,dep,R⟩:=Jr g c.1 c.2;exact ⟨(par,dep),fun _ _=>R⟩
   . exact ⟨(fun _=>0,fun _=>0),fun a b=>absurd ⟨a,b⟩ c⟩
 exact ⟨fun v=>(Classical.choose (h v)).1,fun v=>(Classical.choose (h v)).2,fun v a b=>Classical.choose_spec (h v) a b⟩
def sY (T:Txt K mg):Sp:=fun vs H Q _=>∃ (p d la lb t:Addr) (m turn:Int) (ps:List Addr) (rs:List Road) (qa qb:List Addr) (fs gs:List (Int × Int)),vs=[.ref p,.ref d,.ref la,.ref lb,.int turn]/\WebAt T.Web H p m t ps rs/\m<=6/\TollsAt H d rs/\H la=some (.lst (qa.map V.ref))/\H lb=some (.lst (qb.map V.ref))/\FrsAt H qa fs/\FrsAt H qb gs/\(∀ f∈fs,FrB 400 f)/\(∀ f∈gs,FrB 400 f)/\fs.length<=100/\gs.length<=100/\∀ H',Same H H'->Q (.bl true) H'
abbrev aH:Stmt:=top 69
theorem jJ:FnScope ["web","tolls","shares","second","turn","handed","due","found"] ["web","tolls","shares","second","turn"] (aa aH):=FnScope.of (by kernel_rfl)
theorem gG:NmL (aa aH) "web":=.of (by kernel_rfl)
theorem vt:NmL (aa aH) "tolls":=.of (by kernel_rfl)
theorem eW:NmL (aa aH) "shares":=.of (by kernel_rfl)
theorem eF:NmL (aa aH) "second":=.of (by kernel_rfl)
theorem wp:NmL (aa aH) "turn":=.of (by kernel_rfl)
theorem cJ:NmL (aa aH) "handed":=.of (by kernel_rfl)
theorem gh:NmL (aa aH) "due":=.of (by kernel_rfl)
theorem iQ:NmL (aa aH) "found":=.of (by kernel_rfl)
theorem df:NmG (aa aH) "list":=.of (by kernel_rfl)
theorem kZ:NmG (aa aH) "_law_due":=.of (by kernel_rfl)
theorem bw:NmG (aa aH) "shows_fairest":=.of (by kernel_rfl)
theorem fA:NmG (aa aH) "isinstance":=.of (by kernel_rfl)
theorem ju:NmG (aa aH) "bool":=.of (by kernel_rfl)
theorem cT:NmG (aa aH) "tuple":=.of (by kernel_rfl)
theorem B3 (T:Txt K mg) (hq:aP (CXe P w)) {f:Addr} {fd:FuncData} (D:Df K mg "_law_asked_good" aH ["web","tolls","shares","second","turn"] f fd) {lz:Addr} {EK:FuncData} (on:Df K mg "_law_due" bF ["many","tolls","shares","second"] lz EK) (G_law_due:FnOk P w K mg base (CXe P w) 4 lz EK ["many","tolls","shares","second"] (Ec T)) {eE:Addr} {ut:FuncData} (bP:Df K mg "shows_fairest" aR ["web","shares","second"] eE ut) (G_shows_fairest:FnOk P w K mg base (CXe P w) 10 eE ut ["web","shares","second"] (ny T)):FnOk P w K mg base (CXe P w) 11 f fd ["web","tolls","shares","second","turn"] (sY T):=by
 refine D.F.okC jJ (fun vs H Q E h=>?_) (fun cdv A outer s H vs Q E hr h=>?_)
 . obtain ⟨p,d,la,lb,t,m,turn,ps,rs,qa,qb,fs,gs,rfl,_⟩:=h
   rfl
 . obtain ⟨p,d,la,lb,t,m,turn,ps,rs,qa,qb,fs,gs,rfl,W,m6,hd,ha,hb,fa,gb,fB,gB,f100,g100,k⟩:=h;have hv:=hr.units;have g:=W.go;refine ⟨_,(ak (aw (i:=5) jJ.nd rfl (Or.inl cJ.l) (bj (ag (fi jU df.g T.list tJ (ag (pvl 2 eW) aj) (hn:=df.n) (hdb:=df.d)) (ag (fi jU df.g T.list tJ (ag (pvl 3 eF) aj) (hn:=df.n) (hdb:=df.d)) aj)))) (ak (aw (i:=6) jJ.nd rfl (Or.inl gh.l) (ar G_law_due (hr.mono (by decide)) kZ.g on.m on.F.kp on.b .nil (ax hq) (ag (ki  (pvl 0 gG) rfl) (ag (pvl 1 vt) (ag (pvl 2 eW) (ag (pvl 3 eF) aj)))) (hdb:=kZ.d))) (ak (aw (i:=7) jJ.nd rfl (Or.inl iQ.l) (ar G_shows_fairest (hr.mono (by decide)) bw.g bP.m bP.F.kp bP.b .nil (ax hq) (ag (pvl 0 gG) (ag (az aI (pvl 5 cJ) am (fun _ _=>rfl)) (ag (az aI (pvl 5 cJ) am (fun _ _=>rfl)) aj))) (hdb:=bw.d))) (ak (bA (PW.pt (BG (jQ (mH (bI Lm fA.g T.isinstance GV (ag (pvl 7 iQ) (ag (UX (v:=.ty "bool") ju.g T.bool Vr rfl (hn:=ju.n) (hd:=ju.d)) aj)) (hn:=fA.n) (hdb:=fA.d)))) (BG (aM pA (pvl 7 iQ) (pvl 6 gh) (aL _)) (Bx (aM (Wc hv) (pvl 5 cJ) (bj (ag (pvl 2 eW) (ag (pvl 3 eF) aj))) (aL _)))))) (aq (aF jH)) aO) (ak (bA (aM dv (av d9 (pvl 4 wp) am) am (aL _)) (aq (aF (me dv (ar G_shows_fairest (hr.mono (by decide)) bw.g bP.m bP.F.kp bP.b .nil (ax hq) (ag (pvl 0 gG) (ag (fi mV cT.g T.tuple zg (ag (pvl 2 eW) aj) (hn:=cT.n) (hdb:=cT.d)) (ag (az aI (pvl 5 cJ) am (fun _ _=>rfl)) aj))) (hdb:=bw.d)) (pvl 6 gh) (aL _)))) aO) (aq (aF (me dv (ar G_shows_fairest (hr.mono (by decide)) bw.g bP.m bP.F.kp bP.b .nil (ax hq) (ag (pvl 0 gG) (ag (az aI (pvl 5 cJ) am (fun _ _=>rfl)) (ag (fi mV cT.g T.tuple zg (ag (pvl 3 eF) aj) (hn:=cT.n) (hdb:=cT.d)) aj))) (hdb:=bw.d)) (pvl 6 gh) (aL _))))))))),?_⟩;rw [show L2.start ["web","tolls","shares","second","turn","handed","due","found"] [V.ref p,V.ref d,V.ref la,V.ref lb,V.int turn]=[some (V.ref p),some (V.ref d),some (V.ref la),some (V.ref lb),some (V.int turn),none,none,none] from rfl];refine aW fun N1 h1=>?_;walk_at "rd";refine ⟨_,.inl (SqL.of ha),fun l1 n1=>⟨_,.inl (SqL.of (Same.new _ n1 _ _ hb)),fun l2 n2=>⟨aE (by simp),fun l3 n3=>?_⟩⟩⟩;have t1:=Same.new (.lst (qa.map V.ref)) n1;have t2:=Same.new (.lst (qb.map V.ref)) n2;have t3:=Same.new (.lst [V.ref l1,V.ref l2]) n3;have e1:=t3 _ _ (t2 _ _ (ah (H:=H) (a:=l1) (o:=.lst (qa.map V.ref))));have e2:=t3 _ _ (ah (H:=upd H l1 (.lst (qa.map V.ref))) (a:=l2) (o:=.lst (qb.map V.ref)));have e3:upd (upd (upd H l1 (.lst (qa.map V.ref))) l2 (.lst (qb.map V.ref))) l3 (.lst [V.ref l1,V.ref l2]) l3=some (.lst [V.ref l1,V.ref l2]):=ah;have s1:=t1.trans (t2.trans t3);generalize upd (upd (upd H l1 (.lst (qa.map V.ref))) l2 (.lst (qb.map V.ref))) l3 (.lst [V.ref l1,V.ref l2])=H1 at e1 e2 e3 s1 ⊢;clear t1 t2 t3 n1 n2 n3;obtain ⟨pr,dp,R⟩:=WZ g;refine h1 _ _ (aW fun N2 h2=>?_);obtain ⟨dx,ob⟩:=(W.same s1).ob;walk_at "rd";refine ⟨T.Web,dx,_,ob,T.ja,T.n_many,_,hW m t,?_⟩;have go:∀ (sh:Bool),(sh=true↔Shown m rs pr dp fs gs)->∀ H2,Same H1 H2->N2 [some (V.ref p),some (V.ref d),some (V.ref la),some (V.ref lb),some (V.int turn),some (V.ref l3),some (V.bl sh),none] H2:=fun sh hs H2 s2=>by
     have s12:=s1.trans s2;have ask:∀ {G:Hp} {x y:Addr} {c d':Bool} {Q':VK} {E':XK},Same H2 G->AtX c G x (qa.map V.ref)->AtX d' G y (qb.map V.ref)->(∀ G',Same G G'->Q' (.bl sh) G')->ny T [V.ref p,V.ref x,V.ref y] G Q' E':=fun {G x y c d' Q' E'} sG hx hy q=>by
       have sg:=s12.trans sG;refine ⟨p,x,y,t,c,d',m,ps,qa,qb,rs,fs,gs,pr,dp,rfl,W.same sg,m6,hx,FrsAt.same sg fa,hy,FrsAt.same sg gb,fB,gB,f100,g100,R,fun S G' s'=>?_,fun S G' s'=>?_⟩
       . rw [<- hs.mpr S];exact q G' s'
       . have:sh=false:=by
           cases sh
           . rfl
           . exact absurd (hs.mp rfl) S
         rw [<- this];exact q G' s'
     refine h2 _ _ (aW fun N3 h3=>?_);walk_at "rd";refine ixL (s2 _ _ e3) rfl (ixL (s2 _ _ e3) rfl (ask (c:=true) (d':=true) (Same.refl _) (s2 _ _ e1) (s2 _ _ e2) fun H3 s3=>h3 _ _ (aW fun N4 h4=>?_)));have s23:=s2.trans s3;have s13:=s1.trans s23;walk_at "rd";refine ⟨_,_,_,true,rfl,.bl sh,fun cv h=>by cases h;rfl,true,rfl,?_⟩;rw [if_neg (by decide)];refine ⟨aE (by simp),fun l4 n4=>?_⟩;have s4:=Same.new (.lst [V.ref la,V.ref lb]) n4;have e4:upd H3 l4 (.lst [V.ref la,V.ref lb]) l4=some (.lst [V.ref la,V.ref lb]):=ah;generalize upd H3 l4 (.lst [V.ref la,V.ref lb])=H4 at s4 e4 ⊢;have s24:=s23.trans s4;have s14:=s1.trans s24;have fa4:=Da (K:=K) (FrsAt.same s14 fa);have gb4:=Da (K:=K) (FrsAt.same s14 gb);refine ⟨_,_,.lst (SqL.of (s24 _ _ e3)) (.cons (.lst (SqL.of (s24 _ _ e1)) fa4) (.cons (.lst (SqL.of (s24 _ _ e2)) gb4) .nil)),.lst (SqL.of e4) (.cons (.lst (SqL.of (s14 _ _ ha)) fa4) (.cons (.lst (SqL.of (s14 _ _ hb)) gb4) .nil)),?_,?_⟩
     . have d1:=Ab fs;have d2:=Ab gs;simp only [PyData.depth,PyData.depthAll];omega
     simp only [PyData.eqv,PyData.eqvAll];rw [FV,FV];refine ⟨false,rfl,?_⟩;rw [if_neg (by decide)];refine h4 _ _ (aW fun N5 h5=>?_);walk_at "rd";refine ⟨by decide,?_⟩;have s34:Same H2 H4:=s3.trans s4;by_cases c:turn % 2=0
     . rw [if_pos c];refine ⟨_,.inl ⟨SqL.of (s14 _ _ ha),fun l5 n5=>?_⟩⟩;have s5:=Same.new (.tup (qa.map V.ref)) n5;have e5:upd H4 l5 (.tup (qa.map V.ref)) l5=some (.tup (qa.map V.ref)):=ah;generalize upd H4 l5 (.tup (qa.map V.ref))=H5 at s5 e5 ⊢;refine ixL (s5 _ _ (s24 _ _ e3)) rfl (ask (c:=false) (d':=true) (s34.trans s5) e5 (s5 _ _ (s24 _ _ e2)) fun H6 s6=>⟨by cases sh <;> rfl,?_⟩);rw [decide_eq_true rfl];exact k H6 (s14.trans (s5.trans s6))
     . rw [if_neg c];refine h5 _ _ ?_;walk_at "rd";refine ixL (s24 _ _ e3) rfl ⟨_,.inl ⟨SqL.of (s14 _ _ hb),fun l5 n5=>?_⟩⟩;have s5:=Same.new (.tup (qb.map V.ref)) n5;have e5:upd H4 l5 (.tup (qb.map V.ref)) l5=some (.tup (qb.map V.ref)):=ah;generalize upd H4 l5 (.tup (qb.map V.ref))=H5 at s5 e5 ⊢;refine ask (c:=true) (d':=false) (s34.trans s5) (s5 _ _ (s24 _ _ e1)) e5 fun H6 s6=>⟨by cases sh <;> rfl,?_⟩;rw [decide_eq_true rfl];exact k H6 (s14.trans (s5.trans s6))
   refine ⟨d,la,lb,m,rs,qa,qb,fs,gs,pr,dp,rfl,hd.same s1,g,s1 _ _ ha,s1 _ _ hb,FrsAt.same s1 fa,FrsAt.same s1 gb,fB,gB,f100,g100,R,fun S H2 s2=>go true ⟨fun _=>S,fun _=>rfl⟩ H2 s2,fun S H2 s2=>go false ⟨fun z=>(by cases z),fun z=>absurd z S⟩ H2 s2⟩
def wT (T:Txt K mg):Sp:=fun vs H Q _=>∃ (a:Addr) (ns:List Int) (k:Int),vs=[.ref a,.int k]/\SqL K H a (ns.map V.int)/\0<=k/\∀ v,0<=v->v<10^60->Q (.int v) H
abbrev d5:Stmt:=top 48
theorem K8:FnScope ["script","k"] ["script","k"] (aa d5):=FnScope.of (by kernel_rfl)
theorem rH:NmL (aa d5) "script":=.of (by kernel_rfl)
theorem zE:NmL (aa d5) "k":=.of (by kernel_rfl)
theorem pO:NmG (aa d5) "len":=.of (by kernel_rfl)
theorem Lj (T:Txt K mg) (hq:aP (CXe P w)) {f:Addr} {fd:FuncData} (D:Df K mg "_law_cell" d5 ["script","k"] f fd):FnOk P w K mg base (CXe P w) 1 f fd ["script","k"] (wT T):=by
 refine D.F.okC K8 (fun vs H Q E h=>?_) (fun cdv A outer s H vs Q E hr h=>?_)
 . obtain ⟨a,ns,i,rfl,_⟩:=h
   rfl
 . obtain ⟨a,ns,i,rfl,ha,h0,k⟩:=h;refine ⟨_,(ak (bA (aM yW (pvl 1 zE) (bI ck pO.g T.len iH (ag (pvl 0 rH) aj) (hn:=pO.n) (hdb:=pO.d)) (aL _)) (aq (aF (av d9 (az aI (pvl 0 rH) (pvl 1 zE) (fun _ _=>rfl)) (av tX am am)))) aO) (aq (aF am))),?_⟩;rw [show L2.start ["script","k"] [V.ref a,V.int i]=[some (V.ref a),some (V.int i)] from rfl];walk_at "rd";refine ⟨_,.inl ha,?_⟩;rw [List.length_map];by_cases c:i<(ns.length:Int)
   . rw [if_pos c];have hi:i.toNat<ns.length:=(by omega);refine ixS ha (iW h0 (v:=.int ns[i.toNat]) (by rw [List.getElem?_map,List.getElem?_eq_getElem hi];rfl)) ?_;refine ⟨⟨by decide,by decide,by decide⟩,_,rfl,p60,?_⟩;exact k _ (Int.emod_nonneg _ (Int.ne_of_gt p60)) (Int.emod_lt_of_pos _ p60)
   . rw [if_neg c];exact k 0 (by decide) p60
def CB (T:Txt K mg):Sp:=fun vs H Q _=>∃ (i j:Int),vs=[.int i,.int j]/\0<=i/\0<=j/\Q (.int (i.gcd j:Int)) H
abbrev eM:Stmt:=top 59
theorem re:FnScope ["one","other","rest"] ["one","other"] (aa eM):=FnScope.of (by kernel_rfl)
theorem ow:NmL (aa eM) "one":=.of (by kernel_rfl)
theorem jK:NmL (aa eM) "other":=.of (by kernel_rfl)
theorem uO:NmL (aa eM) "rest":=.of (by kernel_rfl)
theorem LN (T:Txt K mg) (hq:aP (CXe P w)) {f:Addr} {fd:FuncData} (D:Df K mg "_law_part" eM ["one","other"] f fd):FnOk P w K mg base (CXe P w) 1 f fd ["one","other"] (CB T):=by
 refine D.F.okC re (fun vs H Q E h=>?_) (fun cdv A outer s H vs Q E hr h=>?_)
 . obtain ⟨i,j,rfl,_⟩:=h
   rfl
 . obtain ⟨i,j,rfl,i0,j0,k⟩:=h;refine ⟨_,(ak (nQ PassesOwn.never (aM EN (pvl 1 jK) am (aL _)) (ak (aw (i:=2) re.nd rfl (Or.inl uO.l) (av d9 (pvl 0 ow) (pvl 1 jK))) (ak (aw (i:=0) re.nd rfl (Or.inl ow.l) (pvl 1 jK)) (aq (aw (i:=1) re.nd rfl (Or.inl jK.l) (pvl 2 uO)))))) (aq (aF (pvl 0 ow)))),?_⟩;rw [show L2.start ["one","other","rest"] [V.int i,V.int j]=[some (V.int i),some (V.int j),none] from rfl];refine aW fun N1 h1=>?_;refine xB (fun n σ H'=>H'=H/\∃ (x y:Int) (v:Option V),n=y.toNat/\0<=x/\0<=y/\x.gcd y=i.gcd j/\σ=[some (V.int x),some (V.int y),v]) j.toNat ⟨rfl,i,j,_,rfl,i0,j0,rfl,rfl⟩ ?_;rintro n σ H' N BB hBB hN hN2 ⟨rfl,x,y,v,rfl,x0,y0,e,rfl⟩;refine hBB _ _ _ ?_;walk_at "rd";by_cases c:0<y
   . rw [if_pos c];have h2:=Int.emod_lt_of_pos x c;have h3:=Int.emod_nonneg x (Int.ne_of_gt c);refine ⟨N,fun σ' H2 w=>?_,c,hN (x % y).toNat _ _ (by omega) ⟨rfl,y,x % y,_,rfl,y0,h3,by rw [V8];exact e,rfl⟩⟩;obtain ⟨m',lt,e1,x',y',v',e2,e3,e4,e5,e6⟩:=hN2 _ _ w;exact ⟨m',lt,e1,x',y',e2,e3,e4,e5,v',e6⟩
   . have:y=0:=(by omega);subst this;rw [if_neg c];refine h1 _ _ ?_;walk_at "rd";rw [Int.gcd_zero_right] at e;rw [show x=(i.gcd j:Int) by omega];exact k
def lq (T:Txt K mg):Sp:=fun vs H Q _=>∃ (i j:Int),vs=[.int i,.int j]/\0<j/\j.natAbs<2^4000/\∀ (p q:Int) (r:Addr),Frc i j p q->H r=none->Q (.ref r) (upd H r (.tup [.int p,.int q]))
abbrev br:Stmt:=top 60
theorem vP:FnScope ["top","bottom","part"] ["top","bottom"] (aa br):=FnScope.of (by kernel_rfl)
theorem pV:NmL (aa br) "top":=.of (by kernel_rfl)
theorem mO:NmL (aa br) "bottom":=.of (by kernel_rfl)
theorem ka:NmL (aa br) "part":=.of (by kernel_rfl)
theorem lJ:NmG (aa br) "_law_part":=.of (by kernel_rfl)
theorem kM:NmG (aa br) "abs":=.of (by kernel_rfl)
theorem Ek (T:Txt K mg) (hq:aP (CXe P w)) {f:Addr} {fd:FuncData} (D:Df K mg "_law_fraction" br ["top","bottom"] f fd) {kf:Addr} {CG:FuncData} (mh:Df K mg "_law_part" eM ["one","other"] kf CG) (G_law_part:FnOk P w K mg base (CXe P w) 1 kf CG ["one","other"] (CB T)):FnOk P w K mg base (CXe P w) 2 f fd ["top","bottom"] (lq T):=by
 refine D.F.okC vP (fun vs H Q E h=>?_) (fun cdv A outer s H vs Q E hr h=>?_)
 . obtain ⟨i,j,rfl,_⟩:=h
   rfl
 . obtain ⟨i,j,rfl,j0,jb,k⟩:=h;refine ⟨_,(ak (aw (i:=2) vP.nd rfl (Or.inl ka.l) (ar G_law_part (hr.mono (by decide)) lJ.g mh.m mh.F.kp mh.b .nil (ax hq) (ag (bI Ji kM.g T.abs PX (ag (pvl 0 pV) aj) (hn:=kM.n) (hdb:=kM.d)) (ag (pvl 1 mO) aj)) (hdb:=lJ.d))) (aq (aF (bW (ag (av uc (pvl 0 pV) (pvl 2 ka)) (ag (av uc (pvl 1 mO) (pvl 2 ka)) aj)))))),?_⟩;rw [show L2.start ["top","bottom","part"] [V.int i,V.int j]=[some (V.int i),some (V.int j),none] from rfl];have jn:j≠0:=by omega
   have gp:=Int.gcd_pos_of_ne_zero_right i jn;have gl:=Int.gcd_le_natAbs_right i jn;have fr:=PR (t:=i) (b:=j) (c:=(i.gcd j:Int)) jn (Int.natAbs_natCast _) ⟨fun _=>j0,fun _=>by omega⟩;rw [Int.fdiv_eq_ediv_of_nonneg _ (by omega),Int.fdiv_eq_ediv_of_nonneg _ (by omega)] at fr;refine aW fun N1 h1=>?_;walk_at "rd";rw [Qj];refine ⟨_,j,rfl,Int.natCast_nonneg _,by omega,h1 _ _ ?_⟩;rw [Vh];walk_at "rd";have cd:∀ x:Int,Ug x (i.gcd j:Int):=fun x=>⟨by omega,uF (n:=4000) (by omega) (by rw [Int.natAbs_natCast];omega) (by decide)⟩;exact ⟨cd _,cd _,aE (by simp),fun p np=>k _ _ p fr np⟩
def uC (T:Txt K mg):Sp:=fun vs H Q _=>∃ (a b:Addr) (f g:Int × Int) (n j:Nat),vs=[.ref a,.ref b]/\H a=some (.tup [.int f.1,.int f.2])/\H b=some (.tup [.int g.1,.int g.2])/\FrB n f/\FrB j g/\n+j<=1000/\∀ (r:Addr) (f':Int × Int),H r=none->FrB (n+j+1) f'->Q (.ref r) (upd H r (.tup [.int f'.1,.int f'.2]))
abbrev dB:Stmt:=top 64
theorem KP:FnScope ["one","two"] ["one","two"] (aa dB):=FnScope.of (by kernel_rfl)
theorem nM:NmL (aa dB) "one":=.of (by kernel_rfl)
theorem mZ:NmL (aa dB) "two":=.of (by kernel_rfl)
theorem kR:NmG (aa dB) "_law_fraction":=.of (by kernel_rfl)
theorem KD (T:Txt K mg) (hq:aP (CXe P w)) {f:Addr} {fd:FuncData} (D:Df K mg "_law_added" dB ["one","two"] f fd) {bN:Addr} {dP:FuncData} (bh:Df K mg "_law_fraction" br ["top","bottom"] bN dP) (G_law_fraction:FnOk P w K mg base (CXe P w) 2 bN dP ["top","bottom"] (lq T)):FnOk P w K mg base (CXe P w) 3 f fd ["one","two"] (uC T):=by
 refine D.F.okC KP (fun vs H Q E h=>?_) (fun cdv A outer s H vs Q E hr h=>?_)
 . obtain ⟨a,b,f,g,n,j,rfl,_⟩:=h
   rfl
 . obtain ⟨a,b,f,g,n,j,rfl,ha,hb,fB,gB,nj,k⟩:=h;obtain ⟨f0,f1,f2⟩:=fB;obtain ⟨g0,g1,g2⟩:=gB;refine ⟨_,(aq (aF (ar G_law_fraction (hr.mono (by decide)) kR.g bh.m bh.F.kp bh.b .nil (ax hq) (ag (av gY (av dc (az bC (pvl 0 nM) am (fun _ _=>rfl)) (az bC (pvl 1 mZ) am (fun _ _=>rfl))) (av dc (az bC (pvl 1 mZ) am (fun _ _=>rfl)) (az bC (pvl 0 nM) am (fun _ _=>rfl)))) (ag (av dc (az bC (pvl 0 nM) am (fun _ _=>rfl)) (az bC (pvl 1 mZ) am (fun _ _=>rfl))) aj)) (hdb:=kR.d)))),?_⟩;rw [show L2.start ["one","two"] [V.ref a,V.ref b]=[some (V.ref a),some (V.ref b)] from rfl];walk_at "rd";have u:∀ {x:Int} {e:Nat},e<=4000->x.natAbs<2^e->x.natAbs<2^4000:=fun h z=>bc z h;refine ixT ha rfl (ixT hb rfl ⟨_,rfl,_,rfl,jh (u (by omega) f1) (u (by omega) g2),ixT hb rfl (ixT ha rfl ⟨_,rfl,_,rfl,jh (u (by omega) g1) (u (by omega) f2),ixT ha rfl (ixT hb rfl ⟨_,rfl,_,rfl,jh (u (by omega) f2) (u (by omega) g2),?_⟩)⟩)⟩);have d0:0<f.2*g.2:=Int.mul_pos f0 g0;have db:(f.2*g.2).natAbs<2^(n+j):=bR f2 g2;refine ⟨_,_,rfl,d0,u (by omega) db,fun x y r fr nr=>?_⟩;obtain ⟨xl,yl⟩:=lw fr (by omega);have tb:(f.1*g.2+g.1*f.2).natAbs<2^(n+j+1):=lx (bR f1 g2) (by rw [Nat.add_comm n j];exact bR g1 f2);exact k r (x,y) nr ⟨fr.pos,Nat.lt_of_le_of_lt xl tb,Nat.lt_of_le_of_lt yl (Nat.lt_of_lt_of_le db (Nat.pow_le_pow_right (by decide) (by omega)))⟩
def DL (T:Txt K mg):Sp:=fun vs H Q _=>∃ (l:Addr) (qs:List Addr) (fs:List (Int × Int)) (mid part:Int),vs=[.ref l,.int mid,.int part]/\H l=some (.lst (qs.map V.ref))/\FrsAt H qs fs/\(∀ f∈fs,FrB 340 f)/\0<=mid/\mid<fs.length/\fs.length<=6/\2<=part/\part<=20 /\
 ∀ (l':Addr) (qs':List Addr) (fs':List (Int × Int)) (H':Hp),H l'=none->Same H H'->H' l'=some (.lst (qs'.map V.ref))->FrsAt H' qs' fs'->(∀ f∈fs',FrB 400 f)->fs'.length<=100->Q (.ref l') H'
abbrev dQ:Stmt:=top 70
theorem Em:FnScope ["shares","middle","part","made"] ["shares","middle","part"] (aa dQ):=FnScope.of (by kernel_rfl)
theorem tm:NmL (aa dQ) "shares":=.of (by kernel_rfl)
theorem sS:NmL (aa dQ) "middle":=.of (by kernel_rfl)
theorem EO:NmC (aa dQ) "part":=.of (by kernel_rfl)
theorem pB:NmL (aa dQ) "made":=.of (by kernel_rfl)
theorem pF:NmG (aa dQ) "_law_added":=.of (by kernel_rfl)
theorem MW (T:Txt K mg) (hq:aP (CXe P w)) {f:Addr} {fd:FuncData} (D:Df K mg "_law_led" dQ ["shares","middle","part"] f fd) {eC:Addr} {lN:FuncData} (bn:Df K mg "_law_added" dB ["one","two"] eC lN) (G_law_added:FnOk P w K mg base (CXe P w) 3 eC lN ["one","two"] (uC T)):FnOk P w K mg base (CXe P w) 4 f fd ["shares","middle","part"] (DL T):=by
 refine D.F.okC Em (fun vs H Q E h=>?_) (fun cdv A outer s H vs Q E hr h=>?_)
 . obtain ⟨l,qs,fs,mid,part,rfl,_⟩:=h
   rfl
 . obtain ⟨l,qs,fs,mid,part,rfl,hl,fa,fB,d0,d1,f6,p2,p20,k⟩:=h;have ql:qs.length=fs.length:=Paired.length fa;refine ⟨_,(ak (tz (i:=3) Em.nd rfl pB.l rfl (gI (Nc:=["share","part"]) 1 [2] (by decide +kernel) rfl (by decide +kernel) rfl (by show ∀ (y:Str × NameKind),y∈_->y.2=NameKind.free->(aa dQ).names.lookup y.1=some NameKind.cell;decide +kernel) rfl (fun _ h=>dL h) (fun i hi=>match i,hi with|0,_=>⟨"part",2,rfl,rfl,rfl,by decide +kernel⟩|i+1,hi=>absurd hi (by show ¬ i+1<1;omega))) (iY (pvl 0 tm)) (fun _ _ _ _=>(aB (i:=0) (show (["share","part"]:List Str).Nodup from by decide +kernel) rfl (Or.inl rfl))) (fun _ _ _ _=>fK) (fun _ _ _ _=>(ar G_law_added (hr.mono (by decide)) (by rfl) bn.m bn.F.kp bn.b .nil (ax hq) (ag (pv 0) (ag (bW (ag (Ie D9 am) (ag (av oE am (pv 1)) aj))) aj))))) (ak (gZ (ar G_law_added (hr.mono (by decide)) pF.g bn.m bn.F.kp bn.b .nil (ax hq) (ag (az aI (pvl 0 tm) (pvl 1 sS) (fun _ _=>rfl)) (ag (bW (ag am (ag (pvc 2 EO) aj))) aj)) (hdb:=pF.d)) (kq (pvl 3 pB) (pvl 1 sS) gL)) (aq (aF (pvl 3 pB))))),?_⟩;rw [show L2.start ["shares","middle","part","made"] [V.ref l,V.int mid,V.int part]=[some (V.ref l),some (V.int mid),some (V.int part),none] from rfl];refine aW fun N1 h1=>?_;walk_at "rd";refine ⟨⟨_,SqL.of hl⟩,fun pc np=>?_⟩;refine iA (K:=K) (c:=true) (a:=l) (xs:=qs.map V.ref) (fun i zs σ H2=>Same H H2/\H2 pc=some (.lst zs)/\(∃ (rq:List Addr) (gs:List (Int × Int)),zs=rq.map V.ref/\gs.length=i/\FrsAt H2 rq gs/\∀ f∈gs,FrB 400 f)/\∃ v1,σ=[v1,some (V.int part)]) ⟨Same.new _ np,ah,⟨[],[],rfl,rfl,.nil,fun _ h=>nomatch h⟩,_,rfl⟩ (fun i zs σ H2 _ z=>SqL.of (z.1 _ _ hl)) ?_ ?_
   . rintro i x zs σ H2 N hN hx ⟨s2,e2,⟨rq,gs,rfl,gl,fg,gb⟩,v1,rfl⟩;rw [List.getElem?_map] at hx;obtain ⟨q,gq,rfl⟩:=Option.map_eq_some_iff.mp hx;obtain ⟨f,gf,eq⟩:=mL fa gq;have il:=(List.getElem?_eq_some_iff.mp gf).1;have rl:rq.length=gs.length:=Paired.length fg;walk_at "rd";refine ⟨.inl ⟨by decide,by decide⟩,aE (by simp),fun z nz=>?_⟩;have s3:=Same.new (.tup [V.int (-1),V.int (3*part)]) nz;have e3:upd H2 z (.tup [V.int (-1),V.int (3*part)]) z=some (.tup [V.int (-1),V.int (3*part)]):=ah;generalize upd H2 z (.tup [V.int (-1),V.int (3*part)])=H3 at s3 e3 ⊢;refine ⟨q,z,f,(-1,3*part),340,6,rfl,s3 _ _ (s2 _ _ eq),e3,fB f (List.mem_of_getElem? gf),⟨by omega,by show (-1:Int).natAbs<2^6;decide,by show (3*part).natAbs<64;omega⟩,by decide,fun r f' nr f'B=>?_⟩;have e2':=s3 _ _ e2;have nrp:r≠pc:=fun z=>by rw [z,e2'] at nr;cases nr
     have s4:=Same.new (.tup [V.int f'.1,V.int f'.2]) nr;refine ⟨s4 _ _ e2',cj (by rw [List.length_map];omega),hN _ _ _ ⟨(s2.trans (s3.trans s4)).put np _,ah,⟨rq++[r],gs++[f'],by rw [List.map_append];rfl,by rw [List.length_append,gl];rfl,?_,?_⟩,_,rfl⟩⟩
     . refine rF (.cons ?_ .nil) (Paired.imp' (fun b m hb=>?_) fg)
       . rw [ao nrp];exact ah
       . rw [ao (gv hb e2 (by intro z;cases z))];exact s4 _ _ (s3 _ _ hb)
     . intro z hz;rcases List.mem_append.mp hz with hz|hz
       . exact gb z hz
       . rw [List.mem_singleton.mp hz];exact ia f'B (by decide)
   . rintro zs σ H2 ⟨s2,e2,⟨rq,gs,rfl,gl,fg,gb⟩,v1,rfl⟩;rw [List.length_map,ql] at gl;refine h1 _ _ ?_;walk_at "rd";obtain ⟨q1,g1,x1,y1,z1⟩:=BL fa d0 d1;refine ixL (s2 _ _ hl) x1 ⟨aE (by simp),fun z nz=>?_⟩;have s3:=Same.new (.tup [V.int 1,V.int part]) nz;have e3:upd H2 z (.tup [V.int 1,V.int part]) z=some (.tup [V.int 1,V.int part]):=ah;generalize upd H2 z (.tup [V.int 1,V.int part])=H3 at s3 e3 ⊢;refine ⟨q1,z,g1,(1,part),340,6,rfl,s3 _ _ (s2 _ _ y1),e3,fB g1 z1,⟨by omega,by show (1:Int).natAbs<2^6;decide,by show part.natAbs<64;omega⟩,by decide,fun r f' nr f'B=>?_⟩;have s4:=Same.new (.tup [V.int f'.1,V.int f'.2]) nr;have e4:upd H3 r (.tup [V.int f'.1,V.int f'.2]) r=some (.tup [V.int f'.1,V.int f'.2]):=ah;generalize upd H3 r (.tup [V.int f'.1,V.int f'.2])=H4 at s4 e4 ⊢;have s34:=s3.trans s4;refine xo (s34 _ _ e2) (FrsAt.same s34 fg) d0 (by omega) e4 fun G' kp ea fg'=>k pc _ _ G' np (fun b o z=>kp _ _ (s34 _ _ (s2 _ _ z)) (aG z np)) ea fg' (tK gb (ia f'B (by decide))) (by rw [List.length_set];omega)
def zS (T:Txt K mg):Sp:=fun vs H Q _=>∃ (l b:Addr) (qs:List Addr) (fs:List (Int × Int)) (g:Int × Int),vs=[.ref l,.ref b]/\H l=some (.lst (qs.map V.ref))/\FrsAt H qs fs/\H b=some (.tup [.int g.1,.int g.2])/\(∀ f∈fs,FrB 340 f)/\FrB 2 g/\fs.length<=100/\∀ (l':Addr) (qs':List Addr) (fs':List (Int × Int)) (H':Hp),H l'=none->Same H H'->H' l'=some (.lst (qs'.map V.ref))->FrsAt H' qs' fs'->(∀ f∈fs',FrB 400 f)->fs'.length=fs.length->Q (.ref l') H'
abbrev dz:Stmt:=top 66
theorem HX:FnScope ["shares","by"] ["shares","by"] (aa dz):=FnScope.of (by kernel_rfl)
theorem yG:NmL (aa dz) "shares":=.of (by kernel_rfl)
theorem QR:NmC (aa dz) "by":=.of (by kernel_rfl)
theorem GL (T:Txt K mg) (hq:aP (CXe P w)) {f:Addr} {fd:FuncData} (D:Df K mg "_law_scaled" dz ["shares","by"] f fd) {bN:Addr} {dP:FuncData} (bh:Df K mg "_law_fraction" br ["top","bottom"] bN dP) (G_law_fraction:FnOk P w K mg base (CXe P w) 2 bN dP ["top","bottom"] (lq T)):FnOk P w K mg base (CXe P w) 3 f fd ["shares","by"] (zS T):=by
 refine D.F.okC HX (fun vs H Q E h=>?_) (fun cdv A outer s H vs Q E hr h=>?_)
 . obtain ⟨l,b,qs,fs,g,rfl,_⟩:=h
   rfl
 . obtain ⟨l,b,qs,fs,g,rfl,hl,fa,hb,fB,gB,len,k⟩:=h;have ql:qs.length=fs.length:=Paired.length fa;obtain ⟨g0,g1,g2⟩:=gB;refine ⟨_,(aq (aF (fM rfl (gI (Nc:=["one","by"]) 1 [1] (by decide +kernel) rfl (by decide +kernel) rfl (by show ∀ (y:Str × NameKind),y∈_->y.2=NameKind.free->(aa dz).names.lookup y.1=some NameKind.cell;decide +kernel) rfl (fun _ h=>dL h) (fun i hi=>match i,hi with|0,_=>⟨"by",1,rfl,rfl,rfl,by decide +kernel⟩|i+1,hi=>absurd hi (by show ¬ i+1<1;omega))) (iY (pvl 0 yG)) (fun _ _ _ _=>(aB (i:=0) (show (["one","by"]:List Str).Nodup from by decide +kernel) rfl (Or.inl rfl))) (fun _ _ _ _=>fK) (fun _ _ _ _=>(ar G_law_fraction (hr.mono (by decide)) (by rfl) bh.m bh.F.kp bh.b .nil (ax hq) (ag (av dc (az (mq K rfl) (pv 0) am (fun _ _=>rfl)) (az (mq K rfl) (pv 1) am (fun _ _=>rfl))) (ag (av dc (az (mq K rfl) (pv 0) am (fun _ _=>rfl)) (az (mq K rfl) (pv 1) am (fun _ _=>rfl))) aj))))))),?_⟩;rw [show L2.start ["shares","by"] [V.ref l,V.ref b]=[some (V.ref l),some (V.ref b)] from rfl];walk_at "rd";refine ⟨⟨_,SqL.of hl⟩,fun pc np=>?_⟩;refine iA (K:=K) (c:=true) (a:=l) (xs:=qs.map V.ref) (fun i zs σ H2=>Same H H2/\H2 pc=some (.lst zs)/\(∃ (rq:List Addr) (gs:List (Int × Int)),zs=rq.map V.ref/\gs.length=i/\FrsAt H2 rq gs/\∀ f∈gs,FrB 400 f)/\∃ v1,σ=[v1,some (V.ref b)]) ⟨Same.new _ np,ah,⟨[],[],rfl,rfl,.nil,fun _ h=>nomatch h⟩,_,rfl⟩ (fun i zs σ H2 _ z=>SqL.of (z.1 _ _ hl)) ?_ ?_
   . rintro i x zs σ H2 N hN hx ⟨s2,e2,⟨rq,gs,rfl,gl,fg,gb⟩,v1,rfl⟩;rw [List.getElem?_map] at hx;obtain ⟨q,gq,rfl⟩:=Option.map_eq_some_iff.mp hx;obtain ⟨f,gf,eq⟩:=mL fa gq;have il:=(List.getElem?_eq_some_iff.mp gf).1;obtain ⟨f0,f1,f2⟩:=fB f (List.mem_of_getElem? gf);have rl:rq.length=gs.length:=Paired.length fg;have eq2:=s2 _ _ eq;have eb2:=s2 _ _ hb;walk_at "rd";have u:∀ {x:Int} {e:Nat},e<=4000->x.natAbs<2^e->x.natAbs<2^4000:=fun h z=>bc z h;refine ixT eq2 rfl (ixT eb2 rfl ⟨_,rfl,_,rfl,jh (u (by decide) f1) (u (by decide) g1),ixT eq2 rfl (ixT eb2 rfl ⟨_,rfl,_,rfl,jh (u (by decide) f2) (u (by decide) g2),?_⟩)⟩);have d0:0<f.2*g.2:=Int.mul_pos f0 g0;have db:(f.2*g.2).natAbs<2^(340+2):=bR f2 g2;have tb:(f.1*g.1).natAbs<2^(340+2):=bR f1 g1;refine ⟨_,_,rfl,d0,u (by decide) db,fun x y r fr nr=>?_⟩;obtain ⟨xl,yl⟩:=lw fr (by omega);have nrp:r≠pc:=fun z=>by rw [z,e2] at nr;cases nr
     have s4:=Same.new (.tup [V.int x,V.int y]) nr;refine ⟨s4 _ _ e2,cj (by rw [List.length_map];omega),hN _ _ _ ⟨(s2.trans s4).put np _,ah,⟨rq++[r],gs++[(x,y)],by rw [List.map_append];rfl,by rw [List.length_append,gl];rfl,?_,?_⟩,_,rfl⟩⟩
     . refine rF (.cons ?_ .nil) (Paired.imp' (fun b m hb=>?_) fg)
       . rw [ao nrp];exact ah
       . rw [ao (gv hb e2 (by intro z;cases z))];exact s4 _ _ hb
     . intro z hz;rcases List.mem_append.mp hz with hz|hz
       . exact gb z hz
       . rw [List.mem_singleton.mp hz];exact ⟨fr.pos,Nat.lt_of_le_of_lt xl (Nat.lt_of_lt_of_le tb (Nat.pow_le_pow_right (by decide) (by decide))),Nat.lt_of_le_of_lt yl (Nat.lt_of_lt_of_le db (Nat.pow_le_pow_right (by decide) (by decide)))⟩
   . rintro zs σ H2 ⟨s2,e2,⟨rq,gs,rfl,gl,fg,gb⟩,v1,rfl⟩;rw [List.length_map,ql] at gl;exact k pc rq gs H2 np s2 e2 fg gb gl
def jv (T:Txt K mg):Sp:=fun vs H Q _=>∃ (p:Addr) (m n:Int),vs=[.ref p,.int n]/\H p=some (.lst [.int m])/\0<n/\(n<1073741824\/n.natAbs<2^4000)/\Q (.int (m % n)) (upd H p (.lst [.int (m / n)]))
abbrev cU:Stmt:=top 51
theorem CA:FnScope ["pot","n","found"] ["pot","n"] (aa cU):=FnScope.of (by kernel_rfl)
theorem pD:NmL (aa cU) "pot":=.of (by kernel_rfl)
theorem zw:NmL (aa cU) "n":=.of (by kernel_rfl)
theorem sP:NmL (aa cU) "found":=.of (by kernel_rfl)
theorem LW (T:Txt K mg) (hq:aP (CXe P w)) {f:Addr} {fd:FuncData} (D:Df K mg "_law_take" cU ["pot","n"] f fd):FnOk P w K mg base (CXe P w) 1 f fd ["pot","n"] (jv T):=by
 refine D.F.okC CA (fun vs H Q E h=>?_) (fun cdv A outer s H vs Q E hr h=>?_)
 . obtain ⟨p,m,n,rfl,_⟩:=h
   rfl
 . obtain ⟨p,m,n,rfl,hp,h0,h1,k⟩:=h;have h1:n.natAbs<2^4000:=h1.elim (fun h=>bc (m:=30) (by omega) (by decide)) id;refine ⟨_,(ak (aw (i:=2) CA.nd rfl (Or.inl sP.l) (av d9 (az aI (pvl 0 pD) am (fun _ _=>rfl)) (pvl 1 zw))) (ak (gZ (av uc (az aI (pvl 0 pD) am (fun _ _=>rfl)) (pvl 1 zw)) (kq (pvl 0 pD) am gL)) (aq (aF (pvl 2 sP))))),?_⟩;rw [show L2.start ["pot","n","found"] [V.ref p,V.int n]=[some (V.ref p),some (V.int n),none] from rfl];walk_at "rd";refine ixL hp rfl ⟨m,rfl,h0,?_⟩;refine ixL hp rfl ⟨m,rfl,⟨h0,uF (by omega) h1 (by decide)⟩,?_⟩;exact ⟨p,_,0,0,rfl,rfl,hp,rfl,k⟩
def Bh (T:Txt K mg):Sp:=fun vs H Q _=>∃ (p:Addr) (m:Int) (gr:Bool),vs=[.ref p,.bl gr]/\H p=some (.lst [.int m])/\∀ (f:Int × Int) (r:Addr) (m':Int) (H':Hp),FrB 90 f->f.1.gcd f.2=1->H r=none->H' r=some (.tup [.int f.1,.int f.2])->H' p=some (.lst [.int m'])->(∀ b o,H b=some o->b≠p->H' b=some o)->Q (.ref r) H'
abbrev cw:Stmt:=top 61
theorem uS:FnScope ["pot","great","far","top"] ["pot","great"] (aa cw):=FnScope.of (by kernel_rfl)
theorem mW:NmL (aa cw) "pot":=.of (by kernel_rfl)
theorem Bc:NmL (aa cw) "great":=.of (by kernel_rfl)
theorem j5:NmL (aa cw) "far":=.of (by kernel_rfl)
theorem uM:NmL (aa cw) "top":=.of (by kernel_rfl)
theorem nK:NmG (aa cw) "int":=.of (by kernel_rfl)
theorem dk:NmG (aa cw) "_law_take":=.of (by kernel_rfl)
theorem lg:NmG (aa cw) "_law_fraction":=.of (by kernel_rfl)
theorem Ja (T:Txt K mg) (hq:aP (CXe P w)) {f:Addr} {fd:FuncData} (D:Df K mg "_law_drawn" cw ["pot","great"] f fd) {bN:Addr} {dP:FuncData} (bh:Df K mg "_law_fraction" br ["top","bottom"] bN dP) (G_law_fraction:FnOk P w K mg base (CXe P w) 2 bN dP ["top","bottom"] (lq T)) {bJ:Addr} {cL:FuncData} (au:Df K mg "_law_take" cU ["pot","n"] bJ cL) (G_law_take:FnOk P w K mg base (CXe P w) 1 bJ cL ["pot","n"] (jv T)):FnOk P w K mg base (CXe P w) 3 f fd ["pot","great"] (Bh T):=by
 refine D.F.okC uS (fun vs H Q E h=>?_) (fun cdv A outer s H vs Q E hr h=>?_)
 . obtain ⟨p,m,gr,rfl,_⟩:=h
   rfl
 . obtain ⟨p,m,gr,rfl,hp,k⟩:=h;refine ⟨_,(ak (aw (i:=2) uS.nd rfl (Or.inl j5.l) (az aI (bj (ag am (ag am (ag (az aI (bj (ag am (ag (av tX am am) aj))) (fi Gw nK.g T.int P5 (ag (pvl 1 Bc) aj) (hn:=nK.n) (hdb:=nK.d)) (fun _ _=>rfl)) aj)))) (ar G_law_take (hr.mono (by decide)) dk.g au.m au.F.kp au.b .nil (ax hq) (ag (pvl 0 mW) (ag am aj)) (hdb:=dk.d)) (fun _ _=>rfl))) (ak (aw (i:=3) uS.nd rfl (Or.inl uM.l) (av Ah (ar G_law_take (hr.mono (by decide)) dk.g au.m au.F.kp au.b .nil (ax hq) (ag (pvl 0 mW) (ag (av gY (av oE am (pvl 2 j5)) am) aj)) (hdb:=dk.d)) (pvl 2 j5))) (aq (aF (ar G_law_fraction (hr.mono (by decide)) lg.g bh.m bh.F.kp bh.b .nil (ax hq) (ag (pvl 3 uM) (ag (av gY am (ar G_law_take (hr.mono (by decide)) dk.g au.m au.F.kp au.b .nil (ax hq) (ag (pvl 0 mW) (ag (pvl 2 j5) aj)) (hdb:=dk.d))) aj)) (hdb:=lg.d)))))),?_⟩;rw [show L2.start ["pot","great","far","top"] [V.ref p,V.bl gr]=[some (V.ref p),some (V.bl gr),none,none] from rfl];refine aW fun N1 h1=>?_;walk_at "rd";obtain ⟨G,eG,G0,G1⟩:∃ G:Int,atI [V.int 12,V.int (10^Int.toNat 25)] (if gr=true then 1 else 0)=some (.int G)/\0<G/\G<=10^25:=by
     cases gr
     . exact ⟨12,rfl,by decide,by decide⟩
     . exact ⟨10^25,rfl,by decide,by decide⟩
   refine ⟨⟨by decide,by decide,by decide⟩,aE (by simp),fun l1 n1=>.inr (ixL ah eG ⟨aE (by simp),fun l2 n2=>?_⟩)⟩;have t1:=Same.new (.lst [V.int 12,V.int (10^Int.toNat 25)]) n1;have hp1:=t1 _ _ hp;have t2:=t1.trans (Same.new (.lst [V.int 9,V.int 40,V.int G]) n2);have hp2:=t2 _ _ hp;have el:upd (upd H l1 (.lst [V.int 12,V.int (10^Int.toNat 25)])) l2 (.lst [V.int 9,V.int 40,V.int G]) l2=some (.lst [V.int 9,V.int 40,V.int G]):=ah;generalize upd (upd H l1 (.lst [V.int 12,V.int (10^Int.toNat 25)])) l2 (.lst [V.int 9,V.int 40,V.int G])=H2 at t2 hp2 el ⊢;refine ⟨p,m,3,rfl,hp2,by decide,by decide,?_⟩;have ne:l2≠p:=gv el hp2 (by intro z;cases z);have kp:∀ z b o,H b=some o->b≠p->upd H2 p z b=some o:=fun z b o e nb=>by rw [ao nb];exact t2 _ _ e
   obtain ⟨far,hf,f0,f1⟩:∃ far:Int,atI [V.int 9,V.int 40,V.int G] (m % 3)=some (.int far)/\0<far/\far<=10^25:=by
     rcases (show m % 3=0\/m % 3=1\/m % 3=2 by omega) with z|z|z <;> rw [z]
     . exact ⟨_,rfl,by decide,by decide⟩
     . exact ⟨_,rfl,by decide,by decide⟩
     . exact ⟨_,rfl,G0,G1⟩
   refine ixL (by rw [ao ne];exact el) hf (h1 _ _ (aW fun N2 h2=>?_));have b1:(2*far+1).natAbs<2^4000:=bc (m:=90) (by omega) (by decide);have b2:far.natAbs<2^4000:=bc (m:=90) (by omega) (by decide);walk_at "rd";refine ⟨.inl ⟨by decide,by decide⟩,p,m / 3,2*far+1,rfl,ah,by omega,.inr b1,_,rfl,h2 _ _ ?_⟩;rw [iV];have q0:=Int.emod_nonneg (m / 3) (show 2*far+1≠0 by omega);have q1:=Int.emod_lt_of_pos (m / 3) (show 0<2*far+1 by omega);generalize m / 3 % (2*far+1)=tp at q0 q1 ⊢;generalize m / 3 / (2*far+1)=m2;walk_at "rd";refine ⟨p,m2,far,rfl,ah,f0,.inr b2,?_⟩;rw [iV];have w0:=Int.emod_nonneg m2 (show far≠0 by omega);have w1:=Int.emod_lt_of_pos m2 f0;generalize m2 % far=bt at w0 w1 ⊢;generalize m2 / far=m3;refine ⟨_,rfl,tp - far,1+bt,rfl,by omega,bc (m:=90) (by omega) (by decide),fun x y r fr nr=>?_⟩;obtain ⟨pl,ql⟩:=lw fr (by omega);have nrp:r≠p:=fun z=>by rw [z,ah] at nr;cases nr
   have nr2:H2 r=none:=by rw [ao nrp] at nr;exact nr
   exact k (x,y) r m3 _ ⟨fr.pos,by show x.natAbs<2^90;omega,by show y.natAbs<2^90;omega⟩ fr.one (t2.free nr2) ah (by rw [ao nrp.symm];exact ah) fun b o e nb=>by rw [ao (aG (t2 _ _ e) nr2)];exact kp _ b o e nb
/-- the state behind the rows for the kinds up to j: as it was,or turned -/
def yQ (p:Addr) (H H5:Hp) (a:Addr) (qs:List Addr) (fs:List (Int × Int)) (kind:Int) (l:Addr) (at_ to:Int) (tb o:Addr) (j:Int) (σ:St) (G:Hp):Prop :=
 (¬ (j<kind/\kind<=6)/\∃ (a':Addr) (qs':List Addr) (fs':List (Int × Int)) (w:Int) (v:Option V),Bar p H G/\G p=some (.lst [.int w])/\H a'=none/\G a'=some (.lst (qs'.map V.ref))/\FrsAt G qs' fs'/\(∀ f∈fs',FrB 400 f)/\fs'.length<=100/\σ=[some (V.ref l),some (V.int kind),some (V.ref p),some (V.ref a'),some (V.int at_),some (V.int to),some (V.ref tb),some (V.ref o),v]) \/
 (G=H5/\σ=[some (V.ref l),some (V.int kind),some (V.ref p),some (V.ref a),some (V.int at_),some (V.int to),some (V.ref tb),some (V.ref o),none])
def rP (T:Txt K mg):Sp:=fun vs H Q _=>∃ (l p:Addr) (qs:List Addr) (fs:List (Int × Int)) (kind w:Int),vs=[.ref l,.int kind,.ref p]/\H p=some (.lst [.int w])/\H l=some (.lst (qs.map V.ref))/\l≠p/\FrsAt H qs fs/\(∀ f∈fs,FrB 340 f)/\1<=fs.length/\fs.length<=6 /\
 ∀ (l':Addr) (qs':List Addr) (fs':List (Int × Int)) (w':Int) (H':Hp),H l'=none->Bar p H H'->H' p=some (.lst [.int w'])->H' l'=some (.lst (qs'.map V.ref))->FrsAt H' qs' fs'->(∀ f∈fs',FrB 400 f)->fs'.length<=100->Q (.ref l') H'
abbrev aQ:Stmt:=top 65
theorem dD:FnScope ["shares","kind","pot","made","at","to","bit","off","kept"] ["shares","kind","pot"] (aa aQ):=FnScope.of (by kernel_rfl)
theorem yZ:NmL (aa aQ) "shares":=.of (by kernel_rfl)
theorem d8:NmL (aa aQ) "kind":=.of (by kernel_rfl)
theorem gX:NmC (aa aQ) "pot":=.of (by kernel_rfl)
theorem ay:NmL (aa aQ) "made":=.of (by kernel_rfl)
theorem bX:NmL (aa aQ) "at":=.of (by kernel_rfl)
theorem iC:NmL (aa aQ) "to":=.of (by kernel_rfl)
theorem fe:NmL (aa aQ) "bit":=.of (by kernel_rfl)
theorem mE:NmL (aa aQ) "off":=.of (by kernel_rfl)
theorem rm:NmL (aa aQ) "kept":=.of (by kernel_rfl)
theorem lS:NmG (aa aQ) "list":=.of (by kernel_rfl)
theorem bd:NmG (aa aQ) "_law_take":=.of (by kernel_rfl)
theorem fh:NmG (aa aQ) "len":=.of (by kernel_rfl)
theorem cS:NmG (aa aQ) "_law_added":=.of (by kernel_rfl)
theorem Hl (T:Txt K mg) (hq:aP (CXe P w)) {f:Addr} {fd:FuncData} (D:Df K mg "_law_turned" aQ ["shares","kind","pot"] f fd) {eC:Addr} {lN:FuncData} (bn:Df K mg "_law_added" dB ["one","two"] eC lN) (G_law_added:FnOk P w K mg base (CXe P w) 3 eC lN ["one","two"] (uC T)) {jB:Addr} {Bo:FuncData} (kC:Df K mg "_law_drawn" cw ["pot","great"] jB Bo) (G_law_drawn:FnOk P w K mg base (CXe P w) 3 jB Bo ["pot","great"] (Bh T)) {bJ:Addr} {cL:FuncData} (au:Df K mg "_law_take" cU ["pot","n"] bJ cL) (G_law_take:FnOk P w K mg base (CXe P w) 1 bJ cL ["pot","n"] (jv T)):FnOk P w K mg base (CXe P w) 4 f fd ["shares","kind","pot"] (rP T):=by
 refine D.F.okC dD (fun vs H Q E h=>?_) (fun cdv A outer s H vs Q E hr h=>?_)
 . obtain ⟨l,p,qs,fs,kind,w,rfl,_⟩:=h
   rfl
 . obtain ⟨l,p,qs,fs,kind,w,rfl,hp,hl,lp,fa,fB,f1,f6,k⟩:=h;have ql:qs.length=fs.length:=Paired.length fa;refine ⟨_,(ak (aw (i:=3) dD.nd rfl (Or.inl ay.l) (fi jU lS.g T.list tJ (ag (pvl 0 yZ) aj) (hn:=lS.n) (hdb:=lS.d))) (ak (aw (i:=4) dD.nd rfl (Or.inl bX.l) (ar G_law_take (hr.mono (by decide)) bd.g au.m au.F.kp au.b .nil (ax hq) (ag (pvc 2 gX) (ag (bI ck fh.g T.len iH (ag (pvl 3 ay) aj) (hn:=fh.n) (hdb:=fh.d)) aj)) (hdb:=bd.d))) (ak (aw (i:=5) dD.nd rfl (Or.inl iC.l) (ar G_law_take (hr.mono (by decide)) bd.g au.m au.F.kp au.b .nil (ax hq) (ag (pvc 2 gX) (ag (bI ck fh.g T.len iH (ag (pvl 3 ay) aj) (hn:=fh.n) (hdb:=fh.d)) aj)) (hdb:=bd.d))) (ak (aw (i:=6) dD.nd rfl (Or.inl fe.l) (az aI (bj (ag (bW (ag am (ag am aj))) (ag (bW (ag am (ag am aj))) (ag (bW (ag am (ag am aj))) aj)))) (ar G_law_take (hr.mono (by decide)) bd.g au.m au.F.kp au.b .nil (ax hq) (ag (pvc 2 gX) (ag am aj)) (hdb:=bd.d)) (fun _ _=>rfl))) (ak (aw (i:=7) dD.nd rfl (Or.inl mE.l) (bW (ag (av oE (Ie D9 am) (az bC (pvl 6 fe) am (fun _ _=>rfl))) (ag (az bC (pvl 6 fe) am (fun _ _=>rfl)) aj)))) (ak (bA (aM dv (pvl 1 d8) am (aL _)) (aq (gZ (ar G_law_added (hr.mono (by decide)) cS.g bn.m bn.F.kp bn.b .nil (ax hq) (ag (az aI (pvl 3 ay) (pvl 4 bX) (fun _ _=>rfl)) (ag (az aI (bj (ag (pvl 6 fe) (ag (pvl 7 mE) aj))) (ar G_law_take (hr.mono (by decide)) bd.g au.m au.F.kp au.b .nil (ax hq) (ag (pvc 2 gX) (ag am aj)) (hdb:=bd.d)) (fun _ _=>rfl)) aj)) (hdb:=cS.d)) (kq (pvl 3 ay) (pvl 4 bX) gL))) aO) (ak (bA (aM dv (pvl 1 d8) am (aL _)) (ak (aw (i:=8) dD.nd rfl (Or.inl rm.l) (az aI (pvl 3 ay) (pvl 4 bX) (fun _ _=>rfl))) (ak (gZ (az aI (pvl 3 ay) (pvl 5 iC) (fun _ _=>rfl)) (kq (pvl 3 ay) (pvl 4 bX) gL)) (aq (gZ (pvl 8 rm) (kq (pvl 3 ay) (pvl 5 iC) gL))))) aO) (ak (bA (aM dv (pvl 1 d8) am (aL _)) (ak (gZ (ar G_law_added (hr.mono (by decide)) cS.g bn.m bn.F.kp bn.b .nil (ax hq) (ag (az aI (pvl 3 ay) (pvl 4 bX) (fun _ _=>rfl)) (ag (pvl 6 fe) aj)) (hdb:=cS.d)) (kq (pvl 3 ay) (pvl 4 bX) gL)) (aq (gZ (ar G_law_added (hr.mono (by decide)) cS.g bn.m bn.F.kp bn.b .nil (ax hq) (ag (az aI (pvl 3 ay) (pvl 5 iC) (fun _ _=>rfl)) (ag (pvl 7 mE) aj)) (hdb:=cS.d)) (kq (pvl 3 ay) (pvl 5 iC) gL)))) aO) (ak (bA (aM dv (pvl 1 d8) am (aL _)) (aq (aw (i:=3) dD.nd rfl (Or.inl ay.l) (az aI (bj (ag (qF tN (pvl 3 ay) (tH am) tF) (ag (av xc (pvl 3 ay) (bj (ag (bW (ag am (ag am aj))) aj))) (ag (av xc (qF tN (pvl 3 ay) tF (tH (pvl 4 bX))) (qF tN (pvl 3 ay) (tH (av gY (pvl 4 bX) am)) tF)) (ag (av xc (av xc (qF tN (pvl 3 ay) tF (tH (pvl 4 bX))) (bj (ag (pvl 6 fe) aj))) (qF tN (pvl 3 ay) (tH (pvl 4 bX)) tF)) aj))))) (ar G_law_take (hr.mono (by decide)) bd.g au.m au.F.kp au.b .nil (ax hq) (ag (pvc 2 gX) (ag am aj)) (hdb:=bd.d)) (fun _ _=>rfl)))) aO) (ak (bA (aM dv (pvl 1 d8) am (aL _)) (aq (tz (i:=3) dD.nd rfl ay.l rfl (gI (Nc:=["share","pot"]) 1 [2] (by decide +kernel) rfl (by decide +kernel) rfl (by show ∀ (y:Str × NameKind),y∈_->y.2=NameKind.free->(aa aQ).names.lookup y.1=some NameKind.cell;decide +kernel) rfl (fun _ h=>dL h) (fun i hi=>match i,hi with|0,_=>⟨"pot",2,rfl,rfl,rfl,by decide +kernel⟩|i+1,hi=>absurd hi (by show ¬ i+1<1;omega))) (iY (pvl 3 ay)) (fun _ _ _ _=>(aB (i:=0) (show (["share","pot"]:List Str).Nodup from by decide +kernel) rfl (Or.inl rfl))) (fun _ _ _ _=>fK) (fun _ _ _ _=>(ar G_law_drawn (hr.mono (by decide)) (by rfl) kC.m kC.F.kp kC.b .nil (ax hq) (ag (pv 1) (ag jH aj)))))) aO) (ak (bA (aM dv (pvl 1 d8) am (aL _)) (aq (tz (i:=3) dD.nd rfl ay.l rfl (uE (Nc:=["share"]) 1 (by decide +kernel) (by decide +kernel) rfl (by decide +kernel) rfl) (iY (pvl 3 ay)) (fun _ _ _ _=>(aB (i:=0) (show (["share"]:List Str).Nodup from by decide +kernel) rfl (Or.inl rfl))) (fun _ _ _ _=>fK) (fun _ _ _ _=>(bW (ag am (ag am aj)))))) aO) (aq (aF (pvl 3 ay)))))))))))))),?_⟩;rw [show L2.start ["shares","kind","pot","made","at","to","bit","off","kept"] [V.ref l,V.int kind,V.ref p]=[some (V.ref l),some (V.int kind),some (V.ref p),none,none,none,none,none,none] from rfl];unfold tSl Oc tNoPart;refine aW fun N1 h1=>?_;walk_at "rd";refine ⟨_,.inl (SqL.of hl),fun a na=>?_⟩;have ap:a≠p:=fun z=>by rw [z,hp] at na;cases na
   have b1:Bar p H (upd H a (.lst (qs.map V.ref))):=(Bar.refl p H).put na _;have hp1:upd H a (.lst (qs.map V.ref)) p=some (.lst [.int w]):=by rw [ao ap.symm];exact hp
   have ha1:upd H a (.lst (qs.map V.ref)) a=some (.lst (qs.map V.ref)):=ah;have fa1:FrsAt (upd H a (.lst (qs.map V.ref))) qs fs:=FrsAt.same (Same.new _ na) fa;generalize upd H a (.lst (qs.map V.ref))=H1 at b1 hp1 ha1 fa1 ⊢;refine h1 _ _ (aW fun N2 h2=>?_);walk_at "rd";have z0:(0:Int)<(fs.length:Int):=by omega
   refine ⟨_,.inl (SqL.of ha1),?_⟩;rw [List.length_map,ql];refine ⟨p,w,_,rfl,hp1,z0,.inl (by omega),h2 _ _ (aW fun N3 h3=>?_)⟩;have rg:=BD w z0;generalize w % (fs.length:Int)=at_ at rg ⊢;generalize w / (fs.length:Int)=w1;walk_at "rd";refine ⟨_,.inl (SqL.of (show upd H1 p (.lst [.int w1]) a=some (.lst (qs.map V.ref)) by rw [ao ap];exact ha1)),?_⟩;rw [List.length_map,ql];refine ⟨p,w1,_,rfl,ah,z0,.inl (by omega),h3 _ _ (aW fun N4 h4=>?_)⟩;rw [iV];have rg2:=BD w1 z0;generalize w1 % (fs.length:Int)=to at rg2 ⊢;generalize w1 / (fs.length:Int)=w2;have b2:=b1.pot (.lst [.int w2]);have hp2:upd H1 p (.lst [.int w2]) p=some (.lst [.int w2]):=ah;have ha2:upd H1 p (.lst [.int w2]) a=some (.lst (qs.map V.ref)):=by rw [ao ap];exact ha1
   generalize upd H1 p (.lst [.int w2])=H2 at b2 hp2 ha2 ⊢;clear b1 hp1 ha1 fa1;walk_at "rd";refine ⟨aE (by simp),fun t1 m1=>⟨aE (by simp),fun t2 m2=>⟨aE (by simp),fun t3 m3=>⟨aE (by simp),fun t4 m4=>?_⟩⟩⟩⟩;have s1:=Same.new (.tup [V.int 1,V.int 1]) m1;have s2:=Same.new (.tup [V.int 1,V.int 7]) m2;have s3:=Same.new (.tup [V.int 1,V.int 1000003]) m3;have s4:=Same.new (.lst [V.ref t1,V.ref t2,V.ref t3]) m4;have e1:=s4 _ _ (s3 _ _ (s2 _ _ (ah (H:=H2) (a:=t1) (o:=.tup [V.int 1,V.int 1]))));have e2:=s4 _ _ (s3 _ _ (ah (H:=upd H2 t1 (.tup [V.int 1,V.int 1])) (a:=t2) (o:=.tup [V.int 1,V.int 7])));have e3:=s4 _ _ (ah (H:=upd (upd H2 t1 (.tup [V.int 1,V.int 1])) t2 (.tup [V.int 1,V.int 7])) (a:=t3) (o:=.tup [V.int 1,V.int 1000003]));have e4:upd (upd (upd (upd H2 t1 (HO.tup [V.int 1,V.int 1])) t2 (HO.tup [V.int 1,V.int 7])) t3 (HO.tup [V.int 1,V.int 1000003])) t4 (HO.lst [V.ref t1,V.ref t2,V.ref t3]) t4=some (HO.lst [V.ref t1,V.ref t2,V.ref t3]):=ah;have s:=s1.trans (s2.trans (s3.trans s4));generalize upd (upd (upd (upd H2 t1 (HO.tup [V.int 1,V.int 1])) t2 (HO.tup [V.int 1,V.int 7])) t3 (HO.tup [V.int 1,V.int 1000003])) t4 (HO.lst [V.ref t1,V.ref t2,V.ref t3])=H3 at e1 e2 e3 e4 s ⊢;clear s1 s2 s3 s4 m1 m2 m3 m4;have n4:t4≠p:=fun z=>by rw [z,s _ _ hp2] at e4;cases e4
   refine ⟨p,w2,3,rfl,s _ _ hp2,by decide,.inl (by decide),?_⟩;obtain ⟨tb,bf,hbv,ebv,bB⟩:∃ (tb:Addr) (bf:Int × Int),atI [V.ref t1,V.ref t2,V.ref t3] (w2 % 3)=some (.ref tb)/\H3 tb=some (.tup [.int bf.1,.int bf.2])/\FrB 20 bf:=by
     rcases (show w2 % 3=0\/w2 % 3=1\/w2 % 3=2 by omega) with z|z|z <;> rw [z]
     . exact ⟨t1,(1,1),rfl,e1,by decide,by decide,by decide⟩
     . exact ⟨t2,(1,7),rfl,e2,by decide,by decide,by decide⟩
     . exact ⟨t3,(1,1000003),rfl,e3,by decide,by decide,by decide⟩
   refine ixL (by rw [ao n4];exact e4) hbv (h4 _ _ (aW fun N5 h5=>?_));have nb:tb≠p:=fun z=>by rw [z,s _ _ hp2] at ebv;cases ebv
   have b3:=(b2.same s).pot (.lst [.int (w2 / 3)]);have hp3:upd H3 p (.lst [.int (w2 / 3)]) p=some (.lst [.int (w2 / 3)]):=ah;have ha3:upd H3 p (.lst [.int (w2 / 3)]) a=some (.lst (qs.map V.ref)):=by rw [ao ap];exact s _ _ ha2
   have eb3:upd H3 p (.lst [.int (w2 / 3)]) tb=some (.tup [.int bf.1,.int bf.2]):=by rw [ao nb];exact ebv
   generalize upd H3 p (.lst [.int (w2 / 3)])=H4 at b3 hp3 ha3 eb3 ⊢;generalize w2 / 3=w3 at hp3;clear b2 hp2 ha2 s e1 e2 e3 e4 ebv;walk_at "rd";have cm:CMul (-1) bf.1:=.inl ⟨by decide,by decide⟩;refine ixT eb3 rfl ⟨_,rfl,cm,ixT eb3 rfl ⟨aE (by simp),fun o no=>h5 _ _ ?_⟩⟩;have s5:=Same.new (.tup [V.int (-1*bf.1),V.int bf.2]) no;have eo5:upd H4 o (.tup [V.int (-1*bf.1),V.int bf.2]) o=some (.tup [V.int (-1*bf.1),V.int bf.2]):=ah;generalize upd H4 o (.tup [V.int (-1*bf.1),V.int bf.2])=H5 at s5 eo5 ⊢;have b5:=b3.same s5;have hp5:=s5 _ _ hp3;have ha5:=s5 _ _ ha3;have eb5:=s5 _ _ eb3;have oB:FrB 20 (-1*bf.1,bf.2):=⟨bB.1,by rw [Int.natAbs_mul];have:=bB.2.1;simpa using this,bB.2.2⟩;clear b3 hp3 ha3 eb3 s5 no;have fr5:∀ {G:Hp},Bar p H G->FrsAt G qs fs:=fun {G} b=>Paired.imp' (fun q v x=>b q _ x (fun z=>by rw [z,hp] at x;cases x)) fa;have S0:yQ p H H5 a qs fs kind l at_ to tb o 0 [some (V.ref l),some (V.int kind),some (V.ref p),some (V.ref a),some (V.int at_),some (V.int to),some (V.ref tb),some (V.ref o),none] H5:=.inr ⟨rfl,rfl⟩;refine aW fun M1 k1=>?_
   suffices s1:∀ σ G,yQ p H H5 a qs fs kind l at_ to tb o 1 σ G->M1 σ G by
     walk_at "rd";by_cases c:kind=1
     . rw [if_pos c];obtain ⟨q1,g1,x1,y1,z1⟩:=BL (fr5 b5) rg.1 rg.2;refine ixL ha5 x1 ⟨aE (by simp),fun t0 m0=>?_⟩;have n0:t0≠p:=fun z=>by rw [z,hp5] at m0;cases m0
       have s6:=Same.new (.lst [V.ref tb,V.ref o]) m0;have e6:upd H5 t0 (.lst [V.ref tb,V.ref o]) t0=some (.lst [V.ref tb,V.ref o]):=ah;generalize upd H5 t0 (.lst [V.ref tb,V.ref o])=H6 at s6 e6 ⊢;refine ⟨p,w3,2,rfl,s6 _ _ hp5,by decide,.inl (by decide),?_⟩;have b7:=(b5.same s6).pot (.lst [.int (w3 / 2)]);have hp7:upd H6 p (.lst [.int (w3 / 2)]) p=some (.lst [.int (w3 / 2)]):=ah;have k7:∀ b y,H5 b=some y->b≠p->upd H6 p (.lst [.int (w3 / 2)]) b=some y:=fun b y z n=>by rw [ao n];exact s6 _ _ z
       have e7:upd H6 p (.lst [.int (w3 / 2)]) t0=some (.lst [V.ref tb,V.ref o]):=(by rw [ao n0];exact e6);generalize upd H6 p (.lst [.int (w3 / 2)])=H7 at b7 hp7 k7 e7 ⊢;have nt:∀ {b:Addr} {g:Int × Int},H5 b=some (.tup [.int g.1,.int g.2])->b≠p:=fun z y=>by rw [y,hp5] at z;cases z
       obtain ⟨bv,bg,hbv,ebv,bvB⟩:∃ (bv:Addr) (bg:Int × Int),atI [V.ref tb,V.ref o] (w3 % 2)=some (.ref bv)/\H5 bv=some (.tup [.int bg.1,.int bg.2])/\FrB 20 bg:=by
         rcases (show w3 % 2=0\/w3 % 2=1 by omega) with z|z <;> rw [z]
         . exact ⟨tb,bf,rfl,eb5,bB⟩
         . exact ⟨o,(-1*bf.1,bf.2),rfl,eo5,oB⟩
       refine ixL e7 hbv ⟨q1,bv,g1,bg,340,20,rfl,k7 _ _ y1 (nt y1),k7 _ _ ebv (nt ebv),fB _ z1,bvB,by decide,fun r f' nr f'B=>?_⟩;have s8:=Same.new (.tup [V.int f'.1,V.int f'.2]) nr;have e8:upd H7 r (.tup [V.int f'.1,V.int f'.2]) r=some (.tup [V.int f'.1,V.int f'.2]):=ah;generalize upd H7 r (.tup [V.int f'.1,V.int f'.2])=H8 at s8 e8 ⊢;have b8:=b7.same s8;refine xo (s8 _ _ (k7 _ _ ha5 ap)) (fr5 b8) rg.1 rg.2 e8 fun G' kp ea fg=>s1 _ _ (.inl ⟨by omega,a,_,_,w3 / 2,none,fun b y z n=>kp _ _ (b8 _ _ z n) (aG z na),kp _ _ (s8 _ _ hp7) ap.symm,na,ea,fg,tK (fun g hg=>ia (fB g hg) (by decide)) (ia f'B (by decide)),by rw [List.length_set];omega,rfl⟩)
     . rw [if_neg c];exact s1 _ _ (.inr ⟨rfl,rfl⟩)
   intro σ G hS;refine k1 _ _ (aW fun M2 k2=>?_)
   suffices s2:∀ σ G,yQ p H H5 a qs fs kind l at_ to tb o 2 σ G->M2 σ G by
     rcases hS with ⟨nk,a',qs',fs',w',v,b,e1,e2,e3,e4,e5,e6,rfl⟩|⟨rfl,rfl⟩
     . walk_at "rd";rw [if_neg (by omega)];exact s2 _ _ (.inl ⟨by omega,a',qs',fs',w',v,b,e1,e2,e3,e4,e5,e6,rfl⟩)
     . walk_at "rd";by_cases c:kind=2
       . rw [if_pos c];obtain ⟨q1,g1,x1,y1,z1⟩:=BL (fr5 b5) rg.1 rg.2;obtain ⟨q2,g2,x2,y2,z2⟩:=BL (fr5 b5) rg2.1 rg2.2;have nt:∀ {b:Addr} {g:Int × Int},G b=some (.tup [.int g.1,.int g.2])->b≠a:=fun z y=>by rw [y,ha5] at z;cases z
         refine ixL ha5 x1 (ixL ha5 x2 (xo ha5 (fr5 b5) rg.1 rg.2 y2 fun G1 kp1 ea1 fg1=>?_));refine xo ea1 fg1 rg2.1 (by rw [List.length_set];exact rg2.2) (kp1 _ _ y1 (nt y1)) fun G2 kp2 ea2 fg2=>s2 _ _ (.inl ⟨by omega,a,_,_,w3,_,fun b y z n=>kp2 _ _ (kp1 _ _ (b5 _ _ z n) (aG z na)) (aG z na),kp2 _ _ (kp1 _ _ hp5 ap.symm) ap.symm,na,ea2,fg2,tK (tK (fun g hg=>ia (fB g hg) (by decide)) (ia (fB _ z2) (by decide))) (ia (fB _ z1) (by decide)),by rw [List.length_set,List.length_set];omega,rfl⟩)
       . rw [if_neg c];exact s2 _ _ (.inr ⟨rfl,rfl⟩)
   intro σ G hS;refine k2 _ _ (aW fun M3 k3=>?_)
   suffices s3:∀ σ G,yQ p H H5 a qs fs kind l at_ to tb o 3 σ G->M3 σ G by
     rcases hS with ⟨nk,a',qs',fs',w',v,b,e1,e2,e3,e4,e5,e6,rfl⟩|⟨rfl,rfl⟩
     . walk_at "rd";rw [if_neg (by omega)];exact s3 _ _ (.inl ⟨by omega,a',qs',fs',w',v,b,e1,e2,e3,e4,e5,e6,rfl⟩)
     . walk_at "rd";by_cases c:kind=3
       . rw [if_pos c];obtain ⟨q1,g1,x1,y1,z1⟩:=BL (fr5 b5) rg.1 rg.2;refine ixL ha5 x1 ⟨q1,tb,g1,bf,340,20,rfl,y1,eb5,fB _ z1,bB,by decide,fun r f' nr f'B=>?_⟩;have s6:=Same.new (.tup [V.int f'.1,V.int f'.2]) nr;have e6:upd G r (.tup [V.int f'.1,V.int f'.2]) r=some (.tup [V.int f'.1,V.int f'.2]):=ah;generalize upd G r (.tup [V.int f'.1,V.int f'.2])=H6 at s6 e6 ⊢;have b6:=b5.same s6;have nt:∀ {b:Addr} {g:Int × Int},H6 b=some (.tup [.int g.1,.int g.2])->b≠a:=fun z y=>by rw [y,s6 _ _ ha5] at z;cases z
         refine xo (s6 _ _ ha5) (fr5 b6) rg.1 rg.2 e6 fun G1 kp1 ea1 fg1=>?_;have b7:Bar p H G1:=fun b y z n=>kp1 _ _ (b6 _ _ z n) (aG z na);have hp7:=kp1 _ _ (s6 _ _ hp5) ap.symm;have al1:=tK (i:=at_.toNat) (fun g hg=>ia (fB g hg) (show 340<=361 by decide)) (ia f'B (by decide));obtain ⟨q2,g2,x2,y2,z2⟩:=BL fg1 rg2.1 (by rw [List.length_set];exact rg2.2);refine ixL ea1 x2 ⟨q2,o,g2,(-1*bf.1,bf.2),361,20,rfl,y2,kp1 _ _ (s6 _ _ eo5) (nt (g:=(-1*bf.1,bf.2)) (s6 _ _ eo5)),al1 _ z2,oB,by decide,fun r2 f2' nr2 f2B=>?_⟩;have s8:=Same.new (.tup [V.int f2'.1,V.int f2'.2]) nr2;have e8:upd G1 r2 (.tup [V.int f2'.1,V.int f2'.2]) r2=some (.tup [V.int f2'.1,V.int f2'.2]):=ah;generalize upd G1 r2 (.tup [V.int f2'.1,V.int f2'.2])=H8 at s8 e8 ⊢;refine xo (s8 _ _ ea1) (FrsAt.same s8 fg1) rg2.1 (by rw [List.length_set];exact rg2.2) e8 fun G2 kp2 ea2 fg2=>s3 _ _ (.inl ⟨by omega,a,_,_,w3,none,fun b y z n=>kp2 _ _ (s8 _ _ (b7 _ _ z n)) (aG z na),kp2 _ _ (s8 _ _ hp7) ap.symm,na,ea2,fg2,tK (fun g hg=>ia (al1 g hg) (by decide)) (ia f2B (by decide)),by rw [List.length_set,List.length_set];omega,rfl⟩)
       . rw [if_neg c];exact s3 _ _ (.inr ⟨rfl,rfl⟩)
   intro σ G hS;refine k3 _ _ (aW fun M4 k4=>?_)
   suffices s4:∀ σ G,yQ p H H5 a qs fs kind l at_ to tb o 4 σ G->M4 σ G by
     rcases hS with ⟨nk,a',qs',fs',w',v,b,e1,e2,e3,e4,e5,e6,rfl⟩|⟨rfl,rfl⟩
     . walk_at "rd";rw [if_neg (by omega)];exact s4 _ _ (.inl ⟨by omega,a',qs',fs',w',v,b,e1,e2,e3,e4,e5,e6,rfl⟩)
     . walk_at "rd";by_cases c:kind=4
       . rw [if_pos c];have fG:=fr5 b5;refine EM ha5 fG fB fun t1 H6 p6 r6 f6 s6 h6 o6 g6 n6=>⟨aE (by simp),fun z1 m1=>⟨aE (by simp),fun z2 m2=>?_⟩⟩;have s7:=Same.new (.tup [V.int 0,V.int 1]) m1;have e7:upd H6 z1 (.tup [V.int 0,V.int 1]) z1=some (.tup [V.int 0,V.int 1]):=ah;generalize upd H6 z1 (.tup [V.int 0,V.int 1])=H7 at s7 e7 m2 ⊢;have s8:=Same.new (.lst [V.ref z1]) m2;have e8:upd H7 z2 (.lst [V.ref z1]) z2=some (.lst ([z1].map V.ref)):=ah;generalize upd H7 z2 (.lst [V.ref z1])=H8 at s8 e8 ⊢;have s58:=s6.trans (s7.trans s8);refine D7 (s58 _ _ ha5) e8 (FrsAt.same s58 fG) (.cons (s8 _ _ e7) .nil:FrsAt H8 [z1] [(0,1)]) fB (fun f hf=>by rw [List.mem_singleton.mp hf];exact ⟨by decide,Nat.two_pow_pos _,Nat.one_lt_two_pow (by decide)⟩) (by simp;omega) fun t2 H9 p9 r9 f9 s9 h9 o9 g9 n9=>?_;have s59:=s58.trans s9;refine EM (s59 _ _ ha5) (FrsAt.same s59 fG) fB fun u1 H10 p10 r10 f10 s10 h10 o10 g10 n10=>?_;have s510:=s59.trans s10;refine EM (s510 _ _ ha5) (FrsAt.same s510 fG) fB fun u2 H11 p11 r11 f11 s11 h11 o11 g11 n11=>?_;have s511:=s510.trans s11;refine D7 (s11 _ _ h10) h11 (FrsAt.same s11 o10) o11 g10 g11 (by omega) fun t3 H12 p12 r12 f12 s12 h12 o12 g12 n12=>?_;have s512:=s511.trans s12;refine EM (s512 _ _ ha5) (FrsAt.same s512 fG) fB fun u3 H13 p13 r13 f13 s13 h13 o13 g13 n13=>⟨aE (by simp),fun z3 m3=>?_⟩;have s513:=s512.trans s13;have s14:=Same.new (.lst [V.ref tb]) m3;have e14:upd H13 z3 (.lst [V.ref tb]) z3=some (.lst ([tb].map V.ref)):=ah;generalize upd H13 z3 (.lst [V.ref tb])=H14 at s14 e14 ⊢;have s514:=s513.trans s14;refine D7 (s14 _ _ h13) e14 (FrsAt.same s14 o13) (.cons (s514 _ _ eb5) .nil:FrsAt H14 [tb] [bf]) g13 (fun f hf=>by rw [List.mem_singleton.mp hf];exact ia bB (by decide)) (by simp;omega) fun u4 H15 p15 r15 f15 s15 h15 o15 g15 n15=>?_;have s515:=s514.trans s15;refine EM (s515 _ _ ha5) (FrsAt.same s515 fG) fB fun u5 H16 p16 r16 f16 s16 h16 o16 g16 n16=>?_;rw [List.length_singleton] at n9 n15;refine D7 (s16 _ _ h15) h16 (FrsAt.same s16 o15) o16 g15 g16 (by omega) fun t4 H17 p17 r17 f17 s17 h17 o17 g17 n17=>⟨aE (by simp),fun z4 m4=>?_⟩;have s516:=s515.trans s16;have s517:=s516.trans s17;have s18:=Same.new (.lst [V.ref t1,V.ref t2,V.ref t3,V.ref t4]) m4;have e18:upd H17 z4 (.lst [V.ref t1,V.ref t2,V.ref t3,V.ref t4]) z4=some (.lst [V.ref t1,V.ref t2,V.ref t3,V.ref t4]):=ah;generalize upd H17 z4 (.lst [V.ref t1,V.ref t2,V.ref t3,V.ref t4])=H18 at s18 e18 ⊢;have s518:=s517.trans s18;refine ⟨p,w3,4,rfl,s518 _ _ hp5,by decide,.inl (by decide),?_⟩;have b19:=(b5.same s518).pot (.lst [.int (w3 / 4)]);have z4p:z4≠p:=fun z=>by rw [z,s517 _ _ hp5] at m4;cases m4
         obtain ⟨tk,pk,rk,ek,hk,fk,ok,gk,lk⟩:∃ (tk:Addr) (pk:List Addr) (rk:List (Int × Int)),atI [V.ref t1,V.ref t2,V.ref t3,V.ref t4] (w3 % 4)=some (.ref tk)/\H18 tk=some (.lst (pk.map V.ref))/\G tk=none/\FrsAt H18 pk rk/\(∀ f∈rk,FrB 340 f)/\rk.length<=100:=by
           rcases (show w3 % 4=0\/w3 % 4=1\/w3 % 4=2\/w3 % 4=3 by omega) with z|z|z|z <;> rw [z]
           . have u:=s7.trans (s8.trans (s9.trans (s10.trans (s11.trans (s12.trans (s13.trans (s14.trans (s15.trans (s16.trans (s17.trans s18))))))))));exact ⟨t1,p6,r6,rfl,u _ _ h6,f6,FrsAt.same u o6,g6,by omega⟩
           . have u:=s10.trans (s11.trans (s12.trans (s13.trans (s14.trans (s15.trans (s16.trans (s17.trans s18)))))));exact ⟨t2,p9,r9,rfl,u _ _ h9,s58.free f9,FrsAt.same u o9,g9,by omega⟩
           . have u:=s13.trans (s14.trans (s15.trans (s16.trans (s17.trans s18))));exact ⟨t3,p12,r12,rfl,u _ _ h12,s511.free f12,FrsAt.same u o12,g12,by omega⟩
           . exact ⟨t4,p17,r17,rfl,s18 _ _ h17,s516.free f17,FrsAt.same s18 o17,g17,by omega⟩
         have tkp:tk≠p:=fun z=>by rw [z,hp5] at fk;cases fk
         refine ixL (by rw [ao z4p];exact e18) ek ?_;exact s4 _ _ (.inl ⟨by omega,tk,pk,rk,w3 / 4,none,b19,ah,b5.free hp hp5 fk,by rw [ao tkp];exact hk,Paired.imp' (fun b g x=>by rw [ao (fun z=>by rw [z,s518 _ _ hp5] at x;cases x)];exact x) ok,fun f hf=>ia (gk f hf) (by decide),lk,rfl⟩)
       . rw [if_neg c];exact s4 _ _ (.inr ⟨rfl,rfl⟩)
   intro σ G hS;refine k4 _ _ (aW fun M5 k5=>?_)
   suffices s5:∀ σ G,yQ p H H5 a qs fs kind l at_ to tb o 5 σ G->M5 σ G by
     rcases hS with ⟨nk,a',qs',fs',w',v,b,e1,e2,e3,e4,e5,e6,rfl⟩|⟨rfl,rfl⟩
     . walk_at "rd";rw [if_neg (by omega)];exact s5 _ _ (.inl ⟨by omega,a',qs',fs',w',v,b,e1,e2,e3,e4,e5,e6,rfl⟩)
     . walk_at "rd";by_cases c:kind=5
       . rw [if_pos c];refine ⟨⟨_,SqL.of ha5⟩,fun pc np=>?_⟩;have npp:pc≠p:=fun z=>by rw [z,hp5] at np;cases np
         refine iA (K:=K) (c:=true) (a:=a) (xs:=qs.map V.ref) (fun i zs σ H2=>Bar p G H2/\(∃ w:Int,H2 p=some (.lst [.int w]))/\H2 pc=some (.lst zs)/\(∃ (rq:List Addr) (gs:List (Int × Int)),zs=rq.map V.ref/\gs.length=i/\FrsAt H2 rq gs/\∀ f∈gs,FrB 400 f)/\∃ v1,σ=[v1,some (V.ref p)]) ⟨(Bar.refl p G).put np _,⟨w3,by rw [ao npp.symm];exact hp5⟩,ah,⟨[],[],rfl,rfl,.nil,fun _ h=>nomatch h⟩,_,rfl⟩ (fun i zs σ H2 _ z=>SqL.of (z.1 _ _ ha5 ap)) ?_ ?_
         . rintro i x zs σ H2 N hN hx ⟨s2,⟨w,ew⟩,e2,⟨rq,gs,rfl,gl,fg,gb⟩,v1,rfl⟩;have il:=(List.getElem?_eq_some_iff.mp hx).1;rw [List.length_map] at il;have rl:rq.length=gs.length:=Paired.length fg;walk_at "rd";refine ⟨p,w,false,rfl,ew,fun f r m' H' f'B _ nr er hp' kp=>?_⟩;have nrp:r≠pc:=fun z=>by rw [z,e2] at nr;cases nr
           refine ⟨kp _ _ e2 npp,cj (by rw [List.length_map];omega),hN _ _ _ ⟨fun b y z n=>by rw [ao (aG z np)];exact kp _ _ (s2 _ _ z n) n,⟨m',by rw [ao npp.symm];exact hp'⟩,ah,⟨rq++[r],gs++[f],by rw [List.map_append];rfl,by rw [List.length_append,gl];rfl,?_,?_⟩,_,rfl⟩⟩
           . refine rF (.cons ?_ .nil) (Paired.imp' (fun b m hb=>?_) fg)
             . rw [ao nrp];exact er
             . rw [ao (gv hb e2 (by intro z;cases z))];exact kp _ _ hb (gv hb ew (by intro z;cases z))
           . intro z hz;rcases List.mem_append.mp hz with hz|hz
             . exact gb z hz
             . rw [List.mem_singleton.mp hz];exact ia f'B (by decide)
         . rintro zs σ H2 ⟨s2,⟨w,ew⟩,e2,⟨rq,gs,rfl,gl,fg,gb⟩,v1,rfl⟩;rw [List.length_map,ql] at gl;exact s5 _ _ (.inl ⟨by omega,pc,rq,gs,w,none,b5.trans s2,ew,b5.free hp hp5 np,e2,fg,gb,by omega,rfl⟩)
       . rw [if_neg c];exact s5 _ _ (.inr ⟨rfl,rfl⟩)
   intro σ G hS;refine k5 _ _ (aW fun M6 k6=>?_)
   suffices s6:∀ σ G,yQ p H H5 a qs fs kind l at_ to tb o 6 σ G->M6 σ G by
     rcases hS with ⟨nk,a',qs',fs',w',v,b,e1,e2,e3,e4,e5,e6,rfl⟩|⟨rfl,rfl⟩
     . walk_at "rd";rw [if_neg (by omega)];exact s6 _ _ (.inl ⟨by omega,a',qs',fs',w',v,b,e1,e2,e3,e4,e5,e6,rfl⟩)
     . walk_at "rd";by_cases c:kind=6
       . rw [if_pos c];refine ⟨⟨_,SqL.of ha5⟩,fun pc np=>?_⟩;have npp:pc≠p:=fun z=>by rw [z,hp5] at np;cases np
         refine iA (K:=K) (c:=true) (a:=a) (xs:=qs.map V.ref) (fun i zs σ H2=>Same G H2/\H2 pc=some (.lst zs)/\(∃ (rq:List Addr) (gs:List (Int × Int)),zs=rq.map V.ref/\gs.length=i/\FrsAt H2 rq gs/\∀ f∈gs,FrB 400 f)/\∃ v1,σ=[v1]) ⟨Same.new _ np,ah,⟨[],[],rfl,rfl,.nil,fun _ h=>nomatch h⟩,_,rfl⟩ (fun i zs σ H2 _ z=>SqL.of (z.1 _ _ ha5)) ?_ ?_
         . rintro i x zs σ H2 N hN hx ⟨s2,e2,⟨rq,gs,rfl,gl,fg,gb⟩,v1,rfl⟩;have il:=(List.getElem?_eq_some_iff.mp hx).1;rw [List.length_map] at il;have rl:rq.length=gs.length:=Paired.length fg;walk_at "rd";refine ⟨aE (by simp),fun r nr=>?_⟩;have nrp:r≠pc:=fun z=>by rw [z,e2] at nr;cases nr
           have s4:=Same.new (.tup [V.int 1,V.int 1]) nr;refine ⟨s4 _ _ e2,cj (by rw [List.length_map];omega),hN _ _ _ ⟨(s2.trans s4).put np _,ah,⟨rq++[r],gs++[(1,1)],by rw [List.map_append];rfl,by rw [List.length_append,gl];rfl,?_,?_⟩,_,rfl⟩⟩
           . refine rF (.cons ?_ .nil) (Paired.imp' (fun b m hb=>?_) fg)
             . rw [ao nrp];exact ah
             . rw [ao (gv hb e2 (by intro z;cases z))];exact s4 _ _ hb
           . intro z hz;rcases List.mem_append.mp hz with hz|hz
             . exact gb z hz
             . rw [List.mem_singleton.mp hz];exact ⟨by decide,Nat.one_lt_two_pow (by decide),Nat.one_lt_two_pow (by decide)⟩
         . rintro zs σ H2 ⟨s2,e2,⟨rq,gs,rfl,gl,fg,gb⟩,v1,rfl⟩;rw [List.length_map,ql] at gl;exact s6 _ _ (.inl ⟨by omega,pc,rq,gs,w3,none,b5.same s2,s2 _ _ hp5,b5.free hp hp5 np,e2,fg,gb,by omega,rfl⟩)
       . rw [if_neg c];exact s6 _ _ (.inr ⟨rfl,rfl⟩)
   intro σ G hS;refine k6 _ _ ?_;rcases hS with ⟨nk,a',qs',fs',w',v,b,e1,e2,e3,e4,e5,e6,rfl⟩|⟨rfl,rfl⟩
   . walk_at "rd";exact k a' qs' fs' w' G e2 b e1 e3 e4 e5 e6
   . walk_at "rd";exact k a qs fs w3 G na b5 hp5 ha5 (fr5 b5) (fun f hf=>ia (fB f hf) (by decide)) (by omega)
def uK (T:Txt K mg):Sp:=fun vs H Q _=>∃ (la lb p:Addr) (qa qb:List Addr) (fs gs:List (Int × Int)) (w:Int),vs=[.ref la,.ref lb,.ref p]/\H p=some (.lst [.int w])/\la≠p/\lb≠p/\H la=some (.lst (qa.map V.ref))/\H lb=some (.lst (qb.map V.ref))/\FrsAt H qa fs/\FrsAt H qb gs/\(∀ f∈fs,FrB 340 f)/\(∀ f∈gs,FrB 340 f)/\1<=fs.length/\fs.length<=6/\1<=gs.length/\gs.length<=6 /\
 ∀ (t la' lb':Addr) (qa' qb':List Addr) (fs' gs':List (Int × Int)) (H':Hp),Bar p H H'->H' t=some (.tup [.ref la',.ref lb'])->H' la'=some (.lst (qa'.map V.ref))->H' lb'=some (.lst (qb'.map V.ref))->FrsAt H' qa' fs'->FrsAt H' qb' gs'->(∀ f∈fs',FrB 400 f)->(∀ f∈gs',FrB 400 f)->fs'.length<=100->gs'.length<=100->Q (.ref t) H'
abbrev aX:Stmt:=top 67
theorem mX:FnScope ["shares","second","pot","kind","by"] ["shares","second","pot"] (aa aX):=FnScope.of (by kernel_rfl)
theorem fu:NmL (aa aX) "shares":=.of (by kernel_rfl)
theorem fx:NmL (aa aX) "second":=.of (by kernel_rfl)
theorem eP:NmL (aa aX) "pot":=.of (by kernel_rfl)
theorem dq:NmL (aa aX) "kind":=.of (by kernel_rfl)
theorem kO:NmL (aa aX) "by":=.of (by kernel_rfl)
theorem cB:NmG (aa aX) "_law_take":=.of (by kernel_rfl)
theorem dR:NmG (aa aX) "_law_scaled":=.of (by kernel_rfl)
theorem dN:NmG (aa aX) "_law_turned":=.of (by kernel_rfl)
theorem DD (T:Txt K mg) (hq:aP (CXe P w)) {f:Addr} {fd:FuncData} (D:Df K mg "_law_otherwise" aX ["shares","second","pot"] f fd) {iw:Addr} {zo:FuncData} (eO:Df K mg "_law_scaled" dz ["shares","by"] iw zo) (G_law_scaled:FnOk P w K mg base (CXe P w) 3 iw zo ["shares","by"] (zS T)) {bJ:Addr} {cL:FuncData} (au:Df K mg "_law_take" cU ["pot","n"] bJ cL) (G_law_take:FnOk P w K mg base (CXe P w) 1 bJ cL ["pot","n"] (jv T)) {iJ:Addr} {zQ:FuncData} (eN:Df K mg "_law_turned" aQ ["shares","kind","pot"] iJ zQ) (G_law_turned:FnOk P w K mg base (CXe P w) 4 iJ zQ ["shares","kind","pot"] (rP T)):FnOk P w K mg base (CXe P w) 5 f fd ["shares","second","pot"] (uK T):=by
 refine D.F.okC mX (fun vs H Q E h=>?_) (fun cdv A outer s H vs Q E hr h=>?_)
 . obtain ⟨la,lb,p,qa,qb,fs,gs,w,rfl,_⟩:=h
   rfl
 . obtain ⟨la,lb,p,qa,qb,fs,gs,w,rfl,hp,nap,nbp,ha,hb,fa,gb,fB,gB,f1,f6,g1,g6,k⟩:=h;refine ⟨_,(ak (aw (i:=3) mX.nd rfl (Or.inl dq.l) (ar G_law_take (hr.mono (by decide)) cB.g au.m au.F.kp au.b .nil (ax hq) (ag (pvl 2 eP) (ag am aj)) (hdb:=cB.d))) (ak (bA (aM dv (pvl 3 dq) am (aL _)) (aq (aF (bW (ag (pvl 1 fx) (ag (pvl 0 fu) aj))))) aO) (ak (bA (aM dv (pvl 3 dq) am (aL _)) (ak (aw (i:=4) mX.nd rfl (Or.inl kO.l) (az aI (bj (ag (bW (ag am (ag am aj))) (ag (bW (ag am (ag am aj))) (ag (bW (ag am (ag am aj))) aj)))) (ar G_law_take (hr.mono (by decide)) cB.g au.m au.F.kp au.b .nil (ax hq) (ag (pvl 2 eP) (ag am aj)) (hdb:=cB.d)) (fun _ _=>rfl))) (aq (aF (bW (ag (ar G_law_scaled (hr.mono (by decide)) dR.g eO.m eO.F.kp eO.b .nil (ax hq) (ag (pvl 0 fu) (ag (pvl 4 kO) aj)) (hdb:=dR.d)) (ag (ar G_law_scaled (hr.mono (by decide)) dR.g eO.m eO.F.kp eO.b .nil (ax hq) (ag (pvl 1 fx) (ag (pvl 4 kO) aj)) (hdb:=dR.d)) aj)))))) aO) (ak (bA (PW.pt (BG (aM dv (pvl 3 dq) am (aL _)) (Bx (aM dv (ar G_law_take (hr.mono (by decide)) cB.g au.m au.F.kp au.b .nil (ax hq) (ag (pvl 2 eP) (ag am aj)) (hdb:=cB.d)) am (aL _))))) (aq (aF (bW (ag (ar G_law_turned (hr.mono (by decide)) dN.g eN.m eN.F.kp eN.b .nil (ax hq) (ag (pvl 0 fu) (ag (av d9 (pvl 3 dq) am) (ag (pvl 2 eP) aj))) (hdb:=dN.d)) (ag (pvl 1 fx) aj))))) aO) (aq (aF (bW (ag (pvl 0 fu) (ag (ar G_law_turned (hr.mono (by decide)) dN.g eN.m eN.F.kp eN.b .nil (ax hq) (ag (pvl 1 fx) (ag (av d9 (pvl 3 dq) am) (ag (pvl 2 eP) aj))) (hdb:=dN.d)) aj))))))))),?_⟩;rw [show L2.start ["shares","second","pot","kind","by"] [V.ref la,V.ref lb,V.ref p]=[some (V.ref la),some (V.ref lb),some (V.ref p),none,none] from rfl];have frA:∀ {G:Hp},Bar p H G->FrsAt G qa fs:=fun {G} b=>Paired.imp' (fun q v x=>b q _ x (fun z=>by rw [z,hp] at x;cases x)) fa;have frB:∀ {G:Hp},Bar p H G->FrsAt G qb gs:=fun {G} b=>Paired.imp' (fun q v x=>b q _ x (fun z=>by rw [z,hp] at x;cases x)) gb;have upA:∀ f∈fs,FrB 400 f:=fun f hf=>ia (fB f hf) (by decide);have upB:∀ f∈gs,FrB 400 f:=fun f hf=>ia (gB f hf) (by decide);have fin:∀ (G:Hp) (w:Int),Bar p H G->G p=some (.lst [.int w])->∀ (la' lb':Addr) (qa' qb':List Addr) (fs' gs':List (Int × Int)),G la'=some (.lst (qa'.map V.ref))->G lb'=some (.lst (qb'.map V.ref))->FrsAt G qa' fs'->FrsAt G qb' gs'->(∀ f∈fs',FrB 400 f)->(∀ f∈gs',FrB 400 f)->fs'.length<=100->gs'.length<=100->[V.ref la',V.ref lb'].length<=sizeLine/\∀ t,G t=none->Q (.ref t) (upd G t (.tup [.ref la',.ref lb'])):=fun G w b e la' lb' qa' qb' fs' gs' e1 e2 e3 e4 e5 e6 e7 e8=>⟨aE (by simp),fun t ht=>k t la' lb' qa' qb' fs' gs' _ (b.put (b.free hp e ht) _) ah (Same.new _ ht _ _ e1) (Same.new _ ht _ _ e2) (FrsAt.same (Same.new _ ht) e3) (FrsAt.same (Same.new _ ht) e4) e5 e6 e7 e8⟩;refine aW fun N1 h1=>?_;walk_at "rd";refine ⟨p,w,10,rfl,hp,by decide,.inl (by decide),h1 _ _ (aW fun N2 h2=>?_)⟩;generalize w % 10=kind;generalize w / 10=w1;have b1:Bar p H (upd H p (.lst [.int w1])):=(Bar.refl p H).pot _;have hp1:upd H p (.lst [.int w1]) p=some (.lst [.int w1]):=ah;generalize upd H p (.lst [.int w1])=H1 at b1 hp1 ⊢;have ha1:=b1 _ _ ha nap;have hb1:=b1 _ _ hb nbp;walk_at "rd";by_cases c7:kind=7
   . rw [if_pos c7];exact fin H1 _ b1 hp1 lb la qb qa gs fs hb1 ha1 (frB b1) (frA b1) upB upA (by omega) (by omega)
   rw [if_neg c7];refine h2 _ _ (aW fun N3 h3=>?_);walk_at "rd";by_cases c8:kind=8
   . rw [if_pos c8];refine ⟨aE (by simp),fun t1 m1=>⟨aE (by simp),fun t2 m2=>⟨aE (by simp),fun t3 m3=>⟨aE (by simp),fun t4 m4=>?_⟩⟩⟩⟩;have s1:=Same.new (.tup [V.int 1,V.int 2]) m1;have s2:=Same.new (.tup [V.int 2,V.int 1]) m2;have s3:=Same.new (.tup [V.int 3,V.int 2]) m3;have s4:=Same.new (.lst [V.ref t1,V.ref t2,V.ref t3]) m4;have e1:=s4 _ _ (s3 _ _ (s2 _ _ (ah (H:=H1) (a:=t1) (o:=.tup [V.int 1,V.int 2]))));have e2:=s4 _ _ (s3 _ _ (ah (H:=upd H1 t1 (.tup [V.int 1,V.int 2])) (a:=t2) (o:=.tup [V.int 2,V.int 1])));have e3:=s4 _ _ (ah (H:=upd (upd H1 t1 (.tup [V.int 1,V.int 2])) t2 (.tup [V.int 2,V.int 1])) (a:=t3) (o:=.tup [V.int 3,V.int 2]));have e4:upd (upd (upd (upd H1 t1 (HO.tup [V.int 1,V.int 2])) t2 (HO.tup [V.int 2,V.int 1])) t3 (HO.tup [V.int 3,V.int 2])) t4 (HO.lst [V.ref t1,V.ref t2,V.ref t3]) t4=some (HO.lst [V.ref t1,V.ref t2,V.ref t3]):=ah;have s:=s1.trans (s2.trans (s3.trans s4));generalize upd (upd (upd (upd H1 t1 (HO.tup [V.int 1,V.int 2])) t2 (HO.tup [V.int 2,V.int 1])) t3 (HO.tup [V.int 3,V.int 2])) t4 (HO.lst [V.ref t1,V.ref t2,V.ref t3])=H3 at e1 e2 e3 e4 s ⊢;clear s1 s2 s3 s4 m1 m2 m3 m4;have hp3:=s _ _ hp1;have n4:t4≠p:=fun z=>by rw [z,hp3] at e4;cases e4
     refine ⟨p,w1,3,rfl,hp3,by decide,.inl (by decide),?_⟩;obtain ⟨tb,bf,hbv,ebv,bB⟩:∃ (tb:Addr) (bf:Int × Int),atI [V.ref t1,V.ref t2,V.ref t3] (w1 % 3)=some (.ref tb)/\H3 tb=some (.tup [.int bf.1,.int bf.2])/\FrB 2 bf:=by
       rcases (show w1 % 3=0\/w1 % 3=1\/w1 % 3=2 by omega) with z|z|z <;> rw [z]
       . exact ⟨t1,(1,2),rfl,e1,by decide,by decide,by decide⟩
       . exact ⟨t2,(2,1),rfl,e2,by decide,by decide,by decide⟩
       . exact ⟨t3,(3,2),rfl,e3,by decide,by decide,by decide⟩
     have nb:tb≠p:=fun z=>by rw [z,hp3] at ebv;cases ebv
     refine ixL (by rw [ao n4];exact e4) hbv ?_;have b4:=(b1.same s).pot (.lst [.int (w1 / 3)]);have hp4:upd H3 p (.lst [.int (w1 / 3)]) p=some (.lst [.int (w1 / 3)]):=ah;have eb4:upd H3 p (.lst [.int (w1 / 3)]) tb=some (.tup [.int bf.1,.int bf.2]):=(by rw [ao nb];exact ebv);generalize upd H3 p (.lst [.int (w1 / 3)])=H4 at b4 hp4 eb4 ⊢;refine ⟨la,tb,qa,fs,bf,rfl,b4 _ _ ha nap,frA b4,eb4,fB,bB,by omega,fun l5 q5 r5 H5 n5 s5 h5 o5 g5 l5'=>?_⟩;have b5:=b4.same s5;refine ⟨lb,tb,qb,gs,bf,rfl,b5 _ _ hb nbp,frB b5,s5 _ _ eb4,gB,bB,by omega,fun l6 q6 r6 H6 n6 s6 h6 o6 g6 l6'=>?_⟩;exact fin H6 _ (b5.same s6) (s6 _ _ (s5 _ _ hp4)) l5 l6 q5 q6 r5 r6 (s6 _ _ h5) h6 (FrsAt.same s6 o5) o6 g5 g6 (by omega) (by omega)
   rw [if_neg c8];refine h3 _ _ (aW fun N4 h4=>?_);have one:∀ (G:Hp) (w:Int),Bar p H G->G p=some (.lst [.int w])->rP T [V.ref la,V.int (kind % 7),V.ref p] G (fun x H1=>[x,V.ref lb].length<=sizeLine/\∀ t,H1 t=none->Q (.ref t) (upd H1 t (.tup [x,V.ref lb]))) E0:=fun G w b e =>
     ⟨la,p,qa,fs,_,w,rfl,e,b _ _ ha nap,nap,frA b,fB,f1,f6,fun l' qs' fs' w' H' _ b' e' el ff fb' ll=>fin H' w' (b.trans b') e' l' lb qs' qb fs' gs el ((b.trans b') _ _ hb nbp) ff (frB (b.trans b')) fb' upB ll (by omega)⟩
   walk_at "rd";by_cases c9:kind=9
   . rw [if_pos c9];exact ⟨by decide,one H1 _ b1 hp1⟩
   rw [if_neg c9];refine ⟨p,w1,2,rfl,hp1,by decide,.inl (by decide),rfl,?_⟩;have b2:=b1.pot (.lst [.int (w1 / 2)]);have hp2:upd H1 p (.lst [.int (w1 / 2)]) p=some (.lst [.int (w1 / 2)]):=ah;generalize upd H1 p (.lst [.int (w1 / 2)])=H2 at b2 hp2 ⊢;split
   . exact ⟨by decide,one H2 _ b2 hp2⟩
   . refine h4 _ _ ?_;walk_at "rd";exact ⟨by decide,lb,p,qb,gs,_,_,rfl,hp2,b2 _ _ hb nbp,nbp,frB b2,gB,g1,g6,fun l' qs' fs' w' H' _ b' e' el ff fb' ll=>fin H' w' (b2.trans b') e' la l' qa qs' fs fs' ((b2.trans b') _ _ ha nap) el (frA (b2.trans b')) ff upA fb' (by omega) ll⟩
def wt (T:Txt K mg):Sp:=fun vs H Q _=>∃ c i:Int,vs=[.int c,.int i]/\0<=i/\i<=1000000/\∀ v,0<=v->Q (.int v) H
abbrev d3:Stmt:=top 49
theorem vX:FnScope ["cell","k","big"] ["cell","k"] (aa d3):=FnScope.of (by kernel_rfl)
theorem Dj:NmL (aa d3) "cell":=.of (by kernel_rfl)
theorem rN:NmL (aa d3) "k":=.of (by kernel_rfl)
theorem jo:NmL (aa d3) "big":=.of (by kernel_rfl)
theorem Ml (T:Txt K mg) (hq:aP (CXe P w)) {f:Addr} {fd:FuncData} (D:Df K mg "_law_stir" d3 ["cell","k"] f fd):FnOk P w K mg base (CXe P w) 1 f fd ["cell","k"] (wt T):=by
 refine D.F.okC vX (fun vs H Q E h=>?_) (fun cdv A outer s H vs Q E hr h=>?_)
 . obtain ⟨c,i,rfl,_⟩:=h
   rfl
 . obtain ⟨c,i,rfl,h0,h1,k⟩:=h;refine ⟨_,(ak (aw (i:=2) vX.nd rfl (Or.inl jo.l) (av dc (av gY (av d9 (pvl 0 Dj) (av tX am am)) am) (av gY am (av oE (av oE am (pvl 1 rN)) (pvl 1 rN))))) (ak (aw (i:=2) vX.nd rfl (Or.inl jo.l) (av gY (pvl 2 jo) (av oE am (pvl 1 rN)))) (aq (aF (av d9 (av dc (pvl 2 jo) (pvl 2 jo)) (av gY (av tX am am) am)))))),?_⟩;rw [show L2.start ["cell","k","big"] [V.int c,V.int i]=[some (V.int c),some (V.int i),none] from rfl];walk_at "rd";obtain ⟨e1,e2,e3⟩:=Pf c i h0 h1;have pw:Wv 10 60:=⟨by decide,by decide,by decide⟩;have p33:(0:Int)<10^(60:Int).toNat+33:=Int.add_pos p60 (by decide);refine ⟨pw,p60,.inl ⟨by decide,by decide⟩,.inr ⟨by omega,by omega⟩,jh (bc e1 (by decide)) (bc e2 (by decide)),.inl ⟨by decide,by decide⟩,jh e3 e3,pw,p33,?_⟩;exact k _ (Int.emod_nonneg _ (Int.ne_of_gt p33))
theorem Su (n:Nat) (v:V):(List.replicate n [v]).flatten=List.replicate n v:=by
 induction n with
 | zero=>rfl
 | succ n ih=>rw [List.replicate_succ,List.flatten_cons,ih,List.replicate_succ];rfl
def AO (T:Txt K mg):Sp:=fun vs H Q _=>∃ (a:Addr) (ns:List Int) (m:Int),vs=[.ref a,.int m]/\SqL K H a (ns.map V.int)/\ns.length<=100/\1<=m/\m<=100 /\
 ∀ (l:Addr) (cs:List Int) (H':Hp),H l=none->Same H H'->H' l=some (.lst (cs.map V.int))->(cs.length:Int)=m->Q (.ref l) H'
abbrev cz:Stmt:=top 50
theorem oU:FnScope ["script","many","cells","k","at"] ["script","many"] (aa cz):=FnScope.of (by kernel_rfl)
theorem qd:NmL (aa cz) "script":=.of (by kernel_rfl)
theorem sO:NmL (aa cz) "many":=.of (by kernel_rfl)
theorem jr:NmL (aa cz) "cells":=.of (by kernel_rfl)
theorem qj:NmL (aa cz) "k":=.of (by kernel_rfl)
theorem oO:NmL (aa cz) "at":=.of (by kernel_rfl)
theorem Bu:NmG (aa cz) "range":=.of (by kernel_rfl)
theorem nN:NmG (aa cz) "len":=.of (by kernel_rfl)
theorem KO (T:Txt K mg) (hq:aP (CXe P w)) {f:Addr} {fd:FuncData} (D:Df K mg "_law_cells" cz ["script","many"] f fd):FnOk P w K mg base (CXe P w) 1 f fd ["script","many"] (AO T):=by
 refine D.F.okC oU (fun vs H Q E h=>?_) (fun cdv A outer s H vs Q E hr h=>?_)
 . obtain ⟨a,ns,m,rfl,_⟩:=h
   rfl
 . obtain ⟨a,ns,m,rfl,ha,hl,m1,m2,k⟩:=h;refine ⟨_,(ak (aw (i:=2) oU.nd rfl (Or.inl jr.l) (av uI (bj (ag am aj)) (pvl 1 sO))) (ak (eS PassesOwn.never rfl (ij Bu.g T.range (ag (bI ck nN.g T.len iH (ag (pvl 0 qd) aj) (hn:=nN.n) (hdb:=nN.d)) aj)) (aB (i:=3) oU.nd rfl (Or.inl qj.l)) (ak (aw (i:=4) oU.nd rfl (Or.inl oO.l) (av d9 (pvl 3 qj) (pvl 1 sO))) (aq (gZ (av d9 (av gY (av oE (az aI (pvl 2 jr) (pvl 4 oO) (fun _ _=>rfl)) am) (az aI (pvl 0 qd) (pvl 3 qj) (fun _ _=>rfl))) (av tX am am)) (kq (pvl 2 jr) (pvl 4 oO) gL))))) (aq (aF (pvl 2 jr))))),?_⟩;rw [show L2.start ["script","many","cells","k","at"] [V.ref a,V.int m]=[some (V.ref a),some (V.int m),none,none,none] from rfl];walk_at "rd";refine ⟨by decide,fun q hn=>⟨q,m,[.int 0],rfl,rfl,ah,by omega,by omega,aE (by simp;omega),fun l hl0=>?_⟩⟩;rw [Su];have s1:Same H (upd H q (.lst [.int 0])):=Same.new _ hn;have nlq:l≠q:=fun z=>by rw [z,ah] at hl0;cases hl0
   have hln:H l=none:=by rw [ao nlq] at hl0;exact hl0
   have sa:∀ o,SqL K (upd (upd H q (.lst [.int 0])) l o) a (ns.map V.int):=fun o=>Same.seq (s1.trans (Same.new _ hl0)) ha;refine ⟨_,.inl (sa _),by rw [List.length_map];omega,by rw [List.length_map];omega,?_⟩;rw [List.length_map,Int.toNat_natCast];refine tD (fun i σ H2=>∃ (cs:List Int) (v3 v4:Option V),H2=upd (upd H q (.lst [.int 0])) l (.lst (cs.map V.int))/\(cs.length:Int)=m/\σ=[some (.ref a),some (.int m),some (.ref l),v3,v4]) ⟨List.replicate m.toNat 0,none,none,by rw [List.map_replicate],by rw [List.length_replicate];omega,rfl⟩ ?_ ?_
   . rintro i σ H2 N hN hi ⟨cs,v3,v4,rfl,hcs,rfl⟩;walk_at "rd";rw [Int.zero_add];have h1:=Int.emod_nonneg (i:Int) (show m≠0 by omega);have h2:=Int.emod_lt_of_pos (i:Int) (show 0<m by omega);have hc:((i:Int) % m).toNat<cs.length:=(by omega);refine ⟨by omega,?_⟩;refine ixL ah (iW h1 (v:=.int cs[((i:Int) % m).toNat]) (by rw [List.getElem?_map,List.getElem?_eq_getElem hc];rfl)) ?_;refine ⟨_,rfl,.inr ⟨by decide,by decide⟩,?_⟩;refine ixS (sa _) (qK (v:=.int ns[i]) (by rw [List.getElem?_map,List.getElem?_eq_getElem hi];rfl)) ?_;refine ⟨_,rfl,⟨by decide,by decide,by decide⟩,p60,?_⟩;refine ⟨l,_,_,((i:Int) % m).toNat,rfl,rfl,ah,?_,?_⟩
     . unfold ixN;rw [if_pos h1,if_pos (by rw [List.length_map];omega)]
     . refine hN _ _ ⟨cs.set ((i:Int) % m).toNat ((cs[((i:Int) % m).toNat]*1000003+ns[i]) % 10^Int.toNat 60),_,_,?_,by rw [List.length_set];exact hcs,rfl⟩;rw [iV,List.map_set]
   . rintro σ H2 ⟨cs,v3,v4,rfl,hcs,rfl⟩;refine ⟨_,rfl,k l cs _ hln (s1.trans (Same.new _ hl0)) ah hcs⟩
def Cv (T:Txt K mg):Sp:=fun vs H Q _=>∃ (p:Addr) (m:Int) (sm:Bool),vs=[.ref p,.bl sm]/\H p=some (.lst [.int m])/\∀ (v m':Int) (H':Hp),2<=v->v<=1000000->H' p=some (.lst [.int m'])->(∀ b o,H b=some o->b≠p->H' b=some o)->Q (.int v) H'
abbrev d4:Stmt:=top 52
theorem Cn:FnScope ["pot","small","kind"] ["pot","small"] (aa d4):=FnScope.of (by kernel_rfl)
theorem kW:NmL (aa d4) "pot":=.of (by kernel_rfl)
theorem sW:NmL (aa d4) "small":=.of (by kernel_rfl)
theorem nD:NmL (aa d4) "kind":=.of (by kernel_rfl)
theorem cu:NmG (aa d4) "_law_take":=.of (by kernel_rfl)
theorem L8 (T:Txt K mg) (hq:aP (CXe P w)) {f:Addr} {fd:FuncData} (D:Df K mg "_law_toll" d4 ["pot","small"] f fd) {bJ:Addr} {cL:FuncData} (au:Df K mg "_law_take" cU ["pot","n"] bJ cL) (G_law_take:FnOk P w K mg base (CXe P w) 1 bJ cL ["pot","n"] (jv T)):FnOk P w K mg base (CXe P w) 2 f fd ["pot","small"] (Cv T):=by
 refine D.F.okC Cn (fun vs H Q E h=>?_) (fun cdv A outer s H vs Q E hr h=>?_)
 . obtain ⟨p,m,sm,rfl,_⟩:=h
   rfl
 . obtain ⟨p,m,sm,rfl,hp,k⟩:=h;refine ⟨_,(ak (aw (i:=2) Cn.nd rfl (Or.inl nD.l) (ar G_law_take (hr.mono (by decide)) cu.g au.m au.F.kp au.b .nil (ax hq) (ag (pvl 0 kW) (ag am aj)) (hdb:=cu.d))) (ak (bA (PW.pt (D5 (aM dv (pvl 2 nD) am (aL _)) (BJ (jQ (q8 (pvl 1 sW) (fun _=>rfl)))))) (aq (aF (av gY am (ar G_law_take (hr.mono (by decide)) cu.g au.m au.F.kp au.b .nil (ax hq) (ag (pvl 0 kW) (ag am aj)) (hdb:=cu.d))))) aO) (ak (bA (PW.pt (D5 (aM dv (pvl 2 nD) am (aL _)) (BJ (jQ (q8 (pvl 1 sW) (fun _=>rfl)))))) (aq (aF (az aI (bj (ag am (ag (av tX am am) aj))) (ar G_law_take (hr.mono (by decide)) cu.g au.m au.F.kp au.b .nil (ax hq) (ag (pvl 0 kW) (ag am aj)) (hdb:=cu.d)) (fun _ _=>rfl)))) aO) (aq (aF (av gY am (ar G_law_take (hr.mono (by decide)) cu.g au.m au.F.kp au.b .nil (ax hq) (ag (pvl 0 kW) (ag am aj)) (hdb:=cu.d)))))))),?_⟩;rw [show L2.start ["pot","small","kind"] [V.ref p,V.bl sm]=[some (V.ref p),some (V.bl sm),none] from rfl];have k1:∀ z b o,H b=some o->b≠p->upd H p z b=some o:=fun z b o e nb=>by rw [ao nb];exact e
   have em:∀ (x n:Int),0<n->0<=x % n/\x % n<n:=fun x n h=>⟨Int.emod_nonneg x (Int.ne_of_gt h),Int.emod_lt_of_pos x h⟩;refine aW fun N1 h1=>?_;walk_at "rd";refine ⟨p,m,9,rfl,hp,by decide,by decide,h1 _ _ (aW fun N2 h2=>?_)⟩;walk_at "rd";have one:jv T [V.ref p,V.int 999999] (upd H p (HO.lst [V.int (m / 9)])) (fun y H2=>∃ x,y=V.int x/\Q (V.int (2+x)) H2) E0:=by
     refine ⟨p,m / 9,999999,rfl,ah,by decide,by decide,?_⟩;rw [iV];have:=em (m / 9) 999999 (by decide);exact ⟨_,rfl,k _ _ _ (by omega) (by omega) ah (k1 _)⟩
   have kc:N2 [some (V.ref p),some (V.bl sm),some (V.int (m % 9))] (upd H p (HO.lst [V.int (m / 9)])):=by
     refine h2 _ _ (aW fun N3 h3=>?_);have last:N3 [some (V.ref p),some (V.bl sm),some (V.int (m % 9))] (upd H p (HO.lst [V.int (m / 9)])):=by
       refine h3 _ _ ?_;walk_at "rd";refine ⟨p,m / 9,3,rfl,ah,by decide,by decide,?_⟩;rw [iV];have:=em (m / 9) 3 (by decide);exact ⟨_,rfl,k _ _ _ (by omega) (by omega) ah (k1 _)⟩
     walk_at "rd";by_cases c8:m % 9=8
     . rw [if_pos c8];refine ⟨_,rfl,?_⟩;cases sm with
       | true=>rw [if_neg (by decide)];exact last
       | false =>
         rw [if_pos rfl];refine ⟨⟨by decide,by decide,by decide⟩,aE (by simp),fun q hn=>?_⟩;have nq:q≠p:=fun z=>by rw [z,ah] at hn;cases hn
         have hq0:H q=none:=(by rw [ao nq] at hn;exact hn);have h2':=em (m / 9) 2 (by decide);refine ⟨p,m / 9,2,rfl,by rw [ao nq.symm,ah],by decide,by decide,?_⟩;have fin:∀ b o,H b=some o->b≠p->upd (upd (upd H p (.lst [.int (m / 9)])) q (.lst [.int 2,.int (10^Int.toNat 6)])) p (.lst [.int (m / 9 / 2)]) b=some o:=fun b o e nb=>by
           rw [ao nb,ao (aG e hq0),ao nb];exact e
         rcases (show m / 9 % 2=0\/m / 9 % 2=1 by omega) with z|z
         . rw [z];refine ixL (by rw [ao nq,ah]) rfl ?_;exact k 2 _ _ (by decide) (by decide) ah fin
         . rw [z];refine ixL (by rw [ao nq,ah]) rfl ?_;exact k (10^Int.toNat 6) _ _ (by decide) (by decide) ah fin
     . rw [if_neg c8];exact last
   by_cases c7:m % 9=7
   . rw [if_pos c7];refine ⟨_,rfl,?_⟩;cases sm with
     | false=>rw [if_pos rfl];exact one
     | true=>rw [if_neg (by decide)];exact kc
   . rw [if_neg c7];exact kc
def Kf (r:Row):List V:=[.int r.k,.int r.un,.int r.t,.int r.u,.int r.sw,.int r.sp]
abbrev RowsAt (H:Hp):List Addr->List Row->Prop:=Paired fun p r=>H p=some (.tup (Kf r))
theorem RowsAt.get {H:Hp}:∀ {ps:List Addr} {rs:List Row} {i:Nat} {x:V},RowsAt H ps rs->(ps.map V.ref)[i]?=some x->∃ p r,x=.ref p/\ps[i]?=some p/\rs[i]?=some r/\H p=some (.tup (Kf r))
 | _,_,i,x,.nil,e=>by simp at e
 | _,_,0,x,.cons (a:=p) (b:=r) h hs,e=>⟨p,r,by simpa using e.symm,by simp,by simp,h⟩
 | a::l1,_,i+1,x,.cons h hs,e=>by
   have e':(List.map V.ref l1)[i]?=some x:=by simpa using e
   obtain ⟨p,r,h1,h2,h3,h4⟩:=RowsAt.get hs e';exact ⟨p,r,h1,by simpa using h2,by simpa using h3,h4⟩
theorem Cl {α β:Type} {R:α->β->Prop} {a:α} {b:β} (h:R a b):∀ {l₁:List α} {l₂:List β},Paired R l₁ l₂->Paired R (l₁++[a]) (l₂++[b])
 | _,_,.nil=>.cons h .nil
 | _,_,.cons x xs=>.cons x (Cl h xs)
theorem Cq {α β:Type} {R:α->β->Prop}:∀ (n:Nat) {l₁:List α} {l₂:List β},Paired R l₁ l₂->Paired R (l₁.take n) (l₂.take n)
 | 0,_,_,_=>by rw [List.take_zero,List.take_zero];exact .nil
 | _+1,_,_,.nil=>.nil
 | n+1,_,_,.cons x xs=>.cons x (Cq n xs)
theorem Ch {α β:Type} {R:α->β->Prop}:∀ (n:Nat) {l₁:List α} {l₂:List β},Paired R l₁ l₂->Paired R (l₁.drop n) (l₂.drop n)
 | 0,_,_,h=>h
 | _+1,_,_,.nil=>.nil
 | n+1,_,_,.cons x xs=>Ch n xs
theorem DR {α β:Type} {R:α->β->Prop} {k₁:List α} {k₂:List β} (h:Paired R k₁ k₂):∀ {l₁:List α} {l₂:List β},Paired R l₁ l₂->Paired R (l₁++k₁) (l₂++k₂)
 | _,_,.nil=>h
 | _,_,.cons x xs=>.cons x (DR h xs)
theorem RowsAt.snoc {H:Hp} {qs:List Addr} {rows:List Row} {q:Addr} {r:Row} (h:RowsAt H qs rows) (e:H q=some (.tup (Kf r))):RowsAt H (qs++[q]) (rows++[r]):=Cl (R:=fun p r=>H p=some (.tup (Kf r))) e h
theorem RoadsAt.ins {H:Hp} {ps:List Addr} {rs:List Road} {q:Addr} {r:Road} (n:Nat) (h:RoadsAt H ps rs) (e:H q=some (.tup (py r))):RoadsAt H (ps.take n++q::ps.drop n) (rs.take n++r::rs.drop n) :=
 DR (R:=fun p r=>H p=some (.tup (py r))) (.cons e (Ch n h)) (Cq n h)
/-- what is kept while a row is drawn -/
structure Mid (H:Hp) (la ro:Addr) (ls:List Int) (qs:List Addr) (rows:List Row) (H':Hp):Prop where
 s:Same H H'
 l:H' la=some (.lst (ls.map V.int))
 r:H' ro=some (.lst (qs.map V.ref))
 w:RowsAt H' qs rows
theorem Mid.same {H:Hp} {la ro:Addr} {ls:List Int} {qs:List Addr} {rows:List Row} {H' H2:Hp} (m:Mid H la ro ls qs rows H') (e:Same H' H2):Mid H la ro ls qs rows H2 :=
 ⟨m.s.trans e,e _ _ m.l,e _ _ m.r,Paired.imp' (fun p r q=>e p _ q) m.w⟩
theorem Mid.keep {H:Hp} {la ro:Addr} {ls:List Int} {qs:List Addr} {rows:List Row} {H' H2:Hp} {p:Addr} {xs:List V} (m:Mid H la ro ls qs rows H') (hp:H p=none) (nl:p≠la) (nr:p≠ro) (hx:H' p=some (.lst xs)) (e:∀ b o,H' b=some o->b≠p->H2 b=some o):Mid H la ro ls qs rows H2 :=
 ⟨fun b o h=>e b o (m.s b o h) (aG h hp),e _ _ m.l nl.symm,e _ _ m.r nr.symm,Paired.imp' (fun q r h=>e q _ h (gv h hx (by intro z;cases z))) m.w⟩
theorem fC {H:Hp} {p:Addr} (o:HO):∀ b u,H b=some u->b≠p->upd H p o b=some u:=fun b u h n=>by rw [ao n];exact h
def Be (T:Txt K mg):Sp:=fun vs H Q _=>∃ (a:Addr) (cs:List Int) (first:Int),vs=[.ref a,.int first]/\H a=some (.lst (cs.map V.int))/\1<=cs.length/\cs.length<=24 /\
 ∀ (l:Addr) (ps:List Addr) (rs:List Road) (H':Hp),H l=none->Same H H'->H' l=some (.lst (ps.map V.ref))->RoadsAt H' ps rs->Good (cs.length:Int) rs->Q (.ref l) H'
abbrev aN:Stmt:=top 53
theorem bz:FnScope ["cells","first","labels","rows","k","pot","under","there","back","roads","swap","spot","road"] ["cells","first"] (aa aN):=FnScope.of (by kernel_rfl)
theorem f7:NmL (aa aN) "cells":=.of (by kernel_rfl)
theorem lR:NmL (aa aN) "first":=.of (by kernel_rfl)
theorem dU:NmL (aa aN) "labels":=.of (by kernel_rfl)
theorem mD:NmL (aa aN) "rows":=.of (by kernel_rfl)
theorem bp:NmL (aa aN) "k":=.of (by kernel_rfl)
theorem d6:NmL (aa aN) "pot":=.of (by kernel_rfl)
theorem fX:NmL (aa aN) "under":=.of (by kernel_rfl)
theorem ee:NmL (aa aN) "there":=.of (by kernel_rfl)
theorem gU:NmL (aa aN) "back":=.of (by kernel_rfl)
theorem lH:NmL (aa aN) "roads":=.of (by kernel_rfl)
theorem sQ:NmL (aa aN) "swap":=.of (by kernel_rfl)
theorem sZ:NmL (aa aN) "spot":=.of (by kernel_rfl)
theorem mB:NmL (aa aN) "road":=.of (by kernel_rfl)
theorem Ad:NmG (aa aN) "range":=.of (by kernel_rfl)
theorem cV:NmG (aa aN) "len":=.of (by kernel_rfl)
theorem nY:NmG (aa aN) "_law_stir":=.of (by kernel_rfl)
theorem bZ:NmG (aa aN) "_law_take":=.of (by kernel_rfl)
theorem gK:NmG (aa aN) "_law_toll":=.of (by kernel_rfl)
theorem nu:NmG (aa aN) "int":=.of (by kernel_rfl)
theorem KQ (T:Txt K mg) (hq:aP (CXe P w)) {f:Addr} {fd:FuncData} (D:Df K mg "_law_roads" aN ["cells","first"] f fd) {fW:Addr} {mN:FuncData} (di:Df K mg "_law_stir" d3 ["cell","k"] fW mN) (G_law_stir:FnOk P w K mg base (CXe P w) 1 fW mN ["cell","k"] (wt T)) {bJ:Addr} {cL:FuncData} (au:Df K mg "_law_take" cU ["pot","n"] bJ cL) (G_law_take:FnOk P w K mg base (CXe P w) 1 bJ cL ["pot","n"] (jv T)) {kg:Addr} {Cu:FuncData} (ig:Df K mg "_law_toll" d4 ["pot","small"] kg Cu) (G_law_toll:FnOk P w K mg base (CXe P w) 2 kg Cu ["pot","small"] (Cv T)):FnOk P w K mg base (CXe P w) 3 f fd ["cells","first"] (Be T):=by
 refine D.F.okC bz (fun vs H Q E h=>?_) (fun cdv A outer s H vs Q E hr h=>?_)
 . obtain ⟨a,cs,first,rfl,_⟩:=h
   rfl
 . obtain ⟨a,cs,first,rfl,ha,h1,h24,k⟩:=h;have em:∀ (x n:Int),0<n->0<=x % n/\x % n<n:=fun x n h=>⟨Int.emod_nonneg x (Int.ne_of_gt h),Int.emod_lt_of_pos x h⟩;refine ⟨_,(ak (aw (i:=2) bz.nd rfl (Or.inl dU.l) (bj aj)) (ak (aw (i:=3) bz.nd rfl (Or.inl mD.l) (bj aj)) (ak (eS PassesOwn.never rfl (ij Ad.g T.range (ag (bI ck cV.g T.len iH (ag (pvl 0 f7) aj) (hn:=cV.n) (hdb:=cV.d)) aj)) (aB (i:=4) bz.nd rfl (Or.inl bp.l)) (ak (aw (i:=5) bz.nd rfl (Or.inl d6.l) (bj (ag (az aI (bj (ag (az aI (pvl 0 f7) (pvl 4 bp) (fun _ _=>rfl)) (ag (ar G_law_stir (hr.mono (by decide)) nY.g di.m di.F.kp di.b .nil (ax hq) (ag (az aI (pvl 0 f7) (pvl 4 bp) (fun _ _=>rfl)) (ag (pvl 4 bp) aj)) (hdb:=nY.d)) aj))) (av d9 (pvl 1 lR) am) (fun _ _=>rfl)) aj))) (ak (dG (pj PySem.F.plainAttrs_list PySem.F.slot_list_insert PySem.F.type_list_insert Gm (pvl 2 dU) (ag (ar G_law_take (hr.mono (by decide)) bZ.g au.m au.F.kp au.b .nil (ax hq) (ag (pvl 5 d6) (ag (av gY (pvl 4 bp) am) aj)) (hdb:=bZ.d)) (ag (pvl 4 bp) aj)))) (aq (bA (aM EN (pvl 4 bp) am (aL _)) (ak (aw (i:=6) bz.nd rfl (Or.inl fX.l) (az aI (bj (ag (ar G_law_take (hr.mono (by decide)) bZ.g au.m au.F.kp au.b .nil (ax hq) (ag (pvl 5 d6) (ag (pvl 4 bp) aj)) (hdb:=bZ.d)) (ag (av Ah (pvl 4 bp) am) (ag am (ag (av tL (pvl 4 bp) am) aj))))) (av d9 (av tL (pvl 1 lR) am) am) (fun _ _=>rfl))) (ak (aw (i:=7) bz.nd rfl (Or.inl ee.l) (ar G_law_toll (hr.mono (by decide)) gK.g ig.m ig.F.kp ig.b .nil (ax hq) (ag (pvl 5 d6) (ag (me EN (bI ck cV.g T.len iH (ag (pvl 0 f7) aj) (hn:=cV.n) (hdb:=cV.d)) am (aL _)) aj)) (hdb:=gK.d))) (ak (aw (i:=8) bz.nd rfl (Or.inl gU.l) (az aI (bj (ag (ar G_law_toll (hr.mono (by decide)) gK.g ig.m ig.F.kp ig.b .nil (ax hq) (ag (pvl 5 d6) (ag (me EN (bI ck cV.g T.len iH (ag (pvl 0 f7) aj) (hn:=cV.n) (hdb:=cV.d)) am (aL _)) aj)) (hdb:=gK.d)) (ag (pvl 7 ee) aj))) (fi Gw nu.g T.int P5 (ag (me dv (av d9 (av tL (pvl 1 lR) am) am) am (aL _)) aj) (hn:=nu.n) (hdb:=nu.d)) (fun _ _=>rfl))) (aq (dG (pj PySem.F.plainAttrs_list PySem.F.slot_list_append PySem.F.type_list_append ga (pvl 3 mD) (ag (bW (ag (pvl 4 bp) (ag (pvl 6 fX) (ag (pvl 7 ee) (ag (pvl 8 gU) (ag (ar G_law_take (hr.mono (by decide)) bZ.g au.m au.F.kp au.b .nil (ax hq) (ag (pvl 5 d6) (ag am aj)) (hdb:=bZ.d)) (ag (ar G_law_take (hr.mono (by decide)) bZ.g au.m au.F.kp au.b .nil (ax hq) (ag (pvl 5 d6) (ag (pvl 4 bp) aj)) (hdb:=bZ.d)) aj))))))) aj))))))) aO))))) (ak (aw (i:=9) bz.nd rfl (Or.inl lH.l) (bj aj)) (ak (eS PassesOwn.never rfl (iY (pvl 3 mD)) (kr (n:=6) rfl (aU (aB (i:=4) bz.nd rfl (Or.inl bp.l)) (aU (aB (i:=6) bz.nd rfl (Or.inl fX.l)) (aU (aB (i:=7) bz.nd rfl (Or.inl ee.l)) (aU (aB (i:=8) bz.nd rfl (Or.inl gU.l)) (aU (aB (i:=10) bz.nd rfl (Or.inl sQ.l)) (aU (aB (i:=11) bz.nd rfl (Or.inl sZ.l)) iT))))))) (ak (aw (i:=12) bz.nd rfl (Or.inl mB.l) (bW (ag (az aI (pvl 2 dU) (pvl 4 bp) (fun _ _=>rfl)) (ag (az aI (pvl 2 dU) (pvl 6 fX) (fun _ _=>rfl)) (ag (pvl 7 ee) (ag (pvl 8 gU) aj)))))) (ak (bA (aM dv (pvl 10 sQ) am (aL _)) (aq (aw (i:=12) bz.nd rfl (Or.inl mB.l) (bW (ag (az aI (pvl 2 dU) (pvl 6 fX) (fun _ _=>rfl)) (ag (az aI (pvl 2 dU) (pvl 4 bp) (fun _ _=>rfl)) (ag (pvl 7 ee) (ag (pvl 8 gU) aj))))))) aO) (aq (dG (pj PySem.F.plainAttrs_list PySem.F.slot_list_insert PySem.F.type_list_insert Gm (pvl 9 lH) (ag (pvl 11 sZ) (ag (pvl 12 mB) aj)))))))) (aq (aF (pvl 9 lH)))))))),?_⟩;rw [show L2.start ["cells","first","labels","rows","k","pot","under","there","back","roads","swap","spot","road"] [V.ref a,V.int first]=[some (V.ref a),some (V.int first),none,none,none,none,none,none,none,none,none,none,none] from rfl];walk_at "rd";refine ⟨by decide,fun la hla=>⟨by decide,fun ro hro=>?_⟩⟩;have nlr:ro≠la:=fun z=>by rw [z,ah] at hro;cases hro
   have hro0:H ro=none:=by rw [ao nlr] at hro;exact hro
   have s0:Same H (upd (upd H la (.lst [])) ro (.lst [])):=(Same.new _ hla).trans (Same.new _ hro);refine ⟨_,.inl (SqL.of (s0 _ _ ha)),by rw [List.length_map];omega,by rw [List.length_map];omega,?_⟩;rw [List.length_map,Int.toNat_natCast];refine tD (fun i σ H2=>∃ (ls:List Int) (qs:List Addr) (rows:List Row) (v4 v5 v6 v7 v8:Option V),σ=[some (V.ref a),some (V.int first),some (.ref la),some (.ref ro),v4,v5,v6,v7,v8,none,none,none,none] /\
     Mid H la ro ls qs rows H2/\Labels i ls/\Rows (i - 1) rows) ⟨[],[],[],none,none,none,none,none,rfl,⟨s0,by rw [ao nlr.symm,ah];rfl,ah,.nil⟩,Labels.nil,⟨rfl,fun i r h=>by cases h⟩⟩ ?_ ?_
   . rintro i σ H2 N hN hi ⟨ls,qs,rows,v4,v5,v6,v7,v8,rfl,M,L,R⟩;walk_at "rd";rw [Int.zero_add];have hcs:(cs.map V.int)[i]?=some (.int cs[i]):=(by rw [List.getElem?_map,List.getElem?_eq_getElem hi];rfl);refine ixL (M.s _ _ ha) (qK hcs) (ixL (M.s _ _ ha) (qK hcs) ⟨cs[i],(i:Int),rfl,by omega,by omega,fun st hst=>?_⟩);refine ⟨aE (by simp),fun q1 hq1=>?_⟩;have M1:=M.same (Same.new (.lst [.int cs[i],.int st]) hq1);refine ⟨by decide,?_⟩;obtain ⟨c0,hc0⟩:∃ c0:Int,atI [V.int cs[i],V.int st] (first % 2)=some (.int c0):=by
       rcases (show first % 2=0\/first % 2=1 by omega) with z|z
       . exact ⟨cs[i],by rw [z];rfl⟩
       . exact ⟨st,by rw [z];rfl⟩
     refine ixL ah hc0 ⟨aE (by simp),fun q2 hq2=>?_⟩;have M2:=M1.same (Same.new (.lst [.int c0]) hq2);have hq20:H q2=none:=(M1.s).free hq2;have nq2l:q2≠la:=fun z=>by rw [z,M1.l] at hq2;cases hq2
     have nq2r:q2≠ro:=fun z=>by rw [z,M1.r] at hq2;cases hq2
     generalize hH3:upd (upd H2 q1 (.lst [.int cs[i],.int st])) q2 (.lst [.int c0])=H3 at M2 ⊢;have hp3:H3 q2=some (.lst [.int c0]):=(by rw [<- hH3];exact ah);clear hH3;have pl:=em c0 ((i:Int)+1) (by omega);refine ⟨tyL M2.l,q2,c0,(i:Int)+1,rfl,hp3,by omega,by omega,?_⟩;have M3:=M2.keep hq20 nq2l nq2r hp3 (fC (.lst [.int (c0 / ((i:Int)+1))]));have hp4:upd H3 q2 (.lst [.int (c0 / ((i:Int)+1))]) q2=some (.lst [.int (c0 / ((i:Int)+1))]):=ah;generalize upd H3 q2 (.lst [.int (c0 / ((i:Int)+1))])=H4 at M3 hp4 ⊢;generalize c0 / ((i:Int)+1)=c1 at hp4;have lsl:=L.len;refine VE M3.l pl.1 (by rw [List.length_map];omega) (cj (by rw [List.length_map];omega)) ?_;have L2':=L.put (c0 % ((i:Int)+1)).toNat (by omega);have el:(ls.map V.int).take (c0 % ((i:Int)+1)).toNat++V.int (i:Int)::(ls.map V.int).drop (c0 % ((i:Int)+1)).toNat=(ls.take (c0 % ((i:Int)+1)).toNat++(i:Int)::ls.drop (c0 % ((i:Int)+1)).toNat).map V.int:=by
       rw [List.map_append,List.map_cons,List.map_take,List.map_drop]
     rw [el];generalize ls.take (c0 % ((i:Int)+1)).toNat++(i:Int)::ls.drop (c0 % ((i:Int)+1)).toNat=ls2 at L2' ⊢;have M4:Mid H la ro ls2 qs rows (upd H4 la (.lst (ls2.map V.int))):=⟨fun b o h=>fC _ b o (M3.s b o h) (aG h hla),ah,fC _ _ _ M3.r nlr,Paired.imp' (fun q r h=>fC _ _ _ h (gv h M3.l (by intro z;cases z))) M3.w⟩;have hp5:upd H4 la (.lst (ls2.map V.int)) q2=some (.lst [.int c1]):=(by rw [ao nq2l];exact hp4);generalize upd H4 la (.lst (ls2.map V.int))=H5 at M4 hp5 ⊢;by_cases c:(0:Int)<(i:Int)
     . rw [if_pos c];refine ⟨q2,c1,(i:Int),rfl,hp5,c,by omega,?_⟩;have pu:=em c1 (i:Int) c;have M5:=M4.keep hq20 nq2l nq2r hp5 (fC (.lst [.int (c1 / (i:Int))]));have hp6:upd H5 q2 (.lst [.int (c1 / (i:Int))]) q2=some (.lst [.int (c1 / (i:Int))]):=ah;generalize upd H5 q2 (.lst [.int (c1 / (i:Int))])=H6 at M5 hp6 ⊢;generalize c1 / (i:Int)=c2 at hp6;refine ⟨⟨by decide,by decide⟩,aE (by simp),fun q3 hq3=>?_⟩;have M6:=M5.same (Same.new (.lst [.int (c1 % (i:Int)),.int ((i:Int) - 1),.int 0,.int ((i:Int) / 2)]) hq3);have hp7:=Same.new (.lst [.int (c1 % (i:Int)),.int ((i:Int) - 1),.int 0,.int ((i:Int) / 2)]) hq3 _ _ hp6;refine ⟨⟨by decide,by decide⟩,by decide,?_⟩;obtain ⟨un,hun,u0,u1⟩:∃ un:Int,atI [V.int (c1 % (i:Int)),V.int ((i:Int) - 1),V.int 0,V.int ((i:Int) / 2)] (first / 2 % 4)=some (.int un)/\0<=un/\un<i:=by
         rcases (show first / 2 % 4=0\/first / 2 % 4=1\/first / 2 % 4=2\/first / 2 % 4=3 by omega) with z|z|z|z
         . exact ⟨_,by rw [z];rfl,pu.1,pu.2⟩
         . exact ⟨_,by rw [z];rfl,by omega,by omega⟩
         . exact ⟨_,by rw [z];rfl,by omega,by omega⟩
         . exact ⟨_,by rw [z];rfl,by omega,by omega⟩
       refine ixL ah hun ?_;generalize upd H6 q3 (.lst [.int (c1 % (i:Int)),.int ((i:Int) - 1),.int 0,.int ((i:Int) / 2)])=H7 at M6 hp7 ⊢;refine ⟨_,.inl (SqL.of (M6.s _ _ ha)),q2,c2,_,rfl,hp7,fun th c3 H8 t0 t1 hp8 k8=>?_⟩;have M7:=M6.keep hq20 nq2l nq2r hp7 k8;refine ⟨_,.inl (SqL.of (M7.s _ _ ha)),q2,c3,_,rfl,hp8,fun bk c4 H9 b0 b1 hp9 k9=>?_⟩;have M8:=M7.keep hq20 nq2l nq2r hp8 k9;refine ⟨aE (by simp),fun q4 hq4=>?_⟩;have M9:=M8.same (Same.new (.lst [.int bk,.int th]) hq4);have hp10:=Same.new (.lst [.int bk,.int th]) hq4 _ _ hp9;refine ⟨⟨by decide,by decide⟩,by decide,.inr ?_⟩;obtain ⟨bk2,hbk,b02,b12⟩:∃ bk2:Int,atI [V.int bk,V.int th] (if first / 8 % 3=1 then 1 else 0)=some (.int bk2)/\2<=bk2/\bk2<=1000000:=by
         by_cases z:first / 8 % 3=1
         . exact ⟨th,by rw [if_pos z];rfl,t0,t1⟩
         . exact ⟨bk,by rw [if_neg z];rfl,b0,b1⟩
       refine ixL ah hbk ?_;generalize upd H9 q4 (.lst [.int bk,.int th])=H10 at M9 hp10 ⊢;refine ⟨tyL M9.r,q2,c4,2,rfl,hp10,by decide,by decide,?_⟩;have M10:=M9.keep hq20 nq2l nq2r hp10 (fC (.lst [.int (c4 / 2)]));have hp11:upd H10 q2 (.lst [.int (c4 / 2)]) q2=some (.lst [.int (c4 / 2)]):=ah;generalize upd H10 q2 (.lst [.int (c4 / 2)])=H11 at M10 hp11 ⊢;refine ⟨q2,c4 / 2,(i:Int),rfl,hp11,c,by omega,?_⟩;have ps:=em (c4 / 2) (i:Int) c;have M11:=M10.keep hq20 nq2l nq2r hp11 (fC (.lst [.int (c4 / 2 / (i:Int))]));generalize upd H11 q2 (.lst [.int (c4 / 2 / (i:Int))])=H12 at M11 ⊢;refine ⟨aE (by simp),fun q5 hq5=>?_⟩;have qsl:qs.length=rows.length:=Paired.length M11.w;have rl:=R.len;have M12:=M11.same (Same.new (.tup [.int (i:Int),.int un,.int th,.int bk2,.int (c4 % 2),.int (c4 / 2 % (i:Int))]) hq5);refine wF M12.r (cj (by rw [List.length_map];omega)) (hN _ _ ⟨ls2,qs++[q5],rows++[⟨(i:Int),un,th,bk2,c4 % 2,c4 / 2 % (i:Int)⟩],_,_,_,_,_,rfl,?_,L2',?_⟩)
       . refine ⟨fun b o h=>fC _ b o (M12.s b o h) (aG h hro0),fC _ _ _ M12.l nlr.symm,by rw [ah,List.map_append];rfl,?_⟩;refine RowsAt.snoc (Paired.imp' (fun q r h=>fC _ _ _ h (gv h M12.r (by intro z;cases z))) M12.w) (fC _ _ _ ah fun z=>?_);rw [z,M11.r] at hq5;cases hq5
       . refine ⟨by rw [List.length_append,rl];simp;omega,fun j r hj=>?_⟩;by_cases hjl:j<rows.length
         . rw [List.getElem?_append_left hjl] at hj;exact R.ok j r hj
         . have hj2:j=rows.length:=by
             have:=(List.getElem?_eq_some_iff.mp hj).1;rw [List.length_append] at this;simp at this;omega
           rw [hj2,List.getElem?_append_right (Nat.le_refl _),Nat.sub_self] at hj;cases hj;exact ⟨by show (i:Int)=_;omega,⟨u0,u1,t0,t1,b02,b12,ps.1,ps.2⟩⟩
     . rw [if_neg c];refine hN _ _ ⟨ls2,qs,rows,_,_,v6,v7,v8,rfl,M4,L2',?_⟩;have z:i=0:=(by omega);subst z;exact R
   . rintro σ H2 ⟨ls,qs,rows,v4,v5,v6,v7,v8,rfl,M,L,R⟩;walk_at "rd";refine ⟨by decide,fun lo hlo=>⟨⟨_,SqL.of (Same.new _ hlo _ _ M.r)⟩,?_⟩⟩;have hlo0:H lo=none:=M.s.free hlo;have nla:lo≠la:=fun z=>by rw [z,M.l] at hlo;cases hlo
     have nlro:lo≠ro:=fun z=>by rw [z,M.r] at hlo;cases hlo
     have M0:=M.same (Same.new (.lst []) hlo);have qsl:qs.length=rows.length:=Paired.length M.w;have rl:=R.len;refine rp (K:=K) (xs:=qs.map V.ref) (fun i σ H3=>∃ (ps:List Addr) (rs:List Road) (w4 w6 w7 w8 w10 w11 w12:Option V),σ=[some (V.ref a),some (V.int first),some (.ref la),some (.ref ro),w4,v5,w6,w7,w8,some (.ref lo),w10,w11,w12] /\
       Mid H la ro ls qs rows H3/\H3 lo=some (.lst (ps.map V.ref))/\RoadsAt H3 ps rs/\Put ls (rows.take i) rs) ⟨[],[],_,_,_,_,_,_,_,rfl,M0,ah,.nil,Put.nil ls⟩ (fun i σ H3 _ ⟨_,_,_,_,_,_,_,_,_,_,m,_⟩=>SqL.of m.r) ?_ ?_
     . rintro i x σ H3 N hN hi ⟨ps,rs,w4,w6,w7,w8,w10,w11,w12,rfl,M3,hl3,ro3,P⟩;obtain ⟨q,r,rfl,e1,e2,e3⟩:=M3.w.get hi;obtain ⟨rk,ok⟩:=R.ok i r e2;have hil:i<rows.length:=(List.getElem?_eq_some_iff.mp e2).1;have et:rows.take (i+1)=rows.take i++[r]:=(by rw [List.take_succ,e2];rfl);have u0:=ok.u0;have u1:=ok.u1;have sp0:=ok.s0;have sp1:=ok.s1;have pl:=P.len;rw [List.length_take] at pl;have psl:ps.length=rs.length:=Paired.length ro3;walk_at "rd";refine ⟨Kf r,SqT.of e3,rfl,.int r.k,_,rfl,.int r.un,_,rfl,.int r.t,_,rfl,.int r.u,_,rfl,.int r.sw,_,rfl,.int r.sp,_,rfl,rfl,?_⟩;have gk:atI (ls.map V.int) r.k=some (.int (ls.getD r.k.toNat 0)):=iW (by omega) (by rw [List.getElem?_map,tQ L (by omega)];rfl);have gu:atI (ls.map V.int) r.un=some (.int (ls.getD r.un.toNat 0)):=iW u0 (by rw [List.getElem?_map,tQ L (by omega)];rfl);refine ixL M3.l gk (ixL M3.l gu ⟨aE (by simp),fun q1 hq1=>?_⟩);have M4:=M3.same (Same.new (.tup [.int (ls.getD r.k.toNat 0),.int (ls.getD r.un.toNat 0),.int r.t,.int r.u]) hq1);have hl4:=Same.new (.tup [.int (ls.getD r.k.toNat 0),.int (ls.getD r.un.toNat 0),.int r.t,.int r.u]) hq1 _ _ hl3;have ro4:=RoadsAt.same (Same.new (.tup [.int (ls.getD r.k.toNat 0),.int (ls.getD r.un.toNat 0),.int r.t,.int r.u]) hq1) ro3;have hq4:upd H3 q1 (.tup [.int (ls.getD r.k.toNat 0),.int (ls.getD r.un.toNat 0),.int r.t,.int r.u]) q1=some (.tup [.int (ls.getD r.k.toNat 0),.int (ls.getD r.un.toNat 0),.int r.t,.int r.u]):=ah;generalize upd H3 q1 (.tup [.int (ls.getD r.k.toNat 0),.int (ls.getD r.un.toNat 0),.int r.t,.int r.u])=H4 at M4 hl4 ro4 hq4 ⊢;have put:∀ (H5:Hp) (q5:Addr) (w4 w6 w7 w8 w10 w11 w12:Option V),Mid H la ro ls qs rows H5->H5 lo=some (.lst (ps.map V.ref))->RoadsAt H5 ps rs->H5 q5=some (.tup (py (pP ls r))) ->
           tyV K "list" (V.ref lo) H5/\rInsert (V.ref lo) [V.int r.sp,V.ref q5] H5 fun _ H6=>N [some (V.ref a),some (V.int first),some (.ref la),some (.ref ro),w4,v5,w6,w7,w8,some (.ref lo),w10,w11,w12] H6:=by
         intro H5 q5 w4 w6 w7 w8 w10 w11 w12 M5 hl5 ro5 hq5;refine ⟨tyL hl5,VE hl5 sp0 (by rw [List.length_map];omega) (cj (by rw [List.length_map];omega)) (hN _ _ ⟨ps.take r.sp.toNat++q5::ps.drop r.sp.toNat,rs.take r.sp.toNat++pP ls r::rs.drop r.sp.toNat,_,_,_,_,_,_,_,rfl,?_,?_,?_,?_⟩)⟩
         . exact M5.keep hlo0 nla nlro hl5 (fC _)
         . rw [ah,List.map_append,List.map_cons,List.map_take,List.map_drop]
         . have kp:∀ q r',H5 q=some (.tup (py r'))->upd H5 lo (.lst ((ps.map V.ref).take r.sp.toNat++V.ref q5::(ps.map V.ref).drop r.sp.toNat)) q=some (.tup (py r')):=fun q _ h=>fC _ _ _ h (gv h hl5 (by intro z;cases z));exact RoadsAt.ins _ (Paired.imp' kp ro5) (kp _ _ hq5)
         . rw [et];exact P.step r r.sp.toNat
       walk_at "rd";by_cases csw:r.sw=1
       . rw [if_pos csw];refine ixL M4.l gu (ixL M4.l gk ⟨aE (by simp),fun q2 hq2=>?_⟩);refine put _ q2 _ _ _ _ _ _ _ (M4.same (Same.new _ hq2)) (Same.new _ hq2 _ _ hl4) (RoadsAt.same (Same.new _ hq2) ro4) ?_;rw [ah];unfold pP;rw [if_pos csw];rfl
       . rw [if_neg csw];refine put _ q1 _ _ _ _ _ _ _ M4 hl4 ro4 ?_;rw [hq4];unfold pP;rw [if_neg csw];rfl
     . rintro σ H3 ⟨ps,rs,w4,w6,w7,w8,w10,w11,w12,rfl,M3,hl3,ro3,P⟩;rw [List.length_map,qsl,List.take_length] at P;exact ⟨_,rfl,k lo ps rs H3 hlo0 M3.s hl3 ro3 (UA h1 h24 L R P)⟩
def EX (T:Txt K mg):Sp:=fun vs H Q _=>∃ (a z:Addr) (ns ss:List Int),vs=[.ref a,.ref z]/\SqL K H a (ns.map V.int)/\ns.length<=63/\H z=some (.lst (ss.map V.int))/\1<=ss.length/\ss.length<=100/\(∀ m∈ss,1<=m/\m<=24) /\
 ∀ (t l:Addr) (m:Int) (ps:List Addr) (rs:List Road) (H':Hp),m∈ss->H t=none->H l=none->Same H H'->H' t=some (.tup [.int m,.ref l])->H' l=some (.lst (ps.map V.ref))->RoadsAt H' ps rs->Good m rs->Q (.ref t) H'
abbrev dg:Stmt:=top 54
theorem za:FnScope ["script","sizes","first","many"] ["script","sizes"] (aa dg):=FnScope.of (by kernel_rfl)
theorem tj:NmL (aa dg) "script":=.of (by kernel_rfl)
theorem nh:NmL (aa dg) "sizes":=.of (by kernel_rfl)
theorem m7:NmL (aa dg) "first":=.of (by kernel_rfl)
theorem oX:NmL (aa dg) "many":=.of (by kernel_rfl)
theorem pZ:NmG (aa dg) "_law_cell":=.of (by kernel_rfl)
theorem iq:NmG (aa dg) "len":=.of (by kernel_rfl)
theorem pG:NmG (aa dg) "_law_roads":=.of (by kernel_rfl)
theorem pM:NmG (aa dg) "_law_cells":=.of (by kernel_rfl)
theorem Ny (T:Txt K mg) (hq:aP (CXe P w)) {f:Addr} {fd:FuncData} (D:Df K mg "_law_web" dg ["script","sizes"] f fd) {fT:Addr} {mR:FuncData} (eR:Df K mg "_law_cell" d5 ["script","k"] fT mR) (G_law_cell:FnOk P w K mg base (CXe P w) 1 fT mR ["script","k"] (wT T)) {jC:Addr} {AN:FuncData} (kG:Df K mg "_law_cells" cz ["script","many"] jC AN) (G_law_cells:FnOk P w K mg base (CXe P w) 1 jC AN ["script","many"] (AO T)) {jt:Addr} {Ai:FuncData} (kK:Df K mg "_law_roads" aN ["cells","first"] jt Ai) (G_law_roads:FnOk P w K mg base (CXe P w) 3 jt Ai ["cells","first"] (Be T)):FnOk P w K mg base (CXe P w) 4 f fd ["script","sizes"] (EX T):=by
 refine D.F.okC za (fun vs H Q E h=>?_) (fun cdv A outer s H vs Q E hr h=>?_)
 . obtain ⟨a,z,ns,ss,rfl,_⟩:=h
   rfl
 . obtain ⟨a,z,ns,ss,rfl,ha,hn,hz,h1,h2,hs,k⟩:=h;refine ⟨_,(ak (aw (i:=2) za.nd rfl (Or.inl m7.l) (ar G_law_cell (hr.mono (by decide)) pZ.g eR.m eR.F.kp eR.b .nil (ax hq) (ag (pvl 0 tj) (ag am aj)) (hdb:=pZ.d))) (ak (aw (i:=3) za.nd rfl (Or.inl oX.l) (az aI (pvl 1 nh) (av d9 (pvl 2 m7) (bI ck iq.g T.len iH (ag (pvl 1 nh) aj) (hn:=iq.n) (hdb:=iq.d))) (fun _ _=>rfl))) (aq (aF (bW (ag (pvl 3 oX) (ag (ar G_law_roads (hr.mono (by decide)) pG.g kK.m kK.F.kp kK.b .nil (ax hq) (ag (ar G_law_cells (hr.mono (by decide)) pM.g kG.m kG.F.kp kG.b .nil (ax hq) (ag (pvl 0 tj) (ag (pvl 3 oX) aj)) (hdb:=pM.d)) (ag (av tL (pvl 2 m7) (bI ck iq.g T.len iH (ag (pvl 1 nh) aj) (hn:=iq.n) (hdb:=iq.d))) aj)) (hdb:=pG.d)) aj))))))),?_⟩;rw [show L2.start ["script","sizes","first","many"] [V.ref a,V.ref z]=[some (V.ref a),some (V.ref z),none,none] from rfl];walk_at "rd";refine ⟨a,ns,0,rfl,ha,by decide,fun v v0 v1=>?_⟩;walk_at "rd";refine ⟨_,.inl (SqL.of hz),?_⟩;rw [List.length_map];have p0:=Int.emod_nonneg v (show (ss.length:Int)≠0 by omega);have p1:=Int.emod_lt_of_pos v (show 0<(ss.length:Int) by omega);have hlt:(v % (ss.length:Int)).toNat<ss.length:=by omega
   refine ⟨by omega,?_⟩;refine ixL hz (iW p0 (v:=.int ss[(v % (ss.length:Int)).toNat]) (by rw [List.getElem?_map,List.getElem?_eq_getElem hlt];rfl)) ?_;have hm:=hs _ (List.getElem_mem hlt);have hmem:=List.getElem_mem hlt;generalize ss[(v % (ss.length:Int)).toNat]=m at hm hmem ⊢;refine ⟨a,ns,m,rfl,ha,by omega,hm.1,by omega,fun c cs H1 hc s1 hc1 cl=>?_⟩;walk_at "rd";refine ⟨_,.inl (SqL.of (s1 _ _ hz)),?_⟩;rw [List.length_map];refine ⟨⟨by omega,by omega⟩,?_⟩;refine ⟨c,cs,_,rfl,hc1,by omega,by omega,fun l ps rs H2 hl s2 hl2 ro g=>?_⟩;rw [cl] at g;refine ⟨aE (by simp),fun t ht=>?_⟩;have s3:=Same.new (.tup [.int m,.ref l]) ht;exact k t l m ps rs _ hmem ((s1.trans s2).free ht) (s1.free hl) (s1.trans (s2.trans s3)) ah (s3 _ _ hl2) (RoadsAt.same s3 ro) g
def Mq (T:Txt K mg):Sp:=fun vs H Q _=>∃ (a b:Addr) (f g:Int × Int) (n:Nat),vs=[.ref a,.ref b]/\SqT K H a [.int f.1,.int f.2]/\SqT K H b [.int g.1,.int g.2]/\FrB n f/\FrB n g/\n<=1000 /\
 ∀ (p q:Int) (r:Addr) (H':Hp),Frc (f.1*g.2+g.1*f.2) (f.2*g.2) p q->H r=none->Same H H'->H' r=some (.tup [.int p,.int q])->Q (.ref r) H'
abbrev lC:Stmt:=top 3
theorem Vw:FnScope ["one","two"] ["one","two"] (aa lC):=FnScope.of (by kernel_rfl)
theorem Mc:NmL (aa lC) "one":=.of (by kernel_rfl)
theorem LV:NmL (aa lC) "two":=.of (by kernel_rfl)
theorem xY:NmG (aa lC) "sum_up":=.of (by kernel_rfl)
theorem US (T:Txt K mg) (hq:aP (CXe P w)) {f:Addr} {fd:FuncData} (D:Df K mg "plus" lC ["one","two"] f fd) {cW:Addr} {dM:FuncData} (be:Df K mg "sum_up" cY ["some"] cW dM) (G_sum_up:FnOk P w K mg base (CXe P w) 3 cW dM ["some"] (nW T)):FnOk P w K mg base (CXe P w) 4 f fd ["one","two"] (Mq T):=by
 refine D.F.okC Vw (fun vs H Q E h=>?_) (fun cdv A outer s H vs Q E hr h=>?_)
 . obtain ⟨a,b,f,g,n,rfl,_⟩:=h
   rfl
 . obtain ⟨a,b,f,g,n,rfl,ha,hb,fb,gb,n1,k⟩:=h;refine ⟨_,(aq (aF (ar G_sum_up (hr.mono (by decide)) xY.g be.m be.F.kp be.b .nil (ax hq) (ag (bj (ag (pvl 0 Mc) (ag (pvl 1 LV) aj))) aj) (hdb:=xY.d)))),?_⟩;rw [show L2.start ["one","two"] [V.ref a,V.ref b]=[some (V.ref a),some (V.ref b)] from rfl];walk_at "rd";refine ⟨aE (by simp),fun l nl=>?_⟩;have s1:=Same.new (.lst [V.ref a,V.ref b]) nl;refine ⟨l,true,[a,b],[f,g],n,rfl,ah,.cons (Same.tup s1 ha) (.cons (Same.tup s1 hb) .nil),fun x hx=>?_,by simp;omega,n1,by simp,fun p q r H' fr nr s' e=>k p q r H' ?_ (s1.free nr) (s1.trans s') e⟩
   . simp only [List.mem_cons,List.mem_nil_iff,or_false] at hx;rcases hx with rfl|rfl
     . exact fb
     . exact gb
   . have e1:(nG [f,g] (0,1)).1=f.1*g.2+g.1*f.2:=by
       show (0*f.2+f.1*1)*g.2+g.1*(1*f.2)=_;rw [Int.zero_mul,Int.zero_add,Int.mul_one,Int.one_mul]
     have e2:(nG [f,g] (0,1)).2=f.2*g.2:=by
       show 1*f.2*g.2=_;rw [Int.one_mul]
     rw [e1,e2] at fr;exact fr
def CW (T:Txt K mg):Sp:=fun vs H Q _=>∃ (a b:Addr) (f g:Int × Int) (n:Nat),vs=[.ref a,.ref b]/\SqT K H a [.int f.1,.int f.2]/\SqT K H b [.int g.1,.int g.2]/\FrB n f/\FrB n g/\n<=1000 /\
 ∀ (p q:Int) (r:Addr) (H':Hp),Frc (f.1*g.2 - g.1*f.2) (f.2*g.2) p q->H r=none->Same H H'->H' r=some (.tup [.int p,.int q])->Q (.ref r) H'
abbrev iZ:Stmt:=top 4
theorem Sk:FnScope ["one","two"] ["one","two"] (aa iZ):=FnScope.of (by kernel_rfl)
theorem Jb:NmL (aa iZ) "one":=.of (by kernel_rfl)
theorem A9:NmL (aa iZ) "two":=.of (by kernel_rfl)
theorem zK:NmG (aa iZ) "plus":=.of (by kernel_rfl)
theorem Tf (T:Txt K mg) (hq:aP (CXe P w)) {f:Addr} {fd:FuncData} (D:Df K mg "minus" iZ ["one","two"] f fd) {tU:Addr} {MD:FuncData} (xO:Df K mg "plus" lC ["one","two"] tU MD) (G_plus:FnOk P w K mg base (CXe P w) 4 tU MD ["one","two"] (Mq T)):FnOk P w K mg base (CXe P w) 5 f fd ["one","two"] (CW T):=by
 refine D.F.okC Sk (fun vs H Q E h=>?_) (fun cdv A outer s H vs Q E hr h=>?_)
 . obtain ⟨a,b,f,g,n,rfl,_⟩:=h
   rfl
 . obtain ⟨a,b,f,g,n,rfl,ha,hb,fb,gb,n1,k⟩:=h;refine ⟨_,(aq (aF (ar G_plus (hr.mono (by decide)) zK.g xO.m xO.F.kp xO.b .nil (ax hq) (ag (pvl 0 Jb) (ag (bW (ag (Ie D9 (az bC (pvl 1 A9) am (fun _ _=>rfl))) (ag (az bC (pvl 1 A9) am (fun _ _=>rfl)) aj))) aj)) (hdb:=zK.d)))),?_⟩;rw [show L2.start ["one","two"] [V.ref a,V.ref b]=[some (V.ref a),some (V.ref b)] from rfl];walk_at "rd";refine qW hb rfl ?_;refine ⟨_,rfl,qW hb rfl ⟨aE (by simp),fun l nl=>?_⟩⟩;have s1:=Same.new (.tup [V.int (-g.1),V.int g.2]) nl;refine ⟨a,l,f,(-g.1,g.2),n,rfl,Same.tup s1 ha,SqT.of ah,fb,⟨gb.1,by show (-g.1).natAbs<_;rw [Int.natAbs_neg];exact gb.2.1,gb.2.2⟩,n1,fun p q r H' fr nr s' e=>k p q r H' ?_ (s1.free nr) (s1.trans s') e⟩;rw [show f.1*g.2 - g.1*f.2=f.1*g.2 + -g.1*f.2 by rw [Int.neg_mul];omega];exact fr
def uU (T:Txt K mg):Sp:=fun vs H Q _=>∃ (i j:Int),vs=[.int i,.int j]/\(2<=i/\i<=1000000)/\(2<=j/\j<=1000000)/\∀ (p q:Int) (r:Addr),Frc (i - 1) (i*j - 1) p q->H r=none->Q (.ref r) (upd H r (.tup [.int p,.int q]))
abbrev dE:Stmt:=top 43
theorem Ix:FnScope ["one","other"] ["one","other"] (aa dE):=FnScope.of (by kernel_rfl)
theorem ud:NmL (aa dE) "one":=.of (by kernel_rfl)
theorem Ba:NmL (aa dE) "other":=.of (by kernel_rfl)
theorem oq:NmG (aa dE) "fraction":=.of (by kernel_rfl)
theorem JQ (T:Txt K mg) (hq:aP (CXe P w)) {f:Addr} {fd:FuncData} (D:Df K mg "road_part" dE ["one","other"] f fd) {dI:Addr} {ii:FuncData} (cC:Df K mg "fraction" dh ["top","bottom"] dI ii) (G_fraction:FnOk P w K mg base (CXe P w) 2 dI ii ["top","bottom"] (rf T)):FnOk P w K mg base (CXe P w) 3 f fd ["one","other"] (uU T):=by
 refine D.F.okC Ix (fun vs H Q E h=>?_) (fun cdv A outer s H vs Q E hr h=>?_)
 . obtain ⟨i,j,rfl,_⟩:=h
   rfl
 . obtain ⟨i,j,rfl,hi,hj,k⟩:=h;refine ⟨_,(aq (aF (ar G_fraction (hr.mono (by decide)) oq.g cC.m cC.F.kp cC.b .nil (ax hq) (ag (av Ah (pvl 0 ud) am) (ag (av Ah (av dc (pvl 0 ud) (pvl 1 Ba)) am) aj)) (hdb:=oq.d)))),?_⟩;rw [show L2.start ["one","other"] [V.int i,V.int j]=[some (V.int i),some (V.int j)] from rfl];have ib:i.natAbs<2^20:=by omega
   have jb:j.natAbs<2^20:=by omega
   have m4:4<=i*j:=by have:=Int.mul_le_mul hi.1 hj.1 (by decide) (by omega);omega
   have mb:(i*j).natAbs<2^40:=bR (m:=20) (n:=20) ib jb;walk_at "rd";exact ⟨jh (bc ib (by decide)) (bc jb (by decide)),i - 1,i*j - 1,rfl,by omega,bc (m:=40) (by omega) (by decide),k⟩
def zq (T:Txt K mg):Sp:=fun vs H Q _=>∃ (p t:Addr) (m:Int) (ps:List Addr) (rs:List Road) (u:Int),vs=[.ref p,.int u]/\WebAt T.Web H p m t ps rs/\0<=u/\u<m/\m<=8 /\
 ∀ (f:Int × Int) (r:Addr) (H':Hp),FrB 340 f->f.1.gcd f.2=1->(f.1:Rat) / f.2=shr m rs (evp rs) u->H r=none->Same H H'->H' r=some (.tup [.int f.1,.int f.2])->Q (.ref r) H'
abbrev bH:Stmt:=top 40
theorem zP:FnScope ["web","place","near"] ["web","place"] (aa bH):=FnScope.of (by kernel_rfl)
theorem BW:NmC (aa bH) "web":=.of (by kernel_rfl)
theorem zX:NmC (aa bH) "place":=.of (by kernel_rfl)
theorem rz:NmL (aa bH) "near":=.of (by kernel_rfl)
theorem lI:NmG (aa bH) "neighbours":=.of (by kernel_rfl)
theorem pU:NmG (aa bH) "minus":=.of (by kernel_rfl)
theorem sM:NmG (aa bH) "ONE":=.of (by kernel_rfl)
theorem oQ:NmG (aa bH) "sum_up":=.of (by kernel_rfl)
theorem Ha (T:Txt K mg) (hq:aP (CXe P w)) {f:Addr} {fd:FuncData} (D:Df K mg "even_share" bH ["web","place"] f fd) {kD:Addr} {uX:FuncData} (jR:Df K mg "minus" iZ ["one","two"] kD uX) (G_minus:FnOk P w K mg base (CXe P w) 5 kD uX ["one","two"] (CW T)) {cG:Addr} {fj:FuncData} (bG:Df K mg "neighbours" bU ["web","a"] cG fj) (G_neighbours:FnOk P w K mg base (CXe P w) 3 cG fj ["web","a"] (mU T)) {eD:Addr} {lu:FuncData} (dW:Df K mg "road_part" dE ["one","other"] eD lu) (G_road_part:FnOk P w K mg base (CXe P w) 3 eD lu ["one","other"] (uU T)) {cW:Addr} {dM:FuncData} (be:Df K mg "sum_up" cY ["some"] cW dM) (G_sum_up:FnOk P w K mg base (CXe P w) 3 cW dM ["some"] (nW T)) {gS:Addr} {jT:FuncData} (cK:Df K mg "toll" eh ["web","a","b"] gS jT) (G_toll:FnOk P w K mg base (CXe P w) 3 gS jT ["web","a","b"] (xL T)):FnOk P w K mg base (CXe P w) 6 f fd ["web","place"] (zq T):=by
 refine D.F.okC zP (fun vs H Q E h=>?_) (fun cdv A outer s H vs Q E hr h=>?_)
 . obtain ⟨p,t,m,ps,rs,u,rfl,_⟩:=h
   rfl
 . obtain ⟨p,t,m,ps,rs,u,rfl,W,u0,u1,m8,k⟩:=h;have g:=W.go;have m24:=g.m24;refine ⟨_,(ak (aw (i:=2) zP.nd rfl (Or.inl rz.l) (ar G_neighbours (hr.mono (by decide)) lI.g bG.m bG.F.kp bG.b .nil (ax hq) (ag (pvc 0 BW) (ag (pvc 1 zX) aj)) (hdb:=lI.d))) (aq (aF (ar G_minus (hr.mono (by decide)) pU.g jR.m jR.F.kp jR.b .nil (ax hq) (ag (tG (v:=.ref T.ONE) sM.g T.Ia rfl (hd:=sM.d)) (ag (ar G_sum_up (hr.mono (by decide)) oQ.g be.m be.F.kp be.b .nil (ax hq) (ag (fM rfl (gI (Nc:=["other","web","place"]) 1 [0,1] (by decide +kernel) rfl (by decide +kernel) rfl (by show ∀ (y:Str × NameKind),y∈_->y.2=NameKind.free->(aa bH).names.lookup y.1=some NameKind.cell;decide +kernel) rfl (fun _ h=>dL h) (fun i hi=>match i,hi with|0,_=>⟨"web",0,rfl,rfl,rfl,by decide +kernel⟩|1,_=>⟨"place",1,rfl,rfl,rfl,by decide +kernel⟩|i+2,hi=>absurd hi (by show ¬ i+2<2;omega))) (xU true (pvl 2 rz)) (fun _ _ _ _=>(aB (i:=0) (show (["other","web","place"]:List Str).Nodup from by decide +kernel) rfl (Or.inl rfl))) (fun _ _ _ _=>fK) (fun _ _ _ _=>(ar G_road_part (hr.mono (by decide)) (by rfl) dW.m dW.F.kp dW.b .nil (ax hq) (ag (ar G_toll (hr.mono (by decide)) (by rfl) cK.m cK.F.kp cK.b .nil (ax hq) (ag (pv 1) (ag (pv 2) (ag (pv 0) aj)))) (ag (ar G_toll (hr.mono (by decide)) (by rfl) cK.m cK.F.kp cK.b .nil (ax hq) (ag (pv 1) (ag (pv 0) (ag (pv 2) aj)))) aj))))) aj) (hdb:=oQ.d)) aj)) (hdb:=pU.d))))),?_⟩;rw [show L2.start ["web","place","near"] [V.ref p,V.int u]=[some (V.ref p),some (V.int u),none] from rfl];refine aW fun N1 h1=>?_;walk_at "rd";refine ⟨p,t,m,ps,rs,u,rfl,W,fun l H1 _ _ nl s1 el=>h1 _ _ ?_,fun z=>absurd ⟨u0,u1⟩ z⟩;have W1:=W.same s1;have nbl:(cN m rs u).length<=8:=by
     have:=List.length_filter_le (fun q=>decide (q∈cF rs u)) (below m.toNat);rw [bo] at this;have e:(cN m rs u).length=((below m.toNat).filter fun q=>decide (q∈cF rs u)).length:=rfl;omega
   walk_at "rd";refine ⟨⟨_,SqL.of el⟩,fun pc npc=>?_⟩;refine iA (K:=K) (c:=true) (xs:=(cN m rs u).map V.int) (fun i ys σ H3=>Same H1 H3/\H3 pc=some (.lst ys)/\∃ (qs:List Addr) (fs:List (Int × Int)) (v:Option V),ys=qs.map V.ref/\qs.length=i/\FrsAt H3 qs fs/\(∀ f∈fs,FrB 40 f)/\eB fs (fun f=>(f.1:Rat) / f.2)=eB ((cN m rs u).take i) (evp rs u)/\σ=[v,some (V.ref p),some (V.int u)]) ⟨Same.new _ npc,ah,[],[],_,rfl,rfl,.nil,(fun f hf=>nomatch hf),rfl,rfl⟩ (fun i ys σ H3 _ z=>SqL.of (z.1 _ _ el)) ?_ ?_
   . rintro i x ys σ H3 N hN hx ⟨s3,e3,qs,fs,v,rfl,qi,hf,fb,su,rfl⟩;rw [List.getElem?_map] at hx;obtain ⟨o,go,rfl⟩:=Option.map_eq_some_iff.mp hx;have ad:=(yF g).mp (List.mem_of_getElem? go);obtain ⟨_,or,_⟩:=g.adj ad;obtain ⟨b,eb,b2,b6⟩:=kb g ad;obtain ⟨a,ea,a2,a6⟩:=kb g ad.symm;have il:=(List.getElem?_eq_some_iff.mp go).1;have W3:=W1.same s3;walk_at "rd";refine ⟨p,t,m,ps,rs,u,o,rfl,W3,fun b' _ _ _ _ e=>?_,(fun z=>absurd ⟨⟨u0,u1⟩,or⟩ z),(fun _ _ _ _ z=>by rw [eb] at z;cases z)⟩;rw [eb] at e;cases e;refine ⟨p,t,m,ps,rs,o,u,rfl,W3,fun a' _ _ _ _ e=>?_,(fun z=>absurd ⟨or,⟨u0,u1⟩⟩ z),(fun _ _ _ _ z=>by rw [ea] at z;cases z)⟩;rw [ea] at e;cases e;refine ⟨b,a,rfl,⟨b2,b6⟩,⟨a2,a6⟩,fun x y rr fr nr=>?_⟩;have s4:=Same.new (.tup [V.int x,V.int y]) nr;have ba4:4<=b*a:=(by have:=Int.mul_le_mul b2 a2 (by decide) (by omega);omega);have bab:(b*a).natAbs<2^40:=bR (m:=20) (n:=20) (by omega) (by omega);obtain ⟨l1,l2⟩:=lw fr (by omega);have npr:pc≠rr:=fun z=>by rw [z] at e3;rw [e3] at nr;cases nr
     refine ⟨s4 _ _ e3,cj (by rw [List.length_map];omega),hN _ _ _ ⟨(s3.trans s4).put npc _,ah,qs++[rr],fs++[(x,y)],_,by rw [List.map_append];rfl,by rw [List.length_append,qi];rfl,?_,fun f hf=>?_,?_,rfl⟩⟩
     . refine tI (by rw [ao npr.symm];exact ah) (Paired.imp' (fun q f h=>?_) hf);rw [ao (gv (s4 _ _ h) (s4 _ _ e3) (by intro z;cases z))];exact s4 _ _ h
     . rcases List.mem_append.mp hf with h|h
       . exact fb f h
       . rw [List.mem_singleton.mp h];exact ⟨fr.pos,by show x.natAbs<2^40;omega,by show y.natAbs<2^40;omega⟩
     . rw [List.take_succ,go,Option.toList_some,lL,lL,su,lX fr (by omega)]
       congr 1
       unfold evp jc;rw [eb,ea];show ((b - 1:Int):Rat) / ((b*a - 1:Int):Rat)=_;rw [Rat.intCast_sub,Rat.intCast_sub,Rat.intCast_mul]
       rfl
   . rintro ys σ H3 ⟨s3,e3,qs,fs,v,rfl,qi,hf,fb,su,rfl⟩;rw [List.length_map,List.take_length] at su;rw [List.length_map] at qi;have fl:qs.length=fs.length:=Paired.length hf;obtain ⟨mb1,mb2⟩:=vF (n:=40) (fs:=fs) (tb:=(0,1)) (b:=1) fb (by decide) (by decide);have mp:=uG (fs:=fs) (tb:=(0,1)) (fun f h=>(fb f h).1) (by decide);have mr:=u9 (fs:=fs) (tb:=(0,1)) (fun f h=>Int.ne_of_gt (fb f h).1) (by decide);refine ⟨pc,true,qs,fs,40,rfl,e3,FrsAt.k hf,fb,by omega,by decide,by omega,fun x y r1 H4 fr nr s4 er=>?_⟩;obtain ⟨l1,l2⟩:=lw fr (Int.ne_of_gt mp);have rr:=lX fr (Int.ne_of_gt mp);have bx:x.natAbs<2^335:=Nat.lt_of_le_of_lt l1 (Nat.lt_of_lt_of_le mb1 (Nat.pow_le_pow_right (by decide) (by omega)));have by':y.natAbs<2^335:=Nat.lt_of_le_of_lt l2 (Nat.lt_of_lt_of_le mb2 (Nat.pow_le_pow_right (by decide) (by omega)))
     have yp:=fr.pos;have one:(1:Int).natAbs<2^335:=Nat.one_lt_two_pow (by decide);refine ⟨T.ONE,r1,(1,1),(x,y),335,rfl,T.Ik.sq,SqT.of er,⟨by decide,one,one⟩,⟨yp,bx,by'⟩,by decide,fun x2 y2 r2 H5 fr2 nr2 s5 er2=>k (x2,y2) r2 H5 ?_ fr2.one ?_ (s1.free (s3.free (s4.free nr2))) (s1.trans (s3.trans (s4.trans s5))) er2⟩
     . obtain ⟨a1,a2⟩:=lw fr2 (show (1:Int)*y≠0 by omega);have b1:(1*y - x*1:Int).natAbs<2^336:=by
         have:=lx (a:=y) (b:=-x) (n:=335) by' (by rw [Int.natAbs_neg];exact bx)
         rwa [show 1*y - x*1=y + -x by omega]
       refine ⟨fr2.pos,Nat.lt_of_le_of_lt a1 (bc b1 (by decide)),Nat.lt_of_le_of_lt a2 (bc (m:=335) (by rw [Int.one_mul];exact by') (by decide))⟩
     . rw [lX fr2 (show (1:Int)*y≠0 by omega)];unfold shr;rw [<- su];have e0:(((0:Int):Rat) / ((1:Int):Rat))=0:=(by rw [show ((0:Int):Rat)=0 from rfl,Rat.div_def,Rat.zero_mul]);have n1:=eY (Int.ne_of_gt yp);show ((1*y - x*1:Int):Rat) / ((1*y:Int):Rat)=_;rw [Int.one_mul,Int.mul_one,Rat.intCast_sub]
       grind
def wX (T:Txt K mg):Sp:=fun vs H Q _=>∃ (p t:Addr) (m:Int) (ps:List Addr) (rs:List Road),vs=[.ref p]/\WebAt T.Web H p m t ps rs/\m<=8 /\
 ∀ (l:Addr) (qs:List Addr) (fs:List (Int × Int)) (H':Hp),H l=none->Same H H'->H' l=some (.lst (qs.map V.ref))->FrsAt H' qs fs->(fs.length:Int)=m->(∀ f∈fs,FrB 340 f/\f.1.gcd f.2=1)->(∀ (i:Nat) f,fs[i]?=some f->(f.1:Rat) / f.2=shr m rs (evp rs) i)->Q (.ref l) H'
abbrev da:Stmt:=top 39
theorem Fo:FnScope ["web"] ["web"] (aa da):=FnScope.of (by kernel_rfl)
theorem A8:NmC (aa da) "web":=.of (by kernel_rfl)
theorem yA:NmG (aa da) "range":=.of (by kernel_rfl)
theorem FU (T:Txt K mg) (hq:aP (CXe P w)) {f:Addr} {fd:FuncData} (D:Df K mg "even_shares" da ["web"] f fd) {iG:Addr} {zB:FuncData} (j1:Df K mg "even_share" bH ["web","place"] iG zB) (G_even_share:FnOk P w K mg base (CXe P w) 6 iG zB ["web","place"] (zq T)):FnOk P w K mg base (CXe P w) 7 f fd ["web"] (wX T):=by
 refine D.F.okC Fo (fun vs H Q E h=>?_) (fun cdv A outer s H vs Q E hr h=>?_)
 . obtain ⟨p,t,m,ps,rs,rfl,_⟩:=h
   rfl
 . obtain ⟨p,t,m,ps,rs,rfl,W,m8,k⟩:=h;have g:=W.go;have m24:=g.m24;have m1:=g.m1;refine ⟨_,(aq (aF (fM rfl (gI (Nc:=["place","web"]) 1 [0] (by decide +kernel) rfl (by decide +kernel) rfl (by show ∀ (y:Str × NameKind),y∈_->y.2=NameKind.free->(aa da).names.lookup y.1=some NameKind.cell;decide +kernel) rfl (fun _ h=>dL h) (fun i hi=>match i,hi with|0,_=>⟨"web",0,rfl,rfl,rfl,by decide +kernel⟩|i+1,hi=>absurd hi (by show ¬ i+1<1;omega))) (ij yA.g T.range (ag (ki  (pvc 0 A8) rfl) aj)) (fun _ _ _ _=>(aB (i:=0) (show (["place","web"]:List Str).Nodup from by decide +kernel) rfl (Or.inl rfl))) (fun _ _ _ _=>fK) (fun _ _ _ _=>(ar G_even_share (hr.mono (by decide)) (by rfl) j1.m j1.F.kp j1.b .nil (ax hq) (ag (pv 1) (ag (pv 0) aj))))))),?_⟩;rw [show L2.start ["web"] [V.ref p]=[some (V.ref p)] from rfl];obtain ⟨dx,ob⟩:=W.ob;walk_at "rd";refine ⟨T.Web,dx,_,ob,T.ja,T.n_many,_,hW m t,m,rfl,by omega,by omega,fun pc nc=>?_⟩;refine mj (fun i zs σ H3=>Same H H3/\H3 pc=some (.lst zs)/\∃ (qs:List Addr) (fs:List (Int × Int)) (v:Option V),zs=qs.map V.ref/\qs.length=i/\FrsAt H3 qs fs/\(∀ f∈fs,FrB 340 f/\f.1.gcd f.2=1)/\(∀ (i:Nat) f,fs[i]?=some f->(f.1:Rat) / f.2=shr m rs (evp rs) i)/\σ=[v,some (V.ref p)]) ⟨Same.new _ nc,ah,[],[],_,rfl,rfl,.nil,(fun f hf=>nomatch hf),(fun i f h=>by simp at h),rfl⟩ ?_ ?_
   . rintro i zs σ H3 N hN hi ⟨s3,e3,qs,fs,v,rfl,qi,hf,fb,fv,rfl⟩;rw [Int.zero_add];have i0:(0:Int)<=(i:Int):=(by omega);have i1:(i:Int)<m:=(by omega);have fl:qs.length=fs.length:=Paired.length hf;walk_at "rd";refine ⟨p,t,m,ps,rs,(i:Int),rfl,W.same s3,i0,i1,m8,fun f r H4 fB fg fr nr s4 er=>?_⟩;have npr:r≠pc:=fun z=>by rw [z,e3] at nr;cases nr
     refine ⟨s4 _ _ e3,cj (by rw [List.length_map];omega),hN _ _ _ ⟨(s3.trans s4).put nc _,ah,qs++[r],fs++[f],_,by rw [List.map_append];rfl,by rw [List.length_append,qi];rfl,?_,fun f' hf'=>?_,fun j f' hj=>?_,rfl⟩⟩
     . refine tI (by rw [ao npr];exact er) (Paired.imp' (fun q f h=>?_) hf);rw [ao (gv (s4 _ _ h) (s4 _ _ e3) (by intro z;cases z))];exact s4 _ _ h
     . rcases List.mem_append.mp hf' with h|h
       . exact fb f' h
       . rw [List.mem_singleton.mp h];exact ⟨fB,fg⟩
     . by_cases c:j<fs.length
       . rw [List.getElem?_append_left c] at hj;exact fv j f' hj
       . have jl:=(List.getElem?_eq_some_iff.mp hj).1;rw [List.length_append,List.length_singleton] at jl;have:j=i:=(by omega);subst this;rw [List.getElem?_append_right (by omega),show j - fs.length=0 by omega] at hj;cases hj;exact fr
   . rintro zs σ H3 ⟨s3,e3,qs,fs,v,rfl,qi,hf,fb,fv,rfl⟩;have fl:qs.length=fs.length:=Paired.length hf;exact k pc qs fs H3 nc s3 e3 hf (by omega) fb fv
def vC (T:Txt K mg):Sp:=fun vs H Q _=>∃ (p t:Addr) (m:Int) (ps:List Addr) (rs:List Road) (u:Int),vs=[.ref p,.int u]/\WebAt T.Web H p m t ps rs/\0<=u/\u<m/\m<=8 /\
 ∀ (f:Int × Int) (r:Addr) (H':Hp),FrB 340 f->f.1.gcd f.2=1->(f.1:Rat) / f.2=shr m rs (sep rs) u->H r=none->Same H H'->H' r=some (.tup [.int f.1,.int f.2])->Q (.ref r) H'
abbrev bi:Stmt:=top 42
theorem vD:FnScope ["web","place","near"] ["web","place"] (aa bi):=FnScope.of (by kernel_rfl)
theorem z9:NmC (aa bi) "web":=.of (by kernel_rfl)
theorem xP:NmC (aa bi) "place":=.of (by kernel_rfl)
theorem pi:NmL (aa bi) "near":=.of (by kernel_rfl)
theorem km:NmG (aa bi) "neighbours":=.of (by kernel_rfl)
theorem nZ:NmG (aa bi) "minus":=.of (by kernel_rfl)
theorem pX:NmG (aa bi) "ONE":=.of (by kernel_rfl)
theorem mI:NmG (aa bi) "sum_up":=.of (by kernel_rfl)
theorem DQ (T:Txt K mg) (hq:aP (CXe P w)) {f:Addr} {fd:FuncData} (D:Df K mg "second_share" bi ["web","place"] f fd) {kD:Addr} {uX:FuncData} (jR:Df K mg "minus" iZ ["one","two"] kD uX) (G_minus:FnOk P w K mg base (CXe P w) 5 kD uX ["one","two"] (CW T)) {cG:Addr} {fj:FuncData} (bG:Df K mg "neighbours" bU ["web","a"] cG fj) (G_neighbours:FnOk P w K mg base (CXe P w) 3 cG fj ["web","a"] (mU T)) {eD:Addr} {lu:FuncData} (dW:Df K mg "road_part" dE ["one","other"] eD lu) (G_road_part:FnOk P w K mg base (CXe P w) 3 eD lu ["one","other"] (uU T)) {cW:Addr} {dM:FuncData} (be:Df K mg "sum_up" cY ["some"] cW dM) (G_sum_up:FnOk P w K mg base (CXe P w) 3 cW dM ["some"] (nW T)) {gS:Addr} {jT:FuncData} (cK:Df K mg "toll" eh ["web","a","b"] gS jT) (G_toll:FnOk P w K mg base (CXe P w) 3 gS jT ["web","a","b"] (xL T)):FnOk P w K mg base (CXe P w) 6 f fd ["web","place"] (vC T):=by
 refine D.F.okC vD (fun vs H Q E h=>?_) (fun cdv A outer s H vs Q E hr h=>?_)
 . obtain ⟨p,t,m,ps,rs,u,rfl,_⟩:=h
   rfl
 . obtain ⟨p,t,m,ps,rs,u,rfl,W,u0,u1,m8,k⟩:=h;have g:=W.go;have m24:=g.m24;refine ⟨_,(ak (aw (i:=2) vD.nd rfl (Or.inl pi.l) (ar G_neighbours (hr.mono (by decide)) km.g bG.m bG.F.kp bG.b .nil (ax hq) (ag (pvc 0 z9) (ag (pvc 1 xP) aj)) (hdb:=km.d))) (aq (aF (ar G_minus (hr.mono (by decide)) nZ.g jR.m jR.F.kp jR.b .nil (ax hq) (ag (tG (v:=.ref T.ONE) pX.g T.Ia rfl (hd:=pX.d)) (ag (ar G_sum_up (hr.mono (by decide)) mI.g be.m be.F.kp be.b .nil (ax hq) (ag (fM rfl (gI (Nc:=["other","web","place"]) 1 [0,1] (by decide +kernel) rfl (by decide +kernel) rfl (by show ∀ (y:Str × NameKind),y∈_->y.2=NameKind.free->(aa bi).names.lookup y.1=some NameKind.cell;decide +kernel) rfl (fun _ h=>dL h) (fun i hi=>match i,hi with|0,_=>⟨"web",0,rfl,rfl,rfl,by decide +kernel⟩|1,_=>⟨"place",1,rfl,rfl,rfl,by decide +kernel⟩|i+2,hi=>absurd hi (by show ¬ i+2<2;omega))) (xU true (pvl 2 pi)) (fun _ _ _ _=>(aB (i:=0) (show (["other","web","place"]:List Str).Nodup from by decide +kernel) rfl (Or.inl rfl))) (fun _ _ _ _=>fK) (fun _ _ _ _=>(ar G_road_part (hr.mono (by decide)) (by rfl) dW.m dW.F.kp dW.b .nil (ax hq) (ag (ar G_toll (hr.mono (by decide)) (by rfl) cK.m cK.F.kp cK.b .nil (ax hq) (ag (pv 1) (ag (pv 0) (ag (pv 2) aj)))) (ag (ar G_toll (hr.mono (by decide)) (by rfl) cK.m cK.F.kp cK.b .nil (ax hq) (ag (pv 1) (ag (pv 2) (ag (pv 0) aj)))) aj))))) aj) (hdb:=mI.d)) aj)) (hdb:=nZ.d))))),?_⟩;rw [show L2.start ["web","place","near"] [V.ref p,V.int u]=[some (V.ref p),some (V.int u),none] from rfl];refine aW fun N1 h1=>?_;walk_at "rd";refine ⟨p,t,m,ps,rs,u,rfl,W,fun l H1 _ _ nl s1 el=>h1 _ _ ?_,fun z=>absurd ⟨u0,u1⟩ z⟩;have W1:=W.same s1;have nbl:(cN m rs u).length<=8:=by
     have:=List.length_filter_le (fun q=>decide (q∈cF rs u)) (below m.toNat);rw [bo] at this;have e:(cN m rs u).length=((below m.toNat).filter fun q=>decide (q∈cF rs u)).length:=rfl;omega
   walk_at "rd";refine ⟨⟨_,SqL.of el⟩,fun pc npc=>?_⟩;refine iA (K:=K) (c:=true) (xs:=(cN m rs u).map V.int) (fun i ys σ H3=>Same H1 H3/\H3 pc=some (.lst ys)/\∃ (qs:List Addr) (fs:List (Int × Int)) (v:Option V),ys=qs.map V.ref/\qs.length=i/\FrsAt H3 qs fs/\(∀ f∈fs,FrB 40 f)/\eB fs (fun f=>(f.1:Rat) / f.2)=eB ((cN m rs u).take i) (sep rs u)/\σ=[v,some (V.ref p),some (V.int u)]) ⟨Same.new _ npc,ah,[],[],_,rfl,rfl,.nil,(fun f hf=>nomatch hf),rfl,rfl⟩ (fun i ys σ H3 _ z=>SqL.of (z.1 _ _ el)) ?_ ?_
   . rintro i x ys σ H3 N hN hx ⟨s3,e3,qs,fs,v,rfl,qi,hf,fb,su,rfl⟩;rw [List.getElem?_map] at hx;obtain ⟨o,go,rfl⟩:=Option.map_eq_some_iff.mp hx;have ad:=(yF g).mp (List.mem_of_getElem? go);obtain ⟨_,or,_⟩:=g.adj ad;obtain ⟨b,eb,b2,b6⟩:=kb g ad.symm;obtain ⟨a,ea,a2,a6⟩:=kb g ad;have il:=(List.getElem?_eq_some_iff.mp go).1;have W3:=W1.same s3;walk_at "rd";refine ⟨p,t,m,ps,rs,o,u,rfl,W3,fun b' _ _ _ _ e=>?_,(fun z=>absurd ⟨or,⟨u0,u1⟩⟩ z),(fun _ _ _ _ z=>by rw [eb] at z;cases z)⟩;rw [eb] at e;cases e;refine ⟨p,t,m,ps,rs,u,o,rfl,W3,fun a' _ _ _ _ e=>?_,(fun z=>absurd ⟨⟨u0,u1⟩,or⟩ z),(fun _ _ _ _ z=>by rw [ea] at z;cases z)⟩;rw [ea] at e;cases e;refine ⟨b,a,rfl,⟨b2,b6⟩,⟨a2,a6⟩,fun x y rr fr nr=>?_⟩;have s4:=Same.new (.tup [V.int x,V.int y]) nr;have ba4:4<=b*a:=(by have:=Int.mul_le_mul b2 a2 (by decide) (by omega);omega);have bab:(b*a).natAbs<2^40:=bR (m:=20) (n:=20) (by omega) (by omega);obtain ⟨l1,l2⟩:=lw fr (by omega);have npr:pc≠rr:=fun z=>by rw [z] at e3;rw [e3] at nr;cases nr
     refine ⟨s4 _ _ e3,cj (by rw [List.length_map];omega),hN _ _ _ ⟨(s3.trans s4).put npc _,ah,qs++[rr],fs++[(x,y)],_,by rw [List.map_append];rfl,by rw [List.length_append,qi];rfl,?_,fun f hf=>?_,?_,rfl⟩⟩
     . refine tI (by rw [ao npr.symm];exact ah) (Paired.imp' (fun q f h=>?_) hf);rw [ao (gv (s4 _ _ h) (s4 _ _ e3) (by intro z;cases z))];exact s4 _ _ h
     . rcases List.mem_append.mp hf with h|h
       . exact fb f h
       . rw [List.mem_singleton.mp h];exact ⟨fr.pos,by show x.natAbs<2^40;omega,by show y.natAbs<2^40;omega⟩
     . rw [List.take_succ,go,Option.toList_some,lL,lL,su,lX fr (by omega)]
       congr 1
       unfold sep jc;rw [eb,ea];show ((b - 1:Int):Rat) / ((b*a - 1:Int):Rat)=_;rw [Rat.intCast_sub,Rat.intCast_sub,Rat.intCast_mul]
       rfl
   . rintro ys σ H3 ⟨s3,e3,qs,fs,v,rfl,qi,hf,fb,su,rfl⟩;rw [List.length_map,List.take_length] at su;rw [List.length_map] at qi;have fl:qs.length=fs.length:=Paired.length hf;obtain ⟨mb1,mb2⟩:=vF (n:=40) (fs:=fs) (tb:=(0,1)) (b:=1) fb (by decide) (by decide);have mp:=uG (fs:=fs) (tb:=(0,1)) (fun f h=>(fb f h).1) (by decide);have mr:=u9 (fs:=fs) (tb:=(0,1)) (fun f h=>Int.ne_of_gt (fb f h).1) (by decide);refine ⟨pc,true,qs,fs,40,rfl,e3,FrsAt.k hf,fb,by omega,by decide,by omega,fun x y r1 H4 fr nr s4 er=>?_⟩;obtain ⟨l1,l2⟩:=lw fr (Int.ne_of_gt mp);have rr:=lX fr (Int.ne_of_gt mp);have bx:x.natAbs<2^335:=Nat.lt_of_le_of_lt l1 (Nat.lt_of_lt_of_le mb1 (Nat.pow_le_pow_right (by decide) (by omega)));have by':y.natAbs<2^335:=Nat.lt_of_le_of_lt l2 (Nat.lt_of_lt_of_le mb2 (Nat.pow_le_pow_right (by decide) (by omega)))
     have yp:=fr.pos;have one:(1:Int).natAbs<2^335:=Nat.one_lt_two_pow (by decide);refine ⟨T.ONE,r1,(1,1),(x,y),335,rfl,T.Ik.sq,SqT.of er,⟨by decide,one,one⟩,⟨yp,bx,by'⟩,by decide,fun x2 y2 r2 H5 fr2 nr2 s5 er2=>k (x2,y2) r2 H5 ?_ fr2.one ?_ (s1.free (s3.free (s4.free nr2))) (s1.trans (s3.trans (s4.trans s5))) er2⟩
     . obtain ⟨a1,a2⟩:=lw fr2 (show (1:Int)*y≠0 by omega);have b1:(1*y - x*1:Int).natAbs<2^336:=by
         have:=lx (a:=y) (b:=-x) (n:=335) by' (by rw [Int.natAbs_neg];exact bx)
         rwa [show 1*y - x*1=y + -x by omega]
       refine ⟨fr2.pos,Nat.lt_of_le_of_lt a1 (bc b1 (by decide)),Nat.lt_of_le_of_lt a2 (bc (m:=335) (by rw [Int.one_mul];exact by') (by decide))⟩
     . rw [lX fr2 (show (1:Int)*y≠0 by omega)];unfold shr;rw [<- su];have e0:(((0:Int):Rat) / ((1:Int):Rat))=0:=(by rw [show ((0:Int):Rat)=0 from rfl,Rat.div_def,Rat.zero_mul]);have n1:=eY (Int.ne_of_gt yp);show ((1*y - x*1:Int):Rat) / ((1*y:Int):Rat)=_;rw [Int.one_mul,Int.mul_one,Rat.intCast_sub]
       grind
def uu (T:Txt K mg):Sp:=fun vs H Q _=>∃ (p t:Addr) (m:Int) (ps:List Addr) (rs:List Road),vs=[.ref p]/\WebAt T.Web H p m t ps rs/\m<=8 /\
 ∀ (l:Addr) (qs:List Addr) (fs:List (Int × Int)) (H':Hp),H l=none->Same H H'->H' l=some (.lst (qs.map V.ref))->FrsAt H' qs fs->(fs.length:Int)=m->(∀ f∈fs,FrB 340 f/\f.1.gcd f.2=1)->(∀ (i:Nat) f,fs[i]?=some f->(f.1:Rat) / f.2=shr m rs (sep rs) i)->Q (.ref l) H'
abbrev cq:Stmt:=top 41
theorem CI:FnScope ["web"] ["web"] (aa cq):=FnScope.of (by kernel_rfl)
theorem zc:NmC (aa cq) "web":=.of (by kernel_rfl)
theorem wc:NmG (aa cq) "range":=.of (by kernel_rfl)
theorem Dc (T:Txt K mg) (hq:aP (CXe P w)) {f:Addr} {fd:FuncData} (D:Df K mg "second_shares" cq ["web"] f fd) {fH:Addr} {vQ:FuncData} (ip:Df K mg "second_share" bi ["web","place"] fH vQ) (G_second_share:FnOk P w K mg base (CXe P w) 6 fH vQ ["web","place"] (vC T)):FnOk P w K mg base (CXe P w) 7 f fd ["web"] (uu T):=by
 refine D.F.okC CI (fun vs H Q E h=>?_) (fun cdv A outer s H vs Q E hr h=>?_)
 . obtain ⟨p,t,m,ps,rs,rfl,_⟩:=h
   rfl
 . obtain ⟨p,t,m,ps,rs,rfl,W,m8,k⟩:=h;have g:=W.go;have m24:=g.m24;have m1:=g.m1;refine ⟨_,(aq (aF (fM rfl (gI (Nc:=["place","web"]) 1 [0] (by decide +kernel) rfl (by decide +kernel) rfl (by show ∀ (y:Str × NameKind),y∈_->y.2=NameKind.free->(aa cq).names.lookup y.1=some NameKind.cell;decide +kernel) rfl (fun _ h=>dL h) (fun i hi=>match i,hi with|0,_=>⟨"web",0,rfl,rfl,rfl,by decide +kernel⟩|i+1,hi=>absurd hi (by show ¬ i+1<1;omega))) (ij wc.g T.range (ag (ki  (pvc 0 zc) rfl) aj)) (fun _ _ _ _=>(aB (i:=0) (show (["place","web"]:List Str).Nodup from by decide +kernel) rfl (Or.inl rfl))) (fun _ _ _ _=>fK) (fun _ _ _ _=>(ar G_second_share (hr.mono (by decide)) (by rfl) ip.m ip.F.kp ip.b .nil (ax hq) (ag (pv 1) (ag (pv 0) aj))))))),?_⟩;rw [show L2.start ["web"] [V.ref p]=[some (V.ref p)] from rfl];obtain ⟨dx,ob⟩:=W.ob;walk_at "rd";refine ⟨T.Web,dx,_,ob,T.ja,T.n_many,_,hW m t,m,rfl,by omega,by omega,fun pc nc=>?_⟩;refine mj (fun i zs σ H3=>Same H H3/\H3 pc=some (.lst zs)/\∃ (qs:List Addr) (fs:List (Int × Int)) (v:Option V),zs=qs.map V.ref/\qs.length=i/\FrsAt H3 qs fs/\(∀ f∈fs,FrB 340 f/\f.1.gcd f.2=1)/\(∀ (i:Nat) f,fs[i]?=some f->(f.1:Rat) / f.2=shr m rs (sep rs) i)/\σ=[v,some (V.ref p)]) ⟨Same.new _ nc,ah,[],[],_,rfl,rfl,.nil,(fun f hf=>nomatch hf),(fun i f h=>by simp at h),rfl⟩ ?_ ?_
   . rintro i zs σ H3 N hN hi ⟨s3,e3,qs,fs,v,rfl,qi,hf,fb,fv,rfl⟩;rw [Int.zero_add];have i0:(0:Int)<=(i:Int):=(by omega);have i1:(i:Int)<m:=(by omega);have fl:qs.length=fs.length:=Paired.length hf;walk_at "rd";refine ⟨p,t,m,ps,rs,(i:Int),rfl,W.same s3,i0,i1,m8,fun f r H4 fB fg fr nr s4 er=>?_⟩;have npr:r≠pc:=fun z=>by rw [z,e3] at nr;cases nr
     refine ⟨s4 _ _ e3,cj (by rw [List.length_map];omega),hN _ _ _ ⟨(s3.trans s4).put nc _,ah,qs++[r],fs++[f],_,by rw [List.map_append];rfl,by rw [List.length_append,qi];rfl,?_,fun f' hf'=>?_,fun j f' hj=>?_,rfl⟩⟩
     . refine tI (by rw [ao npr];exact er) (Paired.imp' (fun q f h=>?_) hf);rw [ao (gv (s4 _ _ h) (s4 _ _ e3) (by intro z;cases z))];exact s4 _ _ h
     . rcases List.mem_append.mp hf' with h|h
       . exact fb f' h
       . rw [List.mem_singleton.mp h];exact ⟨fB,fg⟩
     . by_cases c:j<fs.length
       . rw [List.getElem?_append_left c] at hj;exact fv j f' hj
       . have jl:=(List.getElem?_eq_some_iff.mp hj).1;rw [List.length_append,List.length_singleton] at jl;have:j=i:=(by omega);subst this;rw [List.getElem?_append_right (by omega),show j - fs.length=0 by omega] at hj;cases hj;exact fr
   . rintro zs σ H3 ⟨s3,e3,qs,fs,v,rfl,qi,hf,fb,fv,rfl⟩;have fl:qs.length=fs.length:=Paired.length hf;exact k pc qs fs H3 nc s3 e3 hf (by omega) fb fv
/-- the roads of a star -/
def BK (mid:Int) (n:Nat):List Road:=((List.range n).filter fun (p:Nat)=>decide (¬ (p:Int)=mid)).map fun (p:Nat)=>⟨mid,(p:Int),2,2⟩
theorem Pw {mid:Int} (m0:0<=mid) (m4:mid<4):Good 4 (BK mid 4):=by
 have mem:∀ {p:Nat},p<4->(p:Int)≠mid->(⟨mid,(p:Int),2,2⟩:Road)∈BK mid 4:=fun {p} h n=>List.mem_map.mpr ⟨p,List.mem_filter.mpr ⟨List.mem_range.mpr h,decide_eq_true n⟩,rfl⟩;refine ⟨by decide,by decide,?_,fun r hr=>?_,fun S s0 hS v v0 v1=>?_⟩
 . rcases (show mid=0\/mid=1\/mid=2\/mid=3 by omega) with rfl|rfl|rfl|rfl <;> decide
 . obtain ⟨p,hp,rfl⟩:=List.mem_map.mp hr;obtain ⟨h1,h2⟩:=List.mem_filter.mp hp;have:=List.mem_range.mp h1;have:=of_decide_eq_true h2;refine ⟨?_,?_,?_,?_,?_,?_,?_,?_,?_⟩ <;> simp only <;> omega
 . have sm:S mid:=by
     by_cases c:mid=0
     . rw [c];exact s0
     . exact (hS _ (mem (p:=0) (by decide) (fun z=>c z.symm))).mpr s0
   by_cases c:v=mid
   . rw [c];exact sm
   . have e:((v.toNat:Nat):Int)=v:=Int.toNat_of_nonneg v0;have:=(hS _ (mem (p:=v.toNat) (by omega) (by omega))).mp sm;rw [<- e];exact this
def Ij (K:PySem.W.Frag):Sp:=fun vs H Q _=>∃ (a:Addr) (ns:List Int),vs=[.ref a]/\SqL K H a (ns.map V.int)/\ns.length<=63/\∀ H',Q (.bl true) H'
def WE (T:Txt K mg):Sp:=Ij K
abbrev bQ:Stmt:=top 71
theorem hG:FnScope ["script","many","roads","arms","middle","web","tolls","first","other","k","cell","pot","shares","second"] ["script"] (aa bQ):=FnScope.of (by kernel_rfl)
theorem sH:NmL (aa bQ) "script":=.of (by kernel_rfl)
theorem wd:NmL (aa bQ) "many":=.of (by kernel_rfl)
theorem pQ:NmL (aa bQ) "roads":=.of (by kernel_rfl)
theorem kH:NmL (aa bQ) "arms":=.of (by kernel_rfl)
theorem zA:NmC (aa bQ) "middle":=.of (by kernel_rfl)
theorem oS:NmL (aa bQ) "web":=.of (by kernel_rfl)
theorem uH:NmL (aa bQ) "tolls":=.of (by kernel_rfl)
theorem lV:NmL (aa bQ) "first":=.of (by kernel_rfl)
theorem Af:NmL (aa bQ) "other":=.of (by kernel_rfl)
theorem yV:NmL (aa bQ) "k":=.of (by kernel_rfl)
theorem wN:NmL (aa bQ) "cell":=.of (by kernel_rfl)
theorem EF:NmL (aa bQ) "pot":=.of (by kernel_rfl)
theorem zV:NmL (aa bQ) "shares":=.of (by kernel_rfl)
theorem zF:NmL (aa bQ) "second":=.of (by kernel_rfl)
theorem xp:NmG (aa bQ) "_law_web":=.of (by kernel_rfl)
theorem kT:NmG (aa bQ) "_law_stir":=.of (by kernel_rfl)
theorem vG:NmG (aa bQ) "_law_cell":=.of (by kernel_rfl)
theorem IU:NmG (aa bQ) "range":=.of (by kernel_rfl)
theorem EB:NmG (aa bQ) "Web":=.of (by kernel_rfl)
theorem fV:NmG (aa bQ) "list":=.of (by kernel_rfl)
theorem uj:NmG (aa bQ) "_law_tolls":=.of (by kernel_rfl)
theorem rJ:NmG (aa bQ) "even_shares":=.of (by kernel_rfl)
theorem oM:NmG (aa bQ) "second_shares":=.of (by kernel_rfl)
theorem xT:NmG (aa bQ) "_law_led":=.of (by kernel_rfl)
theorem gj:NmG (aa bQ) "_law_asked_good":=.of (by kernel_rfl)
theorem DE:NmG (aa bQ) "enumerate":=.of (by kernel_rfl)
theorem pf:NmG (aa bQ) "_law_otherwise":=.of (by kernel_rfl)
theorem Wl (T:Txt K mg) (hq:aP (CXe P w)) {f:Addr} {fd:FuncData} (D:Df K mg "law" bQ ["script"] f fd) {f_Web___init__:Addr} {oW:FuncData} (F_Web___init__:Fun K "__init__" "Web.__init__" aZ f_Web___init__ oW) (b_Web:Binds K oW ["self","many","roads"] []) (O2:Mk K T.Web f_Web___init__) (G_Web_init:FnOk P w K mg base (CXe P w) 3 f_Web___init__ oW ["self","many","roads"] (pp T)) {d7:Addr} {sX:FuncData} (cX:Df K mg "_law_asked_good" aH ["web","tolls","shares","second","turn"] d7 sX) (G_law_asked_good:FnOk P w K mg base (CXe P w) 11 d7 sX ["web","tolls","shares","second","turn"] (sY T)) {fT:Addr} {mR:FuncData} (eR:Df K mg "_law_cell" d5 ["script","k"] fT mR) (G_law_cell:FnOk P w K mg base (CXe P w) 1 fT mR ["script","k"] (wT T)) {lK:Addr} {DY:FuncData} (oh:Df K mg "_law_led" dQ ["shares","middle","part"] lK DY) (G_law_led:FnOk P w K mg base (CXe P w) 4 lK DY ["shares","middle","part"] (DL T)) {eV:Addr} {vg:FuncData} (gC:Df K mg "_law_otherwise" aX ["shares","second","pot"] eV vg) (G_law_otherwise:FnOk P w K mg base (CXe P w) 5 eV vg ["shares","second","pot"] (uK T)) {fW:Addr} {mN:FuncData} (di:Df K mg "_law_stir" d3 ["cell","k"] fW mN) (G_law_stir:FnOk P w K mg base (CXe P w) 1 fW mN ["cell","k"] (wt T)) {jD:Addr} {AK:FuncData} (kF:Df K mg "_law_tolls" cM ["roads"] jD AK) (G_law_tolls:FnOk P w K mg base (CXe P w) 1 jD AK ["roads"] (Ao T)) {lA:Addr} {Eg:FuncData} (ou:Df K mg "_law_web" dg ["script","sizes"] lA Eg) (G_law_web:FnOk P w K mg base (CXe P w) 4 lA Eg ["script","sizes"] (EX T)) {gQ:Addr} {xw:FuncData} (iX:Df K mg "even_shares" da ["web"] gQ xw) (G_even_shares:FnOk P w K mg base (CXe P w) 7 gQ xw ["web"] (wX T)) {eT:Addr} {ug:FuncData} (gF:Df K mg "second_shares" cq ["web"] eT ug) (G_second_shares:FnOk P w K mg base (CXe P w) 7 eT ug ["web"] (uu T)):FnOk P w K mg base (CXe P w) 12 f fd ["script"] (WE T):=by
 refine D.F.okC hG (fun vs H Q E h=>?_) (fun cdv A outer s H vs Q E hr h=>?_)
 . obtain ⟨a,ns,rfl,_⟩:=h
   rfl
 . obtain ⟨a,ns,rfl,ha,hn,k⟩:=h;have hv:=hr.units;refine ⟨_,(ak (gZ (ar G_law_web (hr.mono (by decide)) xp.g ou.m ou.F.kp ou.b .nil (ax hq) (ag (pvl 0 sH) (ag (bj (ag am (ag am (ag am (ag am (ag am (ag am aj))))))) aj)) (hdb:=xp.d)) (kr (n:=2) rfl (aU (aB (i:=1) hG.nd rfl (Or.inl wd.l)) (aU (aB (i:=2) hG.nd rfl (Or.inl pQ.l)) iT)))) (ak (aw (i:=3) hG.nd rfl (Or.inl kH.l) (ar G_law_stir (hr.mono (by decide)) kT.g di.m di.F.kp di.b .nil (ax hq) (ag (ar G_law_cell (hr.mono (by decide)) vG.g eR.m eR.F.kp eR.b .nil (ax hq) (ag (pvl 0 sH) (ag am aj)) (hdb:=vG.d)) (ag am aj)) (hdb:=kT.d))) (ak (aw (i:=4) hG.nd rfl (Or.inr zA.l) (av d9 (av tL (pvl 3 kH) am) am)) (ak (bA (aM dv (av d9 (pvl 3 kH) am) am (aL _)) (ak (aw (i:=1) hG.nd rfl (Or.inl wd.l) am) (aq (tz (i:=2) hG.nd rfl pQ.l rfl (gI (Nc:=["place","middle"]) 1 [4] (by decide +kernel) rfl (by decide +kernel) rfl (by show ∀ (y:Str × NameKind),y∈_->y.2=NameKind.free->(aa bQ).names.lookup y.1=some NameKind.cell;decide +kernel) rfl (fun _ h=>dL h) (fun i hi=>match i,hi with|0,_=>⟨"middle",4,rfl,rfl,rfl,by decide +kernel⟩|i+1,hi=>absurd hi (by show ¬ i+1<1;omega))) (ij IU.g T.range (ag am aj)) (fun _ _ _ _=>(aB (i:=0) (show (["place","middle"]:List Str).Nodup from by decide +kernel) rfl (Or.inl rfl))) (fun _ _ _ _=>(BE (aM pA (pv 0) (pv 1) (aL _)))) (fun _ _ _ _=>(bW (ag (pv 1) (ag (pv 0) (ag am (ag am aj))))))))) aO) (ak (aw (i:=5) hG.nd rfl (Or.inl oS.l) (UB O2 G_Web_init (hr.mono (by decide)) EB.g T.WW b_Web .nil (ax hq) (ag (pvl 1 wd) (ag (fi jU fV.g T.list tJ (ag (pvl 2 pQ) aj) (hn:=fV.n) (hdb:=fV.d)) aj)) (hdb:=EB.d))) (ak (aw (i:=6) hG.nd rfl (Or.inl uH.l) (ar G_law_tolls (hr.mono (by decide)) uj.g kF.m kF.F.kp kF.b .nil (ax hq) (ag (pvl 2 pQ) aj) (hdb:=uj.d))) (ak (aw (i:=7) hG.nd rfl (Or.inl lV.l) (bj (ag (ar G_even_shares (hr.mono (by decide)) rJ.g iX.m iX.F.kp iX.b .nil (ax hq) (ag (pvl 5 oS) aj) (hdb:=rJ.d)) (ag (ar G_second_shares (hr.mono (by decide)) oM.g gF.m gF.F.kp gF.b .nil (ax hq) (ag (pvl 5 oS) aj) (hdb:=oM.d)) aj)))) (ak (bA (aM dv (av d9 (pvl 3 kH) am) am (aL _)) (ak (aw (i:=8) hG.nd rfl (Or.inl Af.l) (ar G_law_led (hr.mono (by decide)) xT.g oh.m oh.F.kp oh.b .nil (ax hq) (ag (az aI (pvl 7 lV) am (fun _ _=>rfl)) (ag (pvc 4 zA) (ag (av gY am (av d9 (av tL (pvl 3 kH) am) am)) aj))) (hdb:=xT.d))) (aq (bA (jQ (mH (ar G_law_asked_good (hr.mono (by decide)) gj.g cX.m cX.F.kp cX.b .nil (ax hq) (ag (pvl 5 oS) (ag (pvl 6 uH) (ag (pvl 8 Af) (ag (az aI (pvl 7 lV) am (fun _ _=>rfl)) (ag (pvl 3 kH) aj))))) (hdb:=gj.d)))) (aq (aF jH)) aO))) aO) (ak (eS PassesOwn.never rfl (Ur true DE.g T.enumerate (av xc (bj (ag am aj)) (qF tN (pvl 0 sH) tF (tH am)))) (kr (n:=2) rfl (aU (aB (i:=9) hG.nd rfl (Or.inl yV.l)) (aU (aB (i:=10) hG.nd rfl (Or.inl wN.l)) iT))) (ak (aw (i:=11) hG.nd rfl (Or.inl EF.l) (bj (ag (az aI (bj (ag (av d9 (pvl 10 wN) (av tX am am)) (ag (ar G_law_stir (hr.mono (by decide)) kT.g di.m di.F.kp di.b .nil (ax hq) (ag (pvl 10 wN) (ag (av gY am (pvl 9 yV)) aj)) (hdb:=kT.d)) aj))) (av d9 (pvl 9 yV) am) (fun _ _=>rfl)) aj))) (ak (gZ (ar G_law_otherwise (hr.mono (by decide)) pf.g gC.m gC.F.kp gC.b .nil (ax hq) (ag (fi jU fV.g T.list tJ (ag (az aI (pvl 7 lV) am (fun _ _=>rfl)) aj) (hn:=fV.n) (hdb:=fV.d)) (ag (fi jU fV.g T.list tJ (ag (az aI (pvl 7 lV) am (fun _ _=>rfl)) aj) (hn:=fV.n) (hdb:=fV.d)) (ag (pvl 11 EF) aj))) (hdb:=pf.d)) (kr (n:=2) rfl (aU (aB (i:=12) hG.nd rfl (Or.inl zV.l)) (aU (aB (i:=13) hG.nd rfl (Or.inl zF.l)) iT)))) (aq (bA (jQ (mH (ar G_law_asked_good (hr.mono (by decide)) gj.g cX.m cX.F.kp cX.b .nil (ax hq) (ag (pvl 5 oS) (ag (pvl 6 uH) (ag (pvl 12 zV) (ag (pvl 13 zF) (ag (pvl 9 yV) aj))))) (hdb:=gj.d)))) (aq (aF jH)) aO))))) (aq (aF jH))))))))))),?_⟩;rw [show L2.start ["script","many","roads","arms","middle","web","tolls","first","other","k","cell","pot","shares","second"] [V.ref a]=[some (V.ref a),none,none,none,none,none,none,none,none,none,none,none,none,none] from rfl];unfold tSl Oc tNoPart;refine aW fun N1 h1=>?_;walk_at "rd";refine ⟨aE (by simp),fun z nz=>?_⟩;have s0:=Same.new (.lst [V.int 3,V.int 4,V.int 2,V.int 5,V.int 1,V.int 6]) nz;refine ⟨a,z,ns,[3,4,2,5,1,6],rfl,Same.seq s0 ha,hn,ah,by simp,by simp,by decide,fun t l m ps rs H1 mm nt nl s1 et el ro g=>?_⟩;have m6:m<=6:=by
     have:∀ x∈([3,4,2,5,1,6]:List Int),x<=6:=(by decide);exact this m mm
   have s01:=s0.trans s1;clear s0 nz;refine ⟨t,rfl,_,SqT.of et,rfl,_,_,rfl,_,_,rfl,rfl,h1 _ _ (aW fun N2 h2=>?_)⟩;walk_at "rd";refine ⟨a,ns,0,rfl,Same.seq s01 ha,by decide,fun c0 _ _=>⟨c0,91,rfl,by decide,by decide,fun arms _=>h2 _ _ (aW fun N3 h3=>?_)⟩⟩;walk_at "rd";refine ⟨⟨by decide,by decide⟩,by decide,h3 _ _ (aW fun N4 h4=>?_)⟩;have md:=BD (arms / 4) (show (0:Int)<4 by decide);generalize arms / 4 % 4=mid at md ⊢
   suffices kc:∀ (m:Int) (l:Addr) (ps:List Addr) (rs:List Road) (H2:Hp) (v13:Option V),Same H H2->Good m rs->m<=6->(arms % 4=1->m=4)->H2 l=some (.lst (ps.map V.ref))->RoadsAt H2 ps rs->N4 [some (V.ref a),some (V.int m),some (V.ref l),some (V.int arms),some (V.int mid),none,none,none,none,none,none,none,none,v13] H2 by
     walk_at "rd";refine ⟨by decide,?_⟩;by_cases c:arms % 4=1
     . rw [if_pos c];refine ⟨by decide,by decide,fun p np=>?_⟩;refine mj (lo:=0) (n:=Int.toNat 4) (fun i bs σ H4=>Same H1 H4/\H4 p=some (.lst bs)/\(∃ qs,bs=qs.map V.ref/\RoadsAt H4 qs (BK mid i))/\∃ v,σ=[v,some (V.int mid)]) ⟨Same.new _ np,ah,⟨[],rfl,.nil⟩,_,rfl⟩ ?_ ?_
       . rintro i bs σ H4 N hN hi ⟨s4,e4,⟨qs,rfl,rq⟩,v,rfl⟩;have hi':i<4:=hi;have ql:qs.length<=i:=by
           rw [Paired.length rq];unfold BK;rw [List.length_map];exact Nat.le_trans (List.length_filter_le _ _) (by rw [List.length_range];exact Nat.le_refl _)
         walk_at "rd";rw [Int.zero_add];by_cases c2:(i:Int)=mid
         . rw [if_neg (fun z=>z c2)];refine hN _ _ _ ⟨s4,e4,⟨qs,rfl,?_⟩,_,rfl⟩;unfold BK;rw [List.range_succ,List.filter_append,List.filter_cons_of_neg (by simp [c2]),List.filter_nil,List.append_nil];exact rq
         . rw [if_pos c2];refine ⟨aE (by simp),fun q nq=>?_⟩;have nqp:p≠q:=fun z=>by rw [<- z,e4] at nq;cases nq
           refine ⟨by rw [ao nqp];exact e4,cj (by rw [List.length_map];omega),hN _ _ _ ⟨(s4.trans (Same.new _ nq)).put np _,ah,⟨qs++[q],by rw [List.map_append];rfl,?_⟩,_,rfl⟩⟩;unfold BK;rw [List.range_succ,List.filter_append,List.filter_cons_of_pos (by simp [c2]),List.filter_nil,List.map_append];refine tI ?_ (Paired.imp' (fun q' r x=>?_) rq)
           . rw [ao nqp.symm,ah]
             rfl
           . rw [ao (fun z=>by rw [z,e4] at x;cases x),ao (aG x nq)];exact x
       . rintro bs σ H4 ⟨s4,e4,⟨qs,rfl,rq⟩,v,rfl⟩;exact kc 4 p qs _ H4 none (s01.trans s4) (Pw md.1 md.2) (by decide) (fun _=>rfl) e4 rq
     . rw [if_neg c];exact kc m l ps rs H1 none s01 g m6 (fun z=>absurd z c) el ro
   clear el ro g m6 s01 s1 et nl nt mm h1 h2 h3;intro m l ps rs H2 v13 s2 g m6 m4 el ro;refine h4 _ _ (aW fun N5 h5=>?_);walk_at "rd";refine ⟨_,.inl (SqL.of el),fun l1 n1=>?_⟩;have u1:=Same.new (.lst (ps.map V.ref)) n1;have e1:upd H2 l1 (.lst (ps.map V.ref)) l1=some (.lst (ps.map V.ref)):=ah;generalize upd H2 l1 (.lst (ps.map V.ref))=H3 at u1 e1 ⊢;refine Wz T (c:=true) (SqL.of e1) (RoadsAt.same u1 ro) g fun x tw H4 hx htw s4 W=>?_;have s24:=u1.trans s4;refine h5 _ _ (aW fun N6 h6=>?_);walk_at "rd";refine ⟨l,ps,m,rs,rfl,s24 _ _ el,RoadsAt.same s24 ro,g,fun d H5 nd s5 hd=>h6 _ _ (aW fun N7 h7=>?_)⟩;have W5:=W.same s5;walk_at "rd";refine ⟨x,tw,m,ps,rs,rfl,W5,by omega,fun la qa fs H6 na s6 ea fa fl fB _=>?_⟩;refine ⟨x,tw,m,ps,rs,rfl,W5.same s6,by omega,fun lb qb gs H7 nb s7 eb gb gl gB _=>⟨aE (by simp),fun lf nf=>h7 _ _ (aW fun N8 h8=>?_)⟩⟩;have s8:=Same.new (.lst [V.ref la,V.ref lb]) nf;have ef:upd H7 lf (.lst [V.ref la,V.ref lb]) lf=some (.lst [V.ref la,V.ref lb]):=ah;generalize upd H7 lf (.lst [V.ref la,V.ref lb])=H8 at s8 ef ⊢;have s58:=s6.trans (s7.trans s8);have W8:=W5.same s58;have hd8:=hd.same s58;have ea8:=s8 _ _ (s7 _ _ ea);have eb8:=s8 _ _ eb;have fa8:=FrsAt.same (s7.trans s8) fa;have gb8:=FrsAt.same s8 gb;have ha8:=Same.seq (s2.trans (s24.trans (s5.trans s58))) ha;have m1:=g.m1;walk_at "rd";refine ⟨by decide,?_⟩
   suffices rest2:∀ (H9:Hp) (v8:Option V),Same H8 H9->N8 [some (V.ref a),some (V.int m),some (V.ref l),some (V.int arms),some (V.int mid),some (V.ref x),some (V.ref d),some (V.ref lf),v8,none,none,none,none,v13] H9 by
     by_cases c:arms % 4=1
     . rw [if_pos c];have m4':=m4 c;have pt:=BD (arms / 16) (show (0:Int)<9 by decide);refine ixL ef rfl ⟨⟨by decide,by decide⟩,by decide,la,qa,fs,mid,_,rfl,ea8,fa8,fun f hf=>(fB f hf).1,md.1,by omega,by omega,by omega,by omega,fun lo qo fo H9 no s9 eo fo9 oB ol=>?_⟩;refine ixL (s9 _ _ ef) rfl ⟨x,d,lo,lb,tw,m,arms,ps,rs,qo,qb,fo,gs,rfl,W8.same s9,m6,hd8.same s9,eo,s9 _ _ eb8,fo9,FrsAt.same s9 gb8,oB,fun f hf=>ia (gB f hf).1 (by decide),ol,by omega,fun H10 s10=>⟨true,rfl,?_⟩⟩;rw [if_neg (by decide)];exact rest2 H10 _ (s9.trans s10)
     . rw [if_neg c];exact rest2 H8 none (Same.refl _)
   intro H9 v8 s9;refine h8 _ _ (aW fun N9 h9=>?_);walk_at "rd";refine ⟨aE (by simp),fun q0 n0=>?_⟩;have u0:=Same.new (.lst [V.int 0]) n0;refine ⟨a,_,rfl,Same.seq (s9.trans u0) ha8,fun q1 n1=>?_⟩;rw [VO _ (by decide),<- List.map_take];have u1':=Same.new (.lst ((ns.take (Int.toNat 5)).map V.int)) n1;refine ⟨q0,q1,_,_,rfl,rfl,u1' _ _ ah,ah,aE (by simp;omega),fun lc nlc=>?_⟩;have u2:=Same.new (.lst ([V.int 0]++(ns.take (Int.toNat 5)).map V.int)) nlc;have ec:upd (upd (upd H9 q0 (.lst [V.int 0])) q1 (.lst ((ns.take (Int.toNat 5)).map V.int))) lc (.lst ([V.int 0]++(ns.take (Int.toNat 5)).map V.int)) lc=some (.lst (((0:Int)::ns.take (Int.toNat 5)).map V.int)):=ah;have u:=s9.trans (u0.trans (u1'.trans u2));generalize upd (upd (upd H9 q0 (.lst [V.int 0])) q1 (.lst ((ns.take (Int.toNat 5)).map V.int))) lc (.lst ([V.int 0]++(ns.take (Int.toNat 5)).map V.int))=H10 at u ec ⊢;have cl:((0:Int)::ns.take (Int.toNat 5)).length<=6:=by rw [List.length_cons,List.length_take];omega
   generalize (0:Int)::ns.take (Int.toNat 5)=cs at ec cl ⊢;have W10:=W8.same u;have hd10:=hd8.same u;have ef10:=u _ _ ef;have ea10:=u _ _ ea8;have eb10:=u _ _ eb8;have fa10:=FrsAt.same u fa8;have gb10:=FrsAt.same u gb8;refine ⟨lc,rfl,⟨_,SqL.of ec⟩,?_⟩;refine T4 (K:=K) (c:=true) (xs:=cs.map V.int) (fun i σ H3=>Same H10 H3/\∃ v8 v9 v10 v11 v12 v13,σ=[some (V.ref a),some (V.int m),some (V.ref l),some (V.int arms),some (V.int mid),some (V.ref x),some (V.ref d),some (V.ref lf),v8,v9,v10,v11,v12,v13]) ⟨Same.refl _,_,_,_,_,_,_,rfl⟩ (fun i σ H3 z=>SqL.of (z.1 _ _ ec)) ?_ ?_
   . rintro i y σ H11 pq N hN hx ⟨s11,v8,v9,v10,v11,v12,v13,rfl⟩ npq;rw [List.getElem?_map] at hx;obtain ⟨c,gc,rfl⟩:=Option.map_eq_some_iff.mp hx;have il:=(List.getElem?_eq_some_iff.mp gc).1;have s12:=s11.trans (Same.new (.tup [V.int (i:Int),V.int c]) npq);refine Oj (SqT.of ah) ?_;generalize upd H11 pq (.tup [V.int (i:Int),V.int c])=H12 at s12 ⊢;simp only [List.set_cons_zero,List.set_cons_succ];refine aW fun M1 k1=>?_;walk_at "rd";refine ⟨⟨by decide,by decide,by decide⟩,by decide,c,70+(i:Int),rfl,by omega,by omega,fun v v0=>⟨aE (by simp),fun p1 n1=>⟨by decide,?_⟩⟩⟩;obtain ⟨m0,hm0⟩:∃ m0:Int,atI [V.int (c % 10^Int.toNat 60),V.int v] ((i:Int) % 2)=some (.int m0):=by
       rcases (show (i:Int) % 2=0\/(i:Int) % 2=1 by omega) with z|z <;> rw [z] <;> exact ⟨_,rfl⟩
     refine ixL ah hm0 ⟨aE (by simp),fun pt npt=>?_⟩;have s13:=s12.trans (Same.new (.lst [V.int (c % 10^Int.toNat 60),V.int v]) n1);generalize upd H12 p1 (.lst [V.int (c % 10^Int.toNat 60),V.int v])=H13 at s13 npt ⊢;have frp:=s13.free npt;have s14:=s13.trans (Same.new (.lst [V.int m0]) npt);have e14:upd H13 pt (.lst [V.int m0]) pt=some (.lst [V.int m0]):=ah;generalize upd H13 pt (.lst [V.int m0])=H14 at s14 e14 ⊢;refine k1 _ _ (aW fun M2 k2=>?_);walk_at "rd";refine ixL (s14 _ _ ef10) rfl ⟨la,rfl,_,.inl (SqL.of (s14 _ _ ea10)),fun l15 n15=>?_⟩;have t15:=Same.new (.lst (qa.map V.ref)) n15;have e15:upd H14 l15 (.lst (qa.map V.ref)) l15=some (.lst (qa.map V.ref)):=ah;generalize upd H14 l15 (.lst (qa.map V.ref))=H15 at t15 e15 ⊢;refine ixL (t15 _ _ (s14 _ _ ef10)) rfl ⟨lb,rfl,_,.inl (SqL.of (t15 _ _ (s14 _ _ eb10))),fun l16 n16=>?_⟩;have t16:=Same.new (.lst (qb.map V.ref)) n16;have e16:upd H15 l16 (.lst (qb.map V.ref)) l16=some (.lst (qb.map V.ref)):=ah;generalize upd H15 l16 (.lst (qb.map V.ref))=H16 at t16 e16 ⊢;have t1416:=t15.trans t16;have s16:=s14.trans t1416;have e14':=t1416 _ _ e14;have n15p:l15≠pt:=fun z=>by rw [z,e14] at n15;cases n15
     have n16p:l16≠pt:=fun z=>by rw [z,t15 _ _ e14] at n16;cases n16
     refine ⟨l15,l16,pt,qa,qb,fs,gs,m0,rfl,e14',n15p,n16p,t16 _ _ e15,e16,FrsAt.same s16 fa10,FrsAt.same s16 gb10,fun f hf=>(fB f hf).1,fun f hf=>(gB f hf).1,by omega,by omega,by omega,by omega,fun t17 a17 b17 q17 r17 f17 g17 H17 b7 e17 ea17 eb17 fa17 gb17 fB17 gB17 fl17 gl17=>?_⟩;have s17:Same H10 H17:=fun b o z=>b7 _ _ (s16 _ _ z) (aG z frp);refine ⟨t17,rfl,_,SqT.of e17,rfl,_,_,rfl,_,_,rfl,rfl,k2 _ _ ?_⟩;walk_at "rd";refine ⟨x,d,a17,b17,tw,m,(i:Int),ps,rs,q17,r17,f17,g17,rfl,W10.same s17,m6,hd10.same s17,ea17,eb17,fa17,gb17,fB17,gB17,fl17,gl17,fun H18 s18=>⟨true,rfl,?_⟩⟩;rw [if_neg (by decide)];exact hN _ _ ⟨s17.trans s18,_,_,_,_,_,_,rfl⟩
   . rintro σ H11 ⟨s11,v8,v9,v10,v11,v12,v13,rfl⟩;refine h9 _ _ ?_;walk_at "rd";exact k _
end
theorem Xx:aP CX0:=fun _ _ _ _ _ h=>h
theorem all_mk {l:PySem.W.OpenLaw} {w:World} {K:PySem.W.Frag} {h:Heap} {mg:Str->Option Value} {fa:Addr} {KF:Addr} {vA:Addr} {yh:Addr} {oF:Addr} {xc_NoPlace:Value} {xd_NoPlace:Option Addr} {xk_NoPlace:ClassData} {xs_NoPlace:Array (Option Value)} {qn_NoPlace qq_NoPlace:Str} {qN_NoPlace:Addr} {qb_NoPlace qm_NoPlace:List Value} {qh_NoPlace:Bool} {qs_NoPlace:List Str} {qu_NoPlace:List Value} {qa_NoPlace:Bool} {qc_NoPlace:Option Bool} {qd_NoPlace:Option Addr} {q0_NoPlace q1_NoPlace q2_NoPlace q3_NoPlace q5_NoPlace:Option Value} {xc_NoRoad:Value} {xd_NoRoad:Option Addr} {xk_NoRoad:ClassData} {xs_NoRoad:Array (Option Value)} {qn_NoRoad qq_NoRoad:Str} {qN_NoRoad:Addr} {qb_NoRoad qm_NoRoad:List Value} {qh_NoRoad:Bool} {qs_NoRoad:List Str} {qu_NoRoad:List Value} {qa_NoRoad:Bool} {qc_NoRoad:Option Bool} {qd_NoRoad:Option Addr} {q0_NoRoad q1_NoRoad q2_NoRoad q3_NoRoad q5_NoRoad:Option Value} {fF:Addr} {od_check_counts Ey:Option Addr} {Ew:Array (Option Value)} {oc_check_counts ED Et DT vM EC:Value} {fS:Addr} {od_is_place Lg:Option Addr} {Lz:Array (Option Value)} {oc_is_place LZ L9 L5 CC L7:Value} {iB:Addr} {od_check_ends GO:Option Addr} {GM:Array (Option Value)} {oc_check_ends Hs Hg Ho zL GN:Value} {dY:Addr} {od_other_ends HN:Option Addr} {HZ:Array (Option Value)} {oc_other_ends HW GF GH zD HJ:Value} {fJ:Addr} {od_check_joined Ez:Option Addr} {D4:Array (Option Value)} {oc_check_joined DP DU EA vL En:Value} {gM:Addr} {od_check_tolls Fc:Option Addr} {FZ:Array (Option Value)} {oc_check_tolls FB FE FF xn Fv:Value} {f_Web___init__:Addr} {od_Web___init__ Ex:Option Addr} {EZ:Array (Option Value)} {oc_Web___init__ Ei Er EG vE EJ:Value} {jD:Addr} {od_law_tolls Kc:Option Addr} {KR:Array (Option Value)} {oc_law_tolls Iq Ke J9 Av Kk:Value} {gR:Addr} {od_law_divided Fe:Option Addr} {FD:Array (Option Value)} {oc_law_divided E2 F4 F0 xk Ft:Value} {iE:Addr} {od_law_beside GU:Option Addr} {Hr:Array (Option Value)} {oc_law_beside HS HG GR zx G7:Value} {jA:Addr} {od_law_ahead Jy:Option Addr} {JJ:Array (Option Value)} {oc_law_ahead Jm Jh Jg AF Je:Value} {iy:Addr} {od_law_prices Hu:Option Addr} {HY:Array (Option Value)} {oc_law_prices GW Hb HP zr Hy:Value} {lz:Addr} {od_law_due NK:Option Addr} {Om:Array (Option Value)} {oc_law_due MR OV Oi Ea Nt:Value} {mF:Addr} {od_less Vl:Option Addr} {Vu:Array (Option Value)} {oc_less UE Vk Ve Mv Vj:Value} {j9:Addr} {od_is_below Ma:Option Addr} {L1:Array (Option Value)} {oc_is_below L6 Lq Lo Cs Mg:Value} {jw:Addr} {od_are_sound K2:Option Addr} {Ki:Array (Option Value)} {oc_are_sound II JB Iy Bl IG:Value} {cA:Addr} {od_common_divisor BS:Option Addr} {B8:Array (Option Value)} {oc_common_divisor BU B4 B6 sN BX:Value} {dI:Addr} {od_fraction Lp:Option Addr} {LP:Array (Option Value)} {oc_fraction L0 LC Ld Cz Lu:Value} {cW:Addr} {od_sum_up Qv:Option Addr} {QK:Array (Option Value)} {oc_sum_up Qk PZ Qr Gj Qm:Value} {dX:Addr} {od_divided_up Ht:Option Addr} {Hh:Array (Option Value)} {oc_divided_up HU Hj Hv zW HC:Value} {ci:Addr} {od_check_place FY:Option Addr} {FW:Array (Option Value)} {oc_check_place Fx Fr Fu wZ F5:Value} {cG:Addr} {od_neighbours Hi:Option Addr} {Hk:Array (Option Value)} {oc_neighbours HR GX G3 zt Hm:Value} {mK:Addr} {od_kids Vs:Option Addr} {UD:Array (Option Value)} {oc_kids UW UH UQ MP Ux:Value} {kI:Addr} {od_ahead Sh:Option Addr} {QQ:Array (Option Value)} {oc_ahead So R5 T2 JR RM:Value} {uW:Addr} {od_down U2:Option Addr} {UG:Array (Option Value)} {oc_down Vf VB U3 ML Us:Value} {jE:Addr} {od_inward QF:Option Addr} {Pz:Array (Option Value)} {oc_inward P9 Qo Pq Gu QG:Value} {gS:Addr} {od_toll Vv:Option Addr} {UY:Array (Option Value)} {oc_toll Uz Uv Vx MN UI:Value} {jF:Addr} {od_prices_to Kt:Option Addr} {Jf:Array (Option Value)} {oc_prices_to Kh JX Kg Ae KW:Value} {qJ:Addr} {od_worth Q6:Option Addr} {R1:Array (Option Value)} {oc_worth TY RU Sy IK RC:Value} {gN:Addr} {od_prices_from Fh:Option Addr} {Fw:Array (Option Value)} {oc_prices_from FO FI FN xq Fp:Value} {nA:Addr} {od_yields PV:Option Addr} {Qs:Array (Option Value)} {oc_yields QB Px Po Gd Pu:Value} {eE:Addr} {od_shows_fairest DG:Option Addr} {C8:Array (Option Value)} {oc_shows_fairest CO C0 DF vh C6:Value} {d7:Addr} {od_law_asked_good B7:Option Addr} {BT:Array (Option Value)} {oc_law_asked_good B5 BZ BP sR BQ:Value} {fT:Addr} {od_law_cell K9:Option Addr} {Lb:Array (Option Value)} {oc_law_cell LJ Li LS Cj Lc:Value} {kf:Addr} {od_law_part Lh:Option Addr} {Ln:Array (Option Value)} {oc_law_part Lf LY Ls Cd LA:Value} {bN:Addr} {od_law_fraction D2:Option Addr} {D0:Array (Option Value)} {oc_law_fraction ES EU D3 vB Eh:Value} {eC:Addr} {od_law_added Iz:Option Addr} {KS:Array (Option Value)} {oc_law_added Ir Ko IM Al IX:Value} {lK:Addr} {od_law_led Ov:Option Addr} {Nu:Array (Option Value)} {oc_law_led NM Nl Oo EH O3:Value} {iw:Addr} {od_law_scaled GI:Option Addr} {HA:Array (Option Value)} {oc_law_scaled HD GG G5 zT Hw:Value} {bJ:Addr} {od_law_take LB:Option Addr} {Lw:Array (Option Value)} {oc_law_take LL Mh LH Co LI:Value} {jB:Addr} {od_law_drawn JK:Option Addr} {JN:Array (Option Value)} {oc_law_drawn Kl Kz J7 A7 Jx:Value} {iJ:Addr} {od_law_turned HM:Option Addr} {HB:Array (Option Value)} {oc_law_turned HL HV HE zU GD:Value} {eV:Addr} {od_law_otherwise DC:Option Addr} {C9:Array (Option Value)} {oc_law_otherwise Dy DB CN uo Du:Value} {fW:Addr} {od_law_stir Lx:Option Addr} {Me:Array (Option Value)} {oc_law_stir Ll LF LG Cc LU:Value} {jC:Addr} {od_law_cells IE:Option Addr} {KJ:Array (Option Value)} {oc_law_cells IQ JD KB AH Jq:Value} {kg:Addr} {od_law_toll L3:Option Addr} {Mf:Array (Option Value)} {oc_law_toll LO L4 La Cp LK:Value} {jt:Addr} {od_law_roads KN:Option Addr} {IY:Array (Option Value)} {oc_law_roads Ju IW JC Au JI:Value} {lA:Addr} {od_law_web OD:Option Addr} {O4:Array (Option Value)} {oc_law_web MX NO O1 DX NZ:Value} {tU:Addr} {od_plus Vq:Option Addr} {UL:Array (Option Value)} {oc_plus Vi UZ Va Mx UC:Value} {kD:Addr} {od_minus Sz:Option Addr} {ST:Array (Option Value)} {oc_minus RA TR Tt Kv TV:Value} {eD:Addr} {od_road_part K4:Option Addr} {IT:Array (Option Value)} {oc_road_part JT Iv J8 AR I0:Value} {iG:Addr} {od_even_share GP:Option Addr} {G9:Array (Option Value)} {oc_even_share G8 GQ HQ zG G6:Value} {gQ:Addr} {od_even_shares Fi:Option Addr} {FP:Array (Option Value)} {oc_even_shares E8 FA FX xH FR:Value} {fH:Addr} {od_second_share DM:Option Addr} {ER:Array (Option Value)} {oc_second_share Ej Ee Ep vz EI:Value} {eT:Addr} {od_second_shares DI:Option Addr} {CU:Array (Option Value)} {oc_second_shares C1 Dl CT uf C7:Value} {Oa:Addr} {od_law PH:Option Addr} {Wj:Array (Option Value)} {oc_law PJ Pi P8 Ka Qz:Value} {t_MOST_PLACES:Tok} {t_LEAST_TOLL:Tok} {t_MOST_TOLL:Tok} {Dz:Addr} {PF QJ:Tok} {Sx:Nat} {Sn:Option Addr} {QP:Array (Option Value)} {Na:Addr} {WT VW:Tok} {W2:Nat} {W7:Option Addr} {Xd:Array (Option Value)} (X:K.In h) (G:h.Ns mainGlobals mg) (hfa:mg "law"=some (.ref fa))
   (Az:PySem.W.nsIn K mainGlobals "BadWeb"=some (some (.ref KF)))
   (yH:PySem.W.nsIn K mainGlobals "NoPlace"=some (some (.ref vA)))
   (An:PySem.W.nsIn K mainGlobals "NoRoad"=some (some (.ref yh)))
   (KC:PySem.W.nsIn K mainGlobals "Web"=some (some (.ref oF)))
   (yU:K.lookup vA=some ⟨xc_NoPlace,xd_NoPlace,.cls xk_NoPlace,xs_NoPlace⟩)
   (yc:(⟨xc_NoPlace,xd_NoPlace,.cls xk_NoPlace,xs_NoPlace⟩:Obj)=excClassObj qn_NoPlace qq_NoPlace vA qN_NoPlace qb_NoPlace qm_NoPlace qh_NoPlace qs_NoPlace qu_NoPlace qa_NoPlace qc_NoPlace qd_NoPlace q0_NoPlace q1_NoPlace q2_NoPlace q3_NoPlace q5_NoPlace "ValueError.__new__")
   (yP:PySem.W.nsOkIn K qN_NoPlace=true)
   (yM:PySem.W.nsIn K qN_NoPlace "__init__"=some none)
   (yI:PySem.W.tailIn K bmV qm_NoPlace=true)
   (A1:K.lookup yh=some ⟨xc_NoRoad,xd_NoRoad,.cls xk_NoRoad,xs_NoRoad⟩)
   (Bi:(⟨xc_NoRoad,xd_NoRoad,.cls xk_NoRoad,xs_NoRoad⟩:Obj)=excClassObj qn_NoRoad qq_NoRoad yh qN_NoRoad qb_NoRoad qm_NoRoad qh_NoRoad qs_NoRoad qu_NoRoad qa_NoRoad qc_NoRoad qd_NoRoad q0_NoRoad q1_NoRoad q2_NoRoad q3_NoRoad q5_NoRoad "ValueError.__new__")
   (AJ:PySem.W.nsOkIn K qN_NoRoad=true)
   (A5:PySem.W.nsIn K qN_NoRoad "__init__"=some none)
   (Ak:PySem.W.tailIn K bmV qm_NoRoad=true)
   (qh:PySem.W.nsIn K mainGlobals "check_counts"=some (some (.ref fF)))
   (qP:K.lookup fF=some ⟨oc_check_counts,od_check_counts,.func (PySem.W.fnOf "check_counts" "check_counts" (aD bM) (aA bM) (aa bM) .none ED Et DT Ey vM EC),Ew⟩)
   (qr:PySem.W.codeIn K vM "check_counts"=true)
   (qT:PySem.W.keepIn K (.ref fF)=true)
   (yg:PySem.W.nsIn K mainGlobals "is_place"=some (some (.ref fS)))
   (y3:K.lookup fS=some ⟨oc_is_place,od_is_place,.func (PySem.W.fnOf "is_place" "is_place" (aD eK) (aA eK) (aa eK) .none LZ L9 L5 Lg CC L7),Lz⟩)
   (zf:PySem.W.codeIn K CC "is_place"=true)
   (yX:PySem.W.keepIn K (.ref fS)=true)
   (uh:PySem.W.nsIn K mainGlobals "check_ends"=some (some (.ref iB)))
   (uN:K.lookup iB=some ⟨oc_check_ends,od_check_ends,.func (PySem.W.fnOf "check_ends" "check_ends" (aD cZ) (aA cZ) (aa cZ) .none Hs Hg Ho GO zL GN),GM⟩)
   (uk:PySem.W.codeIn K zL "check_ends"=true)
   (uZ:PySem.W.keepIn K (.ref iB)=true)
   (ue:PySem.W.nsIn K mainGlobals "other_ends"=some (some (.ref dY)))
   (uy:K.lookup dY=some ⟨oc_other_ends,od_other_ends,.func (PySem.W.fnOf "other_ends" "other_ends" (aD cD) (aA cD) (aa cD) .none HW GF GH HN zD HJ),HZ⟩)
   (u8:PySem.W.codeIn K zD "other_ends"=true)
   (ul:PySem.W.keepIn K (.ref dY)=true)
   (qN:PySem.W.nsIn K mainGlobals "check_joined"=some (some (.ref fJ)))
   (qX:K.lookup fJ=some ⟨oc_check_joined,od_check_joined,.func (PySem.W.fnOf "check_joined" "check_joined" (aD ba) (aA ba) (aa ba) .none DP DU EA Ez vL En),D4⟩)
   (qm:PySem.W.codeIn K vL "check_joined"=true)
   (qL:PySem.W.keepIn K (.ref fJ)=true)
   (sK:PySem.W.nsIn K mainGlobals "check_tolls"=some (some (.ref gM)))
   (sA:K.lookup gM=some ⟨oc_check_tolls,od_check_tolls,.func (PySem.W.fnOf "check_tolls" "check_tolls" (aD cg) (aA cg) (aa cg) .none FB FE FF Fc xn Fv),FZ⟩)
   (rT:PySem.W.codeIn K xn "check_tolls"=true)
   (sF:PySem.W.keepIn K (.ref gM)=true)
   (qZ:PySem.W.findIn K (.ref oF) "__init__"=some (some (.ref f_Web___init__)))
   (qD:PySem.W.isFn K (.ref f_Web___init__)=true)
   (qg:K.lookup f_Web___init__=some ⟨oc_Web___init__,od_Web___init__,.func (PySem.W.fnOf "__init__" "Web.__init__" (aD aZ) (aA aZ) (aa aZ) .none Ei Er EG Ex vE EJ),EZ⟩)
   (qA:PySem.W.codeIn K vE "Web.__init__"=true)
   (qO:PySem.W.keepIn K (.ref f_Web___init__)=true)
   (wz:PySem.W.nsIn K mainGlobals "_law_tolls"=some (some (.ref jD)))
   (wW:K.lookup jD=some ⟨oc_law_tolls,od_law_tolls,.func (PySem.W.fnOf "_law_tolls" "_law_tolls" (aD cM) (aA cM) (aa cM) .none Iq Ke J9 Kc Av Kk),KR⟩)
   (wQ:PySem.W.codeIn K Av "_law_tolls"=true)
   (wA:PySem.W.keepIn K (.ref jD)=true)
   (sI:PySem.W.nsIn K mainGlobals "_law_divided"=some (some (.ref gR)))
   (rX:K.lookup gR=some ⟨oc_law_divided,od_law_divided,.func (PySem.W.fnOf "_law_divided" "_law_divided" (aD bE) (aA bE) (aa bE) .none E2 F4 F0 Fe xk Ft),FD⟩)
   (rZ:PySem.W.codeIn K xk "_law_divided"=true)
   (sC:PySem.W.keepIn K (.ref gR)=true)
   (uD:PySem.W.nsIn K mainGlobals "_law_beside"=some (some (.ref iE)))
   (tZ:K.lookup iE=some ⟨oc_law_beside,od_law_beside,.func (PySem.W.fnOf "_law_beside" "_law_beside" (aD cH) (aA cH) (aa cH) .none HS HG GR GU zx G7),Hr⟩)
   (tW:PySem.W.codeIn K zx "_law_beside"=true)
   (uJ:PySem.W.keepIn K (.ref iE)=true)
   (wU:PySem.W.nsIn K mainGlobals "_law_ahead"=some (some (.ref jA)))
   (wg:K.lookup jA=some ⟨oc_law_ahead,od_law_ahead,.func (PySem.W.fnOf "_law_ahead" "_law_ahead" (aD bK) (aA bK) (aa bK) .none Jm Jh Jg Jy AF Je),JJ⟩)
   (wP:PySem.W.codeIn K AF "_law_ahead"=true)
   (wM:PySem.W.keepIn K (.ref jA)=true)
   (uw:PySem.W.nsIn K mainGlobals "_law_prices"=some (some (.ref iy)))
   (ve:K.lookup iy=some ⟨oc_law_prices,od_law_prices,.func (PySem.W.fnOf "_law_prices" "_law_prices" (aD aY) (aA aY) (aa aY) .none GW Hb HP Hu zr Hy),HY⟩)
   (vo:PySem.W.codeIn K zr "_law_prices"=true)
   (uT:PySem.W.keepIn K (.ref iy)=true)
   (AB:PySem.W.nsIn K mainGlobals "_law_due"=some (some (.ref lz)))
   (A4:K.lookup lz=some ⟨oc_law_due,od_law_due,.func (PySem.W.fnOf "_law_due" "_law_due" (aD bF) (aA bF) (aa bF) .none MR OV Oi NK Ea Nt),Om⟩)
   (Ax:PySem.W.codeIn K Ea "_law_due"=true)
   (Aq:PySem.W.keepIn K (.ref lz)=true)
   (K3:PySem.W.nsIn K mainGlobals "less"=some (some (.ref mF)))
   (IH:K.lookup mF=some ⟨oc_less,od_less,.func (PySem.W.fnOf "less" "less" (aD lU) (aA lU) (aa lU) .none UE Vk Ve Vl Mv Vj),Vu⟩)
   (KG:PySem.W.codeIn K Mv "less"=true)
   (KA:PySem.W.keepIn K (.ref mF)=true)
   (yK:PySem.W.nsIn K mainGlobals "is_below"=some (some (.ref j9)))
   (yk:K.lookup j9=some ⟨oc_is_below,od_is_below,.func (PySem.W.fnOf "is_below" "is_below" (aD eL) (aA eL) (aa eL) .none L6 Lq Lo Ma Cs Mg),L1⟩)
   (yL:PySem.W.codeIn K Cs "is_below"=true)
   (zh:PySem.W.keepIn K (.ref j9)=true)
   (wx:PySem.W.nsIn K mainGlobals "are_sound"=some (some (.ref jw)))
   (wv:K.lookup jw=some ⟨oc_are_sound,od_are_sound,.func (PySem.W.fnOf "are_sound" "are_sound" (aD dC) (aA dC) (aa dC) .none II JB Iy K2 Bl IG),Ki⟩)
   (wR:PySem.W.codeIn K Bl "are_sound"=true)
   (we:PySem.W.keepIn K (.ref jw)=true)
   (ng:PySem.W.nsIn K mainGlobals "common_divisor"=some (some (.ref cA)))
   (nJ:K.lookup cA=some ⟨oc_common_divisor,od_common_divisor,.func (PySem.W.fnOf "common_divisor" "common_divisor" (aD bq) (aA bq) (aa bq) .none BU B4 B6 BS sN BX),B8⟩)
   (m5:PySem.W.codeIn K sN "common_divisor"=true)
   (mY:PySem.W.keepIn K (.ref cA)=true)
   (zi:PySem.W.nsIn K mainGlobals "fraction"=some (some (.ref dI)))
   (yE:K.lookup dI=some ⟨oc_fraction,od_fraction,.func (PySem.W.fnOf "fraction" "fraction" (aD dh) (aA dh) (aa dh) .none L0 LC Ld Lp Cz Lu),LP⟩)
   (zb:PySem.W.codeIn K Cz "fraction"=true)
   (yj:PySem.W.keepIn K (.ref dI)=true)
   (De:PySem.W.nsIn K mainGlobals "sum_up"=some (some (.ref cW)))
   (Dv:K.lookup cW=some ⟨oc_sum_up,od_sum_up,.func (PySem.W.fnOf "sum_up" "sum_up" (aD cY) (aA cY) (aa cY) .none Qk PZ Qr Qv Gj Qm),QK⟩)
   (Dq:PySem.W.codeIn K Gj "sum_up"=true)
   (Dt:PySem.W.keepIn K (.ref cW)=true)
   (vb:PySem.W.nsIn K mainGlobals "divided_up"=some (some (.ref dX)))
   (u6:K.lookup dX=some ⟨oc_divided_up,od_divided_up,.func (PySem.W.fnOf "divided_up" "divided_up" (aD cI) (aA cI) (aa cI) .none HU Hj Hv Ht zW HC),Hh⟩)
   (vq:PySem.W.codeIn K zW "divided_up"=true)
   (tT:PySem.W.keepIn K (.ref dX)=true)
   (sk:PySem.W.nsIn K mainGlobals "check_place"=some (some (.ref ci)))
   (sx:K.lookup ci=some ⟨oc_check_place,od_check_place,.func (PySem.W.fnOf "check_place" "check_place" (aD bO) (aA bO) (aa bO) .none Fx Fr Fu FY wZ F5),FW⟩)
   (sy:PySem.W.codeIn K wZ "check_place"=true)
   (rR:PySem.W.keepIn K (.ref ci)=true)
   (tY:PySem.W.nsIn K mainGlobals "neighbours"=some (some (.ref cG)))
   (uR:K.lookup cG=some ⟨oc_neighbours,od_neighbours,.func (PySem.W.fnOf "neighbours" "neighbours" (aD bU) (aA bU) (aa bU) .none HR GX G3 Hi zt Hm),Hk⟩)
   (uA:PySem.W.codeIn K zt "neighbours"=true)
   (ua:PySem.W.keepIn K (.ref cG)=true)
   (Ip:PySem.W.nsIn K mainGlobals "kids"=some (some (.ref mK)))
   (Km:K.lookup mK=some ⟨oc_kids,od_kids,.func (PySem.W.fnOf "kids" "kids" (aD ji) (aA ji) (aa ji) .none UW UH UQ Vs MP Ux),UD⟩)
   (Kd:PySem.W.codeIn K MP "kids"=true)
   (KI:PySem.W.keepIn K (.ref mK)=true)
   (E9:PySem.W.nsIn K mainGlobals "ahead"=some (some (.ref kI)))
   (FT:K.lookup kI=some ⟨oc_ahead,od_ahead,.func (PySem.W.fnOf "ahead" "ahead" (aD dS) (aA dS) (aa dS) .none So R5 T2 Sh JR RM),QQ⟩)
   (FJ:PySem.W.codeIn K JR "ahead"=true)
   (Fk:PySem.W.keepIn K (.ref kI)=true)
   (Ku:PySem.W.nsIn K mainGlobals "down"=some (some (.ref uW)))
   (K7:K.lookup uW=some ⟨oc_down,od_down,.func (PySem.W.fnOf "down" "down" (aD fy) (aA fy) (aa fy) .none Vf VB U3 U2 ML Us),UG⟩)
   (Jp:PySem.W.codeIn K ML "down"=true)
   (IL:PySem.W.keepIn K (.ref uW)=true)
   (Di:PySem.W.nsIn K mainGlobals "inward"=some (some (.ref jE)))
   (DH:K.lookup jE=some ⟨oc_inward,od_inward,.func (PySem.W.fnOf "inward" "inward" (aD dJ) (aA dJ) (aa dJ) .none P9 Qo Pq QF Gu QG),Pz⟩)
   (DJ:PySem.W.codeIn K Gu "inward"=true)
   (C4:PySem.W.keepIn K (.ref jE)=true)
   (JA:PySem.W.nsIn K mainGlobals "toll"=some (some (.ref gS)))
   (J0:K.lookup gS=some ⟨oc_toll,od_toll,.func (PySem.W.fnOf "toll" "toll" (aD eh) (aA eh) (aa eh) .none Uz Uv Vx Vv MN UI),UY⟩)
   (K5:PySem.W.codeIn K MN "toll"=true)
   (Im:PySem.W.keepIn K (.ref gS)=true)
   (vU:PySem.W.nsIn K mainGlobals "prices_to"=some (some (.ref jF)))
   (wH:K.lookup jF=some ⟨oc_prices_to,od_prices_to,.func (PySem.W.fnOf "prices_to" "prices_to" (aD ce) (aA ce) (aa ce) .none Kh JX Kg Kt Ae KW),Jf⟩)
   (wb:PySem.W.codeIn K Ae "prices_to"=true)
   (vW:PySem.W.keepIn K (.ref jF)=true)
   (Fg:PySem.W.nsIn K mainGlobals "worth"=some (some (.ref qJ)))
   (FS:K.lookup qJ=some ⟨oc_worth,od_worth,.func (PySem.W.fnOf "worth" "worth" (aD ir) (aA ir) (aa ir) .none TY RU Sy Q6 IK RC),R1⟩)
   (Fa:PySem.W.codeIn K IK "worth"=true)
   (F2:PySem.W.keepIn K (.ref qJ)=true)
   (rM:PySem.W.nsIn K mainGlobals "prices_from"=some (some (.ref gN)))
   (sj:K.lookup gN=some ⟨oc_prices_from,od_prices_from,.func (PySem.W.fnOf "prices_from" "prices_from" (aD bu) (aA bu) (aa bu) .none FO FI FN Fh xq Fp),Fw⟩)
   (sJ:PySem.W.codeIn K xq "prices_from"=true)
   (rY:PySem.W.keepIn K (.ref gN)=true)
   (CV:PySem.W.nsIn K mainGlobals "yields"=some (some (.ref nA)))
   (Db:K.lookup nA=some ⟨oc_yields,od_yields,.func (PySem.W.fnOf "yields" "yields" (aD fN) (aA fN) (aa fN) .none QB Px Po PV Gd Pu),Qs⟩)
   (CJ:PySem.W.codeIn K Gd "yields"=true)
   (CY:PySem.W.keepIn K (.ref nA)=true)
   (pE:PySem.W.nsIn K mainGlobals "shows_fairest"=some (some (.ref eE)))
   (oJ:K.lookup eE=some ⟨oc_shows_fairest,od_shows_fairest,.func (PySem.W.fnOf "shows_fairest" "shows_fairest" (aD aR) (aA aR) (aa aR) .none CO C0 DF DG vh C6),C8⟩)
   (pI:PySem.W.codeIn K vh "shows_fairest"=true)
   (pJ:PySem.W.keepIn K (.ref eE)=true)
   (nI:PySem.W.nsIn K mainGlobals "_law_asked_good"=some (some (.ref d7)))
   (nF:K.lookup d7=some ⟨oc_law_asked_good,od_law_asked_good,.func (PySem.W.fnOf "_law_asked_good" "_law_asked_good" (aD aH) (aA aH) (aa aH) .none B5 BZ BP B7 sR BQ),BT⟩)
   (nR:PySem.W.codeIn K sR "_law_asked_good"=true)
   (nC:PySem.W.keepIn K (.ref d7)=true)
   (yi:PySem.W.nsIn K mainGlobals "_law_cell"=some (some (.ref fT)))
   (yt:K.lookup fT=some ⟨oc_law_cell,od_law_cell,.func (PySem.W.fnOf "_law_cell" "_law_cell" (aD d5) (aA d5) (aa d5) .none LJ Li LS K9 Cj Lc),Lb⟩)
   (yB:PySem.W.codeIn K Cj "_law_cell"=true)
   (yz:PySem.W.keepIn K (.ref fT)=true)
   (yR:PySem.W.nsIn K mainGlobals "_law_part"=some (some (.ref kf)))
   (yq:K.lookup kf=some ⟨oc_law_part,od_law_part,.func (PySem.W.fnOf "_law_part" "_law_part" (aD eM) (aA eM) (aa eM) .none Lf LY Ls Lh Cd LA),Ln⟩)
   (yS:PySem.W.codeIn K Cd "_law_part"=true)
   (y4:PySem.W.keepIn K (.ref kf)=true)
   (qw:PySem.W.nsIn K mainGlobals "_law_fraction"=some (some (.ref bN)))
   (qp:K.lookup bN=some ⟨oc_law_fraction,od_law_fraction,.func (PySem.W.fnOf "_law_fraction" "_law_fraction" (aD br) (aA br) (aa br) .none ES EU D3 D2 vB Eh),D0⟩)
   (qC:PySem.W.codeIn K vB "_law_fraction"=true)
   (qE:PySem.W.keepIn K (.ref bN)=true)
   (wj:PySem.W.nsIn K mainGlobals "_law_added"=some (some (.ref eC)))
   (wu:K.lookup eC=some ⟨oc_law_added,od_law_added,.func (PySem.W.fnOf "_law_added" "_law_added" (aD dB) (aA dB) (aa dB) .none Ir Ko IM Iz Al IX),KS⟩)
   (wE:PySem.W.codeIn K Al "_law_added"=true)
   (wm:PySem.W.keepIn K (.ref eC)=true)
   (A2:PySem.W.nsIn K mainGlobals "_law_led"=some (some (.ref lK)))
   (AL:K.lookup lK=some ⟨oc_law_led,od_law_led,.func (PySem.W.fnOf "_law_led" "_law_led" (aD dQ) (aA dQ) (aa dQ) .none NM Nl Oo Ov EH O3),Nu⟩)
   (A3:PySem.W.codeIn K EH "_law_led"=true)
   (Bm:PySem.W.keepIn K (.ref lK)=true)
   (tR:PySem.W.nsIn K mainGlobals "_law_scaled"=some (some (.ref iw)))
   (u7:K.lookup iw=some ⟨oc_law_scaled,od_law_scaled,.func (PySem.W.fnOf "_law_scaled" "_law_scaled" (aD dz) (aA dz) (aa dz) .none HD GG G5 GI zT Hw),HA⟩)
   (uV:PySem.W.codeIn K zT "_law_scaled"=true)
   (uQ:PySem.W.keepIn K (.ref iw)=true)
   (yo:PySem.W.nsIn K mainGlobals "_law_take"=some (some (.ref bJ)))
   (yx:K.lookup bJ=some ⟨oc_law_take,od_law_take,.func (PySem.W.fnOf "_law_take" "_law_take" (aD cU) (aA cU) (aa cU) .none LL Mh LH LB Co LI),Lw⟩)
   (zn:PySem.W.codeIn K Co "_law_take"=true)
   (yN:PySem.W.keepIn K (.ref bJ)=true)
   (wf:PySem.W.nsIn K mainGlobals "_law_drawn"=some (some (.ref jB)))
   (ww:K.lookup jB=some ⟨oc_law_drawn,od_law_drawn,.func (PySem.W.fnOf "_law_drawn" "_law_drawn" (aD cw) (aA cw) (aa cw) .none Kl Kz J7 JK A7 Jx),JN⟩)
   (wV:PySem.W.codeIn K A7 "_law_drawn"=true)
   (wy:PySem.W.keepIn K (.ref jB)=true)
   (uq:PySem.W.nsIn K mainGlobals "_law_turned"=some (some (.ref iJ)))
   (vf:K.lookup iJ=some ⟨oc_law_turned,od_law_turned,.func (PySem.W.fnOf "_law_turned" "_law_turned" (aD aQ) (aA aQ) (aa aQ) .none HL HV HE HM zU GD),HB⟩)
   (uL:PySem.W.codeIn K zU "_law_turned"=true)
   (um:PySem.W.keepIn K (.ref iJ)=true)
   (pL:PySem.W.nsIn K mainGlobals "_law_otherwise"=some (some (.ref eV)))
   (o7:K.lookup eV=some ⟨oc_law_otherwise,od_law_otherwise,.func (PySem.W.fnOf "_law_otherwise" "_law_otherwise" (aD aX) (aA aX) (aa aX) .none Dy DB CN DC uo Du),C9⟩)
   (oV:PySem.W.codeIn K uo "_law_otherwise"=true)
   (oI:PySem.W.keepIn K (.ref eV)=true)
   (ye:PySem.W.nsIn K mainGlobals "_law_stir"=some (some (.ref fW)))
   (yd:K.lookup fW=some ⟨oc_law_stir,od_law_stir,.func (PySem.W.fnOf "_law_stir" "_law_stir" (aD d3) (aA d3) (aa d3) .none Ll LF LG Lx Cc LU),Me⟩)
   (yn:PySem.W.codeIn K Cc "_law_stir"=true)
   (ze:PySem.W.keepIn K (.ref fW)=true)
   (wD:PySem.W.nsIn K mainGlobals "_law_cells"=some (some (.ref jC)))
   (vZ:K.lookup jC=some ⟨oc_law_cells,od_law_cells,.func (PySem.W.fnOf "_law_cells" "_law_cells" (aD cz) (aA cz) (aa cz) .none IQ JD KB IE AH Jq),KJ⟩)
   (wK:PySem.W.codeIn K AH "_law_cells"=true)
   (wO:PySem.W.keepIn K (.ref jC)=true)
   (zd:PySem.W.nsIn K mainGlobals "_law_toll"=some (some (.ref kg)))
   (zj:K.lookup kg=some ⟨oc_law_toll,od_law_toll,.func (PySem.W.fnOf "_law_toll" "_law_toll" (aD d4) (aA d4) (aa d4) .none LO L4 La L3 Cp LK),Mf⟩)
   (yO:PySem.W.codeIn K Cp "_law_toll"=true)
   (yT:PySem.W.keepIn K (.ref kg)=true)
   (wo:PySem.W.nsIn K mainGlobals "_law_roads"=some (some (.ref jt)))
   (vV:K.lookup jt=some ⟨oc_law_roads,od_law_roads,.func (PySem.W.fnOf "_law_roads" "_law_roads" (aD aN) (aA aN) (aa aN) .none Ju IW JC KN Au JI),IY⟩)
   (wn:PySem.W.codeIn K Au "_law_roads"=true)
   (vY:PySem.W.keepIn K (.ref jt)=true)
   (AA:PySem.W.nsIn K mainGlobals "_law_web"=some (some (.ref lA)))
   (Ag:K.lookup lA=some ⟨oc_law_web,od_law_web,.func (PySem.W.fnOf "_law_web" "_law_web" (aD dg) (aA dg) (aa dg) .none MX NO O1 OD DX NZ),O4⟩)
   (AW:PySem.W.codeIn K DX "_law_web"=true)
   (Am:PySem.W.keepIn K (.ref lA)=true)
   (JM:PySem.W.nsIn K mainGlobals "plus"=some (some (.ref tU)))
   (Jo:K.lookup tU=some ⟨oc_plus,od_plus,.func (PySem.W.fnOf "plus" "plus" (aD lC) (aA lC) (aa lC) .none Vi UZ Va Vq Mx UC),UL⟩)
   (Jw:PySem.W.codeIn K Mx "plus"=true)
   (JF:PySem.W.keepIn K (.ref tU)=true)
   (F3:PySem.W.nsIn K mainGlobals "minus"=some (some (.ref kD)))
   (E7:K.lookup kD=some ⟨oc_minus,od_minus,.func (PySem.W.fnOf "minus" "minus" (aD iZ) (aA iZ) (aa iZ) .none RA TR Tt Sz Kv TV),ST⟩)
   (Ff:PySem.W.codeIn K Kv "minus"=true)
   (Fn:PySem.W.keepIn K (.ref kD)=true)
   (wk:PySem.W.nsIn K mainGlobals "road_part"=some (some (.ref eD)))
   (wS:K.lookup eD=some ⟨oc_road_part,od_road_part,.func (PySem.W.fnOf "road_part" "road_part" (aD dE) (aA dE) (aa dE) .none JT Iv J8 K4 AR I0),IT⟩)
   (wI:PySem.W.codeIn K AR "road_part"=true)
   (wC:PySem.W.keepIn K (.ref eD)=true)
   (va:PySem.W.nsIn K mainGlobals "even_share"=some (some (.ref iG)))
   (uP:K.lookup iG=some ⟨oc_even_share,od_even_share,.func (PySem.W.fnOf "even_share" "even_share" (aD bH) (aA bH) (aa bH) .none G8 GQ HQ GP zG G6),G9⟩)
   (uv:PySem.W.codeIn K zG "even_share"=true)
   (vd:PySem.W.keepIn K (.ref iG)=true)
   (rS:PySem.W.nsIn K mainGlobals "even_shares"=some (some (.ref gQ)))
   (rV:K.lookup gQ=some ⟨oc_even_shares,od_even_shares,.func (PySem.W.fnOf "even_shares" "even_shares" (aD da) (aA da) (aa da) .none E8 FA FX Fi xH FR),FP⟩)
   (sv:PySem.W.codeIn K xH "even_shares"=true)
   (se:PySem.W.keepIn K (.ref gQ)=true)
   (qe:PySem.W.nsIn K mainGlobals "second_share"=some (some (.ref fH)))
   (qv:K.lookup fH=some ⟨oc_second_share,od_second_share,.func (PySem.W.fnOf "second_share" "second_share" (aD bi) (aA bi) (aa bi) .none Ej Ee Ep DM vz EI),ER⟩)
   (qf:PySem.W.codeIn K vz "second_share"=true)
   (qY:PySem.W.keepIn K (.ref fH)=true)
   (pK:PySem.W.nsIn K mainGlobals "second_shares"=some (some (.ref eT)))
   (oN:K.lookup eT=some ⟨oc_second_shares,od_second_shares,.func (PySem.W.fnOf "second_shares" "second_shares" (aD cq) (aA cq) (aa cq) .none C1 Dl CT DI uf C7),CU⟩)
   (pC:PySem.W.codeIn K uf "second_shares"=true)
   (oZ:PySem.W.keepIn K (.ref eT)=true)
   (Ig:PySem.W.nsIn K mainGlobals "law"=some (some (.ref Oa)))
   (OJ:K.lookup Oa=some ⟨oc_law,od_law,.func (PySem.W.fnOf "law" "law" (aD bQ) (aA bQ) (aa bQ) .none PJ Pi P8 PH Ka Qz),Wj⟩)
   (NA:PySem.W.codeIn K Ka "law"=true)
   (NR:PySem.W.keepIn K (.ref Oa)=true)
   (JV:PySem.W.plainGet K oF Str.empty=true)
   (JZ:PySem.W.hasDictIn K oF=true)
   (JW:PySem.W.plainOver K oF=true)
   (Ky:PySem.W.findIn K (.ref oF) "__setattr__"=some (some (.builtin "object.__setattr__")))
   (JE:PySem.W.makesIn K oF=true)
   (JO:PySem.W.keepIn K (.ref oF)=true)
   (IV:PySem.W.findIn K (.ref oF) "many"=some none)
   (Kb:PySem.W.findIn K (.ref oF) "roads"=some none)
   (z_range:PySem.W.nsIn K mainGlobals "range"=some none)
   (z_zip:PySem.W.nsIn K mainGlobals "zip"=some none)
   (z_len:PySem.W.nsIn K mainGlobals "len"=some none)
   (z_isinstance:PySem.W.nsIn K mainGlobals "isinstance"=some none)
   (z_all:PySem.W.nsIn K mainGlobals "all"=some none)
   (z_any:PySem.W.nsIn K mainGlobals "any"=some none)
   (z_int:PySem.W.nsIn K mainGlobals "int"=some none)
   (z_bool:PySem.W.nsIn K mainGlobals "bool"=some none)
   (z_tuple:PySem.W.nsIn K mainGlobals "tuple"=some none)
   (z_list:PySem.W.nsIn K mainGlobals "list"=some none)
   (z_reversed:PySem.W.nsIn K mainGlobals "reversed"=some none)
   (z_sorted:PySem.W.nsIn K mainGlobals "sorted"=some none)
   (z_min:PySem.W.nsIn K mainGlobals "min"=some none)
   (z_enumerate:PySem.W.nsIn K mainGlobals "enumerate"=some none)
   (z_sum:PySem.W.nsIn K mainGlobals "sum"=some none)
   (z_abs:PySem.W.nsIn K mainGlobals "abs"=some none)
   (v_MOST_PLACES:PySem.W.nsIn K mainGlobals "MOST_PLACES"=some (some (.int 24 t_MOST_PLACES)))
   (v_LEAST_TOLL:PySem.W.nsIn K mainGlobals "LEAST_TOLL"=some (some (.int 2 t_LEAST_TOLL)))
   (v_MOST_TOLL:PySem.W.nsIn K mainGlobals "MOST_TOLL"=some (some (.int 1000000 t_MOST_TOLL)))
   (CH:PySem.W.nsIn K mainGlobals "NOUGHT"=some (some (.ref Dz)))
   (A0:K.lookup Dz=some ⟨.type "tuple",Sn,.seq #[.int 0 PF,.int 1 QJ] Sx,QP⟩)
   (NG:PySem.W.nsIn K mainGlobals "ONE"=some (some (.ref Na)))
   (Kw:K.lookup Na=some ⟨.type "tuple",W7,.seq #[.int 1 WT,.int 1 VW] W2,Xd⟩) :
   ∃ fd:FuncData,(∀ (s:Shared) (v:Value),BindsTo s fd ⟨[v],[]⟩ [("script",v)])/\∀ base:Heap,K.In base->base.Ns mainGlobals mg->FnOk l.prog w K mg base (CXe l.prog w) 12 fa fd ["script"] (Ij K):=by
 have e:=hfa.symm.trans (PySem.W.mg_of X G Ig);cases e
 let T:Txt K mg:=⟨KF,PySem.W.mg_of X G Az,vA,PySem.W.mg_of X G yH,yh,PySem.W.mg_of X G An,oF,PySem.W.mg_of X G KC,My _ _ _ _ _ _ _ _ _ _ _ _ _ _ _ _ yU yc yP yM yI,My _ _ _ _ _ _ _ _ _ _ _ _ _ _ _ _ A1 Bi AJ A5 Ak,PySem.W.mg_none_of X G z_range,PySem.W.mg_none_of X G z_zip,PySem.W.mg_none_of X G z_len,PySem.W.mg_none_of X G z_isinstance,PySem.W.mg_none_of X G z_all,PySem.W.mg_none_of X G z_any,PySem.W.mg_none_of X G z_int,PySem.W.mg_none_of X G z_bool,PySem.W.mg_none_of X G z_tuple,PySem.W.mg_none_of X G z_list,PySem.W.mg_none_of X G z_reversed,PySem.W.mg_none_of X G z_sorted,PySem.W.mg_none_of X G z_min,PySem.W.mg_none_of X G z_enumerate,PySem.W.mg_none_of X G z_sum,PySem.W.mg_none_of X G z_abs,⟨_,PySem.W.mg_of X G v_MOST_PLACES⟩,⟨_,PySem.W.mg_of X G v_LEAST_TOLL⟩,⟨_,PySem.W.mg_of X G v_MOST_TOLL⟩,Dz,PySem.W.mg_of X G CH,Um A0,Na,PySem.W.mg_of X G NG,Um Kw,⟨JV,JZ,JW,Ky⟩,IV,Kb⟩
 have F_check_counts:=aK (st:=bM) qP qr qT;have b_check_counts:=F_check_counts.binds (ps:=["many","roads"]) fun _ _ _ _ _ _ us hl=>by obtain ⟨u0,u1,rfl⟩:=us2 hl;rfl
 have im:Df K mg "check_counts" bM ["many","roads"] fF _:=⟨F_check_counts,PySem.W.mg_of X G qh,b_check_counts⟩;have F_is_place:=aK (st:=eK) y3 zf yX;have b_is_place:=F_is_place.binds (ps:=["many","number"]) fun _ _ _ _ _ _ us hl=>by obtain ⟨u0,u1,rfl⟩:=us2 hl;rfl
 have dj:Df K mg "is_place" eK ["many","number"] fS _:=⟨F_is_place,PySem.W.mg_of X G yg,b_is_place⟩;have F_check_ends:=aK (st:=cZ) uN uk uZ;have b_check_ends:=F_check_ends.binds (ps:=["many","road"]) fun _ _ _ _ _ _ us hl=>by obtain ⟨u0,u1,rfl⟩:=us2 hl;rfl
 have jN:Df K mg "check_ends" cZ ["many","road"] iB _:=⟨F_check_ends,PySem.W.mg_of X G uh,b_check_ends⟩;have F_other_ends:=aK (st:=cD) uy u8 ul;have b_other_ends:=F_other_ends.binds (ps:=["roads","place"]) fun _ _ _ _ _ _ us hl=>by obtain ⟨u0,u1,rfl⟩:=us2 hl;rfl
 have dy:Df K mg "other_ends" cD ["roads","place"] dY _:=⟨F_other_ends,PySem.W.mg_of X G ue,b_other_ends⟩;have F_check_joined:=aK (st:=ba) qX qm qL;have b_check_joined:=F_check_joined.binds (ps:=["many","roads"]) fun _ _ _ _ _ _ us hl=>by obtain ⟨u0,u1,rfl⟩:=us2 hl;rfl
 have ik:Df K mg "check_joined" ba ["many","roads"] fJ _:=⟨F_check_joined,PySem.W.mg_of X G qN,b_check_joined⟩;have F_check_tolls:=aK (st:=cg) sA rT sF;have b_check_tolls:=F_check_tolls.binds (ps:=["road"]) fun _ _ _ _ _ _ us hl=>by obtain ⟨u0,rfl⟩:=us1 hl;rfl
 have iU:Df K mg "check_tolls" cg ["road"] gM _:=⟨F_check_tolls,PySem.W.mg_of X G sK,b_check_tolls⟩;have F_Web___init__:=aK (st:=aZ) qg qA qO;have b_Web:=F_Web___init__.binds (ps:=["self","many","roads"]) fun _ _ _ _ _ _ us hl=>by obtain ⟨u0,u1,u2,rfl⟩:=us3 hl;rfl
 have F_law_tolls:=aK (st:=cM) wW wQ wA;have b_law_tolls:=F_law_tolls.binds (ps:=["roads"]) fun _ _ _ _ _ _ us hl=>by obtain ⟨u0,rfl⟩:=us1 hl;rfl
 have kF:Df K mg "_law_tolls" cM ["roads"] jD _:=⟨F_law_tolls,PySem.W.mg_of X G wz,b_law_tolls⟩;have F_law_divided:=aK (st:=bE) rX rZ sC;have b_law_divided:=F_law_divided.binds (ps:=["shares","prices"]) fun _ _ _ _ _ _ us hl=>by obtain ⟨u0,u1,rfl⟩:=us2 hl;rfl
 have bD:Df K mg "_law_divided" bE ["shares","prices"] gR _:=⟨F_law_divided,PySem.W.mg_of X G sI,b_law_divided⟩;have F_law_beside:=aK (st:=cH) tZ tW uJ;have b_law_beside:=F_law_beside.binds (ps:=["many","tolls","place"]) fun _ _ _ _ _ _ us hl=>by obtain ⟨u0,u1,u2,rfl⟩:=us3 hl;rfl
 have jY:Df K mg "_law_beside" cH ["many","tolls","place"] iE _:=⟨F_law_beside,PySem.W.mg_of X G uD,b_law_beside⟩;have F_law_ahead:=aK (st:=bK) wg wP wM;have b_law_ahead:=F_law_ahead.binds (ps:=["many","tolls","r"]) fun _ _ _ _ _ _ us hl=>by obtain ⟨u0,u1,u2,rfl⟩:=us3 hl;rfl
 have kE:Df K mg "_law_ahead" bK ["many","tolls","r"] jA _:=⟨F_law_ahead,PySem.W.mg_of X G wU,b_law_ahead⟩;have F_law_prices:=aK (st:=aY) ve vo uT;have b_law_prices:=F_law_prices.binds (ps:=["many","tolls","v","to"]) fun _ _ _ _ _ _ us hl=>by obtain ⟨u0,u1,u2,u3,rfl⟩:=us4 hl;rfl
 have eU:Df K mg "_law_prices" aY ["many","tolls","v","to"] iy _:=⟨F_law_prices,PySem.W.mg_of X G uw,b_law_prices⟩;have F_law_due:=aK (st:=bF) A4 Ax Aq;have b_law_due:=F_law_due.binds (ps:=["many","tolls","shares","second"]) fun _ _ _ _ _ _ us hl=>by obtain ⟨u0,u1,u2,u3,rfl⟩:=us4 hl;rfl
 have on:Df K mg "_law_due" bF ["many","tolls","shares","second"] lz _:=⟨F_law_due,PySem.W.mg_of X G AB,b_law_due⟩;have F_less:=aK (st:=lU) IH KG KA;have b_less:=F_less.binds (ps:=["one","two"]) fun _ _ _ _ _ _ us hl=>by obtain ⟨u0,u1,rfl⟩:=us2 hl;rfl
 have jk:Df K mg "less" lU ["one","two"] mF _:=⟨F_less,PySem.W.mg_of X G K3,b_less⟩;have F_is_below:=aK (st:=eL) yk yL zh;have b_is_below:=F_is_below.binds (ps:=["share"]) fun _ _ _ _ _ _ us hl=>by obtain ⟨u0,rfl⟩:=us1 hl;rfl
 have mi:Df K mg "is_below" eL ["share"] j9 _:=⟨F_is_below,PySem.W.mg_of X G yK,b_is_below⟩;have F_are_sound:=aK (st:=dC) wv wR we;have b_are_sound:=F_are_sound.binds (ps:=["web","shares"]) fun _ _ _ _ _ _ us hl=>by obtain ⟨u0,u1,rfl⟩:=us2 hl;rfl
 have fQ:Df K mg "are_sound" dC ["web","shares"] jw _:=⟨F_are_sound,PySem.W.mg_of X G wx,b_are_sound⟩;have F_common_divisor:=aK (st:=bq) nJ m5 mY;have b_common_divisor:=F_common_divisor.binds (ps:=["one","two"]) fun _ _ _ _ _ _ us hl=>by obtain ⟨u0,u1,rfl⟩:=us2 hl;rfl
 have bT:Df K mg "common_divisor" bq ["one","two"] cA _:=⟨F_common_divisor,PySem.W.mg_of X G ng,b_common_divisor⟩;have F_fraction:=aK (st:=dh) yE zb yj;have b_fraction:=F_fraction.binds (ps:=["top","bottom"]) fun _ _ _ _ _ _ us hl=>by obtain ⟨u0,u1,rfl⟩:=us2 hl;rfl
 have cC:Df K mg "fraction" dh ["top","bottom"] dI _:=⟨F_fraction,PySem.W.mg_of X G zi,b_fraction⟩;have F_sum_up:=aK (st:=cY) Dv Dq Dt;have b_sum_up:=F_sum_up.binds (ps:=["some"]) fun _ _ _ _ _ _ us hl=>by obtain ⟨u0,rfl⟩:=us1 hl;rfl
 have be:Df K mg "sum_up" cY ["some"] cW _:=⟨F_sum_up,PySem.W.mg_of X G De,b_sum_up⟩;have F_divided_up:=aK (st:=cI) u6 vq tT;have b_divided_up:=F_divided_up.binds (ps:=["shares","prices"]) fun _ _ _ _ _ _ us hl=>by obtain ⟨u0,u1,rfl⟩:=us2 hl;rfl
 have dA:Df K mg "divided_up" cI ["shares","prices"] dX _:=⟨F_divided_up,PySem.W.mg_of X G vb,b_divided_up⟩;have F_check_place:=aK (st:=bO) sx sy rR;have b_check_place:=F_check_place.binds (ps:=["web","number"]) fun _ _ _ _ _ _ us hl=>by obtain ⟨u0,u1,rfl⟩:=us2 hl;rfl
 have aV:Df K mg "check_place" bO ["web","number"] ci _:=⟨F_check_place,PySem.W.mg_of X G sk,b_check_place⟩;have F_neighbours:=aK (st:=bU) uR uA ua;have b_neighbours:=F_neighbours.binds (ps:=["web","a"]) fun _ _ _ _ _ _ us hl=>by obtain ⟨u0,u1,rfl⟩:=us2 hl;rfl
 have bG:Df K mg "neighbours" bU ["web","a"] cG _:=⟨F_neighbours,PySem.W.mg_of X G tY,b_neighbours⟩;have F_kids:=aK (st:=ji) Km Kd KI;have b_kids:=F_kids.binds (ps:=["web","place","front"]) fun _ _ _ _ _ _ us hl=>by obtain ⟨u0,u1,u2,rfl⟩:=us3 hl;rfl
 have lB:Df K mg "kids" ji ["web","place","front"] mK _:=⟨F_kids,PySem.W.mg_of X G Ip,b_kids⟩;have F_ahead:=aK (st:=dS) FT FJ Fk;have b_ahead:=F_ahead.binds (ps:=["web","r"]) fun _ _ _ _ _ _ us hl=>by obtain ⟨u0,u1,rfl⟩:=us2 hl;rfl
 have j2:Df K mg "ahead" dS ["web","r"] kI _:=⟨F_ahead,PySem.W.mg_of X G E9,b_ahead⟩;have F_down:=aK (st:=fy) K7 Jp IL;have b_down:=F_down.binds (ps:=["web","r"]) fun _ _ _ _ _ _ us hl=>by obtain ⟨u0,u1,rfl⟩:=us2 hl;rfl
 have xV:Df K mg "down" fy ["web","r"] uW _:=⟨F_down,PySem.W.mg_of X G Ku,b_down⟩;have F_inward:=aK (st:=dJ) DH DJ C4;have b_inward:=F_inward.binds (ps:=["web","r"]) fun _ _ _ _ _ _ us hl=>by obtain ⟨u0,u1,rfl⟩:=us2 hl;rfl
 have iI:Df K mg "inward" dJ ["web","r"] jE _:=⟨F_inward,PySem.W.mg_of X G Di,b_inward⟩;have F_toll:=aK (st:=eh) J0 K5 Im;have b_toll:=F_toll.binds (ps:=["web","a","b"]) fun _ _ _ _ _ _ us hl=>by obtain ⟨u0,u1,u2,rfl⟩:=us3 hl;rfl
 have cK:Df K mg "toll" eh ["web","a","b"] gS _:=⟨F_toll,PySem.W.mg_of X G JA,b_toll⟩;have F_prices_to:=aK (st:=ce) wH wb vW;have b_prices_to:=F_prices_to.binds (ps:=["web","v"]) fun _ _ _ _ _ _ us hl=>by obtain ⟨u0,u1,rfl⟩:=us2 hl;rfl
 have kJ:Df K mg "prices_to" ce ["web","v"] jF _:=⟨F_prices_to,PySem.W.mg_of X G vU,b_prices_to⟩;have F_worth:=aK (st:=ir) FS Fa F2;have b_worth:=F_worth.binds (ps:=["web","shares","v"]) fun _ _ _ _ _ _ us hl=>by obtain ⟨u0,u1,u2,rfl⟩:=us3 hl;rfl
 have tM:Df K mg "worth" ir ["web","shares","v"] qJ _:=⟨F_worth,PySem.W.mg_of X G Fg,b_worth⟩;have F_prices_from:=aK (st:=bu) sj sJ rY;have b_prices_from:=F_prices_from.binds (ps:=["web","u"]) fun _ _ _ _ _ _ us hl=>by obtain ⟨u0,u1,rfl⟩:=us2 hl;rfl
 have iR:Df K mg "prices_from" bu ["web","u"] gN _:=⟨F_prices_from,PySem.W.mg_of X G rM,b_prices_from⟩;have F_yields:=aK (st:=fN) Db CJ CY;have b_yields:=F_yields.binds (ps:=["web","shares","u"]) fun _ _ _ _ _ _ us hl=>by obtain ⟨u0,u1,u2,rfl⟩:=us3 hl;rfl
 have qR:Df K mg "yields" fN ["web","shares","u"] nA _:=⟨F_yields,PySem.W.mg_of X G CV,b_yields⟩;have F_shows_fairest:=aK (st:=aR) oJ pI pJ;have b_shows_fairest:=F_shows_fairest.binds (ps:=["web","shares","second"]) fun _ _ _ _ _ _ us hl=>by obtain ⟨u0,u1,u2,rfl⟩:=us3 hl;rfl
 have bP:Df K mg "shows_fairest" aR ["web","shares","second"] eE _:=⟨F_shows_fairest,PySem.W.mg_of X G pE,b_shows_fairest⟩;have F_law_asked_good:=aK (st:=aH) nF nR nC;have b_law_asked_good:=F_law_asked_good.binds (ps:=["web","tolls","shares","second","turn"]) fun _ _ _ _ _ _ us hl=>by obtain ⟨u0,u1,u2,u3,u4,rfl⟩:=us5 hl;rfl
 have cX:Df K mg "_law_asked_good" aH ["web","tolls","shares","second","turn"] d7 _:=⟨F_law_asked_good,PySem.W.mg_of X G nI,b_law_asked_good⟩;have F_law_cell:=aK (st:=d5) yt yB yz;have b_law_cell:=F_law_cell.binds (ps:=["script","k"]) fun _ _ _ _ _ _ us hl=>by obtain ⟨u0,u1,rfl⟩:=us2 hl;rfl
 have eR:Df K mg "_law_cell" d5 ["script","k"] fT _:=⟨F_law_cell,PySem.W.mg_of X G yi,b_law_cell⟩;have F_law_part:=aK (st:=eM) yq yS y4;have b_law_part:=F_law_part.binds (ps:=["one","other"]) fun _ _ _ _ _ _ us hl=>by obtain ⟨u0,u1,rfl⟩:=us2 hl;rfl
 have mh:Df K mg "_law_part" eM ["one","other"] kf _:=⟨F_law_part,PySem.W.mg_of X G yR,b_law_part⟩;have F_law_fraction:=aK (st:=br) qp qC qE;have b_law_fraction:=F_law_fraction.binds (ps:=["top","bottom"]) fun _ _ _ _ _ _ us hl=>by obtain ⟨u0,u1,rfl⟩:=us2 hl;rfl
 have bh:Df K mg "_law_fraction" br ["top","bottom"] bN _:=⟨F_law_fraction,PySem.W.mg_of X G qw,b_law_fraction⟩;have F_law_added:=aK (st:=dB) wu wE wm;have b_law_added:=F_law_added.binds (ps:=["one","two"]) fun _ _ _ _ _ _ us hl=>by obtain ⟨u0,u1,rfl⟩:=us2 hl;rfl
 have bn:Df K mg "_law_added" dB ["one","two"] eC _:=⟨F_law_added,PySem.W.mg_of X G wj,b_law_added⟩;have F_law_led:=aK (st:=dQ) AL A3 Bm;have b_law_led:=F_law_led.binds (ps:=["shares","middle","part"]) fun _ _ _ _ _ _ us hl=>by obtain ⟨u0,u1,u2,rfl⟩:=us3 hl;rfl
 have oh:Df K mg "_law_led" dQ ["shares","middle","part"] lK _:=⟨F_law_led,PySem.W.mg_of X G A2,b_law_led⟩;have F_law_scaled:=aK (st:=dz) u7 uV uQ;have b_law_scaled:=F_law_scaled.binds (ps:=["shares","by"]) fun _ _ _ _ _ _ us hl=>by obtain ⟨u0,u1,rfl⟩:=us2 hl;rfl
 have eO:Df K mg "_law_scaled" dz ["shares","by"] iw _:=⟨F_law_scaled,PySem.W.mg_of X G tR,b_law_scaled⟩;have F_law_take:=aK (st:=cU) yx zn yN;have b_law_take:=F_law_take.binds (ps:=["pot","n"]) fun _ _ _ _ _ _ us hl=>by obtain ⟨u0,u1,rfl⟩:=us2 hl;rfl
 have au:Df K mg "_law_take" cU ["pot","n"] bJ _:=⟨F_law_take,PySem.W.mg_of X G yo,b_law_take⟩;have F_law_drawn:=aK (st:=cw) ww wV wy;have b_law_drawn:=F_law_drawn.binds (ps:=["pot","great"]) fun _ _ _ _ _ _ us hl=>by obtain ⟨u0,u1,rfl⟩:=us2 hl;rfl
 have kC:Df K mg "_law_drawn" cw ["pot","great"] jB _:=⟨F_law_drawn,PySem.W.mg_of X G wf,b_law_drawn⟩;have F_law_turned:=aK (st:=aQ) vf uL um;have b_law_turned:=F_law_turned.binds (ps:=["shares","kind","pot"]) fun _ _ _ _ _ _ us hl=>by obtain ⟨u0,u1,u2,rfl⟩:=us3 hl;rfl
 have eN:Df K mg "_law_turned" aQ ["shares","kind","pot"] iJ _:=⟨F_law_turned,PySem.W.mg_of X G uq,b_law_turned⟩;have F_law_otherwise:=aK (st:=aX) o7 oV oI;have b_law_otherwise:=F_law_otherwise.binds (ps:=["shares","second","pot"]) fun _ _ _ _ _ _ us hl=>by obtain ⟨u0,u1,u2,rfl⟩:=us3 hl;rfl
 have gC:Df K mg "_law_otherwise" aX ["shares","second","pot"] eV _:=⟨F_law_otherwise,PySem.W.mg_of X G pL,b_law_otherwise⟩;have F_law_stir:=aK (st:=d3) yd yn ze;have b_law_stir:=F_law_stir.binds (ps:=["cell","k"]) fun _ _ _ _ _ _ us hl=>by obtain ⟨u0,u1,rfl⟩:=us2 hl;rfl
 have di:Df K mg "_law_stir" d3 ["cell","k"] fW _:=⟨F_law_stir,PySem.W.mg_of X G ye,b_law_stir⟩;have F_law_cells:=aK (st:=cz) vZ wK wO;have b_law_cells:=F_law_cells.binds (ps:=["script","many"]) fun _ _ _ _ _ _ us hl=>by obtain ⟨u0,u1,rfl⟩:=us2 hl;rfl
 have kG:Df K mg "_law_cells" cz ["script","many"] jC _:=⟨F_law_cells,PySem.W.mg_of X G wD,b_law_cells⟩;have F_law_toll:=aK (st:=d4) zj yO yT;have b_law_toll:=F_law_toll.binds (ps:=["pot","small"]) fun _ _ _ _ _ _ us hl=>by obtain ⟨u0,u1,rfl⟩:=us2 hl;rfl
 have ig:Df K mg "_law_toll" d4 ["pot","small"] kg _:=⟨F_law_toll,PySem.W.mg_of X G zd,b_law_toll⟩;have F_law_roads:=aK (st:=aN) vV wn vY;have b_law_roads:=F_law_roads.binds (ps:=["cells","first"]) fun _ _ _ _ _ _ us hl=>by obtain ⟨u0,u1,rfl⟩:=us2 hl;rfl
 have kK:Df K mg "_law_roads" aN ["cells","first"] jt _:=⟨F_law_roads,PySem.W.mg_of X G wo,b_law_roads⟩;have F_law_web:=aK (st:=dg) Ag AW Am;have b_law_web:=F_law_web.binds (ps:=["script","sizes"]) fun _ _ _ _ _ _ us hl=>by obtain ⟨u0,u1,rfl⟩:=us2 hl;rfl
 have ou:Df K mg "_law_web" dg ["script","sizes"] lA _:=⟨F_law_web,PySem.W.mg_of X G AA,b_law_web⟩;have F_plus:=aK (st:=lC) Jo Jw JF;have b_plus:=F_plus.binds (ps:=["one","two"]) fun _ _ _ _ _ _ us hl=>by obtain ⟨u0,u1,rfl⟩:=us2 hl;rfl
 have xO:Df K mg "plus" lC ["one","two"] tU _:=⟨F_plus,PySem.W.mg_of X G JM,b_plus⟩;have F_minus:=aK (st:=iZ) E7 Ff Fn;have b_minus:=F_minus.binds (ps:=["one","two"]) fun _ _ _ _ _ _ us hl=>by obtain ⟨u0,u1,rfl⟩:=us2 hl;rfl
 have jR:Df K mg "minus" iZ ["one","two"] kD _:=⟨F_minus,PySem.W.mg_of X G F3,b_minus⟩;have F_road_part:=aK (st:=dE) wS wI wC;have b_road_part:=F_road_part.binds (ps:=["one","other"]) fun _ _ _ _ _ _ us hl=>by obtain ⟨u0,u1,rfl⟩:=us2 hl;rfl
 have dW:Df K mg "road_part" dE ["one","other"] eD _:=⟨F_road_part,PySem.W.mg_of X G wk,b_road_part⟩;have F_even_share:=aK (st:=bH) uP uv vd;have b_even_share:=F_even_share.binds (ps:=["web","place"]) fun _ _ _ _ _ _ us hl=>by obtain ⟨u0,u1,rfl⟩:=us2 hl;rfl
 have j1:Df K mg "even_share" bH ["web","place"] iG _:=⟨F_even_share,PySem.W.mg_of X G va,b_even_share⟩;have F_even_shares:=aK (st:=da) rV sv se;have b_even_shares:=F_even_shares.binds (ps:=["web"]) fun _ _ _ _ _ _ us hl=>by obtain ⟨u0,rfl⟩:=us1 hl;rfl
 have iX:Df K mg "even_shares" da ["web"] gQ _:=⟨F_even_shares,PySem.W.mg_of X G rS,b_even_shares⟩;have F_second_share:=aK (st:=bi) qv qf qY;have b_second_share:=F_second_share.binds (ps:=["web","place"]) fun _ _ _ _ _ _ us hl=>by obtain ⟨u0,u1,rfl⟩:=us2 hl;rfl
 have ip:Df K mg "second_share" bi ["web","place"] fH _:=⟨F_second_share,PySem.W.mg_of X G qe,b_second_share⟩;have F_second_shares:=aK (st:=cq) oN pC oZ;have b_second_shares:=F_second_shares.binds (ps:=["web"]) fun _ _ _ _ _ _ us hl=>by obtain ⟨u0,rfl⟩:=us1 hl;rfl
 have gF:Df K mg "second_shares" cq ["web"] eT _:=⟨F_second_shares,PySem.W.mg_of X G pK,b_second_shares⟩;have F_law:=aK (st:=bQ) OJ NA NR;have b_law:=F_law.binds (ps:=["script"]) fun _ _ _ _ _ _ us hl=>by obtain ⟨u0,rfl⟩:=us1 hl;rfl
 have W4:Df K mg "law" bQ ["script"] fa _:=⟨F_law,PySem.W.mg_of X G Ig,b_law⟩;refine ⟨PySem.W.fnOf "law" "law" (aD bQ) (aA bQ) (aa bQ) .none PJ Pi P8 PH Ka Qz,fun s v=>.of_eq rfl,fun base _ _=>?_⟩;have O2:Mk K T.Web f_Web___init__:=⟨JE,qZ,qD,JO⟩;have G_check_counts:=DW (P:=l.prog) (w:=w) (base:=base) T aJ im;have G_is_place:=LX (P:=l.prog) (w:=w) (base:=base) T aJ dj;have G_check_ends:=GS (P:=l.prog) (w:=w) (base:=base) T aJ jN dj G_is_place;have G_other_ends:=GC (P:=l.prog) (w:=w) (base:=base) T aJ dy;have G_check_joined:=Ed (P:=l.prog) (w:=w) (base:=base) T aJ ik dy G_other_ends;have G_check_tolls:=FG (P:=l.prog) (w:=w) (base:=base) T aJ iU;have G_Web_init:=D8 (P:=l.prog) (w:=w) (base:=base) T aJ F_Web___init__ im G_check_counts jN G_check_ends ik G_check_joined iU G_check_tolls;have G_law_tolls:=Jn (P:=l.prog) (w:=w) (base:=base) T aJ kF;have G_law_divided:=Fq (P:=l.prog) (w:=w) (base:=base) T aJ bD;have G_law_beside:=He (P:=l.prog) (w:=w) (base:=base) T aJ jY;have G_law_ahead:=JP (P:=l.prog) (w:=w) (base:=base) T aJ kE jY G_law_beside;have G_law_prices:=Hf (P:=l.prog) (w:=w) (base:=base) T aJ eU kE G_law_ahead;have G_law_due:=Nz (P:=l.prog) (w:=w) (base:=base) T aJ on bD G_law_divided eU G_law_prices;have G_less:=UK (P:=l.prog) (w:=w) (base:=base) T aJ jk;have G_is_below:=LQ (P:=l.prog) (w:=w) (base:=base) T aJ mi jk G_less;have G_are_sound:=Jz (P:=l.prog) (w:=w) (base:=base) T aJ fQ mi G_is_below;have G_common_divisor:=Ca (P:=l.prog) (w:=w) (base:=base) T aJ bT;have G_fraction:=LR (P:=l.prog) (w:=w) (base:=base) T aJ cC bT G_common_divisor;have G_sum_up:=Qd (P:=l.prog) (w:=w) (base:=base) T aJ be bT G_common_divisor cC G_fraction;have G_divided_up:=HF (P:=l.prog) (w:=w) (base:=base) T aJ dA cC G_fraction be G_sum_up;have G_check_place:=FH (P:=l.prog) (w:=w) (base:=base) T aJ aV dj G_is_place;have G_neighbours:=HK (P:=l.prog) (w:=w) (base:=base) T aJ bG aV G_check_place dy G_other_ends;have G_kids:=U7 (P:=l.prog) (w:=w) (base:=base) T aJ lB bG G_neighbours;have G_ahead:=SJ (P:=l.prog) (w:=w) (base:=base) T aJ j2 aV G_check_place lB G_kids;have G_down:=Up (P:=l.prog) (w:=w) (base:=base) T aJ xV j2 G_ahead lB G_kids;have G_inward:=Py (P:=l.prog) (w:=w) (base:=base) T aJ iI j2 G_ahead xV G_down;have G_toll:=VA (P:=l.prog) (w:=w) (base:=base) T aJ cK aV G_check_place;have G_prices_to:=J6 (P:=l.prog) (w:=w) (base:=base) T aJ kJ iI G_inward cK G_toll;have G_worth:=Q4 (P:=l.prog) (w:=w) (base:=base) T aJ tM dA G_divided_up kJ G_prices_to;have G_prices_from:=Fj (P:=l.prog) (w:=w) (base:=base) T aJ iR iI G_inward cK G_toll;have G_yields:=PL (P:=l.prog) (w:=w) (base:=base) T aJ qR dA G_divided_up iR G_prices_from;have G_shows_fairest:=Dn (P:=l.prog) (w:=w) (base:=base) T aJ bP fQ G_are_sound jk G_less be G_sum_up tM G_worth qR G_yields;have G_law_asked_good:=B3 (P:=l.prog) (w:=w) (base:=base) T aJ cX on G_law_due bP G_shows_fairest;have G_law_cell:=Lj (P:=l.prog) (w:=w) (base:=base) T aJ eR;have G_law_part:=LN (P:=l.prog) (w:=w) (base:=base) T aJ mh;have G_law_fraction:=Ek (P:=l.prog) (w:=w) (base:=base) T aJ bh mh G_law_part;have G_law_added:=KD (P:=l.prog) (w:=w) (base:=base) T aJ bn bh G_law_fraction;have G_law_led:=MW (P:=l.prog) (w:=w) (base:=base) T aJ oh bn G_law_added;have G_law_scaled:=GL (P:=l.prog) (w:=w) (base:=base) T aJ eO bh G_law_fraction;have G_law_take:=LW (P:=l.prog) (w:=w) (base:=base) T aJ au;have G_law_drawn:=Ja (P:=l.prog) (w:=w) (base:=base) T aJ kC bh G_law_fraction au G_law_take;have G_law_turned:=Hl (P:=l.prog) (w:=w) (base:=base) T aJ eN bn G_law_added kC G_law_drawn au G_law_take;have G_law_otherwise:=DD (P:=l.prog) (w:=w) (base:=base) T aJ gC eO G_law_scaled au G_law_take eN G_law_turned;have G_law_stir:=Ml (P:=l.prog) (w:=w) (base:=base) T aJ di;have G_law_cells:=KO (P:=l.prog) (w:=w) (base:=base) T aJ kG;have G_law_toll:=L8 (P:=l.prog) (w:=w) (base:=base) T aJ ig au G_law_take;have G_law_roads:=KQ (P:=l.prog) (w:=w) (base:=base) T aJ kK di G_law_stir au G_law_take ig G_law_toll;have G_law_web:=Ny (P:=l.prog) (w:=w) (base:=base) T aJ ou eR G_law_cell kG G_law_cells kK G_law_roads;have G_plus:=US (P:=l.prog) (w:=w) (base:=base) T aJ xO be G_sum_up;have G_minus:=Tf (P:=l.prog) (w:=w) (base:=base) T aJ jR xO G_plus;have G_road_part:=JQ (P:=l.prog) (w:=w) (base:=base) T aJ dW cC G_fraction;have G_even_share:=Ha (P:=l.prog) (w:=w) (base:=base) T aJ j1 jR G_minus bG G_neighbours dW G_road_part be G_sum_up cK G_toll;have G_even_shares:=FU (P:=l.prog) (w:=w) (base:=base) T aJ iX j1 G_even_share;have G_second_share:=DQ (P:=l.prog) (w:=w) (base:=base) T aJ ip jR G_minus bG G_neighbours dW G_road_part be G_sum_up cK G_toll;have G_second_shares:=Dc (P:=l.prog) (w:=w) (base:=base) T aJ gF ip G_second_share;have G_law:=Wl (P:=l.prog) (w:=w) (base:=base) T aJ W4 F_Web___init__ b_Web O2 G_Web_init cX G_law_asked_good eR G_law_cell oh G_law_led gC G_law_otherwise di G_law_stir kF G_law_tolls ou G_law_web iX G_even_shares gF G_second_shares;exact G_law
theorem walk {l:PySem.W.OpenLaw} {q:Program} {loose:List Str} {XP:(Str->Option Value)->Heap->Prop} {YP:World->Heap->Prop} {d:DefRec} {K:Params->PySem.W.Frag} (hn:l.most=some 63) (hdf:d.params.defaults=[])
   (hY:∀ (w:World) (h:Heap),YP w h->(K w.params).In h)
   (F:∀ (w:World) (mg:Str->Option Value) (fa:Addr) (h:Heap),(K w.params).In h->h.Ns mainGlobals mg->mg d.name=some (.ref fa) ->
     ∃ fd:FuncData,(∀ (s:Shared) (u:Value),BindsTo s fd ⟨[u],[]⟩ [("script",u)])/\∀ base:Heap,(K w.params).In base->base.Ns mainGlobals mg->FnOk l.prog w (K w.params) mg base (CXe l.prog w) 12 fa fd ["script"] (Ij (K w.params))) :
   PySem.W.WalkO q loose XP YP l.row.toRowW d [] (fun f vs=>PySem.call f vs) :=
 L2.walk_of (n:=63) (k:=12) (x:="script") (CX:=fun w=>(CXe l.prog w)) (sp:=fun w=>Ij (K w.params)) hn (by decide) hdf ⟨rfl,by decide,by decide⟩ hY F (fun _ _ a ns hl _ hS=>⟨a,ns,rfl,hS,hl,fun _=>rfl⟩) fun _ _ _ _ _ z=>aJ _ _ _ _ _ z
end Pk
open PySem PySem.W PyProof.Rows
set_option maxRecDepth 100000 in
set_option maxHeartbeats 0 in
theorem PySem.Challenge.cw_pebbletoll_k54_papers_of_fairest_holds : PySem.Challenge.rw_pebbletoll_k54_papers_of_fairest.Holds := by
 w_on;o_law
 refine PySem.W.holds_open (q:=Hd.qq) (loose:=[]) (Xt:=(fun s=>PySem.W.xlAt Hd.qq [] s && PySem.W.recOk (PySem.W.RowW.records (PySem.W.OpenRow.toRowW (PySem.Challenge.rw_pebbletoll_k54_papers_of_fairest).row)) s)) (XP:=PySem.W.XL Hd.qq []) (Yf:=PySem.W.Hook.obs (PySem.W.kHook Hd.KK Hd.asK Hd.asK_eq)) (Ya:=PySem.W.Hook.val (PySem.W.kHook Hd.KK Hd.asK Hd.asK_eq)) (YP:=PySem.W.Hook.says (PySem.W.kHook Hd.KK Hd.asK Hd.asK_eq)) (N:=5820) Hd.left (PySem.W.Hook.of (PySem.W.kHook Hd.KK Hd.asK Hd.asK_eq)) (PySem.W.Hook.keeps (PySem.W.kHook Hd.KK Hd.asK Hd.asK_eq)) (fun s e=>PySem.W.xl_of s (Bool.and_eq_true_iff.mp e).1) PySem.W.XL.keeps (by rfl) (by rfl) (by rfl) (fun s e=>PySem.W.recFacts_of (Bool.and_eq_true_iff.mp e).2) (by rfl) (by assumption) (by decide +kernel) ⟨rfl,rfl,rfl,rfl,rfl,by decide +kernel⟩ ?hw ?hc
 (case hw=>w_witness2)
 k_fill
 refine Pk.walk (l:=PySem.Challenge.rw_pebbletoll_k54_papers_of_fairest) rfl rfl (fun w h Y=>PySem.W.kIn_of Y) ?F
 case F =>
   intro w mg fa h KX G hmg;refine' Pk.all_mk KX G hmg ?Az ?yH ?An ?KC ?yU ?yc ?yP ?yM ?yI ?A1 ?Bi ?AJ ?A5 ?Ak ?qh ?qP ?qr ?qT ?yg ?y3 ?zf ?yX ?uh ?uN ?uk ?uZ ?ue ?uy ?u8 ?ul ?qN ?qX ?qm ?qL ?sK ?sA ?rT ?sF ?qZ ?qD ?qg ?qA ?qO ?wz ?wW ?wQ ?wA ?sI ?rX ?rZ ?sC ?uD ?tZ ?tW ?uJ ?wU ?wg ?wP ?wM ?uw ?ve ?vo ?uT ?AB ?A4 ?Ax ?Aq ?K3 ?IH ?KG ?KA ?yK ?yk ?yL ?zh ?wx ?wv ?wR ?we ?ng ?nJ ?m5 ?mY ?zi ?yE ?zb ?yj ?De ?Dv ?Dq ?Dt ?vb ?u6 ?vq ?tT ?sk ?sx ?sy ?rR ?tY ?uR ?uA ?ua ?Ip ?Km ?Kd ?KI ?E9 ?FT ?FJ ?Fk ?Ku ?K7 ?Jp ?IL ?Di ?DH ?DJ ?C4 ?JA ?J0 ?K5 ?Im ?vU ?wH ?wb ?vW ?Fg ?FS ?Fa ?F2 ?rM ?sj ?sJ ?rY ?CV ?Db ?CJ ?CY ?pE ?oJ ?pI ?pJ ?nI ?nF ?nR ?nC ?yi ?yt ?yB ?yz ?yR ?yq ?yS ?y4 ?qw ?qp ?qC ?qE ?wj ?wu ?wE ?wm ?A2 ?AL ?A3 ?Bm ?tR ?u7 ?uV ?uQ ?yo ?yx ?zn ?yN ?wf ?ww ?wV ?wy ?uq ?vf ?uL ?um ?pL ?o7 ?oV ?oI ?ye ?yd ?yn ?ze ?wD ?vZ ?wK ?wO ?zd ?zj ?yO ?yT ?wo ?vV ?wn ?vY ?AA ?Ag ?AW ?Am ?JM ?Jo ?Jw ?JF ?F3 ?E7 ?Ff ?Fn ?wk ?wS ?wI ?wC ?va ?uP ?uv ?vd ?rS ?rV ?sv ?se ?qe ?qv ?qf ?qY ?pK ?oN ?pC ?oZ ?Ig ?OJ ?NA ?NR ?JV ?JZ ?JW ?Ky ?JE ?JO ?IV ?Kb ?z_range ?z_zip ?z_len ?z_isinstance ?z_all ?z_any ?z_int ?z_bool ?z_tuple ?z_list ?z_reversed ?z_sorted ?z_min ?z_enumerate ?z_sum ?z_abs ?v_MOST_PLACES ?v_LEAST_TOLL ?v_MOST_TOLL ?CH ?A0 ?NG ?Kw
   (case Az=>k_is)
   (case yH=>k_is)
   (case An=>k_is)
   (case KC=>k_is)
   (case yU=>k_is)
   (case yc=>rfl)
   (case yP=>kernel_rfl)
   (case yM=>k_is)
   (case yI=>kernel_rfl)
   (case A1=>k_is)
   (case Bi=>rfl)
   (case AJ=>kernel_rfl)
   (case A5=>k_is)
   (case Ak=>kernel_rfl)
   (case qh=>k_is)
   (case qP=>k_is)
   (case qr=>k_is)
   (case qT=>k_is)
   (case yg=>k_is)
   (case y3=>k_is)
   (case zf=>k_is)
   (case yX=>k_is)
   (case uh=>k_is)
   (case uN=>k_is)
   (case uk=>k_is)
   (case uZ=>k_is)
   (case ue=>k_is)
   (case uy=>k_is)
   (case u8=>k_is)
   (case ul=>k_is)
   (case qN=>k_is)
   (case qX=>k_is)
   (case qm=>k_is)
   (case qL=>k_is)
   (case sK=>k_is)
   (case sA=>k_is)
   (case rT=>k_is)
   (case sF=>k_is)
   (case qZ=>k_is)
   (case qD=>k_is)
   (case qg=>k_is)
   (case qA=>k_is)
   (case qO=>k_is)
   (case wz=>k_is)
   (case wW=>k_is)
   (case wQ=>k_is)
   (case wA=>k_is)
   (case sI=>k_is)
   (case rX=>k_is)
   (case rZ=>k_is)
   (case sC=>k_is)
   (case uD=>k_is)
   (case tZ=>k_is)
   (case tW=>k_is)
   (case uJ=>k_is)
   (case wU=>k_is)
   (case wg=>k_is)
   (case wP=>k_is)
   (case wM=>k_is)
   (case uw=>k_is)
   (case ve=>k_is)
   (case vo=>k_is)
   (case uT=>k_is)
   (case AB=>k_is)
   (case A4=>k_is)
   (case Ax=>k_is)
   (case Aq=>k_is)
   (case K3=>k_is)
   (case IH=>k_is)
   (case KG=>k_is)
   (case KA=>k_is)
   (case yK=>k_is)
   (case yk=>k_is)
   (case yL=>k_is)
   (case zh=>k_is)
   (case wx=>k_is)
   (case wv=>k_is)
   (case wR=>k_is)
   (case we=>k_is)
   (case ng=>k_is)
   (case nJ=>k_is)
   (case m5=>k_is)
   (case mY=>k_is)
   (case zi=>k_is)
   (case yE=>k_is)
   (case zb=>k_is)
   (case yj=>k_is)
   (case De=>k_is)
   (case Dv=>k_is)
   (case Dq=>k_is)
   (case Dt=>k_is)
   (case vb=>k_is)
   (case u6=>k_is)
   (case vq=>k_is)
   (case tT=>k_is)
   (case sk=>k_is)
   (case sx=>k_is)
   (case sy=>k_is)
   (case rR=>k_is)
   (case tY=>k_is)
   (case uR=>k_is)
   (case uA=>k_is)
   (case ua=>k_is)
   (case Ip=>k_is)
   (case Km=>k_is)
   (case Kd=>k_is)
   (case KI=>k_is)
   (case E9=>k_is)
   (case FT=>k_is)
   (case FJ=>k_is)
   (case Fk=>k_is)
   (case Ku=>k_is)
   (case K7=>k_is)
   (case Jp=>k_is)
   (case IL=>k_is)
   (case Di=>k_is)
   (case DH=>k_is)
   (case DJ=>k_is)
   (case C4=>k_is)
   (case JA=>k_is)
   (case J0=>k_is)
   (case K5=>k_is)
   (case Im=>k_is)
   (case vU=>k_is)
   (case wH=>k_is)
   (case wb=>k_is)
   (case vW=>k_is)
   (case Fg=>k_is)
   (case FS=>k_is)
   (case Fa=>k_is)
   (case F2=>k_is)
   (case rM=>k_is)
   (case sj=>k_is)
   (case sJ=>k_is)
   (case rY=>k_is)
   (case CV=>k_is)
   (case Db=>k_is)
   (case CJ=>k_is)
   (case CY=>k_is)
   (case pE=>k_is)
   (case oJ=>k_is)
   (case pI=>k_is)
   (case pJ=>k_is)
   (case nI=>k_is)
   (case nF=>k_is)
   (case nR=>k_is)
   (case nC=>k_is)
   (case yi=>k_is)
   (case yt=>k_is)
   (case yB=>k_is)
   (case yz=>k_is)
   (case yR=>k_is)
   (case yq=>k_is)
   (case yS=>k_is)
   (case y4=>k_is)
   (case qw=>k_is)
   (case qp=>k_is)
   (case qC=>k_is)
   (case qE=>k_is)
   (case wj=>k_is)
   (case wu=>k_is)
   (case wE=>k_is)
   (case wm=>k_is)
   (case A2=>k_is)
   (case AL=>k_is)
   (case A3=>k_is)
   (case Bm=>k_is)
   (case tR=>k_is)
   (case u7=>k_is)
   (case uV=>k_is)
   (case uQ=>k_is)
   (case yo=>k_is)
   (case yx=>k_is)
   (case zn=>k_is)
   (case yN=>k_is)
   (case wf=>k_is)
   (case ww=>k_is)
   (case wV=>k_is)
   (case wy=>k_is)
   (case uq=>k_is)
   (case vf=>k_is)
   (case uL=>k_is)
   (case um=>k_is)
   (case pL=>k_is)
   (case o7=>k_is)
   (case oV=>k_is)
   (case oI=>k_is)
   (case ye=>k_is)
   (case yd=>k_is)
   (case yn=>k_is)
   (case ze=>k_is)
   (case wD=>k_is)
   (case vZ=>k_is)
   (case wK=>k_is)
   (case wO=>k_is)
   (case zd=>k_is)
   (case zj=>k_is)
   (case yO=>k_is)
   (case yT=>k_is)
   (case wo=>k_is)
   (case vV=>k_is)
   (case wn=>k_is)
   (case vY=>k_is)
   (case AA=>k_is)
   (case Ag=>k_is)
   (case AW=>k_is)
   (case Am=>k_is)
   (case JM=>k_is)
   (case Jo=>k_is)
   (case Jw=>k_is)
   (case JF=>k_is)
   (case F3=>k_is)
   (case E7=>k_is)
   (case Ff=>k_is)
   (case Fn=>k_is)
   (case wk=>k_is)
   (case wS=>k_is)
   (case wI=>k_is)
   (case wC=>k_is)
   (case va=>k_is)
   (case uP=>k_is)
   (case uv=>k_is)
   (case vd=>k_is)
   (case rS=>k_is)
   (case rV=>k_is)
   (case sv=>k_is)
   (case se=>k_is)
   (case qe=>k_is)
   (case qv=>k_is)
   (case qf=>k_is)
   (case qY=>k_is)
   (case pK=>k_is)
   (case oN=>k_is)
   (case pC=>k_is)
   (case oZ=>k_is)
   (case Ig=>k_is)
   (case OJ=>k_is)
   (case NA=>k_is)
   (case NR=>k_is)
   (case JV=>k_is)
   (case JZ=>k_is)
   (case JW=>k_is)
   (case Ky=>k_is)
   (case JE=>k_is)
   (case JO=>k_is)
   (case IV=>k_is)
   (case Kb=>k_is)
   (case z_range=>k_is)
   (case z_zip=>k_is)
   (case z_len=>k_is)
   (case z_isinstance=>k_is)
   (case z_all=>k_is)
   (case z_any=>k_is)
   (case z_int=>k_is)
   (case z_bool=>k_is)
   (case z_tuple=>k_is)
   (case z_list=>k_is)
   (case z_reversed=>k_is)
   (case z_sorted=>k_is)
   (case z_min=>k_is)
   (case z_enumerate=>k_is)
   (case z_sum=>k_is)
   (case z_abs=>k_is)
   (case v_MOST_PLACES=>k_is)
   (case v_LEAST_TOLL=>k_is)
   (case v_MOST_TOLL=>k_is)
   (case CH=>k_is)
   (case A0=>k_is)
   (case NG=>k_is)
   (case Kw=>k_is)
#print axioms PySem.Challenge.cw_pebbletoll_k54_papers_of_fairest_holds