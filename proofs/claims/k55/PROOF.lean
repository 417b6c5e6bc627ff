import PyProof.Rows.All
import Wide.All
import OpenK.AllK
import Wide.FinOn
import Lean
import PyProof.EqAt
import PyProof.EqKinds
import PyProof.TupleCall
import PyProof.P3Eq
import PyProof.NeData
import PyProof.FitsBits
import PyProof.ZipIter
import PyProof.TupleIter
import KE.KRevIter
import PyProof.TupleOfGen
import PyProof.ListRange
import KE.KIsAll
import PyProof.ExcArgsOwn
import OpenK.KDescr
import PyProof.StationsW
import PyProof.ExcBaseAll.ValueError
import OpenK.KOwn
import PyProof.RulesAs
import PyProof.RulesDel
import PyProof.Rows.SortWalk
import PyProof.CompUse
import KE.KDictSum
import PyProof.WalkInts
import KE.KSortTup
import PyProof.Rows.TupDisplay
import KE.KIntText
import PyProof.JoinWalk
import PyProof.ExcInit
import PyProof.ExcClass2
import PySem.Challenge.RW_pebbletoll_k55_whole_fairest_shares
set_option Elab.async false
set_option linter.all false
set_option maxRecDepth 100000
namespace Hd
open PySem
def top (i:Nat):Stmt:=PySem.Challenge.pw_pebbletoll_k55_whole_fairest_shares.main.body.getD i (.Pass ⟨0,0,0,0⟩)
def inC (s:Stmt) (j:Nat):Stmt:=match s with
 | .ClassDef _ _ _ b _ _ _ _ _ _ _=>b.getD j (.Pass ⟨0,0,0,0⟩)
 | _=>.Pass ⟨0,0,0,0⟩
def kA (s:Stmt):Arguments:=match s with
 | .FunctionDef _ a _ _ _ _ _ _ _ _=>a
 | _=>{ posonlyargs:=[],args:=[],vararg:=none,kwonlyargs:=[],kw_defaults:=[],kwarg:=none,defaults:=[] }
def kB (s:Stmt):List Stmt:=match s with
 | .FunctionDef _ _ b _ _ _ _ _ _ _=>b
 | _=>[]
def kS (s:Stmt):Scope:=match s with
 | .FunctionDef _ _ _ _ _ _ sc _ _ _=>sc
 | _=>{ kind:=.function,names:=[],isGenerator:=false,isCoroutine:=false }
open PySem.W PySem.Calls PyProof.Rows
def en (P:Params) (s:Str) (t:Tok) (v:Value):DictEntry:=.mk (PyData.keyHash P s) (.str s t) v
def cO (a b:Str) (t1 t2 t3:Tok) (i1 i2 i3 i4 i5:Int) (r1:Value) (b1:Bool) (i6:Int) (r2 v1 v2 v3 r3:Value) (i7 i8:Int) (t4:Tok):Obj:=.mk (.type "code") none (.fields #[.str a t1,.str b t2,.str "/claim/cut.py" t3,.int i1 0,.int i2 0,.int i3 0,.int i4 0,.int i5 0,r1,.bool b1,.int i6 0,r2,v1,v2,v3,r3,.int i7 0,.int i8 0,.str "/claim/cut.py" t4]) #[]
def fR (a b:Str) (s:Stmt):Obj:=.mk .none none (.func (.mk a b (kA s) (.stmts (kB s)) (kS s) 0 [] .none .none .none .none none .none .none 0)) #[]
def fO (a b:Str) (s:Stmt) (pm cd:Value):Obj:=.mk (.type "function") none (.func (PySem.W.fnOf a b (kA s) (kB s) (kS s) .none .none .none pm none cd .none)) #[]
def tO (xs:Array Value):Obj:=.mk (.type "tuple") none (.seq xs 0) #[]
def x0:Obj:=(tO #[])
def x1:Obj:=(.mk .none none (.fields #[]) #[])
def x2:Obj:=(cO "<module>" "<module>" 182 183 184 1 0 0 0 0 (.ref 11) false 181 (.ref 12) .none .none .none .none 185 1 186)
def x3:Obj:=(.mk (.type "frame") none .plain #[(some (.ref 13)),(some (.ref 3)),(some (.ref 3)),none,(some (.str "__main__" 164)),none,(some (.ref 0))])
noncomputable def ha (P:Params):Heap:=.mk (.mk (boot_o_0 P::boot_o_1 P::boot_o_2 P::boot_o_3 P::boot_o_4 P::boot_o_5 P::boot_o_6 P::boot_o_7 P::boot_o_8 P::boot_o_9 P::boot_o_10 P::x0::x1::x2::x3::[])) (.mk [] [] [] 0 [] [] false #[] [] 0 false false false 0 [2000,10,10] false 0 true [] [] 0 false)
noncomputable def hb (P:Params):Heap:=.mk (.mk (boot_o_0 P::boot_o_1 P::boot_o_2 P::boot_o_3 P::boot_o_4 P::boot_o_5 P::boot_o_6 P::boot_o_7 P::boot_o_8 P::boot_o_9 P::boot_o_10 P::x0::x1::x2::x3::[])) (.mk [] [] [] 0 [] [] false #[] [] 0 false false false 0 [2000,10,10] false 0 true [] [] 0 false)
abbrev st0:List Stmt:=[top 0,top 1,top 2,top 3,top 4,top 5,top 6,top 7,top 8,top 9,top 10,top 11,top 12,top 13,top 14,top 15,top 16,top 17,top 18,top 19,top 20,top 21,top 22,top 23,top 24,top 25,top 26,top 27,top 28,top 29,top 30,top 31,top 32,top 33,top 34,top 35,top 36,top 37,top 38,top 39,top 40,top 41,top 42]
abbrev st1:List Stmt:=[top 43,top 44,top 45,top 46,top 47,top 48,top 49,top 50,top 51,top 52,top 53,top 54,top 55,top 56,top 57,top 58,top 59,top 60,top 61,top 62,top 63,top 64,top 65,top 66,top 67,top 68,top 69]
abbrev bb:List Stmt:=st0++(st1++([]))
def env:Env:={ scope:=PySem.Challenge.pw_pebbletoll_k55_whole_fairest_shares.main.scope,locals:=mainNs,globals:=mainNs,cells:=[],code:=(.ref 13),frame:=some 14 }
abbrev cE:Code:=.body bb env
theorem Yk (w:World) (os:OsState):topGo treeTable PySem.Challenge.pw_pebbletoll_k55_whole_fairest_shares w 11 (some (.ref 6)) 12 (Shared.mk (boot_heap w.params) (.mk []) boot_drawn boot_toks os) (topStub PySem.Challenge.pw_pebbletoll_k55_whole_fairest_shares)=some ((Shared.mk (ha w.params) (.mk []) (.mk 0 0 0 0) 187 os),Thread.mk (denote treeTable cE) cE (.mk 0 0 0 0) [topFrame (.mk 0 0 0 0)]):=by kernel_rfl
theorem Yl (w:World) (os:OsState):segRun treeTable PySem.Challenge.pw_pebbletoll_k55_whole_fairest_shares w 11 (some (.ref 6)) 1 1 (Shared.mk (ha w.params) (.mk []) (.mk 0 0 0 0) 187 os) (blockOf bb env cE (.mk 0 0 0 0) [topFrame (.mk 0 0 0 0)])=some (.next,(Shared.mk (hb w.params) (.mk []) (.mk 0 0 0 0) 187 os),cE,(.mk 0 0 0 0)):=by kernel_rfl
def x4 (P:Params):Obj:=(.mk (.type "dict") none (.dict #[(en P "__name__" 165 (.str "pebbletoll.shares" 464)),(en P "__doc__" 166 .none),(en P "__package__" 167 .none),(en P "__loader__" 168 (.builtin "__main__.__loader__#opaque")),(en P "__spec__" 169 .none),(en P "__annotations__" 170 (.ref 6)),(en P "__builtins__" 171 (.ref 4)),(en P "__file__" 173 (.str "/claim/cut.py" 172)),(en P "__cached__" 174 .none),(en P "fraction" 197 (.ref 21)),(en P "common_divisor" 206 (.ref 28)),(en P "plus" 214 (.ref 35)),(en P "minus" 222 (.ref 42)),(en P "less" 230 (.ref 49)),(en P "sum_up" 236 (.ref 54)),(en P "TollError" 256 (.ref 64)),(en P "BadWeb" 272 (.ref 77)),(en P "NoPlace" 288 (.ref 89)),(en P "NoRoad" 304 (.ref 101)),(en P "MOST_PLACES" 308 (.int 24 307)),(en P "LEAST_TOLL" 310 (.int 2 309)),(en P "MOST_TOLL" 312 (.int 1000000 311)),(en P "Web" 340 (.ref 118)),(en P "toll" 353 (.ref 129)),(en P "neighbours" 361 (.ref 136)),(en P "check_place" 369 (.ref 143)),(en P "is_place" 377 (.ref 150)),(en P "check_counts" 385 (.ref 157)),(en P "check_ends" 393 (.ref 164)),(en P "check_tolls" 401 (.ref 171)),(en P "check_joined" 413 (.ref 178)),(en P "other_ends" 423 (.ref 185)),(en P "ahead" 438 (.ref 192)),(en P "down" 451 (.ref 199)),(en P "kids" 457 (.ref 204)),(en P "inward" 463 (.ref 209)),(en P "NOUGHT" 468 (.ref 210)),(en P "ONE" 471 (.ref 211)),(en P "worth" 480 (.ref 218)),(en P "yields" 489 (.ref 225)),(en P "divided_up" 495 (.ref 230)),(en P "prices_to" 506 (.ref 237)),(en P "prices_from" 517 (.ref 244)),(en P "even_shares" 523 (.ref 249)),(en P "even_share" 529 (.ref 254)),(en P "second_shares" 535 (.ref 259)),(en P "second_share" 541 (.ref 264))] 47) #[])
def x5:Obj:=(.mk .none none (.fields #[(.int 2 0),(.int 0 0),(.ref 20),(.int 7 0),(.int 0 0),(.ref 27),(.int 13 0),(.int 0 0),(.ref 34),(.int 15 0),(.int 0 0),(.ref 41),(.int 17 0),(.int 0 0),(.ref 48),(.int 19 0),(.int 0 0),(.ref 53),(.int 25 0),(.int 0 0),(.ref 60),(.int 27 0),(.int 0 0),(.ref 73),(.int 29 0),(.int 0 0),(.ref 85),(.int 31 0),(.int 0 0),(.ref 97),(.int 37 0),(.int 0 0),(.ref 109),(.int 48 0),(.int 0 0),(.ref 128),(.int 57 0),(.int 0 0),(.ref 135),(.int 60 0),(.int 0 0),(.ref 142),(.int 63 0),(.int 0 0),(.ref 149),(.int 65 0),(.int 0 0),(.ref 156),(.int 70 0),(.int 0 0),(.ref 163),(.int 75 0),(.int 0 0),(.ref 170),(.int 79 0),(.int 0 0),(.ref 177),(.int 90 0),(.int 0 0),(.ref 184),(.int 99 0),(.int 0 0),(.ref 191),(.int 110 0),(.int 0 0),(.ref 198),(.int 120 0),(.int 0 0),(.ref 203),(.int 122 0),(.int 0 0),(.ref 208),(.int 128 0),(.int 0 0),(.ref 217),(.int 130 0),(.int 0 0),(.ref 224),(.int 132 0),(.int 0 0),(.ref 229),(.int 134 0),(.int 0 0),(.ref 236),(.int 139 0),(.int 0 0),(.ref 243),(.int 144 0),(.int 0 0),(.ref 248),(.int 146 0),(.int 0 0),(.ref 253),(.int 149 0),(.int 0 0),(.ref 258),(.int 151 0),(.int 0 0),(.ref 263)]) #[])
def x6:Obj:=(tO #[(.str "top" 192),(.str "bottom" 193),(.str "common" 194)])
def x7:Obj:=(fR "fraction" "fraction" (top 1))
def x8:Obj:=(cO "fraction" "fraction" 189 190 191 2 2 0 0 3 (.ref 15) true 181 (.ref 16) .none (.ref 17) (.ref 18) (.ref 19) 195 2 196)
def x9:Obj:=(fO "fraction" "fraction" (top 1) (.str "pebbletoll.fractions" 187) (.ref 20))
def x10:Obj:=(tO #[(.str "one" 201),(.str "two" 202),(.str "rest" 203)])
def x11:Obj:=(fR "common_divisor" "common_divisor" (top 2))
def x12:Obj:=(cO "common_divisor" "common_divisor" 198 199 200 7 2 0 0 3 (.ref 22) true 181 (.ref 23) .none (.ref 24) (.ref 25) (.ref 26) 204 7 205)
def x13:Obj:=(fO "common_divisor" "common_divisor" (top 2) (.str "pebbletoll.fractions" 187) (.ref 27))
def x14:Obj:=(tO #[(.str "one" 210),(.str "two" 211)])
def x15:Obj:=(fR "plus" "plus" (top 3))
def x16:Obj:=(cO "plus" "plus" 207 208 209 13 2 0 0 3 (.ref 29) true 181 (.ref 30) .none (.ref 31) (.ref 32) (.ref 33) 212 13 213)
def x17:Obj:=(fO "plus" "plus" (top 3) (.str "pebbletoll.fractions" 187) (.ref 34))
def x18:Obj:=(tO #[(.str "one" 218),(.str "two" 219)])
def x19:Obj:=(fR "minus" "minus" (top 4))
def x20:Obj:=(cO "minus" "minus" 215 216 217 15 2 0 0 3 (.ref 36) true 181 (.ref 37) .none (.ref 38) (.ref 39) (.ref 40) 220 15 221)
def x21:Obj:=(fO "minus" "minus" (top 4) (.str "pebbletoll.fractions" 187) (.ref 41))
def x22:Obj:=(tO #[(.str "one" 226),(.str "two" 227)])
def x23:Obj:=(fR "less" "less" (top 5))
def x24:Obj:=(cO "less" "less" 223 224 225 17 2 0 0 3 (.ref 43) true 181 (.ref 44) .none (.ref 45) (.ref 46) (.ref 47) 228 17 229)
def x25:Obj:=(fO "less" "less" (top 5) (.str "pebbletoll.fractions" 187) (.ref 48))
def x26:Obj:=(fR "sum_up" "sum_up" (top 6))
def x27:Obj:=(cO "sum_up" "sum_up" 231 232 233 19 1 0 0 3 (.ref 50) true 181 (.ref 51) .none .none .none (.ref 52) 234 19 235)
def x28:Obj:=(fO "sum_up" "sum_up" (top 6) (.str "pebbletoll.fractions" 187) (.ref 53))
def x29:Obj:=(tO #[(.type "ValueError")])
def x30:Obj:=(.mk (.type "builtin_function_or_method") none (.fields #[(.builtin "type.__prepare__"),(.type "type")]) #[])
def x31 (P:Params):Obj:=(.mk (.type "dict") none (.dict #[(en P "__module__" 246 (.str "pebbletoll.errors" 237)),(en P "__qualname__" 248 (.str "TollError" 247)),(en P "__firstlineno__" 250 (.int 25 249)),(en P "__static_attributes__" 251 (.ref 62))] 4) #[])
def x32:Obj:=(cO "TollError" "TollError" 241 242 243 25 0 0 0 0 (.ref 58) false 181 (.ref 59) .none .none .none .none 244 25 245)
def x33:Obj:=(.mk (.type "frame") none .plain #[(some (.ref 60)),(some (.ref 3)),(some (.ref 57)),none,(some (.str "pebbletoll.errors" 237)),none,(some (.ref 0))])
def x34 (P:Params):Obj:=(.mk (.type "dict") none (.dict #[(en P "__module__" 246 (.str "pebbletoll.errors" 237)),(en P "__firstlineno__" 250 (.int 25 249)),(en P "__static_attributes__" 251 (.ref 62)),(en P "__weakref__" 253 (.ref 65)),(en P "__doc__" 254 .none)] 3) #[])
def x35:Obj:=(.mk (.type "type") none (.cls (.mk "TollError" [(.type "ValueError")] [(.ref 64),(.type "ValueError"),(.type "Exception"),(.type "BaseException"),(.type "object")] 63 "TollError" true [] [(.ref 77),(.ref 89),(.ref 101)] false none false)) #[(some (.ref 55)),none,(some (.str "TollError" 239)),(some (.str "TollError" 247)),(some (.builtin "ValueError.__new__")),(some (.bool true))])
def x36:Obj:=(.mk (.type "getset_descriptor") none (.fields #[(.str "__weakref__" 252),(.ref 64),(.builtin "ExceptionGroup.__weakref__"),.none]) #[])
def x37:Obj:=(.mk (.type "super") none (.fields #[(.ref 64),(.ref 64),(.ref 64)]) #[])
def x38:Obj:=(.mk (.type "builtin_function_or_method") none (.fields #[(.builtin "object.__init_subclass__"),(.ref 64)]) #[])
def x39:Obj:=(tO #[(.ref 64)])
def x40 (P:Params):Obj:=(.mk (.type "dict") none (.dict #[(en P "__module__" 264 (.str "pebbletoll.errors" 237)),(en P "__qualname__" 266 (.str "BadWeb" 265)),(en P "__firstlineno__" 268 (.int 27 267)),(en P "__static_attributes__" 269 (.ref 75))] 4) #[])
def x41:Obj:=(cO "BadWeb" "BadWeb" 259 260 261 27 0 0 0 0 (.ref 71) false 181 (.ref 72) .none .none .none .none 262 27 263)
def x42:Obj:=(.mk (.type "frame") none .plain #[(some (.ref 73)),(some (.ref 3)),(some (.ref 70)),none,(some (.str "pebbletoll.errors" 237)),none,(some (.ref 0))])
def x43 (P:Params):Obj:=(.mk (.type "dict") none (.dict #[(en P "__module__" 264 (.str "pebbletoll.errors" 237)),(en P "__firstlineno__" 268 (.int 27 267)),(en P "__static_attributes__" 269 (.ref 75)),(en P "__doc__" 270 .none)] 2) #[])
def x44:Obj:=(.mk (.type "type") none (.cls (.mk "BadWeb" [(.ref 64)] [(.ref 77),(.ref 64),(.type "ValueError"),(.type "Exception"),(.type "BaseException"),(.type "object")] 76 "BadWeb" true [] [] false none false)) #[(some (.ref 68)),none,(some (.str "BadWeb" 257)),(some (.str "BadWeb" 265)),(some (.builtin "ValueError.__new__")),(some (.bool true))])
def x45:Obj:=(.mk (.type "super") none (.fields #[(.ref 77),(.ref 77),(.ref 77)]) #[])
def x46:Obj:=(.mk (.type "builtin_function_or_method") none (.fields #[(.builtin "object.__init_subclass__"),(.ref 77)]) #[])
def x47 (P:Params):Obj:=(.mk (.type "dict") none (.dict #[(en P "__module__" 280 (.str "pebbletoll.errors" 237)),(en P "__qualname__" 282 (.str "NoPlace" 281)),(en P "__firstlineno__" 284 (.int 29 283)),(en P "__static_attributes__" 285 (.ref 87))] 4) #[])
def x48:Obj:=(cO "NoPlace" "NoPlace" 275 276 277 29 0 0 0 0 (.ref 83) false 181 (.ref 84) .none .none .none .none 278 29 279)
def x49:Obj:=(.mk (.type "frame") none .plain #[(some (.ref 85)),(some (.ref 3)),(some (.ref 82)),none,(some (.str "pebbletoll.errors" 237)),none,(some (.ref 0))])
def x50 (P:Params):Obj:=(.mk (.type "dict") none (.dict #[(en P "__module__" 280 (.str "pebbletoll.errors" 237)),(en P "__firstlineno__" 284 (.int 29 283)),(en P "__static_attributes__" 285 (.ref 87)),(en P "__doc__" 286 .none)] 2) #[])
def x51:Obj:=(.mk (.type "type") none (.cls (.mk "NoPlace" [(.ref 64)] [(.ref 89),(.ref 64),(.type "ValueError"),(.type "Exception"),(.type "BaseException"),(.type "object")] 88 "NoPlace" true [] [] false none false)) #[(some (.ref 80)),none,(some (.str "NoPlace" 273)),(some (.str "NoPlace" 281)),(some (.builtin "ValueError.__new__")),(some (.bool true))])
def x52:Obj:=(.mk (.type "super") none (.fields #[(.ref 89),(.ref 89),(.ref 89)]) #[])
def x53:Obj:=(.mk (.type "builtin_function_or_method") none (.fields #[(.builtin "object.__init_subclass__"),(.ref 89)]) #[])
def x54 (P:Params):Obj:=(.mk (.type "dict") none (.dict #[(en P "__module__" 296 (.str "pebbletoll.errors" 237)),(en P "__qualname__" 298 (.str "NoRoad" 297)),(en P "__firstlineno__" 300 (.int 31 299)),(en P "__static_attributes__" 301 (.ref 99))] 4) #[])
def x55:Obj:=(cO "NoRoad" "NoRoad" 291 292 293 31 0 0 0 0 (.ref 95) false 181 (.ref 96) .none .none .none .none 294 31 295)
def x56:Obj:=(.mk (.type "frame") none .plain #[(some (.ref 97)),(some (.ref 3)),(some (.ref 94)),none,(some (.str "pebbletoll.errors" 237)),none,(some (.ref 0))])
def x57 (P:Params):Obj:=(.mk (.type "dict") none (.dict #[(en P "__module__" 296 (.str "pebbletoll.errors" 237)),(en P "__firstlineno__" 300 (.int 31 299)),(en P "__static_attributes__" 301 (.ref 99)),(en P "__doc__" 302 .none)] 2) #[])
def x58:Obj:=(.mk (.type "type") none (.cls (.mk "NoRoad" [(.ref 64)] [(.ref 101),(.ref 64),(.type "ValueError"),(.type "Exception"),(.type "BaseException"),(.type "object")] 100 "NoRoad" true [] [] false none false)) #[(some (.ref 92)),none,(some (.str "NoRoad" 289)),(some (.str "NoRoad" 297)),(some (.builtin "ValueError.__new__")),(some (.bool true))])
def x59:Obj:=(.mk (.type "super") none (.fields #[(.ref 101),(.ref 101),(.ref 101)]) #[])
def x60:Obj:=(.mk (.type "builtin_function_or_method") none (.fields #[(.builtin "object.__init_subclass__"),(.ref 101)]) #[])
def x61 (P:Params):Obj:=(.mk (.type "dict") none (.dict #[(en P "__module__" 320 (.str "pebbletoll.webs" 305)),(en P "__qualname__" 322 (.str "Web" 321)),(en P "__firstlineno__" 324 (.int 37 323)),(en P "__init__" 330 (.ref 115)),(en P "__static_attributes__" 333 (.ref 116))] 5) #[])
def x62:Obj:=(.mk .none none (.fields #[(.int 39 0),(.int 4 0),(.ref 114)]) #[])
def x63:Obj:=(cO "Web" "Web" 315 316 317 37 0 0 0 0 (.ref 107) false 181 (.ref 108) .none .none .none .none 318 37 319)
def x64:Obj:=(.mk (.type "frame") none .plain #[(some (.ref 109)),(some (.ref 3)),(some (.ref 106)),none,(some (.str "pebbletoll.webs" 305)),none,(some (.ref 0))])
def x65:Obj:=(fR "__init__" "Web.__init__" (inC (top 16) 0))
def x66:Obj:=(cO "__init__" "Web.__init__" 325 326 327 39 3 0 0 3 (.ref 111) true 181 (.ref 112) .none .none .none (.ref 113) 328 39 329)
def x67:Obj:=(fO "__init__" "Web.__init__" (inC (top 16) 0) (.str "pebbletoll.webs" 305) (.ref 114))
def x68:Obj:=(tO #[(.str "many" 331),(.str "roads" 332)])
def x69 (P:Params):Obj:=(.mk (.type "dict") none (.dict #[(en P "__module__" 320 (.str "pebbletoll.webs" 305)),(en P "__firstlineno__" 324 (.int 37 323)),(en P "__init__" 330 (.ref 115)),(en P "__static_attributes__" 333 (.ref 116)),(en P "__dict__" 335 (.ref 119)),(en P "__weakref__" 337 (.ref 120)),(en P "__doc__" 338 .none)] 4) #[])
def x70:Obj:=(.mk (.type "type") none (.cls (.mk "Web" [(.type "object")] [(.ref 118),(.type "object")] 117 "Web" true [] [] false none false)) #[none,none,(some (.str "Web" 313)),(some (.str "Web" 321)),(some (.builtin "object.__new__")),(some (.bool true))])
def x71:Obj:=(.mk (.type "getset_descriptor") none (.fields #[(.str "__dict__" 334),(.ref 118),(.builtin "function.__dict__"),(.builtin "function.__dict__#set")]) #[])
def x72:Obj:=(.mk (.type "getset_descriptor") none (.fields #[(.str "__weakref__" 336),(.ref 118),(.builtin "ExceptionGroup.__weakref__"),.none]) #[])
def x73:Obj:=(.mk (.type "super") none (.fields #[(.ref 118),(.ref 118),(.ref 118)]) #[])
def x74:Obj:=(.mk (.type "builtin_function_or_method") none (.fields #[(.builtin "object.__init_subclass__"),(.ref 118)]) #[])
def x75:Obj:=(tO #[(.str "web" 344),(.str "a" 345),(.str "b" 346),(.str "one" 347),(.str "other" 348),(.str "there" 349),(.str "back" 350)])
def x76:Obj:=(fR "toll" "toll" (top 17))
def x77:Obj:=(cO "toll" "toll" 341 342 343 48 3 0 0 3 (.ref 123) true 181 (.ref 124) .none (.ref 125) (.ref 126) (.ref 127) 351 48 352)
def x78:Obj:=(fO "toll" "toll" (top 17) (.str "pebbletoll.webs" 305) (.ref 128))
def x79:Obj:=(tO #[(.str "web" 357),(.str "a" 358)])
def x80:Obj:=(fR "neighbours" "neighbours" (top 18))
def x81:Obj:=(cO "neighbours" "neighbours" 354 355 356 57 2 0 0 3 (.ref 130) true 181 (.ref 131) .none (.ref 132) (.ref 133) (.ref 134) 359 57 360)
def x82:Obj:=(fO "neighbours" "neighbours" (top 18) (.str "pebbletoll.webs" 305) (.ref 135))
def x83:Obj:=(tO #[(.str "web" 365),(.str "number" 366)])
def x84:Obj:=(fR "check_place" "check_place" (top 19))
def x85:Obj:=(cO "check_place" "check_place" 362 363 364 60 2 0 0 3 (.ref 137) true 181 (.ref 138) .none (.ref 139) (.ref 140) (.ref 141) 367 60 368)
def x86:Obj:=(fO "check_place" "check_place" (top 19) (.str "pebbletoll.webs" 305) (.ref 142))
def x87:Obj:=(tO #[(.str "many" 373),(.str "number" 374)])
def x88:Obj:=(fR "is_place" "is_place" (top 20))
def x89:Obj:=(cO "is_place" "is_place" 370 371 372 63 2 0 0 3 (.ref 144) true 181 (.ref 145) .none (.ref 146) (.ref 147) (.ref 148) 375 63 376)
def x90:Obj:=(fO "is_place" "is_place" (top 20) (.str "pebbletoll.webs" 305) (.ref 149))
def x91:Obj:=(tO #[(.str "many" 381),(.str "roads" 382)])
def x92:Obj:=(fR "check_counts" "check_counts" (top 21))
def x93:Obj:=(cO "check_counts" "check_counts" 378 379 380 65 2 0 0 3 (.ref 151) true 181 (.ref 152) .none (.ref 153) (.ref 154) (.ref 155) 383 65 384)
def x94:Obj:=(fO "check_counts" "check_counts" (top 21) (.str "pebbletoll.webs" 305) (.ref 156))
def x95:Obj:=(tO #[(.str "many" 389),(.str "road" 390)])
def x96:Obj:=(fR "check_ends" "check_ends" (top 22))
def x97:Obj:=(cO "check_ends" "check_ends" 386 387 388 70 2 0 0 3 (.ref 158) true 181 (.ref 159) .none (.ref 160) (.ref 161) (.ref 162) 391 70 392)
def x98:Obj:=(fO "check_ends" "check_ends" (top 22) (.str "pebbletoll.webs" 305) (.ref 163))
def x99:Obj:=(tO #[(.str "road" 397),(.str "number" 398)])
def Sj:Obj:=(fR "check_tolls" "check_tolls" (top 23))
def OY:Obj:=(cO "check_tolls" "check_tolls" 394 395 396 75 1 0 0 3 (.ref 165) true 181 (.ref 166) .none (.ref 167) (.ref 168) (.ref 169) 399 75 400)
def Ol:Obj:=(fO "check_tolls" "check_tolls" (top 23) (.str "pebbletoll.webs" 305) (.ref 170))
def Oz:Obj:=(tO #[(.str "many" 405),(.str "roads" 406),(.str "reached" 407),(.str "waiting" 408),(.str "place" 409),(.str "end" 410)])
def UI:Obj:=(fR "check_joined" "check_joined" (top 24))
def Oi:Obj:=(cO "check_joined" "check_joined" 402 403 404 79 2 0 0 3 (.ref 172) true 181 (.ref 173) .none (.ref 174) (.ref 175) (.ref 176) 411 79 412)
def OP:Obj:=(fO "check_joined" "check_joined" (top 24) (.str "pebbletoll.webs" 305) (.ref 177))
def Pz:Obj:=(tO #[(.str "roads" 417),(.str "place" 418),(.str "ends" 419),(.str "road" 420)])
def Ry:Obj:=(fR "other_ends" "other_ends" (top 25))
def O9:Obj:=(cO "other_ends" "other_ends" 414 415 416 90 2 0 0 3 (.ref 179) true 181 (.ref 180) .none (.ref 181) (.ref 182) (.ref 183) 421 90 422)
def PZ:Obj:=(fO "other_ends" "other_ends" (top 25) (.str "pebbletoll.webs" 305) (.ref 184))
def On:Obj:=(tO #[(.str "web" 429),(.str "r" 430),(.str "nearer" 431),(.str "waiting" 432),(.str "place" 433),(.str "front" 434),(.str "kid" 435)])
def R1:Obj:=(fR "ahead" "ahead" (top 27))
def Pm:Obj:=(cO "ahead" "ahead" 426 427 428 99 2 0 0 3 (.ref 186) true 181 (.ref 187) .none (.ref 188) (.ref 189) (.ref 190) 436 99 437)
def Oa:Obj:=(fO "ahead" "ahead" (top 27) (.str "pebbletoll.ways" 424) (.ref 191))
def Pa:Obj:=(tO #[(.str "web" 442),(.str "r" 443),(.str "nearer" 444),(.str "places" 445),(.str "waiting" 446),(.str "place" 447),(.str "kid" 448)])
def SG:Obj:=(fR "down" "down" (top 28))
def OC:Obj:=(cO "down" "down" 439 440 441 110 2 0 0 3 (.ref 193) true 181 (.ref 194) .none (.ref 195) (.ref 196) (.ref 197) 449 110 450)
def Ob:Obj:=(fO "down" "down" (top 28) (.str "pebbletoll.ways" 424) (.ref 198))
def TR:Obj:=(fR "kids" "kids" (top 29))
def Ps:Obj:=(cO "kids" "kids" 452 453 454 120 3 0 0 3 (.ref 200) true 181 (.ref 201) .none .none .none (.ref 202) 455 120 456)
def ON:Obj:=(fO "kids" "kids" (top 29) (.str "pebbletoll.ways" 424) (.ref 203))
def Uh:Obj:=(fR "inward" "inward" (top 30))
def OE:Obj:=(cO "inward" "inward" 458 459 460 122 2 0 0 3 (.ref 205) true 181 (.ref 206) .none .none .none (.ref 207) 461 122 462)
def PK:Obj:=(fO "inward" "inward" (top 30) (.str "pebbletoll.ways" 424) (.ref 208))
def PL:Obj:=(tO #[(.int 0 466),(.int 1 467)])
def Of:Obj:=(tO #[(.int 1 469),(.int 1 470)])
def Pt:Obj:=(tO #[(.str "web" 475),(.str "shares" 476),(.str "v" 477)])
def Tv:Obj:=(fR "worth" "worth" (top 34))
def NP:Obj:=(cO "worth" "worth" 472 473 474 128 3 0 0 3 (.ref 212) true 181 (.ref 213) .none (.ref 214) (.ref 215) (.ref 216) 478 128 479)
def Pl:Obj:=(fO "worth" "worth" (top 34) (.str "pebbletoll.shares" 464) (.ref 217))
def OZ:Obj:=(tO #[(.str "web" 484),(.str "shares" 485),(.str "u" 486)])
def TJ:Obj:=(fR "yields" "yields" (top 35))
def OM:Obj:=(cO "yields" "yields" 481 482 483 130 3 0 0 3 (.ref 219) true 181 (.ref 220) .none (.ref 221) (.ref 222) (.ref 223) 487 130 488)
def Ou:Obj:=(fO "yields" "yields" (top 35) (.str "pebbletoll.shares" 464) (.ref 224))
def UC:Obj:=(fR "divided_up" "divided_up" (top 36))
def OH:Obj:=(cO "divided_up" "divided_up" 490 491 492 132 2 0 0 3 (.ref 226) true 181 (.ref 227) .none .none .none (.ref 228) 493 132 494)
def O5:Obj:=(fO "divided_up" "divided_up" (top 36) (.str "pebbletoll.shares" 464) (.ref 229))
def PP:Obj:=(tO #[(.str "web" 499),(.str "v" 500),(.str "prices" 501),(.str "place" 502),(.str "front" 503)])
def Sz:Obj:=(fR "prices_to" "prices_to" (top 37))
def NX:Obj:=(cO "prices_to" "prices_to" 496 497 498 134 2 0 0 3 (.ref 231) true 181 (.ref 232) .none (.ref 233) (.ref 234) (.ref 235) 504 134 505)
def Oy:Obj:=(fO "prices_to" "prices_to" (top 37) (.str "pebbletoll.shares" 464) (.ref 236))
def OQ:Obj:=(tO #[(.str "web" 510),(.str "u" 511),(.str "prices" 512),(.str "place" 513),(.str "front" 514)])
def RK:Obj:=(fR "prices_from" "prices_from" (top 38))
def Po:Obj:=(cO "prices_from" "prices_from" 507 508 509 139 2 0 0 3 (.ref 238) true 181 (.ref 239) .none (.ref 240) (.ref 241) (.ref 242) 515 139 516)
def O1:Obj:=(fO "prices_from" "prices_from" (top 38) (.str "pebbletoll.shares" 464) (.ref 243))
def SU:Obj:=(fR "even_shares" "even_shares" (top 39))
def NZ:Obj:=(cO "even_shares" "even_shares" 518 519 520 144 1 0 0 3 (.ref 245) true 181 (.ref 246) .none .none .none (.ref 247) 521 144 522)
def NU:Obj:=(fO "even_shares" "even_shares" (top 39) (.str "pebbletoll.shares" 464) (.ref 248))
def Sa:Obj:=(fR "even_share" "even_share" (top 40))
def NT:Obj:=(cO "even_share" "even_share" 524 525 526 146 2 0 0 3 (.ref 250) true 181 (.ref 251) .none .none .none (.ref 252) 527 146 528)
def O7:Obj:=(fO "even_share" "even_share" (top 40) (.str "pebbletoll.shares" 464) (.ref 253))
def Td:Obj:=(fR "second_shares" "second_shares" (top 41))
def Pw:Obj:=(cO "second_shares" "second_shares" 530 531 532 149 1 0 0 3 (.ref 255) true 181 (.ref 256) .none .none .none (.ref 257) 533 149 534)
def Oo:Obj:=(fO "second_shares" "second_shares" (top 41) (.str "pebbletoll.shares" 464) (.ref 258))
def R0:Obj:=(fR "second_share" "second_share" (top 42))
def O4:Obj:=(cO "second_share" "second_share" 536 537 538 151 2 0 0 3 (.ref 260) true 181 (.ref 261) .none .none .none (.ref 262) 539 151 540)
def OL:Obj:=(fO "second_share" "second_share" (top 42) (.str "pebbletoll.shares" 464) (.ref 263))
noncomputable def h0 (P:Params):Heap:=.mk (.mk (boot_o_0 P::boot_o_1 P::boot_o_2 P::x4 P::boot_o_4 P::boot_o_5 P::boot_o_6 P::boot_o_7 P::boot_o_8 P::boot_o_9 P::boot_o_10 P::x0::x5::x2::x3::x0::x1::x6::x0::x7::x8::x9::x0::x1::x10::x0::x11::x12::x13::x0::x1::x14::x0::x15::x16::x17::x0::x1::x18::x0::x19::x20::x21::x0::x1::x22::x0::x23::x24::x25::x0::x1::x26::x27::x28::x29::x30::x31 P::x0::x1::x32::x33::x0::x34 P::x35::x36::x37::x38::x39::x30::x40 P::x0::x1::x41::x42::x0::x43 P::x44::x45::x46::x39::x30::x47 P::x0::x1::x48::x49::x0::x50 P::x51::x52::x53::x39::x30::x54 P::x0::x1::x55::x56::x0::x57 P::x58::x59::x60::x0::x30::x61 P::x0::x62::x63::x64::x0::x1::x65::x66::x67::x68::x69 P::x70::x71::x72::x73::x74::x0::x1::x75::x0::x76::x77::x78::x0::x1::x79::x0::x80::x81::x82::x0::x1::x83::x0::x84::x85::x86::x0::x1::x87::x0::x88::x89::x90::x0::x1::x91::x0::x92::x93::x94::x0::x1::x95::x0::x96::x97::x98::x0::x1::x99::x0::Sj::OY::Ol::x0::x1::Oz::x0::UI::Oi::OP::x0::x1::Pz::x0::Ry::O9::PZ::x0::x1::On::x0::R1::Pm::Oa::x0::x1::Pa::x0::SG::OC::Ob::x0::x1::TR::Ps::ON::x0::x1::Uh::OE::PK::PL::Of::x0::x1::Pt::x0::Tv::NP::Pl::x0::x1::OZ::x0::TJ::OM::Ou::x0::x1::UC::OH::O5::x0::x1::PP::x0::Sz::NX::Oy::x0::x1::OQ::x0::RK::Po::O1::x0::x1::SU::NZ::NU::x0::x1::Sa::NT::O7::x0::x1::Td::Pw::Oo::x0::x1::R0::O4::OL::[])) (.mk [] [] [] 0 [] [] false #[] [] 0 false false false 0 [2000,10,10] false 0 true [] [] 0 false)
theorem Yc (w:World) (os:OsState):segRun treeTable PySem.Challenge.pw_pebbletoll_k55_whole_fairest_shares w 11 (some (.ref 6)) 1 1980 (Shared.mk (hb w.params) (.mk []) (.mk 0 0 0 0) 187 os) (piecesOf st0 env cE (.mk 0 0 0 0) [topFrame (.mk 0 0 0 0)])=some (.next,(Shared.mk (h0 w.params) (.mk []) (.mk 0 0 0 0) 542 os),cE,(.mk 151 0 153 110)):=by kernel_rfl
def US (P:Params):Obj:=(.mk (.type "dict") none (.dict #[(en P "__name__" 165 (.str "law_pebbletoll_k55_whole_fairest_shares" 575)),(en P "__doc__" 166 .none),(en P "__package__" 167 .none),(en P "__loader__" 168 (.builtin "__main__.__loader__#opaque")),(en P "__spec__" 169 .none),(en P "__annotations__" 170 (.ref 6)),(en P "__builtins__" 171 (.ref 4)),(en P "__file__" 173 (.str "/claim/cut.py" 172)),(en P "__cached__" 174 .none),(en P "fraction" 197 (.ref 21)),(en P "common_divisor" 206 (.ref 28)),(en P "plus" 214 (.ref 35)),(en P "minus" 222 (.ref 42)),(en P "less" 230 (.ref 49)),(en P "sum_up" 236 (.ref 54)),(en P "TollError" 256 (.ref 64)),(en P "BadWeb" 272 (.ref 77)),(en P "NoPlace" 288 (.ref 89)),(en P "NoRoad" 304 (.ref 101)),(en P "MOST_PLACES" 308 (.int 24 307)),(en P "LEAST_TOLL" 310 (.int 2 309)),(en P "MOST_TOLL" 312 (.int 1000000 311)),(en P "Web" 340 (.ref 118)),(en P "toll" 353 (.ref 129)),(en P "neighbours" 361 (.ref 136)),(en P "check_place" 369 (.ref 143)),(en P "is_place" 377 (.ref 150)),(en P "check_counts" 385 (.ref 157)),(en P "check_ends" 393 (.ref 164)),(en P "check_tolls" 401 (.ref 171)),(en P "check_joined" 413 (.ref 178)),(en P "other_ends" 423 (.ref 185)),(en P "ahead" 438 (.ref 192)),(en P "down" 451 (.ref 199)),(en P "kids" 457 (.ref 204)),(en P "inward" 463 (.ref 209)),(en P "NOUGHT" 468 (.ref 210)),(en P "ONE" 471 (.ref 211)),(en P "worth" 480 (.ref 218)),(en P "yields" 489 (.ref 225)),(en P "divided_up" 495 (.ref 230)),(en P "prices_to" 506 (.ref 237)),(en P "prices_from" 517 (.ref 244)),(en P "even_shares" 523 (.ref 249)),(en P "even_share" 529 (.ref 254)),(en P "second_shares" 535 (.ref 259)),(en P "second_share" 541 (.ref 264)),(en P "road_part" 549 (.ref 271)),(en P "shows_fairest" 555 (.ref 276)),(en P "are_sound" 561 (.ref 281)),(en P "is_below" 568 (.ref 288)),(en P "fairest" 574 (.ref 293)),(en P "_law_cell" 584 (.ref 300)),(en P "_law_stir" 593 (.ref 307)),(en P "_law_cells" 604 (.ref 314)),(en P "_law_take" 613 (.ref 321)),(en P "_law_toll" 622 (.ref 328)),(en P "_law_roads" 641 (.ref 335)),(en P "_law_web" 651 (.ref 342)),(en P "_law_tolls" 663 (.ref 349)),(en P "_law_beside" 669 (.ref 354)),(en P "_law_ahead" 682 (.ref 361)),(en P "_law_whole" 689 (.ref 368)),(en P "_law_part" 698 (.ref 375)),(en P "_law_is_fraction" 705 (.ref 382)),(en P "_law_fractions" 711 (.ref 387)),(en P "_law_prices" 727 (.ref 394)),(en P "_law_divided" 739 (.ref 401)),(en P "_law_gathered" 752 (.ref 408)),(en P "_law_shown" 758 (.ref 413)),(en P "_law_below" 764 (.ref 418)),(en P "_law_right" 770 (.ref 423)),(en P "law" 776 (.ref 428))] 73) #[])
def Xk:Obj:=(.mk .none none (.fields #[(.int 2 0),(.int 0 0),(.ref 20),(.int 7 0),(.int 0 0),(.ref 27),(.int 13 0),(.int 0 0),(.ref 34),(.int 15 0),(.int 0 0),(.ref 41),(.int 17 0),(.int 0 0),(.ref 48),(.int 19 0),(.int 0 0),(.ref 53),(.int 25 0),(.int 0 0),(.ref 60),(.int 27 0),(.int 0 0),(.ref 73),(.int 29 0),(.int 0 0),(.ref 85),(.int 31 0),(.int 0 0),(.ref 97),(.int 37 0),(.int 0 0),(.ref 109),(.int 48 0),(.int 0 0),(.ref 128),(.int 57 0),(.int 0 0),(.ref 135),(.int 60 0),(.int 0 0),(.ref 142),(.int 63 0),(.int 0 0),(.ref 149),(.int 65 0),(.int 0 0),(.ref 156),(.int 70 0),(.int 0 0),(.ref 163),(.int 75 0),(.int 0 0),(.ref 170),(.int 79 0),(.int 0 0),(.ref 177),(.int 90 0),(.int 0 0),(.ref 184),(.int 99 0),(.int 0 0),(.ref 191),(.int 110 0),(.int 0 0),(.ref 198),(.int 120 0),(.int 0 0),(.ref 203),(.int 122 0),(.int 0 0),(.ref 208),(.int 128 0),(.int 0 0),(.ref 217),(.int 130 0),(.int 0 0),(.ref 224),(.int 132 0),(.int 0 0),(.ref 229),(.int 134 0),(.int 0 0),(.ref 236),(.int 139 0),(.int 0 0),(.ref 243),(.int 144 0),(.int 0 0),(.ref 248),(.int 146 0),(.int 0 0),(.ref 253),(.int 149 0),(.int 0 0),(.ref 258),(.int 151 0),(.int 0 0),(.ref 263),(.int 154 0),(.int 0 0),(.ref 270),(.int 156 0),(.int 0 0),(.ref 275),(.int 164 0),(.int 0 0),(.ref 280),(.int 166 0),(.int 0 0),(.ref 287),(.int 168 0),(.int 0 0),(.ref 292),(.int 176 0),(.int 0 0),(.ref 299),(.int 180 0),(.int 0 0),(.ref 306),(.int 184 0),(.int 0 0),(.ref 313),(.int 190 0),(.int 0 0),(.ref 320),(.int 194 0),(.int 0 0),(.ref 327),(.int 201 0),(.int 0 0),(.ref 334),(.int 219 0),(.int 0 0),(.ref 341),(.int 223 0),(.int 0 0),(.ref 348),(.int 229 0),(.int 0 0),(.ref 353),(.int 231 0),(.int 0 0),(.ref 360),(.int 242 0),(.int 0 0),(.ref 367),(.int 244 0),(.int 0 0),(.ref 374),(.int 250 0),(.int 0 0),(.ref 381),(.int 254 0),(.int 0 0),(.ref 386),(.int 258 0),(.int 0 0),(.ref 393),(.int 272 0),(.int 0 0),(.ref 400),(.int 279 0),(.int 0 0),(.ref 407),(.int 285 0),(.int 0 0),(.ref 412),(.int 298 0),(.int 0 0),(.ref 417),(.int 302 0),(.int 0 0),(.ref 422),(.int 315 0),(.int 0 0),(.ref 427)]) #[])
def SJ:Obj:=(tO #[(.str "one" 545),(.str "other" 546)])
def Wt:Obj:=(fR "road_part" "road_part" (top 43))
def Tt:Obj:=(cO "road_part" "road_part" 542 543 544 154 2 0 0 3 (.ref 265) true 181 (.ref 266) .none (.ref 267) (.ref 268) (.ref 269) 547 154 548)
def SR:Obj:=(fO "road_part" "road_part" (top 43) (.str "pebbletoll.shares" 464) (.ref 270))
def WA:Obj:=(fR "shows_fairest" "shows_fairest" (top 44))
def Ti:Obj:=(cO "shows_fairest" "shows_fairest" 550 551 552 156 3 0 0 3 (.ref 272) true 181 (.ref 273) .none .none .none (.ref 274) 553 156 554)
def S9:Obj:=(fO "shows_fairest" "shows_fairest" (top 44) (.str "pebbletoll.shares" 464) (.ref 275))
def Ww:Obj:=(fR "are_sound" "are_sound" (top 45))
def TN:Obj:=(cO "are_sound" "are_sound" 556 557 558 164 2 0 0 3 (.ref 277) true 181 (.ref 278) .none .none .none (.ref 279) 559 164 560)
def Sf:Obj:=(fO "are_sound" "are_sound" (top 45) (.str "pebbletoll.shares" 464) (.ref 280))
def RQ:Obj:=(tO #[(.str "share" 565)])
def Xa:Obj:=(fR "is_below" "is_below" (top 46))
def S4:Obj:=(cO "is_below" "is_below" 562 563 564 166 1 0 0 3 (.ref 282) true 181 (.ref 283) .none (.ref 284) (.ref 285) (.ref 286) 566 166 567)
def RX:Obj:=(fO "is_below" "is_below" (top 46) (.str "pebbletoll.shares" 464) (.ref 287))
def Xy:Obj:=(fR "fairest" "fairest" (top 47))
def Tx:Obj:=(cO "fairest" "fairest" 569 570 571 168 1 0 0 3 (.ref 289) true 181 (.ref 290) .none .none .none (.ref 291) 572 168 573)
def S0:Obj:=(fO "fairest" "fairest" (top 47) (.str "pebbletoll.shares" 464) (.ref 292))
def SZ:Obj:=(tO #[(.str "script" 580),(.str "k" 581)])
def WP:Obj:=(fR "_law_cell" "_law_cell" (top 49))
def RC:Obj:=(cO "_law_cell" "_law_cell" 577 578 579 176 2 0 0 3 (.ref 294) true 181 (.ref 295) .none (.ref 296) (.ref 297) (.ref 298) 582 176 583)
def TC:Obj:=(fO "_law_cell" "_law_cell" (top 49) (.str "law_pebbletoll_k55_whole_fairest_shares" 575) (.ref 299))
def R8:Obj:=(tO #[(.str "cell" 588),(.str "k" 589),(.str "big" 590)])
def WM:Obj:=(fR "_law_stir" "_law_stir" (top 50))
def Tb:Obj:=(cO "_law_stir" "_law_stir" 585 586 587 180 2 0 0 3 (.ref 301) true 181 (.ref 302) .none (.ref 303) (.ref 304) (.ref 305) 591 180 592)
def RZ:Obj:=(fO "_law_stir" "_law_stir" (top 50) (.str "law_pebbletoll_k55_whole_fairest_shares" 575) (.ref 306))
def SK:Obj:=(tO #[(.str "script" 597),(.str "many" 598),(.str "cells" 599),(.str "k" 600),(.str "at" 601)])
def XI:Obj:=(fR "_law_cells" "_law_cells" (top 51))
def Tf:Obj:=(cO "_law_cells" "_law_cells" 594 595 596 184 2 0 0 3 (.ref 308) true 181 (.ref 309) .none (.ref 310) (.ref 311) (.ref 312) 602 184 603)
def Th:Obj:=(fO "_law_cells" "_law_cells" (top 51) (.str "law_pebbletoll_k55_whole_fairest_shares" 575) (.ref 313))
def Sd:Obj:=(tO #[(.str "pot" 608),(.str "n" 609),(.str "found" 610)])
def WV:Obj:=(fR "_law_take" "_law_take" (top 52))
def RL:Obj:=(cO "_law_take" "_law_take" 605 606 607 190 2 0 0 3 (.ref 315) true 181 (.ref 316) .none (.ref 317) (.ref 318) (.ref 319) 611 190 612)
def S3:Obj:=(fO "_law_take" "_law_take" (top 52) (.str "law_pebbletoll_k55_whole_fairest_shares" 575) (.ref 320))
def Ug:Obj:=(tO #[(.str "pot" 617),(.str "small" 618),(.str "kind" 619)])
def Xv:Obj:=(fR "_law_toll" "_law_toll" (top 53))
def So:Obj:=(cO "_law_toll" "_law_toll" 614 615 616 194 2 0 0 3 (.ref 322) true 181 (.ref 323) .none (.ref 324) (.ref 325) (.ref 326) 620 194 621)
def TK:Obj:=(fO "_law_toll" "_law_toll" (top 53) (.str "law_pebbletoll_k55_whole_fairest_shares" 575) (.ref 327))
def R7:Obj:=(tO #[(.str "cells" 626),(.str "first" 627),(.str "labels" 628),(.str "rows" 629),(.str "k" 630),(.str "pot" 631),(.str "under" 632),(.str "there" 633),(.str "back" 634),(.str "roads" 635),(.str "swap" 636),(.str "spot" 637),(.str "road" 638)])
def Wv:Obj:=(fR "_law_roads" "_law_roads" (top 54))
def Sc:Obj:=(cO "_law_roads" "_law_roads" 623 624 625 201 2 0 0 3 (.ref 329) true 181 (.ref 330) .none (.ref 331) (.ref 332) (.ref 333) 639 201 640)
def TL:Obj:=(fO "_law_roads" "_law_roads" (top 54) (.str "law_pebbletoll_k55_whole_fairest_shares" 575) (.ref 334))
def TV:Obj:=(tO #[(.str "script" 645),(.str "sizes" 646),(.str "first" 647),(.str "many" 648)])
def XR:Obj:=(fR "_law_web" "_law_web" (top 55))
def Uf:Obj:=(cO "_law_web" "_law_web" 642 643 644 219 2 0 0 3 (.ref 336) true 181 (.ref 337) .none (.ref 338) (.ref 339) (.ref 340) 649 219 650)
def ST:Obj:=(fO "_law_web" "_law_web" (top 55) (.str "law_pebbletoll_k55_whole_fairest_shares" 575) (.ref 341))
def Uo:Obj:=(tO #[(.str "roads" 655),(.str "tolls" 656),(.str "one" 657),(.str "other" 658),(.str "there" 659),(.str "back" 660)])
def XE:Obj:=(fR "_law_tolls" "_law_tolls" (top 56))
def Um:Obj:=(cO "_law_tolls" "_law_tolls" 652 653 654 223 1 0 0 3 (.ref 343) true 181 (.ref 344) .none (.ref 345) (.ref 346) (.ref 347) 661 223 662)
def Uk:Obj:=(fO "_law_tolls" "_law_tolls" (top 56) (.str "law_pebbletoll_k55_whole_fairest_shares" 575) (.ref 348))
def Xe:Obj:=(fR "_law_beside" "_law_beside" (top 57))
def SO:Obj:=(cO "_law_beside" "_law_beside" 664 665 666 229 3 0 0 3 (.ref 350) true 181 (.ref 351) .none .none .none (.ref 352) 667 229 668)
def SQ:Obj:=(fO "_law_beside" "_law_beside" (top 57) (.str "law_pebbletoll_k55_whole_fairest_shares" 575) (.ref 353))
def TB:Obj:=(tO #[(.str "many" 673),(.str "tolls" 674),(.str "r" 675),(.str "found" 676),(.str "row" 677),(.str "at" 678),(.str "other" 679)])
def WF:Obj:=(fR "_law_ahead" "_law_ahead" (top 58))
def Ru:Obj:=(cO "_law_ahead" "_law_ahead" 670 671 672 231 3 0 0 3 (.ref 355) true 181 (.ref 356) .none (.ref 357) (.ref 358) (.ref 359) 680 231 681)
def Uz:Obj:=(fO "_law_ahead" "_law_ahead" (top 58) (.str "law_pebbletoll_k55_whole_fairest_shares" 575) (.ref 360))
def Ul:Obj:=(tO #[(.str "found" 686)])
def XG:Obj:=(fR "_law_whole" "_law_whole" (top 59))
def RE:Obj:=(cO "_law_whole" "_law_whole" 683 684 685 242 1 0 0 3 (.ref 362) true 181 (.ref 363) .none (.ref 364) (.ref 365) (.ref 366) 687 242 688)
def UO:Obj:=(fO "_law_whole" "_law_whole" (top 59) (.str "law_pebbletoll_k55_whole_fairest_shares" 575) (.ref 367))
def To:Obj:=(tO #[(.str "one" 693),(.str "other" 694),(.str "rest" 695)])
def WJ:Obj:=(fR "_law_part" "_law_part" (top 60))
def SD:Obj:=(cO "_law_part" "_law_part" 690 691 692 244 2 0 0 3 (.ref 369) true 181 (.ref 370) .none (.ref 371) (.ref 372) (.ref 373) 696 244 697)
def Up:Obj:=(fO "_law_part" "_law_part" (top 60) (.str "law_pebbletoll_k55_whole_fairest_shares" 575) (.ref 374))
def Ty:Obj:=(tO #[(.str "found" 702)])
def WS:Obj:=(fR "_law_is_fraction" "_law_is_fraction" (top 61))
def UK:Obj:=(cO "_law_is_fraction" "_law_is_fraction" 699 700 701 250 1 0 0 3 (.ref 376) true 181 (.ref 377) .none (.ref 378) (.ref 379) (.ref 380) 703 250 704)
def RY:Obj:=(fO "_law_is_fraction" "_law_is_fraction" (top 61) (.str "law_pebbletoll_k55_whole_fairest_shares" 575) (.ref 381))
def Xj:Obj:=(fR "_law_fractions" "_law_fractions" (top 62))
def UE:Obj:=(cO "_law_fractions" "_law_fractions" 706 707 708 254 2 0 0 3 (.ref 383) true 181 (.ref 384) .none .none .none (.ref 385) 709 254 710)
def Ue:Obj:=(fO "_law_fractions" "_law_fractions" (top 62) (.str "law_pebbletoll_k55_whole_fairest_shares" 575) (.ref 386))
def Ua:Obj:=(tO #[(.str "many" 715),(.str "tolls" 716),(.str "v" 717),(.str "to" 718),(.str "towards" 719),(.str "told" 720),(.str "place" 721),(.str "product" 722),(.str "here" 723),(.str "step" 724)])
def XD:Obj:=(fR "_law_prices" "_law_prices" (top 63))
def UF:Obj:=(cO "_law_prices" "_law_prices" 712 713 714 258 4 0 0 3 (.ref 388) true 181 (.ref 389) .none (.ref 390) (.ref 391) (.ref 392) 725 258 726)
def Se:Obj:=(fO "_law_prices" "_law_prices" (top 63) (.str "law_pebbletoll_k55_whole_fairest_shares" 575) (.ref 393))
def RV:Obj:=(tO #[(.str "shares" 731),(.str "prices" 732),(.str "top" 733),(.str "bottom" 734),(.str "share" 735),(.str "much" 736)])
def Wx:Obj:=(fR "_law_divided" "_law_divided" (top 64))
def Ui:Obj:=(cO "_law_divided" "_law_divided" 728 729 730 272 2 0 0 3 (.ref 395) true 181 (.ref 396) .none (.ref 397) (.ref 398) (.ref 399) 737 272 738)
def S6:Obj:=(fO "_law_divided" "_law_divided" (top 64) (.str "law_pebbletoll_k55_whole_fairest_shares" 575) (.ref 400))
def Sy:Obj:=(tO #[(.str "many" 743),(.str "tolls" 744),(.str "laying" 745),(.str "r" 746),(.str "above" 747),(.str "found" 748),(.str "kid" 749)])
def W0:Obj:=(fR "_law_gathered" "_law_gathered" (top 65))
def RJ:Obj:=(cO "_law_gathered" "_law_gathered" 740 741 742 279 5 0 0 3 (.ref 402) true 181 (.ref 403) .none (.ref 404) (.ref 405) (.ref 406) 750 279 751)
def SB:Obj:=(fO "_law_gathered" "_law_gathered" (top 65) (.str "law_pebbletoll_k55_whole_fairest_shares" 575) (.ref 407))
def Xl:Obj:=(fR "_law_shown" "_law_shown" (top 66))
def UM:Obj:=(cO "_law_shown" "_law_shown" 753 754 755 285 5 0 0 3 (.ref 409) true 181 (.ref 410) .none .none .none (.ref 411) 756 285 757)
def Uc:Obj:=(fO "_law_shown" "_law_shown" (top 66) (.str "law_pebbletoll_k55_whole_fairest_shares" 575) (.ref 412))
def Wz:Obj:=(fR "_law_below" "_law_below" (top 67))
def Tw:Obj:=(cO "_law_below" "_law_below" 759 760 761 298 2 0 0 3 (.ref 414) true 181 (.ref 415) .none .none .none (.ref 416) 762 298 763)
def Tm:Obj:=(fO "_law_below" "_law_below" (top 67) (.str "law_pebbletoll_k55_whole_fairest_shares" 575) (.ref 417))
def Xu:Obj:=(fR "_law_right" "_law_right" (top 68))
def Uw:Obj:=(cO "_law_right" "_law_right" 765 766 767 302 5 0 0 3 (.ref 419) true 181 (.ref 420) .none .none .none (.ref 421) 768 302 769)
def T5:Obj:=(fO "_law_right" "_law_right" (top 68) (.str "law_pebbletoll_k55_whole_fairest_shares" 575) (.ref 422))
def Xz:Obj:=(fR "law" "law" (top 69))
def Uj:Obj:=(cO "law" "law" 771 772 773 315 1 0 0 3 (.ref 424) true 181 (.ref 425) .none .none .none (.ref 426) 774 315 775)
def Tz:Obj:=(fO "law" "law" (top 69) (.str "law_pebbletoll_k55_whole_fairest_shares" 575) (.ref 427))
noncomputable def h1 (P:Params):Heap:=.mk (.mk (boot_o_0 P::boot_o_1 P::boot_o_2 P::US P::boot_o_4 P::boot_o_5 P::boot_o_6 P::boot_o_7 P::boot_o_8 P::boot_o_9 P::boot_o_10 P::x0::Xk::x2::x3::x0::x1::x6::x0::x7::x8::x9::x0::x1::x10::x0::x11::x12::x13::x0::x1::x14::x0::x15::x16::x17::x0::x1::x18::x0::x19::x20::x21::x0::x1::x22::x0::x23::x24::x25::x0::x1::x26::x27::x28::x29::x30::x31 P::x0::x1::x32::x33::x0::x34 P::x35::x36::x37::x38::x39::x30::x40 P::x0::x1::x41::x42::x0::x43 P::x44::x45::x46::x39::x30::x47 P::x0::x1::x48::x49::x0::x50 P::x51::x52::x53::x39::x30::x54 P::x0::x1::x55::x56::x0::x57 P::x58::x59::x60::x0::x30::x61 P::x0::x62::x63::x64::x0::x1::x65::x66::x67::x68::x69 P::x70::x71::x72::x73::x74::x0::x1::x75::x0::x76::x77::x78::x0::x1::x79::x0::x80::x81::x82::x0::x1::x83::x0::x84::x85::x86::x0::x1::x87::x0::x88::x89::x90::x0::x1::x91::x0::x92::x93::x94::x0::x1::x95::x0::x96::x97::x98::x0::x1::x99::x0::Sj::OY::Ol::x0::x1::Oz::x0::UI::Oi::OP::x0::x1::Pz::x0::Ry::O9::PZ::x0::x1::On::x0::R1::Pm::Oa::x0::x1::Pa::x0::SG::OC::Ob::x0::x1::TR::Ps::ON::x0::x1::Uh::OE::PK::PL::Of::x0::x1::Pt::x0::Tv::NP::Pl::x0::x1::OZ::x0::TJ::OM::Ou::x0::x1::UC::OH::O5::x0::x1::PP::x0::Sz::NX::Oy::x0::x1::OQ::x0::RK::Po::O1::x0::x1::SU::NZ::NU::x0::x1::Sa::NT::O7::x0::x1::Td::Pw::Oo::x0::x1::R0::O4::OL::x0::x1::SJ::x0::Wt::Tt::SR::x0::x1::WA::Ti::S9::x0::x1::Ww::TN::Sf::x0::x1::RQ::x0::Xa::S4::RX::x0::x1::Xy::Tx::S0::x0::x1::SZ::x0::WP::RC::TC::x0::x1::R8::x0::WM::Tb::RZ::x0::x1::SK::x0::XI::Tf::Th::x0::x1::Sd::x0::WV::RL::S3::x0::x1::Ug::x0::Xv::So::TK::x0::x1::R7::x0::Wv::Sc::TL::x0::x1::TV::x0::XR::Uf::ST::x0::x1::Uo::x0::XE::Um::Uk::x0::x1::Xe::SO::SQ::x0::x1::TB::x0::WF::Ru::Uz::x0::x1::Ul::x0::XG::RE::UO::x0::x1::To::x0::WJ::SD::Up::x0::x1::Ty::x0::WS::UK::RY::x0::x1::Xj::UE::Ue::x0::x1::Ua::x0::XD::UF::Se::x0::x1::RV::x0::Wx::Ui::S6::x0::x1::Sy::x0::W0::RJ::SB::x0::x1::Xl::UM::Uc::x0::x1::Wz::Tw::Tm::x0::x1::Xu::Uw::T5::x0::x1::Xz::Uj::Tz::[])) (.mk [] [] [] 0 [] [] false #[] [] 0 false false false 0 [2000,10,10] false 0 true [] [] 0 false)
theorem Ym (w:World) (os:OsState):segRun treeTable PySem.Challenge.pw_pebbletoll_k55_whole_fairest_shares w 11 (some (.ref 6)) 1 797 (Shared.mk (h0 w.params) (.mk []) (.mk 0 0 0 0) 542 os) (piecesOf st1 env cE (.mk 151 0 153 110) [topFrame (.mk 0 0 0 0)])=some (.next,(Shared.mk (h1 w.params) (.mk []) (.mk 0 0 0 0) 777 os),cE,(.mk 315 0 330 31)):=by kernel_rfl
noncomputable def hf (P:Params):Heap:=.mk (.mk (boot_o_0 P::boot_o_1 P::boot_o_2 P::US P::boot_o_4 P::boot_o_5 P::boot_o_6 P::boot_o_7 P::boot_o_8 P::boot_o_9 P::boot_o_10 P::x0::Xk::x2::x3::x0::x1::x6::x0::x7::x8::x9::x0::x1::x10::x0::x11::x12::x13::x0::x1::x14::x0::x15::x16::x17::x0::x1::x18::x0::x19::x20::x21::x0::x1::x22::x0::x23::x24::x25::x0::x1::x26::x27::x28::x29::x30::x31 P::x0::x1::x32::x33::x0::x34 P::x35::x36::x37::x38::x39::x30::x40 P::x0::x1::x41::x42::x0::x43 P::x44::x45::x46::x39::x30::x47 P::x0::x1::x48::x49::x0::x50 P::x51::x52::x53::x39::x30::x54 P::x0::x1::x55::x56::x0::x57 P::x58::x59::x60::x0::x30::x61 P::x0::x62::x63::x64::x0::x1::x65::x66::x67::x68::x69 P::x70::x71::x72::x73::x74::x0::x1::x75::x0::x76::x77::x78::x0::x1::x79::x0::x80::x81::x82::x0::x1::x83::x0::x84::x85::x86::x0::x1::x87::x0::x88::x89::x90::x0::x1::x91::x0::x92::x93::x94::x0::x1::x95::x0::x96::x97::x98::x0::x1::x99::x0::Sj::OY::Ol::x0::x1::Oz::x0::UI::Oi::OP::x0::x1::Pz::x0::Ry::O9::PZ::x0::x1::On::x0::R1::Pm::Oa::x0::x1::Pa::x0::SG::OC::Ob::x0::x1::TR::Ps::ON::x0::x1::Uh::OE::PK::PL::Of::x0::x1::Pt::x0::Tv::NP::Pl::x0::x1::OZ::x0::TJ::OM::Ou::x0::x1::UC::OH::O5::x0::x1::PP::x0::Sz::NX::Oy::x0::x1::OQ::x0::RK::Po::O1::x0::x1::SU::NZ::NU::x0::x1::Sa::NT::O7::x0::x1::Td::Pw::Oo::x0::x1::R0::O4::OL::x0::x1::SJ::x0::Wt::Tt::SR::x0::x1::WA::Ti::S9::x0::x1::Ww::TN::Sf::x0::x1::RQ::x0::Xa::S4::RX::x0::x1::Xy::Tx::S0::x0::x1::SZ::x0::WP::RC::TC::x0::x1::R8::x0::WM::Tb::RZ::x0::x1::SK::x0::XI::Tf::Th::x0::x1::Sd::x0::WV::RL::S3::x0::x1::Ug::x0::Xv::So::TK::x0::x1::R7::x0::Wv::Sc::TL::x0::x1::TV::x0::XR::Uf::ST::x0::x1::Uo::x0::XE::Um::Uk::x0::x1::Xe::SO::SQ::x0::x1::TB::x0::WF::Ru::Uz::x0::x1::Ul::x0::XG::RE::UO::x0::x1::To::x0::WJ::SD::Up::x0::x1::Ty::x0::WS::UK::RY::x0::x1::Xj::UE::Ue::x0::x1::Ua::x0::XD::UF::Se::x0::x1::RV::x0::Wx::Ui::S6::x0::x1::Sy::x0::W0::RJ::SB::x0::x1::Xl::UM::Uc::x0::x1::Wz::Tw::Tm::x0::x1::Xu::Uw::T5::x0::x1::Xz::Uj::Tz::[])) (.mk [] [] [] 0 [] [] false #[] [] 0 false false false 0 [2000,10,10] false 0 true [] [] 0 false)
theorem X7 (w:World) (os:OsState):topRun treeTable PySem.Challenge.pw_pebbletoll_k55_whole_fairest_shares w 11 (some (.ref 6)) 2 (Shared.mk (h1 w.params) (.mk []) (.mk 0 0 0 0) 777 os) (restOf [] env cE (.mk 315 0 330 31) [topFrame (.mk 0 0 0 0)])=some (Shared.mk (hf w.params) (.mk []) (.mk 0 0 0 0) 777 os):=by kernel_rfl
theorem run (w:World) (os:OsState):topRun treeTable PySem.Challenge.pw_pebbletoll_k55_whole_fairest_shares w 11 (some (.ref 6)) (12+(1+(1980+(797+(2))))) (Shared.mk (boot_heap w.params) (.mk []) boot_drawn boot_toks os) (topStub PySem.Challenge.pw_pebbletoll_k55_whole_fairest_shares)=some (Shared.mk (hf w.params) (.mk []) (.mk 0 0 0 0) 777 os):=go_top (Yk w os) (piece_block (Yl w os) (piece_app (Yc w os) (piece_app (Ym w os) (X7 w os))))
theorem opn:∀ w:World,(fencedOpening treeTable PySem.Challenge.pw_pebbletoll_k55_whole_fairest_shares w 5676).map (fun s=>(s.heap,s.gens,s.drawn,s.toks))=some (boot_heap w.params,Array.mk [],boot_drawn,boot_toks):=boot_open (by kernel_rfl) (by decide) fun s=>by kernel_rfl
theorem siz (w:World):((boot_heap w.params).isNs mainGlobals && (Array.mk ([]:List GenState)).size == 0,(boot_heap w.params).objs.size,(boot_heap w.params).nsMap mainGlobals "__annotations__")=(true,11,(some (.ref 6))):=by kernel_rfl
noncomputable def KK:Params->Frag:=fun P =>
 (nat_lit 2,boot_o_2 P) ::
 (nat_lit 3,US P) ::
 (nat_lit 15,x0) ::
 (nat_lit 17,x6) ::
 (nat_lit 18,x0) ::
 (nat_lit 20,x8) ::
 (nat_lit 21,x9) ::
 (nat_lit 22,x0) ::
 (nat_lit 24,x10) ::
 (nat_lit 25,x0) ::
 (nat_lit 27,x12) ::
 (nat_lit 28,x13) ::
 (nat_lit 29,x0) ::
 (nat_lit 31,x14) ::
 (nat_lit 32,x0) ::
 (nat_lit 34,x16) ::
 (nat_lit 35,x17) ::
 (nat_lit 36,x0) ::
 (nat_lit 38,x18) ::
 (nat_lit 39,x0) ::
 (nat_lit 41,x20) ::
 (nat_lit 42,x21) ::
 (nat_lit 43,x0) ::
 (nat_lit 45,x22) ::
 (nat_lit 46,x0) ::
 (nat_lit 48,x24) ::
 (nat_lit 49,x25) ::
 (nat_lit 50,x0) ::
 (nat_lit 53,x27) ::
 (nat_lit 54,x28) ::
 (nat_lit 55,x29) ::
 (nat_lit 62,x0) ::
 (nat_lit 63,x34 P) ::
 (nat_lit 64,x35) ::
 (nat_lit 65,x36) ::
 (nat_lit 68,x39) ::
 (nat_lit 75,x0) ::
 (nat_lit 76,x43 P) ::
 (nat_lit 77,x44) ::
 (nat_lit 80,x39) ::
 (nat_lit 87,x0) ::
 (nat_lit 88,x50 P) ::
 (nat_lit 89,x51) ::
 (nat_lit 92,x39) ::
 (nat_lit 99,x0) ::
 (nat_lit 100,x57 P) ::
 (nat_lit 101,x58) ::
 (nat_lit 111,x0) ::
 (nat_lit 114,x66) ::
 (nat_lit 115,x67) ::
 (nat_lit 116,x68) ::
 (nat_lit 117,x69 P) ::
 (nat_lit 118,x70) ::
 (nat_lit 119,x71) ::
 (nat_lit 120,x72) ::
 (nat_lit 123,x0) ::
 (nat_lit 125,x75) ::
 (nat_lit 126,x0) ::
 (nat_lit 128,x77) ::
 (nat_lit 129,x78) ::
 (nat_lit 130,x0) ::
 (nat_lit 132,x79) ::
 (nat_lit 133,x0) ::
 (nat_lit 135,x81) ::
 (nat_lit 136,x82) ::
 (nat_lit 137,x0) ::
 (nat_lit 139,x83) ::
 (nat_lit 140,x0) ::
 (nat_lit 142,x85) ::
 (nat_lit 143,x86) ::
 (nat_lit 144,x0) ::
 (nat_lit 146,x87) ::
 (nat_lit 147,x0) ::
 (nat_lit 149,x89) ::
 (nat_lit 150,x90) ::
 (nat_lit 151,x0) ::
 (nat_lit 153,x91) ::
 (nat_lit 154,x0) ::
 (nat_lit 156,x93) ::
 (nat_lit 157,x94) ::
 (nat_lit 158,x0) ::
 (nat_lit 160,x95) ::
 (nat_lit 161,x0) ::
 (nat_lit 163,x97) ::
 (nat_lit 164,x98) ::
 (nat_lit 165,x0) ::
 (nat_lit 167,x99) ::
 (nat_lit 168,x0) ::
 (nat_lit 170,OY) ::
 (nat_lit 171,Ol) ::
 (nat_lit 172,x0) ::
 (nat_lit 174,Oz) ::
 (nat_lit 175,x0) ::
 (nat_lit 177,Oi) ::
 (nat_lit 178,OP) ::
 (nat_lit 179,x0) ::
 (nat_lit 181,Pz) ::
 (nat_lit 182,x0) ::
 (nat_lit 184,O9) ::
 (nat_lit 185,PZ) ::
 (nat_lit 186,x0) ::
 (nat_lit 188,On) ::
 (nat_lit 189,x0) ::
 (nat_lit 191,Pm) ::
 (nat_lit 192,Oa) ::
 (nat_lit 193,x0) ::
 (nat_lit 195,Pa) ::
 (nat_lit 196,x0) ::
 (nat_lit 198,OC) ::
 (nat_lit 199,Ob) ::
 (nat_lit 200,x0) ::
 (nat_lit 203,Ps) ::
 (nat_lit 204,ON) ::
 (nat_lit 205,x0) ::
 (nat_lit 208,OE) ::
 (nat_lit 209,PK) ::
 (nat_lit 210,PL) ::
 (nat_lit 211,Of) ::
 (nat_lit 212,x0) ::
 (nat_lit 214,Pt) ::
 (nat_lit 215,x0) ::
 (nat_lit 217,NP) ::
 (nat_lit 218,Pl) ::
 (nat_lit 219,x0) ::
 (nat_lit 221,OZ) ::
 (nat_lit 222,x0) ::
 (nat_lit 224,OM) ::
 (nat_lit 225,Ou) ::
 (nat_lit 226,x0) ::
 (nat_lit 229,OH) ::
 (nat_lit 230,O5) ::
 (nat_lit 231,x0) ::
 (nat_lit 233,PP) ::
 (nat_lit 234,x0) ::
 (nat_lit 236,NX) ::
 (nat_lit 237,Oy) ::
 (nat_lit 238,x0) ::
 (nat_lit 240,OQ) ::
 (nat_lit 241,x0) ::
 (nat_lit 243,Po) ::
 (nat_lit 244,O1) ::
 (nat_lit 245,x0) ::
 (nat_lit 248,NZ) ::
 (nat_lit 249,NU) ::
 (nat_lit 250,x0) ::
 (nat_lit 253,NT) ::
 (nat_lit 254,O7) ::
 (nat_lit 255,x0) ::
 (nat_lit 258,Pw) ::
 (nat_lit 259,Oo) ::
 (nat_lit 260,x0) ::
 (nat_lit 263,O4) ::
 (nat_lit 264,OL) ::
 (nat_lit 265,x0) ::
 (nat_lit 267,SJ) ::
 (nat_lit 268,x0) ::
 (nat_lit 270,Tt) ::
 (nat_lit 271,SR) ::
 (nat_lit 272,x0) ::
 (nat_lit 275,Ti) ::
 (nat_lit 276,S9) ::
 (nat_lit 277,x0) ::
 (nat_lit 280,TN) ::
 (nat_lit 281,Sf) ::
 (nat_lit 282,x0) ::
 (nat_lit 284,RQ) ::
 (nat_lit 285,x0) ::
 (nat_lit 287,S4) ::
 (nat_lit 288,RX) ::
 (nat_lit 289,x0) ::
 (nat_lit 292,Tx) ::
 (nat_lit 293,S0) ::
 (nat_lit 294,x0) ::
 (nat_lit 296,SZ) ::
 (nat_lit 297,x0) ::
 (nat_lit 299,RC) ::
 (nat_lit 300,TC) ::
 (nat_lit 301,x0) ::
 (nat_lit 303,R8) ::
 (nat_lit 304,x0) ::
 (nat_lit 306,Tb) ::
 (nat_lit 307,RZ) ::
 (nat_lit 308,x0) ::
 (nat_lit 310,SK) ::
 (nat_lit 311,x0) ::
 (nat_lit 313,Tf) ::
 (nat_lit 314,Th) ::
 (nat_lit 315,x0) ::
 (nat_lit 317,Sd) ::
 (nat_lit 318,x0) ::
 (nat_lit 320,RL) ::
 (nat_lit 321,S3) ::
 (nat_lit 322,x0) ::
 (nat_lit 324,Ug) ::
 (nat_lit 325,x0) ::
 (nat_lit 327,So) ::
 (nat_lit 328,TK) ::
 (nat_lit 329,x0) ::
 (nat_lit 331,R7) ::
 (nat_lit 332,x0) ::
 (nat_lit 334,Sc) ::
 (nat_lit 335,TL) ::
 (nat_lit 336,x0) ::
 (nat_lit 338,TV) ::
 (nat_lit 339,x0) ::
 (nat_lit 341,Uf) ::
 (nat_lit 342,ST) ::
 (nat_lit 343,x0) ::
 (nat_lit 345,Uo) ::
 (nat_lit 346,x0) ::
 (nat_lit 348,Um) ::
 (nat_lit 349,Uk) ::
 (nat_lit 350,x0) ::
 (nat_lit 353,SO) ::
 (nat_lit 354,SQ) ::
 (nat_lit 355,x0) ::
 (nat_lit 357,TB) ::
 (nat_lit 358,x0) ::
 (nat_lit 360,Ru) ::
 (nat_lit 361,Uz) ::
 (nat_lit 362,x0) ::
 (nat_lit 364,Ul) ::
 (nat_lit 365,x0) ::
 (nat_lit 367,RE) ::
 (nat_lit 368,UO) ::
 (nat_lit 369,x0) ::
 (nat_lit 371,To) ::
 (nat_lit 372,x0) ::
 (nat_lit 374,SD) ::
 (nat_lit 375,Up) ::
 (nat_lit 376,x0) ::
 (nat_lit 378,Ty) ::
 (nat_lit 379,x0) ::
 (nat_lit 381,UK) ::
 (nat_lit 382,RY) ::
 (nat_lit 383,x0) ::
 (nat_lit 386,UE) ::
 (nat_lit 387,Ue) ::
 (nat_lit 388,x0) ::
 (nat_lit 390,Ua) ::
 (nat_lit 391,x0) ::
 (nat_lit 393,UF) ::
 (nat_lit 394,Se) ::
 (nat_lit 395,x0) ::
 (nat_lit 397,RV) ::
 (nat_lit 398,x0) ::
 (nat_lit 400,Ui) ::
 (nat_lit 401,S6) ::
 (nat_lit 402,x0) ::
 (nat_lit 404,Sy) ::
 (nat_lit 405,x0) ::
 (nat_lit 407,RJ) ::
 (nat_lit 408,SB) ::
 (nat_lit 409,x0) ::
 (nat_lit 412,UM) ::
 (nat_lit 413,Uc) ::
 (nat_lit 414,x0) ::
 (nat_lit 417,Tw) ::
 (nat_lit 418,Tm) ::
 (nat_lit 419,x0) ::
 (nat_lit 422,Uw) ::
 (nat_lit 423,T5) ::
 (nat_lit 424,x0) ::
 (nat_lit 427,Uj) ::
 (nat_lit 428,Tz)::[]
abbrev qq:Program:=PySem.W.view PySem.Challenge.pw_pebbletoll_k55_whole_fairest_shares [1,2,3,4,5,6,8,9,10,11,13,14,15,16,17,18,19,20,21,22,23,24,25,27,28,29,30,32,33,34,35,36,37,38,39,40,41,42,43,44,45,46,47,49,50,51,52,53,54,55,56,57,58,59,60,61,62,63,64,65,66,67,68,69]
abbrev asK:List Addr:=[2,3,15,17,18,20,21,22,24,25,27,28,29,31,32,34,35,36,38,39,41,42,43,45,46,48,49,50,53,54,55,62,63,64,65,68,75,76,77,80,87,88,89,92,99,100,101,111,114,115,116,117,118,119,120,123,125,126,128,129,130,132,133,135,136,137,139,140,142,143,144,146,147,149,150,151,153,154,156,157,158,160,161,163,164,165,167,168,170,171,172,174,175,177,178,179,181,182,184,185,186,188,189,191,192,193,195,196,198,199,200,203,204,205,208,209,210,211,212,214,215,217,218,219,221,222,224,225,226,229,230,231,233,234,236,237,238,240,241,243,244,245,248,249,250,253,254,255,258,259,260,263,264,265,267,268,270,271,272,275,276,277,280,281,282,284,285,287,288,289,292,293,294,296,297,299,300,301,303,304,306,307,308,310,311,313,314,315,317,318,320,321,322,324,325,327,328,329,331,332,334,335,336,338,339,341,342,343,345,346,348,349,350,353,354,355,357,358,360,361,362,364,365,367,368,369,371,372,374,375,376,378,379,381,382,383,386,387,388,390,391,393,394,395,397,398,400,401,402,404,405,407,408,409,412,413,414,417,418,419,422,423,424,427,428]
theorem asK_eq:∀ P,asK=(KK P).map (·.1):=fun _=>by kernel_rfl
theorem XS (w:World):(fun os=>((staticsOk (importedModules PySem.Challenge.pw_pebbletoll_k55_whole_fairest_shares.main.body) (boot_heap w.params) (hf w.params) && namesBound PySem.Challenge.pw_pebbletoll_k55_whole_fairest_shares (hf w.params) && gensDone (Shared.mk (Hd.hf w.params) (.mk []) (.mk 0 0 0 0) 777 os) && laidKept (boot_heap w.params) (hf w.params)),openSeen qq [] (importedModules PySem.Challenge.pw_pebbletoll_k55_whole_fairest_shares.main.body) (fun s=>PySem.W.xlAt Hd.qq [] s && PySem.W.recOk (PySem.W.RowW.records (PySem.W.OpenRow.toRowW (PySem.Challenge.rw_pebbletoll_k55_whole_fairest_shares).row)) s) true (Shared.mk (Hd.hf w.params) (.mk []) (.mk 0 0 0 0) 777 os),Hook.obs (PySem.W.kHook Hd.KK Hd.asK Hd.asK_eq) (Shared.mk (Hd.hf w.params) (.mk []) (.mk 0 0 0 0) 777 os)))=fun _=>(true,openGood qq [],Hook.val (PySem.W.kHook Hd.KK Hd.asK Hd.asK_eq) w):=by kernel_rfl
theorem left:PySem.W.LeftO (PySem.Challenge.rw_pebbletoll_k55_whole_fairest_shares).row.prog qq [] (fun s=>PySem.W.xlAt Hd.qq [] s && PySem.W.recOk (PySem.W.RowW.records (PySem.W.OpenRow.toRowW (PySem.Challenge.rw_pebbletoll_k55_whole_fairest_shares).row)) s) (PySem.W.Hook.obs (PySem.W.kHook Hd.KK Hd.asK Hd.asK_eq)) (PySem.W.Hook.val (PySem.W.kHook Hd.KK Hd.asK Hd.asK_eq)) 5676:=LeftO.of_pieces opn siz run (by decide) XS
end Hd
set_option Elab.async false
set_option linter.all false
set_option maxRecDepth 100000
namespace L2
open PySem PySem.Spec PyProof.Rows
abbrev Key:=Sum Int Str
def BP:Key->Value->Bool
 | .inl k,v=>Value.isInt k v
 | .inr x,v=>Value.isStrOf x v
def Yo (w:World):Key->Int
 | .inl k=>hashInt k
 | .inr x=>hashStr w x
theorem fQ:∀ {k:Key} {v:Value},BP k v=true->(∃ i t,k=Sum.inl i/\v=Value.int i t)\/(∃ x t,k=Sum.inr x/\v=Value.str x t)
 | .inl i,v,h=>by
   obtain ⟨t,e⟩:=Value.isInt_shape (k:=i) (v:=v) h;exact .inl ⟨i,t,rfl,e⟩
 | .inr x,v,h=>by
   obtain ⟨t,e⟩:=Value.isStrOf_shape (x:=x) (v:=v) h;exact .inr ⟨x,t,rfl,e⟩
theorem QF (i:Int) (t:Tok):BP (.inl i) (.int i t)=true:=by simp [BP,Value.isInt]
theorem Rq (x:Str) (t:Tok):BP (.inr x) (.str x t)=true:=by simp [BP,Value.isStrOf]
theorem Xf (a b:Int):decide ((Sum.inl a:Key)=Sum.inl b)=(a == b):=by
 by_cases e:a=b
 . subst e;simp
 . have h:¬ (Sum.inl a:Key)=Sum.inl b:=fun q=>e (Sum.inl.inj q);rw [decide_eq_false h];exact (beq_eq_false_iff_ne.mpr e).symm
theorem WD (a b:Str):decide ((Sum.inr a:Key)=Sum.inr b)=decide (a=b):=by
 by_cases e:a=b
 . subst e;simp
 . have h:¬ (Sum.inr a:Key)=Sum.inr b:=fun q=>e (Sum.inr.inj q);rw [decide_eq_false h,decide_eq_false e]
theorem XB (a:Int) (b:Str):decide ((Sum.inl a:Key)=Sum.inr b)=false:=decide_eq_false (fun q=>nomatch q)
theorem XN (a:Str) (b:Int):decide ((Sum.inr a:Key)=Sum.inl b)=false:=decide_eq_false (fun q=>nomatch q)
def eV (prog:Program) (w:World):PySem.KeyKind prog w Key where
 is:=BP
 hash:=Yo w
 inj:=fun v a b ha hb=>by
   rcases fQ ha with ⟨i,t,rfl,rfl⟩|⟨x,t,rfl,rfl⟩
   . rcases fQ hb with ⟨j,u,rfl,e⟩|⟨y,u,rfl,e⟩
     . injection e with e1 _;rw [e1]
     . exact nomatch e
   . rcases fQ hb with ⟨j,u,rfl,e⟩|⟨y,u,rfl,e⟩
     . exact nomatch e
     . injection e with e1 _;rw [e1]
 byValue:=fun k v h=>by
   rcases fQ h with ⟨i,t,rfl,rfl⟩|⟨x,t,rfl,rfl⟩ <;> rfl
 pyHash:=fun hv h=>by
   rcases fQ hv with ⟨i,t,rfl,rfl⟩|⟨x,t,rfl,rfl⟩
   . exact wpAny_pyHash_int h
   . exact wpAny_pyHash_str h
 eqBool:=fun hu hv h=>by
   rcases fQ hu with ⟨i,t,rfl,rfl⟩|⟨x,t,rfl,rfl⟩
   . rcases fQ hv with ⟨j,u,rfl,rfl⟩|⟨y,u,rfl,rfl⟩
     . rw [Xf] at h;exact wpAny_eqBool_int h
     . rw [XB] at h;exact SeqAt.EqAt.int_str i t y u _ _ _ _ h
   . rcases fQ hv with ⟨j,u,rfl,rfl⟩|⟨y,u,rfl,rfl⟩
     . rw [XN] at h;exact SeqAt.EqAt.str_int x t j u _ _ _ _ h
     . rw [WD] at h;exact wpAny_eqBool_str h
 «strs»:=fun k x t v h=>by
   rcases fQ h with ⟨i,u,rfl,e⟩|⟨y,u,rfl,e⟩
   . exact nomatch e
   . injection e with e1 _
     subst e1;cases v <;> rfl
theorem Mx (prog:Program) (w:World) (i:Int) (t:Tok):(eV prog w).is (.inl i) (.int i t)=true:=QF i t
theorem L6 (prog:Program) (w:World) (x:Str) (t:Tok):(eV prog w).is (.inr x) (.str x t)=true:=Rq x t
end L2
namespace L2
open PySem PySem.Spec PyProof.Rows
inductive V where
 | non|bl (b:Bool)|int (i:Int)|str (x:Str)|byt (b:Array UInt8)|flt (b:UInt64)|ref (a:Addr)|ty (n:String)
 deriving DecidableEq
def RelV:V->Value->Prop
 | .non,u=>u=Value.none
 | .bl b,u=>u=Value.bool b
 | .int i,u=>∃ t,u=Value.int i t
 | .str x,u=>∃ t,u=Value.str x t
 | .byt b,u=>∃ t,u=Value.bytes b t
 | .flt b,u=>∃ t,u=Value.float b t
 | .ref a,u=>u=Value.ref a
 | .ty n,u=>u=Value.type n
abbrev Vals:List V->List Value->Prop:=Paired RelV
theorem Vals.length {xs:List V} {us:List Value} (r:Vals xs us):xs.length=us.length:=Paired.length r
theorem Vals.get:∀ {xs:List V} {us:List Value} {i:Nat} {x:V},Vals xs us->xs[i]?=some x->∃ u,us[i]?=some u/\RelV x u
 | _,_,_,_,.nil,e=>by simp at e
 | _,_,0,_,.cons r _,e=>by simp at e;subst e;exact ⟨_,rfl,r⟩
 | _,_,i+1,x,.cons _ t,e=>by
   obtain ⟨u,h1,h2⟩:=Vals.get (i:=i) (x:=x) t (by simpa using e);exact ⟨u,by simpa using h1,h2⟩
theorem Vals.set {x:V} {u:Value} (r:RelV x u):∀ {xs:List V} {us:List Value} (i:Nat),Vals xs us->Vals (xs.set i x) (us.set i u)
 | _,_,_,.nil=>.nil
 | _,_,0,.cons _ t=>.cons r t
 | _,_,i+1,.cons q t=>.cons q (Vals.set r i t)
theorem Vals.append:∀ {xs ys:List V} {us ws:List Value},Vals xs us->Vals ys ws->Vals (xs++ys) (us++ws)
 | _,_,_,_,.nil,s=>s
 | _,_,_,_,.cons r t,s=>.cons r (Vals.append t s)
theorem Vals.take:∀ {xs:List V} {us:List Value} (n:Nat),Vals xs us->Vals (xs.take n) (us.take n)
 | _,_,0,_=>.nil
 | _,_,_+1,.nil=>.nil
 | _,_,n+1,.cons r t=>.cons r (Vals.take n t)
theorem Vals.drop:∀ {xs:List V} {us:List Value} (n:Nat),Vals xs us->Vals (xs.drop n) (us.drop n)
 | _,_,0,r=>r
 | _,_,_+1,.nil=>.nil
 | _,_,n+1,.cons _ t=>Vals.drop n t
def RelO:Option V->Option Value->Prop
 | some v,some u=>RelV v u
 | none,none=>True
 | _,_=>False
def KV {κ:Type}:List (κ × V)->List (κ × Value)->Prop:=Paired fun (p:κ × V) (q:κ × Value)=>p.1=q.1/\RelV p.2 q.2
def kV:Key->V
 | .inl i=>.int i
 | .inr x=>.str x
inductive HO where
 /-- a list -/
 | lst (xs:List V)
 /-- a tuple (never changes) -/
 | tup (xs:List V)
 /-- a dict whose keys are ints and texts;one whose keys are tuples of ints and texts (the empty one is both) -/
 | dK (kvs:List (Key × V))|dT (kvs:List (List Key × V))
 /-- a set of ints: its members,its size -/
 | set (S:Int->Bool) (n:Nat)
 /-- an instance of the class at C,its dict at dx,its attributes -/
 | ins (C dx:Addr) (fs:List (Str × V))
 /-- the dict of the instance at x -/
 | own (x:Addr)
 /-- the dict of an exception -/
 | xd (fs:List (Str × V))
 /-- a bound method,f of x -/
 | met (f x:Addr)
 /-- a range object lo,lo+1,.. below hi -/
 | rng (lo hi:Int)
 /-- a thing that is known to the object (the script;a dict while a loop walks it): read,never written while it is so -/
 | frz (o:Obj) (u:HO)
 /-- a code object's table -/
 | tbl (ps:Array Value)
 /-- any other thing,by what is true of its one object (a def of one's own: SetO a S n:=HO.ext fun h=>..) -/
 | ext (φ:Heap->Prop)
abbrev Hp:=Addr->Option HO
def upd (H:Hp) (a:Addr) (o:HO):Hp:=fun b=>if b=a then some o else H b
theorem ah {H:Hp} {a:Addr} {o:HO}:upd H a o a=some o:=by unfold upd;rw [if_pos rfl]
theorem ao {H:Hp} {a b:Addr} {o:HO} (h:b≠a):upd H a o b=H b:=by unfold upd;rw [if_neg h]
theorem md {H:Hp} {a:Addr} {o u:HO}:upd (upd H a o) a u=upd H a u:=by
 funext b;unfold upd;split <;> rfl
theorem im {H:Hp} {a b:Addr} {o u:HO} (h:H a=some o) (h':H b=some u) (d:o≠u):a≠b:=by
 intro e;subst e;rw [h] at h';exact d (Option.some.inj h')
theorem aX {H:Hp} {a b:Addr} {o:HO} (h:H a=some o) (h':H b=none):a≠b:=by
 intro e;subst e;rw [h] at h';cases h'
section
variable (P:Program) (w:World)
def ObjOk (H:Hp) (h:Heap) (a:Addr):HO->Prop
 | .lst xs=>xs.length<=sizeLine/\∃ (its:List Value) (n:Nat),Vals xs its/\h.get? a=some { cls:=.type "list",data:=.seq its.toArray n }
 | .tup xs=>xs.length<=sizeLine/\∃ its:List Value,Vals xs its/\IsTup h a its.toArray
 | .dK kvs=>kvs.length<=sizeLine/\(a == sysModules)=false/\∃ vs,KV kvs vs/\h.DictOf (eV P w) a vs
 | .dT kvs=>kvs.length<=sizeLine/\(a == sysModules)=false/\∃ xs:List (List Key × Addr × Value),
     Paired (fun (p:List Key × V) (q:List Key × Addr × Value)=>p.1=q.1/\H q.2.1=some (.tup (p.1.map kV))/\RelV p.2 q.2.2) kvs xs /\
     ∃ o es ep,h.get? a=some o/\o.ExactDict/\o.data=.dict es ep/\es.toList=xs.map (entryOfKey (tupleKind (eV P w)))/\(xs.map (·.1)).Nodup
 | .set S n=>h.SetOf (intKind P w) a S n
 | .ins C dx fs=>H dx=some (.own a)/\fs.length<=1000/\dx≠a/\h.get? a=some (PySem.W.instObj C dx) /\
     ∃ mA,h.Ns1 dx mA/\(∀ f,RelO (fs.lookup f) (mA f))/\PySem.Within mA (fs.map (·.1))
 | .own _=>∃ o,h.get? a=some o
 | .xd fs=>∃ mA,h.Ns1 a mA/\∀ f,RelO (fs.lookup f) (mA f)
 | .rng lo hi=>∃ t u v,h.get? a=some { cls:=.type "range",data:=.fields #[.int lo t,.int hi u,.int 1 v] }
 | .frz o u=>h.get? a=some o/\ObjOk H h a u
 | .tbl ps=>h.get? a=some { cls:=.none,data:=.fields ps }
 | .met f x=>h.get? a=some (PySem.W.methodObj (.ref f) (.ref x))
 | .ext φ=>φ h/\(∃ o,h.get? a=some o)/\∀ h1 h2:Heap,φ h1->(∀ o,h1.get? a=some o->h2.get? a=some o)->φ h2
def HOk (H:Hp) (h:Heap):Prop:=∀ a o,H a=some o->ObjOk P w H h a o
end
section
variable {P:Program} {w:World} {H H':Hp} {h h':Heap} {a:Addr} {o:HO}
theorem ObjOk.lt (x:ObjOk P w H h a o):a<h.objs.size:=by
 cases o with
 | lst xs=>obtain ⟨_,_,_,_,e⟩:=x;exact Heap.lt_size e
 | tup xs=>obtain ⟨_,_,_,p⟩:=x;exact p.lt
 | dK kvs=>obtain ⟨_,_,_,_,o,_,_,e,_⟩:=x;exact Heap.lt_size e
 | dT kvs=>obtain ⟨_,_,_,_,o,_,_,e,_⟩:=x;exact Heap.lt_size e
 | set S n=>obtain ⟨o,_,_,_,e,_⟩:=x;exact Heap.lt_size e
 | ins C dx fs=>obtain ⟨_,_,_,e,_⟩:=x;exact Heap.lt_size e
 | own y=>obtain ⟨_,e⟩:=x;exact Heap.lt_size e
 | xd fs=>obtain ⟨_,⟨_,_,_,e,_⟩,_⟩:=x;exact Heap.lt_size e
 | rng lo hi=>obtain ⟨_,_,_,e⟩:=x;exact Heap.lt_size e
 | frz ob u=>obtain ⟨e,_⟩:=x;exact Heap.lt_size e
 | tbl ps=>exact Heap.lt_size (show h.get? a=some _ from x)
 | met f y=>exact Heap.lt_size (show h.get? a=some _ from x)
 | ext φ=>obtain ⟨_,⟨_,e⟩,_⟩:=x;exact Heap.lt_size e
theorem Paired.mapP {α β:Type} {F G:α->β->Prop}:∀ {l₁:List α} {l₂:List β},Paired F l₁ l₂->(∀ a b,F a b->G a b)->Paired G l₁ l₂
 | _,_,.nil,_=>.nil
 | _,_,.cons r t,f=>.cons (f _ _ r) (Paired.mapP t f)
theorem Paired.imp' {α β:Type} {F G:α->β->Prop} (f:∀ a b,F a b->G a b) {l₁:List α} {l₂:List β} (r:Paired F l₁ l₂):Paired G l₁ l₂:=Paired.mapP r f
theorem ObjOk.stay (x:ObjOk P w H h a o) (k:∀ b u,(b=a\/H b=some (.own a))->h.get? b=some u->h'.get? b=some u)
   (ho:∀ b,H b=some (.own a)->H' b=some (.own a)) (ht:∀ b xs,H b=some (.tup xs)->H' b=some (.tup xs)):ObjOk P w H' h' a o:=by
 induction o with
 | lst xs=>obtain ⟨z,its,n,r,e⟩:=x;exact ⟨z,its,n,r,k _ _ (.inl rfl) e⟩
 | tup xs=>obtain ⟨z,its,r,ob,e,c⟩:=x;exact ⟨z,its,r,ob,k _ _ (.inl rfl) e,c⟩
 | dK kvs=>obtain ⟨z,y,vs,r,ob,es,ep,e,c⟩:=x;exact ⟨z,y,vs,r,ob,es,ep,k _ _ (.inl rfl) e,c⟩
 | dT kvs =>
   obtain ⟨z,y,xs,r,ob,es,ep,e,c⟩:=x;exact ⟨z,y,xs,Paired.mapP r fun p q z=>⟨z.1,ht _ _ z.2.1,z.2.2⟩,ob,es,ep,k _ _ (.inl rfl) e,c⟩
 | set S n=>obtain ⟨ob,es,ep,t,e,c⟩:=x;exact ⟨ob,es,ep,t,k _ _ (.inl rfl) e,c⟩
 | ins C dx fs =>
   obtain ⟨d,z,ne,e,mA,⟨od,es,ep,e2,c⟩,r⟩:=x;exact ⟨ho _ d,z,ne,k _ _ (.inl rfl) e,mA,⟨od,es,ep,k _ _ (.inr d) e2,c⟩,r⟩
 | own y=>obtain ⟨ob,e⟩:=x;exact ⟨ob,k _ _ (.inl rfl) e⟩
 | xd fs=>obtain ⟨mA,⟨od,es,ep,e,c⟩,r⟩:=x;exact ⟨mA,⟨od,es,ep,k _ _ (.inl rfl) e,c⟩,r⟩
 | rng lo hi=>obtain ⟨t,u,v,e⟩:=x;exact ⟨t,u,v,k _ _ (.inl rfl) e⟩
 | frz ob u ih=>obtain ⟨e,q⟩:=x;exact ⟨k _ _ (.inl rfl) e,ih q⟩
 | tbl ps =>
   have e:h.get? a=some { cls:=.none,data:=.fields ps }:=x;show h'.get? a=some { cls:=.none,data:=.fields ps };exact k a _ (.inl rfl) e
 | met f y =>
   have e:h.get? a=some (PySem.W.methodObj (.ref f) (.ref y)):=x;show h'.get? a=some (PySem.W.methodObj (.ref f) (.ref y));exact k a _ (.inl rfl) e
 | ext φ=>obtain ⟨p,⟨o,e⟩,st⟩:=x;exact ⟨st _ _ p fun o q=>k _ _ (.inl rfl) q,⟨o,k _ _ (.inl rfl) e⟩,st⟩
theorem HOk.lt (x:HOk P w H h) (e:H a=some o):a<h.objs.size:=(x a o e).lt
theorem HOk.fresh (x:HOk P w H h) (e:h.objs.size<=a):H a=none:=by
 cases q:H a with
 | none=>rfl
 | some u=>exact absurd (Nat.lt_of_lt_of_le (x.lt q) e) (Nat.lt_irrefl _)
theorem HOk.kept (x:HOk P w H h) (k:∀ b u,h.get? b=some u->h'.get? b=some u):HOk P w H h':=fun a o e =>
 (x a o e).stay (fun b u _ q=>k b u q) (fun _ q=>q) fun _ _ q=>q
theorem HOk.laid (x:HOk P w H h) (k:∀ b u,h.get? b=some u->h'.get? b=some u) (hp:h.objs.size<=a) (new:ObjOk P w (upd H a o) h' a o):HOk P w (upd H a o) h':=fun b u e=>by
 have hn:=x.fresh hp;by_cases hb:b=a
 . subst hb;rw [ah] at e;cases e;exact new
 . rw [ao hb] at e;exact (x b u e).stay (fun c v _ q=>k c v q) (fun c q=>by rw [ao (aX q hn)];exact q) fun c xs q=>by rw [ao (aX q hn)];exact q
end
def Rd (H:Hp) (a:Addr) (u:HO):Prop:=H a=some u\/∃ o,H a=some (.frz o u)
theorem Rd.ok {P:Program} {w:World} {H:Hp} {h:Heap} {a:Addr} {u:HO} (r:Rd H a u) (x:HOk P w H h):ObjOk P w H h a u:=by
 rcases r with r|⟨o,r⟩
 . exact x a u r
 . obtain ⟨_,q⟩:=x a _ r;exact q
def Mut:Option HO->Prop
 | some (.lst _)=>True
 | some (.dK _)=>True
 | some (.dT _)=>True
 | some (.set _ _)=>True
 | some (.ins _ _ _)=>True
 | some (.ext _)=>True
 | _=>False
section
variable {P:Program} {w:World} {H:Hp} {h h':Heap} {x e:Addr} {o':HO}
theorem HOk.write (ok:HOk P w H h) (mu:Mut (H x)) (he:e=x\/H e=some (.own x)) (k:∀ b u,b≠e->h.get? b=some u->h'.get? b=some u) (heo:∃ u,h'.get? e=some u)
   (new:ObjOk P w (upd H x o') h' x o'):HOk P w (upd H x o') h':=fun b u q=>by
 have nown:∀ c y,H c=some (.own y)->c≠x:=fun c y r z=>by subst z;rw [r] at mu;exact mu
 have ntup:∀ c xs,H c=some (.tup xs)->c≠x:=fun c xs r z=>by subst z;rw [r] at mu;exact mu
 by_cases hb:b=x
 . subst hb;rw [ah] at q;cases q;exact new
 . rw [ao hb] at q;by_cases hbe:b=e
   . have q':H b=some (.own x):=by
       rcases he with z|z
       . exact absurd (hbe.trans z) hb
       . rw [hbe];exact z
     rw [q] at q';cases q';obtain ⟨v,hv⟩:=heo;exact ⟨v,by rw [hbe];exact hv⟩
   . refine (ok b u q).stay (fun c v hc r=>k c v ?_ r) (fun c r=>by rw [ao (nown c b r)];exact r) fun c xs r=>by rw [ao (ntup c xs r)];exact r
     rcases hc with rfl|hc
     . exact hbe
     . rintro rfl;rcases he with z|z
       . exact nown c b hc z
       . rw [hc] at z;cases z;exact hb rfl
end
structure Un (fs ex:List Addr) (H H':Hp) (h h':Heap):Prop where
 keep:∀ b o,h.get? b=some o->H b=none->b ∉ fs->b ∉ ex->h'.get? b=some o
 slot:∀ b o,h.get? b=some o->H b=none->b∈fs->b ∉ ex->∃ sl,h'.get? b=some { o with slots:=sl }
 free:∀ b o,h.get? b=some o->H b=none->b ∉ ex->H' b=none
 there:∀ b o,h.get? b=some o->b ∉ ex->∃ o',h'.get? b=some o'
 tups:∀ b xs,H b=some (.tup xs)->H' b=some (.tup xs)
 frzs:∀ b o u,H b=some (.frz o u)->H' b=some (.frz o u)
 tbls:∀ b ps,H b=some (.tbl ps)->∃ more,H' b=some (.tbl (ps++more))
section
variable {fs fs' ex ex':List Addr} {H H1 H2:Hp} {h h1 h2 h':Heap} {a x e:Addr} {o:HO}
theorem Un.any (u:Un fs ex H H1 h h1) {b:Addr} {ob:Obj} (q:h.get? b=some ob) (n:H b=none) (hx:b ∉ ex):∃ sl,h1.get? b=some { ob with slots:=sl }:=by
 by_cases hb:b∈fs
 . exact u.slot b ob q n hb hx
 . exact ⟨ob.slots,u.keep b ob q n hb hx⟩
theorem Un.kept (k:∀ b u,h.get? b=some u->h'.get? b=some u):Un fs ex H H h h' :=
 ⟨fun b ob q _ _ _=>k b ob q,fun b ob q _ _ _=>⟨ob.slots,k b ob q⟩,fun _ _ _ n _=>n,fun b ob q _=>⟨ob,k b ob q⟩,fun _ _ q=>q,fun _ _ _ q=>q,fun _ ps q=>⟨#[],by rw [q];simp⟩⟩
theorem Un.refl:Un fs ex H H h h:=Un.kept fun _ _ q=>q
theorem Un.laid (k:∀ b u,h.get? b=some u->h'.get? b=some u) (hp:h.objs.size<=a) (hn:H a=none):Un fs ex H (upd H a o) h h' where
 keep:=fun b u q _ _ _=>k b u q
 slot:=fun b u q _ _ _=>⟨u.slots,k b u q⟩
 free:=fun b u q n _=>by rw [ao (Nat.ne_of_lt (Nat.lt_of_lt_of_le (Heap.lt_size q) hp))];exact n
 there:=fun b u q _=>⟨u,k b u q⟩
 tups:=fun b xs q=>by rw [ao (aX q hn)];exact q
 frzs:=fun b u xs q=>by rw [ao (aX q hn)];exact q
 tbls:=fun b ps q=>⟨#[],by rw [ao (aX q hn),q];simp⟩
theorem Un.write (mu:Mut (H x)) (he:e=x\/H e=some (.own x)) (k:∀ b u,b≠e->h.get? b=some u->h'.get? b=some u) (heo:∃ u,h'.get? e=some u):Un fs ex H (upd H x o) h h':=by
 have hx:∀ b,H b=none->b≠x:=fun b n z=>by subst z;rw [n] at mu;exact mu
 have hb:∀ b,H b=none->b≠e:=fun b n z=>by
   subst z;rcases he with r|r
   . exact hx b n r
   . rw [n] at r;cases r
 have hm:∀ b u,H b=some u->¬ Mut (some u)->b≠x:=fun b u q nm z=>by subst z;rw [q] at mu;exact nm mu
 refine ⟨fun b u q n _ _=>k b u (hb b n) q,fun b u q n _ _=>⟨u.slots,k b u (hb b n) q⟩,fun b u q n _=>by rw [ao (hx b n)];exact n,fun b u q _=>?_,
   fun b xs q=>by rw [ao (hm b _ q fun z=>z)];exact q,fun b u xs q=>by rw [ao (hm b _ q fun z=>z)];exact q,fun b ps q=>⟨#[],by rw [ao (hm b _ q fun z=>z),q];simp⟩⟩
 by_cases hbe:b=e
 . subst hbe;exact heo
 . exact ⟨u,k b u hbe q⟩
end
def trk (h:Heap) (H:Hp):List Addr:=(List.range h.objs.size).filter fun a=>(H a).isSome
def yF (h:Heap) (H:Hp):Heap:=PySem.W.hideAll h (trk h H)
theorem Qh (h:Heap) (H:Hp):(yF h H).objs.size=h.objs.size:=PySem.W.hideAll_size _ _
theorem R5 {h:Heap} {H:Hp} {b:Addr} {o:Obj} (e:h.get? b=some o) (n:H b=none):(yF h H).get? b=some o :=
 PySem.W.hideAll_get _ e fun hm=>by
   have q:(H b).isSome=true:=(List.mem_filter.mp hm).2;rw [n] at q;simp at q
theorem VY {h:Heap} {H:Hp} {b:Addr} {o:Obj} (e:(yF h H).get? b=some o):h.get? b=some o/\H b=none:=by
 have e':h.get? b=some o:=PySem.W.of_hideAll (trk h H) e;refine ⟨e',?_⟩;cases q:H b with
 | none=>rfl
 | some x =>
   have hm:b∈trk h H:=List.mem_filter.mpr ⟨List.mem_range.mpr (Heap.lt_size e'),by simp [q]⟩;have z:(yF h H).get? b=none:=PySem.W.hideAll_none (trk h H) hm;rw [z] at e;cases e
def VL (g h:Heap) (L:Addr):List (Addr × Obj):=(List.range h.objs.size).filterMap fun a=>if a=L\/(g.get? a).isSome=true then none else (h.get? a).map fun o=>(a,o)
def rest (g h:Heap) (L d:Addr):List (Addr × Obj):=(VL g h L).filter fun p=>decide (p.1≠d)
end L2
namespace L2
open PySem PySem.Spec PyProof.Rows
structure Mod (K:PySem.W.Frag) (mg:Str->Option Value) (base:Heap):Prop where
 kin:K.In base
 glob:base.Ns mainGlobals mg
 blt:∃ mb,base.Ns builtinsNs mb/\∀ x:Str,x≠"__name__"->mb x=bootBuiltins x
 nolimit:base.NoLimit
structure Cx where
 prog:Program
 w:World
 K:PySem.W.Frag
 mg:Str->Option Value
 base:Heap
 A:Around
 N:List Str
 s₀:Shared
 H₀:Hp
 env:Env
 outer:List Env
 stack:List Env
 ex:List Addr
 fn:Str->Bool
 calm:Bool
 pn:List (Addr × Obj)
 xe:Value->Shared->Prop
def frs (l:List Env):List Addr:=l.filterMap (·.frame)
abbrev Cx.fs (X:Cx):List Addr:=frs X.outer
def Vis (sc:Scope) (x:Str):Prop:=sc.names.lookup x=some .local\/sc.names.lookup x=some .cell\/sc.names.lookup x=some .free
def Loc (sc:Scope) (x:Str):Prop:=sc.names.lookup x=some .local\/sc.names.lookup x=some .cell
def Yd (env:Env) (h:Heap) (m:Str->Option Value) (x:Str) (u:Value):Prop :=
 (env.kindOf x=some .local/\m x=some u)\/((env.kindOf x=some .cell\/env.kindOf x=some .free)/\∃ c,env.cells.lookup x=some c/\h.IsCell c (some u))
structure Cx.Ok (X:Cx):Prop where
 mod:Mod X.K X.mg X.base
 kind:X.env.scope.kind=.function
 glob:X.env.globals=mainGlobals
 blt:X.env.builtins=builtinsNs
 above:X.s₀.heap.objs.size<=X.env.locals
 inj:∀ x y c,X.env.cells.lookup x=some c->X.env.cells.lookup y=some c->x=y
 has:∀ x,(X.env.kindOf x=some .cell\/X.env.kindOf x=some .free)->∃ c,X.env.cells.lookup x=some c
 cab:∀ x c,X.fn x=true->X.env.cells.lookup x=some c->X.s₀.heap.objs.size<=c
 hd:X.calm=true->X.A.handled=none
 frames:X.A.frames=some X.stack
 stk:X.stack=X.outer\/(X.stack=X.env::X.outer/\X.env.frame=some X.env.locals)
 exf:∀ b∈X.ex,b≠X.env.locals/\∀ x c,X.env.cells.lookup x=some c->c≠b
 bs:∀ b o,X.base.get? b=some o->X.s₀.heap.get? b=some o/\X.H₀ b=none
 bsz:X.base.objs.size<=X.s₀.heap.objs.size
 noex:∀ b o,X.base.get? b=some o->b ∉ X.ex
 exfs:∀ b∈X.ex,b ∉ X.fs
 funs:X.s₀.heap.FunFrames X.base X.outer
 frf:∀ b∈X.fs,X.H₀ b=none
structure Inv (X:Cx) (pins:List (Addr × Obj)) (σ:List (Option V)) (H:Hp) (s:Shared):Prop where
 ok:X.Ok
 os:s.os=X.s₀.os
 bare:AllBare s.gens
 base:Un X.fs X.ex X.H₀ H X.s₀.heap s.heap
 loc:∃ m,s.heap.Ns X.env.locals m/\∀ (i:Nat) (x:Str) (v:V),X.N[i]?=some x->σ[i]?=some (some v)->Vis X.env.scope x->∃ u,RelV v u/\Yd X.env s.heap m x u
 cell:∀ x c,X.env.cells.lookup x=some c->∃ v,s.heap.IsCell c v
 free:H X.env.locals=none
 freeC:∀ x c,X.env.cells.lookup x=some c->H c=none
 pin:∀ p∈X.pn++pins,s.heap.get? p.1=some p.2/\H p.1=none/\p.1≠X.env.locals/\p.1 ∉ X.fs/\∀ v,p.2.data≠.cell v
 hok:HOk X.prog X.w H s.heap
 len:σ.length=X.N.length
section
variable {X:Cx} {pins:List (Addr × Obj)} {σ:List (Option V)} {H H':Hp} {s:Shared} {h':Heap}
theorem Cx.Ok.nofr (ok:X.Ok) {b:Addr} {o:Obj} (e:X.base.get? b=some o):b ∉ X.fs:=fun hb=>by
 have:=(ok.funs.mem hb).1;rw [e] at this;cases this
theorem Inv.bs (I:Inv X pins σ H s):∀ b o,X.base.get? b=some o->s.heap.get? b=some o/\H b=none:=fun b o e =>
 ⟨I.base.keep b o (I.ok.bs b o e).1 (I.ok.bs b o e).2 (I.ok.nofr e) (I.ok.noex b o e),I.base.free b o (I.ok.bs b o e).1 (I.ok.bs b o e).2 (I.ok.noex b o e)⟩
theorem Inv.bk (I:Inv X pins σ H s):∀ b o,X.base.get? b=some o->s.heap.get? b=some o:=fun b o e=>(I.bs b o e).1
theorem Inv.mod (I:Inv X pins σ H s):Mod X.K X.mg X.base:=I.ok.mod
theorem Inv.kIn (I:Inv X pins σ H s):X.K.In s.heap:=I.ok.mod.kin.keeps I.bk
theorem Inv.lt (I:Inv X pins σ H s):X.env.locals<s.heap.objs.size:=let ⟨_,hn,_⟩:=I.loc;hn.lt
theorem Inv.sz (I:Inv X pins σ H s):X.s₀.heap.objs.size<=s.heap.objs.size:=Nat.le_trans I.ok.above (Nat.le_of_lt I.lt)
theorem Inv.nofs (I:Inv X pins σ H s) {a:Addr} (h:s.heap.objs.size<=a):a ∉ X.fs:=fun hb=>by
 obtain ⟨_,o,ho,_⟩:=I.ok.funs.mem hb;exact absurd (Nat.lt_of_lt_of_le (Heap.lt_size ho) (Nat.le_trans I.sz h)) (Nat.lt_irrefl _)
theorem Inv.cne (I:Inv X pins σ H s):∀ x c,X.env.cells.lookup x=some c->c≠X.env.locals:=fun x c e z=>by
 obtain ⟨v,o,ho,hd⟩:=I.cell x c e;obtain ⟨m,⟨o',es,ep,ho',hd',_⟩,_⟩:=I.loc;rw [z,ho'] at ho;cases ho;rw [hd'] at hd;cases hd
theorem Inv.funs (I:Inv X pins σ H s):s.heap.FunFrames X.base X.outer:=by
 have all:∀ (l:List Env),(∀ b∈frs l,b∈X.fs)->X.s₀.heap.FunFrames X.base l->s.heap.FunFrames X.base l:=by
   intro l
   induction l with
   | nil=>intro _ _;trivial
   | cons env r ih =>
     intro hs hl;obtain ⟨hk,⟨L,o,hf,hn,ho,hd⟩,hr⟩:=hl;have hL:L∈X.fs:=hs L (by unfold frs;rw [List.filterMap_cons,hf];exact List.mem_cons_self);obtain ⟨sl,e⟩:=I.base.slot L o ho (I.ok.frf L hL) hL fun z=>I.ok.exfs L z hL;exact ⟨hk,⟨L,_,hf,hn,e,hd⟩,ih (fun b hb=>hs b (by unfold frs;rw [List.filterMap_cons,hf];exact List.mem_cons_of_mem _ hb)) hr⟩
 exact all X.outer (fun _ hb=>hb) I.ok.funs
theorem Inv.stack (I:Inv X pins σ H s):s.heap.FunFrames X.base X.stack:=by
 rcases I.ok.stk with e|⟨e,hf⟩
 . rw [e];exact I.funs
 . rw [e];obtain ⟨m,hn,_⟩:=I.loc;refine .cons (by rw [I.ok.kind];decide) hf hn ?_ I.funs;exact Heap.get?_none_of_le (Nat.le_trans I.ok.bsz I.ok.above)
theorem Inv.stkSub (I:Inv X pins σ H s):∀ b∈frs X.stack,b∈X.env.locals::X.fs:=fun b hb=>by
 rcases I.ok.stk with e|⟨e,hf⟩
 . rw [e] at hb;exact List.mem_cons_of_mem _ hb
 . rw [e] at hb;unfold frs at hb;rw [List.filterMap_cons,hf] at hb;exact hb
theorem Inv.stkFree (I:Inv X pins σ H s):∀ b∈frs X.stack,H b=none:=fun b hb=>by
 rcases List.mem_cons.mp (I.stkSub b hb) with e|hb
 . rw [e];exact I.free
 . obtain ⟨_,o,ho,_⟩:=I.ok.funs.mem hb;exact I.base.free b o ho (I.ok.frf b hb) fun z=>I.ok.exfs b z hb
theorem Inv.step {g':Array GenState} {t':Nat} {d':Drawn} {ch:List Addr} (I:Inv X pins σ H s)
   (hch:∀ b∈ch,(b∈X.ex\/X.s₀.heap.objs.size<=b)/\b≠X.env.locals/\(∀ x c,X.env.cells.lookup x=some c->c≠b)/\∀ p∈X.pn++pins,p.1≠b)
   (keep:∀ b o,b≠X.env.locals->b ∉ X.fs->b ∉ ch->s.heap.get? b=some o->H b=none->h'.get? b=some o)
   (slot:∀ b o,b≠X.env.locals->b∈X.fs->b ∉ ch->s.heap.get? b=some o->H b=none->∃ sl,h'.get? b=some { o with slots:=sl }) (free:∀ b o,b ∉ ch->s.heap.get? b=some o->H b=none->H' b=none)
   (there:∀ b o,b ∉ ch->s.heap.get? b=some o->∃ o',h'.get? b=some o')
   (tups:∀ b xs,H b=some (.tup xs)->H' b=some (.tup xs)) (frzs:∀ b o u,H b=some (.frz o u)->H' b=some (.frz o u)) (tbls:∀ b ps,H b=some (.tbl ps)->∃ more,H' b=some (.tbl (ps++more)))
   (ns:∀ m,s.heap.Ns X.env.locals m->h'.Ns X.env.locals m) (hok:HOk X.prog X.w H' h') (hg:AllBare g') :
   Inv X pins σ H' { s with heap:=h',gens:=g',drawn:=d',toks:=t' }:=by
 have neL:∀ b o,X.s₀.heap.get? b=some o->b≠X.env.locals:=fun b o e=>Nat.ne_of_lt (Nat.lt_of_lt_of_le (Heap.lt_size e) I.ok.above);have neC:∀ b o,X.s₀.heap.get? b=some o->b ∉ X.ex->b ∉ ch:=fun b o e hx hb=>by
   rcases (hch b hb).1 with z|z
   . exact hx z
   . exact absurd (Nat.lt_of_lt_of_le (Heap.lt_size e) z) (Nat.lt_irrefl _)
 have cellK:∀ x c,X.env.cells.lookup x=some c->∀ v,s.heap.IsCell c v->h'.IsCell c v:=fun x c e v ⟨o,ho,hd⟩=>by
   have nch:c ∉ ch:=fun z=>(hch c z).2.2.1 x c e rfl;by_cases hc:c∈X.fs
   . obtain ⟨sl,q⟩:=slot c o (I.cne x c e) hc nch ho (I.freeC x c e);exact ⟨_,q,hd⟩
   . exact ⟨o,keep c o (I.cne x c e) hc nch ho (I.freeC x c e),hd⟩
 refine ⟨I.ok,I.os,hg,⟨fun b o e n hb hx=>?_,fun b o e n hb hx=>?_,fun b o e n hx=>?_,fun b o e hx=>?_,fun b xs e=>tups b xs (I.base.tups b xs e),fun b o xs e=>frzs b o xs (I.base.frzs b o xs e),fun b ps e=>?_⟩,?_,fun x c e=>?_,?_,fun x c e=>?_,fun p hp=>?_,hok,I.len⟩
 . exact keep b o (neL b o e) hb (neC b o e hx) (I.base.keep b o e n hb hx) (I.base.free b o e n hx)
 . obtain ⟨sl,e1⟩:=I.base.slot b o e n hb hx;obtain ⟨sl',e2⟩:=slot b _ (neL b o e) hb (neC b o e hx) e1 (I.base.free b o e n hx);exact ⟨sl',e2⟩
 . obtain ⟨o',e1⟩:=I.base.there b o e hx;exact free b o' (neC b o e hx) e1 (I.base.free b o e n hx)
 . obtain ⟨o',e1⟩:=I.base.there b o e hx;exact there b o' (neC b o e hx) e1
 . obtain ⟨m1,e1⟩:=I.base.tbls b ps e;obtain ⟨m2,e2⟩:=tbls b _ e1;exact ⟨m1++m2,by rw [e2,Array.append_assoc]⟩
 . obtain ⟨m,hn,hl⟩:=I.loc;refine ⟨m,ns m hn,fun i x v e1 e2 e3=>?_⟩;obtain ⟨u,r,l⟩:=hl i x v e1 e2 e3;refine ⟨u,r,?_⟩;rcases l with l|⟨k,c,e,z⟩
   . exact .inl l
   . exact .inr ⟨k,c,e,cellK x c e _ z⟩
 . obtain ⟨v,z⟩:=I.cell x c e;exact ⟨v,cellK x c e v z⟩
 . obtain ⟨m,⟨o,_,_,ho,_⟩,_⟩:=I.loc;exact free _ o (fun z=>(hch _ z).2.1 rfl) ho I.free
 . obtain ⟨v,o,ho,hd⟩:=I.cell x c e;exact free c o (fun z=>(hch c z).2.2.1 x c e rfl) ho (I.freeC x c e)
 . obtain ⟨e,n,ne,nf,d⟩:=I.pin p hp;have nch:p.1 ∉ ch:=fun z=>(hch p.1 z).2.2.2 p hp rfl;exact ⟨keep p.1 p.2 ne nf nch e n,free p.1 p.2 nch e n,ne,nf,d⟩
theorem Inv.un {t':Nat} (I:Inv X pins σ H s) (u:Un X.fs [] H H' s.heap h') (hok:HOk X.prog X.w H' h'):Inv X pins σ H' { s with heap:=h',toks:=t' }:=by
 obtain ⟨m,⟨o,es,ep,ho,r⟩,_⟩:=id I.loc;obtain ⟨sl,hL⟩:=u.any ho I.free (by simp);exact I.step (g':=s.gens) (d':=s.drawn) (ch:=[]) (fun _ z=>nomatch z) (fun b o _ hb _ e n=>u.keep b o e n hb (by simp)) (fun b o _ hb _ e n=>u.slot b o e n hb (by simp)) (fun b o _ e n=>u.free b o e n (by simp)) (fun b o _ e=>u.there b o e (by simp)) u.tups u.frzs u.tbls (fun m' hm=>by
   obtain ⟨o',es',ep',ho',r'⟩:=hm;rw [ho] at ho';cases ho';exact ⟨_,es',ep',hL,r'⟩) hok I.bare
theorem Inv.call {g':Array GenState} {t':Nat} {d':Drawn} {ch:List Addr} (I:Inv X pins σ H s) (u:Un (frs X.stack) ch H H' s.heap h') (hok:HOk X.prog X.w H' h') (hg:AllBare g')
   (hch:∀ b∈ch,(b∈X.ex\/X.s₀.heap.objs.size<=b)/\b≠X.env.locals/\(∀ x c,X.env.cells.lookup x=some c->c≠b)/\∀ p∈X.pn++pins,p.1≠b) :
   Inv X pins σ H' { s with heap:=h',gens:=g',drawn:=d',toks:=t' }:=by
 obtain ⟨m,⟨o,es,ep,ho,r⟩,_⟩:=id I.loc;obtain ⟨sl,hL⟩:=u.any ho I.free fun z=>(hch _ z).2.1 rfl;exact I.step (ch:=ch) hch (fun b o hL hb hc e n=>u.keep b o e n (fun z=>(List.mem_cons.mp (I.stkSub b z)).elim hL hb) hc) (fun b o _ _ hc e n=>u.any e n hc) (fun b o hc e n=>u.free b o e n hc) (fun b o hc e=>u.there b o e hc) u.tups u.frzs u.tbls (fun m' hm=>by
   obtain ⟨o',es',ep',ho',r'⟩:=hm;rw [ho] at ho';cases ho';exact ⟨_,es',ep',hL,r'⟩) hok hg
theorem Inv.turned {t':Nat} {it:Addr} (I:Inv X pins σ H s) (k:∀ b o,b≠it->s.heap.get? b=some o->h'.get? b=some o) (hn:H it=none) (hL:it≠X.env.locals)
   (h1:it∈X.ex\/X.s₀.heap.objs.size<=it) (h2:∀ x c,X.env.cells.lookup x=some c->c≠it) (h3:∀ p∈X.pn++pins,p.1≠it):Inv X pins σ H { s with heap:=h',toks:=t' }:=by
 have nit:∀ b u,H b=some u->b≠it:=fun b u e z=>by rw [z,hn] at e;cases e
 refine I.step (g':=s.gens) (d':=s.drawn) (ch:=[it]) (fun b hb=>?_) (fun b o _ _ hc e _=>k b o (fun z=>hc (by simp [z])) e) (fun b o _ _ hc e _=>⟨o.slots,k b o (fun z=>hc (by simp [z])) e⟩) (fun _ _ _ _ n=>n)
   (fun b o hc e=>⟨o,k b o (fun z=>hc (by simp [z])) e⟩) (fun _ _ e=>e) (fun _ _ _ e=>e) (fun b ps e=>⟨#[],by rw [e];simp⟩) (fun m hm=>?_) (fun b u e=>?_) I.bare
 . have e:b=it:=by simpa using hb
   subst e;exact ⟨h1,hL,h2,h3⟩
 . obtain ⟨o,es,ep,ho,r⟩:=hm;exact ⟨o,es,ep,k _ o (Ne.symm hL) ho,r⟩
 . refine (I.hok b u e).stay (fun c v hc q=>k c v ?_ q) (fun _ q=>q) fun _ _ q=>q;rcases hc with z|z
   . rw [z];exact nit b u e
   . exact nit c _ z
theorem Inv.tok (I:Inv X pins σ H s) (t:Nat):Inv X pins σ H { s with toks:=t }:=I.un (h':=s.heap) (t':=t) Un.refl I.hok
theorem Inv.kept {t':Nat} (I:Inv X pins σ H s) (k:∀ b u,s.heap.get? b=some u->h'.get? b=some u):Inv X pins σ H { s with heap:=h',toks:=t' }:=I.un (Un.kept k) (I.hok.kept k)
theorem Inv.laid {a:Addr} {o:HO} {t':Nat} (I:Inv X pins σ H s) (k:∀ b u,s.heap.get? b=some u->h'.get? b=some u) (hp:s.heap.objs.size<=a) (new:ObjOk X.prog X.w (upd H a o) h' a o) :
   Inv X pins σ (upd H a o) { s with heap:=h',toks:=t' }:=I.un (Un.laid k hp (I.hok.fresh hp)) (I.hok.laid k hp new)
theorem Inv.write {x e:Addr} {o:HO} {t':Nat} (I:Inv X pins σ H s) (mu:Mut (H x)) (he:e=x\/H e=some (.own x)) (k:∀ b u,b≠e->s.heap.get? b=some u->h'.get? b=some u) (heo:∃ u,h'.get? e=some u)
   (new:ObjOk X.prog X.w (upd H x o) h' x o):Inv X pins σ (upd H x o) { s with heap:=h',toks:=t' }:=I.un (Un.write mu he k heo) (I.hok.write mu he k heo new)
theorem Inv.pins_of {pins':List (Addr × Obj)} (I:Inv X pins σ H s) (h:∀ p∈pins',s.heap.get? p.1=some p.2/\H p.1=none/\p.1≠X.env.locals/\p.1 ∉ X.fs/\∀ v,p.2.data≠.cell v):Inv X pins' σ H s :=
 ⟨I.ok,I.os,I.bare,I.base,I.loc,I.cell,I.free,I.freeC,fun p hp=>(List.mem_append.mp hp).elim (fun z=>I.pin p (List.mem_append_left _ z)) (h p),I.hok,I.len⟩
theorem IM {N:List Str} (hN:N.Nodup) {i j:Nat} {x:Str} (a:N[i]?=some x) (b:N[j]?=some x):i=j:=by
 obtain ⟨h1,e1⟩:=List.getElem?_eq_some_iff.mp a;obtain ⟨h2,e2⟩:=List.getElem?_eq_some_iff.mp b;exact (List.getElem_inj hN).mp (e1.trans e2.symm)
theorem Gn {M:Model} {A:Around} {E:Value->Shared->Prop} {i:Nat} {x:Str} {v:V} {u:Value} {Q:Unit->Shared->Prop} (I:Inv X pins σ H s) (hN:X.N.Nodup) (hi:X.N[i]?=some x) (hx:Loc X.env.scope x) (r:RelV v u)
   (h:∀ s',Inv X pins (σ.set i (some v)) H s'->(∃ a,Heap.SameBut a s.heap s'.heap/\(a=X.env.locals\/X.env.cells.lookup x=some a))->Q () s') (hf:X.fn x=true\/X.env.scope.names.lookup x=some .local:=by first|exact .inl rfl|exact .inr rfl|assumption):wpAny M A (storeName X.env x u) Q E s:=by
 obtain ⟨m,hn,hl⟩:=id I.loc;have hcls:(X.env.scope.kind == .class || (X.env.scope.kind == .module && X.env.locals != X.env.globals))=false:=by rw [I.ok.kind];rfl
 have hiσ:i<σ.length:=by rw [I.len];exact (List.getElem?_eq_some_iff.mp hi).1
 have cne:=I.cne;have tracked:∀ {a:Addr} {h':Heap},(∃ o,s.heap.get? a=some o/\H a=none)->Heap.SameBut a s.heap h'->HOk X.prog X.w H h':=fun {a h'} ha hs b ob e=>by
   obtain ⟨_,_,hfree⟩:=ha;refine (I.hok b ob e).stay (fun c w' hc q=>(hs.2 c ?_).trans q) (fun _ q=>q) fun _ _ q=>q;rintro rfl;rcases hc with rfl|hc
   . rw [hfree] at e;cases e
   . rw [hfree] at hc;cases hc
 rcases hx with hk|hk
 . refine wpAny_storeName_local hk hn (fun h' hn' hs=>?_) hcls;obtain ⟨oL,_,_,hoL,_⟩:=id hn;refine h _ ⟨I.ok,I.os,I.bare,⟨fun b o e n hb hx=>?_,fun b o e n hb hx=>?_,I.base.free,fun b o e hx=>?_,I.base.tups,I.base.frzs,I.base.tbls⟩,⟨_,hn',fun j y v' e1 e2 e3=>?_⟩,fun y c e=>?_,I.free,I.freeC,fun p hp=>?_,tracked ⟨oL,hoL,I.free⟩ hs,by simpa using I.len⟩ ⟨_,hs,.inl rfl⟩
   . exact (hs.2 b (Nat.ne_of_lt (Nat.lt_of_lt_of_le (Heap.lt_size e) I.ok.above))).trans (I.base.keep b o e n hb hx)
   . obtain ⟨sl,e1⟩:=I.base.slot b o e n hb hx;exact ⟨sl,(hs.2 b (Nat.ne_of_lt (Nat.lt_of_lt_of_le (Heap.lt_size e) I.ok.above))).trans e1⟩
   . obtain ⟨o',e1⟩:=I.base.there b o e hx;exact ⟨o',(hs.2 b (Nat.ne_of_lt (Nat.lt_of_lt_of_le (Heap.lt_size e) I.ok.above))).trans e1⟩
   . by_cases hj:j=i
     . subst hj;rw [hi] at e1;cases e1;rw [List.getElem?_set_self hiσ] at e2;cases e2;exact ⟨u,r,.inl ⟨hk,by simp⟩⟩
     . rw [List.getElem?_set_ne (Ne.symm hj)] at e2;obtain ⟨u',r',q⟩:=hl j y v' e1 e2 e3;refine ⟨u',r',?_⟩;rcases q with ⟨k,e⟩|⟨k,c,e,z⟩
       . refine .inl ⟨k,?_⟩;have:y≠x:=fun e=>hj (IM hN e1 (e ▸ hi));simp [this,e]
       . exact .inr ⟨k,c,e,z.sameBut hs (cne y c e)⟩
   . obtain ⟨w',z⟩:=I.cell y c e;exact ⟨w',z.sameBut hs (cne y c e)⟩
   . obtain ⟨e,n,ne,nf,d⟩:=I.pin p hp;exact ⟨(hs.2 p.1 ne).trans e,n,ne,nf,d⟩
 . have hfn:X.fn x=true:=by
     rcases hf with z|z
     . exact z
     . rw [z] at hk;cases hk
   obtain ⟨c,hc⟩:=I.ok.has x (.inl hk);obtain ⟨w',z⟩:=I.cell x c hc;refine wpAny_storeName_cell I.ok.kind hk hc z (fun h' hc' hs=>?_);obtain ⟨oc,hoc,hocd⟩:=id z;refine h { s with heap:=h' } ⟨I.ok,I.os,I.bare,⟨fun b o e n hb hx=>?_,fun b o e n hb hx=>?_,I.base.free,fun b o e hx=>?_,I.base.tups,I.base.frzs,I.base.tbls⟩,⟨m,hn.sameBut hs (Ne.symm (cne x c hc)),fun j y v' e1 e2 e3=>?_⟩,fun y c' e=>?_,I.free,I.freeC,fun p hp=>?_,tracked ⟨oc,hoc,I.freeC x c hc⟩ hs,by simpa using I.len⟩ ⟨c,hs,.inr hc⟩
   . exact (hs.2 b (Nat.ne_of_lt (Nat.lt_of_lt_of_le (Heap.lt_size e) (I.ok.cab x c hfn hc)))).trans (I.base.keep b o e n hb hx)
   . obtain ⟨sl,e1⟩:=I.base.slot b o e n hb hx;exact ⟨sl,(hs.2 b (Nat.ne_of_lt (Nat.lt_of_lt_of_le (Heap.lt_size e) (I.ok.cab x c hfn hc)))).trans e1⟩
   . obtain ⟨o',e1⟩:=I.base.there b o e hx;exact ⟨o',(hs.2 b (Nat.ne_of_lt (Nat.lt_of_lt_of_le (Heap.lt_size e) (I.ok.cab x c hfn hc)))).trans e1⟩
   . by_cases hj:j=i
     . subst hj;rw [hi] at e1;cases e1;rw [List.getElem?_set_self hiσ] at e2;cases e2;exact ⟨u,r,.inr ⟨.inl hk,c,hc,hc'⟩⟩
     . rw [List.getElem?_set_ne (Ne.symm hj)] at e2;obtain ⟨u',r',q⟩:=hl j y v' e1 e2 e3;refine ⟨u',r',?_⟩;rcases q with q|⟨k,c',e,z'⟩
       . exact .inl q
       . refine .inr ⟨k,c',e,z'.sameBut hs ?_⟩;rintro rfl;exact hj (IM hN e1 (I.ok.inj _ _ _ e hc ▸ hi))
   . by_cases hcc:c'=c
     . subst hcc;exact ⟨_,hc'⟩
     . obtain ⟨w2,z2⟩:=I.cell y c' e;exact ⟨w2,z2.sameBut hs hcc⟩
   . obtain ⟨e,n,ne,nf,d⟩:=I.pin p hp;refine ⟨(hs.2 p.1 ?_).trans e,n,ne,nf,d⟩;intro q;rw [q,hoc] at e;have q':oc=p.2:=Option.some.inj e;exact d w' (by rw [<- q'];exact hocd)
theorem K1 {M:Model} {A:Around} {E:Value->Shared->Prop} {i:Nat} {x:Str} {v:V} {u:Value} {Q:Unit->Shared->Prop} (I:Inv X pins σ H s) (hN:X.N.Nodup) (hi:X.N[i]?=some x) (hx:Loc X.env.scope x) (r:RelV v u)
   (h:∀ s',Inv X pins (σ.set i (some v)) H s'->Q () s') (hf:X.fn x=true\/X.env.scope.names.lookup x=some .local:=by first|exact .inl rfl|exact .inr rfl|assumption):wpAny M A (storeName X.env x u) Q E s :=
 Gn I hN hi hx r (fun s' I' _=>h s' I') hf
theorem Inv.call' {s':Shared} {ch:List Addr} (I:Inv X pins σ H s) (ho:s'.os=s.os) (u:Un (frs X.stack) ch H H' s.heap s'.heap) (hok:HOk X.prog X.w H' s'.heap) (hg:AllBare s'.gens)
   (hch:∀ b∈ch,(b∈X.ex\/X.s₀.heap.objs.size<=b)/\b≠X.env.locals/\(∀ x c,X.env.cells.lookup x=some c->c≠b)/\∀ p∈X.pn++pins,p.1≠b):Inv X pins σ H' s':=by
 obtain ⟨h',g',d',t',o'⟩:=s';have e:o'=s.os:=ho;subst e;exact I.call (g':=g') (t':=t') (d':=d') u hok hg hch
end
abbrev XK:=Value->Option Addr->Hp->Prop
abbrev St:=List (Option V)
abbrev VK:=V->Hp->Prop
abbrev TE:=St->Hp->VK->Prop
abbrev TT:=St->Hp->(Bool->Hp->Prop)->Prop
abbrev TA:=St->Hp->(List V->Hp->Prop)->Prop
structure Ends where
 nx:St->Hp->Prop
 rt:VK
 bk:St->Hp->Prop:=fun _ _=>False
 ct:St->Hp->Prop:=fun _ _=>False
abbrev TS:=Ends->St->Hp->Prop
def EP (X:Cx) (pins:List (Addr × Obj)) (σ:St) (Q:VK) (u:Value) (s':Shared):Prop:=∃ v H',Inv X pins σ H' s'/\RelV v u/\Q v H'
def TP (X:Cx) (pins:List (Addr × Obj)) (σ:St) (Q:Bool->Hp->Prop) (b:Bool) (s':Shared):Prop:=∃ H',Inv X pins σ H' s'/\Q b H'
def AP (X:Cx) (pins:List (Addr × Obj)) (σ:St) (Q:List V->Hp->Prop) (us:List Value) (s':Shared):Prop:=∃ vs H',Inv X pins σ H' s'/\Vals vs us/\Q vs H'
def SP (X:Cx) (pins:List (Addr × Obj)) (D:Ends) (f:Flow) (s':Shared):Prop :=
 match f with
 | .next=>∃ σ' H',Inv X pins σ' H' s'/\D.nx σ' H'
 | .brk=>∃ σ' H',Inv X pins σ' H' s'/\D.bk σ' H'
 | .cont=>∃ σ' H',Inv X pins σ' H' s'/\D.ct σ' H'
 | .ret u=>∃ v σ' H',Inv X pins σ' H' s'/\RelV v u/\D.rt v H'
def PE (X:Cx) (e:Expr) (t:TE):Prop :=
 ∀ (pins:List (Addr × Obj)) (s:Shared) (σ:St) (H:Hp) (Q:VK),Inv X pins σ H s->t σ H Q->wpAny (model X.prog X.w) X.A (eval e X.env) (EP X pins σ Q) X.xe s
def PT (X:Cx) (e:Expr) (t:TT):Prop :=
 ∀ (pins:List (Addr × Obj)) (s:Shared) (σ:St) (H:Hp) (Q:Bool->Hp->Prop),Inv X pins σ H s->t σ H Q->wpAny (model X.prog X.w) X.A (isTrue e X.env (eval e X.env)) (TP X pins σ Q) X.xe s
def PW (X:Cx) (e:Expr) (t:TT):Prop :=
 ∀ (whole:Sem Value) (pins:List (Addr × Obj)) (s:Shared) (σ:St) (H:Hp) (Q:Bool->Hp->Prop),Inv X pins σ H s->t σ H Q->wpAny (model X.prog X.w) X.A (isTrue e X.env whole) (TP X pins σ Q) X.xe s
theorem PW.pt {X:Cx} {e:Expr} {t:TT} (h:PW X e t):PT X e t:=h _
def PA (X:Cx) (es:List Expr) (t:TA):Prop :=
 ∀ (pos:Pos) (pins:List (Addr × Obj)) (s:Shared) (σ:St) (H:Hp) (Q:List V->Hp->Prop),Inv X pins σ H s->t σ H Q->wpAny (model X.prog X.w) X.A (spliced (backTo pos (starEach es X.env))) (AP X pins σ Q) X.xe s
def PS (X:Cx) (st:Stmt) (t:TS):Prop :=
 ∀ (pins:List (Addr × Obj)) (s:Shared) (σ:St) (H:Hp) (D:Ends),Inv X pins σ H s->t D σ H->wpAny (model X.prog X.w) X.A (exec st X.env) (SP X pins D) X.xe s
def PSs (X:Cx) (st:List Stmt) (t:TS):Prop :=
 ∀ (pins:List (Addr × Obj)) (s:Shared) (σ:St) (H:Hp) (D:Ends),Inv X pins σ H s->t D σ H->wpAny (model X.prog X.w) X.A (execs st X.env) (SP X pins D) X.xe s
theorem thn {α:Type} {t:Sem α} {Q Q':α->Shared->Prop} {M:Model} {A:Around} {E:Value->Shared->Prop} {s:Shared} (h:wpAny M A t Q E s) (hQ:∀ a s,Q a s->Q' a s):wpAny M A t Q' E s:=wpAny_mono h hQ fun _ _ x=>x
theorem bT {t:Sem Value} {X:Cx} {pins:List (Addr × Obj)} {σ:St} {Q:VK} {Q':Value->Shared->Prop} {M:Model} {A:Around} {E:Value->Shared->Prop} {s:Shared} (h:wpAny M A t (EP X pins σ Q) E s) (hQ:∀ u s v H,Inv X pins σ H s->RelV v u->Q v H->Q' u s):wpAny M A t Q' E s:=thn h fun u s ⟨v,H,I,r,q⟩=>hQ u s v H I r q
theorem zu {t:Sem (List Value)} {X:Cx} {pins:List (Addr × Obj)} {σ:St} {Q:List V->Hp->Prop} {Q':List Value->Shared->Prop} {M:Model} {A:Around} {E:Value->Shared->Prop} {s:Shared} (h:wpAny M A t (AP X pins σ Q) E s) (hQ:∀ u s v H,Inv X pins σ H s->Vals v u->Q v H->Q' u s):wpAny M A t Q' E s:=thn h fun u s ⟨v,H,I,r,q⟩=>hQ u s v H I r q
theorem FZ {t:Sem Bool} {X:Cx} {pins:List (Addr × Obj)} {σ:St} {Q:Bool->Hp->Prop} {Q':Bool->Shared->Prop} {M:Model} {A:Around} {E:Value->Shared->Prop} {s:Shared} (h:wpAny M A t (TP X pins σ Q) E s) (hQ:∀ u s H,Inv X pins σ H s->Q u H->Q' u s):wpAny M A t Q' E s:=thn h fun u s ⟨H,I,q⟩=>hQ u s H I q
end L2
namespace L2
open PySem PySem.Spec PyProof.Rows
section
variable {X:Cx}
def Be (i:Nat):TE:=fun σ H Q=>∃ v,σ[i]?=some (some v)/\Q v H
def tC (v:V):TE:=fun _ H Q=>Q v H
theorem Jg {i:Nat} {x:Str} {pos:Pos} (hN:X.N[i]?=some x) (hv:Vis X.env.scope x) (hd:(x == ("__debug__":Str))=false:=by decide) (hcd:(x == ("__classdict__":Str))=false:=by decide):PE X (.Name x pos) (Be i):=by
 intro pins s σ H Q I h;obtain ⟨v,e,h⟩:=h;obtain ⟨m,hn,hl⟩:=I.loc;obtain ⟨u,r,l⟩:=hl i x v hN e hv;have fin:EP X pins σ Q u s:=⟨v,H,I,r,h⟩;rcases l with ⟨hk,hm⟩|⟨hk,c,hc,hcell⟩
 . exact wpAny_Name (wpAny_loadName_local I.ok.kind hk hn hm fin) hd
 . rcases hk with hk|hk
   . exact wpAny_Name (wpAny_loadName_cell I.ok.kind hk hc hcell fin) hd
   . exact wpAny_Name (wpAny_loadName_free I.ok.kind hk hc hcell fin hcd) hd
theorem aj {i j pos}:PE X (.Constant (.int i) j pos) (tC (.int i)):=fun _ _ _ H _ I h=>wpAny_Constant_int ⟨.int i,H,I.tok _,⟨_,rfl⟩,h⟩
theorem ik {b j pos}:PE X (.Constant (.bool b) j pos) (tC (.bl b)):=fun _ _ _ H _ I h=>Constant_bool ⟨.bl b,H,I,rfl,h⟩
theorem Jq {j pos}:PE X (.Constant .none j pos) (tC .non):=fun _ _ _ H _ I h=>Constant_none ⟨.non,H,I,rfl,h⟩
theorem xT {x j pos}:PE X (.Constant (.str x) j pos) (tC (.str x)):=fun _ _ _ H _ I h=>Calls.Constant_str ⟨.str x,H,I.tok _,⟨_,rfl⟩,h⟩
def Gl (X:Cx) (x:Str):Prop:=X.env.kindOf x=some .globalImplicit
theorem BQ {E:Value->Shared->Prop} {pins:List (Addr × Obj)} {s:Shared} {σ:St} {H:Hp} {x:Str} {u:Value} {pos:Pos} {Q:Value->Shared->Prop} (I:Inv X pins σ H s) (hg:Gl X x) (hm:X.mg x=some u) (h:Q u s)
   (hd:(x == ("__debug__":Str))=false:=by decide):wpAny (model X.prog X.w) X.A (eval (.Name x pos) X.env) Q E s :=
 Calls.Name_function_global I.ok.kind hg (Calls.loadGlobal_global (by rw [I.ok.glob];exact I.mod.glob.keeps I.bk) hm h) hd
theorem xn {E:Value->Shared->Prop} {pins:List (Addr × Obj)} {s:Shared} {σ:St} {H:Hp} {x:Str} {u:Value} {pos:Pos} {Q:Value->Shared->Prop} (I:Inv X pins σ H s) (hg:Gl X x) (hm:X.mg x=none) (hv:bootBuiltins x=some u) (h:Q u s)
   (hn:x≠"__name__":=by decide) (hd:(x == ("__debug__":Str))=false:=by decide):wpAny (model X.prog X.w) X.A (eval (.Name x pos) X.env) Q E s:=by
 obtain ⟨mb,h1,h2⟩:=I.mod.blt;exact Calls.Name_function_global I.ok.kind hg (Calls.loadGlobal_builtin (by rw [I.ok.glob];exact I.mod.glob.keeps I.bk) hm (by rw [I.ok.blt];exact h1.keeps I.bk) ((h2 x hn).trans hv) h) hd
theorem tX {x:Str} {v:V} {u:Value} {pos:Pos} (hg:Gl X x) (hm:X.mg x=some u) (r:RelV v u) (hd:(x == ("__debug__":Str))=false:=by decide):PE X (.Name x pos) (tC v) :=
 fun _ _ _ H _ I h=>BQ I hg hm ⟨v,H,I,r,h⟩ hd
theorem tQ {x:Str} {v:V} {u:Value} {pos:Pos} (hg:Gl X x) (hm:X.mg x=none) (hv:bootBuiltins x=some u) (r:RelV v u) (hn:x≠"__name__":=by decide) (hd:(x == ("__debug__":Str))=false:=by decide):PE X (.Name x pos) (tC v) :=
 fun _ _ _ H _ I h=>xn I hg hm hv ⟨v,H,I,r,h⟩ hn hd
variable {a b:Expr} {ta tb:TE} {pos:Pos}
def PC (X:Cx) (op:CmpOp) (a b:Expr) (t:TE):Prop :=
 ∀ (pins:List (Addr × Obj)) (s:Shared) (σ:St) (H:Hp) (Q:VK),Inv X pins σ H s->t σ H Q ->
   wpAny (model X.prog X.w) X.A (eval a X.env) (fun v s₁=>wpAny (model X.prog X.w) X.A (eval b X.env) (fun u s₂=>wpAny (model X.prog X.w) X.A (compareOp op v u) (EP X pins σ Q) X.xe s₂) X.xe s₁) X.xe s
theorem J9 (b:Expr) {op:CmpOp} (h:op≠.In) (h2:op≠.NotIn):behindInMarks op b=false:=by
 have e1:(op == CmpOp.In)=false:=by cases op <;> first|rfl|exact absurd rfl h
 have e2:(op == CmpOp.NotIn)=false:=by cases op <;> first|rfl|exact absurd rfl h2
 cases b <;> simp [behindInMarks,e1,e2]
def XM (ta:TE):TE:=fun σ H Q=>ta σ H fun x H1=>Q (.bl (decide (x=.non))) H1
def U3 (ta:TE):TE:=fun σ H Q=>ta σ H fun x H1=>Q (.bl (!decide (x=.non))) H1
def tB (t:TE):TT:=fun σ H Q=>t σ H fun x H1=>∃ c,x=.bl c/\Q c H1
theorem WI {op:CmpOp} {t:TE} (h:PC X op a b t) (h1:behindInMarks op b=false:=by first|exact J9 _ (by decide) (by decide)|rfl):PE X (.Compare a [op] [b] pos) t:=fun pins s σ H Q I hw=>wpAny_Compare1 (h pins s σ H Q I hw) h1
theorem QQ {op:CmpOp} {t:TE} (h:PC X op a b t) (h1:behindInMarks op b=false:=by first|exact J9 _ (by decide) (by decide)|rfl):PT X (.Compare a [op] [b] pos) (tB t):=by
 intro pins s σ H Q I hw;refine wpAny_isTrue_Compare1 (thn (h pins s σ H _ I hw) fun v s1 h1=>thn h1 fun u s2 h2=>thn h2 fun c s3 ⟨x,H1,I1,r1,q1⟩=>?_) h1;obtain ⟨d,rfl,q⟩:=q1;cases r1;exact wpAny_truthy_bool ⟨H1,I1,q⟩
theorem fw {e:Expr} {t:TE} (h:PE X e t) (he:∀ whole,isTrue e X.env whole=(do let v <- whole;standAt e.pos;holding [v] (truthy v)):=by intro _;rfl):PT X e (tB t):=by
 intro pins s σ H Q I hw;refine isTrue_plain (bT (h pins s σ H _ I hw) fun v s1 x H1 I1 r1 q1=>?_) (he _);obtain ⟨d,rfl,q⟩:=q1;cases r1;exact wpAny_truthy_bool ⟨H1,I1,q⟩
variable {tA tB':TT} {rest:List Expr}
def Ud (t u:TT):TT:=fun σ H Q=>t σ H fun c H1=>if c=true then u σ H1 Q else Q false H1
def tOr (t u:TT):TT:=fun σ H Q=>t σ H fun c H1=>if c=true then Q true H1 else u σ H1 Q
def RB (t:TT):TT:=fun σ H Q=>t σ H fun c H1=>Q (!c) H1
theorem yw (ha:PT X a tA):PW X (.BoolOp .And [a] pos) tA:=by
 intro wh pins s σ H Q I h;refine isTrue_and (thn (ha pins s σ H Q I h) fun c s1 e=>?_);cases c with
 | true=>exact isTrue_and_nil e
 | false=>exact e
theorem mW (ha:PT X a tA):PW X (.BoolOp .Or [a] pos) tA:=by
 intro wh pins s σ H Q I h;refine isTrue_or (thn (ha pins s σ H Q I h) fun c s1 e=>?_);cases c with
 | false=>exact isTrue_or_nil e
 | true=>exact e
theorem AG (ha:PT X a tA) (hb:PW X (.BoolOp .And (b::rest) pos) tB'):PW X (.BoolOp .And (a::b::rest) pos) (Ud tA tB'):=by
 intro wh pins s σ H Q I h;refine isTrue_and (FZ (ha pins s σ H _ I h) fun c s1 H1 I1 q1=>?_);cases c with
 | true=>exact hb wh pins s1 σ H1 Q I1 q1
 | false=>exact ⟨H1,I1,q1⟩
theorem k7 (ha:PT X a tA) (hb:PW X (.BoolOp .Or (b::rest) pos) tB'):PW X (.BoolOp .Or (a::b::rest) pos) (tOr tA tB'):=by
 intro wh pins s σ H Q I h;refine isTrue_or (FZ (ha pins s σ H _ I h) fun c s1 H1 I1 q1=>?_);cases c with
 | true=>exact ⟨H1,I1,q1⟩
 | false=>exact hb wh pins s1 σ H1 Q I1 q1
theorem eP (ha:PT X a tA):PT X (.UnaryOp .Not a pos) (RB tA):=by
 intro pins s σ H Q I h;exact isTrue_not (ha pins s σ H (fun c H1=>Q (!c) H1) I h)
def OB (ta tb:TE):TE:=fun σ H Q=>ta σ H fun x H1=>∃ c,x=.bl c/\if c=true then tb σ H1 Q else Q (.bl false) H1
def Wy (ta tb:TE):TE:=fun σ H Q=>ta σ H fun x H1=>∃ c,x=.bl c/\if c=true then Q (.bl true) H1 else tb σ H1 Q
def OA (ta:TE):TE:=fun σ H Q=>ta σ H fun x H1=>∃ c,x=.bl c/\Q (.bl (!c)) H1
theorem xt {op} {t:TE} (h:PE X a t):PE X (.BoolOp op [a] pos) t:=fun pins s σ H Q I hw=>BoolOp_one (h pins s σ H Q I hw)
theorem uZ (ha:PE X a ta) (hb:PE X (.BoolOp .And (b::rest) pos) tb):PE X (.BoolOp .And (a::b::rest) pos) (OB ta tb):=by
 intro pins s σ H Q I h;refine BoolOp_and (bT (ha pins s σ H _ I h) fun v s1 x H1 I1 r1 q1=>?_);obtain ⟨c,rfl,q1⟩:=q1;cases r1;refine wpAny_truthy_bool ?_;cases c with
 | true=>exact hb pins s1 σ H1 Q I1 q1
 | false=>exact ⟨.bl false,H1,I1,rfl,q1⟩
theorem P8 (ha:PE X a ta):PE X (.UnaryOp .Not a pos) (OA ta):=by
 intro pins s σ H Q I h;refine UnaryOp_ (bT (ha pins s σ H _ I h) fun v s1 x H1 I1 r1 q1=>?_);obtain ⟨c,rfl,q1⟩:=q1;cases r1;exact not_of (wpAny_truthy_bool ⟨.bl (!c),H1,I1,rfl,q1⟩)
def tIf (t:TT) (ta tb:TE):TE:=fun σ H Q=>t σ H fun c H1=>if c=true then ta σ H1 Q else tb σ H1 Q
end
end L2
namespace L2
open PySem PySem.Spec PyProof.Rows
def SqL (K:PySem.W.Frag) (H:Hp) (a:Addr) (xs:List V):Prop :=
 Rd H a (.lst xs) \/
   ∃ (o:Obj) (its:Array Value) (n:Nat),K.lookup a=some o/\o.cls=.type "list"/\o.dict=none/\o.data=.seq its n/\its.size<=sizeLine/\Vals xs its.toList
def SqT (K:PySem.W.Frag) (H:Hp) (a:Addr) (xs:List V):Prop :=
 Rd H a (.tup xs) \/
   ∃ (o:Obj) (its:Array Value) (n:Nat),K.lookup a=some o/\o.cls=.type "tuple"/\o.data=.seq its n/\its.size<=sizeLine/\Vals xs its.toList
def Yh:Value->Option V
 | .none=>some .non
 | .bool b=>some (.bl b)
 | .int i _=>some (.int i)
 | .str x _=>some (.str x)
 | .bytes b _=>some (.byt b)
 | .float b _=>some (.flt b)
 | .ref a=>some (.ref a)
 | .type n=>some (.ty n)
 | _=>none
theorem RelV.abs {x:V} {u:Value} (r:RelV x u):Yh u=some x:=by
 cases x with
 | non=>cases r;rfl
 | bl _=>cases r;rfl
 | int _=>obtain ⟨t,rfl⟩:=r;rfl
 | str _=>obtain ⟨t,rfl⟩:=r;rfl
 | byt _=>obtain ⟨t,rfl⟩:=r;rfl
 | flt _=>obtain ⟨t,rfl⟩:=r;rfl
 | ref _=>cases r;rfl
 | ty _=>cases r;rfl
theorem RelV.inj {x y:V} {u:Value} (r:RelV x u) (q:RelV y u):x=y:=Option.some.inj (r.abs.symm.trans q.abs)
theorem Vals.inj {xs ys:List V} {us:List Value} (h:Vals xs us) (h2:Vals ys us):xs=ys:=by
 induction h generalizing ys with
 | nil=>cases h2;rfl
 | cons r _ ih=>cases h2 with|cons r2 t2=>rw [r.inj r2,ih t2]
section
variable {X:Cx} {pins:List (Addr × Obj)} {σ:St} {H:Hp} {s:Shared} {a:Addr} {xs ys:List V}
theorem SqL.of {K:PySem.W.Frag} (h:H a=some (.lst xs)):SqL K H a xs:=.inl (.inl h)
theorem SqT.of {K:PySem.W.Frag} (h:H a=some (.tup xs)):SqT K H a xs:=.inl (.inl h)
theorem Inv.list (I:Inv X pins σ H s) (h:SqL X.K H a xs):∃ its:List Value,Vals xs its/\PlainL s.heap a its.toArray/\xs.length<=sizeLine:=by
 rcases h with h|⟨o,its,n,hk,hc,hd,hs,hz,r⟩
 . obtain ⟨z,its,n,r,e⟩:=h.ok I.hok;exact ⟨its,r,⟨_,n,e,rfl,rfl,rfl⟩,z⟩
 . refine ⟨its.toList,r,⟨o,n,I.kIn a o hk,hc,hd,by simpa using hs⟩,?_⟩;have e:=r.length;simp only [Array.length_toList] at e;omega
theorem Inv.tuple (I:Inv X pins σ H s) (h:SqT X.K H a xs):∃ its:List Value,Vals xs its/\IsTup s.heap a its.toArray/\xs.length<=sizeLine:=by
 rcases h with h|⟨o,its,n,hk,hc,hs,hz,r⟩
 . obtain ⟨z,its,r,p⟩:=h.ok I.hok;exact ⟨its,r,p,z⟩
 . refine ⟨its.toList,r,⟨o,I.kIn a o hk,hc,n,by simpa using hs⟩,?_⟩;have e:=r.length;simp only [Array.length_toList] at e;omega
theorem Inv.list_inj (I:Inv X pins σ H s) (h:SqL X.K H a xs) (h':SqL X.K H a ys):xs=ys:=by
 obtain ⟨its,r,⟨o,n,e,_,_,d⟩,_⟩:=I.list h;obtain ⟨its',r',⟨o',n',e',_,_,d'⟩,_⟩:=I.list h';rw [e] at e';cases e';rw [d] at d';injection d' with d1 _
 have:its=its':=by simpa using congrArg Array.toList d1
 subst this;exact r.inj r'
theorem Inv.tuple_inj (I:Inv X pins σ H s) (h:SqT X.K H a xs) (h':SqT X.K H a ys):xs=ys:=by
 obtain ⟨its,r,⟨o,e,_,n,d⟩,_⟩:=I.tuple h;obtain ⟨its',r',⟨o',e',_,n',d'⟩,_⟩:=I.tuple h';rw [e] at e';cases e';rw [d] at d';injection d' with d1 _
 have:its=its':=by simpa using congrArg Array.toList d1
 subst this;exact r.inj r'
end
abbrev Cx.wish (X:Cx) (E:Value->Shared->Prop):Cx:={ X with xe:=E }
abbrev Cx.nox (X:Cx):Cx:=X.wish fun _ _=>False
theorem Cx.Ok.wish {X:Cx} (ok:X.Ok) (E:Value->Shared->Prop):(X.wish E).Ok :=
 ⟨ok.mod,ok.kind,ok.glob,ok.blt,ok.above,ok.inj,ok.has,ok.cab,ok.hd,ok.frames,ok.stk,ok.exf,ok.bs,ok.bsz,ok.noex,ok.exfs,ok.funs,ok.frf⟩
theorem Cx.Ok.unwish {X:Cx} {E:Value->Shared->Prop} (ok:(X.wish E).Ok):X.Ok :=
 ⟨ok.mod,ok.kind,ok.glob,ok.blt,ok.above,ok.inj,ok.has,ok.cab,ok.hd,ok.frames,ok.stk,ok.exf,ok.bs,ok.bsz,ok.noex,ok.exfs,ok.funs,ok.frf⟩
section
variable {X:Cx} {pins:List (Addr × Obj)} {σ:St} {H:Hp} {s:Shared} {E:Value->Shared->Prop}
theorem Inv.wish (I:Inv X pins σ H s) (E:Value->Shared->Prop):Inv (X.wish E) pins σ H s:=⟨I.ok.wish E,I.os,I.bare,I.base,I.loc,I.cell,I.free,I.freeC,I.pin,I.hok,I.len⟩
theorem Inv.unwish (I:Inv (X.wish E) pins σ H s):Inv X pins σ H s:=⟨I.ok.unwish,I.os,I.bare,I.base,I.loc,I.cell,I.free,I.freeC,I.pin,I.hok,I.len⟩
theorem SP.unwish {D:Ends} {f:Flow} {s':Shared} (h:SP (X.wish E) pins D f s'):SP X pins D f s':=by
 cases f with
 | next=>obtain ⟨σ',H',I,q⟩:=h;exact ⟨σ',H',I.unwish,q⟩
 | brk=>obtain ⟨σ',H',I,q⟩:=h;exact ⟨σ',H',I.unwish,q⟩
 | cont=>obtain ⟨σ',H',I,q⟩:=h;exact ⟨σ',H',I.unwish,q⟩
 | ret u=>obtain ⟨v,σ',H',I,r,q⟩:=h;exact ⟨v,σ',H',I.unwish,r,q⟩
theorem PSs.nox {st:List Stmt} {t:TS} (h:PSs X.nox st t):PSs X st t:=fun pins s σ H D I hw =>
 wpAny_mono (h pins s σ H D (I.wish _) hw) (fun _ _ q=>q.unwish) fun _ _ z=>False.elim z
end
section
variable {X:Cx} {st:Stmt} {rest:List Stmt} {t u:TS} {e:Expr} {te:TE} {pos:Pos}
def tNext:TS:=fun D σ H=>D.nx σ H
def Oh (t u:TS):TS:=fun D σ H=>t { D with nx:=u D } σ H
theorem aW:PSs X [] tNext:=fun _ _ σ H _ I h=>wpAny_execs_nil ⟨σ,H,I,h⟩
theorem ai (h1:PS X st t) (h2:PSs X rest u):PSs X (st::rest) (Oh t u):=by
 intro pins s σ H D I h;refine wpAny_execs_cons (thn (h1 pins s σ H { D with nx:=u D } I h) fun f s1 q=>?_);cases f with
 | next =>
   obtain ⟨σ',H',I',q⟩:=q;exact h2 pins s1 σ' H' D I' q
 | ret v=>exact q
 | brk=>exact q
 | cont=>exact q
theorem ak (h1:PS X st t):PSs X [st] t:=by
 intro pins s σ H D I h;refine wpAny_execs_cons (thn (h1 pins s σ H D I h) fun f s1 q=>?_);cases f with
 | next=>exact wpAny_execs_nil q
 | ret v=>exact q
 | brk=>exact q
 | cont=>exact q
theorem Inv.quiet {pins:List (Addr × Obj)} {σ:St} {H:Hp} {s:Shared} (I:Inv X pins σ H s):interactive X.env=false:=by simp [interactive,I.ok.kind]
def OV (te:TE):TS:=fun D σ H=>te σ H fun _ H1=>D.nx σ H1
theorem cZ (he:PE X e te) (hs:swapsWith e none pos.line X.env=pure false:=by rfl):PS X (.Expr e pos) (OV te):=by
 intro pins s σ H D I h;exact wpAny_Expr_any (bT (he pins s σ H _ I h) fun v s1 x H1 I1 r1 q1=>⟨σ,H1,I1,q1⟩) I.quiet hs
def TY (te:TE):TS:=fun D σ H=>te σ H D.rt
theorem ay (he:PE X e te):PS X (.Return (some e) pos) (TY te):=by
 intro pins s σ H D I h;exact wpAny_Return_some (bT (he pins s σ H _ I h) fun v s1 x H1 I1 r1 q1=>⟨x,σ,H1,I1,r1,q1⟩)
def U2:TS:=fun D _ H=>D.rt .non H
def SM (c:TT) (t u:TS):TS:=fun D σ H=>c σ H fun b H1=>if b=true then t D σ H1 else u D σ H1
theorem bZ {c:Expr} {a b:List Stmt} {tc:TT} (hc:PT X c tc) (ha:PSs X a t) (hb:PSs X b u):PS X (.If c a b pos) (SM tc t u):=by
 intro pins s σ H D I h;refine wpAny_If (FZ (hc pins s σ H _ I h) fun d s1 H1 I1 q1=>?_);cases d with
 | true=>exact ha pins s1 σ H1 D I1 q1
 | false=>exact hb pins s1 σ H1 D I1 q1
def tNever:TS:=fun _ _ _=>False
theorem qP:PS X st tNever:=fun _ _ _ _ _ _ h=>h.elim
end
abbrev TG:=V->St->Hp->(St->Hp->Prop)->Prop
abbrev TGs:=List V->St->Hp->(St->Hp->Prop)->Prop
def PG (X:Cx) (target:Expr) (t:TG):Prop :=
 ∀ (pins:List (Addr × Obj)) (s:Shared) (σ:St) (H:Hp) (v:V) (u:Value) (Q:St->Hp->Prop),Inv X pins σ H s->RelV v u->t v σ H Q ->
   wpAny (model X.prog X.w) X.A (assign target X.env u) (fun _ s'=>∃ σ' H',Inv X pins σ' H' s'/\Q σ' H') X.xe s
def PGs (X:Cx) (ts:List Expr) (t:TGs):Prop :=
 ∀ (pins:List (Addr × Obj)) (s:Shared) (σ:St) (H:Hp) (vs:List V) (us:List Value) (Q:St->Hp->Prop),Inv X pins σ H s->Vals vs us->t vs σ H Q ->
   wpAny (model X.prog X.w) X.A (assignInOrder ((assignEach ts X.env).map (·.2)) us) (fun _ s'=>∃ σ' H',Inv X pins σ' H' s'/\Q σ' H') X.xe s
abbrev NQ:=V->V->V->Hp->(Hp->Prop)->Prop
def WT (X:Cx) (t:NQ):Prop :=
 ∀ (pins:List (Addr × Obj)) (s:Shared) (σ:St) (H:Hp) (o i v:V) (ov iv u:Value) (Q:Hp->Prop),Inv X pins σ H s->RelV o ov->RelV i iv->RelV v u->t o i v H Q ->
   wpAny (model X.prog X.w) X.A (setItem ov iv u) (fun _ s'=>∃ H',Inv X pins σ H' s'/\Q H') X.xe s
abbrev TIp:=V->V->Hp->VK->Prop
section
variable {X:Cx} {pos:Pos}
def tK (i:Nat):TG:=fun v σ H Q=>Q (σ.set i (some v)) H
theorem au {i:Nat} {x:Str} (hN:X.N.Nodup) (hi:X.N[i]?=some x) (hx:Loc X.env.scope x) (hf:X.fn x=true\/X.env.scope.names.lookup x=some .local:=by first|exact .inl rfl|exact .inr rfl|assumption):PG X (.Name x pos) (tK i):=by
 intro pins s σ H v u Q I r h;exact wpAny_assign_Name (K1 I hN hi hx r (fun s' I'=>⟨_,H,I',h⟩) hf)
def gNil:TGs:=fun vs σ H Q=>vs=[]/\Q σ H
def D5 (t:TG) (u:TGs):TGs:=fun vs σ H Q=>∃ v r,vs=v::r/\t v σ H fun σ' H'=>u r σ' H' Q
theorem ju:PGs X [] gNil:=by
 intro pins s σ H vs us Q I r h;obtain ⟨e,h⟩:=h;subst e;cases r;exact assignInOrder_nil ⟨σ,H,I,h⟩
theorem be {e:Expr} {es:List Expr} {t:TG} {u:TGs} (h1:PG X e t) (h2:PGs X es u)
   (hs:(assignEach (e::es) X.env).map (·.2)=assign e X.env::(assignEach es X.env).map (·.2):=by rfl):PGs X (e::es) (D5 t u):=by
 intro pins s σ H vs us Q I r h;obtain ⟨v,vr,e1,h⟩:=h;subst e1;cases r with
 | cons r rr =>
   rw [hs];refine assignInOrder_cons (thn (h1 pins s σ H _ _ _ I r h) fun _ s1 ⟨σ1,H1,I1,q1⟩=>?_);exact h2 pins s1 σ1 H1 _ _ Q I1 rr q1
def IW (K:PySem.W.Frag) (n:Nat) (t:TGs):TG:=fun v σ H Q=>∃ a xs,v=.ref a/\SqT K H a xs/\xs.length=n/\t xs σ H Q
theorem lM {es:List Expr} {k:Nat} {t:TGs} {n:Nat} (hc:X.calm=true) (h:PGs X es t)
   (hn:(assignEach es X.env).length=n:=by rfl) (hst:(assignEach es X.env).findIdx? (·.1)=none:=by rfl):PG X (.Tuple es k pos) (IW X.K n t):=by
 intro pins s σ H v u Q I r hw;obtain ⟨a,xs,e1,hq,hl,hw⟩:=hw;subst e1;cases r;obtain ⟨its,rv,ht,hz⟩:=I.tuple hq;refine assign_Tuple_tuple (I.ok.hd hc) ht (by simp [hn,<- hl,rv.length]) hst fun h' hx=>?_;have I1:Inv X pins σ H { s with heap:=h' }:=I.kept (t':=s.toks) fun b o e=>hx b o (Nat.ne_of_lt (Heap.lt_size e)) e;exact h pins _ σ H xs _ Q I1 (by simpa using rv) hw
def SL (to ti:TE) (t:NQ):TG:=fun v σ H Q=>to σ H fun o H1=>ti σ H1 fun i H2=>t o i v H2 fun H3=>Q σ H3
theorem xz {o i:Expr} {to ti:TE} {t:NQ} (ho:PE X o to) (hi:PE X i ti) (hs:WT X t)
   (ha:∀ v,assign (.Subscript o i pos) X.env v=(do
     let ov <- holding [v] (eval o X.env)
     let iv <- holding [v,ov] (eval i X.env)
     standAt pos
     holding [v,ov,iv] (setItem ov iv v)
     release [v,ov,iv] []):=by intro _;rfl):PG X (.Subscript o i pos) (SL to ti t):=by
 intro pins s σ H v u Q I r h;rw [ha];refine wpAny_bind (wpAny_holding (bT (ho pins s σ H _ I h) fun ov s1 x H1 I1 r1 q1=>?_));refine wpAny_bind (wpAny_holding (bT (hi pins s1 σ H1 _ I1 q1) fun iv s2 y H2 I2 r2 q2=>?_));refine wpAny_bind (wpAny_standAt (wpAny_bind (wpAny_holding (thn (hs pins s2 σ H2 x y v ov iv u _ I2 r1 r2 r q2) fun _ s3 ⟨H3,I3,q3⟩=>?_))));exact wpAny_release ⟨σ,H3,I3,q3⟩
def IR (te:TE) (g:TG):TS:=fun D σ H=>te σ H fun x H1=>g x σ H1 D.nx
theorem mZ {tg e:Expr} {te:TE} {g:TG} (he:PE X e te) (hg:PG X tg g) (hs:swapsWithSole [tg] e pos.line X.env=pure false:=by rfl) (hw:swappedStores [tg] e X.env=pure none:=by rfl)
   (h1:(assignEach [tg] X.env).map (·.2)=[assign tg X.env]:=by rfl):PS X (.Assign [tg] e pos) (IR te g):=by
 intro pins s σ H D I h;refine wpAny_Assign_stores (bT (he pins s σ H _ I h) fun v s1 x H1 I1 r1 q1=>?_) hs hw;rw [h1];exact thn (hg pins s1 σ H1 x v _ I1 r1 q1) fun _ s2 q=>q
theorem ap {i:Nat} {x:Str} {e:Expr} {te:TE} {pos':Pos} (hN:X.N.Nodup) (hi:X.N[i]?=some x) (hx:Loc X.env.scope x) (he:PE X e te) (hs:swapsWith e (some (.Name x pos')) pos.line X.env=pure false:=by rfl) (hf:X.fn x=true\/X.env.scope.names.lookup x=some .local:=by first|exact .inl rfl|exact .inr rfl|assumption) :
   PS X (.Assign [.Name x pos'] e pos) (IR te (tK i)):=by
 intro pins s σ H D I h;refine wpAny_Assign_Name (bT (he pins s σ H _ I h) fun v s1 y H1 I1 r1 q1=>?_) hs;exact K1 I1 hN hi hx r1 (fun s2 I2=>⟨_,H1,I2,q1⟩) hf
def XH (i:Nat) (te:TE) (ti:TIp):TS:=fun D σ H=>∃ x,σ[i]?=some (some x)/\te σ H fun y H1=>ti x y H1 fun z H2=>D.nx (σ.set i (some z)) H2
def UY (to ti te:TE) (tget:V->V->Hp->VK->Prop) (tip:TIp) (tset:NQ):TS:=fun D σ H=>to σ H fun o H1=>ti σ H1 fun i H2=>tget o i H2 fun x H3=>te σ H3 fun y H4=>tip x y H4 fun z H5=>tset o i z H5 fun H6=>D.nx σ H6
def ipI (f:Int->Int->Int):TIp:=fun x y H Q=>∃ i j,x=.int i/\y=.int j/\Q (.int (f i j)) H
end
section
variable {X:Cx} {pos:Pos}
def Jy (c:TT) (tb:TS):TS:=fun D σ H=>∃ W:Nat->St->Hp->Prop,(∃ m,W m σ H)/\∀ m σ H,W m σ H ->
 c σ H fun b H1=>if b=true then ∃ N:St->Hp->Prop,(∀ σ' H',N σ' H'->∃ m',m'<m/\W m' σ' H')/\tb { D with nx:=N,ct:=N,bk:=D.nx } σ H1 else D.nx σ H1
theorem oh {c:Expr} {body:List Stmt} {tc:TT} {tb:TS} (hp:PassesOwn (model X.prog X.w) X.A X.env X.xe) (hc:PT X c tc) (hb:PSs X body tb):PS X (.While c body [] pos) (Jy tc tb):=by
 intro pins s σ H D I h;obtain ⟨W,⟨m0,w0⟩,turn⟩:=h;refine wpAny_While (codeAny_whileLoop (fun n s'=>∃ σ' H',Inv X pins σ' H' s'/\W n σ' H') ?_ m0 ⟨σ,H,I,w0⟩);rintro n s1 ⟨σ1,H1,I1,w1⟩;refine wpAny_passesOwn hp (FZ (hc pins s1 σ1 H1 _ I1 (turn n σ1 H1 w1)) fun b s2 H2 I2 q2=>?_);cases b with
 | true =>
   obtain ⟨N,hN,q2⟩:=q2;rw [if_pos rfl];refine wpAny_passesOwn hp (thn (hb pins s2 σ1 H2 _ I2 q2) fun f s3 q3=>?_);cases f with
   | next =>
     obtain ⟨σ3,H3,I3,n3⟩:=q3;obtain ⟨m',hm,w3⟩:=hN σ3 H3 n3;exact ⟨m',hm,σ3,H3,I3,w3⟩
   | cont =>
     obtain ⟨σ3,H3,I3,n3⟩:=q3;obtain ⟨m',hm,w3⟩:=hN σ3 H3 n3;exact ⟨m',hm,σ3,H3,I3,w3⟩
   | brk=>exact q3
   | ret v=>exact q3
 | false =>
   rw [if_neg Bool.false_ne_true];exact wpAny_execs_nil ⟨σ1,H2,I2,q2⟩
end
structure It where
 go:Nat->Hp->Prop
 yld:Nat->Hp->V->Hp->Prop
 stop:Nat->Hp->Prop
def qR (X:Cx) (pins:List (Addr × Obj)) (H:Hp) (b:Addr):Prop :=
 H b=none/\b≠X.env.locals/\b ∉ X.fs/\(b∈X.ex\/X.s₀.heap.objs.size<=b)/\(∀ x c,X.env.cells.lookup x=some c->c≠b)/\∀ p∈X.pn++pins,p.1≠b
theorem Inv.fpOk {X:Cx} {pins:List (Addr × Obj)} {σ:St} {H H':Hp} {s:Shared} {b:Addr} (I:Inv X pins σ H s) (hb:s.heap.objs.size<=b) (hn:H' b=none):qR X pins H' b:=by
 refine ⟨hn,Nat.ne_of_gt (Nat.lt_of_lt_of_le I.lt hb),I.nofs hb,.inr (Nat.le_trans I.sz hb),fun x c e z=>?_,fun p hp z=>?_⟩
 . obtain ⟨v,q⟩:=I.cell x c e;exact absurd (Nat.lt_of_lt_of_le q.lt (by rw [z];exact hb)) (Nat.lt_irrefl _)
 . exact absurd (Nat.lt_of_lt_of_le (Heap.lt_size (I.pin p hp).1) (by rw [z];exact hb)) (Nat.lt_irrefl _)
structure Turn (P:Program) (w:World) (K:PySem.W.Frag) (tg:Expr) (J:It) (fp:List Addr) (it:Addr) (tn:Nat->Heap->Prop):Prop where
 mem:it∈fp
 obj:∀ i h,tn i h->∀ b∈fp,∃ o,h.get? b=some o/\∀ v,o.data≠.cell v
 keep:∀ i h h',tn i h->(∀ b∈fp,∀ o,h.get? b=some o->h'.get? b=some o)->tn i h'
 item:∀ (X:Cx),X.prog=P->X.w=w->X.K=K->X.calm=true->∀ (i:Nat) (pins:List (Addr × Obj)) (s:Shared) (σ:St) (H:Hp) (E:Value->Shared->Prop),Inv X pins σ H s->(∀ b∈fp,qR X pins H b)->tn i s.heap->J.go i H ->
   wpAny (model P w) X.A (pyNext (.ref it)) (fun r s1=>∃ u,r=some u /\
     wpAny (model P w) X.A (letOwnedTupleGo tg (.ref it) u) (fun _ s2=>∃ x H',Inv X pins σ H' s2/\RelV x u/\J.yld i H x H'/\tn (i+1) s2.heap/\∀ b∈fp,H' b=none) E s1) E s
 done:∀ (X:Cx),X.prog=P->X.w=w->X.K=K->X.calm=true->∀ (i:Nat) (pins:List (Addr × Obj)) (s:Shared) (σ:St) (H:Hp) (E:Value->Shared->Prop),Inv X pins σ H s->(∀ b∈fp,qR X pins H b)->tn i s.heap->J.stop i H ->
   wpAny (model P w) X.A (pyNext (.ref it)) (fun r s1=>r=none/\Inv X pins σ H s1) E s
 self:∀ (A:Around) (i:Nat) (s:Shared) (Q:Value->Shared->Prop) (E:Value->Shared->Prop),tn i s.heap->Q (.ref it) s->wpAny (model P w) A (pyIter (.ref it)) Q E s
abbrev TI:=St->Hp->(It->Hp->Prop)->Prop
def PIE (X:Cx) (pins:List (Addr × Obj)) (σ:St) (tg:Expr) (R:It->Hp->Prop) (itv:Value) (s2:Shared):Prop :=
 ∃ (it:Addr) (fp:List Addr) (tn:Nat->Heap->Prop) (J:It) (H':Hp),itv=.ref it/\Inv X pins σ H' s2/\Turn X.prog X.w X.K tg J fp it tn/\tn 0 s2.heap/\(∀ b∈fp,qR X pins H' b)/\R J H'
def PI (X:Cx) (tg iter:Expr) (wi:TI):Prop :=
 ∀ (pins:List (Addr × Obj)) (s:Shared) (σ:St) (H:Hp) (R:It->Hp->Prop),Inv X pins σ H s->wi σ H R ->
   wpAny (model X.prog X.w) X.A (eval iter X.env) (fun v s1=>wpAny (model X.prog X.w) X.A (pyIter v) (PIE X pins σ tg R) X.xe s1) X.xe s
theorem Il {M:Model} {A:Around} {E:Value->Shared->Prop} {s:Shared} {tg:Expr} {it:Addr} {u:Value} {o:Obj} {n:String} {vs:Array Value} {Q:Unit->Shared->Prop} (ho:s.heap.get? it=some o) (hc:o.cls=.type n) (hd:o.data=.fields vs)
   (hn:["enumerate","zip","dict_itemiterator","dict_reverseitemiterator","odict_iterator","itertools.zip_longest","itertools.pairwise"].contains n=false) (hQ:Q () s):wpAny M A (letOwnedTupleGo tg (.ref it) u) Q E s:=by
 unfold letOwnedTupleGo;cases tg <;> first
   | exact wpAny_pure hQ
   | (cases u <;> first
       | exact wpAny_pure hQ
       | (refine wpAny_bind (wpAny_load ho ?_)
          rw [hc,hd];show wpAny M A (if (["enumerate","zip","dict_itemiterator","dict_reverseitemiterator","odict_iterator","itertools.zip_longest","itertools.pairwise"].contains n && vs[0]? == some (rawInt _))=true then _ else _) Q E s;rw [if_neg (by intro h;rw [hn,Bool.false_and] at h;cases h)];exact wpAny_pure hQ))
def Itl (K:PySem.W.Frag) (a:Addr):It :=
 ⟨fun i H=>∃ xs x,SqL K H a xs/\xs[i]?=some x,fun i H x H'=>H'=H/\∀ xs,SqL K H a xs->xs[i]?=some x,fun i H=>∃ xs,SqL K H a xs/\xs.length<=i⟩
def Itt (K:PySem.W.Frag) (a:Addr):It :=
 ⟨fun i H=>∃ xs x,SqT K H a xs/\xs[i]?=some x,fun i H x H'=>H'=H/\∀ xs,SqT K H a xs->xs[i]?=some x,fun i H=>∃ xs,SqT K H a xs/\xs.length<=i⟩
def Itr (lo:Int) (n:Nat):It:=⟨fun i _=>i<n,fun i H x H'=>H'=H/\x=.int (lo+i),fun i _=>n<=i⟩
theorem QW {P:Program} {w:World} {K:PySem.W.Frag} {tg:Expr} (a it:Addr):Turn P w K tg (Itl K a) [it] it (fun i h=>h.IsListIter it a i) where
 mem:=by simp
 obj:=fun i h st b hb=>by
   have e:b=it:=by simpa using hb
   subst e;obtain ⟨o,e,c,d⟩:=st;exact ⟨o,e,fun v z=>by rw [d] at z;cases z⟩
 keep:=fun i h h' st k=>st.at fun o e=>k it (by simp) o e
 item:=by
   intro X hP hw hK hc i pins s σ H E I hf st hg;subst hP hw hK;obtain ⟨xs,x,hq,hx⟩:=hg;obtain ⟨its,rv,p,hz⟩:=I.list hq;obtain ⟨u,hu,ru⟩:=rv.get hx;obtain ⟨f0,f1,f2,f3,f4,f5⟩:=hf it (by simp);refine wpAny_pyNext_list_item st p.isList (x:=u) (by simpa using hu) fun h' st' sb=>?_;have I1:Inv X pins σ H { s with heap:=h' }:=I.turned (t':=s.toks) (fun b o hb e=>(sb.2 b hb).trans e) f0 f1 f3 f4 f5;obtain ⟨o,e,c,d⟩:=id st';exact ⟨u,rfl,Il (s:={ s with heap:=h' }) e c d (by decide) ⟨x,H,I1,ru,⟨rfl,fun ys hy=>by rw [I.list_inj hy hq];exact hx⟩,st',fun b hb=>(hf b hb).1⟩⟩
 done:=by
   intro X hP hw hK hc i pins s σ H E I hf st hg;subst hP hw hK;obtain ⟨xs,hq,hx⟩:=hg;obtain ⟨its,rv,p,hz⟩:=I.list hq;obtain ⟨f0,f1,f2,f3,f4,f5⟩:=hf it (by simp);have hl:=rv.length;exact wpAny_pyNext_list_end (I.ok.hd hc) st p.isList (by simp;omega) fun h' eb=>⟨rfl,I.turned (t':=s.toks) (fun b o hb e=>eb b o hb e) f0 f1 f3 f4 f5⟩
 self:=fun _ _ _ _ _ st h=>wpAny_pyIter_listiter st h
theorem OD {P:Program} {w:World} {K:PySem.W.Frag} {tg:Expr} (a it:Addr):Turn P w K tg (Itt K a) [it] it (fun i h=>h.IsTupleIter it a i) where
 mem:=by simp
 obj:=fun i h st b hb=>by
   have e:b=it:=by simpa using hb
   subst e;obtain ⟨o,e,c,d⟩:=st;exact ⟨o,e,fun v z=>by rw [d] at z;cases z⟩
 keep:=fun i h h' st k=>st.at fun o e=>k it (by simp) o e
 item:=by
   intro X hP hw hK hc i pins s σ H E I hf st hg;subst hP hw hK;obtain ⟨xs,x,hq,hx⟩:=hg;obtain ⟨its,rv,p,hz⟩:=I.tuple hq;obtain ⟨u,hu,ru⟩:=rv.get hx;obtain ⟨f0,f1,f2,f3,f4,f5⟩:=hf it (by simp);refine wpAny_pyNext_tuple_item st (show s.heap.IsTuple a its.toArray from p) (x:=u) (by simpa using hu) fun h' st' sb=>?_;have I1:Inv X pins σ H { s with heap:=h' }:=I.turned (t':=s.toks) (fun b o hb e=>(sb.2 b hb).trans e) f0 f1 f3 f4 f5;obtain ⟨o,e,c,d⟩:=id st';exact ⟨u,rfl,Il (s:={ s with heap:=h' }) e c d (by decide) ⟨x,H,I1,ru,⟨rfl,fun ys hy=>by rw [I.tuple_inj hy hq];exact hx⟩,st',fun b hb=>(hf b hb).1⟩⟩
 done:=by
   intro X hP hw hK hc i pins s σ H E I hf st hg;subst hP hw hK;obtain ⟨xs,hq,hx⟩:=hg;obtain ⟨its,rv,p,hz⟩:=I.tuple hq;obtain ⟨f0,f1,f2,f3,f4,f5⟩:=hf it (by simp);have hl:=rv.length;exact wpAny_pyNext_tuple_end (I.ok.hd hc) st (show s.heap.IsTuple a its.toArray from p) (by simp;omega) fun h' eb=>⟨rfl,I.turned (t':=s.toks) (fun b o hb e=>eb b o hb e) f0 f1 f3 f4 f5⟩
 self:=fun _ _ _ _ _ st h=>wpAny_pyIter_tupleiter st h
theorem PN {P:Program} {w:World} {K:PySem.W.Frag} {tg:Expr} (it:Addr) (lo:Int) (n:Nat):Turn P w K tg (Itr lo n) [it] it (fun i h=>IsRangeIter h it (lo+(i:Nat)*1) ((n:Int) - (i:Nat)) 1) where
 mem:=by simp
 obj:=fun i h st b hb=>by
   have e:b=it:=by simpa using hb
   subst e;exact ⟨_,st,fun v z=>by
     have z':Data.fields _=Data.cell v:=z;cases z'⟩
 keep:=fun i h h' st k=>k it (by simp) _ st
 item:=by
   intro X hP hw hK hc i pins s σ H E I hf st hg;subst hP hw hK;obtain ⟨f0,f1,f2,f3,f4,f5⟩:=hf it (by simp);have W:=Walks.range (prog:=X.prog) (w:=X.w) (I.ok.hd hc) it lo 1 n;refine W.item i s _ _ hg st fun v h' tk hv st' kk=>?_;obtain ⟨t,rfl⟩:=hv;have I1:Inv X pins σ H { s with heap:=h',toks:=tk }:=I.turned (fun b o hb e=>kk b o (by simpa using hb) e) f0 f1 f3 f4 f5;refine ⟨_,rfl,Il (s:={ s with heap:=h',toks:=tk }) (n:="range_iterator") st' rfl rfl (by decide) ⟨.int (lo+i),H,I1,⟨t,?_⟩,⟨rfl,rfl⟩,st',fun b hb=>(hf b hb).1⟩⟩;rw [Int.mul_one]
 done:=by
   intro X hP hw hK hc i pins s σ H E I hf st hg;subst hP hw hK;obtain ⟨f0,f1,f2,f3,f4,f5⟩:=hf it (by simp);exact wpAny_pyNext_range_end (I.ok.hd hc) st (by have:n<=i:=hg;omega) fun h' eb=>⟨rfl,I.turned (t':=s.toks) (fun b o hb e=>eb b o hb e) f0 f1 f3 f4 f5⟩
 self:=fun _ _ _ _ _ st h=>wpAny_pyIter_rangeiter st h
end L2
namespace L2
open PySem PySem.Spec PyProof.Rows
section
variable {X:Cx} {tg:Expr}
def NJ (K:PySem.W.Frag) (tl:TE):TI:=fun σ H R=>tl σ H fun x H1=>∃ a,x=.ref a/\(∃ xs,SqL K H1 a xs)/\R (Itl K a) H1
def T3 (K:PySem.W.Frag) (tl:TE):TI:=fun σ H R=>tl σ H fun x H1=>∃ a,x=.ref a/\(∃ xs,SqT K H1 a xs)/\R (Itt K a) H1
theorem kN {l:Expr} {tl:TE} (hl:PE X l tl):PI X tg l (NJ X.K tl):=by
 intro pins s σ H R I h;refine bT (hl pins s σ H _ I h) fun v s1 x H1 I1 r1 q1=>?_;obtain ⟨a,e,⟨xs,hq⟩,q⟩:=q1;subst e;cases r1;obtain ⟨its,rv,p,hz⟩:=I1.list hq;refine wpAny_pyIter_list p.isList ?_;refine ⟨s1.heap.objs.size,[s1.heap.objs.size],_,_,H1,rfl,I1.kept (t':=s1.toks) fun b o e=>Heap.get?_push_of_some _ e,QW a _,⟨_,Heap.get?_push_size _ rfl,rfl,rfl⟩,fun b hb=>?_,q⟩;have e:b=s1.heap.objs.size:=by simpa using hb
 subst e;exact I1.fpOk (Nat.le_refl _) (I1.hok.fresh (Nat.le_refl _))
theorem yl {l:Expr} {tl:TE} (hl:PE X l tl):PI X tg l (T3 X.K tl):=by
 intro pins s σ H R I h;refine bT (hl pins s σ H _ I h) fun v s1 x H1 I1 r1 q1=>?_;obtain ⟨a,e,⟨xs,hq⟩,q⟩:=q1;subst e;cases r1;obtain ⟨its,rv,p,hz⟩:=I1.tuple hq;refine wpAny_pyIter_tuple (show s1.heap.IsTuple a its.toArray from p) ?_;refine ⟨s1.heap.objs.size,[s1.heap.objs.size],_,_,H1,rfl,I1.kept (t':=s1.toks) fun b o e=>Heap.get?_push_of_some _ e,OD a _,⟨_,Heap.get?_push_size _ rfl,rfl,rfl⟩,fun b hb=>?_,q⟩;have e:b=s1.heap.objs.size:=by simpa using hb
 subst e;exact I1.fpOk (Nat.le_refl _) (I1.hok.fresh (Nat.le_refl _))
theorem Uv {pins:List (Addr × Obj)} {σ:St} {H:Hp} {s:Shared} {R:It->Hp->Prop} {E:Value->Shared->Prop} {lo hi:Int} {t u v:Tok} {tk:Nat} (I:Inv X pins σ H s) (h1:-(2^62)<=lo) (h2:lo<2^62) (h3:-(2^62)<=hi) (h4:hi<2^62)
   (q:R (Itr lo (hi - lo).toNat) H):wpAny (model X.prog X.w) X.A (pyIter (.ref s.heap.objs.size)) (PIE X pins σ tg R) E { s with heap:=s.heap.push { cls:=.type "range",data:=.fields #[.int lo t,.int hi u,.int 1 v] },toks:=tk }:=by
 refine wpAny_pyIter_range (IsRange.new ..) (small_one h1 h2 h3 h4) ?_;have I1:Inv X pins σ H { s with heap:=s.heap.push { cls:=.type "range",data:=.fields #[.int lo t,.int hi u,.int 1 v] },toks:=tk }:=I.kept fun b o e=>Heap.get?_push_of_some _ e;refine ⟨(s.heap.push { cls:=.type "range",data:=.fields #[.int lo t,.int hi u,.int 1 v] }).objs.size,[(s.heap.push { cls:=.type "range",data:=.fields #[.int lo t,.int hi u,.int 1 v] }).objs.size],_,_,H,rfl,
   I1.kept (t':=tk) fun b o e=>Heap.get?_push_of_some _ e,PN _ lo (hi - lo).toNat,?_,fun b hb=>?_,q⟩
 . have e1:lo+((0:Nat):Int)*1=lo:=by simp
   have e2:(((hi - lo).toNat:Nat):Int) - ((0:Nat):Int)=Builtin.Range.rangeSize lo hi 1:=by rw [rangeSize_one];split <;> omega
   show IsRangeIter _ _ (lo+((0:Nat):Int)*1) ((((hi - lo).toNat:Nat):Int) - ((0:Nat):Int)) 1;rw [e1,e2];exact Heap.get?_push_size _ rfl
 . have e:b=(s.heap.push { cls:=.type "range",data:=.fields #[.int lo t,.int hi u,.int 1 v] }).objs.size:=by simpa using hb
   subst e;exact I1.fpOk (Nat.le_refl _) (I1.hok.fresh (Nat.le_refl _))
def OF (ta:TA):TI:=fun σ H R=>ta σ H fun vs H1=>∃ j:Int,vs=[.int j]/\-(2^62)<=j/\j<2^62/\R (Itr 0 j.toNat) H1
def U8 (ta:TA):TI:=fun σ H R=>ta σ H fun vs H1=>∃ i j:Int,vs=[.int i,.int j]/\(-(2^62)<=i/\i<2^62/\-(2^62)<=j/\j<2^62)/\R (Itr i (j - i).toNat) H1
theorem d5 {a:Expr} {ta:TA} {p pos:Pos} (hg:Gl X "range") (hm:X.mg "range"=none) (ha:PA X [a] ta) (hs:starEach [a] X.env=[(false,eval a X.env)]:=by rfl):PI X tg (.Call (.Name "range" p) [a] [] pos) (OF ta):=by
 intro pins s σ H R I h;refine Call_ (xn I hg hm boot_range (PyProof.Rows.callWith_type1 (zu (ha pos pins s σ H _ I h) fun us s1 vs H1 I1 r1 q1=>?_) hs rfl));obtain ⟨j,e,q1,q2,q⟩:=q1;subst e;cases r1 with
 | cons r rr =>
   cases rr;obtain ⟨t,rfl⟩:=r;exact call_range_1 (Uv I1 (by omega) (by omega) q1 q2 (by simpa using q))
def WC (wi:TI) (g:TG) (tb:TS):TS:=fun D σ H=>wi σ H fun J H1=>∃ W:Nat->Nat->St->Hp->Prop,(∃ m,W 0 m σ H1)/\∀ i m σ H,W i m σ H ->
 (J.stop i H/\D.nx σ H)\/(J.go i H/\∃ N:St->Hp->Prop,(∀ σ' H',N σ' H'->∃ m',m'<m/\W (i+1) m' σ' H')/\∀ x H',J.yld i H x H'->g x σ H' fun σ2 H2=>tb { D with nx:=N,ct:=N,bk:=D.nx } σ2 H2)
def xK (fp:List Addr) (h:Heap):List (Addr × Obj):=fp.filterMap fun b=>(h.get? b).map fun o=>(b,o)
theorem ml {fp:List Addr} {h:Heap} {b:Addr} {o:Obj} (hb:b∈fp) (e:h.get? b=some o):(b,o)∈xK fp h:=List.mem_filterMap.mpr ⟨b,hb,by rw [e];rfl⟩
theorem Qw {fp:List Addr} {h:Heap} {p:Addr × Obj} (hp:p∈xK fp h):p.1∈fp/\h.get? p.1=some p.2:=by
 obtain ⟨b,hb,e⟩:=List.mem_filterMap.mp hp;cases q:h.get? b with
 | none=>rw [q] at e;cases e
 | some o =>
   rw [q] at e;have e':(b,o)=p:=Option.some.inj e;subst e';exact ⟨hb,q⟩
theorem Inv.pinned {pins:List (Addr × Obj)} {σ:St} {H:Hp} {s:Shared} {fp:List Addr} (I:Inv X pins σ H s) (hf:∀ b∈fp,qR X pins H b) (ho:∀ b∈fp,∃ o,s.heap.get? b=some o/\∀ v,o.data≠.cell v):Inv X (pins++xK fp s.heap) σ H s :=
 I.pins_of fun p hp=>(List.mem_append.mp hp).elim (fun z=>I.pin p (List.mem_append_right _ z)) fun z=>by
   obtain ⟨hb,e⟩:=Qw z;obtain ⟨f0,f1,f2,_⟩:=hf p.1 hb;obtain ⟨o,e',d⟩:=ho p.1 hb;rw [e] at e';cases e';exact ⟨e,f0,f1,f2,d⟩
theorem Inv.unpinned {pins pl:List (Addr × Obj)} {σ:St} {H:Hp} {s:Shared} (I:Inv X (pins++pl) σ H s):Inv X pins σ H s:=I.pins_of fun p hp=>I.pin p (List.mem_append_right _ (List.mem_append_left _ hp))
theorem eM {iter:Expr} {body:List Stmt} {wi:TI} {g:TG} {tb:TS} {pos:Pos} (hp:PassesOwn (model X.prog X.w) X.A X.env X.xe) (hc:X.calm=true) (hi:PI X tg iter wi) (hg:PG X tg g) (hb:PSs X body tb)
   (hs:∀ x,foldedSetIterable iter X.env x=pure x:=by intro _;rfl):PS X (.For tg iter body [] pos) (WC wi g tb):=by
 intro pins s σ H D I h;refine wpAny_For (thn (hi pins s σ H _ I h) fun v s1 h1=>thn h1 fun itv s2 h2=>?_) hs;obtain ⟨it,fp,tn,J,H2,e,I2,T,st2,f2,W,⟨m0,w0⟩,turn⟩:=h2;subst e;have stat:∀ {H':Hp},(∀ b∈fp,H' b=none)->∀ b∈fp,qR X pins H' b:=fun hn b hb=>⟨hn b hb,(f2 b hb).2⟩;refine codeAny_forLoop_any (fun n s'=>∃ i σ' H',Inv X pins σ' H' s'/\tn i s'.heap/\(∀ b∈fp,H' b=none)/\W i n σ' H') ?_ m0 ⟨0,σ,H2,I2,st2,fun b hb=>(f2 b hb).1,w0⟩;rintro n s3 ⟨i,σ3,H3,I3,st3,fr3,w3⟩;rcases turn i n σ3 H3 w3 with ⟨stop,qn⟩|⟨go,N,hN,step⟩
 . refine wpAny_passesOwn hp (thn (T.done X rfl rfl rfl hc i pins s3 σ3 H3 X.xe I3 (stat fr3) st3 stop) fun r s4 ⟨hr,I4⟩=>?_);subst hr;exact wpAny_execs_nil ⟨σ3,H3,I4,qn⟩
 . refine wpAny_passesOwn hp (thn (T.item X rfl rfl rfl hc i pins s3 σ3 H3 X.xe I3 (stat fr3) st3 go) fun r s4 ⟨u,hr,h4⟩=>?_);subst hr;refine wpAny_passesOwn hp (thn h4 fun _ s5 ⟨x,H5,I5,r5,y5,st5,fr5⟩=>?_);have I5':=I5.pinned (stat fr5) (T.obj _ _ st5);refine wpAny_passesOwn hp (thn (hg _ s5 σ3 H5 x u _ I5' r5 (step x H5 y5)) fun _ s6 ⟨σ6,H6,I6,q6⟩=>?_);refine wpAny_passesOwn hp (thn (hb _ s6 σ6 H6 _ I6 q6) fun f s7 q7=>?_);have again:∀ {σ7:St} {H7:Hp},Inv X (pins++xK fp s5.heap) σ7 H7 s7->N σ7 H7->∃ m,m<n/\∃ i σ' H',Inv X pins σ' H' s7/\tn i s7.heap/\(∀ b∈fp,H' b=none)/\W i m σ' H':=fun {σ7 H7} I7 n7=>by
     obtain ⟨m',hm,w7⟩:=hN σ7 H7 n7;refine ⟨m',hm,i+1,σ7,H7,I7.unpinned,T.keep _ _ _ st5 fun b hb o e=>(I7.pin (b,o) (List.mem_append_right _ (List.mem_append_right _ (ml hb e)))).1,fun b hb=>?_,w7⟩;obtain ⟨o,e,d⟩:=T.obj _ _ st5 b hb;exact (I7.pin (b,o) (List.mem_append_right _ (List.mem_append_right _ (ml hb e)))).2.1
   cases f with
   | next=>obtain ⟨σ7,H7,I7,n7⟩:=q7;exact again I7 n7
   | cont=>obtain ⟨σ7,H7,I7,n7⟩:=q7;exact again I7 n7
   | brk=>obtain ⟨σ7,H7,I7,q7⟩:=q7;exact ⟨σ7,H7,I7.unpinned,q7⟩
   | ret v=>obtain ⟨x7,σ7,H7,I7,r7,q7⟩:=q7;exact ⟨x7,σ7,H7,I7.unpinned,r7,q7⟩
end
theorem Ix {K:PySem.W.Frag} {a:Addr} {xs:List V} {g:TG} {tb:TS} {D:Ends} {σ:St} {H:Hp} (Pv:Nat->St->Hp->Prop) (h0:Pv 0 σ H) (hl:∀ i σ H,i<=xs.length->Pv i σ H->SqL K H a xs)
   (hs:∀ i x σ H,xs[i]?=some x->Pv i σ H->g x σ H fun σ2 H2=>tb { D with nx:=Pv (i+1),ct:=Pv (i+1),bk:=D.nx } σ2 H2) (hd:∀ σ H,Pv xs.length σ H->D.nx σ H) :
   ∃ W:Nat->Nat->St->Hp->Prop,(∃ m,W 0 m σ H)/\∀ i m σ H,W i m σ H ->
     ((Itl K a).stop i H/\D.nx σ H)\/((Itl K a).go i H/\∃ N:St->Hp->Prop,(∀ σ' H',N σ' H'->∃ m',m'<m/\W (i+1) m' σ' H')/\∀ x H',(Itl K a).yld i H x H'->g x σ H' fun σ2 H2=>tb { D with nx:=N,ct:=N,bk:=D.nx } σ2 H2):=by
 refine ⟨fun i m σ H=>m=xs.length - i/\i<=xs.length/\Pv i σ H,⟨xs.length,by simp,Nat.zero_le _,h0⟩,?_⟩;rintro i m σ H ⟨rfl,hi,p⟩;have q:=hl i σ H hi p;by_cases hlt:i<xs.length
 . refine .inr ⟨⟨xs,xs[i],q,by simp [hlt]⟩,Pv (i+1),fun σ' H' p'=>⟨xs.length - (i+1),by omega,rfl,hlt,p'⟩,fun x H' y=>?_⟩;obtain ⟨e,y⟩:=y;subst e;exact hs i x σ _ (y xs q) p
 . have e:i=xs.length:=by omega
   subst e;exact .inl ⟨⟨xs,q,Nat.le_refl _⟩,hd σ H p⟩
theorem BU {K:PySem.W.Frag} {a:Addr} {xs:List V} {g:TG} {tb:TS} {D:Ends} {σ:St} {H:Hp} (Pv:Nat->St->Hp->Prop) (h0:Pv 0 σ H) (hl:∀ i σ H,i<=xs.length->Pv i σ H->SqT K H a xs)
   (hs:∀ i x σ H,xs[i]?=some x->Pv i σ H->g x σ H fun σ2 H2=>tb { D with nx:=Pv (i+1),ct:=Pv (i+1),bk:=D.nx } σ2 H2) (hd:∀ σ H,Pv xs.length σ H->D.nx σ H) :
   ∃ W:Nat->Nat->St->Hp->Prop,(∃ m,W 0 m σ H)/\∀ i m σ H,W i m σ H ->
     ((Itt K a).stop i H/\D.nx σ H)\/((Itt K a).go i H/\∃ N:St->Hp->Prop,(∀ σ' H',N σ' H'->∃ m',m'<m/\W (i+1) m' σ' H')/\∀ x H',(Itt K a).yld i H x H'->g x σ H' fun σ2 H2=>tb { D with nx:=N,ct:=N,bk:=D.nx } σ2 H2):=by
 refine ⟨fun i m σ H=>m=xs.length - i/\i<=xs.length/\Pv i σ H,⟨xs.length,by simp,Nat.zero_le _,h0⟩,?_⟩;rintro i m σ H ⟨rfl,hi,p⟩;have q:=hl i σ H hi p;by_cases hlt:i<xs.length
 . refine .inr ⟨⟨xs,xs[i],q,by simp [hlt]⟩,Pv (i+1),fun σ' H' p'=>⟨xs.length - (i+1),by omega,rfl,hlt,p'⟩,fun x H' y=>?_⟩;obtain ⟨e,y⟩:=y;subst e;exact hs i x σ _ (y xs q) p
 . have e:i=xs.length:=by omega
   subst e;exact .inl ⟨⟨xs,q,Nat.le_refl _⟩,hd σ H p⟩
theorem Qk {lo:Int} {n:Nat} {g:TG} {tb:TS} {D:Ends} {σ:St} {H:Hp} (Pv:Nat->St->Hp->Prop) (h0:Pv 0 σ H)
   (hs:∀ i σ H,i<n->Pv i σ H->g (.int (lo+i)) σ H fun σ2 H2=>tb { D with nx:=Pv (i+1),ct:=Pv (i+1),bk:=D.nx } σ2 H2) (hd:∀ σ H,Pv n σ H->D.nx σ H) :
   ∃ W:Nat->Nat->St->Hp->Prop,(∃ m,W 0 m σ H)/\∀ i m σ H,W i m σ H ->
     ((Itr lo n).stop i H/\D.nx σ H)\/((Itr lo n).go i H/\∃ N:St->Hp->Prop,(∀ σ' H',N σ' H'->∃ m',m'<m/\W (i+1) m' σ' H')/\∀ x H',(Itr lo n).yld i H x H'->g x σ H' fun σ2 H2=>tb { D with nx:=N,ct:=N,bk:=D.nx } σ2 H2):=by
 refine ⟨fun i m σ H=>m=n - i/\i<=n/\Pv i σ H,⟨n,by simp,Nat.zero_le _,h0⟩,?_⟩;rintro i m σ H ⟨rfl,hi,p⟩;by_cases hlt:i<n
 . refine .inr ⟨hlt,Pv (i+1),fun σ' H' p'=>⟨n - (i+1),by omega,rfl,hlt,p'⟩,fun x H' y=>?_⟩;obtain ⟨e,y⟩:=y;subst e y;exact hs i σ _ hlt p
 . have e:i=n:=by omega
   subst e;exact .inl ⟨Nat.le_refl _,hd σ H p⟩
end L2
namespace L2
open PySem PySem.Spec PyProof.Rows
abbrev R2:=V->V->Hp->VK->Prop
def OpR (X:Cx) (f:Value->Value->Sem Value) (r:R2):Prop :=
 ∀ (pins:List (Addr × Obj)) (s:Shared) (σ:St) (H:Hp) (x y:V) (v u:Value) (Q:VK),Inv X pins σ H s->RelV x v->RelV y u->r x y H Q ->
   wpAny (model X.prog X.w) X.A (f v u) (EP X pins σ Q) X.xe s
def UnR (X:Cx) (f:Value->Sem Value) (r:V->Hp->VK->Prop):Prop :=
 ∀ (pins:List (Addr × Obj)) (s:Shared) (σ:St) (H:Hp) (x:V) (v:Value) (Q:VK),Inv X pins σ H s->RelV x v->r x H Q ->
   wpAny (model X.prog X.w) X.A (f v) (EP X pins σ Q) X.xe s
def jp (X:Cx) (f:Value) (r:List V->Hp->VK->Prop):Prop :=
 ∀ (pins:List (Addr × Obj)) (s:Shared) (σ:St) (H:Hp) (xs:List V) (us:List Value) (Q:VK),Inv X pins σ H s->Vals xs us->r xs H Q ->
   wpAny (model X.prog X.w) X.A (call f us) (EP X pins σ Q) X.xe s
def Yi (X:Cx) (r:V->Hp->(Bool->Hp->Prop)->Prop):Prop :=
 ∀ (pins:List (Addr × Obj)) (s:Shared) (σ:St) (H:Hp) (x:V) (v:Value) (Q:Bool->Hp->Prop),Inv X pins σ H s->RelV x v->r x H Q ->
   wpAny (model X.prog X.w) X.A (truthy v) (TP X pins σ Q) X.xe s
def tOp (r:R2) (ta tb:TE):TE:=fun σ H Q=>ta σ H fun x H1=>tb σ H1 fun y H2=>r x y H2 Q
def tUn (r:V->Hp->VK->Prop) (ta:TE):TE:=fun σ H Q=>ta σ H fun x H1=>r x H1 Q
def rI (C:Int->Int->Prop) (g:Int->Int->V):R2:=fun x y H Q=>∃ i j,x=.int i/\y=.int j/\C i j/\Q (g i j) H
def rI0 (g:Int->Int->V):R2:=fun x y H Q=>∃ i j,x=.int i/\y=.int j/\Q (g i j) H
def rU (g:Int->V):V->Hp->VK->Prop:=fun x H Q=>∃ i,x=.int i/\Q (g i) H
section
variable {X:Cx} {a b c:Expr} {ta tb tc:TE} {pos:Pos}
theorem UA (ha:PE X a ta) (hb:PE X b tb) {pins:List (Addr × Obj)} {s:Shared} {σ:St} {H:Hp} {R:V->V->Hp->Prop} (I:Inv X pins σ H s)
   (h:ta σ H fun x H1=>tb σ H1 fun y H2=>R x y H2) {Q:Value->Shared->Prop} {f:Value->Value->Sem Value}
   (hf:∀ v u s2 x y H2,Inv X pins σ H2 s2->RelV x v->RelV y u->R x y H2->wpAny (model X.prog X.w) X.A (f v u) Q X.xe s2) :
   wpAny (model X.prog X.w) X.A (eval a X.env) (fun v s₁=>wpAny (model X.prog X.w) X.A (eval b X.env) (fun u s₂=>wpAny (model X.prog X.w) X.A (f v u) Q X.xe s₂) X.xe s₁) X.xe s:=by
 refine bT (ha pins s σ H _ I h) fun v s1 x H1 I1 r1 q1=>?_;refine bT (hb pins s1 σ H1 _ I1 q1) fun u s2 y H2 I2 r2 q2=>?_;exact hf v u s2 x y H2 I2 r1 r2 q2
theorem aA {op:Operator} {r:R2} (ho:OpR X (binaryOp op) r) (ha:PE X a ta) (hb:PE X b tb):PE X (.BinOp a op b pos) (tOp r ta tb):=by
 intro pins s σ H Q I h;exact wpAny_BinOp (UA ha hb I h fun v u s2 x y H2 I2 rx ry q=>ho pins s2 σ H2 x y v u Q I2 rx ry q)
theorem Ph {op:UnaryOp} {r:V->Hp->VK->Prop} (ho:UnR X (unaryOp op) r) (ha:PE X a ta):PE X (.UnaryOp op a pos) (tUn r ta):=by
 intro pins s σ H Q I h;exact UnaryOp_ (bT (ha pins s σ H _ I h) fun v s1 x H1 I1 r1 q1=>ho pins s1 σ H1 x v Q I1 r1 q1)
theorem opI {f:Value->Value->Sem Value} {C:Int->Int->Prop} {g:Int->Int->Int}
   (rule:∀ (i j:Int) (t u:Tok) (s:Shared) (Q:Value->Shared->Prop) (E:Value->Shared->Prop),C i j->Q (.int (g i j) s.toks) { s with toks:=s.toks+1 }->wpAny (model X.prog X.w) X.A (f (.int i t) (.int j u)) Q E s) :
   OpR X f (rI C fun i j=>.int (g i j)):=by
 intro pins s σ H x y v u Q I rx ry h;obtain ⟨i,j,rfl,rfl,hc,q⟩:=h;obtain ⟨t,rfl⟩:=rx;obtain ⟨t',rfl⟩:=ry;exact rule i j t t' s _ _ hc ⟨.int (g i j),H,I.tok _,⟨_,rfl⟩,q⟩
theorem WU {f:Value->Value->Sem Value} {g:Int->Int->Int}
   (rule:∀ (i j:Int) (t u:Tok) (s:Shared) (Q:Value->Shared->Prop) (E:Value->Shared->Prop),Q (.int (g i j) s.toks) { s with toks:=s.toks+1 }->wpAny (model X.prog X.w) X.A (f (.int i t) (.int j u)) Q E s) :
   OpR X f (rI0 fun i j=>.int (g i j)):=by
 intro pins s σ H x y v u Q I rx ry h;obtain ⟨i,j,rfl,rfl,q⟩:=h;obtain ⟨t,rfl⟩:=rx;obtain ⟨t',rfl⟩:=ry;exact rule i j t t' s _ _ ⟨.int (g i j),H,I.tok _,⟨_,rfl⟩,q⟩
theorem NK {f:Value->Value->Sem Value} {g:Int->Int->Bool}
   (rule:∀ (i j:Int) (t u:Tok) (s:Shared) (Q:Value->Shared->Prop) (E:Value->Shared->Prop),Q (.bool (g i j)) s->wpAny (model X.prog X.w) X.A (f (.int i t) (.int j u)) Q E s) :
   OpR X f (rI0 fun i j=>.bl (g i j)):=by
 intro pins s σ H x y v u Q I rx ry h;obtain ⟨i,j,rfl,rfl,q⟩:=h;obtain ⟨t,rfl⟩:=rx;obtain ⟨t',rfl⟩:=ry;exact rule i j t t' s _ _ ⟨.bl (g i j),H,I,rfl,q⟩
def Ye (i j:Int):Prop:=0<j/\j<1073741824
def WE (i j:Int):Prop:=0<=j/\j<=1000000/\i.natAbs<2^64
def CMul (i j:Int):Prop:=(-(2^64)<i/\i<2^64)\/(-(2^64)<j/\j<2^64)
theorem CMul.ok {i j:Int} (h:CMul i j):IntMulOk i j:=by
 rcases h with ⟨h1,h2⟩|⟨h1,h2⟩
 . exact .of_left (intBits_le_64 h1 h2)
 . exact .of_right (intBits_le_64 h1 h2)
theorem lu:OpR X (binaryOp .Add) (rI0 fun i j=>.int (i+j)):=WU fun _ _ _ _ _ _ _ q=>add_int q
theorem EA:OpR X (binaryOp .Sub) (rI0 fun i j=>.int (i - j)):=WU fun _ _ _ _ _ _ _ q=>sub_int q
theorem xx:OpR X (binaryOp .Mult) (rI CMul fun i j=>.int (i*j)):=opI fun _ _ _ _ _ _ _ hc q=>mul_int q hc.ok
theorem tS:OpR X (binaryOp .FloorDiv) (rI Ye fun i j=>.int (i / j)):=opI fun i j _ _ _ _ _ hc q=>by
 have h1:(0:Int)<j:=hc.1;have h2:j<1073741824:=hc.2;exact floordiv_int (by omega) (by rw [Int.fdiv_eq_ediv_of_nonneg i (by omega)];exact q) (.inl (PyProof.noPylong_small (by omega)))
theorem jE:OpR X (binaryOp .Mod) (rI (fun _ j=>0<j) fun i j=>.int (i % j)):=opI fun i j _ _ _ _ _ hc q=>by
 have h1:(0:Int)<j:=hc;exact mod_int' (by omega) (by rw [Int.fmod_eq_emod_of_nonneg i (by omega)];exact q)
theorem Vw:OpR X (binaryOp .Mod) (rI (fun _ j=>j≠0) fun i j=>.int (i.fmod j)):=opI fun _ _ _ _ _ _ _ hc q=>mod_int' hc q
theorem yn:OpR X (binaryOp .Pow) (rI WE fun i j=>.int (i^j.toNat)):=opI fun _ _ _ _ _ _ _ hc q=>pow_int_small hc.1 hc.2.1 hc.2.2 q
theorem unI {f:Value->Sem Value} {g:Int->Int}
   (rule:∀ (i:Int) (t:Tok) (s:Shared) (Q:Value->Shared->Prop) (E:Value->Shared->Prop),Q (.int (g i) s.toks) { s with toks:=s.toks+1 }->wpAny (model X.prog X.w) X.A (f (.int i t)) Q E s) :
   UnR X f (rU fun i=>.int (g i)):=by
 intro pins s σ H x v Q I rx h;obtain ⟨i,rfl,q⟩:=h;obtain ⟨t,rfl⟩:=rx;exact rule i t s _ _ ⟨.int (g i),H,I.tok _,⟨_,rfl⟩,q⟩
theorem IJ:UnR X (unaryOp .USub) (rU fun i=>.int (-i)):=unI fun _ _ _ _ _ q=>neg_int q
end
def ui:V->V->Bool
 | .non,.non=>true|.non,.int _=>true|.int _,.non=>true|.non,.bl _=>true|.bl _,.non=>true|.non,.str _=>true|.str _,.non=>true
 | .int _,.int _=>true|.bl _,.bl _=>true|.str _,.str _=>true|.byt _,.byt _=>true
 | .int _,.str _=>true|.str _,.int _=>true|.bl _,.str _=>true|.str _,.bl _=>true
 | _,_=>false
def rEq:R2:=fun x y H Q=>ui x y=true/\Q (.bl (decide (x=y))) H
def rNe:R2:=fun x y H Q=>ui x y=true/\Q (.bl (!decide (x=y))) H
theorem Nh {i j:Int}:decide (V.int i=V.int j)=(i == j):=by
 rw [Bool.eq_iff_iff];simp
theorem Rh {i j:Bool}:decide (V.bl i=V.bl j)=(i == j):=by
 rw [Bool.eq_iff_iff];simp
theorem Nk {i j:Str}:decide (V.str i=V.str j)=(i == j):=by
 rw [Bool.eq_iff_iff];simp
theorem Nv {i j:Array UInt8}:decide (V.byt i=V.byt j)=(i.toList == j.toList):=by
 rw [Bool.eq_iff_iff];cases i;cases j;simp
section
variable {X:Cx} {a b c:Expr} {ta tb tc:TE} {pos:Pos}
theorem cg {pins:List (Addr × Obj)} {σ:St} {H:Hp} {s:Shared} {Q:VK} {k k':Bool} (I:Inv X pins σ H s) (q:Q (.bl k) H) (e:k=k'):EP X pins σ Q (.bool k') s:=by
 subst e;exact ⟨.bl k,H,I,rfl,q⟩
theorem jX:OpR X (compareOp .Eq) rEq:=by
 intro pins s σ H x y v u Q I rx ry h;obtain ⟨hs,q⟩:=h;cases x with
 | non =>
   cases rx;cases y with
   | non=>cases ry;exact PySem.EqNone.eq_none_none (cg I q (by simp))
   | bl j=>cases ry;exact PySem.EqNone.eq_none_bool (cg I q (by simp))
   | int j=>obtain ⟨t',rfl⟩:=ry;exact PySem.EqNone.eq_none_int (cg I q (by simp))
   | str j=>obtain ⟨t',rfl⟩:=ry;exact PySem.EqNone.eq_none_str (cg I q (by simp))
   | _=>exact absurd (show false=true from hs) Bool.false_ne_true
 | bl i =>
   cases rx;cases y with
   | non=>cases ry;exact PySem.EqNone.eq_bool_none (cg I q (by simp))
   | bl j=>cases ry;exact eq_bool (cg I q Rh)
   | str j=>obtain ⟨t',rfl⟩:=ry;exact PySem.EqMixed.eq_bool_str (cg I q (by simp))
   | _=>exact absurd (show false=true from hs) Bool.false_ne_true
 | int i =>
   obtain ⟨t,rfl⟩:=rx;cases y with
   | non=>cases ry;exact PySem.EqNone.eq_int_none (cg I q (by simp))
   | int j=>obtain ⟨t',rfl⟩:=ry;exact eq_int (cg I q Nh)
   | str j=>obtain ⟨t',rfl⟩:=ry;exact PySem.EqMixed.eq_int_str (cg I q (by simp))
   | _=>exact absurd (show false=true from hs) Bool.false_ne_true
 | str i =>
   obtain ⟨t,rfl⟩:=rx;cases y with
   | non=>cases ry;exact PySem.EqNone.eq_str_none (cg I q (by simp))
   | bl j=>cases ry;exact PySem.EqMixed.eq_str_bool (cg I q (by simp))
   | int j=>obtain ⟨t',rfl⟩:=ry;exact PySem.EqMixed.eq_str_int (cg I q (by simp))
   | str j=>obtain ⟨t',rfl⟩:=ry;exact eq_str (cg I q Nk)
   | _=>exact absurd (show false=true from hs) Bool.false_ne_true
 | byt i =>
   obtain ⟨t,rfl⟩:=rx;cases y with
   | byt j=>obtain ⟨t',rfl⟩:=ry;exact PySem.W.eq_bytes (cg I q Nv)
   | _=>exact absurd (show false=true from hs) Bool.false_ne_true
 | _=>cases y <;> exact absurd (show false=true from hs) Bool.false_ne_true
theorem mh:OpR X (compareOp .NotEq) rNe:=by
 intro pins s σ H x y v u Q I rx ry h;obtain ⟨hs,q⟩:=h;cases x with
 | non =>
   cases rx;cases y with
   | non=>cases ry;exact PySem.EqNone.ne_none_none (cg I q (by simp))
   | bl j=>cases ry;exact PySem.EqNone.ne_none_bool (cg I q (by simp))
   | int j=>obtain ⟨t',rfl⟩:=ry;exact PySem.EqNone.ne_none_int (cg I q (by simp))
   | str j=>obtain ⟨t',rfl⟩:=ry;exact PySem.EqNone.ne_none_str (cg I q (by simp))
   | _=>exact absurd (show false=true from hs) Bool.false_ne_true
 | bl i =>
   cases rx;cases y with
   | non=>cases ry;exact PySem.EqNone.ne_bool_none (cg I q (by simp))
   | bl j=>cases ry;exact ne_bool (cg I q (congrArg not Rh))
   | str j=>obtain ⟨t',rfl⟩:=ry;exact PySem.EqMixed.ne_bool_str (cg I q (by simp))
   | _=>exact absurd (show false=true from hs) Bool.false_ne_true
 | int i =>
   obtain ⟨t,rfl⟩:=rx;cases y with
   | non=>cases ry;exact PySem.EqNone.ne_int_none (cg I q (by simp))
   | int j=>obtain ⟨t',rfl⟩:=ry;exact ne_int (cg I q (congrArg not Nh))
   | str j=>obtain ⟨t',rfl⟩:=ry;exact PySem.EqMixed.ne_int_str (cg I q (by simp))
   | _=>exact absurd (show false=true from hs) Bool.false_ne_true
 | str i =>
   obtain ⟨t,rfl⟩:=rx;cases y with
   | non=>cases ry;exact PySem.EqNone.ne_str_none (cg I q (by simp))
   | bl j=>cases ry;exact PySem.EqMixed.ne_str_bool (cg I q (by simp))
   | int j=>obtain ⟨t',rfl⟩:=ry;exact PySem.EqMixed.ne_str_int (cg I q (by simp))
   | str j=>obtain ⟨t',rfl⟩:=ry;exact ne_str (cg I q (congrArg not Nk))
   | _=>exact absurd (show false=true from hs) Bool.false_ne_true
 | byt i =>
   obtain ⟨t,rfl⟩:=rx;cases y with
   | byt j=>obtain ⟨t',rfl⟩:=ry;exact PySem.W.ne_bytes (cg I q (congrArg not Nv))
   | _=>exact absurd (show false=true from hs) Bool.false_ne_true
 | _=>cases y <;> exact absurd (show false=true from hs) Bool.false_ne_true
theorem rz:OpR X (compareOp .Lt) (rI0 fun i j=>.bl (decide (i<j))):=NK fun _ _ _ _ _ _ _ q=>lt_int q
theorem EC:OpR X (compareOp .LtE) (rI0 fun i j=>.bl (decide (i<=j))):=NK fun _ _ _ _ _ _ _ q=>le_int q
theorem BN:OpR X (compareOp .Gt) (rI0 fun i j=>.bl (decide (j<i))):=NK fun _ _ _ _ _ _ _ q=>gt_int q
theorem XV:OpR X (compareOp .GtE) (rI0 fun i j=>.bl (decide (j<=i))):=NK fun _ _ _ _ _ _ _ q=>ge_int q
theorem aI (b:Expr) {op:CmpOp} (h:op≠.In:=by decide) (h2:op≠.NotIn:=by decide):behindInMarks op b=false:=by
 have e1:(op == CmpOp.In)=false:=by cases op <;> first|rfl|exact absurd rfl h
 have e2:(op == CmpOp.NotIn)=false:=by cases op <;> first|rfl|exact absurd rfl h2
 cases b <;> simp [behindInMarks,e1,e2]
theorem gZ {op:CmpOp} {r:R2} (ho:OpR X (compareOp op) r) (ha:PE X a ta) (hb:PE X b tb) (hm:behindInMarks op b=false):PE X (.Compare a [op] [b] pos) (tOp r ta tb):=by
 intro pins s σ H Q I h;exact wpAny_Compare1 (UA ha hb I h fun v u s2 x y H2 I2 rx ry q=>ho pins s2 σ H2 x y v u Q I2 rx ry q) hm
def Iv (t:TE):TT:=fun σ H Q=>t σ H fun x H'=>∃ k,x=.bl k/\Q k H'
theorem aO {op:CmpOp} {r:R2} (ho:OpR X (compareOp op) r) (ha:PE X a ta) (hb:PE X b tb) (hm:behindInMarks op b=false):PT X (.Compare a [op] [b] pos) (Iv (tOp r ta tb)):=by
 intro pins s σ H Q I h;refine wpAny_isTrue_Compare1 (bT (ha pins s σ H _ I h) fun v s1 x H1 I1 r1 q1=>bT (hb pins s1 σ H1 _ I1 q1) fun u s2 y H2 I2 r2 q2 =>
   bT (ho pins s2 σ H2 x y v u _ I2 r1 r2 q2) fun c s3 z H3 I3 r3 ⟨k,e,q3⟩=>?_) hm
 subst e;cases r3;exact wpAny_truthy_bool ⟨H3,I3,q3⟩
def D8 (r r':R2) (ta tb tc:TE):TE:=fun σ H Q=>ta σ H fun x H1=>tb σ H1 fun y H2=>r x y H2 fun z H3=>∃ k,z=.bl k /\
 (if k=true then tc σ H3 fun w' H4=>r' y w' H4 Q else Q (.bl false) H3)
theorem UH {op op':CmpOp} {r r':R2} (ho:OpR X (compareOp op) r) (ho':OpR X (compareOp op') r') (ha:PE X a ta) (hb:PE X b tb) (hc:PE X c tc)
   (hm:lastMarks [op,op'] [b,c]=false:=by with_unfolding_all rfl):PE X (.Compare a [op,op'] [b,c] pos) (D8 r r' ta tb tc):=by
 intro pins s σ H Q I h;refine Compare_chain (bT (ha pins s σ H _ I h) fun v s1 x H1 I1 r1 q1=>chain_link (bT (hb pins s1 σ H1 _ I1 q1) fun u s2 y H2 I2 r2 q2 =>
   bT (ho pins s2 σ H2 x y v u _ I2 r1 r2 q2) fun d s3 z H3 I3 r3 ⟨k,e,q3⟩=>?_)) hm
 subst e;cases r3;refine wpAny_truthy_bool ?_;cases k with
 | false=>exact ite_ff ⟨.bl false,H3,I3,rfl,q3⟩
 | true=>exact ite_tt (chain_last (thn (hc pins s3 σ H3 _ I3 q3) fun w' s4 ⟨z',H4,I4,r4,q4⟩=>ho' pins s4 σ H4 y z' u w' Q I4 r2 r4 q4))
theorem JU {op op':CmpOp} {r r':R2} (ho:OpR X (compareOp op) r) (ho':OpR X (compareOp op') r') (ha:PE X a ta) (hb:PE X b tb) (hc:PE X c tc)
   (hm:lastMarks [op,op'] [b,c]=false:=by with_unfolding_all rfl):PT X (.Compare a [op,op'] [b,c] pos) (Iv (D8 r r' ta tb tc)):=by
 intro pins s σ H Q I h;refine isTrue_chain (bT (ha pins s σ H _ I h) fun v s1 x H1 I1 r1 q1=>test_link (bT (hb pins s1 σ H1 _ I1 q1) fun u s2 y H2 I2 r2 q2 =>
   bT (ho pins s2 σ H2 x y v u _ I2 r1 r2 q2) fun d s3 z H3 I3 r3 ⟨k,e,q3⟩=>?_)) hm
 subst e;cases r3;refine wpAny_truthy_bool ?_;cases k with
 | false =>
   obtain ⟨k',e',q'⟩:=q3;cases e';exact ite_ff ⟨H3,I3,q'⟩
 | true =>
   refine ite_tt (test_last (thn (hc pins s3 σ H3 _ I3 q3) fun w' s4 ⟨z',H4,I4,r4,q4⟩=>thn (ho' pins s4 σ H4 y z' u w' _ I4 r2 r4 q4) fun d' s5 ⟨z2,H5,I5,r5,k2,e2,q5⟩=>?_));subst e2;cases r5;exact wpAny_truthy_bool ⟨H5,I5,q5⟩
def Wu (K:PySem.W.Frag) (x:V) (H:Hp) (k:Bool):Prop :=
 match x with
 | .non=>k=false
 | .bl b=>k=b
 | .int i=>k=(i != 0)
 | .str y=>y.length<=sizeLine/\k=((y.length:Int) != 0)
 | .byt y=>y.size<=sizeLine/\k=((y.size:Int) != 0)
 | .ref p=>(∃ xs,SqL K H p xs/\k=!xs.isEmpty)\/(∃ xs,SqT K H p xs/\k=!xs.isEmpty)\/∃ kvs,H p=some (.dK kvs)/\k=!kvs.isEmpty
 | _=>False
theorem NS {κ:Type} {kvs:List (κ × V)} {vs:List (κ × Value)} (r:KV kvs vs):(!vs.isEmpty)=!kvs.isEmpty:=by
 cases r <;> rfl
theorem Ey {xs:List V} {its:List Value} (r:Vals xs its):(!its.toArray.isEmpty)=!xs.isEmpty:=by
 cases r <;> simp
theorem xG:(sizeLine:Nat)<2^63:=by rw [sizeLine_eq];decide
theorem WN:Yi X (fun x H Q=>∃ k,Wu X.K x H k/\Q k H):=by
 intro pins s σ H x v Q I rx h;obtain ⟨k,e,q⟩:=h;have hl:=xG;have hs:sizeLine=16777216:=sizeLine_eq;cases x with
 | non =>
   cases rx;have e':k=false:=e;subst e';exact truthy_none ⟨H,I,q⟩
 | bl b =>
   cases rx;have e':k=b:=e;subst e';exact wpAny_truthy_bool ⟨H,I,q⟩
 | int i =>
   obtain ⟨t,rfl⟩:=rx;have e':k=(i != 0):=e;subst e';exact PySem.P.truthy_int ⟨H,I,q⟩
 | str y =>
   obtain ⟨t,rfl⟩:=rx;obtain ⟨hy,e'⟩:y.length<=sizeLine/\k=((y.length:Int) != 0):=e;subst e';exact PySem.P.truthy_str (by omega) ⟨H,I.tok _,q⟩
 | byt y =>
   obtain ⟨t,rfl⟩:=rx;obtain ⟨hy,e'⟩:y.size<=sizeLine/\k=((y.size:Int) != 0):=e;subst e';exact PySem.W.truthy_bytes (by omega) ⟨H,I.tok _,q⟩
 | ref p =>
   cases rx;have e':(∃ xs,SqL X.K H p xs/\k=!xs.isEmpty)\/(∃ xs,SqT X.K H p xs/\k=!xs.isEmpty)\/∃ kvs,H p=some (.dK kvs)/\k=!kvs.isEmpty:=e;rcases e' with ⟨xs,hx,e'⟩|⟨xs,hx,e'⟩|⟨kvs,hx,e'⟩
   . subst e';obtain ⟨its,r,pl,hz⟩:=I.list hx;have hlen:=r.length;exact wpAny_truthy_list pl.isList (by simp only [List.size_toArray];omega) ⟨H,I.tok _,by rw [Ey r];exact q⟩
   . subst e';obtain ⟨its,r,pl,hz⟩:=I.tuple hx;have hlen:=r.length;exact truthy_tuple pl (by simp only [List.size_toArray];omega) ⟨H,I.tok _,by rw [Ey r];exact q⟩
   . subst e';obtain ⟨hz,hS,vs,r,m⟩:kvs.length<=sizeLine/\(p == sysModules)=false/\∃ vs,KV kvs vs/\s.heap.DictOf (eV X.prog X.w) p vs:=I.hok p _ hx;have hlen:kvs.length=vs.length:=Paired.length r;exact wpAny_truthy_dict hS m (by omega) ⟨H,I.tok _,by rw [NS r];exact q⟩
 | _=>exact (show False from e).elim
theorem nJ (ha:PE X a ta) (he:∀ whole,isTrue a X.env whole=(do let v <- whole;standAt a.pos;holding [v] (truthy v))) :
   PT X a (fun σ H Q=>ta σ H fun x H'=>∃ k,Wu X.K x H' k/\Q k H'):=by
 intro pins s σ H Q I h;exact isTrue_plain (bT (ha pins s σ H _ I h) fun v s1 x H1 I1 r1 q1=>WN pins s1 σ H1 x v Q I1 r1 q1) (he _)
theorem nF {x:V} {us:List Value} (r:Vals [x] us):∃ u,us=[u]/\RelV x u:=by
 cases r with
 | cons r1 r2=>cases r2;exact ⟨_,rfl,r1⟩
theorem UW {x y:V} {us:List Value} (r:Vals [x,y] us):∃ u w',us=[u,w']/\RelV x u/\RelV y w':=by
 cases r with
 | cons r1 r2 =>
   cases r2 with
   | cons r3 r4=>cases r4;exact ⟨_,_,rfl,r1,r3⟩
theorem Jc:jp X (.builtin "abs") (fun xs H Q=>∃ i,xs=[.int i]/\Q (.int (if i<0 then -i else i)) H):=by
 intro pins s σ H xs us Q I r h;obtain ⟨i,rfl,q⟩:=h;obtain ⟨u,rfl,t,rfl⟩:=nF r;exact call_abs_int fun u tk=>⟨.int (if i<0 then -i else i),H,I.tok _,⟨_,rfl⟩,q⟩
theorem P4:jp X (.type "int") (fun xs H Q=>(∃ i,xs=[.int i]/\Q (.int i) H)\/∃ k,xs=[.bl k]/\Q (.int (if k then 1 else 0)) H):=by
 intro pins s σ H xs us Q I r h;rcases h with ⟨i,rfl,q⟩|⟨k,rfl,q⟩
 . obtain ⟨u,rfl,t,rfl⟩:=nF r;exact call_int_int ⟨.int i,H,I,⟨_,rfl⟩,q⟩
 . obtain ⟨u,rfl,r1⟩:=nF r;cases r1;exact call_int_bool ⟨.int (if k then 1 else 0),H,I.tok _,⟨_,rfl⟩,q⟩
end
end L2
namespace L2
open PySem PySem.Spec PyProof.Rows
structure ObjM (h:Heap) (x dx C:Addr) (mA:Str->Option Value):Prop where
 obj:h.get? x=some (PySem.W.instObj C dx)
 ns:h.Ns1 dx mA
 ne:dx≠x
theorem Rg {h:Heap} {dx:Addr} {mA:Str->Option Value} (n:h.Ns1 dx mA):∃ od,h.get? dx=some od/\∀ name,PySem.W.lookIn name od=some (mA name):=by
 obtain ⟨o,es,ep,ho,hd,hk,_,hm⟩:=n;refine ⟨o,ho,fun name=>?_⟩;have e:=hm name;unfold nsFind findBy at e;rw [<- Array.find?_toList] at e;unfold PySem.W.lookIn;rw [hd];dsimp only;split
 . rename_i y q
   rw [q] at e;exact congrArg some e
 . rename_i q
   rw [q] at e;have a:es.toList.any (·.refKey)=false:=by
     rw [List.any_eq_false];intro y hy;obtain ⟨z,t,hkey⟩:=hk y (Array.mem_toList_iff.mp hy);simp [DictEntry.refKey,hkey]
   have a':¬ es.toList.any (·.refKey)=true:=by rw [a];exact Bool.false_ne_true
   rw [if_neg a'];exact congrArg some e
theorem ObjM.look {h:Heap} {x dx C:Addr} {mA:Str->Option Value} (I:ObjM h x dx C mA):∃ od,PySem.W.InstAt h x (PySem.W.instObj C dx) C (some od)/\∀ name,PySem.W.lookIn name od=some (mA name) :=
 let ⟨od,ho,hl⟩:=Rg I.ns
 ⟨od,⟨I.obj,rfl,rfl,ho⟩,hl⟩
section
variable {prog:Program} {w:World} {A:Around} {E:Value->Shared->Prop} {s:Shared} {K:PySem.W.Frag} {x dx C f:Addr} {mA:Str->Option Value} {name:Str} {v:Value}
theorem Vn {expr:Bool} {Q:Value->Shared->Prop} (X:K.In s.heap) (I:ObjM s.heap x dx C mA) (hg:PySem.W.plainGet K C name=true) (hh:PySem.W.hasDictIn K C=true)
   (ha:PySem.W.findIn K (.ref C) name=some none) (hv:mA name=some v) (hv':PySem.W.handedIn v=true) (h:Q v { s with toks:=s.toks+1 }) :
   wpAny (model prog w) A (getAttr (.ref x) name expr) Q E s:=by
 obtain ⟨od,J,hl⟩:=I.look;exact PySem.W.get_value X J (PySem.W.plainGet_of hg).1 (PySem.W.findObj_own hh ha rfl (by rw [hl,hv])) hv' h
theorem VB {ns:List Str} {Q:Unit->Shared->Prop} (X:K.In s.heap) (I:ObjM s.heap x dx C mA)
   (hs:PySem.W.findIn K (.ref C) "__setattr__"=some (some (.builtin "object.__setattr__"))) (hp:PySem.W.plainOver K C=true) (ht:PySem.W.takerIn K C name=some none) (hh:PySem.W.hasDictIn K C=true)
   (hw:PySem.Within mA ns) (hsz:ns.length<=sizeLine)
   (h:∀ h',ObjM h' x dx C (fun y=>if y=name then some v else mA y)->Heap.SameBut dx s.heap h'->Q () { s with heap:=h',toks:=s.toks+2 }) :
   wpAny (model prog w) A (setAttr (.ref x) name v) Q E s:=by
 obtain ⟨od,J,hl⟩:=I.look;refine PySem.W.set_plain X J hs (PySem.W.osa_open (s:={ s with toks:=s.toks+1 }) (r:=none) X J hp ht fun b=>?_);obtain ⟨cd,hc,hd'⟩:=PySem.W.any_some hh;have hx:s.heap.get? x=some ⟨.ref C,some dx,.plain,#[]⟩:=I.obj;refine wpAny_bind (wpAny_pure (wpAny_bind (wpAny_bind (wpAny_loadPart hx (wpAny_bind (PySem.W.Looks.here (s:={ s with toks:=s.toks+1 }) (PySem.W.looks_clsIn X hc) ?_))))));rw [hd'];refine wpAny_pure (a:=some dx) (wpAny_bind (wpAny_pure (wpAny_bind ?_)));refine wpAny_nsSet1 (s:={ s with toks:=s.toks+1 }) I.ns fun h' hn2 hs2=>?_;obtain ⟨oD,esD,epD,hoD,hdD,hcD⟩:=hn2.count (PySem.Within.cons name v hw);refine wpAny_bind (wpAny_lookBehind hoD (by rw [hdD];exact pastItsLine_dict (Nat.le_trans hcD (by rw [List.length_cons];omega))) ?_);exact wpAny_pure (h _ ⟨(hs2.2 _ (Ne.symm I.ne)).trans I.obj,hn2,I.ne⟩ hs2)
theorem RS {R:Result->Shared->Prop} {vs:List Value} {kw:List (Str × Value)} (X:K.In s.heap) (hm:PySem.W.makesIn K C=true)
   (hi:PySem.W.findIn K (.ref C) "__init__"=some (some (.ref f))) (hf:PySem.W.typeIn K (.ref f)=some (.type "function"))
   (h:codeAny (model prog w) (A.under (.builtin "type.__call__" ⟨.ref C::vs,kw⟩)) (.call (.ref f) ⟨.ref (s.heap.objs.size+1)::vs,kw⟩) (PySem.W.InitBack (s.heap.objs.size+1) R)
     { s with heap:=(s.heap.push PySem.W.emptyDict).push (PySem.W.instObj C s.heap.objs.size) }) :
   codeAny (model prog w) A (.call (.ref C) ⟨vs,kw⟩) R s:=by
 obtain ⟨hh,g,d,t,os⟩:=s;exact PySem.W.make_core (PySem.W.makes_of X hm) (PySem.W.looks_findIn X hi) (fun self=>PySem.W.bind_fn X self hf) (.inl rfl) h
end
def kQ (f:Str) (v:V):List (Str × V)->List (Str × V)
 | []=>[(f,v)]
 | (g,x)::r=>if g=f then (g,v)::r else (g,x)::kQ f v r
theorem mU (f g:Str) (v:V):∀ fs:List (Str × V),(kQ f v fs).lookup g=if g=f then some v else fs.lookup g
 | []=>by
   show List.lookup g [(f,v)]=_;by_cases h:g=f
   . have hb:(g == f)=true:=beq_iff_eq.mpr h;simp only [List.lookup,hb,if_pos h]
   . have hb:(g == f)=false:=beq_eq_false_iff_ne.mpr h;simp only [List.lookup,hb,if_neg h]
 | (k,x)::r=>by
   have ih:=mU f g v r;rw [show kQ f v ((k,x)::r)=(if k=f then (k,v)::r else (k,x)::kQ f v r) from rfl];by_cases hk:k=f
   . rw [if_pos hk];by_cases h:g=k
     . have hb:(g == k)=true:=beq_iff_eq.mpr h;simp only [List.lookup,hb,if_pos (h.trans hk)]
     . have hb:(g == k)=false:=beq_eq_false_iff_ne.mpr h;simp only [List.lookup,hb,if_neg (fun e:g=f=>h (e.trans hk.symm))]
   . rw [if_neg hk];by_cases h:g=k
     . have hb:(g == k)=true:=beq_iff_eq.mpr h;simp only [List.lookup,hb,if_neg (fun e:g=f=>hk (h.symm.trans e))]
     . have hb:(g == k)=false:=beq_eq_false_iff_ne.mpr h;simp only [List.lookup,hb];exact ih
theorem Ay (f:Str) (v:V):∀ fs:List (Str × V),f∈(kQ f v fs).map (·.1)/\∀ g,g∈fs.map (·.1)->g∈(kQ f v fs).map (·.1)
 | []=>⟨by simp [kQ],fun g h=>by simp at h⟩
 | (k,x)::r=>by
   obtain ⟨i1,i2⟩:=Ay f v r;rw [show kQ f v ((k,x)::r)=(if k=f then (k,v)::r else (k,x)::kQ f v r) from rfl];by_cases hk:k=f
   . rw [if_pos hk];subst hk;exact ⟨by simp,fun g h=>by simpa using h⟩
   . rw [if_neg hk];refine ⟨?_,fun g h=>?_⟩
     . rw [List.map_cons];exact List.mem_cons_of_mem _ i1
     . rw [List.map_cons] at h ⊢;rcases List.mem_cons.mp h with e|e
       . exact List.mem_cons.mpr (.inl e)
       . exact List.mem_cons_of_mem _ (i2 g e)
theorem CF (f:Str) (v:V):∀ fs:List (Str × V),(kQ f v fs).length<=fs.length+1
 | []=>by simp [kQ]
 | (k,x)::r=>by
   have ih:=CF f v r;rw [show kQ f v ((k,x)::r)=(if k=f then (k,v)::r else (k,x)::kQ f v r) from rfl];by_cases hk:k=f
   . rw [if_pos hk,List.length_cons,List.length_cons];omega
   . rw [if_neg hk,List.length_cons,List.length_cons];omega
theorem RelO.some_of {v:V} {o:Option Value} (r:RelO (some v) o):∃ u,o=some u/\RelV v u:=by
 cases o with
 | none=>exact (show False from r).elim
 | some u=>exact ⟨u,rfl,r⟩
theorem Ra {v:V} {u:Value} (r:RelV v u):PySem.W.handedIn u=true:=by
 cases v with
 | non=>cases (show u=Value.none from r);rfl
 | bl b=>cases (show u=Value.bool b from r);rfl
 | int i=>obtain ⟨t,e⟩:=(show ∃ t,u=Value.int i t from r);cases e;rfl
 | str x=>obtain ⟨t,e⟩:=(show ∃ t,u=Value.str x t from r);cases e;rfl
 | byt b=>obtain ⟨t,e⟩:=(show ∃ t,u=Value.bytes b t from r);cases e;rfl
 | flt b=>obtain ⟨t,e⟩:=(show ∃ t,u=Value.float b t from r);cases e;rfl
 | ref a=>cases (show u=Value.ref a from r);rfl
 | ty n=>cases (show u=Value.type n from r);rfl
section
variable {P:Program} {w:World} {H H':Hp} {h h':Heap} {a C dx:Addr} {fs fs':List (Str × V)}
theorem Fq (hok:HOk P w H h) (e:H a=some (.ins C dx fs)):∃ mA,ObjM h a dx C mA/\(∀ f,RelO (fs.lookup f) (mA f))/\PySem.Within mA (fs.map (·.1))/\fs.length<=1000/\H dx=some (.own a):=by
 obtain ⟨d,z,ne,ob,mA,n,r,q⟩:=(show ObjOk P w H h a (.ins C dx fs) from hok a _ e);exact ⟨mA,⟨ob,n,ne⟩,r,q,z,d⟩
end
structure Cls (K:PySem.W.Frag) (C:Addr):Prop where
 pg:PySem.W.plainGet K C Str.empty=true
 hd:PySem.W.hasDictIn K C=true
 po:PySem.W.plainOver K C=true
 sa:PySem.W.findIn K (.ref C) "__setattr__"=some (some (.builtin "object.__setattr__"))
theorem Cls.get {K:PySem.W.Frag} {C:Addr} (c:Cls K C) (f:Str):PySem.W.plainGet K C f=true:=c.pg
def NoAttr (K:PySem.W.Frag) (C:Addr) (f:Str):Prop:=PySem.W.findIn K (.ref C) f=some none
theorem NoAttr.taker {K:PySem.W.Frag} {C:Addr} {f:Str} (n:NoAttr K C f):PySem.W.takerIn K C f=some none:=by
 unfold PySem.W.takerIn;rw [show PySem.W.findIn K (.ref C) f=some none from n]
 rfl
section
variable {X:Cx} {pins:List (Addr × Obj)} {σ:St} {H:Hp} {s:Shared} {a C dx:Addr} {fs:List (Str × V)} {f:Str} {v:V} {A:Around} {E:Value->Shared->Prop}
theorem Pf {b:Bool} {Q:Value->Shared->Prop} (I:Inv X pins σ H s) (e:H a=some (.ins C dx fs)) (c:Cls X.K C) (n:NoAttr X.K C f) (l:fs.lookup f=some v)
   (h:∀ u s',Inv X pins σ H s'->RelV v u->Q u s'):wpAny (model X.prog X.w) A (getAttr (.ref a) f b) Q E s:=by
 obtain ⟨mA,O,r,_,_,_⟩:=Fq I.hok e;obtain ⟨u,hu,ru⟩:=RelO.some_of (v:=v) (o:=mA f) (by rw [<- l];exact r f);exact Vn I.kIn O (c.get f) c.hd n hu (Ra ru) (h u _ (I.tok _) ru)
theorem Pq {y:V} {u:Value} {Q:Unit->Shared->Prop} (I:Inv X pins σ H s) (e:H a=some (.ins C dx fs)) (c:Cls X.K C) (n:NoAttr X.K C f) (hl:fs.length<1000) (ry:RelV y u)
   (h:∀ s',Inv X pins σ (upd H a (.ins C dx (kQ f y fs))) s'->Q () s'):wpAny (model X.prog X.w) A (setAttr (.ref a) f u) Q E s:=by
 obtain ⟨mA,O,r,wi,_,ho⟩:=Fq I.hok e;have hz:(fs.map (·.1)).length<=sizeLine:=by rw [List.length_map,sizeLine_eq];omega
 refine VB I.kIn O c.sa c.po n.taker c.hd wi hz fun h' O' sb=>h _ ?_;have hd:∃ o,h'.get? dx=some o:=let ⟨o,_,_,e',_⟩:=O'.ns;⟨o,e'⟩;refine I.write (x:=a) (e:=dx) (by rw [e];exact True.intro) (.inr ho) (fun b q hb z=>(sb.2 b hb).trans z) hd ?_;refine ⟨by rw [ao O.ne];exact ho,?_,O.ne,O'.obj,_,O'.ns,fun g=>?_,fun g hg=>?_⟩
 . have:=CF f y fs;omega
 . show RelO ((kQ f y fs).lookup g) (if g=f then some u else mA g);rw [mU];by_cases q:g=f
   . rw [if_pos q,if_pos q];exact ry
   . rw [if_neg q,if_neg q];exact r g
 . by_cases q:g=f
   . rw [q];exact (Ay f y fs).1
   . refine (Ay f y fs).2 g (wi g fun z=>hg ?_);show (if g=f then some u else mA g)=none;rw [if_neg q];exact z
theorem Inv.made (I:Inv X pins σ H s):Inv X pins σ (upd (upd H s.heap.objs.size (.own (s.heap.objs.size+1))) (s.heap.objs.size+1) (.ins C s.heap.objs.size []))
   { s with heap:=(s.heap.push PySem.W.emptyDict).push (PySem.W.instObj C s.heap.objs.size) }:=by
 have e1:(s.heap.push PySem.W.emptyDict).get? s.heap.objs.size=some PySem.W.emptyDict:=Heap.get?_push_size s.heap rfl;have e2:((s.heap.push PySem.W.emptyDict).push (PySem.W.instObj C s.heap.objs.size)).get? (s.heap.objs.size+1)=some (PySem.W.instObj C s.heap.objs.size):=by
   have:=Heap.get?_push_size (s.heap.push PySem.W.emptyDict) (o:=PySem.W.instObj C s.heap.objs.size) rfl
   rwa [Heap.size_push] at this
 have e3:(s.heap.push PySem.W.emptyDict).Ns s.heap.objs.size (fun _=>none):=⟨PySem.W.emptyDict,#[],_,e1,rfl,(fun e he=>absurd he (by simp)),fun _=>rfl⟩;have I1:=I.laid (a:=s.heap.objs.size) (o:=.own (s.heap.objs.size+1)) (h':=s.heap.push PySem.W.emptyDict) (t':=s.toks) (fun b u q=>Heap.get?_push_of_some _ q) (Nat.le_refl _) ⟨_,e1⟩;refine I1.laid (a:=s.heap.objs.size+1) (o:=.ins C s.heap.objs.size []) (t':=s.toks) (fun b u q=>Heap.get?_push_of_some _ q) (Nat.le_of_eq (Heap.size_push _ _)) ?_;have ne:s.heap.objs.size≠s.heap.objs.size+1:=Nat.ne_of_lt (Nat.lt_succ_self _);refine ⟨by rw [ao ne,ah],Nat.zero_le _,ne,e2,fun _=>none,(Heap.Ns1.of_empty e3).at fun o q=>Heap.get?_push_of_some _ q,fun _=>True.intro,fun y hy=>absurd rfl hy⟩
theorem Wj {prog:Program} {w:World} {env:Env} {e:Expr} {f:Str} {pos:Pos} {s:Shared} {Q:Value->Shared->Prop} (hb:attributeBase e f env (eval e env)=eval e env)
   (h:wpAny (model prog w) A (eval e env) (fun o s₁=>wpAny (model prog w) A (getAttr o f true) Q E s₁) E s):wpAny (model prog w) A (eval (.Attribute e f pos) env) Q E s :=
 Attribute_any_ h (by rw [arm_eval_Attribute,hb])
end
def Sh (K:PySem.W.Frag) (ta:TE) (f:Str):TE:=fun σ H Q=>ta σ H fun x H1=>∃ a C dx fs v,x=.ref a/\H1 a=some (.ins C dx fs)/\Cls K C/\NoAttr K C f/\fs.lookup f=some v/\Q v H1
def Sb (K:PySem.W.Frag) (ta tv:TE) (f:Str):TS:=fun D σ H=>tv σ H fun y H1=>ta σ H1 fun x H2=>∃ a C dx fs,x=.ref a/\H2 a=some (.ins C dx fs)/\Cls K C/\NoAttr K C f/\fs.length<1000 /\
 D.nx σ (upd H2 a (.ins C dx (kQ f y fs)))
section
variable {X:Cx} {o e value:Expr} {f:Str} {pos pos' tpos:Pos} {ta tv:TE}
theorem kD (he:PE X e ta) (hb:attributeBase e f X.env (eval e X.env)=eval e X.env):PE X (.Attribute e f pos) (Sh X.K ta f):=by
 intro pins s σ H Q I h;refine Wj hb (bT (he pins s σ H _ I h) fun u s1 x H1 I1 rx ⟨a,C,dx,fs,v,ex,ea,c,n,l,q⟩=>?_);subst ex;obtain rfl:u=Value.ref a:=rx;exact Pf I1 ea c n l fun u' s2 I2 ru=>⟨v,H1,I2,ru,q⟩
theorem Ri (ha:PE X o ta) (hv:PE X value tv) (hs:swapsWith value (some (.Attribute o f pos')) pos.line X.env=pure false):PS X (.Assign [.Attribute o f pos'] value pos) (Sb X.K ta tv f):=by
 intro pins s σ H D I h;refine plainObj_wpAny_Assign_Attribute (bT (hv pins s σ H _ I h) fun u s1 y H1 I1 ry q=>bT (ha pins s1 σ H1 _ I1 q) fun ov s2 x H2 I2 rx ⟨a,C,dx,fs,ex,ea,c,n,l,q2⟩=>?_) hs;subst ex;obtain rfl:ov=Value.ref a:=rx;exact Pq I2 ea c n l ry fun s3 I3=>⟨σ,_,I3,q2⟩
end
section
variable {X:Cx} {pins:List (Addr × Obj)} {σ:St} {H:Hp} {s:Shared} {A:Around} {E:Value->Shared->Prop} {Q:Value->Shared->Prop} {c:Value} {b:Bool}
inductive TyOf (K:PySem.W.Frag) (H:Hp):V->Value->Prop where
 | non:TyOf K H .non (.type "NoneType")
 | bl (x:Bool):TyOf K H (.bl x) (.type "bool")
 | int (i:Int):TyOf K H (.int i) (.type "int")
 | str (x:Str):TyOf K H (.str x) (.type "str")
 | flt (x:UInt64):TyOf K H (.flt x) (.type "float")
 | lst {a:Addr} {xs:List V} (e:H a=some (.lst xs)):TyOf K H (.ref a) (.type "list")
 | frz {a:Addr} {o:Obj} {xs:List V} (e:H a=some (.frz o (.lst xs))):TyOf K H (.ref a) (.type "list")
 | tup {a:Addr} {xs:List V} (e:H a=some (.tup xs)):TyOf K H (.ref a) (.type "tuple")
 | dK {a:Addr} {kvs:List (Key × V)} (e:H a=some (.dK kvs)):TyOf K H (.ref a) (.type "dict")
 | dT {a:Addr} {kvs:List (List Key × V)} (e:H a=some (.dT kvs)):TyOf K H (.ref a) (.type "dict")
 | ins {a C dx:Addr} {fs:List (Str × V)} (e:H a=some (.ins C dx fs)) (cl:Cls K C) (ha:PySem.W.findIn K (.ref C) "__class__"=some (some (.builtin "object.__class__")))
     (hn:PySem.W.specialIn K (.builtin "object.__class__") "__get__"=some (some (.builtin "getset_descriptor.__get__"))) (htk:PySem.W.takesIn K (.builtin "object.__class__")=some true)
     (hm:PySem.W.mroIn K C (.type "object")=some true):TyOf K H (.ref a) (.ref C)
theorem Qf {x:V} {u t:Value} (I:Inv X pins σ H s) (rx:RelV x u) (ty:TyOf X.K H x t) (e:PySem.W.kitOne X.K t c=some b) (h:∀ tk,Q (.bool b) { s with toks:=tk }) :
   wpAny (model X.prog X.w) A (call (.builtin "isinstance") [u,c]) Q E s:=by
 cases ty with
 | non=>cases (show u=Value.none from rx);exact PySem.W.kia_one PySem.W.kitx_none I.kIn True.intro e (fun z=>nomatch z) h
 | bl y=>cases (show u=Value.bool y from rx);exact PySem.W.kia_one PySem.W.kitx_bool I.kIn True.intro e (fun z=>nomatch z) h
 | int i=>obtain ⟨t,q⟩:=(show ∃ t,u=Value.int i t from rx);cases q;exact PySem.W.kia_one PySem.W.kitx_int I.kIn True.intro e (fun z=>nomatch z) h
 | str y=>obtain ⟨t,q⟩:=(show ∃ t,u=Value.str y t from rx);cases q;exact PySem.W.kia_one PySem.W.kitx_str I.kIn True.intro e (fun z=>nomatch z) h
 | flt y=>obtain ⟨t,q⟩:=(show ∃ t,u=Value.float y t from rx);cases q;exact PySem.W.kia_one PySem.W.kitx_float I.kIn True.intro e (fun z=>nomatch z) h
 | @lst a xs ea =>
   cases (show u=Value.ref a from rx);obtain ⟨_,_,n,_,h1⟩:=(show ObjOk X.prog X.w H s.heap a (.lst xs) from I.hok a _ ea);exact PySem.W.kia_one PySem.W.kitx_list I.kIn ⟨_,h1,rfl⟩ e (fun z=>nomatch z) h
 | @frz a ob xs ea =>
   cases (show u=Value.ref a from rx);obtain ⟨_,_,_,n,_,h1⟩:=(show ObjOk X.prog X.w H s.heap a (.frz ob (.lst xs)) from I.hok a _ ea);exact PySem.W.kia_one PySem.W.kitx_list I.kIn ⟨_,h1,rfl⟩ e (fun z=>nomatch z) h
 | @tup a xs ea =>
   cases (show u=Value.ref a from rx);obtain ⟨_,_,_,p⟩:=(show ObjOk X.prog X.w H s.heap a (.tup xs) from I.hok a _ ea);obtain ⟨o,h1,h2,_⟩:=p;exact PySem.W.kia_one PySem.W.kitx_tuple I.kIn ⟨o,h1,h2⟩ e (fun z=>nomatch z) h
 | @dK a kvs ea =>
   cases (show u=Value.ref a from rx);obtain ⟨_,_,vs,_,p⟩:=(show ObjOk X.prog X.w H s.heap a (.dK kvs) from I.hok a _ ea);obtain ⟨o,es,ep,h1,h2,_⟩:=p;exact PySem.W.kia_one PySem.W.kitx_dict I.kIn ⟨o,h1,h2.1⟩ e (fun z=>nomatch z) h
 | @dT a kvs ea =>
   cases (show u=Value.ref a from rx);obtain ⟨_,_,xs,_,o,es,ep,h1,h2,_⟩:=(show ObjOk X.prog X.w H s.heap a (.dT kvs) from I.hok a _ ea);exact PySem.W.kia_one PySem.W.kitx_dict I.kIn ⟨o,h1,h2.1⟩ e (fun z=>nomatch z) h
 | @ins a C dx fs ea cl ha hn htk hm =>
   cases (show u=Value.ref a from rx);obtain ⟨mA,O,_⟩:=Fq I.hok ea;obtain ⟨od,J,_⟩:=O.look;exact PySem.W.kia_one (PySem.W.kitx_own (cl.get _) cl.hd ha hn htk hm) I.kIn J e (fun z=>nomatch z) h
end
end L2
namespace L2
open PySem PySem.Spec PyProof.Rows
structure Room (k:Nat) (A:Around):Prop where
 hd:A.handled=none
 dp:A.depth+3*k+5<recursionLimit
 un:A.units+16*k+200<cLine
theorem Room.mono {j k:Nat} {A:Around} (r:Room k A) (h:j<=k):Room j A:=⟨r.hd,by have:=r.dp;omega,by have:=r.un;omega⟩
theorem Room.deeper {k:Nat} {A:Around} (r:Room (k+1) A) (env:Env):Room k (A.deeper env) :=
 ⟨r.hd,by have:=r.dp;show A.depth+1+3*k+5<_;omega,by have:=r.un;show A.units+3+16*k+200<_;omega⟩
theorem OI {A:Around} {C:Addr} {us:List Value} {kw:List (Str × Value)}:(A.under (.builtin "type.__call__" ⟨.ref C::us,kw⟩)).depth=A.depth+1:=by
 first|rfl|simp [Around.under,Code.weight,Code.isCreation,Code.isGuard,Code.isCaller,Code.frames,Code.isFrame,guardIds]
theorem PM {A:Around} {C:Addr} {us:List Value} {kw:List (Str × Value)}:(A.under (.builtin "type.__call__" ⟨.ref C::us,kw⟩)).units=A.units+1:=by
 first|rfl|simp [Around.under,Code.cUnits,Code.frames,Code.isFrame]
theorem Room.make {k:Nat} {A:Around} (r:Room (k+1) A) (C:Addr) (us:List Value) (kw:List (Str × Value)):Room k (A.under (.builtin "type.__call__" ⟨.ref C::us,kw⟩)) :=
 ⟨r.hd,by have:=r.dp;rw [OI];omega,by have:=r.un;rw [PM];omega⟩
theorem Room.depth {k:Nat} {A:Around} (r:Room k A):A.depth<recursionLimit:=by have:=r.dp;omega
theorem Room.units {k:Nat} {A:Around} (r:Room k A):A.units+64<cLine:=by have:=r.un;omega
def tNil:TA:=fun _ H Q=>Q [] H
def EO (ta:TE) (tr:TA):TA:=fun σ H Q=>ta σ H fun x H1=>tr σ H1 fun xs H2=>Q (x::xs) H2
section
variable {X:Cx} {e:Expr} {es:List Expr} {te:TE} {t:TA} {pos:Pos}
theorem ag:PA X [] tNil:=fun _ _ _ _ H Q I h=>Calls.spliced_nil ⟨[],H,I,.nil,h⟩
theorem ae (ha:PE X e te) (hr:PA X es t) (hs:starEach (e::es) X.env=(false,eval e X.env)::starEach es X.env:=by rfl):PA X (e::es) (EO te t):=by
 intro pos pins s σ H Q I h;rw [hs];show wpAny _ _ (spliced ((false,eval e X.env)::backTo pos (starEach es X.env))) _ _ s;refine Calls.spliced_cons (bT (ha pins s σ H _ I h) fun u s1 x H1 I1 r1 q1=>?_);exact zu (hr pos pins s1 σ H1 _ I1 q1) fun us s2 xs H2 I2 r2 q2=>⟨x::xs,H2,I2,.cons r1 r2,q2⟩
def S7 (t:TA):TE:=fun σ H Q=>t σ H fun xs H1=>xs.length<=sizeLine/\∀ p,H1 p=none->Q (.ref p) (upd H1 p (.tup xs))
def TM (t:TA):TE:=fun σ H Q=>t σ H fun xs H1=>xs.length<=sizeLine/\∀ p,H1 p=none->Q (.ref p) (upd H1 p (.lst xs))
theorem d6 {x1} (h:PA X es t):PE X (.Tuple es x1 pos) (S7 t):=by
 intro pins s σ H Q I hq;refine wpAny_Tuple_spliced (zu (h pos pins s σ H _ I hq) fun us s1 xs H1 I1 r ⟨z,q⟩=>⟨by rw [<- r.length];exact z,?_⟩);have hf:H1 s1.heap.objs.size=none:=I1.hok.fresh (Nat.le_refl _);refine ⟨.ref s1.heap.objs.size,upd H1 s1.heap.objs.size (.tup xs),I1.laid (t':=s1.toks) (fun b u e=>Heap.get?_push_of_some _ e) (Nat.le_refl _) ?_,rfl,q _ hf⟩;exact ⟨z,us,r,⟨_,Heap.get?_push_size _ rfl,rfl,_,rfl⟩⟩
theorem cP (h:PA X es t):PE X (.List es pos) (TM t):=by
 intro pins s σ H Q I hq;refine wpAny_List_spliced (zu (h pos pins s σ H _ I hq) fun us s1 xs H1 I1 r ⟨z,q⟩=>⟨by rw [<- r.length];exact z,?_⟩);have hf:H1 s1.heap.objs.size=none:=I1.hok.fresh (Nat.le_refl _);refine ⟨.ref s1.heap.objs.size,upd H1 s1.heap.objs.size (.lst xs),I1.laid (t':=s1.toks) (fun b u e=>Heap.get?_push_of_some _ e) (Nat.le_refl _) ?_,rfl,q _ hf⟩;exact ⟨z,us,0,r,Heap.get?_push_size _ rfl⟩
end
abbrev Sp:=List V->Hp->VK->XK->Prop
abbrev CXT:=List Env->Hp->Shared->XK->Value->Shared->Prop
structure Env0 (P:Program) (w:World) (K:PySem.W.Frag) (mg:Str->Option Value) (base:Heap) (A:Around) (outer:List Env) (s:Shared) (H:Hp):Prop where
 frames:A.frames=some outer
 mod:Mod K mg base
 bs:∀ b o,base.get? b=some o->s.heap.get? b=some o/\H b=none
 bsz:base.objs.size<=s.heap.objs.size
 funs:s.heap.FunFrames base outer
 frf:∀ b∈frs outer,H b=none
 hok:HOk P w H s.heap
 bare:AllBare s.gens
def CE (outer:List Env) (P:Program) (w:World) (H:Hp) (s:Shared) (Q:VK) (u:Value) (s':Shared):Prop :=
 ∃ v H',s'.os=s.os/\AllBare s'.gens/\Un (frs outer) [] H H' s.heap s'.heap/\HOk P w H' s'.heap/\RelV v u/\Q v H'
def CR (CX:CXT) (outer:List Env) (P:Program) (w:World) (H:Hp) (s:Shared) (Q:VK) (E:XK) (r:Result) (s':Shared):Prop :=
 match r with
 | .ok (.ret u)=>CE outer P w H s Q u s'
 | .ok _=>False
 | .error e=>CX outer H s E e s'
structure FnOk (P:Program) (w:World) (K:PySem.W.Frag) (mg:Str->Option Value) (base:Heap) (CX:CXT) (k:Nat) (f:Addr) (fd:FuncData) (ps:List Str) (sp:Sp):Prop where
 len:∀ vs H Q E,sp vs H Q E->vs.length=ps.length
 run:∀ (A:Around) (outer:List Env) (s:Shared) (H:Hp) (args:Args) (us:List Value) (vs:List V) (Q:VK) (E:XK),Room k A->Env0 P w K mg base A outer s H->BindsTo s fd args (ps.zip us)->Vals vs us->sp vs H Q E ->
   codeAny (model P w) A (.call (.ref f) args) (CR CX outer P w H s Q E) s
theorem Env0.make {P:Program} {w:World} {K:PySem.W.Frag} {mg:Str->Option Value} {base:Heap} {A:Around} {outer:List Env} {s:Shared} {H:Hp} (e:Env0 P w K mg base A outer s H) (C:Addr) (us:List Value) (kw:List (Str × Value)) :
   Env0 P w K mg base (A.under (.builtin "type.__call__" ⟨.ref C::us,kw⟩)) outer s H:=⟨by first|exact e.frames|(simpa [Around.under,Code.envs,Code.isFrame,pushEnvs] using e.frames),e.mod,e.bs,e.bsz,e.funs,e.frf,e.hok,e.bare⟩
section
variable {X:Cx} {pins:List (Addr × Obj)} {σ:St} {H:Hp} {s s':Shared}
theorem Inv.env0 (I:Inv X pins σ H s):Env0 X.prog X.w X.K X.mg X.base X.A X.stack s H :=
 ⟨I.ok.frames,I.ok.mod,I.bs,Nat.le_trans I.ok.bsz I.sz,I.stack,I.stkFree,I.hok,I.bare⟩
theorem Inv.after {Q:VK} {u:Value} (I:Inv X pins σ H s) (h:CE X.stack X.prog X.w H s Q u s'):EP X pins σ Q u s':=by
 obtain ⟨v,H',os,bare,un,hok,r,q⟩:=h;obtain ⟨hh,g,d,t,os'⟩:=s';obtain rfl:os'=s.os:=os;exact ⟨v,H',I.call (h':=hh) (g':=g) (d':=d) (t':=t) (ch:=[]) un hok bare (fun b z=>absurd z (by simp)),r,q⟩
end
def PY (sp:Sp) (dvs:List V) (E:XK) (t:TA):TE:=fun σ H Q=>t σ H fun vs H1=>sp (vs++dvs) H1 Q E
def O8 (C:Addr) (sp:Sp) (dvs:List V) (E:XK) (t:TA):TE:=fun σ H Q=>t σ H fun vs H1=>∀ x dx,H1 x=none->H1 dx=none->dx≠x ->
 sp (.ref x::(vs++dvs)) (upd (upd H1 dx (.own x)) x (.ins C dx [])) (fun v H2=>v=.non/\Q (.ref x) H2) E
def Binds (K:PySem.W.Frag) (fd:FuncData) (ps:List Str) (ds:List Value):Prop :=
 ∀ (s:Shared) (us:List Value),K.In s.heap->(us++ds).length=ps.length->BindsTo s fd ⟨us,[]⟩ (ps.zip (us++ds))
theorem Binds.all {K:PySem.W.Frag} {fd:FuncData} {ps:List Str} (h:∀ us:List Value,us.length=ps.length->bindArgs fd ⟨us,[]⟩=pure (ps.zip us)):Binds K fd ps []:=fun s us _ hl=>by
 rw [List.append_nil] at hl ⊢;exact .of_eq (h us hl)
def ye (CX:CXT) (X:Cx) (E:XK):Prop:=∀ (pins:List (Addr × Obj)) (σ:St) (H:Hp) (s:Shared) (e:Value) (s':Shared),Inv X pins σ H s->CX X.stack H s E e s'->X.xe e s'
section
variable {X:Cx} {CX:CXT} {k:Nat} {f C:Addr} {fd:FuncData} {ps:List Str} {sp:Sp} {dvs:List V} {ds:List Value} {E:XK} {x m:Str} {p pos apos:Pos} {e o:Expr} {es:List Expr} {ta:TE} {t:TA}
theorem Xp {pins:List (Addr × Obj)} {σ:St} {H:Hp} {s:Shared} {Q:VK} {us:List Value} {vs:List V} (F:FnOk X.prog X.w X.K X.mg X.base CX k f fd ps sp) (hr:Room k X.A) (hb:Binds X.K fd ps ds) (hd:Vals dvs ds) (hx:ye CX X E)
   (I:Inv X pins σ H s) (r:Vals vs us) (h:sp (vs++dvs) H Q E):wpAny (model X.prog X.w) X.A (call (.ref f) us) (EP X pins σ Q) X.xe s:=by
 have r2:Vals (vs++dvs) (us++ds):=r.append hd;have hl:(us++ds).length=ps.length:=by rw [<- r2.length];exact F.len _ _ _ _ h
 refine wpAny_call (codeAny_mono (F.run X.A X.stack s H ⟨us,[]⟩ (us++ds) (vs++dvs) Q E hr I.env0 (hb s us I.kIn hl) r2 h) fun r s' hq=>?_);cases r with
 | error e=>exact hx pins σ H s e s' I hq
 | ok fl =>
   cases fl with
   | ret u=>exact I.after hq
   | next=>exact False.elim hq
   | brk=>exact False.elim hq
   | cont=>exact False.elim hq
theorem am (F:FnOk X.prog X.w X.K X.mg X.base CX k f fd ps sp) (hr:Room k X.A) (hg:Gl X x) (hm:X.mg x=some (.ref f)) (hk:PySem.W.keepIn X.K (.ref f)=true) (hb:Binds X.K fd ps ds) (hd:Vals dvs ds) (hx:ye CX X E)
   (ha:PA X (e::es) t) (hdb:(x == ("__debug__":Str))=false:=by decide) (he:starEach (e::es) X.env=(false,eval e X.env)::starEach es X.env:=by rfl) (hpl:(backTo pos (starEach es X.env)).any (·.1)=false:=by rfl) :
   PE X (.Call (.Name x p) (e::es) [] pos) (PY sp dvs E t):=by
 intro pins s σ H Q I h;refine wpAny_Call_Name_kw (BQ I hg hm ?_ hdb);refine PySem.W.callWith_K (h₀:=X.base) I.ok.mod.kin hk (zu (ha pos pins s σ H _ I h) fun us s1 vs H1 I1 r q=>⟨I1.kIn,?_⟩) he hpl;exact Xp F hr hb hd hx I1 r q
structure Mk (K:PySem.W.Frag) (C f:Addr):Prop where
 makes:PySem.W.makesIn K C=true
 init:PySem.W.findIn K (.ref C) "__init__"=some (some (.ref f))
 fn:PySem.W.isFn K (.ref f)=true
 kp:PySem.W.keepIn K (.ref C)=true
theorem RN {pins:List (Addr × Obj)} {σ:St} {H:Hp} {s:Shared} {Q:VK} {us:List Value} {vs:List V} (M:Mk X.K C f) (F:FnOk X.prog X.w X.K X.mg X.base CX k f fd ps sp) (hr:Room (k+1) X.A) (hb:Binds X.K fd ps ds) (hd:Vals dvs ds)
   (hx:ye CX X E) (I:Inv X pins σ H s) (r:Vals vs us)
   (h:∀ x dx,H x=none->H dx=none->dx≠x->sp (.ref x::(vs++dvs)) (upd (upd H dx (.own x)) x (.ins C dx [])) (fun v H2=>v=.non/\Q (.ref x) H2) E) :
   wpAny (model X.prog X.w) X.A (call (.ref C) us) (EP X pins σ Q) X.xe s:=by
 have hq:=h (s.heap.objs.size+1) s.heap.objs.size (I.hok.fresh (Nat.le_succ _)) (I.hok.fresh (Nat.le_refl _)) (Nat.ne_of_lt (Nat.lt_succ_self _));have I2:=Inv.made (C:=C) I;have r2:Vals (V.ref (s.heap.objs.size+1)::(vs++dvs)) (Value.ref (s.heap.objs.size+1)::(us++ds)):=.cons rfl (r.append hd);have hl:(Value.ref (s.heap.objs.size+1)::us++ds).length=ps.length:=by
   have e:=r2.length;rw [F.len _ _ _ _ hq] at e;exact e.symm
 refine wpAny_call (RS (f:=f) I.kIn M.makes M.init (beq_iff_eq.mp M.fn) (codeAny_mono (F.run _ X.stack _ _ ⟨Value.ref (s.heap.objs.size+1)::us,[]⟩ (Value.ref (s.heap.objs.size+1)::(us++ds)) _ _ E (hr.make C us [])
   (I2.env0.make C us []) (hb _ (Value.ref (s.heap.objs.size+1)::us) I2.kIn hl) r2 hq) fun r s' hq'=>?_))
 cases r with
 | error e=>exact hx pins σ _ _ e s' I2 hq'
 | ok fl =>
   cases fl with
   | ret u =>
     obtain ⟨v,H',I3,rv,ev,q3⟩:=I2.after hq';subst ev;exact ⟨rv,⟨V.ref (s.heap.objs.size+1),H',I3,rfl,q3⟩⟩
   | next=>exact False.elim hq'
   | brk=>exact False.elim hq'
   | cont=>exact False.elim hq'
theorem Vh (M:Mk X.K C f) (F:FnOk X.prog X.w X.K X.mg X.base CX k f fd ps sp) (hr:Room (k+1) X.A) (hg:Gl X x) (hm:X.mg x=some (.ref C)) (hb:Binds X.K fd ps ds) (hd:Vals dvs ds) (hx:ye CX X E)
   (ha:PA X (e::es) t) (hdb:(x == ("__debug__":Str))=false:=by decide) (he:starEach (e::es) X.env=(false,eval e X.env)::starEach es X.env:=by rfl) (hpl:(backTo pos (starEach es X.env)).any (·.1)=false:=by rfl) :
   PE X (.Call (.Name x p) (e::es) [] pos) (O8 C sp dvs E t):=by
 intro pins s σ H Q I h;refine wpAny_Call_Name_kw (BQ I hg hm ?_ hdb);refine PySem.W.callWith_K (h₀:=X.base) I.ok.mod.kin M.kp (zu (ha pos pins s σ H _ I h) fun us s1 vs H1 I1 r q=>⟨I1.kIn,?_⟩) he hpl;exact RN M F hr hb hd hx I1 r q
end
section
variable {X:Cx} {CX:CXT} {k:Nat} {f C:Addr} {fd:FuncData} {ps ks:List Str} {sp:Sp} {E:XK} {x m:Str} {p pos apos kpos:Pos} {e o:Expr} {es:List Expr} {kws:List Keyword} {te ta:TE} {t tk:TA} {nm:Option Str}
variable {g:List Value->List Value->List Value} {gV:List V->List V->List V}
end
structure FnScope (N P:List Str) (sc:Scope):Prop where
 kind:sc.kind=.function
 co:sc.isCoroutine=false
 gen:sc.isGenerator=false
 nd:N.Nodup
 pre:N.take P.length=P
 par:∀ x∈P,sc.names.lookup x=some .local\/sc.names.lookup x=some .cell
 nofree:∀ y∈sc.names,y.2≠.free
theorem GU {kindOf:Str->Option NameKind} {x:Str}:∀ {binds:List (Str × Value)} {m:Str->Option Value},(∀ v,(x,v) ∉ binds)->bindL kindOf binds m x=m x
 | [],_,_=>rfl
 | (n,v)::r,m,h=>by
   unfold bindL;rw [GU fun w hw=>h w (List.mem_cons_of_mem _ hw)];split
   . have:x≠n:=(by rintro rfl;exact h v List.mem_cons_self);simp [this]
   . rfl
theorem G2 {kindOf:Str->Option NameKind} {x:Str}:∀ {binds:List (Str × Value)} {m:Str->Option Value},(∀ v,(x,v) ∉ binds)->bindC kindOf binds m x=m x
 | [],_,_=>rfl
 | (n,v)::r,m,h=>by
   unfold bindC;rw [G2 fun w hw=>h w (List.mem_cons_of_mem _ hw)];split
   . rfl
   . have:x≠n:=(by rintro rfl;exact h v List.mem_cons_self);simp [this]
theorem Gw {kindOf:Str->Option NameKind} {x:Str} {v:Value}:∀ {P:List Str} {vs:List Value} {i:Nat} {m:Str->Option Value},P.Nodup->P[i]?=some x->vs[i]?=some v->kindOf x=some .local ->
   bindL kindOf (P.zip vs) m x=some v
 | [],_,_,_,_,h,_,_=>by simp at h
 | _::_,[],_,_,_,_,h,_=>by simp at h
 | p::P,w::vs,0,m,nd,h1,h2,hk=>by
   simp at h1 h2;subst h1;subst h2;show bindL kindOf ((p,w)::P.zip vs) m p=_;unfold bindL;rw [GU fun v hv=>(List.nodup_cons.mp nd).1 (List.of_mem_zip hv).1,if_pos hk];simp
 | p::P,w::vs,i+1,m,nd,h1,h2,hk=>by
   show bindL kindOf ((p,w)::P.zip vs) m x=_;unfold bindL;exact Gw (i:=i) (List.nodup_cons.mp nd).2 (by simpa using h1) (by simpa using h2) hk
theorem GQ {kindOf:Str->Option NameKind} {x:Str} {v:Value}:∀ {P:List Str} {vs:List Value} {i:Nat} {m:Str->Option Value},P.Nodup->P[i]?=some x->vs[i]?=some v->kindOf x≠some .local ->
   bindC kindOf (P.zip vs) m x=some v
 | [],_,_,_,_,h,_,_=>by simp at h
 | _::_,[],_,_,_,_,h,_=>by simp at h
 | p::P,w::vs,0,m,nd,h1,h2,hk=>by
   simp at h1 h2;subst h1;subst h2;show bindC kindOf ((p,w)::P.zip vs) m p=_;unfold bindC;rw [G2 fun v hv=>(List.nodup_cons.mp nd).1 (List.of_mem_zip hv).1,if_neg hk];simp
 | p::P,w::vs,i+1,m,nd,h1,h2,hk=>by
   show bindC kindOf ((p,w)::P.zip vs) m x=_;unfold bindC;exact GQ (i:=i) (List.nodup_cons.mp nd).2 (by simpa using h1) (by simpa using h2) hk
def start (N:List Str) (vs:List V):St:=vs.map some++List.replicate (N.length - vs.length) none
def sQ (CX:CXT) (P:Program) (w:World) (K:PySem.W.Frag) (mg:Str->Option Value) (base:Heap) (N:List Str) (qual:Str) (scope:Scope) (f:Addr) (cd:Value) (A:Around) (outer:List Env) (s:Shared) (H:Hp) (E:XK):Cx where
 prog:=P
 w:=w
 K:=K
 mg:=mg
 base:=base
 A:=A.deeper (envOfC qual scope s.heap.objs.size f cd)
 N:=N
 s₀:=s
 H₀:=H
 env:=envOfC qual scope s.heap.objs.size f cd
 outer:=outer
 stack:=envOfC qual scope s.heap.objs.size f cd::outer
 ex:=[]
 calm:=true
 fn:=fun _=>true
 pn:=[]
 xe:=fun e s'=>wpAny (model P w) (A.deeper (envOfC qual scope s.heap.objs.size f cd)) (leaving (envOfC qual scope s.heap.objs.size f cd) e) (fun _ s''=>CX outer H s E e s'') (fun e' s''=>CX outer H s E e' s'') s'
theorem dI {sc:Scope} {n:Nat} {x:Str} (h:sc.names.lookup x=some .cell):∃ c,(cellsFrom n sc.names []).lookup x=some c:=by
 have q:=PySem.W.cellsFrom_some sc.names n [] (.inl h);exact Option.isSome_iff_exists.mp q
theorem Rs {CX:CXT} {P:Program} {w:World} {K:PySem.W.Frag} {mg:Str->Option Value} {base:Heap} {N ps:List Str} {qual:Str} {scope:Scope} {f:Addr} {cd:Value} {A:Around} {outer:List Env} {s s1:Shared} {H:Hp} {E:XK} {us:List Value} {vs:List V}
   (S:FnScope N ps scope) (hd:A.handled=none) (e0:Env0 P w K mg base A outer s H) (hl:vs.length=ps.length) (r:Vals vs us)
   (x:InCallC s s.heap.objs.size (bindL (envOfC qual scope s.heap.objs.size f cd).kindOf (ps.zip us) fun _=>none) (cellsFrom (s.heap.objs.size+1) scope.names []) (bindC (envOfC qual scope s.heap.objs.size f cd).kindOf (ps.zip us) fun _=>none) s1) :
   Inv (sQ CX P w K mg base N qual scope f cd A outer s H E) [] (start N vs) H s1:=by
 have hpl:ps.length<=N.length:=by have:=congrArg List.length S.pre;rw [List.length_take] at this;omega
 obtain ⟨h1,tk,rfl,hk⟩:=x.done;have noA:∀ b:Addr,b ∉ (sQ CX P w K mg base N qual scope f cd A outer s H E).ex:=fun b z=>absurd (show b∈([]:List Addr) from z) (by simp);refine ⟨⟨e0.mod,S.kind,rfl,rfl,Nat.le_refl _,fun y z c h1 h2=>?_,fun y hy=>?_,fun y c _ h=>?_,fun _=>hd,Around.frames_deeper e0.frames,.inr ⟨rfl,rfl⟩,fun b z=>absurd z (noA b),e0.bs,e0.bsz,fun b _ _=>noA b,fun b z=>absurd z (noA b),e0.funs,e0.frf⟩,
   rfl,e0.bare,Un.kept hk,⟨_,x.toInCall.ns,fun i y v h1 h2 h3=>?_⟩,fun y c h=>⟨_,x.cell y c h⟩,e0.hok.fresh (Nat.le_refl _),fun y c h=>?_,fun p hp=>absurd (show p∈([]:List (Addr × Obj)) from hp) (by simp),e0.hok.kept hk,?_⟩
 . exact name_of_addr x.apart (PySem.mem_of_lookup h1) (PySem.mem_of_lookup h2)
 . have hy:scope.names.lookup y=some .cell\/scope.names.lookup y=some .free:=hy;rcases hy with hy|hy
   . exact dI hy
   . exact absurd rfl (S.nofree _ (PySem.mem_of_lookup hy))
 . exact Nat.le_of_lt (x.above y c (PySem.mem_of_lookup h))
 . have hi:i<vs.length:=by
     unfold start at h2;by_cases hi:i<vs.length
     . exact hi
     . rw [List.getElem?_append_right (by simpa using hi)] at h2;rw [List.getElem?_replicate] at h2;split at h2 <;> cases h2
   have ha:vs[i]?=some v:=by
     unfold start at h2;rw [List.getElem?_append_left (by simpa using hi),List.getElem?_map] at h2;cases e:vs[i]? with
     | none=>rw [e] at h2;cases h2
     | some a=>rw [e] at h2;cases h2;rfl
   obtain ⟨u,hu,rv⟩:=r.get ha;have hp:ps[i]?=some y:=by
     rw [<- S.pre,List.getElem?_take_of_lt (by omega)];exact h1
   have ndP:ps.Nodup:=by rw [<- S.pre];exact S.nd.sublist (List.take_sublist _ _)
   refine ⟨u,rv,?_⟩;rcases S.par y (List.mem_of_getElem? hp) with k|k
   . exact .inl ⟨k,Gw ndP hp hu k⟩
   . obtain ⟨c,e⟩:=dI (n:=s.heap.objs.size+1) k;refine .inr ⟨.inl k,c,e,?_⟩;have q:=x.cell y c e;rw [GQ ndP hp hu (by show scope.names.lookup y≠_;rw [k];decide)] at q;exact q
 . exact e0.hok.fresh (Nat.le_of_lt (x.above y c (PySem.mem_of_lookup h)))
 . unfold start;show _=N.length;rw [List.length_append,List.length_map,List.length_replicate];omega
theorem UV {CX:CXT} {P:Program} {w:World} {K:PySem.W.Frag} {mg:Str->Option Value} {base:Heap} {k:Nat} {f:Addr} {name qual:Str} {params:Arguments} {body:List Stmt} {scope:Scope} {dV kV doc pm cdv ct oc:Value} {an od:Option Addr}
   {osl:Array (Option Value)} {N ps:List Str} {sp:Sp} (lk:K.lookup f=some ⟨oc,od,.func (PySem.W.fnOf name qual params body scope dV kV doc pm an cdv ct),osl⟩) (hcd:PySem.W.codeIn K cdv qual=true) (S:FnScope N ps scope)
   (len:∀ vs H Q E,sp vs H Q E->vs.length=ps.length)
   (hbody:∀ (A:Around) (outer:List Env) (s:Shared) (H:Hp) (vs:List V) (Q:VK) (E:XK),Room k (A.deeper (envOfC qual scope s.heap.objs.size f cdv))->sp vs H Q E ->
     ∃ t,PSs (sQ CX P w K mg base N qual scope f cdv A outer s H E) body t/\t { nx:=fun _ H'=>Q .non H',rt:=Q } (start N vs) H) :
   FnOk P w K mg base CX (k+1) f (PySem.W.fnOf name qual params body scope dV kV doc pm an cdv ct) ps sp:=by
 refine ⟨len,fun A outer s H args us vs Q E hr e0 hb r hsp=>?_⟩;have hl:=len _ _ _ _ hsp;have KX:K.In s.heap:=e0.mod.kin.keeps fun b o e=>(e0.bs b o e).1;have lim:s.heap.NoLimit:=e0.mod.nolimit.keeps fun b o e=>(e0.bs b o e).1;have hkind:∀ y∈ps.zip us,scope.names.lookup y.1=some .local\/(scope.names.lookup y.1=some .cell/\((cellsFrom (s.heap.objs.size+1) scope.names []).lookup y.1).isSome=true):=fun ⟨n,v⟩ hy=>by
   rcases S.par n (List.of_mem_zip hy).1 with q|q
   . exact .inl q
   . exact .inr ⟨q,PySem.W.cellsFrom_some _ _ _ (.inl q)⟩
 refine codeAny_call_function hr.depth (KX _ _ lk) rfl S.co S.gen rfl (PySem.W.codeRec_of KX hcd) (hb _ _ _ _ ?_);refine wpAny_newFunctionEnv_cells S.kind hkind fun env he s1 x=>?_;subst he;refine ⟨lim.keeps x.toInCall.keep,codeAny_func ?_⟩;obtain ⟨t,ht,hq⟩:=hbody A outer s H vs Q E (hr.deeper _) hsp;have I:Inv (sQ CX P w K mg base N qual scope f cdv A outer s H E) [] (start N vs) H s1:=Rs S hr.hd e0 hl r x;refine wpAny_mono (ht [] s1 (start N vs) H _ I hq) (fun fl s' hs=>?_) fun e s' hs=>hs;have fin:∀ {σ':St} {H':Hp} {v:V} {u:Value},Inv (sQ CX P w K mg base N qual scope f cdv A outer s H E) [] σ' H' s'->RelV v u->Q v H'->CE outer P w H s Q u s' :=
   fun {σ' H' v u} J rv q=>⟨v,H',J.os,J.bare,J.base,J.hok,rv,q⟩
 cases fl with
 | ret u =>
   obtain ⟨v,σ',H',J,rv,q⟩:=hs;exact fin J rv q
 | next =>
   obtain ⟨σ',H',J,q⟩:=hs;exact fin (v:=V.non) (u:=Value.none) J rfl q
 | brk =>
   obtain ⟨_,_,_,q⟩:=hs;exact False.elim q
 | cont =>
   obtain ⟨_,_,_,q⟩:=hs;exact False.elim q
end L2
namespace L2
open PySem PySem.Spec PyProof.Rows
section
variable {X:Cx} {x:Str} {p pos:Pos} {e:Expr} {es:List Expr} {t:TA} {id T:String} {r:List V->Hp->VK->Prop}
def tCB (r:List V->Hp->VK->Prop) (t:TA):TE:=fun σ H Q=>t σ H fun vs H1=>r vs H1 Q
theorem aN (hc:jp X (.builtin id) r) (hg:Gl X x) (hm:X.mg x=none) (hv:bootBuiltins x=some (.builtin id)) (ha:PA X (e::es) t) (hn:x≠"__name__":=by decide) (hdb:(x == ("__debug__":Str))=false:=by decide)
   (he:starEach (e::es) X.env=(false,eval e X.env)::starEach es X.env:=by rfl) (hpl:(backTo pos (starEach es X.env)).any (·.1)=false:=by rfl):PE X (.Call (.Name x p) (e::es) [] pos) (tCB r t):=by
 intro pins s σ H Q I h;refine wpAny_Call_Name_kw (xn I hg hm hv ?_ hn hdb);exact PyProof.Rows.callWith_builtin1 (zu (ha pos pins s σ H _ I h) fun us s1 vs H1 I1 r1 q1=>hc pins s1 σ H1 vs us Q I1 r1 q1) he hpl
theorem oN (hc:jp X (.type T) r) (hg:Gl X x) (hm:X.mg x=none) (hv:bootBuiltins x=some (.type T)) (ha:PA X (e::es) t) (hn:x≠"__name__":=by decide) (hdb:(x == ("__debug__":Str))=false:=by decide)
   (he:starEach (e::es) X.env=(false,eval e X.env)::starEach es X.env:=by rfl) (hpl:(backTo pos (starEach es X.env)).any (·.1)=false:=by rfl):PE X (.Call (.Name x p) (e::es) [] pos) (tCB r t):=by
 intro pins s σ H Q I h;refine wpAny_Call_Name_kw (xn I hg hm hv ?_ hn hdb);exact PyProof.Rows.callWith_type1 (zu (ha pos pins s σ H _ I h) fun us s1 vs H1 I1 r1 q1=>hc pins s1 σ H1 vs us Q I1 r1 q1) he hpl
end
end L2
namespace HT
open PySem PyProof.Rows
section
open PySem.SeqAt
open PySem.AutoSeq1 (wpAny_loadPart')
open PySem.MeetsSeq PySem.MeetsSeq2 PySem.MeetsSeq3
end
section
variable {prog:Program} {w:World} {A:Around} {E:Value->Shared->Prop} {s:Shared}
theorem cat_tup {t b:Addr} {vs ws:List Value} {Q:Value->Shared->Prop} (ht:IsTup s.heap t vs.toArray) (hb:IsTup s.heap b ws.toArray) (hv:vs≠[])
   (h1:ws=[]->Q (.ref t) s) (h2:ws≠[]->Q (.ref s.heap.objs.size) { s with heap:=s.heap.push { cls:=.type "tuple",data:=.seq (vs++ws).toArray } })
   (hsz:vs.length+ws.length<=sizeLine):wpAny (model prog w) A (binaryOp .Add (.ref t) (.ref b)) Q E s:=by
 obtain ⟨⟨cls,dd,data,sl⟩,ho,hc,n,hd⟩:=id ht;obtain ⟨⟨cls2,dd2,data2,sl2⟩,ho2,hc2,n2,hd2⟩:=id hb;simp only at hc hd hc2 hd2;subst hc hd hc2 hd2;have e:vs.toArray++ws.toArray=(vs++ws).toArray:=by simp
 by_cases hw:ws=[]
 . exact concat_meets ⟨_,ho,rfl⟩ ⟨_,ho2,rfl⟩ noFill_tuple_add seq_tuple_add PySem.F.slot_tuple_add PySem.F.entry_tuple_add (PySem.F.args_tuple_add_2 _ _)
     (tuple_addW1 t b vs.toArray ws.toArray n n2 dd dd2 sl sl2 (by simpa using hv) (by simp [hw])) ⟨ho,ho2,h1 hw⟩
 . refine concat_meets ⟨_,ho,rfl⟩ ⟨_,ho2,rfl⟩ noFill_tuple_add seq_tuple_add PySem.F.slot_tuple_add PySem.F.entry_tuple_add (PySem.F.args_tuple_add_2 _ _)
     (tuple_addW2 t b vs.toArray ws.toArray n n2 dd dd2 sl sl2 (by simpa using hv) (by simpa using hw) (by rw [List.size_toArray,List.size_toArray];exact hsz)) ⟨ho,ho2,?_⟩
   rw [e];exact h2 hw
def sIx (n d:Nat):Option Int->Nat
 | none=>d
 | some v=>if v<0 then (v+(n:Int)).toNat else min v.toNat n
theorem XC (n d:Nat) (hd:d<=n) (o:Option Int):sIx n d o<=n:=by
 cases o with
 | none=>exact hd
 | some v =>
   show (if v<0 then (v+(n:Int)).toNat else min v.toNat n)<=n;by_cases hv:v<0
   . rw [if_pos hv];omega
   . rw [if_neg hv];exact Nat.min_le_right _ _
theorem Nf (v:Int) (n d:Nat):(if v<0 then max (v+(n:Int)) 0 else min v (n:Int))=((sIx n d (some v):Nat):Int):=by
 show (if v<0 then max (v+(n:Int)) 0 else min v (n:Int))=(((if v<0 then (v+(n:Int)).toNat else min v.toNat n):Nat):Int);by_cases hv:v<0
 . simp only [if_pos hv];omega
 . simp only [if_neg hv];omega
theorem PR (lo hi:Option Int) (n:Nat):Builtin.Slice.sliceAdjust lo hi 1 (n:Int)=(((sIx n 0 lo:Nat):Int),((sIx n n hi:Nat):Int)):=by
 have h1:¬ ((1:Int)<0):=by omega
 unfold Builtin.Slice.sliceAdjust;simp only [h1,if_false];refine Prod.ext ?_ ?_
 . cases lo with
   | none=>rfl
   | some v=>exact Nf v n 0
 . cases hi with
   | none=>rfl
   | some v=>exact Nf v n n
theorem O0 (i j:Nat):Builtin.Slice.slicePlaces (i:Int) (j:Int) 1=j - i:=by
 unfold Builtin.Slice.slicePlaces;have h1:(1:Int) > 0:=by omega
 simp only [h1,if_true,Int.ediv_one];split <;> omega
theorem EN {v:Value} {o:Option Int} {Q:Option Int->Shared->Prop} (p:IsPart v o) (h:Q o s):wpAny (model prog w) A (Builtin.Slice.slicePartIndex v) Q E s:=by
 cases p with
 | none=>exact slicePart_none h
 | int i t=>exact slicePart_int h
theorem Dd {sl:Addr} {vl vu:Value} {lo hi:Option Int} {n:Nat} {Q:Int × Int × Nat->Shared->Prop} (hs:s.heap.IsSliceOf sl vl vu .none) (pl:IsPart vl lo) (pu:IsPart vu hi)
   (h:Q (((sIx n 0 lo:Nat):Int),1,sIx n n hi - sIx n 0 lo) s):wpAny (model prog w) A (Builtin.Slice.sliceApplied (.ref sl) (pure (n:Int))) Q E s:=by
 obtain ⟨os,hos,hcs,hds⟩:=id hs;unfold Builtin.Slice.sliceApplied Builtin.Slice.sliceFields;refine wpAny_bind (wpAny_bind (wpAny_field hos hds (x:=vl) rfl (wpAny_bind (wpAny_field hos hds (x:=vu) rfl (wpAny_bind (wpAny_field hos hds (x:=.none) rfl (wpAny_pure ?_)))))));refine wpAny_bind (slicePart_none ?_);show wpAny _ _ (if ((1:Int) == 0)=true then _ else _) _ _ s;rw [if_neg (by decide)];refine wpAny_bind (EN pl (wpAny_bind (EN pu (wpAny_bind (wpAny_pure ?_)))));show wpAny _ _ (match Builtin.Slice.sliceAdjust lo hi 1 (n:Int) with|(lo,hi)=>pure (lo,(1:Int),Builtin.Slice.slicePlaces lo hi 1)) _ _ s;rw [PR lo hi n];show wpAny _ _ (pure (((sIx n 0 lo:Nat):Int),(1:Int),Builtin.Slice.slicePlaces ((sIx n 0 lo:Nat):Int) ((sIx n n hi:Nat):Int) 1)) _ _ s;rw [O0];exact wpAny_pure h
theorem Uq (xs:Array Value) (i k:Nat):((List.range k).filterMap fun (m:Nat)=>xs[((i:Int)+(m:Int)*1).toNat]?).toArray=((xs.toList.drop i).take k).toArray:=by
 have e:(fun (m:Nat)=>xs[((i:Int)+(m:Int)*1).toNat]?)=fun m=>xs[i+m]?:=by
   funext m
   have:((i:Int)+(m:Int)*1).toNat=i+m:=by omega
   rw [this]
 rw [e];have:=pick_run xs i k;rw [List.filterMap_map] at this;have e2:((fun x=>xs[x]?) ∘ fun x=>i+x)=fun m=>xs[i+m]?:=rfl;rw [e2] at this;rw [this]
theorem getItem_tuple_cut {t sl:Addr} {items:Array Value} {vl vu:Value} {lo hi:Option Int} {Q:Value->Shared->Prop} (ht:IsTup s.heap t items) (hs:s.heap.IsSliceOf sl vl vu .none) (pl:IsPart vl lo) (pu:IsPart vu hi)
   (hw:¬ (sIx items.size 0 lo=0/\sIx items.size items.size hi=items.size))
   (h:Q (.ref s.heap.objs.size) { s with heap:=s.heap.push { cls:=.type "tuple",data:=.seq ((items.toList.drop (sIx items.size 0 lo)).take (sIx items.size items.size hi - sIx items.size 0 lo)).toArray } })
   (hsz:items.size<=sizeLine):wpAny (model prog w) A (getItem (.ref t) (.ref sl)) Q E s:=by
 have htake:sizeOk (.seq ((items.toList.drop (sIx items.size 0 lo)).take (sIx items.size items.size hi - sIx items.size 0 lo)).toArray):=by
   show ((items.toList.drop (sIx items.size 0 lo)).take (sIx items.size items.size hi - sIx items.size 0 lo)).toArray.size<=sizeLine;rw [List.size_toArray,List.length_take,List.length_drop,Array.length_toList];omega
 have hj:sIx items.size items.size hi<=items.size:=XC _ _ (Nat.le_refl _) hi;obtain ⟨os,hos,hcs,hds⟩:=id hs;have hTs:s.TypeIs (.ref sl) "slice":=⟨os,hos,hcs⟩;unfold getItem
 try with_reducible refine wpAny_holding ?_
 first|refine wpAny_bind (wpAny_pure ?_)|skip
 refine wpAny_bind (wpAny_sequenceKey ht.typeIs (by decide) ?_);refine wpAny_bind (wpAny_callSpecial?_slot (name:=Str.ofString "__getitem__") ht.typeIs PyProof.Rows.slot_tuple_getitem
   (wpAny_call_entry PyProof.Rows.slot_tuple_getitem ht.typeIs entry_tuple_getitem ?_ (args_tuple_getitem _ _)))
 show wpAny _ _ (Builtin.Tuple.tupleItemsOf (.ref t) >>= _) _ _ s;refine wpAny_bind (tupleItemsOf_ ht ?_);refine wpAny_bind (wpAny_typeOf hTs ?_);rw [if_pos (by decide)];refine wpAny_bind (Dd hs pl pu ?_);have hno:¬ ((((sIx items.size 0 lo:Nat):Int) == 0 && (1:Int) == 1 && (sIx items.size items.size hi - sIx items.size 0 lo) == items.size)=true):=by
   intro q;rw [Bool.and_eq_true,Bool.and_eq_true] at q;have q1:((sIx items.size 0 lo:Nat):Int)=0:=eq_of_beq q.1.1;have q2:sIx items.size items.size hi - sIx items.size 0 lo=items.size:=eq_of_beq q.2;exact hw ⟨by omega,by omega⟩
 show wpAny _ _ (if (((sIx items.size 0 lo:Nat):Int) == 0 && (1:Int) == 1 && (sIx items.size items.size hi - sIx items.size 0 lo) == items.size)=true then _ else _) _ _ s;rw [if_neg hno,Uq]
 first
   | exact wpAny_bind (m:=Builtin.Tuple.tupleExact _) (wpAny_newObj_type (wpAny_pure ⟨_,rfl,wpAny_pure h⟩) htake)
   | exact wpAny_bind (m:=Builtin.Tuple.tupleExact _) (wpAny_newObj_type (wpAny_bind (wpAny_pure (wpAny_pure ⟨_,rfl,wpAny_pure h⟩))) htake)
   | exact wpAny_bind (wpAny_bind (m:=Builtin.Tuple.tupleExact _) (wpAny_newObj_type (wpAny_pure (wpAny_pure ⟨_,rfl,wpAny_pure h⟩)) htake))
   | exact wpAny_bind (wpAny_bind (m:=Builtin.Tuple.tupleExact _) (wpAny_newObj_type (wpAny_pure ⟨_,rfl,wpAny_pure h⟩) htake))
end
end HT
namespace L2
open PySem PySem.Spec PyProof.Rows
abbrev TO:=St->Hp->(Option Int->Hp->Prop)->Prop
def PO (X:Cx) (e:Option Expr) (t:TO):Prop :=
 ∀ (pins:List (Addr × Obj)) (s:Shared) (σ:St) (H:Hp) (Q:Option Int->Hp->Prop),Inv X pins σ H s->t σ H Q ->
   wpAny (model X.prog X.w) X.A (evalPart e X.env) (fun u s'=>∃ o H',Inv X pins σ H' s'/\IsPart u o/\Q o H') X.xe s
def tNoPart:TO:=fun _ H Q=>Q none H
def Ox (t:TE):TO:=fun σ H Q=>t σ H fun x H1=>∃ i,x=.int i/\Q (some i) H1
section
variable {X:Cx} {e:Expr} {te:TE} {lo hi:Option Expr} {tl th:TO} {pos p2:Pos}
theorem Wd:PO X none tNoPart:=by
 intro pins s σ H Q I h;rw [evalPart_none];exact wpAny_pure ⟨none,H,I,.none,h⟩
theorem V5 (h:PE X e te):PO X (some e) (Ox te):=by
 intro pins s σ H Q I hw;rw [evalPart_some];refine bT (h pins s σ H _ I hw) fun u s1 x H1 I1 r1 q1=>?_;obtain ⟨i,rfl,q⟩:=q1;obtain ⟨t,rfl⟩:=r1;exact ⟨some i,H1,I1,.int i t,q⟩
def SlR (X:Cx) (r:V->Option Int->Option Int->Hp->VK->Prop):Prop :=
 ∀ (pins:List (Addr × Obj)) (s:Shared) (σ:St) (H:Hp) (x:V) (v vl vu:Value) (lo hi:Option Int) (sl:Addr) (Q:VK),Inv X pins σ H s->RelV x v->s.heap.IsSliceOf sl vl vu .none->IsPart vl lo->IsPart vu hi->r x lo hi H Q ->
   ∃ T id,typeLookup (.type T) "__getitem__"=pure (some (.builtin id))/\s.TypeIs v T/\wpAny (model X.prog X.w) X.A (getItem v (.ref sl)) (EP X pins σ Q) X.xe s
def tSl (r:V->Option Int->Option Int->Hp->VK->Prop) (te:TE) (tl th:TO):TE:=fun σ H Q=>te σ H fun x H1=>tl σ H1 fun l H2=>th σ H2 fun u H3=>r x l u H3 Q
theorem R3 {r:V->Option Int->Option Int->Hp->VK->Prop} (hr:SlR X r) (he:PE X e te) (hl:PO X lo tl) (hu:PO X hi th):PE X (.Subscript e (.Slice lo hi none p2) pos) (tSl r te tl th):=by
 intro pins s σ H Q I h;refine Subscript_ (bT (he pins s σ H _ I h) fun v s1 x H1 I1 r1 q1=>?_);refine wpAny_Slice (thn (hl pins s1 σ H1 _ I1 q1) fun vl s2 ⟨l,H2,I2,pl,q2⟩=>thn (hu pins s2 σ H2 _ I2 q2) fun vu s3 ⟨u,H3,I3,pu,q3⟩=>?_);rw [evalPart_none];refine wpAny_pure ?_;have I4:Inv X pins σ H3 { s3 with heap:=s3.heap.push { cls:=.type "slice",data:=.fields #[vl,vu,.none] } }:=I3.kept (t':=s3.toks) fun b ob q=>Heap.get?_push_of_some _ q;obtain ⟨T,id,hT,ht,hg⟩:=hr pins { s3 with heap:=s3.heap.push { cls:=.type "slice",data:=.fields #[vl,vu,.none] } } σ H3 x v vl vu l u s3.heap.objs.size Q I4 r1 (Heap.IsSliceOf.new ..) pl pu q3;show wpAny (model X.prog X.w) X.A (subscriptTail e (.Slice lo hi none p2) v (.ref s3.heap.objs.size)) (EP X pins σ Q) X.xe { s3 with heap:=s3.heap.push { cls:=.type "slice",data:=.fields #[vl,vu,.none] } };exact tail_any (ops:=[.ref s3.heap.objs.size,v]) ht hT hg (by with_unfolding_all rfl)
def C5 (xs:List V) (lo hi:Option Int):List V:=(xs.drop (HT.sIx xs.length 0 lo)).take (HT.sIx xs.length xs.length hi - HT.sIx xs.length 0 lo)
theorem Mn (xs:List V) (lo hi:Option Int):(C5 xs lo hi).length<=xs.length:=by
 unfold C5;rw [List.length_take,List.length_drop];omega
def XF (K:PySem.W.Frag):V->Option Int->Option Int->Hp->VK->Prop:=fun x lo hi H Q=>∃ a xs,x=.ref a/\SqT K H a xs /\
 ¬ (HT.sIx xs.length 0 lo=0/\HT.sIx xs.length xs.length hi=xs.length)/\∀ p,H p=none->Q (.ref p) (upd H p (.tup (C5 xs lo hi)))
theorem Xo:SlR X (XF X.K):=by
 intro pins s σ H x v vl vu lo hi sl Q I rx hs pl pu h;obtain ⟨a,xs,rfl,hx,hw,q⟩:=h;cases rx;obtain ⟨its,r,ht,hz⟩:=I.tuple hx;have hlen:its.toArray.size=xs.length:=by rw [List.size_toArray];exact r.length.symm
 refine ⟨"tuple",_,PyProof.Rows.slot_tuple_getitem.lookup,ht.typeIs,?_⟩;refine HT.getItem_tuple_cut ht hs pl pu (by rw [hlen];exact hw) ?_ (by rw [hlen];exact hz);rw [hlen];refine ⟨.ref s.heap.objs.size,_,I.laid (t':=s.toks) (o:=.tup (C5 xs lo hi)) (fun b ob q=>Heap.get?_push_of_some _ q) (Nat.le_refl _) ?_,rfl,q _ (I.hok.fresh (Nat.le_refl _))⟩;exact ⟨Nat.le_trans (Mn xs lo hi) hz,_,(r.drop (HT.sIx xs.length 0 lo)).take (HT.sIx xs.length xs.length hi - HT.sIx xs.length 0 lo),IsTup.new _ _⟩
def Ow (K:PySem.W.Frag):R2:=fun x y H Q=>∃ a b xs ys,x=.ref a/\y=.ref b/\SqT K H a xs/\SqT K H b ys/\xs≠[]/\xs.length+ys.length<=sizeLine /\
 (ys=[]->Q (.ref a) H)/\(ys≠[]->∀ p,H p=none->Q (.ref p) (upd H p (.tup (xs++ys))))
theorem Vals.nil_iff {xs:List V} {us:List Value} (r:Vals xs us):us=[]↔xs=[]:=by
 cases r with
 | nil=>simp
 | cons _ _=>simp
theorem Wl:OpR X (binaryOp .Add) (Ow X.K):=by
 intro pins s σ H x y v u Q I rx ry h;obtain ⟨a,b,xs,ys,rfl,rfl,ha,hb,hx,hz,q1,q2⟩:=h;cases rx;cases ry;obtain ⟨its,r1,p1,_⟩:=I.tuple ha;obtain ⟨its2,r2,p2,_⟩:=I.tuple hb;refine HT.cat_tup p1 p2 (fun z=>hx (r1.nil_iff.mp z)) (fun z=>⟨.ref a,H,I,rfl,q1 (r2.nil_iff.mp z)⟩) (fun z=>?_) (by rw [<- r1.length,<- r2.length];exact hz);refine ⟨.ref s.heap.objs.size,_,I.laid (t':=s.toks) (o:=.tup (xs++ys)) (fun b ob q=>Heap.get?_push_of_some _ q) (Nat.le_refl _) ?_,rfl,q2 (fun w=>z (r2.nil_iff.mpr w)) _ (I.hok.fresh (Nat.le_refl _))⟩;exact ⟨by rw [List.length_append];exact hz,_,r1.append r2,IsTup.new _ _⟩
end
end L2
namespace L2
open PySem PySem.Spec PyProof.Rows
def ixN (n:Nat) (i:Int):Option Nat:=if 0<=i then (if i<n then some i.toNat else none) else if -(n:Int)<=i then some (i+n).toNat else none
def atI {α:Type} (xs:List α) (i:Int):Option α:=(ixN xs.length i).bind fun j=>xs[j]?
theorem No {n:Nat} {i:Int} {j:Nat} (h:ixN n i=some j):seqIndex? i n=some j/\j<n/\-(n:Int)<=i/\i<n:=by
 unfold ixN at h;by_cases h0:0<=i
 . rw [if_pos h0] at h;by_cases h1:i<n
   . rw [if_pos h1] at h;have e:i.toNat=j:=Option.some.inj h;exact ⟨by rw [seqIndex_of h0 h1,e],by omega,by omega,h1⟩
   . rw [if_neg h1] at h;cases h
 . rw [if_neg h0] at h;by_cases h1:-(n:Int)<=i
   . rw [if_pos h1] at h;have e:(i+n).toNat=j:=Option.some.inj h;exact ⟨by rw [seqIndex_neg (by omega) h1,e],by omega,h1,by omega⟩
   . rw [if_neg h1] at h;cases h
theorem NF {α:Type} {xs:List α} {i:Int} {v:α} (h:atI xs i=some v):∃ j,seqIndex? i xs.length=some j/\xs[j]?=some v/\j<xs.length/\-(xs.length:Int)<=i/\i<xs.length:=by
 unfold atI at h;cases e:ixN xs.length i with
 | none=>rw [e] at h;cases h
 | some j =>
   rw [e] at h;obtain ⟨h1,h2,h3,h4⟩:=No e;exact ⟨j,h1,h,h2,h3,h4⟩
theorem iC {α:Type} {xs:List α} {j:Nat} {v:α} (h:xs[j]?=some v):atI xs (j:Int)=some v:=by
 have hj:j<xs.length:=(List.getElem?_eq_some_iff.mp h).1;have e:ixN xs.length (j:Int)=some j:=by
   unfold ixN;rw [if_pos (by omega),if_pos (by omega)];simp
 unfold atI;rw [e];exact h
def Vx (b:Expr):Prop:=∀ o i,subscripted b false o i=operate [o,i] (getItem o i)
def IxR (X:Cx) (r:R2):Prop :=
 ∀ (value slice:Expr) (pins:List (Addr × Obj)) (s:Shared) (σ:St) (H:Hp) (x y:V) (v u:Value) (Q:VK),Inv X pins σ H s->RelV x v->RelV y u->r x y H Q ->
   subscripted slice false v u=operate [v,u] (getItem v u)->wpAny (model X.prog X.w) X.A (subscriptTail value slice v u) (EP X pins σ Q) X.xe s
def MtR (X:Cx) (id:String) (r:V->List V->Hp->VK->Prop):Prop :=
 ∀ (pins:List (Addr × Obj)) (s:Shared) (σ:St) (H:Hp) (x:V) (xs:List V) (v:Value) (us:List Value) (Q:VK),Inv X pins σ H s->RelV x v->Vals xs us->r x xs H Q ->
   wpAny (model X.prog X.w) X.A (call (.builtin id) (v::us)) (EP X pins σ Q) X.xe s
section
variable {X:Cx} {a b:Expr} {ta tb:TE} {pos:Pos}
theorem az {r:R2} (hr:IxR X r) (ha:PE X a ta) (hb:PE X b tb) (hs:Vx b):PE X (.Subscript a b pos) (tOp r ta tb):=by
 intro pins s σ H Q I h;exact Subscript_ (UA ha hb I h fun v u s2 x y H2 I2 rx ry q=>hr a b pins s2 σ H2 x y v u Q I2 rx ry q (hs _ _))
def NM (K:PySem.W.Frag):R2:=fun x y H Q=>∃ p xs i v,x=.ref p/\y=.int i/\SqL K H p xs/\atI xs i=some v/\Q v H
def Jd (K:PySem.W.Frag):R2:=fun x y H Q=>∃ p xs i v,x=.ref p/\y=.int i/\SqT K H p xs/\atI xs i=some v/\Q v H
theorem bz:IxR X (NM X.K):=by
 intro value slice pins s σ H x y v u Q I rx ry h hs;obtain ⟨p,xs,i,z,rfl,rfl,hq,he,q⟩:=h;cases rx;obtain ⟨t,rfl⟩:=ry;obtain ⟨its,r,pl,hz⟩:=I.list hq;obtain ⟨j,h1,h2,h3,h4,h5⟩:=NF he;obtain ⟨w,ew,rw'⟩:=r.get h2;have hl:=r.length;have hn:=xG;have fin:EP X pins σ Q w s:=⟨z,H,I,rw',q⟩;by_cases h0:0<=i
 . have hj:i.toNat=j:=by
     rw [seqIndex_of h0 h5] at h1;exact Option.some.inj h1
   exact item_listR pl.isList h0 (by omega) (by rw [hj];simpa using ew) fin hs
 . have hj:(i+(its.toArray.size:Int)).toNat=j:=by
     rw [seqIndex_neg (by omega) h4] at h1;rw [List.size_toArray,<- hl];exact Option.some.inj h1
   exact subscriptTail_builtinR (x:=w) pl.isList.typeIs slot_list_getitem.lookup
     (wpAny_getItem_list_neg (Q:=fun r s'=>r=w/\EP X pins σ Q r s') pl.isList (by omega) (by rw [List.size_toArray] <;> omega) (by omega) (by rw [hj];simpa using ew) ⟨rfl,fin⟩) hs
theorem bf:IxR X (Jd X.K):=by
 intro value slice pins s σ H x y v u Q I rx ry h hs;obtain ⟨p,xs,i,z,rfl,rfl,hq,he,q⟩:=h;cases rx;obtain ⟨t,rfl⟩:=ry;obtain ⟨its,r,pl,hz⟩:=I.tuple hq;obtain ⟨j,h1,h2,h3,h4,h5⟩:=NF he;obtain ⟨w,ew,rw'⟩:=r.get h2;have hl:=r.length;have hn:=xG;have fin:EP X pins σ Q w s:=⟨z,H,I,rw',q⟩;exact subscriptTail_builtinR (x:=w) pl.typeIs slot_tuple_getitem.lookup
   (getItem_tuple (j:=j) (Q:=fun r s'=>r=w/\EP X pins σ Q r s') pl (by omega) (by omega) (by rw [List.size_toArray,<- hl];exact h1) (by simpa using ew) ⟨rfl,fin⟩) hs
theorem NN (its:List Value) (n j:Nat) (u:Value):Obj.mapSeq (·.setIfInBounds j u) { cls:=.type "list",data:=.seq its.toArray n }={ cls:=.type "list",data:=.seq (its.set j u).toArray n }:=by
 simp [Obj.mapSeq]
theorem Inv.lst {pins:List (Addr × Obj)} {σ:St} {H:Hp} {s:Shared} {p:Addr} {xs:List V} (I:Inv X pins σ H s) (h:H p=some (.lst xs)) :
   ∃ (its:List Value) (n:Nat),Vals xs its/\s.heap.get? p=some { cls:=.type "list",data:=.seq its.toArray n }/\xs.length<=sizeLine:=by
 obtain ⟨z,its,n,r,e⟩:=I.hok p _ h;exact ⟨its,n,r,e,z⟩
theorem Inv.lstUpd {pins:List (Addr × Obj)} {σ:St} {H:Hp} {s:Shared} {p:Addr} {xs ys:List V} {its its':List Value} {n n':Nat} {f:Obj->Obj} (I:Inv X pins σ H s) (h:H p=some (.lst xs))
   (ho:s.heap.get? p=some { cls:=.type "list",data:=.seq its.toArray n }) (hf:f { cls:=.type "list",data:=.seq its.toArray n }={ cls:=.type "list",data:=.seq its'.toArray n' }) (r:Vals ys its') (hz:ys.length<=sizeLine) (t:Nat) :
   Inv X pins σ (upd H p (.lst ys)) { s with heap:=s.heap.update p f,toks:=t }:=by
 have e:(s.heap.update p f).get? p=some { cls:=.type "list",data:=.seq its'.toArray n' }:=by
   rw [Heap.get?_update_self f ho (by rw [hf] <;> rfl),hf]
 refine I.write (x:=p) (e:=p) (by rw [h];trivial) (.inl rfl) (fun b u hb q=>(Heap.get?_update_other _ _ (Ne.symm hb)).trans q) ⟨_,e⟩ ?_;exact ⟨hz,its',n',r,e⟩
def rSetL:V->V->V->Hp->(Hp->Prop)->Prop:=fun o i v H Q=>∃ p xs k j,o=.ref p/\i=.int k/\H p=some (.lst xs)/\ixN xs.length k=some j/\Q (upd H p (.lst (xs.set j v)))
theorem qQ:WT X rSetL:=by
 intro pins s σ H o i v ov iv u Q I ro ri rv h;obtain ⟨p,xs,k,j,rfl,rfl,hp,hj,q⟩:=h;cases ro;obtain ⟨t,rfl⟩:=ri;obtain ⟨its,n,r,ho,hz⟩:=I.lst hp;obtain ⟨h1,h2,h3,h4⟩:=No hj;have hl:=r.length;have hn:=xG;have I':Inv X pins σ (upd H p (.lst (xs.set j v))) { s with heap:=s.heap.update p (Obj.mapSeq (·.setIfInBounds j u)) } :=
   I.lstUpd hp ho (NN its n j u) (r.set rv j) (by rw [List.length_set];exact hz) s.toks
 by_cases h0:0<=k
 . have hk:k.toNat=j:=by
     rw [seqIndex_of h0 h4] at h1;exact Option.some.inj h1
   exact PySem.W.ki_setAt ho h0 (by omega) (by rw [List.size_toArray,<- hl];exact h4) (by rw [hk];exact ⟨_,I',q⟩)
 . have hk:(k+(its.toArray.size:Int)).toNat=j:=by
     rw [seqIndex_neg (by omega) h3] at h1;rw [List.size_toArray,<- hl];exact Option.some.inj h1
   exact PySem.W.ki_setBack ho (by omega) (by rw [List.size_toArray,<- hl];exact h3) (by omega) (by rw [hk];exact ⟨_,I',q⟩)
theorem bM:jp X (.builtin "len") (fun xs H Q=>∃ p ys,xs=[.ref p]/\(SqL X.K H p ys\/SqT X.K H p ys)/\Q (.int ys.length) H):=by
 intro pins s σ H xs us Q I r h;obtain ⟨p,ys,rfl,hq,q⟩:=h;obtain ⟨u,rfl,rx⟩:=nF r;cases rx;have hn:=xG;rcases hq with hq|hq
 . obtain ⟨its,r',pl,hz⟩:=I.list hq;have hlen:=r'.length;exact Calls.call_len_list pl.isList (by simp only [List.size_toArray] <;> omega) ⟨.int ys.length,H,I.tok _,⟨s.toks+1,by rw [List.size_toArray,hlen]⟩,q⟩
 . obtain ⟨its,r',pl,hz⟩:=I.tuple hq;have hlen:=r'.length;exact len_tuple pl (by simp only [List.size_toArray] <;> omega) ⟨.int ys.length,H,I.tok _,⟨s.toks+1,by rw [List.size_toArray,hlen]⟩,q⟩
theorem AE:jp X (.type "list") (fun xs H Q=>∃ p ys,xs=[.ref p]/\(SqL X.K H p ys\/SqT X.K H p ys)/\∀ l,H l=none->Q (.ref l) (upd H l (.lst ys))):=by
 intro pins s σ H xs us Q I r h;obtain ⟨p,ys,rfl,hq,q⟩:=h;obtain ⟨u,rfl,rx⟩:=nF r;cases rx;have fin:∀ (its:List Value),Vals ys its->ys.length<=sizeLine->∀ (h':Heap) (c':Nat),(∀ b o',s.heap.get? b=some o'->h'.get? b=some o') ->
     h'.get? s.heap.objs.size=some { cls:=.type "list",dict:=none,data:=.seq its.toArray c',slots:=#[] }->EP X pins σ Q (.ref s.heap.objs.size) { s with heap:=h' }:=fun its r' hz h' c' kp e =>
   ⟨.ref s.heap.objs.size,_,I.laid (t':=s.toks) kp (Nat.le_refl _) (show ObjOk X.prog X.w _ h' _ (.lst ys) from ⟨hz,its,c',r',e⟩),rfl,q _ (I.hok.fresh (Nat.le_refl _))⟩
 rcases hq with hq|hq
 . obtain ⟨its,r',pl,hz⟩:=I.list hq;have hlen:=r'.length;obtain ⟨o,ho,hc,n,hd⟩:=pl.isList;exact call_list_seq p (.inl rfl) ho hc hd (fun h' c' kp e=>fin its r' hz h' c' kp e) (by simp only [List.size_toArray] <;> omega)
 . obtain ⟨its,r',pl,hz⟩:=I.tuple hq;have hlen:=r'.length;obtain ⟨o,ho,hc,n,hd⟩:=pl;exact call_list_seq p (.inr rfl) ho hc hd (fun h' c' kp e=>fin its r' hz h' c' kp e) (by simp only [List.size_toArray] <;> omega)
theorem sW:jp X (.type "tuple") (fun xs H Q=>∃ p ys,xs=[.ref p]/\((SqL X.K H p ys/\∀ l,H l=none->Q (.ref l) (upd H l (.tup ys)))\/(SqT X.K H p ys/\Q (.ref p) H))):=by
 intro pins s σ H xs us Q I r h;obtain ⟨p,ys,rfl,h⟩:=h;obtain ⟨u,rfl,rx⟩:=nF r;cases rx;rcases h with ⟨hq,q⟩|⟨hq,q⟩
 . obtain ⟨its,r',pl,hz⟩:=I.list hq;have hlen:=r'.length;refine call_tuple_list pl.isList (fun h' kp=>?_) (by simp only [List.size_toArray] <;> omega);have I1:Inv X pins σ H { s with heap:=h' }:=I.kept (t':=s.toks) kp;have I2:Inv X pins σ (upd H h'.objs.size (.tup ys)) { s with heap:=h'.push { cls:=.type "tuple",data:=.seq its.toArray } } :=
     I1.laid (t':=s.toks) (fun b o e=>Heap.get?_push_of_some _ e) (Nat.le_refl _) (show ObjOk X.prog X.w _ _ _ (.tup ys) from ⟨hz,its,r',IsTup.new _ _⟩)
   exact ⟨.ref h'.objs.size,_,I2,rfl,q _ (I1.hok.fresh (Nat.le_refl _))⟩
 . obtain ⟨its,r',pl,hz⟩:=I.tuple hq;exact call_tuple_same pl ⟨.ref p,H,I,rfl,q⟩
def tyV (K:PySem.W.Frag) (T:String) (x:V) (H:Hp):Prop:=match x with
 | .str _=>T="str"
 | .int _=>T="int"
 | .ref p=>(T="list"/\∃ xs,SqL K H p xs)\/(T="tuple"/\∃ o,K.lookup p=some o/\o.cls=.type "tuple"/\o.dict=none) \/
     (T="dict"/\((∃ kvs,H p=some (.dK kvs))\/∃ kvs,H p=some (.dT kvs)))\/(T="set"/\∃ S n,H p=some (.set S n))
 | _=>False
theorem QV {pins:List (Addr × Obj)} {σ:St} {H:Hp} {s:Shared} {T:String} {x:V} {v:Value} (I:Inv X pins σ H s) (r:RelV x v) (ty:tyV X.K T x H) :
   s.TypeIs v T/\∀ a,v=.ref a->∃ ob,s.heap.get? a=some ob/\ob.dict=none:=by
 cases x with
 | str z =>
   obtain ⟨t,rfl⟩:=r;cases (show T="str" from ty);exact ⟨typeIs_str s z t,fun _ e=>nomatch e⟩
 | int i =>
   obtain ⟨t,rfl⟩:=r;cases (show T="int" from ty);exact ⟨typeIs_int s i t,fun _ e=>nomatch e⟩
 | ref p =>
   cases r;rcases ty with ⟨rfl,xs,hq⟩|⟨rfl,o,hk,hc,hd⟩|⟨rfl,hk⟩|⟨rfl,S,n,hk⟩
   . obtain ⟨its,_,pl,_⟩:=I.list hq;refine ⟨pl.isList.typeIs,fun a e=>?_⟩;cases e;obtain ⟨o,n,e,c,hd,_⟩:=pl;exact ⟨o,e,hd⟩
   . refine ⟨⟨o,I.kIn p o hk,hc⟩,fun a e=>?_⟩;cases e;exact ⟨o,I.kIn _ o hk,hd⟩
   . have z:∃ o,s.heap.get? p=some o/\o.ExactDict:=by
       rcases hk with ⟨kvs,hk⟩|⟨kvs,hk⟩
       . obtain ⟨_,_,_,_,o,_,_,e,ex,_⟩:=I.hok p _ hk;exact ⟨o,e,ex⟩
       . obtain ⟨_,_,_,_,o,_,_,e,ex,_⟩:=I.hok p _ hk;exact ⟨o,e,ex⟩
     obtain ⟨o,e,ex⟩:=z;refine ⟨⟨o,e,ex.1⟩,fun a e2=>?_⟩;cases e2;exact ⟨o,e,ex.2.1⟩
   . obtain ⟨o,_,_,_,e,ex,_⟩:=I.hok p _ hk;refine ⟨⟨o,e,ex.1⟩,fun a e2=>?_⟩;cases e2;exact ⟨o,e,ex.2.1⟩
 | _=>exact False.elim ty
def UR (K:PySem.W.Frag) (T:String) (r:V->List V->Hp->VK->Prop) (to:TE):TE:=fun σ H Q=>to σ H fun x H1=>tyV K T x H1/\r x [] H1 Q
def tBM (K:PySem.W.Frag) (T:String) (r:V->List V->Hp->VK->Prop) (to:TE) (t:TA):TE:=fun σ H Q=>to σ H fun x H1=>tyV K T x H1/\t σ H1 fun xs H2=>r x xs H2 Q
variable {o e:Expr} {es:List Expr} {to:TE} {t:TA} {name:Str} {apos cpos:Pos} {T id:String} {r:V->List V->Hp->VK->Prop}
theorem Kg (pa:PlainAttrs T) (slot:Slot T name id) (hty:typeOf (.builtin id)=pure (.type "method_descriptor")) (hm:MtR X id r) (ho:PE X o to)
   (hbase:attributeBase o name X.env (eval o X.env)=eval o X.env:=by rfl) (hline:(apos.endLine == cpos.line)=true:=by rfl):PE X (.Call (.Attribute o name apos) [] [] cpos) (UR X.K T r to):=by
 intro pins s σ H Q I h;refine wpAny_Call_method0_late hbase hline (bT (ho pins s σ H _ I h) fun v s1 x H1 I1 r1 ⟨ty,q1⟩=>?_);obtain ⟨h1,h2⟩:=QV I1 r1 ty;exact ⟨T,id,pa,slot,hty,h1,h2,Calls.callWith_builtin rfl (PySem.evalArgs_none (hm pins s1 σ H1 x [] v [] Q I1 r1 .nil q1))⟩
theorem mx (pa:PlainAttrs T) (slot:Slot T name id) (hty:typeOf (.builtin id)=pure (.type "method_descriptor")) (hm:MtR X id r) (ho:PE X o to) (ha:PA X (e::es) t)
   (hbase:attributeBase o name X.env (eval o X.env)=eval o X.env:=by rfl)
   (hfew:((backTo cpos (starEach (e::es) X.env)).all (fun x=>!x.1) && (backToKw cpos (keywordEach [] X.env)).all (fun x=>x.1.isSome)
     && decide ((e::es).length+([]:List Keyword).length+(if ([]:List Keyword).isEmpty then 0 else 1)<30))=true:=by rfl)
   (hline:(apos.endLine == cpos.line)=true:=by rfl) (hs:starEach (e::es) X.env=(false,eval e X.env)::starEach es X.env:=by rfl) (hplain:(backTo cpos (starEach es X.env)).any (·.1)=false:=by rfl) :
   PE X (.Call (.Attribute o name apos) (e::es) [] cpos) (tBM X.K T r to t):=by
 intro pins s σ H Q I h;refine wpAny_Call_method_late hbase hfew hline rfl (bT (ho pins s σ H _ I h) fun v s1 x H1 I1 r1 ⟨ty,q1⟩=>?_);obtain ⟨h1,h2⟩:=QV I1 r1 ty;refine ⟨T,id,pa,slot,hty,h1,h2,?_⟩;have hA:=ha cpos pins s1 σ H1 _ I1 q1;rw [hs] at hA ⊢;refine Calls.callWith_builtin (by show (false || (backTo cpos (starEach es X.env)).any (·.1))=false;rw [hplain] <;> rfl) (Calls.evalArgs_plain ?_);exact thn hA fun us s2 ⟨vs,H2,I2,r2,q2⟩=>hm pins s2 σ H2 x vs v us Q I2 r1 r2 q2
end
end L2
namespace L2
open PySem PySem.Spec PyProof.Rows
def MtM (X:Cx) (id:String) (r:V->List V->Hp->VK->Prop):Prop :=
 ∀ (pins:List (Addr × Obj)) (s:Shared) (σ:St) (H:Hp) (x:V) (xs:List V) (v:Value) (us:List Value) (Q:VK),Inv X pins σ H s->RelV x v->Vals xs us->r x xs H Q ->
   wpAny (model X.prog X.w) X.A (call (.builtin id) (v::us)) (EP X pins σ Q) X.xe s
theorem Vals.one {x:V} {us:List Value} (h:Vals [x] us):∃ u,us=[u]/\RelV x u:=by
 cases h with
 | cons r t=>cases t;exact ⟨_,rfl,r⟩
theorem Vals.two {x y:V} {us:List Value} (h:Vals [x,y] us):∃ u v,us=[u,v]/\RelV x u/\RelV y v:=by
 cases h with
 | cons r t =>
   obtain ⟨v,e,q⟩:=Vals.one t;subst e;exact ⟨_,v,rfl,r,q⟩
theorem Vals.zero:∀ {us:List Value},Vals [] us->us=[]
 | _,.nil=>rfl
theorem Vals.dropLast {xs:List V} {us:List Value} (h:Vals xs us):Vals xs.dropLast us.dropLast:=by
 induction h with
 | nil=>exact .nil
 | cons r t ih =>
   cases t with
   | nil=>exact .nil
   | cons q t'=>exact .cons r ih
theorem Vals.rep {xs:List V} {us:List Value} (h:Vals xs us):∀ k:Nat,Vals (List.replicate k xs).flatten (List.replicate k us).flatten
 | 0=>.nil
 | k+1=>by
   rw [List.replicate_succ,List.replicate_succ,List.flatten_cons,List.flatten_cons];exact Vals.append h (Vals.rep h k)
theorem Pu {α:Type} (l:List α):l.eraseIdx (l.length - 1)=l.dropLast:=by
 induction l with
 | nil=>rfl
 | cons a r ih =>
   cases r with
   | nil=>rfl
   | cons b r =>
     have e:(a::b::r).length - 1=((b::r).length - 1)+1:=by
       have h1:(a::b::r).length=r.length+2:=rfl;have h2:(b::r).length=r.length+1:=rfl;omega
     rw [e,List.eraseIdx_cons_succ,ih]
     all_goals rfl
theorem G1 (its:List Value):∀ (k:Nat) (acc:List Value),
   List.foldl (fun x1 x2=>x1++x2) acc.toArray (List.replicate k its.toArray)=(acc++(List.replicate k its).flatten).toArray
 | 0,acc=>by simp
 | k+1,acc=>by
   have e:acc.toArray++its.toArray=(acc++its).toArray:=by simp
   have e2:(acc++its)++(List.replicate k its).flatten=acc++(List.replicate (k+1) its).flatten:=by
     rw [List.replicate_succ,List.flatten_cons,List.append_assoc]
   rw [<- e2,<- G1 its k (acc++its),<- e,List.replicate_succ,List.foldl_cons]
section
variable {X:Cx} {pins:List (Addr × Obj)} {σ:St} {H:Hp} {s:Shared} {l b:Addr} {xs ys zs:List V}
theorem Inv.lset {its its':List Value} {n:Nat} {f:Array Value->Array Value} {t':Nat} (I:Inv X pins σ H s) (hH:H l=some (.lst xs))
   (e:s.heap.get? l=some { cls:=.type "list",data:=.seq its.toArray n }) (hf:f its.toArray=its'.toArray) (hv:Vals ys its') (hz:ys.length<=sizeLine) :
   Inv X pins σ (upd H l (.lst ys)) { s with heap:=s.heap.update l (Obj.mapSeq f),toks:=t' }:=by
 have q:=PySem.IsL.update e f;rw [hf] at q;refine I.write (x:=l) (e:=l) (by rw [hH];exact trivial) (.inl rfl) (fun b' u hb hu=>(Heap.get?_update_other s.heap (Obj.mapSeq f) (Ne.symm hb)).trans hu) ⟨_,q⟩ ?_;exact ⟨hz,its',_,hv,q⟩
theorem Inv.lnew {its:List Value} {t':Nat} (I:Inv X pins σ H s) (hv:Vals ys its) (hz:ys.length<=sizeLine) :
   Inv X pins σ (upd H s.heap.objs.size (.lst ys)) { s with heap:=s.heap.push { cls:=.type "list",data:=.seq its.toArray },toks:=t' } :=
 I.laid (fun _ _ q=>Heap.get?_push_of_some _ q) (Nat.le_refl _) ⟨hz,its,0,hv,Heap.get?_push_size _ rfl⟩
theorem Inv.fresh (I:Inv X pins σ H s):H s.heap.objs.size=none:=I.hok.fresh (Nat.le_refl _)
theorem Inv.lstM (I:Inv X pins σ H s) (hH:H l=some (.lst xs)):xs.length<=sizeLine/\∃ (its:List Value) (n:Nat),Vals xs its/\xs.length=its.length/\s.heap.get? l=some { cls:=.type "list",data:=.seq its.toArray n }:=by
 obtain ⟨z,its,n,r,e⟩:=I.hok l _ hH;exact ⟨z,its,n,r,r.length,e⟩
theorem Sn {n:Nat} (h:n<=sizeLine):Builtin.List.listTooLong n=false:=by
 unfold Builtin.List.listTooLong;exact decide_eq_false (by omega)
end
section
variable {X:Cx}
def rAppend:V->List V->Hp->VK->Prop:=fun x vs H Q=>∃ l xs y,x=.ref l/\vs=[y]/\H l=some (.lst xs)/\xs.length<sizeLine/\Q .non (upd H l (.lst (xs++[y])))
theorem eW:MtM X "list.append" rAppend:=by
 intro pins s σ H x vs v us Q I rx rv h;obtain ⟨l,xs,y,rfl,rfl,hH,hz,q⟩:=h;cases rx;obtain ⟨u,rfl,ru⟩:=rv.one;obtain ⟨z,its,n,r,hl,e⟩:=I.lstM hH;refine call_meets F.slot_list_append ⟨_,e,rfl⟩ F.entry_list_append (F.args_list_append_2 _ _) (PySem.list_append l its.toArray n u (by rw [List.size_toArray];omega)) ⟨e,?_⟩;refine ⟨.non,_,I.lset (its':=its++[u]) hH e (by simp) (r.append (.cons ru .nil)) ?_,rfl,q⟩;rw [List.length_append,List.length_singleton];omega
def rPop:V->List V->Hp->VK->Prop:=fun x vs H Q=>∃ l xs y,x=.ref l/\vs=[]/\H l=some (.lst xs)/\xs[xs.length - 1]?=some y/\Q y (upd H l (.lst xs.dropLast))
theorem Ll:MtM X "list.pop" rPop:=by
 intro pins s σ H x vs v us Q I rx rv h;obtain ⟨l,xs,y,rfl,rfl,hH,hy,q⟩:=h;cases rx;have hus:=rv.zero;subst hus;obtain ⟨z,its,n,r,hl,e⟩:=I.lstM hH;obtain ⟨u,hu,ru⟩:=r.get hy;have hy':its.toArray[its.toArray.size - 1]?=some u:=by
   show its.toArray[its.length - 1]?=some u;rw [<- Array.getElem?_toList,<- hl];exact hu
 refine call_meets F.slot_list_pop ⟨_,e,rfl⟩ F.entry_list_pop (F.args_list_pop_1 _) (MeetsSeq.list_pop_last l its.toArray n u hy' (by rw [List.size_toArray];omega)) ⟨e,?_⟩;refine ⟨y,_,I.lset (its':=its.dropLast) hH e ?_ r.dropLast ?_,ru,q⟩
 . show its.toArray.eraseIdxIfInBounds (its.toArray.size - 1)=its.dropLast.toArray;rw [List.size_toArray,List.eraseIdxIfInBounds_toArray,Pu]
 . rw [List.length_dropLast];omega
def rCat:R2:=fun x y H Q=>∃ l b xs zs,x=.ref l/\y=.ref b/\H l=some (.lst xs)/\H b=some (.lst zs)/\xs.length+zs.length<=sizeLine/\∀ p,H p=none->Q (.ref p) (upd H p (.lst (xs++zs)))
theorem Xm:OpR X (binaryOp .Add) rCat:=by
 intro pins s σ H x y v u Q I rx ry h;obtain ⟨l,b,xs,zs,rfl,rfl,hH,hB,hz,q⟩:=h;cases rx;cases ry;obtain ⟨z,its,n,r,hl,e⟩:=I.lstM hH;obtain ⟨z2,its2,n2,r2,hl2,e2⟩:=I.lstM hB;refine PySem.P.add_list e e2 ?_ (by rw [List.size_toArray,List.size_toArray];omega);have ea:its.toArray++its2.toArray=(its++its2).toArray:=by simp
 rw [ea];exact ⟨.ref _,_,I.lnew (t':=s.toks) (r.append r2) (by rw [List.length_append];omega),rfl,q _ I.fresh⟩
def rRep:R2:=fun x y H Q=>∃ l k xs,x=.ref l/\y=.int k/\H l=some (.lst xs)/\-(2^63)<=k/\k<2^63/\xs.length*k.toNat<=sizeLine /\
 ∀ p,H p=none->Q (.ref p) (upd H p (.lst (List.replicate k.toNat xs).flatten))
theorem VU {α:Type} (xs:List α) (k:Nat):(List.replicate k xs).flatten.length=k*xs.length:=by
 induction k with
 | zero=>simp
 | succ k ih=>rw [List.replicate_succ,List.flatten_cons,List.length_append,ih,Nat.succ_mul,Nat.add_comm]
theorem xY:OpR X (binaryOp .Mult) rRep:=by
 intro pins s σ H x y v u Q I rx ry h;obtain ⟨l,k,xs,rfl,rfl,hH,h1,h2,hz,q⟩:=h;cases rx;obtain ⟨t,rfl⟩:=ry;obtain ⟨z,its,n,r,hl,e⟩:=I.lstM hH;have hlen:its.toArray.size*k.toNat<=sizeLine:=by rw [List.size_toArray,<- hl];exact hz
 have hcap:¬ its.toArray.size*k.toNat > (2^63 - 1) / 8:=by
   have:(sizeLine:Nat)<=(2^63 - 1) / 8:=by decide
   omega
 have hfit:¬ (!Builtin.List.listFitsIndex k)=true:=by
   rw [fitsIndex_both h1 h2];exact Bool.false_ne_true
 have hlong:¬ Builtin.List.listTooLong (its.toArray.size*k.toNat)=true:=by
   rw [Sn hlen];exact Bool.false_ne_true
 have hnew:List.foldl (fun x1 x2=>x1++x2) #[] (List.replicate (if its.toArray.isEmpty=true then 0 else k.toNat) its.toArray)=(List.replicate k.toNat its).flatten.toArray:=by
   have f0:∀ m:Nat,List.foldl (fun x1 x2=>x1++x2) #[] (List.replicate m its.toArray)=(List.replicate m its).flatten.toArray:=fun m=>by
     have:=G1 its m [];rw [List.nil_append] at this;exact this
   rw [f0];cases its with
   | nil=>simp
   | cons a r'=>rw [if_neg (by simp)]
 refine wpAny_binaryOp_repeat_ref (T:="list") (U:="int") (by decide) ⟨_,e,rfl⟩ (fun s'=>typeIs_int s' k t) noFill_list_mul F.fills_int_mul F.slot_int_rmul repeat_list F.slot_int_index.lookup
   (call_meets F.slot_int_rmul (typeIs_int s k t) F.entry_int_rmul (F.args_int_rmul_2 _ _) (int___rmul___int_list k t l its.toArray n)
     ⟨e,rfl,⟨_,e,rfl⟩,call_meets F.slot_list_mul ⟨_,e,rfl⟩ F.entry_list_mul (F.args_list_mul_2 _ _) (AutoListH.list___mul___list_int_3 l its.toArray n k t hfit hcap hlong) ⟨e,?_⟩⟩)
 rw [hnew];exact ⟨.ref _,_,I.lnew (t':=s.toks) (r.rep k.toNat) (by rw [VU,Nat.mul_comm];exact hz),rfl,q _ I.fresh⟩
end
section
variable {prog:Program} {w:World} {A:Around} {E:Value->Shared->Prop} {s:Shared}
set_option maxRecDepth 100000 in
end
section
variable {X:Cx}
end
end L2
namespace L2
open PySem PySem.Spec PyProof.Rows
section
variable {κ:Type} [DecidableEq κ]
def eo (kvs:List (κ × V)) (k:κ):Option V:=(kvs.find? fun kv=>decide (kv.1=k)).map (·.2)
def fD (kvs:List (κ × V)) (k:κ) (v:V):List (κ × V) :=
 if (kvs.any fun kv=>decide (kv.1=k))=true then kvs.map (fun kv=>if kv.1=k then (kv.1,v) else kv) else kvs++[(k,v)]
theorem gC {p:κ × V} {r:List (κ × V)} {k:κ} (e:p.1=k):eo (p::r) k=some p.2:=by simp [eo,List.find?_cons,e]
theorem gF {p:κ × V} {r:List (κ × V)} {k:κ} (e:¬ p.1=k):eo (p::r) k=eo r k:=by simp [eo,List.find?_cons,e]
theorem ue (k:κ):∀ kvs:List (κ × V),(kvs.any fun kv=>decide (kv.1=k))=(eo kvs k).isSome
 | []=>rfl
 | p::r=>by
   rw [List.any_cons];by_cases e:p.1=k
   . simp only [gC e,decide_eq_true e,Bool.true_or,Option.isSome_some]
   . rw [gF e,decide_eq_false e,Bool.false_or];exact ue k r
theorem JW (k j:κ) (y:V):∀ kvs:List (κ × V),eo (kvs.map fun kv=>if kv.1=k then (kv.1,y) else kv) j=(eo kvs j).map fun x=>if j=k then y else x
 | []=>rfl
 | p::r=>by
   have ih:=JW k j y r;rw [List.map_cons];by_cases h:p.1=k
   . rw [if_pos h];by_cases e:p.1=j
     . rw [gC (p:=(p.1,y)) e,gC e,Option.map_some,if_pos (e.symm.trans h)]
     . rw [gF (p:=(p.1,y)) e,gF e,ih]
   . rw [if_neg h];by_cases e:p.1=j
     . rw [gC (p:=p) e,gC e,Option.map_some,if_neg (fun z=>h (e.trans z))]
     . rw [gF (p:=p) e,gF e,ih]
theorem Go (k j:κ) (y:V):∀ kvs:List (κ × V),eo kvs k=none->eo (kvs++[(k,y)]) j=if j=k then some y else eo kvs j
 | [],_=>by
   by_cases e:k=j
   . rw [if_pos e.symm];exact gC (p:=(k,y)) e
   . rw [if_neg (fun z=>e z.symm)];exact gF (p:=(k,y)) e
 | p::r,hn=>by
   rw [List.cons_append];have hk:¬ p.1=k:=fun z=>by rw [gC z] at hn;cases hn
   rw [gF hk] at hn;have ih:=Go k j y r hn;by_cases e:p.1=j
   . rw [gC e,gC e,if_neg (fun z=>hk (e.trans z))]
   . rw [gF e,gF e,ih]
theorem Lr (kvs:List (κ × V)) (k j:κ) (y:V):eo (fD kvs k y) j=if j=k then some y else eo kvs j:=by
 unfold fD;by_cases a:(kvs.any fun kv=>decide (kv.1=k))=true
 . rw [if_pos a,JW];rw [ue] at a;by_cases e:j=k
   . obtain ⟨x,hx⟩:=Option.isSome_iff_exists.mp a;rw [if_pos e,e,hx,Option.map_some,if_pos rfl]
   . rw [if_neg e];cases eo kvs j with
     | none=>rfl
     | some x=>rw [Option.map_some,if_neg e]
 . rw [if_neg a];refine Go k j y kvs ?_;rw [ue] at a;cases q:eo kvs k with
   | none=>rfl
   | some x=>rw [q] at a;exact (a rfl).elim
theorem ni (kvs:List (κ × V)) (k:κ) (v:V):(fD kvs k v).length<=kvs.length+1:=by
 unfold fD;split
 . rw [List.length_map];omega
 . rw [List.length_append,List.length_cons,List.length_nil];omega
theorem RM {kvs:List (κ × V)} {k:κ} (v:V) (h:eo kvs k=none):fD kvs k v=kvs++[(k,v)]:=by
 unfold fD;rw [ue,h];exact if_neg (by decide)
theorem RelO.isSome_eq {o:Option V} {u:Option Value} (r:RelO o u):o.isSome=u.isSome:=by
 cases o with
 | none=>cases u with
   | none=>rfl
   | some _=>exact (show False from r).elim
 | some _=>cases u with
   | none=>exact (show False from r).elim
   | some _=>rfl
theorem KV.val {kvs:List (κ × V)} {vs:List (κ × Value)} (r:KV kvs vs) (k:κ):RelO (eo kvs k) (valueAt vs k):=by
 unfold KV at r
 induction r with
 | nil=>exact True.intro
 | @cons p q ps qs h t ih =>
   obtain ⟨h1,h2⟩:=h;by_cases e:p.1=k
   . have e':q.1=k:=h1.symm.trans e;have b:valueAt (q::qs) k=some q.2:=(by simp [valueAt,List.find?_cons,e']);rw [gC e,b];exact h2
   . have e':¬ q.1=k:=fun z=>e (h1.trans z);have b:valueAt (q::qs) k=valueAt qs k:=(by simp [valueAt,List.find?_cons,e']);rw [gF e,b];exact ih
theorem KV.any {kvs:List (κ × V)} {vs:List (κ × Value)} (r:KV kvs vs) (k:κ):(kvs.any fun kv=>decide (kv.1=k))=vs.any fun kv=>decide (kv.1=k):=by
 unfold KV at r
 induction r with
 | nil=>rfl
 | cons h t ih=>rw [List.any_cons,List.any_cons,ih,h.1]
theorem KV.repl {kvs:List (κ × V)} {vs:List (κ × Value)} (r:KV kvs vs) (k:κ) {y:V} {u:Value} (ry:RelV y u) :
   KV (kvs.map fun kv=>if kv.1=k then (kv.1,y) else kv) (vs.map fun kv=>if kv.1=k then (kv.1,u) else kv):=by
 unfold KV at r ⊢
 induction r with
 | nil=>exact .nil
 | @cons p q ps qs h t ih =>
   rw [List.map_cons,List.map_cons];refine .cons ?_ ih;obtain ⟨h1,h2⟩:=h;by_cases e:p.1=k
   . rw [if_pos e,if_pos (h1.symm.trans e)];exact ⟨h1,ry⟩
   . rw [if_neg e,if_neg (fun z=>e (h1.trans z))];exact ⟨h1,h2⟩
theorem KV.put {kvs:List (κ × V)} {vs:List (κ × Value)} (r:KV kvs vs) (k:κ) {y:V} {u:Value} (ry:RelV y u):KV (fD kvs k y) (stored vs k u):=by
 unfold fD stored;rw [r.any k];by_cases e:(vs.any fun kv=>decide (kv.1=k))=true
 . rw [if_pos e,if_pos e];exact r.repl k ry
 . rw [if_neg e,if_neg e];exact Paired.snoc r ⟨rfl,ry⟩
theorem KV.length {kvs:List (κ × V)} {vs:List (κ × Value)} (r:KV kvs vs):kvs.length=vs.length:=Paired.length r
end
theorem B3 {P:Program} {w:World} {k:Key} {u:Value} (r:RelV (kV k) u):(eV P w).is k u=true:=by
 cases k with
 | inl i=>obtain ⟨t,e⟩:=(show ∃ t,u=Value.int i t from r);subst e;exact Mx P w i t
 | inr x=>obtain ⟨t,e⟩:=(show ∃ t,u=Value.str x t from r);subst e;exact L6 P w x t
theorem Gs {P:Program} {w:World}:∀ {ks:List Key} {us:List Value},Vals (ks.map kV) us->ItemsAre (eV P w) ks us
 | [],_,r=>by rw [List.map_nil] at r;cases r;exact .nil
 | k::ks,_,r=>by
   rw [List.map_cons] at r;cases r with
   | cons h t=>exact .cons (B3 h) (Gs t)
abbrev KT (H:Hp):List (List Key × V)->List (List Key × Addr × Value)->Prop:=Paired fun p q=>p.1=q.1/\H q.2.1=some (.tup (p.1.map kV))/\RelV p.2 q.2.2
theorem KT.val {H:Hp} {kvs:List (List Key × V)} {xs:List (List Key × Addr × Value)} (r:KT H kvs xs) (k:List Key):RelO (eo kvs k) ((atKey xs k).map (·.2)):=by
 induction r with
 | nil=>exact True.intro
 | @cons p q ps qs h t ih =>
   obtain ⟨h1,_,h2⟩:=h;by_cases e:p.1=k
   . have e':q.1=k:=h1.symm.trans e;have b:atKey (q::qs) k=some q.2:=(by simp [atKey,List.find?_cons,e']);rw [gC e,b];exact h2
   . have e':¬ q.1=k:=fun z=>e (h1.trans z);have b:atKey (q::qs) k=atKey qs k:=(by simp [atKey,List.find?_cons,e']);rw [gF e,b];exact ih
theorem KT.repl {H:Hp} {kvs:List (List Key × V)} {xs:List (List Key × Addr × Value)} (r:KT H kvs xs) (k:List Key) {y:V} {u:Value} (ry:RelV y u) :
   KT H (kvs.map fun kv=>if kv.1=k then (kv.1,y) else kv) (xs.map (putAt k u)):=by
 induction r with
 | nil=>exact .nil
 | @cons p q ps qs h t ih =>
   rw [List.map_cons,List.map_cons];refine .cons ?_ ih;obtain ⟨h1,h2,h3⟩:=h;unfold putAt;by_cases e:p.1=k
   . rw [if_pos e,if_pos (h1.symm.trans e)];exact ⟨h1,h2,ry⟩
   . rw [if_neg e,if_neg (fun z=>e (h1.trans z))];exact ⟨h1,h2,h3⟩
theorem KT.put {H:Hp} {kvs:List (List Key × V)} {xs:List (List Key × Addr × Value)} (r:KT H kvs xs) (k:List Key) {b:Addr} {y:V} {u:Value} (hb:H b=some (.tup (k.map kV))) (ry:RelV y u) :
   KT H (fD kvs k y) (storedH xs k b u):=by
 have e:(kvs.any fun kv=>decide (kv.1=k))=(atKey xs k).isSome:=by
   rw [ue,(r.val k).isSome_eq,Option.isSome_map]
 unfold fD storedH;rw [e];by_cases q:(atKey xs k).isSome=true
 . rw [if_pos q,if_pos q];exact r.repl k ry
 . rw [if_neg q,if_neg q];exact Paired.snoc r ⟨rfl,hb,ry⟩
theorem KT.keeps {H H':Hp} {kvs:List (List Key × V)} {xs:List (List Key × Addr × Value)} (r:KT H kvs xs) (ht:∀ b ys,H b=some (.tup ys)->H' b=some (.tup ys)):KT H' kvs xs :=
 Paired.mapP r fun _ _ z=>⟨z.1,ht _ _ z.2.1,z.2.2⟩
section
variable {P:Program} {w:World} {H:Hp} {h:Heap} {a:Addr}
theorem UZ {u:HO} (ok:HOk P w H h) (e:Rd H a u):ObjOk P w H h a u:=e.ok ok
theorem BW {kvs:List (Key × V)} (ok:HOk P w H h) (e:Rd H a (.dK kvs)):kvs.length<=sizeLine/\(a == sysModules)=false/\∃ vs,KV kvs vs/\h.DictOf (eV P w) a vs :=
 show ObjOk P w H h a (.dK kvs) from UZ ok e
theorem UU {kvs:List (Key × V)} (ok:HOk P w H h) (e:H a=some (.dK kvs)):kvs.length<=sizeLine/\(a == sysModules)=false/\∃ vs,KV kvs vs/\h.DictOf (eV P w) a vs:=BW ok (.inl e)
theorem Bf {ks:List Key} (ok:HOk P w H h) (e:H a=some (.tup (ks.map kV))):(tupleKind (eV P w)).is h ks a:=by
 obtain ⟨_,its,r,o,h1,h2,n,h3⟩:=(show ObjOk P w H h a (.tup (ks.map kV)) from ok a _ e);exact ⟨o,its.toArray,n,h1,h2,h3,by simpa using Gs r⟩
theorem Ek {kvs:List (List Key × V)} (ok:HOk P w H h) (e:Rd H a (.dT kvs)):kvs.length<=sizeLine/\(a == sysModules)=false /\
   ∃ xs,KT H kvs xs/\h.DictOfH (tupleKind (eV P w)) a xs:=by
 obtain ⟨z,y,xs,r,o,es,ep,h1,h2,h3,h4,h5⟩:=(show ObjOk P w H h a (.dT kvs) from UZ ok e);refine ⟨z,y,xs,r,o,es,ep,h1,h2,h3,h4,fun x hx=>?_,h5⟩;have all:∀ {l:List (List Key × V)} {m:List (List Key × Addr × Value)},KT H l m->∀ x∈m,(tupleKind (eV P w)).is h x.1 x.2.1:=by
   intro l m q
   induction q with
   | nil=>intro x hx;exact nomatch hx
   | @cons p q ps qs hq t ih =>
     intro x hx;rcases List.mem_cons.mp hx with e|hx
     . subst e;exact Bf ok (by rw [<- hq.1];exact hq.2.1)
     . exact ih x hx
 exact all r x hx
theorem XZ {kvs:List (List Key × V)} (ok:HOk P w H h) (e:H a=some (.dT kvs)):kvs.length<=sizeLine/\(a == sysModules)=false /\
   ∃ xs,KT H kvs xs/\h.DictOfH (tupleKind (eV P w)) a xs:=Ek ok (.inl e)
end
def DGet (H:Hp) (a:Addr) (y:V) (r:Option V):Prop :=
 (∃ kvs k,Rd H a (.dK kvs)/\y=kV k/\r=eo kvs k)\/∃ kvs k b,Rd H a (.dT kvs)/\y=.ref b/\H b=some (.tup (k.map kV))/\r=eo kvs k
def DPut (H:Hp) (a:Addr) (y v:V) (H':Hp):Prop :=
 (∃ kvs k,H a=some (.dK kvs)/\y=kV k/\kvs.length<sizeLine/\H'=upd H a (.dK (fD kvs k v))) \/
 ∃ kvs k b,H a=some (.dT kvs)/\y=.ref b/\H b=some (.tup (k.map kV))/\kvs.length<sizeLine/\H'=upd H a (.dT (fD kvs k v))
theorem DGet.k {H:Hp} {a:Addr} {kvs:List (Key × V)} {k:Key} (e:H a=some (.dK kvs)):DGet H a (kV k) (eo kvs k):=.inl ⟨kvs,k,.inl e,rfl,rfl⟩
theorem DGet.t {H:Hp} {a b:Addr} {kvs:List (List Key × V)} {k:List Key} (e:H a=some (.dT kvs)) (eb:H b=some (.tup (k.map kV))):DGet H a (.ref b) (eo kvs k):=.inr ⟨kvs,k,b,.inl e,rfl,eb,rfl⟩
theorem DPut.k {H:Hp} {a:Addr} {kvs:List (Key × V)} {k:Key} {v:V} (e:H a=some (.dK kvs)) (hl:kvs.length<sizeLine):DPut H a (kV k) v (upd H a (.dK (fD kvs k v))):=.inl ⟨kvs,k,e,rfl,hl,rfl⟩
theorem DPut.t {H:Hp} {a b:Addr} {kvs:List (List Key × V)} {k:List Key} {v:V} (e:H a=some (.dT kvs)) (eb:H b=some (.tup (k.map kV))) (hl:kvs.length<sizeLine) :
   DPut H a (.ref b) v (upd H a (.dT (fD kvs k v))):=.inr ⟨kvs,k,b,e,rfl,eb,hl,rfl⟩
section
variable {X:Cx} {pins:List (Addr × Obj)} {σ:St} {H:Hp} {s:Shared} {a:Addr} {y v:V} {u r:Value} {o:Option V} {A:Around} {E:Value->Shared->Prop}
theorem Inv.big (I:Inv X pins σ H s):sysModules<s.heap.objs.size:=by
 have h:mainGlobals<s.heap.objs.size:=(I.mod.glob.keeps I.bk).lt;exact Nat.lt_trans (by decide) h
theorem Qe {Q:Value->Shared->Prop} (hu:A.units+1<cLine) (I:Inv X pins σ H s) (g:DGet H a y (some v)) (ry:RelV y u) (h:∀ w' s',Inv X pins σ H s'->RelV v w'->Q w' s') :
   wpAny (model X.prog X.w) A (getItem (.ref a) u) Q E s:=by
 rcases g with ⟨kvs,k,e,ey,l⟩|⟨kvs,k,b,e,ey,eb,l⟩
 . subst ey;obtain ⟨z,hd,vs,rel,dd⟩:=BW I.hok e;obtain ⟨w',hw,rw'⟩:=RelO.some_of (v:=v) (o:=valueAt vs k) (by rw [l];exact rel.val k);exact wpAny_getItem_of (B3 ry) dd.mapOf hw (h w' _ (I.tok _) rw')
 . subst ey;cases (show u=Value.ref b from ry);obtain ⟨z,hd,xs,rel,dd⟩:=Ek I.hok e;obtain ⟨w',hw,rw'⟩:=RelO.some_of (v:=v) (o:=(atKey xs k).map (·.2)) (by rw [l];exact rel.val k);obtain ⟨p,hp,hp2⟩:=Option.map_eq_some_iff.mp hw;refine wpAny_getItem_heap (tupleKind_room_in1 hu) (Bf I.hok eb) dd hp ?_;rw [hp2];exact h w' _ (I.tok _) rw'
theorem Yp {Q:Value->Shared->Prop} (hu:A.units+1<cLine) (I:Inv X pins σ H s) (g:DGet H a y o) (ry:RelV y u) (h:∀ s',Inv X pins σ H s'->Q (.bool o.isSome) s') :
   wpAny (model X.prog X.w) A (compareOp .In u (.ref a)) Q E s:=by
 rcases g with ⟨kvs,k,e,ey,l⟩|⟨kvs,k,b,e,ey,eb,l⟩
 . subst ey;obtain ⟨z,hd,vs,rel,dd⟩:=BW I.hok e;refine wpAny_in_of (B3 ry) hd dd.mapOf ?_;rw [<- (rel.val k).isSome_eq,<- l];exact h _ (I.tok _)
 . subst ey;cases (show u=Value.ref b from ry);obtain ⟨z,hd,xs,rel,dd⟩:=Ek I.hok e;refine wpAny_in_heap (tupleKind_room_in1 hu) (Bf I.hok eb) hd dd ?_;have q:=(rel.val k).isSome_eq;rw [Option.isSome_map] at q;rw [<- q,<- l];exact h _ (I.tok _)
theorem VH {Q:Value->Shared->Prop} (hu:A.units+1<cLine) (I:Inv X pins σ H s) (g:DGet H a y o) (ry:RelV y u) (h:∀ s',Inv X pins σ H s'->Q (.bool (!o.isSome)) s') :
   wpAny (model X.prog X.w) A (compareOp .NotIn u (.ref a)) Q E s:=by
 rcases g with ⟨kvs,k,e,ey,l⟩|⟨kvs,k,b,e,ey,eb,l⟩
 . subst ey;obtain ⟨z,hd,vs,rel,dd⟩:=BW I.hok e;refine wpAny_notIn_of (B3 ry) hd dd.mapOf ?_;rw [<- (rel.val k).isSome_eq,<- l];exact h _ (I.tok _)
 . subst ey;cases (show u=Value.ref b from ry);obtain ⟨z,hd,xs,rel,dd⟩:=Ek I.hok e;refine wpAny_notIn_heap (tupleKind_room_in1 hu) (Bf I.hok eb) hd dd ?_;have q:=(rel.val k).isSome_eq;rw [Option.isSome_map] at q;rw [<- q,<- l];exact h _ (I.tok _)
theorem F6 {h':Heap} {t':Nat} {ob:HO} (I:Inv X pins σ H s) (mu:Mut (H a)) (hs:Heap.SameBut a s.heap h') (he:∃ q,h'.get? a=some q) (new:ObjOk X.prog X.w (upd H a ob) h' a ob) :
   Inv X pins σ (upd H a ob) { s with heap:=h',toks:=t' } :=
 I.write (x:=a) (e:=a) mu (.inl rfl) (fun b q hb z=>(hs.2 b hb).trans z) he new
theorem Ql {P:Program} {w:World} {H':Hp} {h':Heap} {kvs:List (Key × V)} {vs:List (Key × Value)} (z:kvs.length<=sizeLine) (hd:(a == sysModules)=false) (rel:KV kvs vs) (dd:h'.DictOf (eV P w) a vs) :
   ObjOk P w H' h' a (.dK kvs):=⟨z,hd,vs,rel,dd⟩
theorem P5 {H':Hp} {Q:Unit->Shared->Prop} (hu:A.units+1<cLine) (I:Inv X pins σ H s) (g:DPut H a y v H') (ry:RelV y u) (rv:RelV v r) (h:∀ s',Inv X pins σ H' s'->Q () s') :
   wpAny (model X.prog X.w) A (setItem (.ref a) u r) Q E s:=by
 rcases g with ⟨kvs,k,e,ey,l,eH⟩|⟨kvs,k,b,e,ey,eb,l,eH⟩
 . subst ey eH;obtain ⟨z,hd,vs,rel,dd⟩:=UU I.hok e;have hz:vs.length<=sizeLine:=by rw [<- rel.length];exact z
   have hl:(fD kvs k v).length<=sizeLine:=by have:=ni kvs k v;omega
   refine wpAny_setItem_pairs (hsz:=hz) (B3 ry) dd fun h' dd' hs=>h _ ?_;have he:∃ q,h'.get? a=some q:=let ⟨q,_,_,hq,_⟩:=dd';⟨q,hq⟩;exact F6 I (by rw [e];exact True.intro) hs he (Ql hl hd (rel.put k rv) dd')
 . subst ey eH;cases (show u=Value.ref b from ry);obtain ⟨z,hd,xs,rel,dd⟩:=XZ I.hok e;have hz:xs.length<=sizeLine:=by rw [<- Paired.length rel];exact z
   have hl:(fD kvs k v).length<=sizeLine:=by have:=ni kvs k v;omega
   refine wpAny_setItem_heap (hsz:=hz) (tupleKind_room_in1 hu) (Bf I.hok eb) dd fun h' dd' hs=>h _ ?_;obtain ⟨q,es,ep,hq,h2,h3,h4,_,h5⟩:=dd';refine F6 I (by rw [e];exact True.intro) hs ⟨q,hq⟩ ⟨hl,hd,_,(rel.put k eb rv).keeps fun c ys ec=>?_,q,es,ep,hq,h2,h3,h4,h5⟩;rw [ao (im ec e (fun z=>nomatch z))];exact ec
end
section
variable {X:Cx} {pins:List (Addr × Obj)} {σ:St} {H:Hp} {s:Shared} {a:Addr} {kvs:List (Key × V)} {k:Key} {u:Value} {A:Around} {E:Value->Shared->Prop}
theorem X1 {Q:Value->Shared->Prop} (I:Inv X pins σ H s) (e:Rd H a (.dK kvs)) (h:∀ t s',Inv X pins σ H s'->Q (.int kvs.length t) s'):wpAny (model X.prog X.w) A (call (.builtin "len") [.ref a]) Q E s:=by
 obtain ⟨z,hd,vs,rel,dd⟩:=BW I.hok e;refine call_len_dict hd dd (by rw [<- rel.length];rw [sizeLine_eq] at z;omega) ?_;rw [<- rel.length];exact h _ _ (I.tok _)
end
def WY (i:Expr):Prop:=∀ ov iv,subscripted i false ov iv=operate [ov,iv] (getItem ov iv)
theorem Vq {prog:Program} {w:World} {A:Around} {E:Value->Shared->Prop} {s:Shared} {env:Env} {value slice:Expr} {pos:Pos} {T id:String} {Q:Value->Shared->Prop}
   (hl:typeLookup (.type T) "__getitem__"=pure (some (.builtin id))) (hs:WY slice)
   (h:wpAny (model prog w) A (eval value env) (fun o s₁=>wpAny (model prog w) A (eval slice env) (fun i s₂=>s₂.TypeIs o T/\wpAny (model prog w) A (getItem o i) Q E s₂) E s₁) E s) :
   wpAny (model prog w) A (eval (.Subscript value slice pos) env) Q E s:=by
 refine Subscript_ (wpAny_mono h (fun o s₁ h₁=>wpAny_mono h₁ (fun i s₂ h₂=>?_) fun _ _ x=>x) fun _ _ x=>x);obtain ⟨hT,h₂⟩:=h₂;unfold subscriptTail;refine wpAny_bind ?_;rw [getitemInPython_of_ne hT.not_modules];refine wpAny_bind (wpAny_specialOf hT hl ?_);have fin:wpAny (model prog w) A (subscripted slice false o i) (fun r s₃=>wpAny (model prog w) A (letTemporaryGo value o r >>= fun _=>pure r) Q E s₃) E s₂:=by
   rw [hs o i];exact wpAny_operating (wpAny_mono h₂ (fun r s₃ h₃=>wpAny_bind (wpAny_letTemporaryGo (wpAny_pure h₃))) fun _ _ x=>x)
 first
   | exact wpAny_pure (wpAny_bind fin)
   | exact wpAny_bind (wpAny_pure (wpAny_bind fin))
   | exact wpAny_bind fin
theorem MH {X:Cx} {pins:List (Addr × Obj)} {σ:St} {H:Hp} {s:Shared} {a:Addr} {y:V} {o:Option V} (I:Inv X pins σ H s) (g:DGet H a y o):s.TypeIs (.ref a) "dict":=by
 rcases g with ⟨kvs,k,e,_,_⟩|⟨kvs,k,b,e,_,_,_⟩
 . obtain ⟨_,_,vs,_,dd⟩:=BW I.hok e;exact dd.typeIs
 . obtain ⟨_,_,xs,_,dd⟩:=Ek I.hok e;exact dd.typeIs
def PD (td ty:TE):TE:=fun σ H Q=>td σ H fun x H1=>ty σ H1 fun y H2=>∃ a v,x=.ref a/\DGet H2 a y (some v)/\Q v H2
def RP (ty td:TE):TE:=fun σ H Q=>ty σ H fun y H1=>td σ H1 fun x H2=>∃ a o,x=.ref a/\DGet H2 a y o/\Q (.bl o.isSome) H2
def FX (ty td:TE):TE:=fun σ H Q=>ty σ H fun y H1=>td σ H1 fun x H2=>∃ a o,x=.ref a/\DGet H2 a y o/\Q (.bl (!o.isSome)) H2
def Px (td ty tv:TE):TS:=fun D σ H=>tv σ H fun v H1=>td σ H1 fun x H2=>ty σ H2 fun y H3=>∃ a H4,x=.ref a/\DPut H3 a y v H4/\D.nx σ H4
section
variable {X:Cx} {o i e value:Expr} {pos pos' tpos:Pos} {td ty tv:TE}
theorem NA (hu:X.A.units+1<cLine) (ho:PE X o td) (hi:PE X i ty) (hs:WY i):PE X (.Subscript o i pos) (PD td ty):=by
 intro pins s σ H Q I h;refine Vq PySem.F.slot_dict_getitem.lookup hs (bT (ho pins s σ H _ I h) fun u s1 x H1 I1 rx q1=>bT (hi pins s1 σ H1 _ I1 q1) fun iv s2 y H2 I2 ry ⟨a,v,ex,g,q2⟩=>?_);subst ex;obtain rfl:u=Value.ref a:=rx;exact ⟨MH I2 g,Qe hu I2 g ry fun w' s3 I3 rw'=>⟨v,H2,I3,rw',q2⟩⟩
theorem XQ (hu:X.A.units+1<cLine) (hi:PE X i ty) (ho:PE X o td):PC X .In i o (RP ty td):=by
 intro pins s σ H Q I h;refine bT (hi pins s σ H _ I h) fun iv s1 y H1 I1 ry q1=>bT (ho pins s1 σ H1 _ I1 q1) fun u s2 x H2 I2 rx ⟨a,ov,ex,g,q2⟩=>?_;subst ex;obtain rfl:u=Value.ref a:=rx;exact Yp hu I2 g ry fun s3 I3=>⟨.bl ov.isSome,H2,I3,rfl,q2⟩
theorem Q0 (hu:X.A.units+1<cLine) (hi:PE X i ty) (ho:PE X o td):PC X .NotIn i o (FX ty td):=by
 intro pins s σ H Q I h;refine bT (hi pins s σ H _ I h) fun iv s1 y H1 I1 ry q1=>bT (ho pins s1 σ H1 _ I1 q1) fun u s2 x H2 I2 rx ⟨a,ov,ex,g,q2⟩=>?_;subst ex;obtain rfl:u=Value.ref a:=rx;exact VH hu I2 g ry fun s3 I3=>⟨.bl (!ov.isSome),H2,I3,rfl,q2⟩
theorem Gg (hu:X.A.units+1<cLine) (ho:PE X o td) (hi:PE X i ty) (hv:PE X value tv) (hs:swapsWith value (some (.Subscript o i pos')) pos.line X.env=pure false) :
   PS X (.Assign [.Subscript o i pos'] value pos) (Px td ty tv):=by
 intro pins s σ H D I h;refine wpAny_Assign_Subscript (bT (hv pins s σ H _ I h) fun r s1 v H1 I1 rv q1=>bT (ho pins s1 σ H1 _ I1 q1) fun u s2 x H2 I2 rx q2=>bT (hi pins s2 σ H2 _ I2 q2) fun iv s3 y H3 I3 ry ⟨a,H4,ex,g,q3⟩=>?_) hs;subst ex;obtain rfl:u=Value.ref a:=rx;exact P5 hu I3 g ry rv fun s4 I4=>⟨σ,H4,I4,q3⟩
end
theorem RH {P:Program} {w:World} {H:Hp} (h:Heap) (hb:sysModules<h.objs.size):ObjOk P w H (h.push { cls:=.type "dict",data:=.dict #[] }) h.objs.size (.dK []) :=
 ⟨Nat.zero_le _,beq_eq_false_iff_ne.mpr (Ne.symm (Nat.ne_of_lt hb)),[],.nil,Heap.DictOf.new h⟩
theorem SC {P:Program} {w:World} {H:Hp} (h:Heap) (hb:sysModules<h.objs.size):ObjOk P w H (h.push { cls:=.type "dict",data:=.dict #[] }) h.objs.size (.dT []) :=
 ⟨Nat.zero_le _,beq_eq_false_iff_ne.mpr (Ne.symm (Nat.ne_of_lt hb)),[],.nil,_,#[],0,Heap.get?_push_size _ rfl,⟨rfl,rfl,rfl⟩,rfl,rfl,List.nodup_nil⟩
def Qj:TE:=fun _ H Q=>∀ p,H p=none->Q (.ref p) (upd H p (.dK []))
def tDNewT:TE:=fun _ H Q=>∀ p,H p=none->Q (.ref p) (upd H p (.dT []))
section
variable {X:Cx} {pos:Pos}
theorem UQ:PE X (.Dict [] [] pos) tDNewT:=fun pins s σ H Q I h =>
 wpAny_Dict_empty ⟨.ref s.heap.objs.size,_,I.laid (a:=s.heap.objs.size) (o:=.dT []) (t':=s.toks) (fun _ _ q=>Heap.get?_push_of_some _ q) (Nat.le_refl _) (SC s.heap I.big),rfl,h _ (I.hok.fresh (Nat.le_refl _))⟩
end
def xN:List (TE × TE)->St->Hp->(List (V × V)->Hp->Prop)->Prop
 | [],_,H,Q=>Q [] H
 | (tk,tv)::r,σ,H,Q=>tk σ H fun x H1=>tv σ H1 fun y H2=>xN r σ H2 fun ps H3=>Q ((x,y)::ps) H3
abbrev VV:List (V × V)->List (Value × Value)->Prop:=Paired fun p q=>RelV p.1 q.1/\RelV p.2 q.2
def PPs (X:Cx) (pos:Pos) (keys:List (Option Expr)) (values:List Expr) (trs:List (TE × TE)):Prop :=
 ∀ (pins:List (Addr × Obj)) (s:Shared) (σ:St) (H:Hp) (Q:List (V × V)->Hp->Prop),Inv X pins σ H s->xN trs σ H Q ->
   wpAny (model X.prog X.w) X.A (evalPairs (pairTrees keys values X.env pos)) (fun vs s'=>∃ ps H',Inv X pins σ H' s'/\VV ps vs/\Q ps H') X.xe s
theorem Wh {X:Cx} {pos:Pos}:PPs X pos [] [] []:=fun pins s σ H Q I h=>pairTrees_nil_walk ⟨[],H,I,.nil,h⟩
theorem TZ {X:Cx} {pos:Pos} {k v:Expr} {ks:List (Option Expr)} {vs:List Expr} {tk tv:TE} {trs:List (TE × TE)} (hk:PE X k tk) (hv:PE X v tv) (hr:PPs X pos ks vs trs) :
   PPs X pos (some k::ks) (v::vs) ((tk,tv)::trs):=fun pins s σ H Q I h =>
 pairTrees_cons_walk (bT (hk pins s σ H _ I h) fun u s1 x H1 I1 rx q1=>bT (hv pins s1 σ H1 _ I1 q1) fun w2 s2 y H2 I2 ry q2 =>
   thn (hr pins s2 σ H2 _ I2 q2) fun ws s3 ⟨ps,H3,I3,rel,q3⟩=>⟨(x,y)::ps,H3,I3,.cons ⟨rx,ry⟩ rel,q3⟩)
def ya (kvs more:List (Key × V)):List (Key × V):=more.foldl (fun acc kv=>fD acc kv.1 kv.2) kvs
theorem KV.merge:∀ {more:List (Key × V)} {rs:List (Key × Value)} {kvs:List (Key × V)} {vs:List (Key × Value)},KV more rs->KV kvs vs->KV (ya kvs more) (merged vs rs):=by
 intro more rs kvs vs r;unfold KV at r
 induction r generalizing kvs vs with
 | nil=>intro q;exact q
 | @cons p q ps qs h t ih =>
   intro r0;have e:KV (fD kvs p.1 p.2) (stored vs q.1 q.2):=by
     have:=r0.put p.1 h.2;rw [<- h.1];exact this
   exact ih e
theorem zK:∀ (more kvs:List (Key × V)),(ya kvs more).length<=kvs.length+more.length
 | [],kvs=>by show kvs.length<=kvs.length+0;omega
 | p::r,kvs=>by
   have h1:=zK r (fD kvs p.1 p.2);have h2:=ni kvs p.1 p.2;show (ya (fD kvs p.1 p.2) r).length<=_;rw [List.length_cons];omega
theorem Eg {P:Program} {w:World}:∀ {kvs:List (Key × V)} {ws:List (Value × Value)},VV (kvs.map fun kv=>(kV kv.1,kv.2)) ws->∃ rs,Carries (eV P w) ws rs/\KV kvs rs
 | [],_,r=>by rw [List.map_nil] at r;cases r;exact ⟨[],True.intro,.nil⟩
 | p::kvs,_,r=>by
   rw [List.map_cons] at r;cases r with
   | @cons a b as bs h t =>
     obtain ⟨rs,c,q⟩:=Eg (P:=P) (w:=w) t;obtain ⟨b1,b2⟩:=b;exact ⟨(p.1,b2)::rs,⟨B3 h.1,rfl,c⟩,.cons ⟨rfl,h.2⟩ q⟩
def OX (trs:List (TE × TE)):TE:=fun σ H Q=>∀ p,H p=none->xN trs σ (upd H p (.dK [])) fun ps H2=>H2 p=some (.dK [])/\∃ kvs:List (Key × V),ps=kvs.map (fun kv=>(kV kv.1,kv.2))/\kvs.length<=15/\Q (.ref p) (upd H2 p (.dK (ya [] kvs)))
theorem VW {X:Cx} {pos:Pos} {keys:List (Option Expr)} {values:List Expr} {trs:List (TE × TE)} (h:PPs X pos keys values trs) (hall:keys.all (·.isSome)=true) (hl:keys.length=values.length) (h0:keys≠[])
   (h15:keys.length<=15):PE X (.Dict keys values pos) (OX trs):=by
 intro pins s σ H Q I q;have hn:=I.hok.fresh (Nat.le_refl s.heap.objs.size);have I1:=I.laid (a:=s.heap.objs.size) (o:=.dK []) (h':=s.heap.push { cls:=.type "dict",data:=.dict #[] }) (t':=s.toks) (fun _ _ q=>Heap.get?_push_of_some _ q) (Nat.le_refl _) (RH s.heap I.big);refine wpAny_Dict_walk (knd:=eV X.prog X.w) hall hl h0 h15 (thn (h pins _ σ _ _ I1 (q _ hn)) fun ws s2 ⟨ps,H2,I2,rel,e,kvs,ep,lk,q2⟩=>?_);subst ep;obtain ⟨rs,c,rk⟩:=Eg (P:=X.prog) (w:=X.w) rel;obtain ⟨z,hd,vs0,r0,dd⟩:=UU I2.hok e;cases r0;refine ⟨rs,c,dd,fun h' dd' hs=>⟨.ref s.heap.objs.size,_,?_,rfl,q2⟩⟩;have hz:(ya [] kvs).length<=sizeLine:=by
   have h1:=zK kvs [];rw [List.length_nil] at h1;rw [sizeLine_eq];omega
 have he:∃ q,h'.get? s.heap.objs.size=some q:=let ⟨q,_,_,hq,_⟩:=dd';⟨q,hq⟩;exact F6 I2 (by rw [e];exact True.intro) hs he (Ql hz hd (rk.merge .nil) dd')
section
variable {X:Cx} {pins:List (Addr × Obj)} {σ:St} {H:Hp} {s:Shared} {a:Addr} {y d:V} {u r:Value} {o:Option V} {A:Around} {E:Value->Shared->Prop}
end
section
variable {X:Cx} {o e f:Expr} {apos cpos:Pos} {td ty tx:TE}
end
section
variable {X:Cx} {pins:List (Addr × Obj)} {σ:St} {H:Hp} {s:Shared} {a:Addr} {kvs:List (Key × V)} {A:Around} {E:Value->Shared->Prop}
end
section
variable {X:Cx} {pins:List (Addr × Obj)} {σ:St} {H:Hp} {s:Shared} {a:Addr} {y:V} {u:Value} {A:Around} {E:Value->Shared->Prop}
end
end L2
namespace Att
open PySem PySem.W PySem.Calls PyProof.Rows
theorem EK {P:Params} {h:Heap}:∀ (ns:List Int) (vs:List Value),WellAll P h vs (ns.map WData.int)->IntsAre vs ns:=by
 intro ns
 induction ns with
 | nil =>
   intro vs w;rw [List.map_nil] at w;cases w;exact .nil
 | cons n ns ih =>
   intro vs w;rw [List.map_cons] at w;cases w with
   | cons a b =>
     cases a;exact .cons _ _ (ih _ b)
theorem Re {l:OpenLaw} {n:Nat} (hn:l.most=some n) {P:Params} {h:Heap} {args:List WData} {vals:List Value}
   (hpre:l.row.toRowW.claim.pre args=true) (hwl:WellAll P h vals args) :
   ∃ a vs ns,vals=[Value.ref a]/\args=[WData.list (ns.map WData.int)]/\h.get? a=some { cls:=.type "list",data:=.seq vs.toArray }/\IntsAre vs ns/\ns.length<=n:=by
 have hsh:WShape.hasAll [] args [.list .int]=true:=(pre_splitW hpre).1;have hc:l.pre.holds [] { args:=args }=true:=(pre_splitW hpre).2;obtain ⟨d,r,rfl,h1,h2⟩:=hasAllW_cons hsh;obtain rfl:=hasAllW_nil h2;obtain ⟨xs,rfl,h3⟩:=hasW_list h1;obtain ⟨ns,rfl⟩:=items_int h3;have hlen:ns.length<=n:=by
   unfold OpenLaw.pre at hc;have h4:(WTm.not (.lt (.lit (.int (n:Int))) (.len (.arg 0)))).holds [] { args:=[.list (ns.map .int)] }=true:=by
     have h4:=(holds_andW hc).1;rw [hn] at h4;exact h4
   have h5:=condW_of h4 (w_not (w_lt w_lit (w_len_list (w_arg rfl))));rw [List.length_map] at h5;refine Nat.le_of_not_lt fun q=>?_;have q':(n:Int)<((ns.length:Nat):Int):=by omega
   first
     | (rw [decide_eq_true q'] at h5;exact absurd h5 (by decide))
     | (simp at h5;omega)
 cases hwl with
 | cons w1 w2 =>
   cases w2;cases w1 with
   | list ho hall=>exact ⟨_,_,ns,rfl,rfl,ho,EK ns _ hall,hlen⟩
theorem Ro (l:OpenLaw) (args:List WData):l.row.toRowW.claim.post args (.bool true) args=true :=
 postW_of (r:=l.row.toRowW) (X:=(true == true))
   (show WShape.has [] (.bool true) .bool=true by first|rfl|decide|simp [WShape.has,WShape.arms,WShape.armsAll])
   (show (WTm.eq .res (.lit (.bool true))).value [] { args:=args,res:=some (.bool true),after:=args }=some (.bool (true == true)) from w_eq_bool (w_res rfl) w_lit) rfl
theorem attach_call {l:OpenLaw} {n:Nat} {q:Program} {loose:List Str} {XP:(Str->Option Value)->Heap->Prop} {YP:World->Heap->Prop} {d:DefRec}
   (hn:l.most=some n) (hdf:d.params.defaults=[])
   (call:∀ (w:World) (s₀ s₁:Shared) (mg mb:Str->Option Value) (fa:Addr) (o:Obj) (pm cd doc:Value) (a:Addr) (vs:List Value) (ns:List Int),
     Ground q loose [] XP w s₀ mg mb s₁.heap->YP w s₁.heap ->
     s₁.heap.get? fa=some o->o.data=.func (docDef d.name d.params d.body d.scope pm cd doc)->s₁.heap.CodeRec cd d.name->mg d.name=some (.ref fa) ->
     s₁.heap.get? a=some { cls:=.type "list",data:=.seq vs.toArray }->IntsAre vs ns->ns.length<=n->s₁.gens=#[] ->
     codeAny (model l.prog w) callerA (.call (.ref fa) ⟨[.ref a],[]⟩) (fun r s'=>r=.ok (.ret (.bool true))/\OldK s₁.heap s'.heap/\s'.os=s₁.os/\AllBare s'.gens) s₁) :
   WalkO q loose XP YP l.row.toRowW d [] (fun f vs=>PySem.call f vs):=by
 intro w s₀ s₁ mg mb G Y fa o pm cd doc dV kV ho hd hcd hD hmg hg args vals as hpre hlay hrd hwl hlo;obtain rfl:dV=.none:=Dflts.none hD hdf;obtain rfl:kV=.none:=Dflts.noKw hD;obtain ⟨a,vs,ns,rfl,rfl,hobj,hints,hlen⟩:=Re hn hpre hwl;refine enter_call (codeAny_mono (call w s₀ s₁ mg mb fa o pm cd doc a vs ns G Y ho (fd_plain hd) hcd hmg hobj hints hlen hg) fun r s' hq=>?_);obtain ⟨rfl,h2,h3,h4⟩:=hq;exact ⟨.inl ⟨.bool true,.bool true,[],rfl,fun _=>rfl,.bool true,Ro l _,fun _=>⟨List.Pairwise.nil,fun _ hm=>(nomatch hm)⟩⟩,h2,h3,h4⟩
section
variable {prog:Program} {w:World} {A:Around} {E:Value->Shared->Prop} {s:Shared} {K:Frag}
end
end Att
namespace L2
open PySem PySem.Spec PyProof.Rows
theorem Gq:∀ {vs:List Value} {ns:List Int},IntsAre vs ns->Vals (ns.map V.int) vs
 | _,_,.nil=>.nil
 | _,_,.cons n t h=>.cons ⟨t,rfl⟩ (Gq h)
def RI (H:Hp):Prop:=∀ b,H b=none\/∃ o xs,H b=some (.frz o (.lst xs))
theorem Tr {P:Program} {w:World} {K:PySem.W.Frag} {mg mb:Str->Option Value} {CX:CXT} {k:Nat} {fa a:Addr} {fd:FuncData} {x:Str} {sp:Sp} {s₁:Shared} {vs:List Value} {ns:List Int}
   (KX:K.In s₁.heap) (hns:s₁.heap.Ns mainGlobals mg) (hb:s₁.heap.Ns builtinsNs mb) (hbb:∀ x:Str,x≠"__name__"->mb x=bootBuiltins x) (hlim:s₁.heap.NoLimit) (hg:s₁.gens=#[])
   (ha:s₁.heap.get? a=some { cls:=.type "list",data:=.seq vs.toArray }) (hi:IntsAre vs ns) (hl:ns.length<=sizeLine) (hr:Room k callerA)
   (F:∀ base:Heap,K.In base->base.Ns mainGlobals mg->FnOk P w K mg base CX k fa fd [x] sp) (hbind:∀ (s:Shared) (u:Value),BindsTo s fd ⟨[u],[]⟩ [(x,u)])
   (hsp:∀ H:Hp,RI H->SqL K H a (ns.map V.int)->sp [.ref a] H (fun v _=>v=.bl true) fun _ _ _=>False)
   (hCX:∀ H e s',CX [] H s₁ (fun _ _ _=>False) e s'->False) :
   codeAny (model P w) callerA (.call (.ref fa) ⟨[.ref a],[]⟩) (fun r s'=>r=.ok (.ret (.bool true))/\OldK s₁.heap s'.heap/\s'.os=s₁.os/\AllBare s'.gens) s₁:=by
 have rv:=Gq hi;have lenV:=hi.length;have core:∀ H:Hp,RI H->SqL K H a (ns.map V.int)->HOk P w H s₁.heap->(∀ b,H b≠none->b=a)->(H a≠none->K.lookup a=none) ->
     codeAny (model P w) callerA (.call (.ref fa) ⟨[.ref a],[]⟩) (fun r s'=>r=.ok (.ret (.bool true))/\OldK s₁.heap s'.heap/\s'.os=s₁.os/\AllBare s'.gens) s₁:=by
   intro H hO hS hok hA hK;have base_of:∀ {b:Addr} {o:Obj},s₁.heap.get? b=some o->H b=none->(yF s₁.heap H).get? b=some o:=fun e n=>R5 e n;have noA:∀ {b:Addr} {o:Obj} {es:Array DictEntry} {ep:Nat},s₁.heap.get? b=some o->o.data=.dict es ep->H b=none:=fun {b o es ep} e d=>by
     cases q:H b with
     | none=>rfl
     | some u =>
       have e':b=a:=hA b (by rw [q];simp);subst e';rw [ha] at e;cases e;have d':Data.seq vs.toArray _=Data.dict es ep:=d;cases d'
   have nsK:∀ {b:Addr} {m:Str->Option Value},s₁.heap.Ns b m->(yF s₁.heap H).Ns b m:=fun {b m} ⟨o,es,ep,e,d,r⟩=>⟨o,es,ep,base_of e (noA e d),d,r⟩;have hKb:K.In (yF s₁.heap H):=fun b o e=>base_of (KX b o e) (by
     cases q:H b with
     | none=>rfl
     | some u =>
       have e':b=a:=hA b (by rw [q];simp);subst e';rw [hK (by rw [q];simp)] at e;cases e)
   have hM:Mod K mg (yF s₁.heap H):=⟨hKb,nsK hns,⟨mb,nsK hb,hbb⟩,let ⟨mc,h1,h2⟩:=hlim;⟨mc,nsK h1,h2⟩⟩;have e0:Env0 P w K mg (yF s₁.heap H) callerA [] s₁ H:=⟨rfl,hM,fun b o e=>VY e,Nat.le_of_eq (Qh _ _),trivial,fun b hb=>absurd (show b∈([]:List Addr) from hb) (by simp),hok,.of_eq hg⟩;refine codeAny_mono ((F _ hKb (nsK hns)).run callerA [] s₁ H ⟨[.ref a],[]⟩ [.ref a] [.ref a] _ _ hr e0 (hbind s₁ (.ref a)) (.cons rfl .nil) (hsp H hO hS)) fun r s' h=>?_;cases r with
   | error e=>exact (hCX H e s' h).elim
   | ok fl =>
     cases fl with
     | next=>exact False.elim h
     | brk=>exact False.elim h
     | cont=>exact False.elim h
     | ret u =>
       obtain ⟨v,H',os,bare,un,hok',r',q⟩:=h;have q':v=.bl true:=q;subst q';obtain rfl:u=Value.bool true:=r';refine ⟨rfl,OldK.of_keep fun b o e=>?_,os,bare⟩;cases q:H b with
       | none=>exact un.keep b o e q (by intro z;exact absurd (show b∈([]:List Addr) from z) (by simp)) (by simp)
       | some u =>
         rcases hO b with z|⟨ob,xs,z⟩
         . rw [q] at z;cases z
         . have z2:=un.frzs b ob _ z;obtain ⟨e1,_⟩:=hok b _ z;obtain ⟨e2,_⟩:=hok' b _ z2;rw [e] at e1;cases e1;exact e2
 cases hk:K.lookup a with
 | some o =>
   have e:=KX a o hk;rw [ha] at e;cases e;refine core (fun _=>none) (fun _=>.inl rfl) (.inr ⟨_,vs.toArray,_,hk,rfl,rfl,rfl,by rw [List.size_toArray,lenV];exact hl,by simpa using rv⟩) (fun b u z=>by have z':(none:Option HO)=some u:=z;cases z') (fun b z=>absurd rfl z) fun z=>absurd rfl z
 | none =>
   refine core (fun b=>if b=a then some (.frz { cls:=.type "list",data:=.seq vs.toArray } (.lst (ns.map V.int))) else none) (fun b=>?_) (.inl (.inr ⟨{ cls:=.type "list",data:=.seq vs.toArray },if_pos rfl⟩)) (fun b u z=>?_) (fun b z=>?_) fun _=>hk
   . by_cases hb:b=a
     . exact .inr ⟨_,_,if_pos hb⟩
     . exact .inl (if_neg hb)
   . by_cases hb:b=a
     . have z':=(if_pos hb).symm.trans z;cases z';subst hb;exact ⟨ha,by rw [List.length_map];exact hl,vs,_,rv,ha⟩
     . have z':=(if_neg hb).symm.trans z;cases z'
   . by_cases hb:b=a
     . exact hb
     . exact absurd (if_neg hb) z
end L2
namespace L2
open PySem PySem.Spec PyProof.Rows
theorem walk_of {l:PySem.W.OpenLaw} {n k:Nat} {q:Program} {loose:List Str} {XP:(Str->Option Value)->Heap->Prop} {YP:World->Heap->Prop} {d:DefRec} {K:Params->PySem.W.Frag} {CX:World->CXT} {sp:World->Sp} {x:Str}
   (hn:l.most=some n) (hn2:n<=sizeLine) (hdf:d.params.defaults=[]) (hr:Room k callerA)
   (hY:∀ (w:World) (h:Heap),YP w h->(K w.params).In h)
   (F:∀ (w:World) (mg:Str->Option Value) (fa:Addr) (h:Heap),(K w.params).In h->h.Ns mainGlobals mg->mg d.name=some (.ref fa) ->
     ∃ fd:FuncData,(∀ (s:Shared) (u:Value),BindsTo s fd ⟨[u],[]⟩ [(x,u)]) /\
       ∀ base:Heap,(K w.params).In base->base.Ns mainGlobals mg->FnOk l.prog w (K w.params) mg base (CX w) k fa fd [x] (sp w))
   (hsp:∀ (w:World) (H:Hp) (a:Addr) (ns:List Int),ns.length<=n->RI H->SqL (K w.params) H a (ns.map V.int)->sp w [.ref a] H (fun v _=>v=.bl true) fun _ _ _=>False)
   (hCX:∀ (w:World) (H:Hp) (s:Shared) (e:Value) (s':Shared),CX w [] H s (fun _ _ _=>False) e s'->False) :
   PySem.W.WalkO q loose XP YP l.row.toRowW d [] (fun f vs=>PySem.call f vs):=by
 refine Att.attach_call hn hdf fun w s₀ s₁ mg mb fa o pm cd doc a vs ns G Y ho hd hcd hmg hobj hints hlen hg=>?_;have KX:=hY w _ Y;obtain ⟨fd,hb,hF⟩:=F w mg fa _ KX G.T.g hmg;exact Tr KX G.T.g G.T.b G.T.builtins G.T.nolimit hg hobj hints (Nat.le_trans hlen hn2) hr hF hb (fun H hO hS=>hsp w H a ns hlen hO hS) fun H e s'=>hCX w H s₁ e s'
end L2
namespace L2
open PySem PySem.Spec PyProof.Rows
def Vu (s:Stmt) (j:Nat):Stmt:=match s with
 | .ClassDef _ _ _ body _ _ _ _ _ _ _=>body.getD j (.Pass ⟨0,0,0,0⟩)
 | _=>.Pass ⟨0,0,0,0⟩
def ax (s:Stmt):Arguments:=match s with
 | .FunctionDef _ a _ _ _ _ _ _ _ _=>a
 | _=>{ posonlyargs:=[],args:=[],vararg:=none,kwonlyargs:=[],kw_defaults:=[],kwarg:=none,defaults:=[] }
def aw (s:Stmt):List Stmt:=match s with
 | .FunctionDef _ _ b _ _ _ _ _ _ _=>b
 | _=>[]
def aa (s:Stmt):Scope:=match s with
 | .FunctionDef _ _ _ _ _ _ sc _ _ _=>sc
 | _=>{ kind:=.function,names:=[],isGenerator:=false,isCoroutine:=false }
abbrev CX0:CXT:=fun _ _ _ _ _ _=>False
abbrev E0:XK:=fun _ _ _=>False
structure Fun (K:PySem.W.Frag) (x qual:Str) (st:Stmt) (f:Addr) (fd:FuncData):Prop where
 ex:∃ (oc:Value) (od:Option Addr) (kV doc pm:Value) (an:Option Addr) (cdv ct:Value) (osl:Array (Option Value)),
   fd=PySem.W.fnOf x qual (ax st) (aw st) (aa st) .none kV doc pm an cdv ct/\K.lookup f=some ⟨oc,od,.func fd,osl⟩/\PySem.W.codeIn K cdv qual=true
 kp:PySem.W.keepIn K (.ref f)=true
section
variable {P:Program} {w:World} {K:PySem.W.Frag} {mg:Str->Option Value} {base:Heap}
theorem Fun.binds {x qual:Str} {st:Stmt} {f:Addr} {fd:FuncData} {ps:List Str} (F:Fun K x qual st f fd)
   (h:∀ (kV doc pm:Value) (an:Option Addr) (cdv ct:Value) (us:List Value),us.length=ps.length->bindArgs (PySem.W.fnOf x qual (ax st) (aw st) (aa st) .none kV doc pm an cdv ct) ⟨us,[]⟩=pure (ps.zip us)):Binds K fd ps []:=by
 obtain ⟨oc,od,kV,doc,pm,an,cdv,ct,osl,rfl,lk,hcd⟩:=F.ex;exact .all (h kV doc pm an cdv ct)
theorem aG {x qual:Str} {st:Stmt} {f:Addr} {oc:Value} {od an:Option Addr} {osl:Array (Option Value)} {kV doc pm cdv ct:Value} (l:K.lookup f=some ⟨oc,od,.func (PySem.W.fnOf x qual (ax st) (aw st) (aa st) .none kV doc pm an cdv ct),osl⟩)
   (c:PySem.W.codeIn K cdv qual=true) (k:PySem.W.keepIn K (.ref f)=true):Fun K x qual st f (PySem.W.fnOf x qual (ax st) (aw st) (aa st) .none kV doc pm an cdv ct):=⟨⟨oc,od,kV,doc,pm,an,cdv,ct,osl,rfl,l,c⟩,k⟩
end
theorem EZ {A:Around} {k:Nat} (hr:Room k A):A.units+1<cLine:=Nat.lt_of_le_of_lt (Nat.add_le_add_left (by decide:1<=64) _) hr.units
section
variable {X:Cx}
theorem pv (i:Nat) {x:Str} {pos:Pos} (hN:X.N[i]?=some x:=by rfl) (hv:Vis X.env.scope x:=by first|exact Or.inl rfl|exact Or.inr (Or.inl rfl)|exact Or.inr (Or.inr rfl)) (hd:(x == ("__debug__":Str))=false:=by decide)
   (hcd:(x == ("__classdict__":Str))=false:=by decide):PE X (.Name x pos) (Be i):=Jg hN hv hd hcd
end
theorem Yn {A B:Prop} (h:B):if false=true then A else B:=by
 rw [if_neg Bool.false_ne_true];exact h
theorem X6 {A B:Prop} (h:A):if true=true then A else B:=by
 rw [if_pos rfl];exact h
def Same (H H':Hp):Prop:=∀ b o,H b=some o->H' b=some o
theorem Same.refl (H:Hp):Same H H:=fun _ _ h=>h
theorem Same.trans {H H1 H2:Hp} (a:Same H H1) (b:Same H1 H2):Same H H2:=fun c o h=>b c o (a c o h)
theorem Same.free {H H':Hp} (e:Same H H') {l:Addr} (h:H' l=Option.none):H l=Option.none:=by
 cases q:H l with
 | none=>rfl
 | some o =>
   rw [e l o q] at h;cases h
theorem Same.seq {K:PySem.W.Frag} {H H':Hp} {a:Addr} {xs:List V} (e:Same H H') (h:SqL K H a xs):SqL K H' a xs:=by
 rcases h with (h|⟨o,h⟩)|h
 . exact .inl (.inl (e _ _ h))
 . exact .inl (.inr ⟨o,e _ _ h⟩)
 . exact .inr h
end L2
namespace L2
open PySem PySem.Spec PyProof.Rows
section
variable {X:Cx}
theorem Rf:jp X (.builtin "len") (fun xs H Q=>∃ a kvs,xs=[V.ref a]/\H a=some (.dK kvs)/\Q (.int kvs.length) H):=by
 intro pins s σ H xs us Q I r h;obtain ⟨a,kvs,rfl,ha,q⟩:=h;obtain ⟨u,rfl,ru⟩:=nF r;cases ru;exact X1 I (.inl ha) fun t s' I'=>⟨.int kvs.length,H,I',⟨t,rfl⟩,q⟩
end
section
variable {κ:Type} [DecidableEq κ]
end
end L2
set_option Elab.async false
set_option linter.all false
set_option maxRecDepth 100000
namespace L2
open PySem PySem.Spec PyProof.Rows
def Cx.comp (X:Cx) (Nc:List Str) (scope:Scope) (cl:List (Str × Addr)) (C:Addr) (s₂:Shared) (H₁:Hp) (fp:List Addr):Cx where
 prog:=X.prog
 w:=X.w
 K:=X.K
 mg:=X.mg
 base:=X.base
 A:=X.A
 N:=Nc
 s₀:=s₂
 H₀:=H₁
 env:=compEnvC scope cl C X.env
 outer:=X.stack
 stack:=X.stack
 ex:=fp
 fn:=fun _=>false
 calm:=X.calm
 pn:=[]
 xe:=fun _ _=>False
structure CompTxt (X:Cx) (Nc:List Str) (own:Nat) (js:List Nat) (scope:Scope) (cl:List (Str × Addr)):Prop where
 clos:closureFor scope X.env=pure cl
 kind:scope.kind=.function
 nocell:∀ y∈scope.names,y.2≠.cell
 names:∀ y∈scope.names,y.2=.local->scope.names.lookup y.1=some .local
 cells:∀ x c,cl.lookup x=some c->X.env.cells.lookup x=some c
 has:∀ x,((relabel scope X.env).names.lookup x=some .cell\/(relabel scope X.env).names.lookup x=some .free)->∃ c,cl.lookup x=some c
 len:Nc.length=own+js.length
 outer:∀ i x,Nc[own+i]?=some x->∃ j,js[i]?=some j/\X.N[j]?=some x/\X.env.scope.names.lookup x=some .cell/\(relabel scope X.env).names.lookup x=some .cell
def gU (own:Nat) (js:List Nat) (σ:St):St:=List.replicate own none++js.map fun j=>(σ[j]?).getD none
def Og (own:Nat) (js:List Nat) (wi:TI) (g:TG) (tc:TT) (te:TE):TE:=fun σ H Q=>wi σ H fun J H1=>∀ p,H1 p=none ->
 ∃ W:Nat->Nat->List V->St->Hp->Prop,(∃ m,W 0 m [] (gU own js σ) (upd H1 p (.lst [])))/\∀ i m ys σc Hc,W i m ys σc Hc ->
   (J.stop i Hc/\Q (.ref p) Hc)\/(J.go i Hc/\∀ x H',J.yld i Hc x H'->g x σc H' fun σ2 H2=>tc σ2 H2 fun b H3 =>
     if b=true then te σ2 H3 fun y H4=>H4 p=some (.lst ys)/\ys.length<sizeLine/\∃ m',m'<m/\W (i+1) m' (ys++[y]) σ2 (upd H4 p (.lst (ys++[y])))
     else ∃ m',m'<m/\W (i+1) m' ys σ2 H3)
def PTs (X:Cx) (ifs:List Expr) (t:TT):Prop :=
 ∀ (pins:List (Addr × Obj)) (s:Shared) (σ:St) (H:Hp) (Q:Bool->Hp->Prop),Inv X pins σ H s->t σ H Q ->
   wpAny (model X.prog X.w) X.A (forIn ifs true fun c r=>if r=true then do let ok <- isTrue c X.env (eval c X.env);pure (ForInStep.yield ok) else pure (ForInStep.yield r)) (TP X pins σ Q) X.xe s
def tYes:TT:=fun _ H Q=>Q true H
theorem eU {X:Cx}:PTs X [] tYes:=fun pins s σ H Q I h=>wpAny_tests_nil ⟨H,I,h⟩
theorem yc {X:Cx} {c:Expr} {t:TT} (h:PT X c t):PTs X [c] t:=fun pins s σ H Q I q=>wpAny_tests_one (h pins s σ H Q I q)
section
variable {prog:Program} {w:World} {A:Around} {E:Value->Shared->Prop} {R:Result->Shared->Prop} {s:Shared}
theorem Cm {elt target iter:Expr} {ifs:List Expr} {scope:Scope} {pos:Pos} {it acc:Value} {env:Env} (I:Nat->Shared->Prop)
   (turn:∀ n s,I n s->wpAny (model prog w) A (pyNext it) (fun r s₁=>match r with
     | none=>R (.ok .next) s₁
     | some v=>wpAny (model prog w) A (letOwnedTupleGo target it v) (fun _ s₁'=>wpAny (model prog w) A (assign target env v) (fun _ s₂ =>
         wpAny (model prog w) A (forIn ifs true fun c r=>if r=true then do let ok <- isTrue c env (eval c env);pure (ForInStep.yield ok) else pure (ForInStep.yield r)) (fun ok s₃ =>
           if ok=true then wpAny (model prog w) A (eval elt env) (fun x s₄ =>
             wpAny (model prog w) A (call (.builtin "list.append") [acc,x]) (fun _ s₅=>∃ m,m<n/\I m s₅) (fun _ _=>False) s₄) (fun _ _=>False) s₃
           else ∃ m,m<n/\I m s₃) (fun _ _=>False) s₂) (fun _ _=>False) s₁') (fun _ _=>False) s₁) (fun _ _=>False) s)
   (n:Nat) (h:I n s) :
   codeAny (model prog w) A (.compLoop (.ListComp elt [⟨target,iter,ifs,0⟩] scope pos) 0 it acc env) R s:=by
 refine codeAny_loop rfl I (fun n s hI=>?_) n h;show wpAny _ A ((compTurn (.ListComp elt [⟨target,iter,ifs,0⟩] scope pos) 0 it acc env).onRaise (fun x=>do noteFrame x env;theTreesLotGoes x)) _ _ s;refine wpAny_noted ?_;rw [compTurn_list];refine wpAny_bind (wpAny_standAt (wpAny_bind (wpAny_mono (turn n s hI) (fun r s₁ h₁=>?_) fun _ _ h'=>h'.elim)));cases r with
 | none=>exact wpAny_pure h₁
 | some v =>
   refine wpAny_bind (wpAny_mono h₁ (fun _ s₁' h₁'=>?_) fun _ _ h'=>h'.elim);refine wpAny_bind (wpAny_mono h₁' (fun _ s₂ h₂=>wpAny_bind (wpAny_mono h₂ (fun ok s₃ h₃=>?_) fun _ _ h'=>h'.elim)) fun _ _ h'=>h'.elim);cases ok with
   | true =>
     rw [if_pos rfl] at h₃;simp only [if_true];exact wpAny_bind (wpAny_bind (wpAny_mono h₃ (fun x s₄ h₄=>wpAny_bind (wpAny_mono h₄ (fun _ s₅ h₅=>wpAny_pure (wpAny_pure ⟨rfl,h₅⟩)) fun _ _ h'=>h'.elim)) fun _ _ h'=>h'.elim))
   | false =>
     rw [if_neg Bool.false_ne_true] at h₃;simp only [Bool.false_eq_true,if_false]
     first
       | exact wpAny_pure ⟨rfl,h₃⟩
       | exact wpAny_bind (wpAny_pure (wpAny_pure ⟨rfl,h₃⟩))
end
end L2
set_option Elab.async false
set_option linter.all false
set_option maxRecDepth 100000
namespace L2
open PySem PySem.Spec PyProof.Rows
section
variable {X:Cx} {Nc:List Str} {own:Nat} {js:List Nat} {scope:Scope} {cl:List (Str × Addr)}
theorem FY {pins:List (Addr × Obj)} {σ:St} {H₁:Hp} {s₂:Shared} {C:Addr} {fp:List Addr} (T:CompTxt X Nc own js scope cl) (I:Inv X pins σ H₁ s₂) (hC:s₂.heap.objs.size<=C)
   (f1:∀ b∈fp,qR X pins H₁ b) (hlt:∀ b∈fp,b<s₂.heap.objs.size):(X.comp Nc scope cl C s₂ H₁ fp).Ok where
 mod:=I.ok.mod
 kind:=by show (relabel scope X.env).kind=_;exact T.kind
 glob:=I.ok.glob
 blt:=I.ok.blt
 above:=hC
 inj:=fun x y c h1 h2=>I.ok.inj x y c (T.cells x c h1) (T.cells y c h2)
 has:=fun x h=>T.has x h
 cab:=fun x c h=>by cases h
 hd:=I.ok.hd
 frames:=I.ok.frames
 stk:=.inl rfl
 exf:=fun b hb=>⟨Nat.ne_of_lt (Nat.lt_of_lt_of_le (hlt b hb) hC),fun x c h=>(f1 b hb).2.2.2.2.1 x c (T.cells x c h)⟩
 bs:=I.bs
 bsz:=Nat.le_trans I.ok.bsz I.sz
 noex:=fun b o e hb=>by
   rcases (f1 b hb).2.2.2.1 with z|z
   . exact I.ok.noex b o e z
   . exact absurd (Nat.lt_of_lt_of_le (Heap.lt_size (I.ok.bs b o e).1) z) (Nat.lt_irrefl _)
 exfs:=fun b hb hs=>by
   rcases List.mem_cons.mp (I.stkSub b hs) with z|z
   . exact (f1 b hb).2.1 z
   . exact (f1 b hb).2.2.1 z
 funs:=I.stack
 frf:=I.stkFree
theorem Jf {pins:List (Addr × Obj)} {σ:St} {H₁:Hp} {s₂:Shared} {C D:Addr} {fp:List Addr} {h₁:Heap} {t:Nat} {m:Str->Option Value} (T:CompTxt X Nc own js scope cl) (I:Inv X pins σ H₁ s₂) (hC:s₂.heap.objs.size<=C)
   (hD:s₂.heap.objs.size<=D) (hDC:D≠C) (f1:∀ b∈fp,qR X pins H₁ b) (hlt:∀ b∈fp,b<s₂.heap.objs.size) (old:∀ b o,s₂.heap.get? b=some o->h₁.get? b=some o) (hns:h₁.Ns C m)
   (hacc:∃ n,h₁.get? D=some { cls:=.type "list",data:=.seq ([]:List Value).toArray n }) :
   Inv (X.comp Nc scope cl C s₂ H₁ fp) [] (gU own js σ) (upd H₁ D (.lst [])) { s₂ with heap:=h₁,toks:=t }:=by
 obtain ⟨na,hacc⟩:=hacc;have cellK:∀ c v,s₂.heap.IsCell c v->h₁.IsCell c v:=fun c v ⟨o,ho,hd⟩=>⟨o,old c o ho,hd⟩;refine ⟨FY T I hC f1 hlt,rfl,I.bare,Un.laid old hD (I.hok.fresh hD),⟨m,hns,fun i x v e1 e2 e3=>?_⟩,fun x c e=>?_,?_,fun x c e=>?_,fun p hp=>(by cases hp),I.hok.laid old hD ?_,?_⟩
 . have hN:Nc[i]?=some x:=e1;have hσ:(gU own js σ)[i]?=some (some v):=e2;unfold gU at hσ;by_cases hi:i<own
   . rw [List.getElem?_append_left (by simpa using hi),List.getElem?_replicate] at hσ;simp [hi] at hσ
   . obtain ⟨k,rfl⟩:∃ k,i=own+k:=⟨i - own,by omega⟩;rw [List.getElem?_append_right (by simp)] at hσ;simp only [List.length_replicate,Nat.add_sub_cancel_left,List.getElem?_map] at hσ;obtain ⟨j,hj,hx,hk,hr⟩:=T.outer k x hN;rw [hj] at hσ;replace hσ:some (σ[j]?.getD none)=some (some v):=hσ;have hσj:σ[j]?=some (some v):=by
       cases q:σ[j]? with
       | none=>rw [q] at hσ;simp at hσ
       | some y=>rw [q] at hσ;simpa using hσ
     obtain ⟨m0,hn0,hl0⟩:=I.loc;obtain ⟨u,ru,lk⟩:=hl0 j x v hx hσj (.inr (.inl hk));refine ⟨u,ru,.inr ⟨.inl hr,?_⟩⟩;rcases lk with ⟨z,_⟩|⟨_,c,hc,hcell⟩
     . have z':X.env.scope.names.lookup x=some .local:=z;rw [hk] at z';cases z'
     . obtain ⟨c',hc'⟩:=T.has x (.inl hr);have:=T.cells x c' hc';rw [hc] at this;cases this;exact ⟨c,hc',cellK c _ hcell⟩
 . obtain ⟨v,z⟩:=I.cell x c (T.cells x c e);exact ⟨v,cellK c v z⟩
 . show upd H₁ D (.lst []) C=none;rw [ao (Ne.symm hDC)];exact I.hok.fresh hC
 . have e':=T.cells x c e;obtain ⟨v,o,ho,_⟩:=I.cell x c e';rw [ao (Nat.ne_of_lt (Nat.lt_of_lt_of_le (Heap.lt_size ho) hD))];exact I.freeC x c e'
 . exact ⟨Nat.zero_le _,[],na,.nil,hacc⟩
 . show (gU own js σ).length=Nc.length;rw [T.len];simp [gU]
theorem GO {pins:List (Addr × Obj)} {σ σc:St} {H₁ H':Hp} {s₂ s':Shared} {C:Addr} {fp:List Addr} {h':Heap} (I:Inv X pins σ H₁ s₂) (hC:s₂.heap.objs.size<=C)
   (f1:∀ b∈fp,qR X pins H₁ b) (I':Inv (X.comp Nc scope cl C s₂ H₁ fp) [] σc H' s') (hs:Heap.SameBut C s'.heap h'):Inv X pins σ H' { s' with heap:=h' }:=by
 have u:Un (frs X.stack) fp H₁ H' s₂.heap s'.heap:=I'.base;have ne:∀ b o,s₂.heap.get? b=some o->b≠C:=fun b o e=>Nat.ne_of_lt (Nat.lt_of_lt_of_le (Heap.lt_size e) hC);have k:∀ b o,b≠C->s'.heap.get? b=some o->h'.get? b=some o:=fun b o n e=>hs.extBut b o n e;have u':Un (frs X.stack) fp H₁ H' s₂.heap h':=⟨fun b o e n hb hx=>k b o (ne b o e) (u.keep b o e n hb hx),fun b o e n hb hx=>let ⟨sl,q⟩:=u.slot b o e n hb hx;⟨sl,k b _ (ne b o e) q⟩,
   u.free,fun b o e hx=>let ⟨o',q⟩:=u.there b o e hx;⟨o',k b o' (ne b o e) q⟩,u.tups,u.frzs,u.tbls⟩
 have hfree:H' C=none:=I'.free;have hok':HOk X.prog X.w H' h':=fun a o e=>(I'.hok a o e).stay (fun b v hb q=>k b v (fun z=>by
   rcases hb with y|y
   . rw [y] at z;rw [z,hfree] at e;cases e
   . rw [z,hfree] at y;cases y) q) (fun _ q=>q) fun _ _ q=>q
 exact I.call' (s':={ s' with heap:=h' }) (ch:=fp) I'.os u' hok' I'.bare fun b hb=>⟨(f1 b hb).2.2.2.1,(f1 b hb).2.1,(f1 b hb).2.2.2.2.1,(f1 b hb).2.2.2.2.2⟩
theorem dF {elt target iter:Expr} {ifs:List Expr} {pos:Pos} {wi:TI} {g:TG} {tc:TT} {te:TE} (hc:X.calm=true) (T:CompTxt X Nc own js scope cl)
   (hi:PI X target iter wi) (hg:∀ C s₂ H₁ fp,PG (X.comp Nc scope cl C s₂ H₁ fp) target g) (ht:∀ C s₂ H₁ fp,PTs (X.comp Nc scope cl C s₂ H₁ fp) ifs tc)
   (he:∀ C s₂ H₁ fp,PE (X.comp Nc scope cl C s₂ H₁ fp) elt te) (hs:∀ x,foldedSetIterable iter X.env x=pure x:=by intro _;rfl) :
   PE X (.ListComp elt [⟨target,iter,ifs,0⟩] scope pos) (Og own js wi g tc te):=by
 intro pins s σ H Q I h;rw [eval_ListComp];refine wpAny_comprehension_free (use:=none) rfl hs T.clos T.kind T.names (thn (hi pins s σ H _ I h) fun v s1 h1=>thn h1 fun itv s2 h2=>?_);obtain ⟨it,fp,tn,J,H1,rfl,I1,Tn,st,f1,R⟩:=h2;have hfp:∀ b∈fp,b<s2.heap.objs.size:=fun b hb=>let ⟨o,e,_⟩:=Tn.obj _ _ st b hb;Heap.lt_size e;refine wpAny_newObj_type (wpAny_newFunctionEnv T.nocell (by intro y hy;simp at hy) (fun h₁ hns₁ hsb₁=>?_) T.kind);dsimp only at hns₁ hsb₁ ⊢;generalize hH2:s2.heap.push { cls:=.type "list",dict:=none,data:=.seq ([]:List Value).toArray }=H2 at hns₁ hsb₁ ⊢;have hC:H2.objs.size=s2.heap.objs.size+1:=by rw [<- hH2,Heap.size_push]
 have hDC:s2.heap.objs.size≠H2.objs.size:=by rw [hC];exact Nat.ne_of_lt (Nat.lt_succ_self _)
 have hCle:s2.heap.objs.size<=H2.objs.size:=by rw [hC];exact Nat.le_succ _
 have below:∀ b,b<s2.heap.objs.size->b≠H2.objs.size:=fun b hb=>by rw [hC];exact Nat.ne_of_lt (Nat.lt_succ_of_lt hb)
 have old:∀ b o,s2.heap.get? b=some o->h₁.get? b=some o:=fun b o e=>hsb₁.extBut b o (below b (Heap.lt_size e)) (Heap.get?_push_of_some _ (hH2 ▸ Heap.get?_push_of_some _ e));have hacc:∃ n,h₁.get? s2.heap.objs.size=some { cls:=.type "list",data:=.seq ([]:List Value).toArray n }:=⟨_,hsb₁.extBut _ _ hDC (Heap.get?_push_of_some _ (hH2 ▸ Heap.get?_push_size _ rfl))⟩;have st₁:tn 0 h₁:=Tn.keep _ _ _ st fun b _ o e=>old b o e;obtain ⟨W,⟨m0,w0⟩,turn⟩:=R s2.heap.objs.size I1.fresh;have Ic:=Jf (t:=s2.toks+([]:List (Str × Value)).length) T I1 hCle (Nat.le_refl _) hDC f1 hfp old hns₁ hacc;generalize hXc:X.comp Nc scope cl H2.objs.size s2 H1 fp=Xc at Ic;have stat:∀ {H':Hp},(∀ b∈fp,H' b=none)->∀ b∈fp,qR Xc [] H' b:=fun {H'} hn b hb=>by
   subst hXc;exact ⟨hn b hb,below b (hfp b hb),(FY T I1 hCle f1 hfp).exfs b hb,.inl hb,fun x c e=>(f1 b hb).2.2.2.2.1 x c (T.cells x c e),fun p hp=>by cases hp⟩
 have fr0:∀ b∈fp,upd H1 s2.heap.objs.size (.lst []) b=none:=fun b hb=>by
   rw [ao (Nat.ne_of_lt (hfp b hb))];exact (f1 b hb).1
 have calmc:Xc.calm=true:=by subst hXc;exact hc
 have loop:∀ s₃:Shared,s₃={ s2 with heap:=h₁,toks:=s2.toks+([]:List (Str × Value)).length } ->
     codeAny (model X.prog X.w) X.A (.compLoop (.ListComp elt [⟨target,iter,ifs,0⟩] scope pos) 0 (.ref it) (.ref s2.heap.objs.size) (compEnvC scope cl H2.objs.size X.env))
       (compPost (model X.prog X.w) X.A X.xe none (EP X pins σ Q) (.ref s2.heap.objs.size) H2.objs.size) s₃:=by
   rintro s₃ rfl;refine Cm (fun n s'=>∃ i ys σ' H',Inv Xc [] σ' H' s'/\tn i s'.heap/\(∀ b∈fp,H' b=none)/\W i n ys σ' H') ?_ m0 ⟨0,[],_,_,Ic,st₁,fr0,w0⟩;rintro n s3 ⟨i,ys,σ3,H3,I3,st3,fr3,w3⟩;rcases turn i n ys σ3 H3 w3 with ⟨stop,q⟩|⟨go,step⟩
   . subst hXc;refine thn (Tn.done (X.comp Nc scope cl H2.objs.size s2 H1 fp) rfl rfl rfl hc i [] s3 σ3 H3 _ I3 (stat fr3) st3 stop) fun r s4 ⟨hr,I4⟩=>?_;subst hr;obtain ⟨m4,hn4,_⟩:=id I4.loc;exact ⟨m4,hn4,fun h' hs'=>⟨.ref s2.heap.objs.size,H3,GO I1 hCle f1 I4 hs',rfl,q⟩⟩
   . subst hXc;refine thn (Tn.item (X.comp Nc scope cl H2.objs.size s2 H1 fp) rfl rfl rfl hc i [] s3 σ3 H3 _ I3 (stat fr3) st3 go) fun r s4 ⟨u,hr,h4⟩=>?_;subst hr;refine thn h4 fun _ s5 ⟨x,H5,I5,r5,y5,st5,fr5⟩=>?_;have I5':=I5.pinned (stat fr5) (Tn.obj _ _ st5);have back:∀ {σ7:St} {H7:Hp} {s7:Shared},Inv (X.comp Nc scope cl H2.objs.size s2 H1 fp) ([]++xK fp s5.heap) σ7 H7 s7->Inv (X.comp Nc scope cl H2.objs.size s2 H1 fp) [] σ7 H7 s7/\tn (i+1) s7.heap/\∀ b∈fp,H7 b=none:=fun {σ7 H7 s7} I7=>by
       refine ⟨I7.unpinned,Tn.keep _ _ _ st5 fun b hb o e=>(I7.pin (b,o) (List.mem_append_right _ (List.mem_append_right _ (ml hb e)))).1,fun b hb=>?_⟩;obtain ⟨o,e,d⟩:=Tn.obj _ _ st5 b hb;exact (I7.pin (b,o) (List.mem_append_right _ (List.mem_append_right _ (ml hb e)))).2.1
     refine thn (hg _ _ _ _ _ s5 σ3 H5 x u _ I5' r5 (step x H5 y5)) fun _ s6 ⟨σ6,H6,I6,q6⟩=>?_;refine FZ (ht _ _ _ _ _ s6 σ6 H6 _ I6 q6) fun ok s7 H7 I7 q7=>?_;cases ok with
     | false =>
       rw [if_neg Bool.false_ne_true] at q7 ⊢;obtain ⟨m',hm,w7⟩:=q7;obtain ⟨J1,J2,J3⟩:=back I7;exact ⟨m',hm,i+1,ys,σ6,H7,J1,J2,J3,w7⟩
     | true =>
       rw [if_pos rfl] at q7 ⊢;refine bT (he _ _ _ _ _ s7 σ6 H7 _ I7 q7) fun y s8 yv H8 I8 r8 ⟨hp8,hl8,m',hm,w8⟩=>?_;refine thn (eW _ s8 σ6 H8 (.ref s2.heap.objs.size) [yv] _ [y] (fun v' H'=>W (i+1) m' (ys++[yv]) σ6 H') I8 rfl (.cons r8 .nil) ⟨_,ys,yv,rfl,rfl,hp8,hl8,w8⟩) fun v9 s9 ⟨_,H9,I9,_,w9⟩=>?_;obtain ⟨J1,J2,J3⟩:=back I9;exact ⟨m',hm,i+1,ys++[yv],σ6,H9,J1,J2,J3,w9⟩
 exact codeAny_compStart_list (loop _ rfl) (Tn.self _ 0 _ _ _ st₁ (loop _ rfl))
end
end L2
set_option Elab.async false
set_option linter.all false
set_option maxRecDepth 100000
namespace L2
open PySem PySem.Spec PyProof.Rows
section
variable {X:Cx}
def rInsert:V->List V->Hp->VK->Prop:=fun x vs H Q=>∃ (l:Addr) (xs:List V) (i:Int) (y:V),x=.ref l/\vs=[.int i,y]/\H l=some (.lst xs)/\0<=i/\i<=xs.length/\xs.length<sizeLine/\Q .non (upd H l (.lst (xs.take i.toNat++y::xs.drop i.toNat)))
theorem Av:MtM X "list.insert" rInsert:=by
 intro pins s σ H x vs v us Q I rx rv h;obtain ⟨l,xs,i,y,rfl,rfl,hH,h0,hk,hz,q⟩:=h;cases rx;obtain ⟨u1,u2,rfl,⟨t,rfl⟩,ru⟩:=rv.two;obtain ⟨z,its,n,r,hl,e⟩:=I.lstM hH;have hn:=xG;have hf:Builtin.List.listFitsIndex i=true:=by
   unfold Builtin.List.listFitsIndex;rw [Bool.and_eq_true];exact ⟨decide_eq_true (by omega),decide_eq_true (by omega)⟩
 have hf':¬ (!Builtin.List.listFitsIndex i)=true:=by rw [hf];decide
 have hzz:its.toArray.size<=sizeLine:=by rw [List.size_toArray,<- hl];exact z
 refine call_meets PySem.F.slot_list_insert ⟨_,e,rfl⟩ PySem.F.entry_list_insert (PySem.F.args_list_insert_3 _ _ _) (PySem.AutoSeq1.list_insert_list_int_val_1 l its.toArray n i t u2 hf' hzz) ⟨e,?_⟩;refine ⟨.non,_,I.lset (its':=its.take i.toNat++u2::its.drop i.toNat) hH e ?_ ((r.take i.toNat).append (.cons ru (r.drop i.toNat))) ?_,rfl,q⟩
 . show (its.toArray.extract 0 (if i<0 then (i+(its.toArray.size:Int)).toNat else min i.toNat its.toArray.size)).push u2++its.toArray.extract (if i<0 then (i+(its.toArray.size:Int)).toNat else min i.toNat its.toArray.size)=_;have e0:(if i<0 then (i+(its.toArray.size:Int)).toNat else min i.toNat its.toArray.size)=i.toNat:=by
     rw [if_neg (by omega),List.size_toArray];omega
   rw [e0];exact PySem.W.kl_ins_eq its i.toNat u2
 . rw [List.length_append,List.length_cons,List.length_take,List.length_drop];omega
theorem eS:OpR X (binaryOp .Mult) (rI (fun i j=>IntMulOk i j) fun i j=>.int (i*j)):=opI fun i j t u s Q E h q=>PyProof.Rows.mul_int q h
def Vk (K:PySem.W.Frag):List V->Hp->VK->Prop:=fun xs H Q=>∃ x c t b,xs=[x,c]/\TyOf K H x t/\(∀ cv,RelV c cv->PySem.W.kitOne K t cv=some b)/\Q (.bl b) H
theorem kO:jp X (.builtin "isinstance") (Vk X.K):=by
 intro pins s σ H xs us Q I r h;obtain ⟨x,c,t,b,rfl,ty,hk,q⟩:=h;obtain ⟨u,cv,rfl,ru,rc⟩:=UW r;exact Qf I ru ty (hk cv rc) fun tk=>⟨.bl b,H,I.tok tk,rfl,q⟩
theorem JH (hc:X.calm=true):jp X (.builtin "all") (fun xs H Q=>∃ (p:Addr) (bs:List Bool),xs=[.ref p]/\SqL X.K H p (bs.map V.bl)/\Q (.bl (bs.all id)) H):=by
 intro pins s σ H xs us Q I r h;obtain ⟨p,bs,rfl,hp,q⟩:=h;obtain ⟨u,rfl,ru⟩:=nF r;cases ru;obtain ⟨its,rv,pl,hz⟩:=I.list hp;have hl:=pl.isList;have hlt:=pl.lt;have hh:X.A.in1.handled=none:=I.ok.hd hc;have hlen:its.length=bs.length:=by rw [<- rv.length,List.length_map]
 refine call_all_walk (wpAny_pyIter_list hl ?_);refine ⟨s.heap.objs.size,[s.heap.objs.size,p],[s.heap.objs.size],its.toArray.size,_,_,fun i=>(bs[i]?).getD true,rfl,Walks.list (A:=X.A.in1) hh _ p (Nat.ne_of_lt hlt) its.toArray,
   ⟨⟨_,Heap.get?_push_size _ rfl,rfl,rfl⟩,hl.push _⟩,fun i v s' Q' E' hP hQ=>?_,fun h' tk hk=>?_⟩
 . have hi:its[i]?=some v:=by simpa using hP
   have hib:i<bs.length:=by rw [<- hlen];exact (List.getElem?_eq_some_iff.mp hi).1
   obtain ⟨u,hu,ru⟩:=rv.get (i:=i) (x:=V.bl bs[i]) (by rw [List.getElem?_map,List.getElem?_eq_getElem hib];rfl);rw [hi] at hu;cases hu;cases ru;replace hQ:Q' (bs[i]?.getD true) s':=hQ;rw [List.getElem?_eq_getElem hib] at hQ;exact wpAny_truthy_bool hQ
 . have e:((List.range its.toArray.size).all fun i=>(bs[i]?).getD true)=bs.all id:=by
     rw [List.size_toArray,hlen];rw [Bool.eq_iff_iff,List.all_eq_true,List.all_eq_true]
     constructor
     . intro z b hb;obtain ⟨i,hi,rfl⟩:=List.getElem_of_mem hb;have:=z i (List.mem_range.mpr hi);rw [List.getElem?_eq_getElem hi] at this;exact this
     . intro z i hi;have hi':=List.mem_range.mp hi;rw [List.getElem?_eq_getElem hi'];exact z _ (List.getElem_mem hi')
   have kk:∀ b o,s.heap.get? b=some o->h'.get? b=some o:=fun b o eb=>hk b o (fun hm=>by rw [List.mem_singleton.mp hm] at eb;exact Nat.lt_irrefl _ (Heap.lt_size eb)) (Heap.get?_push_of_some _ eb);rw [e];exact ⟨.bl _,H,I.kept (t':=tk) kk,rfl,q⟩
end
mutual
inductive Deep (K:PySem.W.Frag) (H:Hp):V->PyData->Prop
 | non:Deep K H .non .none
 | bl (b:Bool):Deep K H (.bl b) (.bool b)
 | int (i:Int):Deep K H (.int i) (.int i)
 | str {x:Str}:PyData.canLay0 (.str x)=true->Deep K H (.str x) (.str x)
 | lst {a:Addr} {xs:List V} {ds:List PyData}:SqL K H a xs->DeepAll K H xs ds->Deep K H (.ref a) (.list ds)
 | tup {a:Addr} {xs:List V} {ds:List PyData}:SqT K H a xs->DeepAll K H xs ds->Deep K H (.ref a) (.tuple ds)
inductive DeepAll (K:PySem.W.Frag) (H:Hp):List V->List PyData->Prop
 | nil:DeepAll K H [] []
 | cons {x:V} {d:PyData} {xs:List V} {ds:List PyData}:Deep K H x d->DeepAll K H xs ds->DeepAll K H (x::xs) (d::ds)
end
mutual
theorem Deep.reads {X:Cx} {pins:List (Addr × Obj)} {σ:St} {H:Hp} {s:Shared} (I:Inv X pins σ H s):∀ {x:V} {d:PyData} {u:Value},Deep X.K H x d->RelV x u->(∃ as,Reads s.heap u d as)/\d.canLay0=true
 | _,_,_,.non,r=>by cases (show _=Value.none from r);exact ⟨⟨_,.none⟩,by simp [PyData.canLay0]⟩
 | _,_,_,.bl b,r=>by cases (show _=Value.bool b from r);exact ⟨⟨_,.bool b⟩,by simp [PyData.canLay0]⟩
 | _,_,_,.int i,r=>by obtain ⟨t,e⟩:=(show ∃ t,_=Value.int i t from r);cases e;exact ⟨⟨_,.int i t⟩,by simp [PyData.canLay0]⟩
 | _,_,_,.str (x:=x) h,r=>by obtain ⟨t,e⟩:=(show ∃ t,_=Value.str x t from r);cases e;exact ⟨⟨_,.str x t⟩,h⟩
 | _,_,_,.lst (a:=a) h hs,r=>by
   cases (show _=Value.ref a from r);obtain ⟨its,rv,⟨o,n,e,c,_,dd⟩,hz⟩:=I.list h;obtain ⟨⟨as,ra⟩,cl⟩:=DeepAll.reads I hs rv;exact ⟨⟨_,.list e c dd (by simpa using ra)⟩,by simpa [PyData.canLay0] using cl⟩
 | _,_,_,.tup (a:=a) h hs,r=>by
   cases (show _=Value.ref a from r);obtain ⟨its,rv,⟨o,e,c,n,dd⟩,hz⟩:=I.tuple h;obtain ⟨⟨as,ra⟩,cl⟩:=DeepAll.reads I hs rv;exact ⟨⟨_,.tuple e c dd (by simpa using ra)⟩,by simpa [PyData.canLay0] using cl⟩
theorem DeepAll.reads {X:Cx} {pins:List (Addr × Obj)} {σ:St} {H:Hp} {s:Shared} (I:Inv X pins σ H s):∀ {xs:List V} {ds:List PyData} {us:List Value},DeepAll X.K H xs ds->Vals xs us->(∃ as,ReadsAll s.heap us ds as)/\PyData.canLayAll0 ds=true
 | _,_,_,.nil,.nil=>⟨⟨_,.nil⟩,by simp [PyData.canLayAll0]⟩
 | _,_,_,.cons h hs,.cons r rs=>by
   obtain ⟨⟨as,ra⟩,c1⟩:=Deep.reads I h r;obtain ⟨⟨bs,rb⟩,c2⟩:=DeepAll.reads I hs rs;exact ⟨⟨_,.cons ra rb⟩,by simp [PyData.canLayAll0,c1,c2]⟩
end
section
variable {X:Cx}
def PB (K:PySem.W.Frag):R2:=fun x y H Q=>∃ d e,Deep K H x d/\Deep K H y e/\d.depth<=40/\Q (.bl (PyData.eqv d e)) H
def Xn (K:PySem.W.Frag):R2:=fun x y H Q=>∃ d e,Deep K H x d/\Deep K H y e/\d.depth<=40/\Q (.bl (!PyData.eqv d e)) H
theorem yq (hu:X.A.units+64<cLine):OpR X (compareOp .Eq) (PB X.K):=by
 intro pins s σ H x y v u Q I rx ry h;obtain ⟨d,e,hd,he,hp,q⟩:=h;obtain ⟨⟨as,ra⟩,ca⟩:=hd.reads I rx;obtain ⟨⟨bs,rb⟩,cb⟩:=he.reads I ry;exact PySem.SeqAt.compareEq_reads ra rb ca cb (by omega) ⟨.bl _,H,I,rfl,q⟩
theorem QN (hu:X.A.units+64<cLine):OpR X (compareOp .NotEq) (Xn X.K):=by
 intro pins s σ H x y v u Q I rx ry h;obtain ⟨d,e,hd,he,hp,q⟩:=h;obtain ⟨⟨as,ra⟩,ca⟩:=hd.reads I rx;obtain ⟨⟨bs,rb⟩,cb⟩:=he.reads I ry;exact PySem.SeqAt.compareNe_reads ra rb ca cb (by omega) ⟨.bl _,H,I,rfl,q⟩
end
end L2
set_option Elab.async false
set_option linter.all false
set_option maxRecDepth 100000
namespace L2
open PySem PySem.Spec PyProof.Rows
structure SubF (P:Program) (w:World) (l:Addr) (ob:Obj) (src:Heap->Array Value->Prop) (at':Addr->Nat->Heap->Prop):Prop where
 start:∀ (A:Around) (s:Shared) (vs:Array Value) (Q:Value->Shared->Prop) (E:Value->Shared->Prop),src s.heap vs->Q (.ref s.heap.objs.size) { s with heap:=s.heap.push ob }->wpAny (model P w) A (pyIter (.ref l)) Q E s
 first:∀ it h,h.get? it=some ob->at' it 0 h
 atK:∀ it i h h',at' it i h->(∀ o,h.get? it=some o->h'.get? it=some o)->at' it i h'
 srcK:∀ h h' vs,src h vs->(∀ o,h.get? l=some o->h'.get? l=some o)->src h' vs
 obj:∀ it i h,at' it i h->∃ o,h.get? it=some o/\∀ v,o.data≠.cell v
 item:∀ (A:Around) (s:Shared) (it:Addr) (i:Nat) (vs:Array Value) (x:Value) (Q:Value->Shared->Prop) (E:Value->Shared->Prop),at' it i s.heap->src s.heap vs->vs[i]?=some x ->
   (∀ h',at' it (i+1) h'->Heap.SameBut it s.heap h'->Q x { s with heap:=h' })->wpAny (model P w) A (Builtin.SmallTypes.nextOf (.ref it)) Q E s
 fin:∀ (A:Around) (s:Shared) (it:Addr) (i:Nat) (vs:Array Value) (Q:Value->Shared->Prop) (E:Value->Shared->Prop),A.handled=none->at' it i s.heap->src s.heap vs->vs[i]?=none ->
   (∀ h' e,Heap.ExtBut it s.heap h'->(∃ o,h'.get? e=some o/\o.cls=.type "StopIteration")->E (.ref e) { s with heap:=h' })->wpAny (model P w) A (Builtin.SmallTypes.nextOf (.ref it)) Q E s
theorem Qc {P:Program} {w:World} (l:Addr):SubF P w l { cls:=.type "list_iterator",data:=.fields #[.ref l,.int 0 0] } (fun h vs=>h.IsList l vs) (fun it i h=>h.IsListIter it l i) where
 start:=fun A s vs Q E hl hq=>wpAny_pyIter_list hl hq
 first:=fun it h e=>⟨_,e,rfl,rfl⟩
 atK:=fun it i h h' x k=>x.at k
 srcK:=fun h h' vs x k=>x.at k
 obj:=fun it i h x=>by
   obtain ⟨o,ho,_,hd⟩:=x;exact ⟨o,ho,fun v z=>by rw [hd] at z;cases z⟩
 item:=fun A s it i vs x Q E ha hs hx hq=>wpAny_nextOf_list_item ha hs hx hq
 fin:=fun A s it i vs Q E hh ha hs hx hq=>wpAny_nextOf_list_end hh ha hs hx hq
section
variable {P:Program} {w:World} {A:Around} {E:Value->Shared->Prop} {s:Shared}
theorem Ca {it t:Addr} {i:Nat} {vs:Array Value} {x:Value} {Q:Value->Shared->Prop} (hi:s.heap.IsTupleIter it t i) (ht:s.heap.IsTuple t vs) (hx:vs[i]?=some x)
   (hq:∀ h',h'.IsTupleIter it t (i+1)->Heap.SameBut it s.heap h'->Q x { s with heap:=h' }):wpAny (model P w) A (Builtin.SmallTypes.nextOf (.ref it)) Q E s:=by
 obtain ⟨oi,hoi,hci,hdi⟩:=id hi;obtain ⟨ot,hot,_,nt,hdt⟩:=ht;unfold Builtin.SmallTypes.nextOf;refine wpAny_bind (wpAny_callSpecial?_slot (name:=Str.ofString "__next__") hi.typeIs F.slot_tuple_iterator_next (wpAny_call_entry F.slot_tuple_iterator_next hi.typeIs F.entry_tuple_iterator_next ?_ (F.args_tuple_iterator_next_1 _)));show wpAny (model P w) _ (field (.ref it) 0 >>= _) _ _ s;refine wpAny_bind (wpAny_field hoi hdi (x:=.ref t) rfl ?_);show wpAny (model P w) _ (if (Value.ref t == Value.none)=true then _ else _) _ _ s;rw [if_neg (by exact Bool.false_ne_true)];show wpAny (model P w) _ (field (.ref it) 1 >>= _) _ _ s;refine wpAny_bind (wpAny_field hoi hdi (x:=.int i 0) rfl ?_);show wpAny (model P w) _ (seqItems? (.ref t) >>= _) _ _ s;refine wpAny_bind (wpAny_seqItems hot hdt ?_);simp only [Int.toNat_natCast,hx];refine wpAny_bind (wpAny_setField hoi hdi (by simp) (wpAny_pure ⟨x,rfl,wpAny_pure (hq _ ?_ (Heap.SameBut.update ..))⟩));exact ⟨_,Heap.get?_update_self _ hoi (Obj.isFreed_of_fields (Obj.data_mapFields hdi _)),(Obj.cls_mapFields ..).trans hci,by rw [Obj.data_mapFields hdi];simp [rawInt]⟩
theorem Dl {it t:Addr} {i:Nat} {vs:Array Value} {Q:Value->Shared->Prop} (hh:A.handled=none) (hi:s.heap.IsTupleIter it t i) (ht:s.heap.IsTuple t vs) (hx:vs[i]?=none)
   (hE:∀ h' e,Heap.ExtBut it s.heap h'->(∃ o,h'.get? e=some o/\o.cls=.type "StopIteration")->E (.ref e) { s with heap:=h' }):wpAny (model P w) A (Builtin.SmallTypes.nextOf (.ref it)) Q E s:=by
 obtain ⟨oi,hoi,hci,hdi⟩:=id hi;obtain ⟨ot,hot,_,nt,hdt⟩:=ht;unfold Builtin.SmallTypes.nextOf;refine wpAny_bind (wpAny_callSpecial?_slot (name:=Str.ofString "__next__") hi.typeIs F.slot_tuple_iterator_next (wpAny_call_entry F.slot_tuple_iterator_next hi.typeIs F.entry_tuple_iterator_next ?_ (F.args_tuple_iterator_next_1 _)));show wpAny (model P w) _ (field (.ref it) 0 >>= _) _ _ s;refine wpAny_bind (wpAny_field hoi hdi (x:=.ref t) rfl ?_);show wpAny (model P w) _ (if (Value.ref t == Value.none)=true then _ else _) _ _ s;rw [if_neg (by exact Bool.false_ne_true)];show wpAny (model P w) _ (field (.ref it) 1 >>= _) _ _ s;refine wpAny_bind (wpAny_field hoi hdi (x:=.int i 0) rfl ?_);show wpAny (model P w) _ (seqItems? (.ref t) >>= _) _ _ s;refine wpAny_bind (wpAny_seqItems hot hdt ?_);simp only [Int.toNat_natCast,hx];refine wpAny_bind (wpAny_rule (wpAny_bind (wpAny_setField hoi hdi (by simp) ?_)));show wpAny (model P w) _ (newExc (.type "StopIteration") [] >>= _) _ _ _;refine wpAny_bind ?_;simp only [newExc,newTuple];refine wpAny_bind (wpAny_newObj_type ?_ (by size_fits));refine wpAny_bind (m:=firstArgMember _ _) (wpAny_of_eq (a:=Value.none) (by first|rfl|(simp only [firstArgMember];rfl)) ?_);refine wpAny_newObj_type ?_ (by size_fits);simp only [raiseNew];refine wpAny_bind (wpAny_handled ?_)
 first|rw [show A.in1.handled=none from hh]|rw [hh]
 refine wpAny_bind (wpAny_pure (wpAny_throw ?_));exact hE _ _ (((Heap.SameBut.update ..).extBut.push _).push _) ⟨_,Heap.get?_push_size _ rfl,rfl⟩
end
theorem Ts {P:Program} {w:World} (l:Addr):SubF P w l { cls:=.type "tuple_iterator",data:=.fields #[.ref l,.int 0 0] } (fun h vs=>h.IsTuple l vs) (fun it i h=>h.IsTupleIter it l i) where
 start:=fun A s vs Q E hl hq=>wpAny_pyIter_tuple hl hq
 first:=fun it h e=>⟨_,e,rfl,rfl⟩
 atK:=fun it i h h' x k=>let ⟨o,ho,r⟩:=x;⟨o,k o ho,r⟩
 srcK:=fun h h' vs x k=>let ⟨o,ho,r⟩:=x;⟨o,k o ho,r⟩
 obj:=fun it i h x=>by
   obtain ⟨o,ho,_,hd⟩:=x;exact ⟨o,ho,fun v z=>by rw [hd] at z;cases z⟩
 item:=fun A s it i vs x Q E ha hs hx hq=>Ca ha hs hx hq
 fin:=fun A s it i vs Q E hh ha hs hx hq=>Dl hh ha hs hx hq
end L2
set_option Elab.async false
set_option linter.all false
set_option maxRecDepth 100000
namespace L2
open PySem PySem.Spec PyProof.Rows
structure ZAp (z TI TO i1 i2 l1 l2:Addr):Prop where
 a1:TI≠z
 a2:TO≠z
 a3:i1≠z
 a4:i2≠z
 a5:TI≠TO
 a6:TI≠i1
 a7:TI≠i2
 a8:TO≠i1
 a9:TO≠i2
 a0:i1≠i2
 b1:l1≠z/\l1≠TO/\l1≠i1/\l1≠i2
 b2:l2≠z/\l2≠TO/\l2≠i1/\l2≠i2
section
variable {P:Program} {w:World} {A:Around} {E:Value->Shared->Prop} {s:Shared} {l1 l2:Addr} {ob1 ob2:Obj} {src1 src2:Heap->Array Value->Prop} {at1 at2:Addr->Nat->Heap->Prop}
theorem Jm (S1:SubF P w l1 ob1 src1 at1) (S2:SubF P w l2 ob2 src2 at2) {z TI TO i1 i2:Addr} {k1 k2:Nat} {xs ys:Array Value} {x y a b:Value} {Q:Value->Shared->Prop} (D:ZAp z TI TO i1 i2 l1 l2)
   (Hz:IsZip s.heap z TI TO .none) (HI:IsPair s.heap TI (.ref i1) (.ref i2)) (HO':IsPair s.heap TO a b) (p1:at1 i1 k1 s.heap) (p2:at2 i2 k2 s.heap) (q1:src1 s.heap xs) (q2:src2 s.heap ys) (hx:xs[k1]?=some x) (hy:ys[k2]?=some y)
   (hQ:∀ h',IsZip h' z TI TO (rawInt s.heap.objs.size)->IsPair h' TO x y->at1 i1 (k1+1) h'->at2 i2 (k2+1) h'->IsPair h' s.heap.objs.size x y->h'.objs.size=s.heap.objs.size+1 ->
     (∀ c o,c≠z->c≠TO->c≠i1->c≠i2->s.heap.get? c=some o->h'.get? c=some o)->Q (.ref s.heap.objs.size) { s with heap:=h' }) :
   wpAny (model P w) A (Builtin.«zip.__next__» ⟨[.ref z],[]⟩) (fun fn s'=>∃ v,fn=.done (.ret v)/\Q v s') E s:=by
 show wpAny (model P w) _ (field (.ref z) 2 >>= _) _ _ _;refine wpAny_bind (wpAny_field Hz rfl (x:=.bool false) rfl ?_);show wpAny (model P w) _ (field (.ref z) 3 >>= _) _ _ _;refine wpAny_bind (wpAny_field Hz rfl (x:=.ref TI) rfl ?_);refine wpAny_bind (wpAny_seqItems HI rfl ?_);show wpAny (model P w) _ (Builtin.SmallTypes.ownedTupleIsFree (.ref z) >>= _) _ _ _;refine wpAny_bind ?_;unfold Builtin.SmallTypes.ownedTupleIsFree;refine wpAny_bind (wpAny_field Hz rfl (x:=.none) rfl (wpAny_pure ?_));simp only [if_true];refine wpAny_bind (wpAny_rule ?_);refine wpAny_bind (wpAny_field Hz rfl (x:=.ref TO) rfl ?_);refine wpAny_bind (wpAny_setField_rec Hz (by simp) fun g1 z1 e1=>?_);replace z1:IsZip g1 z TI TO .ellipsis:=z1;refine wpAny_bind ?_;simp only [List.zipIdx_cons,List.zipIdx_nil,List.forIn_cons,List.forIn_nil];refine wpAny_bind (wpAny_bind (wpAny_onRaise ?_));show wpAny (model P w) _ (Builtin.SmallTypes.nextOf (.ref i1) >>= _) _ _ _;refine wpAny_bind (S1.item _ { s with heap:=g1 } i1 k1 xs x _ _ (S1.atK _ _ _ _ p1 fun o e=>e1.extBut _ _ D.a3 e) (S1.srcK _ _ _ q1 fun o e=>e1.extBut _ _ D.b1.1 e) hx fun g2 p1b e2=>wpAny_pure ?_);have o2:IsPair g2 TO a b:=e2.extBut _ _ D.a8 (e1.extBut _ _ D.a2 HO');refine wpAny_bind (wpAny_seqItems o2 rfl ?_);refine wpAny_bind (wpAny_updateSeq_pair o2 fun g3 o3 e3=>?_);replace o3:IsPair g3 TO x b:=o3;refine wpAny_bind (wpAny_letGo (wpAny_pure ?_));refine wpAny_bind (wpAny_bind (wpAny_onRaise ?_));show wpAny (model P w) _ (Builtin.SmallTypes.nextOf (.ref i2) >>= _) _ _ _;refine wpAny_bind (S2.item _ { s with heap:=g3 } i2 k2 ys y _ _ (S2.atK _ _ _ _ p2 fun o e=>e3.extBut _ _ D.a9.symm (e2.extBut _ _ D.a0.symm (e1.extBut _ _ D.a4 e))) (S2.srcK _ _ _ q2 fun o e=>e3.extBut _ _ D.b2.2.1 (e2.extBut _ _ D.b2.2.2.1 (e1.extBut _ _ D.b2.1 e))) hy fun g4 p2b e4=>wpAny_pure ?_);have o4:IsPair g4 TO x b:=e4.extBut _ _ D.a9 o3;refine wpAny_bind (wpAny_seqItems o4 rfl ?_);refine wpAny_bind (wpAny_updateSeq_pair o4 fun g5 o5 e5=>?_);replace o5:IsPair g5 TO x y:=o5;refine wpAny_bind (wpAny_letGo (wpAny_pure (wpAny_pure ?_)));refine wpAny_bind (wpAny_seqItems o5 rfl ?_);refine wpAny_bind (wpAny_newTuple ?_);have sz:g5.objs.size=s.heap.objs.size:=by rw [e5.1,e4.1,e3.1,e2.1,e1.1]
 have z5:IsZip g5 z TI TO .ellipsis:=e5.extBut _ _ D.a2.symm (e4.extBut _ _ D.a4.symm (e3.extBut _ _ D.a2.symm (e2.extBut _ _ D.a3.symm z1)));have k5:∀ c o,c≠z->c≠TO->c≠i1->c≠i2->s.heap.get? c=some o->g5.get? c=some o:=fun c o c1 c2 c3 c4 e =>
   e5.extBut _ _ c2 (e4.extBut _ _ c4 (e3.extBut _ _ c2 (e2.extBut _ _ c3 (e1.extBut _ _ c1 e))))
 have p15:at1 i1 (k1+1) g5:=S1.atK _ _ _ _ p1b fun o e=>e5.extBut _ _ D.a8.symm (e4.extBut _ _ D.a0 (e3.extBut _ _ D.a8.symm e));have p25:at2 i2 (k2+1) g5:=S2.atK _ _ _ _ p2b fun o e=>e5.extBut _ _ D.a9.symm e;have zlt:z<g5.objs.size:=Heap.lt_size z5;show wpAny (model P w) _ (Builtin.SmallTypes.ownedTupleHandOut (.ref z) (.ref g5.objs.size) >>= _) _ _ _;refine wpAny_bind ?_;unfold Builtin.SmallTypes.ownedTupleHandOut;have z6:IsZip (g5.push { cls:=.type "tuple",data:=.seq #[x,y] }) z TI TO .ellipsis:=Heap.get?_push_of_some _ z5;refine wpAny_bind (wpAny_setField_rec z6 (by simp) fun g7 z7 e7=>?_);replace z7:IsZip g7 z TI TO (rawInt g5.objs.size):=z7;refine wpAny_setField_rec z7 (by simp) fun g8 z8 e8=>?_;replace z8:IsZip g8 z TI TO (rawInt g5.objs.size):=z8;have up:∀ c o,c≠z->g5.get? c=some o->g8.get? c=some o:=fun c o c1 e=>e8.extBut _ _ c1 (e7.extBut _ _ c1 (Heap.get?_push_of_some _ e));have t8:IsPair g8 g5.objs.size x y:=e8.extBut _ _ (Nat.ne_of_gt zlt) (e7.extBut _ _ (Nat.ne_of_gt zlt) (Heap.get?_push_size _ rfl));have s8:g8.objs.size=g5.objs.size+1:=by rw [e8.1,e7.1,Heap.size_push]
 rw [sz] at z8 t8 s8;refine wpAny_pure ⟨_,rfl,?_⟩;show Q (.ref g5.objs.size) _;rw [sz];exact hQ g8 z8 (up _ _ D.a2 o5) (S1.atK _ _ _ _ p15 fun o e=>up _ o D.a3 e) (S2.atK _ _ _ _ p25 fun o e=>up _ o D.a4 e) t8 s8 fun c o c1 c2 c3 c4 e=>up c o c1 (k5 c o c1 c2 c3 c4 e)
theorem Mr (S1:SubF P w l1 ob1 src1 at1) (S2:SubF P w l2 ob2 src2 at2) {z TI TO i1 i2:Addr} {k1 k2:Nat} {xs ys:Array Value} {a b:Value} {Q:Fin->Shared->Prop} (hh:A.handled=none) (D:ZAp z TI TO i1 i2 l1 l2)
   (Hz:IsZip s.heap z TI TO .none) (HI:IsPair s.heap TI (.ref i1) (.ref i2)) (HO':IsPair s.heap TO a b) (p1:at1 i1 k1 s.heap) (p2:at2 i2 k2 s.heap) (q1:src1 s.heap xs) (q2:src2 s.heap ys) (hend:xs[k1]?=none\/ys[k2]?=none)
   (hE:∀ h' e,(∀ c o,c≠z->c≠TO->c≠i1->c≠i2->s.heap.get? c=some o->h'.get? c=some o)->(∃ o,h'.get? e=some o/\o.cls=.type "StopIteration")->E (.ref e) { s with heap:=h' }) :
   wpAny (model P w) A (Builtin.«zip.__next__» ⟨[.ref z],[]⟩) Q E s:=by
 show wpAny (model P w) _ (field (.ref z) 2 >>= _) _ _ _;refine wpAny_bind (wpAny_field Hz rfl (x:=.bool false) rfl ?_);show wpAny (model P w) _ (field (.ref z) 3 >>= _) _ _ _;refine wpAny_bind (wpAny_field Hz rfl (x:=.ref TI) rfl ?_);refine wpAny_bind (wpAny_seqItems HI rfl ?_);show wpAny (model P w) _ (Builtin.SmallTypes.ownedTupleIsFree (.ref z) >>= _) _ _ _;refine wpAny_bind ?_;unfold Builtin.SmallTypes.ownedTupleIsFree;refine wpAny_bind (wpAny_field Hz rfl (x:=.none) rfl (wpAny_pure ?_));simp only [if_true];refine wpAny_bind (wpAny_rule ?_);refine wpAny_bind (wpAny_field Hz rfl (x:=.ref TO) rfl ?_);refine wpAny_bind (wpAny_setField_rec Hz (by simp) fun g1 z1 e1=>?_);replace z1:IsZip g1 z TI TO .ellipsis:=z1;refine wpAny_bind ?_;simp only [List.zipIdx_cons,List.zipIdx_nil,List.forIn_cons,List.forIn_nil];refine wpAny_bind (wpAny_bind (wpAny_onRaise ?_));show wpAny (model P w) _ (Builtin.SmallTypes.nextOf (.ref i1) >>= _) _ _ _;have p1a:at1 i1 k1 g1:=S1.atK _ _ _ _ p1 fun o e=>e1.extBut _ _ D.a3 e;have q1a:src1 g1 xs:=S1.srcK _ _ _ q1 fun o e=>e1.extBut _ _ D.b1.1 e;cases hx:xs[k1]? with
 | none =>
   refine wpAny_bind (S1.fin _ { s with heap:=g1 } i1 k1 xs _ _ hh p1a q1a hx fun g2 e e2 he=>?_);obtain ⟨oe,hoe,hce⟩:=he;have z2:IsZip g2 z TI TO .ellipsis:=e2 _ _ D.a3.symm z1;have ez:e≠z:=fun t=>by subst t;rw [z2] at hoe;cases hoe;simp at hce
   refine wpAny_setField_rec z2 (by simp) fun g3 _ e3=>hE g3 e (fun c o c1 _ c3 _ t=>e3.extBut _ _ c1 (e2 _ _ c3 (e1.extBut _ _ c1 t))) ⟨oe,e3.extBut _ _ ez hoe,hce⟩
 | some x =>
   have hy:ys[k2]?=none:=by
     rcases hend with h|h
     . rw [hx] at h;cases h
     . exact h
   refine wpAny_bind (S1.item _ { s with heap:=g1 } i1 k1 xs x _ _ p1a q1a hx fun g2 p1b e2=>wpAny_pure ?_);have o2:IsPair g2 TO a b:=e2.extBut _ _ D.a8 (e1.extBut _ _ D.a2 HO');refine wpAny_bind (wpAny_seqItems o2 rfl ?_);refine wpAny_bind (wpAny_updateSeq_pair o2 fun g3 o3 e3=>?_);refine wpAny_bind (wpAny_letGo (wpAny_pure ?_));refine wpAny_bind (wpAny_bind (wpAny_onRaise ?_));show wpAny (model P w) _ (Builtin.SmallTypes.nextOf (.ref i2) >>= _) _ _ _;refine wpAny_bind (S2.fin _ { s with heap:=g3 } i2 k2 ys _ _ hh (S2.atK _ _ _ _ p2 fun o e=>e3.extBut _ _ D.a9.symm (e2.extBut _ _ D.a0.symm (e1.extBut _ _ D.a4 e))) (S2.srcK _ _ _ q2 fun o e=>e3.extBut _ _ D.b2.2.1 (e2.extBut _ _ D.b2.2.2.1 (e1.extBut _ _ D.b2.1 e))) hy fun g4 e e4 he=>?_);obtain ⟨oe,hoe,hce⟩:=he;have z4:IsZip g4 z TI TO .ellipsis:=e4 _ _ D.a4.symm (e3.extBut _ _ D.a2.symm (e2.extBut _ _ D.a3.symm z1));have ez:e≠z:=fun t=>by subst t;rw [z4] at hoe;cases hoe;simp at hce
   refine wpAny_setField_rec z4 (by simp) fun g5 _ e5=>hE g5 e (fun c o c1 c2 c3 c4 t=>e5.extBut _ _ c1 (e4 _ _ c4 (e3.extBut _ _ c2 (e2.extBut _ _ c3 (e1.extBut _ _ c1 t))))) ⟨oe,e5.extBut _ _ ez hoe,hce⟩
abbrev zp1 (h:Heap) (ob1 ob2:Obj):Heap:=(h.push ob1).push ob2
abbrev zp2 (h:Heap) (ob1 ob2:Obj):Heap:=(zp1 h ob1 ob2).push { cls:=.type "tuple",data:=.seq #[.ref h.objs.size,.ref (h.push ob1).objs.size] }
abbrev zp3 (h:Heap) (ob1 ob2:Obj):Heap:=(zp2 h ob1 ob2).push { cls:=.type "tuple",data:=.seq #[.none,.none] }
abbrev zp4 (h:Heap) (ob1 ob2:Obj):Heap:=(zp3 h ob1 ob2).push { cls:=.type "zip",data:=.fields #[.none,.bool false,.bool false,.ref (zp1 h ob1 ob2).objs.size,.ref (zp2 h ob1 ob2).objs.size] }
theorem Hs (S1:∀ P w,SubF P w l1 ob1 src1 at1) (S2:∀ P w,SubF P w l2 ob2 src2 at2) (ne:∀ h vs,src2 h vs->∃ o,h.get? l2=some o) (xs ys:Array Value) :
   Meets (Builtin.«zip.__new__» ⟨[.type "zip",.ref l1,.ref l2],[]⟩) (fun _ R s=>src1 s.heap xs/\src2 s.heap ys/\R (.ok (.ret (.ref (zp3 s.heap ob1 ob2).objs.size))) { s with heap:=zp4 s.heap ob1 ob2 }) :=
 .of_wp fun prog w A R s hyp=>by
   obtain ⟨hp,g,d,tk,os⟩:=s;obtain ⟨q1,q2,r⟩:=hyp;have zsub:=sub_zip;have B1:src1 (Shared.heap ⟨hp,g,d,tk,os⟩) xs:=q1;have B2:src2 (Shared.heap ⟨hp.push ob1,g,d,tk,os⟩) ys:=(S2 prog w).srcK _ _ _ q2 fun o e=>Heap.get?_push_of_some _ e
   wp_walk using ((S1 prog w).start _ _ _ _ _ B1),((S2 prog w).start _ _ _ _ _ B2)
   exact ⟨_,rfl,r⟩
theorem Rx (S1:∀ P w,SubF P w l1 ob1 src1 at1) (S2:∀ P w,SubF P w l2 ob2 src2 at2) (ne:∀ h vs,src2 h vs->∃ o,h.get? l2=some o) {xs ys:Array Value} {Q:Value->Shared->Prop} (q1:src1 s.heap xs) (q2:src2 s.heap ys)
   (h:∀ h',IsZip h' (s.heap.objs.size+4) (s.heap.objs.size+2) (s.heap.objs.size+3) .none->IsPair h' (s.heap.objs.size+2) (.ref s.heap.objs.size) (.ref (s.heap.objs.size+1)) ->
     IsPair h' (s.heap.objs.size+3) .none .none->at1 s.heap.objs.size 0 h'->at2 (s.heap.objs.size+1) 0 h' ->
     (∀ c o,s.heap.get? c=some o->h'.get? c=some o)->Q (.ref (s.heap.objs.size+4)) { s with heap:=h' }) (f1:ob1.isFreed=false) (f2:ob2.isFreed=false) :
   wpAny (model P w) A (call (.type "zip") [.ref l1,.ref l2]) Q E s:=by
 refine callType_new F.called_zip (by decide) (F.typeCall_zip_2 _ _) (F.newCall_zip_2 _ _) (fun obj=>F.args_object_init_3 obj _ _) F.entry_zip_new (Hs S1 S2 ne xs ys) ⟨q1,q2,?_⟩;have n0:(s.heap.push ob1).objs.size=s.heap.objs.size+1:=Heap.size_push ..;have n1:(zp1 s.heap ob1 ob2).objs.size=s.heap.objs.size+2:=by rw [Heap.size_push,n0]
 have n2:(zp2 s.heap ob1 ob2).objs.size=s.heap.objs.size+3:=by rw [Heap.size_push,n1]
 have n3:(zp3 s.heap ob1 ob2).objs.size=s.heap.objs.size+4:=by rw [Heap.size_push,n2]
 have c5:(zp4 s.heap ob1 ob2).get? (zp3 s.heap ob1 ob2).objs.size=some _:=Heap.get?_push_size _ rfl;have c4:(zp4 s.heap ob1 ob2).get? (zp2 s.heap ob1 ob2).objs.size=some _:=Heap.get?_push_of_some _ (Heap.get?_push_size _ rfl);have c3:(zp4 s.heap ob1 ob2).get? (zp1 s.heap ob1 ob2).objs.size=some _:=Heap.get?_push_of_some _ (Heap.get?_push_of_some _ (Heap.get?_push_size _ rfl));have c2:(zp4 s.heap ob1 ob2).get? (s.heap.push ob1).objs.size=some ob2:=Heap.get?_push_of_some _ (Heap.get?_push_of_some _ (Heap.get?_push_of_some _ (Heap.get?_push_size _ f2)));have c1:(zp4 s.heap ob1 ob2).get? s.heap.objs.size=some ob1:=Heap.get?_push_of_some _ (Heap.get?_push_of_some _ (Heap.get?_push_of_some _ (Heap.get?_push_of_some _ (Heap.get?_push_size _ f1))));show _/\_;rw [n1,n2,n3] at c5;rw [n0,n1] at c3;rw [n2] at c4;rw [n0] at c2;rw [n3];exact ⟨⟨_,c5,rfl⟩,h _ c5 c3 c4 ((S1 P w).first _ _ c1) ((S2 P w).first _ _ c2) fun c o e=>Heap.get?_push_of_some _ (Heap.get?_push_of_some _ (Heap.get?_push_of_some _ (Heap.get?_push_of_some _ (Heap.get?_push_of_some _ e))))⟩
end
def SqX (K:PySem.W.Frag):Bool->Hp->Addr->List V->Prop
 | true,H,a,xs=>SqL K H a xs
 | false,H,a,xs=>SqT K H a xs
def Itz (K:PySem.W.Frag) (c d:Bool) (a b:Addr):It :=
 ⟨fun i H=>∃ xs ys x y,SqX K c H a xs/\SqX K d H b ys/\xs[i]?=some x/\ys[i]?=some y,
  fun i H v H'=>∃ p x y,H p=none/\v=.ref p/\H'=upd H p (.tup [x,y])/\(∀ xs,SqX K c H a xs->xs[i]?=some x)/\∀ ys,SqX K d H b ys->ys[i]?=some y,
  fun i H=>∃ xs ys,SqX K c H a xs/\SqX K d H b ys/\(xs.length<=i\/ys.length<=i)⟩
def W9 (a:Addr):Bool->Obj
 | true=>{ cls:=.type "list_iterator",data:=.fields #[.ref a,.int 0 0] }
 | false=>{ cls:=.type "tuple_iterator",data:=.fields #[.ref a,.int 0 0] }
def Su (a:Addr):Bool->Heap->Array Value->Prop
 | true,h,vs=>h.IsList a vs
 | false,h,vs=>h.IsTuple a vs
def zAt (a:Addr):Bool->Addr->Nat->Heap->Prop
 | true,it,i,h=>h.IsListIter it a i
 | false,it,i,h=>h.IsTupleIter it a i
theorem pC (a:Addr) (c:Bool) (P:Program) (w:World):SubF P w a (W9 a c) (Su a c) (zAt a c):=by
 cases c
 . exact Ts a
 . exact Qc a
theorem GH (a:Addr) (c:Bool):(W9 a c).isFreed=false:=by cases c <;> rfl
theorem y6 (a:Addr) (c:Bool) (h:Heap) (vs:Array Value) (e:Su a c h vs):∃ o,h.get? a=some o:=by
 cases c
 . obtain ⟨o,ho,_⟩:=e;exact ⟨o,ho⟩
 . obtain ⟨o,ho,_⟩:=e;exact ⟨o,ho⟩
theorem Inv.sqX {X:Cx} {pins:List (Addr × Obj)} {σ:St} {H:Hp} {s:Shared} {c:Bool} {a:Addr} {xs:List V} (I:Inv X pins σ H s) (h:SqX X.K c H a xs):∃ its:List Value,Vals xs its/\Su a c s.heap its.toArray:=by
 cases c with
 | true =>
   obtain ⟨its,r,pl,_⟩:=I.list h;exact ⟨its,r,pl.isList⟩
 | false =>
   obtain ⟨its,r,⟨o,ho,hc,n,hd⟩,_⟩:=I.tuple h;exact ⟨its,r,⟨o,ho,hc,n,hd⟩⟩
theorem Inv.sqX_inj {X:Cx} {pins:List (Addr × Obj)} {σ:St} {H:Hp} {s:Shared} {c:Bool} {a:Addr} {xs ys:List V} (I:Inv X pins σ H s) (h:SqX X.K c H a xs) (h':SqX X.K c H a ys):xs=ys:=by
 cases c with
 | true=>exact I.list_inj h h'
 | false=>exact I.tuple_inj h h'
theorem Si {P:Program} {w:World} {K:PySem.W.Frag} {elts:List Expr} {x1} {tpos:Pos} (c d:Bool) (a b z TI TO i1 i2:Addr) (D:ZAp z TI TO i1 i2 a b) :
   Turn P w K (.Tuple elts x1 tpos) (Itz K c d a b) [z,TI,TO,i1,i2] z (fun i h=>IsZip h z TI TO .none/\IsPair h TI (.ref i1) (.ref i2)/\(∃ u v,IsPair h TO u v)/\zAt a c i1 i h/\zAt b d i2 i h) where
 mem:=by simp
 obj:=fun i h t e he=>by
   obtain ⟨t1,t2,⟨u,v,t3⟩,t4,t5⟩:=t;simp only [List.mem_cons,List.mem_nil_iff,or_false] at he;rcases he with rfl|rfl|rfl|rfl|rfl
   . exact ⟨_,t1,fun v z=>by cases z⟩
   . exact ⟨_,t2,fun v z=>by cases z⟩
   . exact ⟨_,t3,fun v z=>by cases z⟩
   . exact (pC a c P w).obj _ _ _ t4
   . exact (pC b d P w).obj _ _ _ t5
 keep:=fun i h h' t k=>by
   obtain ⟨t1,t2,⟨u,v,t3⟩,t4,t5⟩:=t;exact ⟨k z (by simp) _ t1,k TI (by simp) _ t2,⟨u,v,k TO (by simp) _ t3⟩,(pC a c P w).atK _ _ _ _ t4 fun o e=>k i1 (by simp) o e,(pC b d P w).atK _ _ _ _ t5 fun o e=>k i2 (by simp) o e⟩
 item:=fun X e1 e2 e3 hc i pins s σ H E I f t g=>by
   subst e1 e2 e3;obtain ⟨t1,t2,⟨u,v,t3⟩,t4,t5⟩:=t;obtain ⟨xs,ys,x,y,s1,s2,hx,hy⟩:=g;obtain ⟨us,r1,q1⟩:=I.sqX s1;obtain ⟨vs,r2,q2⟩:=I.sqX s2;obtain ⟨xu,hxu,rx⟩:=r1.get hx;obtain ⟨yu,hyu,ry⟩:=r2.get hy;have hT:s.TypeIs (.ref z) "zip":=⟨_,t1,rfl⟩;unfold pyNext;refine wpAny_bind (wpAny_attempt (wpAny_callSpecial?_slot (name:=Str.ofString "__next__") hT F.slot_zip_next (wpAny_call_entry F.slot_zip_next hT F.entry_zip_next
     (Jm (pC a c _ _) (pC b d _ _) D t1 t2 t3 t4 t5 q1 q2 (x:=xu) (y:=yu) (by simpa using hxu) (by simpa using hyu) fun h' w1 w2 w3 w4 w5 w6 w7=>wpAny_pure ?_) (F.args_zip_next_1 _))))
   refine ⟨_,rfl,wpAny_letOwnedTupleGo_zip w1 fun h2 n1 n2=>?_⟩;have fz:∀ q∈[z,TI,TO,i1,i2],qR X pins H q:=f;have lt0:s.heap.objs.size≠z:=Nat.ne_of_gt (Heap.lt_size t1);have new:IsPair h2 s.heap.objs.size xu yu:=n2.extBut _ _ lt0 w5;have kp:∀ q o,q ∉ [z,TI,TO,i1,i2]->s.heap.get? q=some o->h2.get? q=some o:=fun q o hq e=>by
     simp only [List.mem_cons,List.mem_nil_iff,or_false,not_or] at hq;exact n2.extBut _ _ hq.1 (w7 q o hq.1 hq.2.2.1 hq.2.2.2.1 hq.2.2.2.2 e)
   have kTI:h2.get? TI=some _:=n2.extBut _ _ D.a1 (w7 TI _ D.a1 D.a5 D.a6 D.a7 t2);have Hn:∀ q u,H q=some u->q ∉ [z,TI,TO,i1,i2]:=fun q u e hq=>by rw [(fz q hq).1] at e;cases e
   have I2:Inv X pins σ H { s with heap:=h2 }:=by
     refine I.step (g':=s.gens) (d':=s.drawn) (t':=s.toks) (ch:=[z,TI,TO,i1,i2]) (fun q hq=>⟨(fz q hq).2.2.2.1,(fz q hq).2.1,(fz q hq).2.2.2.2.1,(fz q hq).2.2.2.2.2⟩) (fun q o _ _ hq e _=>kp q o hq e) (fun q o _ _ hq e _=>⟨o.slots,kp q o hq e⟩) (fun _ _ _ _ n=>n)
       (fun q o hq e=>⟨o,kp q o hq e⟩) (fun _ _ e=>e) (fun _ _ _ e=>e) (fun q ps e=>⟨#[],by rw [e];simp⟩) (fun m hm=>?_) (fun q u e=>?_) I.bare
     . obtain ⟨o,es,ep,ho,r⟩:=hm;exact ⟨o,es,ep,kp _ o (fun hq=>(fz _ hq).2.1 rfl) ho,r⟩
     . refine (I.hok q u e).stay (fun q' v hq' e'=>kp q' v ?_ e') (fun _ e'=>e') fun _ _ e'=>e';rcases hq' with rfl|hq'
       . exact Hn _ u e
       . exact Hn _ _ hq'
   have nH:H s.heap.objs.size=none:=I.fresh;have I3:Inv X pins σ (upd H s.heap.objs.size (.tup [x,y])) { s with heap:=h2 }:=by
     refine ⟨I2.ok,I2.os,I2.bare,?_,I2.loc,I2.cell,?_,fun n c e=>?_,fun p hp=>?_,fun q u e=>?_,I2.len⟩
     . refine ⟨I2.base.keep,I2.base.slot,fun q o e n hx=>?_,I2.base.there,fun q xs e=>?_,fun q o u e=>?_,fun q ps e=>?_⟩
       . have lt:q<X.s₀.heap.objs.size:=Heap.lt_size e;rw [ao (Nat.ne_of_lt (Nat.lt_of_lt_of_le lt I.sz))];exact I2.base.free q o e n hx
       . have e':=I2.base.tups q xs e;rw [ao (fun z=>by rw [z,nH] at e';cases e')];exact e'
       . have e':=I2.base.frzs q o u e;rw [ao (fun z=>by rw [z,nH] at e';cases e')];exact e'
       . obtain ⟨more,e'⟩:=I2.base.tbls q ps e;exact ⟨more,by rw [ao (fun z=>by rw [z,nH] at e';cases e')];exact e'⟩
     . rw [ao (Nat.ne_of_lt I.lt)];exact I2.free
     . obtain ⟨vv,o,ho,_⟩:=I.cell n c e;rw [ao (Nat.ne_of_lt (Heap.lt_size ho))];exact I2.freeC n c e
     . obtain ⟨k1,k2,k3⟩:=I.pin p hp;rw [ao (Nat.ne_of_lt (Heap.lt_size k1))];exact I2.pin p hp
     . by_cases hq:q=s.heap.objs.size
       . subst hq;rw [ah] at e;cases e;exact ⟨by show 2<=sizeLine;decide,[xu,yu],.cons rx (.cons ry .nil),_,new,rfl,_,rfl⟩
       . rw [ao hq] at e;refine (I2.hok q u e).stay (fun _ _ _ e'=>e') (fun q' e'=>?_) fun q' xs e'=>?_
         . rw [ao (fun z=>by rw [z,nH] at e';cases e')];exact e'
         . rw [ao (fun z=>by rw [z,nH] at e';cases e')];exact e'
   refine ⟨.ref s.heap.objs.size,_,I3,rfl,⟨_,x,y,nH,rfl,rfl,fun xs' q=>?_,fun ys' q=>?_⟩,⟨n1,kTI,⟨_,_,n2.extBut _ _ D.a2 w2⟩,(pC a c X.prog X.w).atK _ _ _ _ w3 fun o e=>n2.extBut _ _ D.a3 e,(pC b d X.prog X.w).atK _ _ _ _ w4 fun o e=>n2.extBut _ _ D.a4 e⟩,fun q hq=>?_⟩
   . rw [<- I.sqX_inj s1 q];exact hx
   . rw [<- I.sqX_inj s2 q];exact hy
   . have hlt:q<s.heap.objs.size:=by
       simp only [List.mem_cons,List.mem_nil_iff,or_false] at hq;rcases hq with rfl|rfl|rfl|rfl|rfl
       . exact Heap.lt_size t1
       . exact Heap.lt_size t2
       . exact Heap.lt_size t3
       . exact let ⟨o,e,_⟩:=(pC a c X.prog X.w).obj _ _ _ t4;Heap.lt_size e
       . exact let ⟨o,e,_⟩:=(pC b d X.prog X.w).obj _ _ _ t5;Heap.lt_size e
     rw [ao (Nat.ne_of_lt hlt)];exact (fz q hq).1
 done:=fun X e1 e2 e3 hc i pins s σ H E I f t g=>by
   subst e1 e2 e3;obtain ⟨t1,t2,⟨u,v,t3⟩,t4,t5⟩:=t;obtain ⟨xs,ys,s1,s2,hend⟩:=g;obtain ⟨us,r1,q1⟩:=I.sqX s1;obtain ⟨vs,r2,q2⟩:=I.sqX s2;have fz:∀ q∈[z,TI,TO,i1,i2],qR X pins H q:=f;have hh:X.A.handled=none:=I.ok.hd hc;have hT:s.TypeIs (.ref z) "zip":=⟨_,t1,rfl⟩;have hend':us.toArray[i]?=none\/vs.toArray[i]?=none:=by
     rcases hend with e|e
     . exact .inl (by have:=r1.length;simp;omega)
     . exact .inr (by have:=r2.length;simp;omega)
   unfold pyNext;refine wpAny_bind (wpAny_attempt (wpAny_callSpecial?_slot (name:=Str.ofString "__next__") hT F.slot_zip_next (wpAny_call_entry F.slot_zip_next hT F.entry_zip_next
     (Mr (pC a c _ _) (pC b d _ _) hh D t1 t2 t3 t4 t5 q1 q2 hend' fun h' e hk he=>?_) (F.args_zip_next_1 _))))
   obtain ⟨o,ho,hcl⟩:=he;refine wpAny_bind (wpAny_isInstance (T:="StopIteration") (b:=true) ⟨o,ho,hcl⟩ isSubtype_stop (wpAny_pure ⟨rfl,?_⟩));have kp:∀ q o,q ∉ [z,TI,TO,i1,i2]->s.heap.get? q=some o->h'.get? q=some o:=fun q o hq e=>by
     simp only [List.mem_cons,List.mem_nil_iff,or_false,not_or] at hq;exact hk q o hq.1 hq.2.2.1 hq.2.2.2.1 hq.2.2.2.2 e
   have Hn:∀ q u,H q=some u->q ∉ [z,TI,TO,i1,i2]:=fun q u e hq=>by rw [(fz q hq).1] at e;cases e
   refine I.step (g':=s.gens) (d':=s.drawn) (t':=s.toks) (ch:=[z,TI,TO,i1,i2]) (fun q hq=>⟨(fz q hq).2.2.2.1,(fz q hq).2.1,(fz q hq).2.2.2.2.1,(fz q hq).2.2.2.2.2⟩) (fun q o _ _ hq e _=>kp q o hq e) (fun q o _ _ hq e _=>⟨o.slots,kp q o hq e⟩) (fun _ _ _ _ n=>n)
     (fun q o hq e=>⟨o,kp q o hq e⟩) (fun _ _ e=>e) (fun _ _ _ e=>e) (fun q ps e=>⟨#[],by rw [e];simp⟩) (fun m hm=>?_) (fun q u e=>?_) I.bare
   . obtain ⟨o,es,ep,ho,r⟩:=hm;exact ⟨o,es,ep,kp _ o (fun hq=>(fz _ hq).2.1 rfl) ho,r⟩
   . refine (I.hok q u e).stay (fun q' v hq' e'=>kp q' v ?_ e') (fun _ e'=>e') fun _ _ e'=>e';rcases hq' with rfl|hq'
     . exact Hn _ u e
     . exact Hn _ _ hq'
 self:=fun A i s Q E t q=>wpAny_pyIter_zip t.1 q
end L2
set_option Elab.async false
set_option linter.all false
set_option maxRecDepth 100000
namespace L2
open PySem PySem.Spec PyProof.Rows
section
variable {X:Cx} {pins:List (Addr × Obj)} {σ:St} {H H2:Hp} {s s2:Shared} {a:Addr} {o:HO}
end
section
variable {P:Program} {w:World} {A:Around} {E:Value->Shared->Prop} {s:Shared}
end
end L2
set_option Elab.async false
set_option linter.all false
set_option maxRecDepth 100000
namespace L2
open PySem PySem.Spec PyProof.Rows
section
variable {P:Program} {w:World} {A:Around} {E:Value->Shared->Prop} {s:Shared} {R:Result->Shared->Prop}
end
section
variable {X:Cx} {e:Expr} {te:TE} {p1 p2 pos pos2:Pos}
end
end L2
set_option Elab.async false
set_option linter.all false
set_option maxRecDepth 100000
namespace L2
open PySem PySem.Spec PyProof.Rows
theorem ij {a b:Nat} (h:a<b\/b<a):a≠b:=by omega
theorem Xq (n a b:Nat) (h1:a<n) (h2:b<n):ZAp (n+4) (n+2) (n+3) n (n+1) a b :=
 ⟨ij (by omega),ij (by omega),ij (by omega),ij (by omega),ij (by omega),ij (by omega),ij (by omega),ij (by omega),ij (by omega),ij (by omega),⟨ij (by omega),ij (by omega),ij (by omega),ij (by omega)⟩,⟨ij (by omega),ij (by omega),ij (by omega),ij (by omega)⟩⟩
section
variable {X:Cx}
def Te (K:PySem.W.Frag) (c d:Bool) (ta:TA):TI:=fun σ H R=>ta σ H fun vs H1=>∃ a b,vs=[.ref a,.ref b]/\(∃ xs,SqX K c H1 a xs)/\(∃ ys,SqX K d H1 b ys)/\R (Itz K c d a b) H1
theorem Rk {elts:List Expr} {x1} {tpos:Pos} {ea eb:Expr} {ta:TA} {p pos:Pos} (c d:Bool) (hg:Gl X "zip") (hm:X.mg "zip"=none) (ha:PA X [ea,eb] ta)
   (hs:starEach [ea,eb] X.env=[(false,eval ea X.env),(false,eval eb X.env)]:=by rfl) (hs2:starEach [eb] X.env=[(false,eval eb X.env)]:=by rfl) :
   PI X (.Tuple elts x1 tpos) (.Call (.Name "zip" p) [ea,eb] [] pos) (Te X.K c d ta):=by
 intro pins s σ H R I h;refine Call_ (xn I hg hm boot_zip (PyProof.Rows.callWith_type1 (zu (ha pos pins s σ H _ I h) fun us s1 vs H1 I1 r1 q1=>?_) (by rw [hs,hs2]) (by rw [hs2];rfl)));obtain ⟨a,b,e,⟨xs,sa⟩,⟨ys,sb⟩,q⟩:=q1;subst e;obtain ⟨u,v,rfl,ru,rv⟩:=UW r1;cases ru;cases rv;obtain ⟨us,r1,q1⟩:=I1.sqX sa;obtain ⟨vs,r2,q2⟩:=I1.sqX sb;obtain ⟨oa,hoa⟩:=y6 a c _ _ q1;obtain ⟨ob,hob⟩:=y6 b d _ _ q2;have la:=Heap.lt_size hoa;have lb:=Heap.lt_size hob;refine Rx (pC a c) (pC b d) (y6 b d) q1 q2 (fun h' w1 w2 w3 w4 w5 w6=>?_) (GH a c) (GH b d);refine wpAny_pyIter_zip w1 ?_;have D:=Xq s1.heap.objs.size a b la lb;refine ⟨_,[s1.heap.objs.size+4,s1.heap.objs.size+2,s1.heap.objs.size+3,s1.heap.objs.size,s1.heap.objs.size+1],_,_,H1,rfl,I1.kept (t':=s1.toks) w6,Si c d a b _ _ _ _ _ D,⟨w1,w2,⟨_,_,w3⟩,w4,w5⟩,fun q hq=>?_,q⟩;have hle:s1.heap.objs.size<=q:=by
   simp only [List.mem_cons,List.mem_nil_iff,or_false] at hq;rcases hq with rfl|rfl|rfl|rfl|rfl
   . exact Nat.le_add_right _ 4
   . exact Nat.le_add_right _ 2
   . exact Nat.le_add_right _ 3
   . exact Nat.le_refl _
   . exact Nat.le_add_right _ 1
 exact I1.fpOk hle (I1.hok.fresh hle)
end
theorem Wa {K:PySem.W.Frag} {c d:Bool} {a b:Addr} {xs ys:List V} {g:TG} {tb:TS} {D:Ends} {σ:St} {H:Hp} (Pv:Nat->St->Hp->Prop) (h0:Pv 0 σ H) (hl:∀ i σ H,Pv i σ H->SqX K c H a xs/\SqX K d H b ys)
   (hs:∀ i x y σ H p,xs[i]?=some x->ys[i]?=some y->Pv i σ H->H p=none->g (.ref p) σ (upd H p (.tup [x,y])) fun σ2 H2=>tb { D with nx:=Pv (i+1),ct:=Pv (i+1),bk:=D.nx } σ2 H2) (hd:∀ σ H,Pv (min xs.length ys.length) σ H->D.nx σ H) :
   ∃ W:Nat->Nat->St->Hp->Prop,(∃ m,W 0 m σ H)/\∀ i m σ H,W i m σ H ->
     ((Itz K c d a b).stop i H/\D.nx σ H)\/((Itz K c d a b).go i H/\∃ N:St->Hp->Prop,(∀ σ' H',N σ' H'->∃ m',m'<m/\W (i+1) m' σ' H')/\∀ x H',(Itz K c d a b).yld i H x H'->g x σ H' fun σ2 H2=>tb { D with nx:=N,ct:=N,bk:=D.nx } σ2 H2):=by
 refine ⟨fun i m σ H=>m=min xs.length ys.length - i/\i<=min xs.length ys.length/\Pv i σ H,⟨_,rfl,Nat.zero_le _,h0⟩,?_⟩;rintro i m σ H ⟨rfl,hi,p⟩;obtain ⟨q1,q2⟩:=hl i σ H p;by_cases hlt:i<min xs.length ys.length
 . refine .inr ⟨⟨xs,ys,xs[i]'(by omega),ys[i]'(by omega),q1,q2,List.getElem?_eq_getElem (by omega),List.getElem?_eq_getElem (by omega)⟩,Pv (i+1),fun σ' H' p'=>⟨min xs.length ys.length - (i+1),by omega,rfl,hlt,p'⟩,fun x H' y=>?_⟩;obtain ⟨p',x',y',hp,rfl,rfl,e1,e2⟩:=y;exact hs i x' y' σ H p' (e1 xs q1) (e2 ys q2) p hp
 . have e:i=min xs.length ys.length:=by omega
   subst e;exact .inl ⟨⟨xs,ys,q1,q2,by omega⟩,hd σ H p⟩
end L2
set_option linter.all false
namespace Pb
structure Road where
 a:Int
 b:Int
 t:Int
 u:Int
 deriving DecidableEq
def Rj (m:Int) (rs:List Road):Prop:=∀ S:Int->Prop,S 0->(∀ r∈rs,(S r.a↔S r.b))->∀ v,0<=v->v<m->S v
structure RoadOk (m:Int) (r:Road):Prop where
 a0:0<=r.a
 a1:r.a<m
 b0:0<=r.b
 b1:r.b<m
 ne:r.a≠r.b
 t0:2<=r.t
 t1:r.t<=1000000
 u0:2<=r.u
 u1:r.u<=1000000
structure Good (m:Int) (rs:List Road):Prop where
 m1:1<=m
 m24:m<=24
 len:(rs.length:Int)=m - 1
 ok:∀ r∈rs,RoadOk m r
 jn:Rj m rs
theorem qL {α:Type} [DecidableEq α]:∀ {l l':List α},l.Nodup->(∀ x∈l,x∈l')->l.length<=l'.length
 | [],_,_,_=>Nat.zero_le _
 | x::r,l',hn,hs=>by
   obtain ⟨h1,h2⟩:=List.nodup_cons.mp hn;have hx:x∈l':=hs x List.mem_cons_self;have:r.length<=(l'.erase x).length:=qL h2 fun y hy=>(List.mem_erase_of_ne (fun (e:y=x)=>h1 (by rw [<- e];exact hy))).mpr (hs y (List.mem_cons_of_mem _ hy));rw [List.length_erase_of_mem hx] at this;have hp:0<l'.length:=List.length_pos_of_mem hx;rw [List.length_cons];omega
def below (n:Nat):List Int:=(List.range n).map fun (k:Nat)=>(k:Int)
theorem bh {n:Nat} {v:Int}:v∈below n↔0<=v/\v<n:=by
 unfold below;rw [List.mem_map]
 constructor
 . rintro ⟨k,hk,rfl⟩;have:=List.mem_range.mp hk;omega
 . rintro ⟨h0,h1⟩;exact ⟨v.toNat,List.mem_range.mpr (by omega),by omega⟩
theorem aD (n:Nat):(below n).length=n:=by simp [below]
theorem eu (n:Nat):(below n).Nodup:=by
 unfold below;refine List.Pairwise.map _ (fun a b h=>?_) (List.nodup_range (n:=n));intro e;exact h (by omega)
theorem dv {m:Int} {l:List Int} (hm:0<=m) (hn:l.Nodup) (h:∀ x∈l,0<=x/\x<m):(l.length:Int)<=m:=by
 have:=qL (l':=below m.toNat) hn fun x hx=>bh.mpr ⟨(h x hx).1,by have:=(h x hx).2;omega⟩;rw [aD] at this;omega
theorem UL {m:Int} {l:List Int} (hm:0<=m) (h:∀ v,0<=v->v<m->v∈l):m<=(l.length:Int):=by
 have:=qL (l:=below m.toNat) (l':=l) (eu _) fun x hx=>by
   obtain ⟨h0,h1⟩:=bh.mp hx;exact h x h0 (by omega)
 rw [aD] at this;omega
def vE (p:Int) (r:Road):List Int:=(if r.a=p then [r.b] else [])++(if r.b=p then [r.a] else [])
def cB (rs:List Road) (p:Int):List Int:=rs.flatMap (vE p)
theorem uP {rs:List Road} {p e:Int}:e∈cB rs p↔∃ r∈rs,(r.a=p/\r.b=e)\/(r.b=p/\r.a=e):=by
 unfold cB vE;rw [List.mem_flatMap]
 constructor
 . rintro ⟨r,hr,h⟩;refine ⟨r,hr,?_⟩;rcases List.mem_append.mp h with h|h
   . by_cases c:r.a=p
     . rw [if_pos c] at h;exact .inl ⟨c,(List.mem_singleton.mp h).symm⟩
     . rw [if_neg c] at h;cases h
   . by_cases c:r.b=p
     . rw [if_pos c] at h;exact .inr ⟨c,(List.mem_singleton.mp h).symm⟩
     . rw [if_neg c] at h;cases h
 . rintro ⟨r,hr,h⟩;refine ⟨r,hr,List.mem_append.mpr ?_⟩;rcases h with ⟨h1,h2⟩|⟨h1,h2⟩
   . exact .inl (by rw [if_pos h1,h2];exact List.mem_singleton.mpr rfl)
   . exact .inr (by rw [if_pos h1,h2];exact List.mem_singleton.mpr rfl)
theorem Kq (rs:List Road) (p:Int):(cB rs p).length<=2*rs.length:=by
 unfold cB
 induction rs with
 | nil=>simp
 | cons r rs ih =>
   rw [List.flatMap_cons,List.length_append,List.length_cons];have:(vE p r).length<=2:=by
     unfold vE;rw [List.length_append];by_cases c:r.a=p <;> by_cases d:r.b=p <;> simp [c,d]
   omega
theorem vH (rs:List Road) (r:Road) (p:Int):cB (rs++[r]) p=cB rs p++vE p r:=by
 unfold cB;rw [List.flatMap_append];simp
def Et (c:List Int × List Int) (e:Int):List Int × List Int:=if e∈c.1 then c else (c.1++[e],c.2++[e])
structure JInv (m:Int) (rs:List Road) (ks ws:List Int):Prop where
 nd:ks.Nodup
 zero:0∈ks
 rng:∀ k∈ks,0<=k/\k<m
 sub:∀ w∈ws,w∈ks
 cl:∀ k∈ks,k ∉ ws->∀ e∈cB rs k,e∈ks
 wl:ws.length<=ks.length
theorem Pd {l:List Int} {e:Int} (h:l.Nodup) (he:e ∉ l):(l++[e]).Nodup:=by
 rw [List.nodup_append];refine ⟨h,by simp,fun a ha b hb=>?_⟩;rw [List.mem_singleton.mp hb];exact fun z=>he (z ▸ ha)
structure JMid (m:Int) (rs:List Road) (p:Int) (es ks ws ks0:List Int) (n0:Nat):Prop where
 nd:ks.Nodup
 zero:0∈ks
 rng:∀ k∈ks,0<=k/\k<m
 sub:∀ w∈ws,w∈ks
 cl:∀ k∈ks,k ∉ ws->k=p\/∀ e∈cB rs k,e∈ks
 seen:∀ e∈es,e∈ks
 pin:p∈ks
 mu:ks.length+n0=ks0.length+ws.length
 up:ks0.length<=ks.length
 wl:ws.length<=ks.length
theorem JMid.start {m:Int} {rs:List Road} {ks ws:List Int} {p:Int} (h:JInv m rs ks (ws++[p])):JMid m rs p [] ks ws ks ws.length where
 nd:=h.nd
 zero:=h.zero
 rng:=h.rng
 sub:=fun w hw=>h.sub w (List.mem_append_left _ hw)
 cl:=fun k hk hw=>by
   by_cases e:k=p
   . exact .inl e
   . exact .inr (h.cl k hk fun z=>by
       rcases List.mem_append.mp z with z|z
       . exact hw z
       . exact e (List.mem_singleton.mp z))
 seen:=fun e he=>by cases he
 pin:=h.sub p (List.mem_append_right _ (List.mem_singleton.mpr rfl))
 mu:=rfl
 up:=Nat.le_refl _
 wl:=by have:=h.wl;rw [List.length_append] at this;simp at this;omega
theorem JMid.step {m:Int} {rs:List Road} {p:Int} {es ks ws ks0:List Int} {n0:Nat} {e:Int} (h:JMid m rs p es ks ws ks0 n0) (h0:0<=e) (h1:e<m) :
   JMid m rs p (es++[e]) (Et (ks,ws) e).1 (Et (ks,ws) e).2 ks0 n0:=by
 unfold Et;by_cases c:e∈ks
 . rw [if_pos c];refine ⟨h.nd,h.zero,h.rng,h.sub,h.cl,fun x hx=>?_,h.pin,h.mu,h.up,h.wl⟩;rcases List.mem_append.mp hx with z|z
   . exact h.seen x z
   . rw [List.mem_singleton.mp z];exact c
 . rw [if_neg c];dsimp only;refine ⟨Pd h.nd c,List.mem_append_left _ h.zero,fun k hk=>?_,fun w hw=>?_,fun k hk hw=>?_,fun x hx=>?_,List.mem_append_left _ h.pin,?_,by have:=h.up;simp;omega,by have:=h.wl;simp;exact this⟩
   . rcases List.mem_append.mp hk with z|z
     . exact h.rng k z
     . rw [List.mem_singleton.mp z];exact ⟨h0,h1⟩
   . rcases List.mem_append.mp hw with z|z
     . exact List.mem_append_left _ (h.sub w z)
     . exact List.mem_append_right _ z
   . rcases List.mem_append.mp hk with z|z
     . rcases h.cl k z fun y=>hw (List.mem_append_left _ y) with y|y
       . exact .inl y
       . exact .inr fun x hx=>List.mem_append_left _ (y x hx)
     . exact absurd (List.mem_append_right _ z) hw
   . rcases List.mem_append.mp hx with z|z
     . exact List.mem_append_left _ (h.seen x z)
     . exact List.mem_append_right _ z
   . have:=h.mu;simp only [List.length_append,List.length_cons,List.length_nil];omega
theorem JMid.done {m:Int} {rs:List Road} {p:Int} {ks ws ks0:List Int} {n0:Nat} (h:JMid m rs p (cB rs p) ks ws ks0 n0):JInv m rs ks ws where
 nd:=h.nd
 zero:=h.zero
 rng:=h.rng
 sub:=h.sub
 cl:=fun k hk hw=>by
   rcases h.cl k hk hw with z|z
   . rw [z];exact h.seen
   . exact z
 wl:=h.wl
theorem JInv.start {m:Int} {rs:List Road} (hm:1<=m):JInv m rs [0] [0] where
 nd:=by simp
 zero:=by simp
 rng:=fun k hk=>by rw [List.mem_singleton.mp hk];omega
 sub:=fun w hw=>hw
 cl:=fun k hk hw=>absurd hk hw
 wl:=by simp
theorem JInv.all {m:Int} {rs:List Road} {ks:List Int} (h:JInv m rs ks []) (hm:1<=m) (j:Rj m rs):(ks.length:Int)=m:=by
 have up:=dv (by omega) h.nd h.rng;have:∀ v,0<=v->v<m->v∈ks:=j (fun v=>v∈ks) h.zero fun r hr=>by
   constructor
   . intro ha;exact h.cl r.a ha (by simp) r.b (uP.mpr ⟨r,hr,.inl ⟨rfl,rfl⟩⟩)
   . intro hb;exact h.cl r.b hb (by simp) r.a (uP.mpr ⟨r,hr,.inr ⟨rfl,rfl⟩⟩)
 have:=UL (by omega) this;omega
theorem Ut {m:Int} {rs:List Road} (h:∀ r∈rs,RoadOk m r) {p e:Int} (he:e∈cB rs p):0<=e/\e<m:=by
 obtain ⟨r,hr,z⟩:=uP.mp he;have k:=h r hr;rcases z with ⟨_,rfl⟩|⟨_,rfl⟩
 . exact ⟨k.b0,k.b1⟩
 . exact ⟨k.a0,k.a1⟩
structure Row where
 k:Int
 un:Int
 t:Int
 u:Int
 sw:Int
 sp:Int
structure RowOk (r:Row):Prop where
 u0:0<=r.un
 u1:r.un<r.k
 t0:2<=r.t
 t1:r.t<=1000000
 v0:2<=r.u
 v1:r.u<=1000000
 s0:0<=r.sp
 s1:r.sp<r.k
structure Rows (n:Nat) (rows:List Row):Prop where
 len:rows.length=n
 ok:∀ (i:Nat) (r:Row),rows[i]?=some r->r.k=(i:Int)+1/\RowOk r
structure Labels (n:Nat) (ls:List Int):Prop where
 len:ls.length=n
 nd:ls.Nodup
 all:∀ v:Int,0<=v->v<n->v∈ls
 rng:∀ v∈ls,0<=v/\v<n
theorem Labels.nil:Labels 0 []:=⟨rfl,by simp,fun v h0 h1=>(by omega),fun v h=>(by cases h)⟩
theorem tP {α:Type} {l:List α} {k:Nat} {x y:α}:y∈l.take k++x::l.drop k↔y=x\/y∈l:=by
 rw [List.mem_append,List.mem_cons]
 constructor
 . rintro (h|h|h)
   . exact .inr (List.mem_of_mem_take h)
   . exact .inl h
   . exact .inr (List.mem_of_mem_drop h)
 . rintro (h|h)
   . exact .inr (.inl h)
   . rw [<- List.take_append_drop k l] at h;rcases List.mem_append.mp h with z|z
     . exact .inl z
     . exact .inr (.inr z)
theorem Labels.put {n:Nat} {ls:List Int} (h:Labels n ls) (k:Nat) (hk:k<=n):Labels (n+1) (ls.take k++(n:Int)::ls.drop k) where
 len:=by
   rw [List.length_append,List.length_cons,List.length_take,List.length_drop,h.len];omega
 nd:=by
   have p:(ls.take k++(n:Int)::ls.drop k).Perm ((n:Int)::ls):=by
     refine List.perm_middle.trans ?_;rw [List.take_append_drop]
   refine p.nodup_iff.mpr (List.nodup_cons.mpr ⟨fun z=>?_,h.nd⟩);have:=(h.rng _ z).2;omega
 all:=fun v h0 h1=>by
   rw [tP];by_cases e:v=n
   . exact .inl e
   . exact .inr (h.all v h0 (by omega))
 rng:=fun v hv=>by
   rcases tP.mp hv with z|z
   . omega
   . have:=h.rng v z;omega
def pA (ls:List Int) (r:Row):Road:=if r.sw=1 then ⟨ls.getD r.un.toNat 0,ls.getD r.k.toNat 0,r.t,r.u⟩ else ⟨ls.getD r.k.toNat 0,ls.getD r.un.toNat 0,r.t,r.u⟩
structure Put (ls:List Int) (rows:List Row) (rs:List Road):Prop where
 len:rs.length=rows.length
 of:∀ r∈rs,∃ w∈rows,r=pA ls w
 to:∀ w∈rows,pA ls w∈rs
theorem Put.nil (ls:List Int):Put ls [] []:=⟨rfl,fun r h=>(by cases h),fun r h=>(by cases h)⟩
theorem Put.step {ls:List Int} {rows:List Row} {rs:List Road} (h:Put ls rows rs) (w:Row) (k:Nat):Put ls (rows++[w]) (rs.take k++pA ls w::rs.drop k) where
 len:=by
   rw [List.length_append,List.length_cons,List.length_take,List.length_drop,List.length_append,h.len];simp;omega
 of:=fun r hr=>by
   rcases tP.mp hr with z|z
   . exact ⟨w,by simp,z⟩
   . obtain ⟨w',hw,e⟩:=h.of r z;exact ⟨w',List.mem_append_left _ hw,e⟩
 to:=fun w' hw=>by
   rw [tP];rcases List.mem_append.mp hw with z|z
   . exact .inr (h.to w' z)
   . exact .inl (by rw [List.mem_singleton.mp z])
theorem tW {ls:List Int} {n:Nat} (h:Labels n ls) {i:Nat} (hi:i<n):ls[i]?=some (ls.getD i 0):=by
 have:i<ls.length:=by rw [h.len];exact hi
 simp [List.getD,List.getElem?_eq_getElem this]
theorem Kn {ls:List Int} {n:Nat} (h:Labels n ls) {i:Nat} (hi:i<n):ls.getD i 0∈ls:=List.mem_of_getElem? (tW h hi)
theorem Sq {ls:List Int} {n:Nat} (h:Labels n ls) {i j:Nat} (hi:i<n) (hj:j<n) (e:ls.getD i 0=ls.getD j 0):i=j:=by
 have h1:i<ls.length:=by rw [h.len];exact hi
 have h2:j<ls.length:=by rw [h.len];exact hj
 have e1:=tW h hi;have e2:=tW h hj;rw [e] at e1;have e3:ls[i]'h1=ls[j]'h2:=by
   rw [List.getElem?_eq_getElem h1] at e1;rw [List.getElem?_eq_getElem h2] at e2;exact Option.some.inj (e1.trans e2.symm)
 have nd:=List.pairwise_iff_getElem.mp h.nd;rcases Nat.lt_trichotomy i j with z|z|z
 . exact absurd e3 (nd i j h1 h2 z)
 . exact z
 . exact absurd e3.symm (nd j i h2 h1 z)
theorem VP {n:Nat} {ls:List Int} {rows:List Row} {rs:List Road} (h1:1<=n) (h24:n<=24) (L:Labels n ls) (W:Rows (n - 1) rows) (P:Put ls rows rs):Good n rs where
 m1:=by omega
 m24:=by omega
 len:=by rw [P.len,W.len];omega
 ok:=fun r hr=>by
   obtain ⟨w,hw,rfl⟩:=P.of r hr;obtain ⟨i,hi⟩:=List.getElem?_of_mem hw;obtain ⟨ek,ok⟩:=W.ok i w hi;have hil:i<rows.length:=(List.getElem?_eq_some_iff.mp hi).1;rw [W.len] at hil;have hk:w.k.toNat<n:=by omega
   have hu:w.un.toNat<n:=by have:=ok.u0;have:=ok.u1;omega
   have r1:=L.rng _ (Kn L hk);have r2:=L.rng _ (Kn L hu);have ne:ls.getD w.k.toNat 0≠ls.getD w.un.toNat 0:=fun e=>by
     have:=Sq L hk hu e;have:=ok.u0;have:=ok.u1;omega
   unfold pA;by_cases c:w.sw=1
   . rw [if_pos c];exact ⟨r2.1,r2.2,r1.1,r1.2,ne.symm,ok.t0,ok.t1,ok.v0,ok.v1⟩
   . rw [if_neg c];exact ⟨r1.1,r1.2,r2.1,r2.2,ne,ok.t0,ok.t1,ok.v0,ok.v1⟩
 jn:=by
   intro S s0 hS;have key:∀ i:Nat,i<n->(S (ls.getD i 0)↔S (ls.getD 0 0)):=by
     intro i
     induction i using Nat.strongRecOn with
     | ind i ih =>
       intro hi;by_cases z:i=0
       . rw [z]
       . have hil:i - 1<rows.length:=(by rw [W.len];omega);obtain ⟨ek,ok⟩:=W.ok (i - 1) rows[i - 1] (List.getElem?_eq_getElem hil);have hm:=P.to rows[i - 1] (List.getElem_mem hil);have hr:=hS _ hm;have hk:(rows[i - 1]).k.toNat=i:=(by omega);have hu:(rows[i - 1]).un.toNat<i:=(by have:=ok.u0;have:=ok.u1;omega);have hh:=ih _ hu (by omega);unfold pA at hr;rw [hk] at hr;by_cases c:(rows[i - 1]).sw=1
         . rw [if_pos c] at hr;exact hr.symm.trans hh
         . rw [if_neg c] at hr;exact hr.trans hh
   have at_:∀ v,0<=v->v<(n:Int)->∃ i,i<n/\ls.getD i 0=v:=fun v h0 h1=>by
     obtain ⟨i,hi⟩:=List.getElem?_of_mem (L.all v h0 h1);have hil:i<n:=(by have:=(List.getElem?_eq_some_iff.mp hi).1;rw [L.len] at this;exact this);refine ⟨i,hil,?_⟩;have:=tW L hil;rw [hi] at this;exact (Option.some.inj this).symm
   intro v h0 hv;obtain ⟨i,hi,rfl⟩:=at_ v h0 hv;obtain ⟨j,hj,ej⟩:=at_ 0 (by omega) (by omega);refine (key i hi).mpr ((key j hj).mp ?_);rw [ej];exact s0
end Pb
set_option linter.all false
namespace Pb
def Adj (rs:List Road) (a b:Int):Prop:=∃ x∈rs,(x.a=a/\x.b=b)\/(x.b=a/\x.a=b)
theorem Adj.symm {rs:List Road} {a b:Int} (h:Adj rs a b):Adj rs b a:=by
 obtain ⟨x,hx,h⟩:=h;rcases h with ⟨h1,h2⟩|⟨h1,h2⟩
 . exact ⟨x,hx,.inr ⟨h2,h1⟩⟩
 . exact ⟨x,hx,.inl ⟨h2,h1⟩⟩
theorem DL {rs:List Road} {a b:Int}:b∈cB rs a↔Adj rs a b:=uP
theorem Good.adj {m:Int} {rs:List Road} (g:Good m rs) {a b:Int} (h:Adj rs a b):(0<=a/\a<m)/\(0<=b/\b<m)/\a≠b:=by
 obtain ⟨x,hx,h⟩:=h;have k:=g.ok x hx;rcases h with ⟨h1,h2⟩|⟨h1,h2⟩
 . subst h1 h2;exact ⟨⟨k.a0,k.a1⟩,⟨k.b0,k.b1⟩,k.ne⟩
 . subst h1 h2;exact ⟨⟨k.b0,k.b1⟩,⟨k.a0,k.a1⟩,k.ne.symm⟩
theorem Good.from {m:Int} {rs:List Road} (g:Good m rs) {r:Int} (h0:0<=r) (h1:r<m) (S:Int->Prop) (sr:S r) (hS:∀ x∈rs,(S x.a↔S x.b)):∀ v,0<=v->v<m->S v:=by
 have key:∀ v,0<=v->v<m->(S v↔S 0):=g.jn (fun v=>S v↔S 0) Iff.rfl fun x hx=>by
   have:=hS x hx;exact ⟨fun h=>this.symm.trans h,fun h=>this.trans h⟩
 intro v a b;exact (key v a b).mpr ((key r h0 h1).mp sr)
inductive Dist (rs:List Road) (r:Int):Nat->Int->Prop
 | zero:Dist rs r 0 r
 | step {n:Nat} {u v:Int}:Dist rs r n u->Adj rs u v->Dist rs r (n+1) v
theorem Ip {P:Nat->Prop}:∀ n,P n->∃ k,P k/\∀ j,j<k->¬ P j:=by
 intro n
 induction n using Nat.strongRecOn with
 | ind n ih =>
   intro h;by_cases z:∃ j,j<n/\P j
   . obtain ⟨j,hj,hp⟩:=z;exact ih j hj hp
   . exact ⟨n,h,fun j hj hp=>z ⟨j,hj,hp⟩⟩
structure Rooted (m:Int) (rs:List Road) (r:Int) (par:Int->Int) (dep:Int->Nat):Prop where
 root:dep r=0
 up:∀ v,0<=v->v<m->v≠r->(0<=par v/\par v<m)/\Adj rs v (par v)/\dep (par v)+1=dep v
 road:∀ x∈rs,(x.a≠r/\par x.a=x.b)\/(x.b≠r/\par x.b=x.a)
 one:(rs.map fun x=>if x.a≠r/\par x.a=x.b then x.a else x.b).Nodup
theorem VN {n:Nat} {l:List Nat} (hn:l.Nodup) (hl:l.length=n) (hb:∀ x∈l,x<n):∀ i,i<n->i∈l:=by
 intro i hi;by_cases z:i∈l
 . exact z
 . have:=qL (l:=i::l) (l':=List.range n) (List.nodup_cons.mpr ⟨z,hn⟩) fun x hx=>by
     rcases List.mem_cons.mp hx with rfl|hx
     . exact List.mem_range.mpr hi
     . exact List.mem_range.mpr (hb x hx)
   rw [List.length_cons,List.length_range] at this;omega
theorem pD {m:Int} {rs:List Road} (g:Good m rs) {r:Int} (h0:0<=r) (h1:r<m):∃ par dep,Rooted m rs r par dep:=by
 classical
 have reach:∀ v,0<=v->v<m->∃ n,Dist rs r n v:=g.from h0 h1 (fun v=>∃ n,Dist rs r n v) ⟨0,.zero⟩ fun x hx=>by
   constructor
   . rintro ⟨n,d⟩;exact ⟨n+1,d.step ⟨x,hx,.inl ⟨rfl,rfl⟩⟩⟩
   . rintro ⟨n,d⟩;exact ⟨n+1,d.step ⟨x,hx,.inr ⟨rfl,rfl⟩⟩⟩
 have hd:∀ v,∃ k,(0<=v/\v<m)->Dist rs r k v/\∀ j,j<k->¬ Dist rs r j v:=fun v=>by
   by_cases z:0<=v/\v<m
   . obtain ⟨n,d⟩:=reach v z.1 z.2;obtain ⟨k,h⟩:=Ip (P:=fun k=>Dist rs r k v) n d;exact ⟨k,fun _=>h⟩
   . exact ⟨0,fun h=>absurd h z⟩
 let dep:Int->Nat:=fun v=>(hd v).choose
 have dspec:∀ v,0<=v->v<m->Dist rs r (dep v) v/\∀ j,j<dep v->¬ Dist rs r j v:=fun v a b=>(hd v).choose_spec ⟨a,b⟩;have dr:dep r=0:=by
   have:=(dspec r h0 h1).2 0;by_cases z:dep r=0
   . exact z
   . exact absurd Dist.zero (this (by omega))
 have hp:∀ v,∃ u,(0<=v/\v<m/\v≠r)->Adj rs v u/\dep u+1=dep v:=fun v=>by
   by_cases z:0<=v/\v<m/\v≠r
   . obtain ⟨a,b,c⟩:=z;obtain ⟨d,dm⟩:=dspec v a b;generalize hk:dep v=k at d dm;cases d with
     | zero=>exact absurd rfl c
     | @step n u _ d e =>
       refine ⟨u,fun _=>⟨e.symm,?_⟩⟩;obtain ⟨⟨u0,u1⟩,_⟩:=g.adj e;have l1:dep u<=n:=by
         by_cases w:dep u<=n
         . exact w
         . exact absurd d ((dspec u u0 u1).2 n (by omega))
       have l2:¬ dep u<n:=fun w=>dm (dep u+1) (by omega) ((dspec u u0 u1).1.step e);omega
   . exact ⟨0,fun h=>absurd h z⟩
 let par:Int->Int:=fun v=>(hp v).choose
 have pspec:∀ v,0<=v->v<m->v≠r->Adj rs v (par v)/\dep (par v)+1=dep v:=fun v a b c=>(hp v).choose_spec ⟨a,b,c⟩;have hi:∀ v,∃ i:Nat,(0<=v/\v<m/\v≠r)->∃ x,rs[i]?=some x/\((x.a=v/\x.b=par v)\/(x.b=v/\x.a=par v)):=fun v=>by
   by_cases z:0<=v/\v<m/\v≠r
   . obtain ⟨x,hx,h⟩:=(pspec v z.1 z.2.1 z.2.2).1;obtain ⟨i,e⟩:=List.getElem?_of_mem hx;exact ⟨i,fun _=>⟨x,e,h⟩⟩
   . exact ⟨0,fun h=>absurd h z⟩
 let ix:Int->Nat:=fun v=>(hi v).choose
 have ispec:∀ v,0<=v->v<m->v≠r->∃ x,rs[ix v]?=some x/\((x.a=v/\x.b=par v)\/(x.b=v/\x.a=par v)):=fun v a b c=>(hi v).choose_spec ⟨a,b,c⟩;have inj:∀ v u,0<=v->v<m->v≠r->0<=u->u<m->u≠r->ix v=ix u->v=u:=by
   intro v u a b c a' b' c' e;obtain ⟨x,hx,h⟩:=ispec v a b c;obtain ⟨y,hy,h'⟩:=ispec u a' b' c';rw [e,hy] at hx;cases hx;have d1:=(pspec v a b c).2;have d2:=(pspec u a' b' c').2;rcases h with ⟨p,q⟩|⟨p,q⟩ <;> rcases h' with ⟨p',q'⟩|⟨p',q'⟩
   . exact p.symm.trans p'
   . exfalso
     have e1:v=par u:=p.symm.trans q';have e2:u=par v:=p'.symm.trans q;rw [<- e1] at d2;rw [<- e2] at d1;omega
   . exfalso
     have e1:v=par u:=p.symm.trans q';have e2:u=par v:=p'.symm.trans q;rw [<- e1] at d2;rw [<- e2] at d1;omega
   . exact p.symm.trans p'
 let vs:List Int:=(below m.toNat).filter fun v=>decide (v≠r)
 have mv:∀ v,v∈vs↔(0<=v/\v<m/\v≠r):=fun v=>by
   rw [List.mem_filter,bh,decide_eq_true_eq]
   constructor
   . rintro ⟨⟨a,b⟩,c⟩;exact ⟨a,by omega,c⟩
   . rintro ⟨a,b,c⟩;exact ⟨⟨a,by omega⟩,c⟩
 have nv:vs.Nodup:=(eu _).filter _;have lv:vs.length=rs.length:=by
   have e1:(r::vs).length<=(below m.toNat).length:=qL (List.nodup_cons.mpr ⟨fun h=>((mv r).mp h).2.2 rfl,nv⟩) fun x hx=>by
     rcases List.mem_cons.mp hx with rfl|hx
     . exact bh.mpr ⟨h0,by omega⟩
     . have:=(mv x).mp hx;exact bh.mpr ⟨this.1,by omega⟩
   have e2:(below m.toNat).length<=(r::vs).length:=qL (eu _) fun x hx=>by
     have:=bh.mp hx;by_cases z:x=r
     . rw [z];exact List.mem_cons_self
     . exact List.mem_cons_of_mem _ ((mv x).mpr ⟨this.1,by omega,z⟩)
   rw [aD,List.length_cons] at e1 e2;have:=g.len;have:=g.m1;omega
 have il:(vs.map ix).Nodup:=by
   have:∀ (l:List Int),l.Nodup->(∀ v∈l,0<=v/\v<m/\v≠r)->(l.map ix).Nodup:=by
     intro l
     induction l with
     | nil=>intro _ _;simp
     | cons v l ih =>
       intro hn hm;obtain ⟨n1,n2⟩:=List.nodup_cons.mp hn;rw [List.map_cons];refine List.nodup_cons.mpr ⟨fun z=>?_,ih n2 fun u hu=>hm u (List.mem_cons_of_mem _ hu)⟩;obtain ⟨u,hu,e⟩:=List.mem_map.mp z;obtain ⟨a,b,c⟩:=hm v List.mem_cons_self;obtain ⟨a',b',c'⟩:=hm u (List.mem_cons_of_mem _ hu);exact n1 (inj u v a' b' c' a b c e ▸ hu)
   exact this vs nv fun v hv=>(mv v).mp hv
 have ib:∀ i∈vs.map ix,i<rs.length:=fun i hi'=>by
   obtain ⟨v,hv,rfl⟩:=List.mem_map.mp hi';obtain ⟨a,b,c⟩:=(mv v).mp hv;obtain ⟨x,hx,_⟩:=ispec v a b c;exact (List.getElem?_eq_some_iff.mp hx).1
 have all:=VN il (by rw [List.length_map,lv]) ib;have back:∀ i x,rs[i]?=some x->∃ v,(0<=v/\v<m/\v≠r)/\ix v=i/\((x.a=v/\x.b=par v)\/(x.b=v/\x.a=par v)):=fun i x e=>by
   obtain ⟨v,hv,rfl⟩:=List.mem_map.mp (all i (List.getElem?_eq_some_iff.mp e).1);obtain ⟨a,b,c⟩:=(mv v).mp hv;obtain ⟨y,hy,h⟩:=ispec v a b c;rw [e] at hy;cases hy;exact ⟨v,⟨a,b,c⟩,rfl,h⟩
 have noback:∀ v,0<=v->v<m->v≠r->par v≠r->par (par v)≠v:=fun v a b c c' z=>by
   have d1:=pspec v a b c;obtain ⟨_,⟨a',b'⟩,_⟩:=g.adj d1.1;have d2:=pspec (par v) a' b' c';rw [z] at d2;omega
 have kid:∀ i x,rs[i]?=some x->∃ v,(0<=v/\v<m/\v≠r)/\ix v=i/\(if x.a≠r/\par x.a=x.b then x.a else x.b)=v:=fun i x e=>by
   obtain ⟨v,⟨a,b,c⟩,hv,h⟩:=back i x e;refine ⟨v,⟨a,b,c⟩,hv,?_⟩;rcases h with ⟨p,q⟩|⟨p,q⟩
   . rw [if_pos ⟨by rw [p];exact c,by rw [p];exact q.symm⟩];exact p
   . rw [if_neg]
     . exact p
     . rintro ⟨z1,z2⟩;rw [q] at z1 z2;exact noback v a b c z1 (z2.trans p)
 refine ⟨par,dep,dr,fun v a b c=>?_,fun x hx=>?_,?_⟩
 . obtain ⟨p,q⟩:=pspec v a b c;obtain ⟨_,w,_⟩:=g.adj p;exact ⟨w,p,q⟩
 . obtain ⟨i,e⟩:=List.getElem?_of_mem hx;obtain ⟨v,⟨a,b,c⟩,_,h⟩:=back i x e;rcases h with ⟨p,q⟩|⟨p,q⟩
   . exact .inl ⟨by rw [p];exact c,by rw [p];exact q.symm⟩
   . exact .inr ⟨by rw [p];exact c,by rw [p];exact q.symm⟩
 . refine List.pairwise_iff_getElem.mpr fun i j hi' hj' lt=>?_;rw [List.length_map] at hi' hj';rw [List.getElem_map,List.getElem_map];intro z;obtain ⟨v,_,e1,k1⟩:=kid i rs[i] (List.getElem?_eq_getElem hi');obtain ⟨u,_,e2,k2⟩:=kid j rs[j] (List.getElem?_eq_getElem hj');rw [k1,k2] at z;rw [z] at e1;omega
theorem Oc {m:Int} {rs:List Road} (g:Good m rs) {p:Int} (h0:0<=p) (h1:p<m):(cB rs p).Nodup:=by
 obtain ⟨par,dep,R⟩:=pD g h0 h1;have one:=R.one;have ok:=g.ok;have road:=R.road;clear R g
 induction rs with
 | nil=>simp [cB]
 | cons x l ih =>
   have ox:=ok x List.mem_cons_self;have ol:∀ y∈l,RoadOk m y:=fun y hy=>ok y (List.mem_cons_of_mem _ hy);rw [List.map_cons] at one;obtain ⟨n1,n2⟩:=List.nodup_cons.mp one;have il:=ih n2 ol fun y hy=>road y (List.mem_cons_of_mem _ hy);have e:cB (x::l) p=vE p x++cB l p:=by unfold cB;rw [List.flatMap_cons]
   rw [e];have kid:∀ y,RoadOk m y->((y.a≠p/\par y.a=y.b)\/(y.b≠p/\par y.b=y.a))->(y.a=p->(if y.a≠p/\par y.a=y.b then y.a else y.b)=y.b)/\(y.b=p->(if y.a≠p/\par y.a=y.b then y.a else y.b)=y.a):=fun y oy hy=>by
     constructor
     . intro z;rw [if_neg (fun w=>w.1 z)]
     . intro z;rcases hy with hy|hy
       . rw [if_pos hy]
       . exact absurd z hy.1
   have kx:=kid x ox (road x List.mem_cons_self);have inl:∀ e∈cB l p,e∈l.map fun y=>if y.a≠p/\par y.a=y.b then y.a else y.b:=fun e he=>by
     obtain ⟨y,hy,h⟩:=uP.mp he;have ky:=kid y (ol y hy) (road y (List.mem_cons_of_mem _ hy));refine List.mem_map.mpr ⟨y,hy,?_⟩;rcases h with ⟨p1,q1⟩|⟨p1,q1⟩
     . rw [ky.1 p1];exact q1
     . rw [ky.2 p1];exact q1
   unfold vE;by_cases c:x.a=p
   . have d:¬ x.b=p:=fun z=>ox.ne (c.trans z.symm);rw [if_pos c,if_neg d,List.append_nil];refine List.nodup_cons.mpr ⟨fun z=>n1 ?_,il⟩;rw [kx.1 c];exact inl _ z
   . rw [if_neg c,List.nil_append];by_cases d:x.b=p
     . rw [if_pos d];refine List.nodup_cons.mpr ⟨fun z=>n1 ?_,il⟩;rw [kx.2 d];exact inl _ z
     . rw [if_neg d];exact il
def bE (m:Int) (rs:List Road) (p:Int):List Int:=(below m.toNat).filter fun q=>decide (q∈cB rs p)
theorem GA:∀ {l l':List Int},l.Perm l'->l.Pairwise (·<=·)->l'.Pairwise (·<=·)->l=l'
 | [],l',p,_,_=>(List.Perm.nil_eq p)
 | a::l,l',p,h,h'=>by
   cases l' with
   | nil=>exact absurd p.symm.nil_eq (by simp)
   | cons b r =>
     obtain ⟨h1,h2⟩:=List.pairwise_cons.mp h;obtain ⟨h1',h2'⟩:=List.pairwise_cons.mp h';have e:a=b:=by
       have ma:a∈b::r:=p.subset List.mem_cons_self;have mb:b∈a::l:=p.symm.subset List.mem_cons_self;rcases List.mem_cons.mp ma with z|z
       . exact z
       . rcases List.mem_cons.mp mb with w|w
         . exact w.symm
         . have:=h1 b w;have:=h1' a z;omega
     subst e;rw [GA (List.Perm.cons_inv p) h2 h2']
theorem KI (n:Nat):(below n).Pairwise (·<=·):=by
 unfold below;refine List.Pairwise.map _ (fun a b (h:a<b)=>?_) List.pairwise_lt_range;omega
theorem Mb (m:Int) (rs:List Road) (p:Int):(bE m rs p).Pairwise (·<=·):=(KI _).filter _
theorem E4 (m:Int) (rs:List Road) (p:Int):(bE m rs p).Nodup:=(eu _).filter _
theorem hV {m:Int} {rs:List Road} (g:Good m rs) {p q:Int}:q∈bE m rs p↔Adj rs p q:=by
 unfold bE;rw [List.mem_filter,decide_eq_true_eq,DL,bh]
 constructor
 . exact fun h=>h.2
 . intro h;obtain ⟨_,⟨a,b⟩,_⟩:=g.adj h;exact ⟨⟨a,by omega⟩,h⟩
theorem nC:∀ {l l':List Int},l.Nodup->l'.Nodup->(∀ x,x∈l↔x∈l')->l.Perm l'
 | [],l',_,_,h=>by
   cases l' with
   | nil=>exact .nil
   | cons b r=>exact absurd ((h b).mpr List.mem_cons_self) (by simp)
 | a::l,l',n,n',h=>by
   obtain ⟨n1,n2⟩:=List.nodup_cons.mp n;have ma:a∈l':=(h a).mp List.mem_cons_self;refine List.Perm.trans (List.Perm.cons a ?_) (List.perm_cons_erase ma).symm;refine nC n2 (n'.erase a) fun x=>?_
   constructor
   . intro hx;have ne:x≠a:=fun z=>n1 (z ▸ hx);exact (List.mem_erase_of_ne ne).mpr ((h x).mp (List.mem_cons_of_mem _ hx))
   . intro hx;have:x≠a:=fun z=>by
       subst z;exact (List.Nodup.not_mem_erase n') hx
     rcases List.mem_cons.mp ((h x).mpr (List.mem_of_mem_erase hx)) with z|z
     . exact absurd z this
     . exact z
theorem Vj {m:Int} {rs:List Road} (g:Good m rs) {p:Int} (h0:0<=p) (h1:p<m) {zs:List Int} (hp:zs.Perm (cB rs p)) (hs:zs.Pairwise (·<=·)):zs=bE m rs p:=by
 refine GA (hp.trans (nC (Oc g h0 h1) (E4 m rs p) fun x=>?_)) hs (Mb m rs p);rw [hV g,DL]
def eR (a b:Int) (x:Road):Option Int:=if x.a=a/\x.b=b then some x.t else if x.a=b/\x.b=a then some x.u else none
def bG (rs:List Road) (a b:Int):Option Int:=rs.findSome? (eR a b)
theorem CU {rs:List Road} {a b:Int}:(bG rs a b).isSome=true↔Adj rs a b:=by
 unfold bG;rw [List.findSome?_isSome_iff]
 constructor
 . rintro ⟨x,hx,h⟩;unfold eR at h;by_cases c:x.a=a/\x.b=b
   . exact ⟨x,hx,.inl c⟩
   . rw [if_neg c] at h;by_cases d:x.a=b/\x.b=a
     . exact ⟨x,hx,.inr ⟨d.2,d.1⟩⟩
     . rw [if_neg d] at h;cases h
 . rintro ⟨x,hx,h⟩;refine ⟨x,hx,?_⟩;unfold eR;rcases h with h|h
   . rw [if_pos h];rfl
   . by_cases c:x.a=a/\x.b=b
     . rw [if_pos c];rfl
     . rw [if_neg c,if_pos ⟨h.2,h.1⟩];rfl
def rC (x:Road) (a b:Int):Prop:=(x.a=a/\x.b=b)\/(x.b=a/\x.a=b)
theorem GW {m:Int} {rs:List Road} (g:Good m rs) {a b:Int} {i j:Nat} {x y:Road} (hi:rs[i]?=some x) (hj:rs[j]?=some y) (jx:rC x a b) (jy:rC y a b):i=j:=by
 obtain ⟨⟨a0,a1⟩,_,_⟩:=g.adj (show Adj rs a b from ⟨x,List.mem_of_getElem? hi,jx⟩);obtain ⟨par,dep,R⟩:=pD g a0 a1;have kid:∀ z∈rs,rC z a b->(if z.a≠a/\par z.a=z.b then z.a else z.b)=b:=fun z hz jz=>by
   rcases jz with ⟨p,q⟩|⟨p,q⟩
   . rw [if_neg (fun w=>w.1 p)];exact q
   . rcases R.road z hz with w|w
     . rw [if_pos w];exact q
     . exact absurd p w.1
 have li:=(List.getElem?_eq_some_iff.mp hi);have lj:=(List.getElem?_eq_some_iff.mp hj);obtain ⟨li,ei⟩:=li;obtain ⟨lj,ej⟩:=lj;have nd:=List.pairwise_iff_getElem.mp R.one;have vi:(rs.map fun z=>if z.a≠a/\par z.a=z.b then z.a else z.b)[i]'(by rw [List.length_map];exact li)=b:=by
   rw [List.getElem_map];exact kid _ (List.getElem_mem li) (ei ▸ jx)
 have vj:(rs.map fun z=>if z.a≠a/\par z.a=z.b then z.a else z.b)[j]'(by rw [List.length_map];exact lj)=b:=by
   rw [List.getElem_map];exact kid _ (List.getElem_mem lj) (ej ▸ jy)
 rcases Nat.lt_trichotomy i j with z|z|z
 . exact absurd (vi.trans vj.symm) (nd i j _ _ z)
 . exact z
 . exact absurd (vj.trans vi.symm) (nd j i _ _ z)
theorem OU {a b:Int} {x:Road} (h:¬ rC x a b):eR a b x=none:=by
 unfold eR;rw [if_neg (fun z=>h (.inl z)),if_neg (fun z=>h (.inr ⟨z.2,z.1⟩))]
theorem oI {m:Int} {rs:List Road} (g:Good m rs) {a b:Int} {i:Nat} {x:Road} (hi:rs[i]?=some x) (j:rC x a b):bG rs a b=eR a b x:=by
 have lt:=(List.getElem?_eq_some_iff.mp hi);obtain ⟨lt,ex⟩:=lt;have e:rs=rs.take i++x::rs.drop (i+1):=by rw [<- ex,List.getElem_cons_drop,List.take_append_drop]
 have pre:bG (rs.take i) a b=none:=by
   unfold bG;rw [List.findSome?_eq_none_iff];intro y hy;refine OU fun jy=>?_;obtain ⟨k,hk⟩:=List.getElem?_of_mem hy;have lk:=(List.getElem?_eq_some_iff.mp hk).1;rw [List.length_take] at lk;rw [List.getElem?_take_of_lt (by omega)] at hk;have:=GW g hk hi jy j;omega
 have hx:(eR a b x).isSome=true:=by
   unfold eR;rcases j with z|z
   . rw [if_pos z];rfl
   . by_cases c:x.a=a/\x.b=b
     . rw [if_pos c];rfl
     . rw [if_neg c,if_pos ⟨z.2,z.1⟩];rfl
 obtain ⟨v,hv⟩:=Option.isSome_iff_exists.mp hx;have:bG (rs.take i++x::rs.drop (i+1)) a b=eR a b x:=by
   unfold bG at pre ⊢;rw [List.findSome?_append,pre,List.findSome?_cons,hv]
   rfl
 rw [<- e] at this;exact this
theorem Rn {rs:List Road} {a b:Int} (h:¬ Adj rs a b):bG rs a b=none:=by
 cases q:bG rs a b with
 | none=>rfl
 | some v=>exact absurd (CU.mp (by rw [q];rfl)) h
theorem Tj {x:Road} (h:x.a≠x.b):eR x.a x.b x=some x.t:=by unfold eR;rw [if_pos ⟨rfl,rfl⟩]
theorem R9 {x:Road} (h:x.a≠x.b):eR x.b x.a x=some x.u:=by unfold eR;rw [if_neg (fun z=>h z.1),if_pos ⟨rfl,rfl⟩]
theorem QM {m:Int} {rs:List Road} (p:Int):bE m rs p=(below m.toNat).filter fun q=>(bG rs p q).isSome:=by
 unfold bE
 congr 1
 funext q
 rw [Bool.eq_iff_iff,decide_eq_true_eq,CU,DL]
section
variable {m:Int} {row:List Int} {rs rs':List Road}
end
end Pb
set_option Elab.async false
set_option linter.all false
set_option maxRecDepth 100000
namespace L2
open PySem PySem.Spec PyProof.Rows
def aK (CX:CXT):Prop:=∀ outer H s e s',¬ CX outer H s E0 e s'
theorem aq {CX:CXT} (q:aK CX) {X:Cx}:ye CX X E0:=fun _ _ _ _ _ _ _ h=>(q _ _ _ _ _ h).elim
structure Df (K:PySem.W.Frag) (mg:Str->Option Value) (x:Str) (st:Stmt) (ps:List Str) (f:Addr) (fd:FuncData):Prop where
 F:Fun K x x st f fd
 m:mg x=some (.ref f)
 b:Binds K fd ps []
section
variable {P:Program} {w:World} {K:PySem.W.Frag} {mg:Str->Option Value} {base:Heap} {CX:CXT}
theorem Fun.okC {x qual:Str} {st:Stmt} {f:Addr} {fd:FuncData} {N ps:List Str} {k:Nat} {sp:Sp} (F:Fun K x qual st f fd) (S:FnScope N ps (aa st)) (len:∀ vs H Q E,sp vs H Q E->vs.length=ps.length)
   (hbody:∀ (cdv:Value) (A:Around) (outer:List Env) (s:Shared) (H:Hp) (vs:List V) (Q:VK) (E:XK),Room k (A.deeper (envOfC qual (aa st) s.heap.objs.size f cdv))->sp vs H Q E ->
     ∃ t,PSs (sQ CX P w K mg base N qual (aa st) f cdv A outer s H E).nox (aw st) t/\t { nx:=fun _ H'=>Q .non H',rt:=Q } (start N vs) H):FnOk P w K mg base CX (k+1) f fd ps sp:=by
 obtain ⟨oc,od,kV,doc,pm,an,cdv,ct,osl,rfl,lk,hcd⟩:=F.ex;refine UV lk hcd S len fun A outer s H vs Q E hr hsp=>?_;obtain ⟨t,h,q⟩:=hbody cdv A outer s H vs Q E hr hsp;exact ⟨t,h.nox,q⟩
end
structure NmL (sc:Scope) (x:Str):Prop where
 l:sc.names.lookup x=some .local
 d:(x == ("__debug__":Str))=false
 c:(x == ("__classdict__":Str))=false
structure NmC (sc:Scope) (x:Str):Prop where
 l:sc.names.lookup x=some .cell
 d:(x == ("__debug__":Str))=false
 c:(x == ("__classdict__":Str))=false
structure NmG (sc:Scope) (x:Str):Prop where
 g:sc.names.lookup x=some .globalImplicit
 d:(x == ("__debug__":Str))=false
 n:x≠"__name__"
theorem us1 {us:List Value} (h:us.length=1):∃ a0,us=[a0]:=List.length_eq_one_iff.mp h
theorem us2 {us:List Value} (h:us.length=2):∃ a0 a1,us=[a0,a1]:=by
 cases us with
 | nil=>cases h
 | cons a0 t =>
   obtain ⟨a1,e⟩:=us1 (Nat.succ.inj h);subst e;exact ⟨a0,a1,rfl⟩
theorem us3 {us:List Value} (h:us.length=3):∃ a0 a1 a2,us=[a0,a1,a2]:=by
 cases us with
 | nil=>cases h
 | cons a0 t =>
   obtain ⟨a1,a2,e⟩:=us2 (Nat.succ.inj h);subst e;exact ⟨a0,a1,a2,rfl⟩
theorem us4 {us:List Value} (h:us.length=4):∃ a0 a1 a2 a3,us=[a0,a1,a2,a3]:=by
 cases us with
 | nil=>cases h
 | cons a0 t =>
   obtain ⟨a1,a2,a3,e⟩:=us3 (Nat.succ.inj h);subst e;exact ⟨a0,a1,a2,a3,rfl⟩
theorem us5 {us:List Value} (h:us.length=5):∃ a0 a1 a2 a3 a4,us=[a0,a1,a2,a3,a4]:=by
 cases us with
 | nil=>cases h
 | cons a0 t =>
   obtain ⟨a1,a2,a3,a4,e⟩:=us4 (Nat.succ.inj h);subst e;exact ⟨a0,a1,a2,a3,a4,rfl⟩
def nmL (sc:Scope) (x:Str):Bool:=decide (sc.names.lookup x=some .local) && !(x == ("__debug__":Str)) && !(x == ("__classdict__":Str))
def nmC (sc:Scope) (x:Str):Bool:=decide (sc.names.lookup x=some .cell) && !(x == ("__debug__":Str)) && !(x == ("__classdict__":Str))
def nmG (sc:Scope) (x:Str):Bool:=decide (sc.names.lookup x=some .globalImplicit) && !(x == ("__debug__":Str)) && !decide (x="__name__")
theorem NmL.of {sc:Scope} {x:Str} (h:nmL sc x=true):NmL sc x:=by
 unfold nmL at h;simp only [Bool.and_eq_true,decide_eq_true_eq,Bool.not_eq_true'] at h;exact ⟨h.1.1,h.1.2,h.2⟩
theorem NmC.of {sc:Scope} {x:Str} (h:nmC sc x=true):NmC sc x:=by
 unfold nmC at h;simp only [Bool.and_eq_true,decide_eq_true_eq,Bool.not_eq_true'] at h;exact ⟨h.1.1,h.1.2,h.2⟩
theorem NmG.of {sc:Scope} {x:Str} (h:nmG sc x=true):NmG sc x:=by
 unfold nmG at h;simp only [Bool.and_eq_true,decide_eq_true_eq,Bool.not_eq_true',decide_eq_false_iff_not] at h;exact ⟨h.1.1,h.1.2,h.2⟩
def WZ (N ps:List Str) (sc:Scope):Bool:=decide (sc.kind=.function) && !sc.isCoroutine && !sc.isGenerator && decide N.Nodup && decide (N.take ps.length=ps) && (ps.all fun x=>decide (sc.names.lookup x=some .local\/sc.names.lookup x=some .cell)) && (sc.names.all fun y=>decide (y.2≠.free))
theorem FnScope.of {N ps:List Str} {sc:Scope} (h:WZ N ps sc=true):FnScope N ps sc:=by
 unfold WZ at h;simp only [Bool.and_eq_true,decide_eq_true_eq,Bool.not_eq_true',List.all_eq_true] at h;obtain ⟨⟨⟨⟨⟨⟨h1,h2⟩,h3⟩,h4⟩,h5⟩,h6⟩,h7⟩:=h;exact ⟨h1,h2,h3,h4,h5,h6,h7⟩
theorem pvl {X:Cx} (i:Nat) {x:Str} {pos:Pos} (n:NmL X.env.scope x) (hN:X.N[i]?=some x:=by rfl):PE X (.Name x pos) (Be i):=Jg hN (.inl n.l) n.d n.c
theorem pvc {X:Cx} (i:Nat) {x:Str} {pos:Pos} (n:NmC X.env.scope x) (hN:X.N[i]?=some x:=by rfl):PE X (.Name x pos) (Be i):=Jg hN (.inr (.inl n.l)) n.d n.c
theorem Q3 {CX:CXT} {P:Program} {w:World} {K:PySem.W.Frag} {mg:Str->Option Value} {base:Heap} {N:List Str} {qual:Str} {scope:Scope} {f:Addr} {cd:Value} {A:Around} {outer:List Env} {s:Shared} {H:Hp} {E:XK} :
   (sQ CX P w K mg base N qual scope f cd A outer s H E).K=K:=rfl
theorem GL (D:Ends) (σ:St) (H:Hp):tNever D σ H=False:=rfl
theorem V2 (i j:Int):ui (.int i) (.int j)=true:=rfl
theorem Vg (i j:Bool):ui (.bl i) (.bl j)=true:=rfl
theorem V1 (i:Int):ui (.int i) .non=true:=rfl
theorem V8 (i:Int):ui .non (.int i)=true:=rfl
theorem VJ:ui .non .non=true:=rfl
theorem V9 (i j:Str):ui (.str i) (.str j)=true:=rfl
theorem ixT {K:PySem.W.Frag} {H:Hp} {p:Addr} {xs:List V} {i:Int} {v:V} {Q:VK} (h:H p=some (.tup xs)) (e:atI xs i=some v) (q:Q v H):Jd K (.ref p) (.int i) H Q:=⟨p,xs,i,v,rfl,rfl,SqT.of h,e,q⟩
theorem ixL {K:PySem.W.Frag} {H:Hp} {p:Addr} {xs:List V} {i:Int} {v:V} {Q:VK} (h:H p=some (.lst xs)) (e:atI xs i=some v) (q:Q v H):NM K (.ref p) (.int i) H Q:=⟨p,xs,i,v,rfl,rfl,SqL.of h,e,q⟩
theorem ixS {K:PySem.W.Frag} {H:Hp} {p:Addr} {xs:List V} {i:Int} {v:V} {Q:VK} (h:SqL K H p xs) (e:atI xs i=some v) (q:Q v H):NM K (.ref p) (.int i) H Q:=⟨p,xs,i,v,rfl,rfl,h,e,q⟩
theorem tyL {K:PySem.W.Frag} {H:Hp} {l:Addr} {xs:List V} (h:H l=some (.lst xs)):tyV K "list" (.ref l) H:=.inl ⟨rfl,_,SqL.of h⟩
theorem sH {H:Hp} {l:Addr} {xs:List V} {y:V} {Q:VK} (h:H l=some (.lst xs)) (hz:xs.length<sizeLine) (q:Q .non (upd H l (.lst (xs++[y])))):rAppend (.ref l) [y] H Q:=⟨l,xs,y,rfl,rfl,h,hz,q⟩
theorem OT {H:Hp} {l:Addr} {xs:List V} {i:Int} {y:V} {Q:VK} (h:H l=some (.lst xs)) (h0:0<=i) (h1:i<=xs.length) (hz:xs.length<sizeLine) (q:Q .non (upd H l (.lst (xs.take i.toNat++y::xs.drop i.toNat)))):rInsert (.ref l) [.int i,y] H Q :=
 ⟨l,xs,i,y,rfl,rfl,h,h0,h1,hz,q⟩
theorem UB {H:Hp} {l:Addr} {xs:List V} {y:V} {Q:VK} (h:H l=some (.lst (xs++[y]))) (q:Q y (upd H l (.lst xs))):rPop (.ref l) [] H Q :=
 ⟨l,xs++[y],y,rfl,rfl,h,by simp,by rw [List.dropLast_concat];exact q⟩
theorem bK {n:Nat} (h:n<=100000):n<sizeLine:=Nat.lt_of_le_of_lt h (by decide)
theorem aL {n:Nat} (h:n<=100000):n<=sizeLine:=Nat.le_of_lt (bK h)
theorem jR {α:Type} {xs:List α} {i:Int} {v:α} (h0:0<=i) (h:xs[i.toNat]?=some v):atI xs i=some v:=by
 obtain ⟨n,rfl⟩:∃ n:Nat,i=n:=⟨i.toNat,by omega⟩;exact iC (by simpa using h)
theorem DZ {X:Cx} {x:Str} {i:Int} {pos:Pos} (hg:Gl X x) (hm:∃ t,X.mg x=some (.int i t)) (hd:(x == ("__debug__":Str))=false:=by decide):PE X (.Name x pos) (tC (.int i)):=by
 obtain ⟨t,e⟩:=hm;exact tX hg e ⟨t,rfl⟩ hd
def Itx (K:PySem.W.Frag):Bool->Addr->It
 | true,a=>Itl K a
 | false,a=>Itt K a
def Ux (K:PySem.W.Frag) (c:Bool) (tl:TE):TI:=fun σ H R=>tl σ H fun x H1=>∃ a,x=.ref a/\(∃ xs,SqX K c H1 a xs)/\R (Itx K c a) H1
theorem uA {X:Cx} {tg l:Expr} {tl:TE} (c:Bool) (hl:PE X l tl):PI X tg l (Ux X.K c tl):=by
 cases c
 . exact yl hl
 . exact kN hl
theorem VZ {K:PySem.W.Frag} {c:Bool} {a:Addr} {xs:List V} {g:TG} {tb:TS} {D:Ends} {σ:St} {H:Hp} (Pv:Nat->St->Hp->Prop) (h0:Pv 0 σ H) (hl:∀ i σ H,i<=xs.length->Pv i σ H->SqX K c H a xs)
   (hs:∀ i x σ H,xs[i]?=some x->Pv i σ H->g x σ H fun σ2 H2=>tb { D with nx:=Pv (i+1),ct:=Pv (i+1),bk:=D.nx } σ2 H2) (hd:∀ σ H,Pv xs.length σ H->D.nx σ H) :
   ∃ W:Nat->Nat->St->Hp->Prop,(∃ m,W 0 m σ H)/\∀ i m σ H,W i m σ H ->
     ((Itx K c a).stop i H/\D.nx σ H)\/((Itx K c a).go i H/\∃ N:St->Hp->Prop,(∀ σ' H',N σ' H'->∃ m',m'<m/\W (i+1) m' σ' H')/\∀ x H',(Itx K c a).yld i H x H'->g x σ H' fun σ2 H2=>tb { D with nx:=N,ct:=N,bk:=D.nx } σ2 H2):=by
 cases c
 . exact BU Pv h0 hl hs hd
 . exact Ix Pv h0 hl hs hd
def yf (J:It) (p:Addr) (Q:VK) (g:TG) (tc:TT) (te:TE) (σ0:St) (H0:Hp):Prop :=
 ∃ W:Nat->Nat->List V->St->Hp->Prop,(∃ m,W 0 m [] σ0 H0)/\∀ i m ys σc Hc,W i m ys σc Hc ->
   (J.stop i Hc/\Q (.ref p) Hc)\/(J.go i Hc/\∀ x H',J.yld i Hc x H'->g x σc H' fun σ2 H2=>tc σ2 H2 fun b H3 =>
     if b=true then te σ2 H3 fun y H4=>H4 p=some (.lst ys)/\ys.length<sizeLine/\∃ m',m'<m/\W (i+1) m' (ys++[y]) σ2 (upd H4 p (.lst (ys++[y])))
     else ∃ m',m'<m/\W (i+1) m' ys σ2 H3)
theorem GD {own:Nat} {js:List Nat} {wi:TI} {g:TG} {tc:TT} {te:TE} {σ:St} {H:Hp} {Q:VK}:Og own js wi g tc te σ H Q=wi σ H fun J H1=>∀ p,H1 p=none->yf J p Q g tc te (gU own js σ) (upd H1 p (.lst [])):=rfl
def rB (J:It) (D:Ends) (g:TG) (tb:TS) (σ:St) (H:Hp):Prop:=∃ W:Nat->Nat->St->Hp->Prop,(∃ m,W 0 m σ H)/\∀ i m σ H,W i m σ H ->
 (J.stop i H/\D.nx σ H)\/(J.go i H/\∃ N:St->Hp->Prop,(∀ σ' H',N σ' H'->∃ m',m'<m/\W (i+1) m' σ' H')/\∀ x H',J.yld i H x H'->g x σ H' fun σ2 H2=>tb { D with nx:=N,ct:=N,bk:=D.nx } σ2 H2)
theorem Nb {wi:TI} {g:TG} {tb:TS} {D:Ends} {σ:St} {H:Hp}:WC wi g tb D σ H=wi σ H fun J H1=>rB J D g tb σ H1:=rfl
theorem iX {K:PySem.W.Frag} {c:Bool} {a p:Addr} {xs:List V} {Q:VK} {g:TG} {tc:TT} {te:TE} {σ0:St} {H0:Hp} (Pv:Nat->List V->St->Hp->Prop) (h0:Pv 0 [] σ0 H0) (hl:∀ i ys σ H,i<=xs.length->Pv i ys σ H->SqX K c H a xs)
   (hs:∀ (i:Nat) (x:V) (ys:List V) (σ:St) (H:Hp) (N:List V->St->Hp->Prop),(∀ ys' σ' H',Pv (i+1) ys' σ' H'->N ys' σ' H')->xs[i]?=some x->Pv i ys σ H->g x σ H fun σ2 H2=>tc σ2 H2 fun b H3 =>
     if b=true then te σ2 H3 fun y H4=>H4 p=some (.lst ys)/\ys.length<sizeLine/\N (ys++[y]) σ2 (upd H4 p (.lst (ys++[y]))) else N ys σ2 H3)
   (hd:∀ ys σ H,Pv xs.length ys σ H->Q (.ref p) H):yf (Itx K c a) p Q g tc te σ0 H0:=by
 refine ⟨fun i m ys σ H=>m=xs.length - i/\i<=xs.length/\Pv i ys σ H,⟨xs.length,by simp,Nat.zero_le _,h0⟩,?_⟩;rintro i m ys σ H ⟨rfl,hi,pv⟩;have q:=hl i ys σ H hi pv;by_cases hlt:i<xs.length
 . refine .inr ⟨?_,fun x H' y=>?_⟩
   . cases c
     . exact ⟨xs,xs[i],q,by simp [hlt]⟩
     . exact ⟨xs,xs[i],q,by simp [hlt]⟩
   . have e:H'=H/\xs[i]?=some x:=by
       cases c
       . exact ⟨y.1,y.2 xs q⟩
       . exact ⟨y.1,y.2 xs q⟩
     obtain ⟨rfl,hx⟩:=e;exact hs i x ys σ _ (fun ys' σ' H'=>∃ m',m'<xs.length - i/\(m'=xs.length - (i+1)/\i+1<=xs.length/\Pv (i+1) ys' σ' H')) (fun ys' σ' H' pv'=>⟨xs.length - (i+1),by omega,rfl,hlt,pv'⟩) hx pv
 . have e:i=xs.length:=by omega
   subst e;refine .inl ⟨?_,hd ys σ H pv⟩;cases c
   . exact ⟨xs,q,Nat.le_refl _⟩
   . exact ⟨xs,q,Nat.le_refl _⟩
theorem gM {lo:Int} {n:Nat} {p:Addr} {Q:VK} {g:TG} {tc:TT} {te:TE} {σ0:St} {H0:Hp} (Pv:Nat->List V->St->Hp->Prop) (h0:Pv 0 [] σ0 H0)
   (hs:∀ (i:Nat) (ys:List V) (σ:St) (H:Hp) (N:List V->St->Hp->Prop),(∀ ys' σ' H',Pv (i+1) ys' σ' H'->N ys' σ' H')->i<n->Pv i ys σ H->g (.int (lo+i)) σ H fun σ2 H2=>tc σ2 H2 fun b H3 =>
     if b=true then te σ2 H3 fun y H4=>H4 p=some (.lst ys)/\ys.length<sizeLine/\N (ys++[y]) σ2 (upd H4 p (.lst (ys++[y]))) else N ys σ2 H3)
   (hd:∀ ys σ H,Pv n ys σ H->Q (.ref p) H):yf (Itr lo n) p Q g tc te σ0 H0:=by
 refine ⟨fun i m ys σ H=>m=n - i/\i<=n/\Pv i ys σ H,⟨n,by simp,Nat.zero_le _,h0⟩,?_⟩;rintro i m ys σ H ⟨rfl,hi,pv⟩;by_cases hlt:i<n
 . refine .inr ⟨hlt,fun x H' y=>?_⟩;obtain ⟨rfl,rfl⟩:=y;exact hs i ys σ _ (fun ys' σ' H'=>∃ m',m'<n - i/\(m'=n - (i+1)/\i+1<=n/\Pv (i+1) ys' σ' H')) (fun ys' σ' H' pv'=>⟨n - (i+1),by omega,rfl,hlt,pv'⟩) hlt pv
 . have e:i=n:=by omega
   subst e;exact .inl ⟨Nat.le_refl _,hd ys σ H pv⟩
theorem fU:bootBuiltins "len"=some (.builtin "len"):=by decide +kernel
theorem iA:bootBuiltins "isinstance"=some (.builtin "isinstance"):=by decide +kernel
theorem Rt:bootBuiltins "all"=some (.builtin "all"):=by decide +kernel
theorem Qm:bootBuiltins "min"=some (.builtin "min"):=by decide +kernel
theorem P6:bootBuiltins "sorted"=some (.builtin "sorted"):=by decide +kernel
theorem QK:bootBuiltins "int"=some (.type "int"):=by decide +kernel
theorem BR:bootBuiltins "list"=some (.type "list"):=by decide +kernel
theorem uJ:bootBuiltins "tuple"=some (.type "tuple"):=by decide +kernel
theorem Vc:bootBuiltins "bool"=some (.type "bool"):=by decide +kernel
section
variable {X:Cx} {a b o e:Expr} {es:List Expr} {ta tb to:TE} {t:TA} {pos apos cpos:Pos} {f name:Str} {T id:String} {r:V->List V->Hp->VK->Prop}
theorem Fu (K:PySem.W.Frag) (h:X.K=K):jp X (.type "tuple") (fun xs H Q=>∃ p ys,xs=[.ref p]/\((SqL K H p ys/\∀ l,H l=none->Q (.ref l) (upd H l (.tup ys)))\/(SqT K H p ys/\Q (.ref p) H))):=by subst h;exact sW
theorem HF (K:PySem.W.Frag) (h:X.K=K):jp X (.type "list") (fun xs H Q=>∃ p ys,xs=[.ref p]/\(SqL K H p ys\/SqT K H p ys)/\∀ l,H l=none->Q (.ref l) (upd H l (.lst ys))):=by subst h;exact AE
theorem qp (K:PySem.W.Frag) (h:X.K=K):IxR X (NM K):=by subst h;exact bz
theorem qB (K:PySem.W.Frag) (h:X.K=K):IxR X (Jd K):=by subst h;exact bf
end
theorem Ez {x:Str} {k:NameKind}:∀ {l:List (Str × NameKind)},l.lookup x=some k->∃ y,(y,k)∈l
 | [],h=>by simp at h
 | (n,j)::r,h=>by
   rw [List.lookup_cons] at h;cases q:x == n with
   | true =>
     rw [q] at h;cases h;exact ⟨n,List.mem_cons_self⟩
   | false =>
     rw [q] at h;obtain ⟨y,hy⟩:=Ez h;exact ⟨y,List.mem_cons_of_mem _ hy⟩
theorem nZ {X:Cx} {Nc:List Str} {scope:Scope} (own:Nat) (hf:∀ y∈scope.names,y.2≠.free) (hc:∀ y∈scope.names,y.2≠.cell) (hk:scope.kind=.function) (hn:∀ y∈scope.names,y.2=.local->scope.names.lookup y.1=some .local)
   (hl:Nc.length=own):CompTxt X Nc own [] scope [] where
 clos:=closureFor_none hf
 kind:=hk
 nocell:=hc
 names:=hn
 cells:=fun x c h=>by cases h
 has:=fun x h=>by
   have key:∀ k,(relabel scope X.env).names.lookup x=some k->k≠.cell/\k≠.free:=fun k e=>by
     obtain ⟨y,hy⟩:=Ez e;obtain ⟨⟨n,k0⟩,hm,e2⟩:=List.mem_map.mp hy;have h1:=hf _ hm;have h2:=hc _ hm;have e3:(k0 == NameKind.free)=false:=(by simpa using h1);simp only [e3,Bool.false_and,Bool.false_eq_true,if_false] at e2;cases e2;exact ⟨h2,h1⟩
   rcases h with h|h
   . exact absurd rfl (key _ h).1
   . exact absurd rfl (key _ h).2
 len:=by simpa using hl
 outer:=fun i x h=>by
   rw [List.getElem?_eq_none (by omega)] at h;cases h
theorem Sr {K:PySem.W.Frag} {c:Bool} {a:Addr} {xs:List V} {g:TG} {tb:TS} {D:Ends} {σ:St} {H:Hp} (Pv:Nat->St->Hp->Prop) (h0:Pv 0 σ H) (hl:∀ i σ H,i<=xs.length->Pv i σ H->SqX K c H a xs)
   (hs:∀ (i:Nat) (x:V) (σ:St) (H:Hp) (N:St->Hp->Prop),(∀ σ' H',Pv (i+1) σ' H'->N σ' H')->xs[i]?=some x->Pv i σ H->g x σ H fun σ2 H2=>tb { D with nx:=N,ct:=N,bk:=D.nx } σ2 H2) (hd:∀ σ H,Pv xs.length σ H->D.nx σ H) :
   rB (Itx K c a) D g tb σ H:=VZ Pv h0 hl (fun i x σ H hx p=>hs i x σ H (Pv (i+1)) (fun _ _ z=>z) hx p) hd
theorem oC {K:PySem.W.Frag} {a:Addr} {xs:List V} {g:TG} {tb:TS} {D:Ends} {σ:St} {H:Hp} (Pv:Nat->St->Hp->Prop) (h0:Pv 0 σ H) (hl:∀ i σ H,i<=xs.length->Pv i σ H->SqL K H a xs)
   (hs:∀ (i:Nat) (x:V) (σ:St) (H:Hp) (N:St->Hp->Prop),(∀ σ' H',Pv (i+1) σ' H'->N σ' H')->xs[i]?=some x->Pv i σ H->g x σ H fun σ2 H2=>tb { D with nx:=N,ct:=N,bk:=D.nx } σ2 H2) (hd:∀ σ H,Pv xs.length σ H->D.nx σ H) :
   rB (Itl K a) D g tb σ H:=Ix Pv h0 hl (fun i x σ H hx p=>hs i x σ H (Pv (i+1)) (fun _ _ z=>z) hx p) hd
theorem Lp {K:PySem.W.Frag} {a:Addr} {xs:List V} {g:TG} {tb:TS} {D:Ends} {σ:St} {H:Hp} (Pv:Nat->St->Hp->Prop) (h0:Pv 0 σ H) (hl:∀ i σ H,i<=xs.length->Pv i σ H->SqT K H a xs)
   (hs:∀ (i:Nat) (x:V) (σ:St) (H:Hp) (N:St->Hp->Prop),(∀ σ' H',Pv (i+1) σ' H'->N σ' H')->xs[i]?=some x->Pv i σ H->g x σ H fun σ2 H2=>tb { D with nx:=N,ct:=N,bk:=D.nx } σ2 H2) (hd:∀ σ H,Pv xs.length σ H->D.nx σ H) :
   rB (Itt K a) D g tb σ H:=BU Pv h0 hl (fun i x σ H hx p=>hs i x σ H (Pv (i+1)) (fun _ _ z=>z) hx p) hd
theorem zA {lo:Int} {n:Nat} {g:TG} {tb:TS} {D:Ends} {σ:St} {H:Hp} (Pv:Nat->St->Hp->Prop) (h0:Pv 0 σ H)
   (hs:∀ (i:Nat) (σ:St) (H:Hp) (N:St->Hp->Prop),(∀ σ' H',Pv (i+1) σ' H'->N σ' H')->i<n->Pv i σ H->g (.int (lo+i)) σ H fun σ2 H2=>tb { D with nx:=N,ct:=N,bk:=D.nx } σ2 H2) (hd:∀ σ H,Pv n σ H->D.nx σ H) :
   rB (Itr lo n) D g tb σ H:=Qk Pv h0 (fun i σ H hi p=>hs i σ H (Pv (i+1)) (fun _ _ z=>z) hi p) hd
theorem TU {K:PySem.W.Frag} {c d:Bool} {a b:Addr} {xs ys:List V} {g:TG} {tb:TS} {D:Ends} {σ:St} {H:Hp} (Pv:Nat->St->Hp->Prop) (h0:Pv 0 σ H) (hl:∀ i σ H,Pv i σ H->SqX K c H a xs/\SqX K d H b ys)
   (hs:∀ (i:Nat) (x y:V) (σ:St) (H:Hp) (p:Addr) (N:St->Hp->Prop),(∀ σ' H',Pv (i+1) σ' H'->N σ' H')->xs[i]?=some x->ys[i]?=some y->Pv i σ H->H p=none->g (.ref p) σ (upd H p (.tup [x,y])) fun σ2 H2=>tb { D with nx:=N,ct:=N,bk:=D.nx } σ2 H2)
   (hd:∀ σ H,Pv (min xs.length ys.length) σ H->D.nx σ H):rB (Itz K c d a b) D g tb σ H:=Wa Pv h0 hl (fun i x y σ H p hx hy pv hp=>hs i x y σ H p (Pv (i+1)) (fun _ _ z=>z) hx hy pv hp) hd
theorem Gk {c:TT} {tb:TS} {D:Ends} {σ:St} {H:Hp} (W:Nat->St->Hp->Prop) (n0:Nat) (h0:W n0 σ H)
   (hs:∀ (n:Nat) (σ:St) (H:Hp) (N:St->Hp->Prop),(∀ n' σ' H',n'<n->W n' σ' H'->N σ' H')->(∀ σ' H',N σ' H'->∃ m',m'<n/\W m' σ' H')->W n σ H ->
     c σ H fun b H1=>if b=true then ∃ N:St->Hp->Prop,(∀ σ' H',N σ' H'->∃ m',m'<n/\W m' σ' H')/\tb { D with nx:=N,ct:=N,bk:=D.nx } σ H1 else D.nx σ H1):Jy c tb D σ H :=
 ⟨W,⟨n0,h0⟩,fun n σ H w=>hs n σ H (fun σ' H'=>∃ m',m'<n/\W m' σ' H') (fun n' _ _ hn w'=>⟨n',hn,w'⟩) (fun _ _ z=>z) w⟩
theorem p60:(0:Int)<10^(60:Int).toNat:=Int.pow_pos (by decide)
theorem BX {a:Int} {n:Nat} (h:a.natAbs<2^n):Builtin.Int.intBits a<=n:=by
 unfold Builtin.Int.intBits;by_cases z:a=0
 . subst z;simp
 . have hz:(a == 0)=false:=by simpa using z
   rw [hz];simp only [Bool.false_eq_true,if_false];have:=(Nat.log2_lt (by omega)).mpr h;omega
theorem pV {a b:Int} (ha:a.natAbs<2^4000) (hb:b.natAbs<2^4000):IntMulOk a b :=
 IntMulOk.of_bits (Nat.le_trans (BX ha) (by decide)) (Nat.le_trans (BX hb) (by decide))
theorem n5 {a b:Int} {n:Nat} (ha:a.natAbs<2^n) (hb:b.natAbs<2^n):(a+b).natAbs<2^(n+1):=by
 have:=Int.natAbs_add_le a b;rw [Nat.pow_succ];omega
theorem da {a b:Int} {m n:Nat} (ha:a.natAbs<2^m) (hb:b.natAbs<2^n):(a*b).natAbs<2^(m+n):=by
 rw [Int.natAbs_mul,Nat.pow_add];exact Nat.mul_lt_mul'' ha hb
theorem b8 {a:Int} {m n:Nat} (h:a.natAbs<2^m) (hm:m<=n):a.natAbs<2^n:=Nat.lt_of_lt_of_le h (Nat.pow_le_pow_right (by decide) hm)
theorem TD:(10^(60:Int).toNat:Int).natAbs<2^200:=by decide +kernel
theorem Sl {c M:Int} {n:Nat} (h0:0<M) (h:M.natAbs<2^n):(c % M).natAbs<2^n:=by
 have h1:=Int.emod_nonneg c (Int.ne_of_gt h0);have h2:=Int.emod_lt_of_pos c h0;omega
theorem QS (c i:Int) (h0:0<=i) (h1:i<=1000000):(c % 10^(60:Int).toNat+3).natAbs<2^300/\(16180339887498948482045868343656381177203+2*i*i).natAbs<2^300 /\
   ((c % 10^(60:Int).toNat+3)*(16180339887498948482045868343656381177203+2*i*i)+6151*i).natAbs<2^4000:=by
 have hi:i.natAbs<2^20:=by omega
 have a1:(c % 10^(60:Int).toNat+3).natAbs<2^201:=n5 (Sl p60 TD) (by decide +kernel);have b1:(2*i*i).natAbs<2^199:=b8 (da (da (a:=2) (m:=2) (by decide) hi) hi) (by decide);have b2:(16180339887498948482045868343656381177203+2*i*i).natAbs<2^200:=n5 (by decide +kernel) b1;have c1:(6151*i).natAbs<2^401:=b8 (da (a:=6151) (m:=20) (by decide) hi) (by decide);exact ⟨b8 a1 (by decide),b8 b2 (by decide),b8 (n5 (da a1 b2) c1) (by decide)⟩
open Pb
def o6 (r:Road):List V:=[.int r.a,.int r.b,.int r.t,.int r.u]
abbrev RoadsAt (H:Hp):List Addr->List Road->Prop:=Paired fun p r=>H p=some (.tup (o6 r))
theorem RoadsAt.same {H H':Hp} (e:Same H H') {ps:List Addr} {rs:List Road} (h:RoadsAt H ps rs):RoadsAt H' ps rs:=Paired.imp' (fun p r q=>e p _ q) h
theorem RoadsAt.get {H:Hp}:∀ {ps:List Addr} {rs:List Road} {i:Nat} {x:V},RoadsAt H ps rs->(ps.map V.ref)[i]?=some x->∃ p r,x=.ref p/\ps[i]?=some p/\rs[i]?=some r/\H p=some (.tup (o6 r))
 | _,_,i,x,.nil,e=>by simp at e
 | _,_,0,x,.cons (a:=p) (b:=r) h hs,e=>⟨p,r,by simpa using e.symm,by simp,by simp,h⟩
 | a::l1,_,i+1,x,.cons h hs,e=>by
   have e':(List.map V.ref l1)[i]?=some x:=by simpa using e
   obtain ⟨p,r,h1,h2,h3,h4⟩:=RoadsAt.get hs e';exact ⟨p,r,h1,by simpa using h2,by simpa using h3,h4⟩
theorem Same.tup {K:PySem.W.Frag} {H H':Hp} {a:Addr} {xs:List V} (e:Same H H') (h:SqT K H a xs):SqT K H' a xs:=by
 rcases h with (h|⟨o,h⟩)|h
 . exact .inl (.inl (e _ _ h))
 . exact .inl (.inr ⟨o,e _ _ h⟩)
 . exact .inr h
theorem Same.sqX {K:PySem.W.Frag} {H H':Hp} {c:Bool} {a:Addr} {xs:List V} (e:Same H H') (h:SqX K c H a xs):SqX K c H' a xs:=by
 cases c
 . exact Same.tup e h
 . exact Same.seq e h
theorem Same.new {H:Hp} {p:Addr} (o:HO) (h:H p=none):Same H (upd H p o):=fun b u e=>by rw [ao (aX e h)];exact e
end L2
set_option Elab.async false
set_option linter.all false
set_option maxRecDepth 100000
namespace L2
open PySem PySem.Spec PyProof.Rows
abbrev bmV:List Value:=[.type "ValueError",.type "Exception",.type "BaseException",.type "object"]
section
variable {prog:Program} {w:World} {A:Around} {E:Value->Shared->Prop} {s:Shared} {K:PySem.W.Frag} {x C:Addr} {ox:Obj} {od:Option Obj}
end
end L2
set_option Elab.async false
set_option linter.all false
set_option maxRecDepth 100000
namespace L2
open PySem PySem.Spec PyProof.Rows
def ph (h:Heap) (ea:Addr) (cls:Value) (od:Option Addr) (head:Value):Prop:=∃ oe vs,h.get? ea=some oe/\oe.cls=cls/\oe.dict=od/\oe.data=.fields vs/\vs[1]?=some head
def TbO (h:Heap) (T:Addr) (fl:Value):Prop:=∃ oT ts,h.get? T=some oT/\oT.data=.fields ts/\ts[3]?=some fl
structure Err (h:Heap) (ea T:Addr) (cls:Value) (od:Option Addr) (fl:Value):Prop where
 e:ph h ea cls od (.ref T)
 t:TbO h T fl
 ne:T≠ea
structure Kept (fs xs:List Addr) (h h':Heap):Prop where
 keep:∀ b o,h.get? b=some o->b ∉ fs->b ∉ xs->h'.get? b=some o
 slot:∀ b o,h.get? b=some o->b∈fs->b ∉ xs->∃ sl,h'.get? b=some { o with slots:=sl }
 there:∀ b o,h.get? b=some o->∃ o',h'.get? b=some o'
theorem Kept.mono {fs xs ys:List Addr} {h h':Heap} (k:Kept fs xs h h') (s:∀ b∈xs,b∈ys):Kept fs ys h h':=⟨fun b o e f x=>k.keep b o e f fun z=>x (s b z),fun b o e f x=>k.slot b o e f fun z=>x (s b z),k.there⟩
theorem Kept.trans {fs xs:List Addr} {h h1 h2:Heap} (a:Kept fs xs h h1) (b:Kept fs xs h1 h2):Kept fs xs h h2 where
 keep:=fun c o e f x=>b.keep c o (a.keep c o e f x) f x
 slot:=fun c o e f x=>by
   obtain ⟨s1,e1⟩:=a.slot c o e f x;obtain ⟨s2,e2⟩:=b.slot c _ e1 f x;exact ⟨s2,e2⟩
 there:=fun c o e=>by
   obtain ⟨o1,e1⟩:=a.there c o e;exact b.there c o1 e1
theorem Kept.of_all {fs xs:List Addr} {h h':Heap} (k:∀ b o,h.get? b=some o->h'.get? b=some o):Kept fs xs h h':=⟨fun b o e _ _=>k b o e,fun b o e _ _=>⟨o.slots,k b o e⟩,fun b o e=>⟨o,k b o e⟩⟩
theorem Dk {fs xs:List Addr} {h:Heap} {a:Addr} {oa:Obj} {vs:Array Value} {i:Nat} {v:Value} (ha:h.get? a=some oa) (hd:oa.data=.fields vs) (hx:a∈xs):Kept fs xs h (h.update a (Obj.mapFields (·.setIfInBounds i v))):=by
 have oth:∀ b o,h.get? b=some o->b ∉ xs->(h.update a (Obj.mapFields (·.setIfInBounds i v))).get? b=some o:=fun b o e x=>by
   rw [Heap.get?_update_other _ _ (fun (z:a=b)=>x (z ▸ hx))];exact e
 refine ⟨fun b o e _ x=>oth b o e x,fun b o e _ x=>⟨o.slots,oth b o e x⟩,fun b o e=>?_⟩;by_cases z:b=a
 . subst z;exact ⟨_,Heap.get?_update_self _ ha (Obj.isFreed_of_fields (Obj.data_mapFields hd _))⟩
 . rw [Heap.get?_update_other _ _ (Ne.symm z)];exact ⟨o,e⟩
theorem RU {h:Heap} {ea:Addr} {cls hd v:Value} {od:Option Addr} (e:ph h ea cls od hd):ph (h.update ea (Obj.mapFields (·.setIfInBounds 1 v))) ea cls od v:=by
 obtain ⟨oe,vs,h1,h2,h3,h4,h5⟩:=e;have sz:1<vs.size:=(Array.getElem?_eq_some_iff.mp h5).1;refine ⟨_,_,Heap.get?_update_self _ h1 (Obj.isFreed_of_fields (Obj.data_mapFields h4 _)),?_,?_,Obj.data_mapFields h4 _,by simp [sz]⟩
 . rw [<- h2];exact Obj.cls_mapFields _ _
 . rw [<- h3];obtain ⟨c,d,dt,sl⟩:=oe;cases dt <;> rfl
theorem Er {h:Heap} {ea a:Addr} {cls hd:Value} {od:Option Addr} {f:Obj->Obj} (e:ph h ea cls od hd) (ne:a≠ea):ph (h.update a f) ea cls od hd:=by
 obtain ⟨oe,vs,h1,h2⟩:=e;exact ⟨oe,vs,by rw [Heap.get?_update_other _ _ ne];exact h1,h2⟩
theorem GF {h h':Heap} {ea:Addr} {cls hd:Value} {od:Option Addr} (e:ph h ea cls od hd) (k:∀ o,h.get? ea=some o->h'.get? ea=some o):ph h' ea cls od hd:=by
 obtain ⟨oe,vs,h1,h2⟩:=e;exact ⟨oe,vs,k _ h1,h2⟩
theorem Rl {h base:Heap} {ea:Addr} {cls hd:Value} {od:Option Addr} {l:List Env} (e:ph h ea cls od hd) (f:h.FunFrames base l):ea ∉ frs l:=fun z=>by
 obtain ⟨oe,vs,h1,_,_,h4,_⟩:=e;obtain ⟨_,o,ho,hn⟩:=f.mem z;rw [h1] at ho;cases ho;exact hn vs h4
theorem SY {h base:Heap} {T:Addr} {fl:Value} {l:List Env} (e:TbO h T fl) (f:h.FunFrames base l):T ∉ frs l:=fun z=>by
 obtain ⟨oe,vs,h1,h4,_⟩:=e;obtain ⟨_,o,ho,hn⟩:=f.mem z;rw [h1] at ho;cases ho;exact hn vs h4
section
variable {M:Model} {A:Around} {E:Value->Shared->Prop} {s:Shared} {Q:Unit->Shared->Prop} {fs:List Addr} {ea T L:Addr} {cls fl hd:Value} {od:Option Addr} {base:Heap} {env:Env} {outer:List Env}
theorem Nz (r:Err s.heap ea T cls od fl) (h:∀ h',Err h' ea T cls od .none->Kept fs [T] s.heap h'->Q () { s with heap:=h' }):wpAny M A (setFlight (.ref ea) none) Q E s:=by
 obtain ⟨⟨oe,vs,h1,h2,h3,h4,h5⟩,⟨oT,ts,t1,t2,t3⟩,ne⟩:=r;have sz:3<ts.size:=(Array.getElem?_eq_some_iff.mp t3).1;unfold setFlight;refine wpAny_bind (wpAny_field h1 h4 h5 ?_);rw [if_pos (by simp:(Value.ref T != Value.none)=true)];refine wpAny_setField t1 t2 sz (h _ ⟨Er ⟨oe,vs,h1,h2,h3,h4,h5⟩ ne,⟨_,_,Heap.get?_update_self _ t1 (Obj.isFreed_of_fields (Obj.data_mapFields t2 _)),Obj.data_mapFields t2 _,by simp [sz]⟩,ne⟩ (Dk t1 t2 (by simp)))
theorem Jk {head:Value} {hadNext:Bool} (hfr:A.frames=some (env::outer)) (hl:s.heap.FunFrames base (env::outer)) (hf:env.frame=some L) (r:ph s.heap ea cls od hd)
   (h:∀ h' T',Err h' ea T' cls od (rawInt L)->Kept (frs (env::outer)) [ea] s.heap h'->s.heap.get? T'=none->Q () { s with heap:=h' }) :
   wpAny M A (do let a <- frameOf env;let pl <- entryPlaceOf L hadNext;let b <- EntryCells.newEntry head a .none (rawInt L) .none pl;setField (.ref ea) 1 b) Q E s:=by
 have nf:=Rl r hl;refine wpAny_bind (wpAny_frameOf_fun hfr hl hf fun g1 so=>wpAny_bind (wpAny_entryPlaceOf fun pl hpl=>?_));unfold EntryCells.newEntry newFields;refine wpAny_bind (wpAny_newObj_type ?_ (hpl.sizeOk5 _ _ _ _ _));have r1:ph g1 ea cls od hd:=GF r fun o e=>(so.2.1 ea nf).trans e;generalize ht:({ cls:=.type "traceback",dict:=none,data:=.fields ([head,.ref L,.none,rawInt L,.none]++(if pl.isEmpty then List.replicate 6 Value.none else pl)).toArray }:Obj)=tb;have r2:ph (g1.push tb) ea cls od hd:=GF r1 fun o e=>Heap.get?_push_of_some _ e;obtain ⟨oe,vs,e1,e2,e3,e4,e5⟩:=id r2;have lt:ea<g1.objs.size:=by
   obtain ⟨_,_,e,_⟩:=r1;exact Heap.lt_size e
 have hT:(g1.push tb).get? g1.objs.size=some tb:=Heap.get?_push_size g1 (by rw [<- ht];rfl);refine wpAny_setField e1 e4 (Array.getElem?_eq_some_iff.mp e5).1 (h _ g1.objs.size ⟨RU r2,⟨tb,([head,.ref L,.none,rawInt L,.none]++(if pl.isEmpty then List.replicate 6 Value.none else pl)).toArray,?_,by rw [<- ht],by simp⟩,Nat.ne_of_gt lt⟩ ?_ ?_)
 . rw [Heap.get?_update_other _ _ (Nat.ne_of_lt lt)];exact hT
 . have k1:Kept (frs (env::outer)) [ea] s.heap g1:=⟨fun b o e f _=>(so.2.1 b f).trans e,fun b o e _ _=>so.2.2 b o e,fun b o e=>by
     obtain ⟨sl,z⟩:=so.2.2 b o e;exact ⟨_,z⟩⟩
   exact k1.trans ((Kept.of_all fun b o e=>Heap.get?_push_of_some _ e).trans (Dk e1 e4 (by simp)))
 . exact Heap.get?_none_of_le (by rw [so.1];exact Nat.le_refl _)
theorem SN (hfr:A.frames=some (env::outer)) (hl:s.heap.FunFrames base (env::outer)) (hf:env.frame=some L) (r:ph s.heap ea cls od .none)
   (h:∀ h' T',Err h' ea T' cls od (rawInt L)->Kept (frs (env::outer)) [ea] s.heap h'->s.heap.get? T'=none->Q () { s with heap:=h' }):wpAny M A (noteFrame (.ref ea) env) Q E s:=by
 obtain ⟨oe,vs,e1,e2,e3,e4,e5⟩:=id r;unfold noteFrame;simp only [hf];refine wpAny_bind (wpAny_field e1 e4 e5 ?_);rw [if_neg (by decide)];exact Jk hfr hl hf r h
theorem Wf (hfr:A.frames=some (env::outer)) (hl:s.heap.FunFrames base (env::outer)) (hf:env.frame=some L) (r:Err s.heap ea T cls od .none)
   (h:∀ h' T',Err h' ea T' cls od (rawInt L)->Kept (frs (env::outer)) [ea,T] s.heap h'->s.heap.get? T'=none->Q () { s with heap:=h' }):wpAny M A (noteFrame (.ref ea) env) Q E s:=by
 have nT:=SY r.t hl;obtain ⟨⟨oe,vs,e1,e2,e3,e4,e5⟩,⟨oT,ts,t1,t2,t3⟩,ne⟩:=id r;unfold noteFrame;simp only [hf];refine wpAny_bind (wpAny_field e1 e4 e5 ?_);rw [if_pos (by simp:(Value.ref T != Value.none)=true)];refine wpAny_bind (wpAny_field t1 t2 t3 ?_);rw [if_neg (by simp [rawInt])];have k1:Kept (frs (env::outer)) [ea,T] s.heap (s.heap.update T (Obj.mapFields (·.setIfInBounds 3 Value.none))):=Dk t1 t2 (by simp);refine wpAny_bind (wpAny_setField t1 t2 (Array.getElem?_eq_some_iff.mp t3).1 ?_);refine Jk hfr (hl.of_keeps fun b o e nf=>⟨o,?_,rfl⟩) hf (Er r.e ne) fun h' T' r' k2 n=>h h' T' r' (k1.trans (k2.mono (by simp))) ?_
 . by_cases z:b=T
   . subst z;rw [t1] at e;cases e;exact absurd t2 (nf ts)
   . rw [Heap.get?_update_other _ _ (Ne.symm z)];exact e
 . cases q:s.heap.get? T' with
   | none=>rfl
   | some o =>
     obtain ⟨o',z⟩:=k1.there T' o q;rw [z] at n;cases n
theorem QI (hfr:A.frames=some (env::outer)) (hl:s.heap.FunFrames base (env::outer)) (hf:env.frame=some L) (r:ph s.heap ea cls od .none)
   (h:∀ h' T',Err h' ea T' cls od .none->Kept (frs (env::outer)) [ea] s.heap h'->s.heap.get? T'=none->Q () { s with heap:=h' }):wpAny M A (leaving env (.ref ea)) Q E s:=by
 unfold leaving;refine wpAny_bind (SN hfr hl hf r fun h1 T1 r1 k1 n1=>Nz (fs:=frs (env::outer)) (s:={ s with heap:=h1 }) r1 fun h2 r2 k2=>h h2 T1 r2 ⟨fun b o e f x=>k2.keep b o (k1.keep b o e f x) f ?_,fun b o e f x=>?_,fun b o e=>?_⟩ n1)
 . simp only [List.mem_singleton];rintro rfl;rw [n1] at e;cases e
 . obtain ⟨s1,e1⟩:=k1.slot b o e f x;obtain ⟨s2,e2⟩:=k2.slot b _ e1 f (by
     simp only [List.mem_singleton];rintro rfl;rw [n1] at e;cases e)
   exact ⟨s2,e2⟩
 . obtain ⟨o1,e1⟩:=k1.there b o e;exact k2.there b o1 e1
theorem SW (hfr:A.frames=some (env::outer)) (hl:s.heap.FunFrames base (env::outer)) (hf:env.frame=some L) (r:Err s.heap ea T cls od .none)
   (h:∀ h' T',Err h' ea T' cls od .none->Kept (frs (env::outer)) [ea,T] s.heap h'->s.heap.get? T'=none->Q () { s with heap:=h' }):wpAny M A (leaving env (.ref ea)) Q E s:=by
 unfold leaving;refine wpAny_bind (Wf hfr hl hf r fun h1 T1 r1 k1 n1=>Nz (fs:=frs (env::outer)) (s:={ s with heap:=h1 }) r1 fun h2 r2 k2=>h h2 T1 r2 ⟨fun b o e f x=>k2.keep b o (k1.keep b o e f x) f ?_,fun b o e f x=>?_,fun b o e=>?_⟩ n1)
 . simp only [List.mem_singleton];rintro rfl;rw [n1] at e;cases e
 . obtain ⟨s1,e1⟩:=k1.slot b o e f x;obtain ⟨s2,e2⟩:=k2.slot b _ e1 f (by
     simp only [List.mem_singleton];rintro rfl;rw [n1] at e;cases e)
   exact ⟨s2,e2⟩
 . obtain ⟨o1,e1⟩:=k1.there b o e;exact k2.there b o1 e1
end
def CXe (P:Program) (w:World):CXT:=fun outer H s E e s'=>∃ (ea T:Addr) (cls:Value) (od:Option Addr) (H':Hp),e=.ref ea/\s'.os=s.os/\AllBare s'.gens/\Un (frs outer) [] H H' s.heap s'.heap/\HOk P w H' s'.heap /\
 H' ea=none/\H' T=none/\s.heap.get? ea=none/\s.heap.get? T=none/\Err s'.heap ea T cls od .none/\E cls od H'
theorem aF {P:Program} {w:World}:aK (CXe P w):=fun outer H s e s' h=>by
 obtain ⟨_,_,_,_,_,_,_,_,_,_,_,_,_,_,_,z⟩:=h;exact z
theorem Jj {P:Program} {w:World} {H:Hp} {h h':Heap} {fs xs:List Addr} (x:HOk P w H h) (k:Kept fs xs h h') (f:∀ b∈fs,H b=none) (u:∀ b∈xs,H b=none):HOk P w H h':=fun a o e=>by
 refine (x a o e).stay (fun b ob hb q=>k.keep b ob q ?_ ?_) (fun _ q=>q) fun _ _ q=>q
 . intro z;rcases hb with rfl|hb
   . rw [f _ z] at e;cases e
   . rw [f _ z] at hb;cases hb
 . intro z;rcases hb with rfl|hb
   . rw [u _ z] at e;cases e
   . rw [u _ z] at hb;cases hb
theorem O2 {P:Program} {w:World} {H:Hp} {h:Heap} {b:Addr} (x:HOk P w H h) (n:h.get? b=none):H b=none:=by
 cases q:H b with
 | none=>rfl
 | some o =>
   have lt:=x.lt q;cases z:h.get? b with
   | some o'=>rw [z] at n;cases n
   | none =>
     exfalso
     have:=(x b o q);cases o with
     | lst xs=>obtain ⟨_,_,_,_,e⟩:=this;rw [n] at e;cases e
     | tup xs=>obtain ⟨_,_,_,ob,e,_⟩:=this;rw [n] at e;cases e
     | dK kvs=>obtain ⟨_,_,_,_,ob,_,_,e,_⟩:=this;rw [n] at e;cases e
     | dT kvs=>obtain ⟨_,_,_,_,ob,_,_,e,_⟩:=this;rw [n] at e;cases e
     | set S m=>obtain ⟨ob,_,_,_,e,_⟩:=this;rw [n] at e;cases e
     | ins C dx fs=>obtain ⟨_,_,_,e,_⟩:=this;rw [n] at e;cases e
     | own y=>obtain ⟨_,e⟩:=this;rw [n] at e;cases e
     | xd fs=>obtain ⟨_,⟨_,_,_,e,_⟩,_⟩:=this;rw [n] at e;cases e
     | rng lo hi=>obtain ⟨_,_,_,e⟩:=this;rw [n] at e;cases e
     | frz ob u=>obtain ⟨e,_⟩:=this;rw [n] at e;cases e
     | tbl ps=>have e:h.get? b=some _:=this;rw [n] at e;cases e
     | met f y=>have e:h.get? b=some _:=this;rw [n] at e;cases e
     | ext φ=>obtain ⟨_,⟨_,e⟩,_⟩:=this;rw [n] at e;cases e
section
variable {P:Program} {w:World} {K:PySem.W.Frag} {mg:Str->Option Value} {base:Heap} {N:List Str} {qual:Str} {scope:Scope} {f:Addr} {cd:Value} {A:Around} {outer:List Env} {s:Shared} {H:Hp} {E:XK}
theorem KG {CX:CXT} {pins:List (Addr × Obj)} {σ:St} {H':Hp} {s':Shared} {h':Heap} {xs:List Addr} (J:Inv (sQ CX P w K mg base N qual scope f cd A outer s H E) pins σ H' s') (k:Kept (frs (envOfC qual scope s.heap.objs.size f cd::outer)) xs s'.heap h') (nx:∀ b∈xs,s.heap.get? b=none) :
   Un (frs outer) [] H H' s.heap h':=by
 have b0:Un (frs outer) [] H H' s.heap s'.heap:=J.base;have nl:∀ b o,s.heap.get? b=some o->b ∉ xs:=fun b o e z=>by rw [nx b z] at e;cases e
 have nf:∀ b o,s.heap.get? b=some o->b ∉ frs outer->b ∉ frs (envOfC qual scope s.heap.objs.size f cd::outer):=fun b o e z m=>by
   unfold frs at m z;rw [List.filterMap_cons] at m;have:(envOfC qual scope s.heap.objs.size f cd).frame=some s.heap.objs.size:=rfl;rw [this] at m;rcases List.mem_cons.mp m with m|m
   . exact absurd (Heap.lt_size e) (by rw [m];exact Nat.lt_irrefl _)
   . exact z m
 refine ⟨fun b o e n hf hx=>k.keep b o (b0.keep b o e n hf hx) (nf b o e hf) (nl b o e),fun b o e n hf hx=>?_,b0.free,fun b o e hx=>?_,b0.tups,b0.frzs,b0.tbls⟩
 . obtain ⟨sl,e1⟩:=b0.slot b o e n hf hx;by_cases m:b∈frs (envOfC qual scope s.heap.objs.size f cd::outer)
   . obtain ⟨s2,e2⟩:=k.slot b _ e1 m (nl b o e);exact ⟨s2,e2⟩
   . exact ⟨sl,k.keep b _ e1 m (nl b o e)⟩
 . obtain ⟨o1,e1⟩:=b0.there b o e hx;exact k.there b o1 e1
theorem qF {CX:CXT} {pins:List (Addr × Obj)} {σ:St} {H':Hp} {s':Shared} (J:Inv (sQ CX P w K mg base N qual scope f cd A outer s H E) pins σ H' s') {b:Addr} (n:s'.heap.get? b=none):s.heap.get? b=none:=by
 cases q:s.heap.get? b with
 | none=>rfl
 | some o =>
   have b0:Un (frs outer) [] H H' s.heap s'.heap:=J.base;obtain ⟨o',e⟩:=b0.there b o q (by simp);rw [n] at e;cases e
theorem gP:ye (CXe P w) (sQ (CXe P w) P w K mg base N qual scope f cd A outer s H E) E:=by
 intro pins σ H1 s1 e s' I h;obtain ⟨ea,T,cls,od,H',rfl,os,bare,un,hok,n1,n2,f1,f2,er,q⟩:=h;have J:=I.call' (ch:=[]) os un hok bare (by simp);refine SW (base:=base) J.ok.frames J.stack rfl er fun h' T' er' k nT=>?_;have fr:∀ b∈frs (envOfC qual scope s.heap.objs.size f cd::outer),H' b=none:=J.stkFree;refine ⟨ea,T',cls,od,H',rfl,J.os,J.bare,KG J k ?_,Jj hok k fr ?_,n1,O2 hok nT,qF I f1,qF J nT,er',q⟩
 . intro b hb;simp only [List.mem_cons,List.not_mem_nil,or_false] at hb;rcases hb with rfl|rfl
   . exact qF I f1
   . exact qF I f2
 . intro b hb;simp only [List.mem_cons,List.not_mem_nil,or_false] at hb;rcases hb with rfl|rfl
   . exact n1
   . exact n2
end
def QT (X:Cx) (E:XK):Prop:=∀ (pins:List (Addr × Obj)) (σ:St) (H:Hp) (s:Shared) (ea:Addr) (cls:Value) (od:Option Addr) (h':Heap) (tk:Nat),Inv X pins σ H s->(∀ b o,s.heap.get? b=some o->h'.get? b=some o)->s.heap.get? ea=none->ph h' ea cls od .none->E cls od H ->
 X.xe (.ref ea) { s with heap:=h',toks:=tk }
section
variable {P:Program} {w:World} {K:PySem.W.Frag} {mg:Str->Option Value} {base:Heap} {N:List Str} {qual:Str} {scope:Scope} {f:Addr} {cd:Value} {A:Around} {outer:List Env} {s:Shared} {H:Hp} {E:XK}
theorem Na:QT (sQ (CXe P w) P w K mg base N qual scope f cd A outer s H E) E:=by
 intro pins σ H1 s1 ea cls od h' tk I kp nw er q;have J:=I.kept (t':=tk) kp;refine QI (base:=base) J.ok.frames J.stack rfl er fun h2 T' er' k nT=>?_;have fr:∀ b∈frs (envOfC qual scope s.heap.objs.size f cd::outer),H1 b=none:=J.stkFree;refine ⟨ea,T',cls,od,H1,rfl,J.os,J.bare,KG J k ?_,Jj J.hok k fr ?_,O2 I.hok nw,O2 J.hok nT,qF I nw,qF J nT,er',q⟩
 . intro b hb;rw [List.mem_singleton.mp hb];exact qF I nw
 . intro b hb;rw [List.mem_singleton.mp hb];exact O2 I.hok nw
end
end L2
set_option Elab.async false
set_option linter.all false
set_option maxRecDepth 100000
namespace L2
open PySem PySem.Spec PyProof.Rows
def OJ (K:PySem.W.Frag) (C:Addr):Prop:=∃ (nm qn:Str) (N:Addr) (bs bm:List Value) (hdct:Bool) (sn:List Str) (sub:List Value) (ab:Bool) (col:Option Bool) (dd:Option Addr) (k0 k1 k2 k3 k5:Option Value),
   K.lookup C=some (excClassObj nm qn C N bs bm hdct sn sub ab col dd k0 k1 k2 k3 k5 "ValueError.__new__")/\PySem.W.nsOkIn K N=true/\PySem.W.nsIn K N "__init__"=some none/\PySem.W.tailIn K bmV bm=true
theorem Nn {K:PySem.W.Frag} {C:Addr} {o:Obj} (nm qn:Str) (N:Addr) (bs bm:List Value) (hdct:Bool) (sn:List Str) (sub:List Value) (ab:Bool) (col:Option Bool) (dd:Option Addr) (k0 k1 k2 k3 k5:Option Value) (l:K.lookup C=some o)
   (e:o=excClassObj nm qn C N bs bm hdct sn sub ab col dd k0 k1 k2 k3 k5 "ValueError.__new__") (a:PySem.W.nsOkIn K N=true) (b:PySem.W.nsIn K N "__init__"=some none) (c:PySem.W.tailIn K bmV bm=true):OJ K C:=by
 subst e;exact ⟨_,_,_,_,_,_,_,_,_,_,_,_,_,_,_,_,l,a,b,c⟩
def QA (C:Addr) (E:XK) (t:TA):TS:=fun _ σ H=>t σ H fun vs H1=>vs.length<=sizeLine/\E (.ref C) none H1
section
variable {X:Cx} {x:Str} {np cpos pos:Pos} {e0:Expr} {es:List Expr} {t:TA} {C:Addr} {E:XK}
theorem K6 (q:OJ X.K C) (hc:X.calm=true) (hR:QT X E) (hg:Gl X x) (hm:X.mg x=some (.ref C)) (ha:PA X (e0::es) t) (hdb:(x == ("__debug__":Str))=false:=by decide)
   (he:starEach (e0::es) X.env=(false,eval e0 X.env)::starEach es X.env:=by rfl) (hpl:(backTo cpos (starEach es X.env)).any (·.1)=false:=by rfl):PS X (.Raise (some (.Call (.Name x np) (e0::es) [] cpos)) none pos) (QA C E t):=by
 intro pins s σ H D I h;obtain ⟨nm,qn,N,bs,bm,hdct,sn,sub,ab,col,dd,k0,k1,k2,k3,k5,ho,z5,z6,z4⟩:=q;have B:=I.mod.kin;have T0:=PySem.W.tail_of_in B z4;have N0:X.base.Ns N (X.base.nsMap N):=.of_isNs (PySem.W.isNs_of_in B z5);have hp:(backTo cpos (starEach (e0::es) X.env)).any (·.1)=false:=by
   rw [he];show (false || (backTo cpos (starEach es X.env)).any (·.1))=false;rw [hpl]
   rfl
 refine wpAny_Raise_call_subT (C:=C) (nm:=nm) (q:=qn) (N:=N) (bs:=bs) (bm:=bm) (hdct:=hdct) (sn:=sn) (sub:=sub) (ab:=ab) (col:=col) (dd:=dd) (k0:=k0) (k1:=k1) (k2:=k2) (k3:=k3) (k5:=k5) PySem.F.excBase_ValueError
   (T0.hasType (by decide +kernel)) (I.ok.hd hc) hp (PySem.W.nsMap_none_of_in B z5 z6) (BQ I hg hm ⟨rfl,?_⟩ hdb)
 have g:=ha cpos pins s σ H _ I h;rw [he] at g ⊢;refine Calls.evalArgs_plain (thn g fun us s1 ⟨vs,H1,I1,r1,q1⟩=>⟨rfl,by show us.length<=_;rw [<- r1.length];exact q1.1,I1.bk _ _ (B _ _ ho),N0.keeps I1.bk,T0.keeps I1.bk,fun h' ea m=>?_⟩);obtain ⟨tt,m1,_,_⟩:=m.there;exact hR pins σ H1 s1 ea (.ref C) none h' s1.toks I1 m.keeps m.new ⟨_,_,m1,rfl,rfl,rfl,rfl⟩ q1.2
end
section
variable {CX:CXT} {X:Cx} {k:Nat} {f C:Addr} {fd:FuncData} {ps:List Str} {sp:Sp} {dvs:List V} {ds:List Value} {x:Str} {p pos:Pos} {e:Expr} {es:List Expr} {te:TE} {t:TA} {st:Stmt} {sts:List Stmt} {ts:TS} {tx ux:(St->XK)->TS} {ex:XK->TE}
end
end L2
set_option Elab.async false
set_option linter.all false
set_option maxRecDepth 100000
namespace L2
open PySem PySem.Spec PyProof.Rows
section
variable {X:Cx} {pins:List (Addr × Obj)} {σ:St} {H:Hp} {s:Shared}
end
section
variable {K:PySem.W.Frag} {C C':Addr} {x:Addr} {ox:Obj} {od:Option Obj} {M:Model} {A:Around} {E:Value->Shared->Prop} {s:Shared} {b:Bool} {Q:Bool->Shared->Prop}
end
end L2
set_option Elab.async false
set_option linter.all false
set_option maxRecDepth 100000
namespace L2
open PySem PySem.Spec PyProof.Rows
def ExO (ea:Addr) (cls:Value) (od:Option Addr):HO:=.ext fun h=>∃ oe vs,h.get? ea=some oe/\oe.cls=cls/\oe.dict=od/\oe.data=.fields vs
section
variable {X:Cx} {pins:List (Addr × Obj)} {σ:St} {H:Hp} {s:Shared}
end
abbrev TH:=Ends->St->Value->Option Addr->Hp->Prop
def Ends.less (D:Ends) (i:Nat):Ends:={ nx:=fun σ H=>D.nx (σ.set i none) H,rt:=D.rt,bk:=fun σ H=>D.bk (σ.set i none) H,ct:=fun σ H=>D.ct (σ.set i none) H }
def X4 (K:PySem.W.Frag) (C':Addr) (i:Nat) (ts:TS) (tr:TH):TH:=fun D σ cls od H=>∃ C b,cls=.ref C/\PySem.W.mroIn K C (.ref C')=some b /\
 if b=true then ∀ ea,H ea=none->ts (D.less i) (σ.set i (some (.ref ea))) (upd H ea (ExO ea cls od)) else tr D σ cls od H
section
variable {X:Cx} {x n:Str} {np pos:Pos} {i:Nat} {C':Addr} {b0:Stmt} {suite:List Stmt} {rest:List ExceptHandler} {ts:TS} {tr:TH}
def Yj (tb:(St->XK)->TS) (th:TH):TS:=fun D σ H=>tb (fun σ' cls od H'=>th D σ' cls od H') D σ H
end
end L2
set_option Elab.async false
set_option linter.all false
set_option maxRecDepth 100000
namespace L2
open PySem PySem.Spec PyProof.Rows
section
variable {P:Program} {w:World} {K:PySem.W.Frag} {mg:Str->Option Value} {base:Heap}
end
section
variable {X:Cx} {k:Nat} {f:Addr} {fd:FuncData} {ps:List Str} {sp:Sp} {x:Str} {p pos:Pos} {e:Expr} {es:List Expr} {t:TA}
end
section
variable {X:Cx}
end
def xg (cells:List (Str × Addr)):List (Str × NameKind)->List (Str × Addr)->List (Str × Addr)
 | [],acc=>acc
 | (n,k)::r,acc=>if k == .free then xg cells r ((n,(cells.lookup n).getD 0)::acc) else xg cells r acc
theorem O6 {scope:Scope} {env:Env} (h:∀ y∈scope.names,y.2=.free->(env.cells.lookup y.1).isSome=true):closureFor scope env=pure (xg env.cells scope.names []):=by
 have key:∀ (l:List (Str × NameKind)) (acc:List (Str × Addr)),(∀ y∈l,y.2=.free->(env.cells.lookup y.1).isSome=true) ->
     (forIn l acc fun (y:Str × NameKind) (c:List (Str × Addr))=>(if y.2 == NameKind.free then do let a <- cellOf env y.1;pure (ForInStep.yield ((y.1,a)::c)) else pure (ForInStep.yield c):Sem (ForInStep (List (Str × Addr)))))=(pure (xg env.cells l acc):Sem (List (Str × Addr))):=by
   intro l
   induction l with
   | nil=>intro acc _;rfl
   | cons y l ih =>
     obtain ⟨n,k⟩:=y;intro acc hh;have h1:=hh (n,k) List.mem_cons_self;have h2:∀ y∈l,y.2=.free->(env.cells.lookup y.1).isSome=true:=fun y hy=>hh y (List.mem_cons_of_mem _ hy);rw [List.forIn_cons];unfold xg;cases q:k == NameKind.free with
     | false =>
       simp only [Bool.false_eq_true,if_false,pure_bind];exact ih acc h2
     | true =>
       obtain ⟨c,hc⟩:=Option.isSome_iff_exists.mp (h1 (by simpa using q));dsimp only at hc;simp only [if_true,cellOf,hc,pure_bind,Option.getD_some];exact ih _ h2
 have:=key scope.names [] h;unfold closureFor;simp only [bind_pure];exact this
theorem Dn {cells:List (Str × Addr)} {x:Str} {c:Addr}:∀ {l:List (Str × NameKind)} {acc:List (Str × Addr)},(∀ y∈l,y.2=.free->(cells.lookup y.1).isSome=true)->(∀ x c,acc.lookup x=some c->cells.lookup x=some c)->(xg cells l acc).lookup x=some c->cells.lookup x=some c
 | [],acc,_,h2,h3=>h2 x c h3
 | (n,k)::r,acc,h1,h2,h3=>by
   have h1':∀ y∈r,y.2=.free->(cells.lookup y.1).isSome=true:=fun y hy=>h1 y (List.mem_cons_of_mem _ hy);unfold xg at h3;cases q:k == NameKind.free with
   | false =>
     rw [q] at h3;exact Dn h1' h2 (by simpa using h3)
   | true =>
     rw [q] at h3;simp only [if_true] at h3;obtain ⟨a,ha⟩:=Option.isSome_iff_exists.mp (h1 (n,k) List.mem_cons_self (by simpa using q));dsimp only at ha;rw [ha] at h3;refine Dn h1' (fun y d hy=>?_) h3;rw [List.lookup_cons] at hy;cases z:y == n with
     | true =>
       rw [z] at hy;cases hy;rw [eq_of_beq z];exact ha
     | false =>
       rw [z] at hy;exact h2 y d hy
theorem C4 {cells:List (Str × Addr)} {x:Str}:∀ {l:List (Str × NameKind)} {acc:List (Str × Addr)},((∃ c,acc.lookup x=some c)\/(x,NameKind.free)∈l)->∃ c,(xg cells l acc).lookup x=some c
 | [],acc,h=>by
   rcases h with h|h
   . exact h
   . cases h
 | (n,k)::r,acc,h=>by
   unfold xg;cases q:k == NameKind.free with
   | false =>
     simp only [Bool.false_eq_true,if_false];refine C4 ?_;rcases h with h|h
     . exact .inl h
     . rcases List.mem_cons.mp h with z|z
       . cases z;simp at q
       . exact .inr z
   | true =>
     simp only [if_true];refine C4 ?_;by_cases z:x=n
     . subst z;exact .inl ⟨(cells.lookup x).getD 0,by rw [List.lookup_cons];simp⟩
     . rcases h with ⟨c,h⟩|h
       . refine .inl ⟨c,?_⟩;rw [List.lookup_cons];have:(x == n)=false:=(by simpa using z);rw [this];exact h
       . rcases List.mem_cons.mp h with y|y
         . cases y;exact absurd rfl z
         . exact .inr y
theorem qZ {env:Env} {x:Str} {k:NameKind}:∀ {l:List (Str × NameKind)},l.lookup x=some k ->
   (l.map fun (n,k)=>if (k == NameKind.free && env.scope.kind == .function && env.kindOf n == some .cell) then (n,NameKind.cell) else (n,k)).lookup x=some (if (k == NameKind.free && env.scope.kind == .function && env.kindOf x == some .cell) then NameKind.cell else k)
 | [],h=>by simp at h
 | (n,j)::r,h=>by
   have ih:=@qZ env x k r;rw [List.map_cons];rw [List.lookup_cons] at h;cases z:x == n with
   | true =>
     rw [z] at h;cases h;have e:=eq_of_beq z;subst e;by_cases q:(k == NameKind.free && env.scope.kind == .function && env.kindOf x == some .cell)=true
     . simp only [q,if_true,List.lookup_cons,z]
     . simp only [q,if_false,List.lookup_cons,z,Bool.false_eq_true]
   | false =>
     rw [z] at h;dsimp only;by_cases q:(j == NameKind.free && env.scope.kind == .function && env.kindOf n == some .cell)=true
     . rw [if_pos q,List.lookup_cons,z];exact ih h
     . rw [if_neg q,List.lookup_cons,z];exact ih h
theorem gj {X:Cx} {Nc:List Str} {scope:Scope} (own:Nat) (js:List Nat) (hc:∀ y∈scope.names,y.2≠.cell) (hk:scope.kind=.function) (hn:∀ y∈scope.names,y.2=.local->scope.names.lookup y.1=some .local) (hl:Nc.length=own+js.length)
   (hf:∀ y∈scope.names,y.2=.free->X.env.scope.names.lookup y.1=some .cell) (hX:X.env.scope.kind=.function) (hcell:∀ x,X.env.scope.names.lookup x=some .cell->∃ c,X.env.cells.lookup x=some c)
   (hU:∀ i,i<js.length->∃ x j,Nc[own+i]?=some x/\js[i]?=some j/\X.N[j]?=some x/\scope.names.lookup x=some .free):CompTxt X Nc own js scope (xg X.env.cells scope.names []):=by
 have hs:∀ y∈scope.names,y.2=.free->(X.env.cells.lookup y.1).isSome=true:=fun y hy e=>by
   obtain ⟨c,q⟩:=hcell _ (hf y hy e);rw [q]
   rfl
 have free_cell:∀ x,scope.names.lookup x=some .free->X.env.scope.names.lookup x=some .cell:=fun x h=>hf (x,.free) (PySem.mem_of_lookup h) rfl;refine ⟨O6 hs,hk,hc,hn,fun x c h=>Dn hs (fun x c z=>by simp at z) h,fun x h=>?_,hl,fun i x h=>?_⟩
 . cases q:scope.names.lookup x with
   | none =>
     exfalso
     have:(relabel scope X.env).names.lookup x=none:=by
       unfold relabel;dsimp only
       revert q
       generalize scope.names=l
       induction l with
       | nil=>intro _;rfl
       | cons y l ih =>
         obtain ⟨n,k⟩:=y;intro q;rw [List.lookup_cons] at q;cases z:x == n with
         | true=>rw [z] at q;cases q
         | false =>
           rw [z] at q;rw [List.map_cons];dsimp only;by_cases w:(k == NameKind.free && X.env.scope.kind == .function && X.env.kindOf n == some .cell)=true
           . rw [if_pos w,List.lookup_cons,z];exact ih q
           . rw [if_neg w,List.lookup_cons,z];exact ih q
     rw [this] at h;rcases h with h|h <;> cases h
   | some k =>
     have r:(relabel scope X.env).names.lookup x=some _:=qZ (env:=X.env) q;cases k with
     | free=>exact C4 (.inr (PySem.mem_of_lookup q))
     | cell=>exact absurd rfl (hc _ (PySem.mem_of_lookup q))
     | _ =>
       rw [r] at h;simp at h
 . have hi:i<js.length:=by
     have:=(List.getElem?_eq_some_iff.mp h).1;omega
   obtain ⟨y,j,e1,e2,e3,e4⟩:=hU i hi;rw [h] at e1;cases e1;have fc:=free_cell x e4;refine ⟨j,e2,e3,fc,?_⟩;have r:(relabel scope X.env).names.lookup x=some _:=qZ (env:=X.env) e4;rw [r];have:X.env.kindOf x=some .cell:=fc;rw [this,hX]
   rfl
end L2
set_option Elab.async false
set_option linter.all false
set_option maxRecDepth 100000
namespace L2
open PySem PySem.Spec PyProof.Rows
theorem NH:∀ {ns:List Int} {us:List Value},Vals (ns.map V.int) us->IntsAre us ns
 | [],_,h=>by cases h;exact .nil
 | n::ns,_,h=>by
   cases h with
   | cons r t =>
     obtain ⟨k,rfl⟩:=(show ∃ t,_=Value.int n t from r);exact .cons n k (NH t)
theorem MX:∀ {ns:List Int} {us:List Value},IntsAre us ns->Vals (ns.map V.int) us
 | _,_,.nil=>.nil
 | _,_,.cons n t r=>.cons ⟨t,rfl⟩ (MX r)
section
variable {X:Cx}
theorem Mq:jp X (.builtin "sorted") (fun xs H Q=>∃ (p:Addr) (ns:List Int),xs=[.ref p]/\SqL X.K H p (ns.map V.int)/\ns.length<64/\∀ (l:Addr) (zs:List Int),H l=none->zs.Perm ns->zs.Pairwise (·<=·)->Q (.ref l) (upd H l (.lst (zs.map V.int)))):=by
 intro pins s σ H xs us Q I r h;obtain ⟨p,ns,rfl,hp,h64,q⟩:=h;obtain ⟨u,rfl,ru⟩:=nF r;cases ru;obtain ⟨its,rv,pl,hz⟩:=I.list hp;have hi:=NH rv;have e1:=IntsAre.length hi;refine sorted_ints pl.isList hi (by omega) fun out zs a1 a2 a3=>?_;obtain ⟨e,he⟩:=sortedAll_at s.heap its out;have hn:H (s.heap.objs.size+1)=none:=I.hok.fresh (Nat.le_succ _);have ln:zs.length=ns.length:=a2.length_eq;refine ⟨.ref (s.heap.objs.size+1),_,I.laid (a:=s.heap.objs.size+1) (o:=.lst (zs.map V.int)) (t':=s.toks) (fun b o e=>sortedAll_old e) (Nat.le_succ _) ⟨?_,out.toList,e,MX a1,?_⟩,rfl,q _ zs hn a2 a3⟩
 . rw [List.length_map,ln];exact aL (by omega)
 . exact he
end
section
variable {K:PySem.W.Frag} {T C:Addr} {c0:Value} {dd:Option Addr} {cd:ClassData} {sl:Array (Option Value)}
end
section
variable {P:Program} {w:World} {K:PySem.W.Frag} {mg:Str->Option Value} {base:Heap}
theorem Fun.okX {x qual:Str} {st:Stmt} {f:Addr} {fd:FuncData} {N ps:List Str} {k:Nat} {sp:Sp} (F:Fun K x qual st f fd) (S:FnScope N ps (aa st)) (len:∀ vs H Q E,sp vs H Q E->vs.length=ps.length)
   (hbody:∀ (cdv:Value) (A:Around) (outer:List Env) (s:Shared) (H:Hp) (vs:List V) (Q:VK) (E:XK),Room k (A.deeper (envOfC qual (aa st) s.heap.objs.size f cdv))->sp vs H Q E ->
     ∃ t,PSs (sQ (CXe P w) P w K mg base N qual (aa st) f cdv A outer s H E) (aw st) t/\t { nx:=fun _ H'=>Q .non H',rt:=Q } (start N vs) H):FnOk P w K mg base (CXe P w) (k+1) f fd ps sp:=by
 obtain ⟨oc,od,kV,doc,pm,an,cdv,ct,osl,rfl,lk,hcd⟩:=F.ex;exact UV lk hcd S len fun A outer s H vs Q E hr hsp=>hbody cdv A outer s H vs Q E hr hsp
end
theorem GB {C:Addr} {E:XK} {t:TA} {D:Ends} {σ:St} {H:Hp}:QA C E t D σ H=t σ H fun vs H1=>vs.length<=sizeLine/\E (.ref C) none H1:=rfl
theorem NC {tb:(St->XK)->TS} {th:TH} {D:Ends} {σ:St} {H:Hp}:Yj tb th D σ H=tb (fun σ' cls od H'=>th D σ' cls od H') D σ H:=rfl
theorem Je {K:PySem.W.Frag} {C':Addr} {i:Nat} {ts:TS} {tr:TH} {D:Ends} {σ:St} {cls:Value} {od:Option Addr} {H:Hp}:X4 K C' i ts tr D σ cls od H=∃ C b,cls=.ref C/\PySem.W.mroIn K C (.ref C')=some b /\
 if b=true then ∀ ea,H ea=none->ts (D.less i) (σ.set i (some (.ref ea))) (upd H ea (ExO ea cls od)) else tr D σ cls od H:=rfl
theorem Yg {H:Hp} {l b:Addr} {xs zs:List V} {Q:VK} (h1:H l=some (.lst xs)) (h2:H b=some (.lst zs)) (hz:xs.length+zs.length<=sizeLine) (q:∀ p,H p=none->Q (.ref p) (upd H p (.lst (xs++zs)))):rCat (.ref l) (.ref b) H Q:=⟨l,b,xs,zs,rfl,rfl,h1,h2,hz,q⟩
theorem Same.put {H H':Hp} {l:Addr} (e:Same H H') (n:H l=none) (o:HO):Same H (upd H' l o):=fun b u h=>by rw [ao (aX h n)];exact e b u h
end L2
set_option Elab.async false
set_option linter.all false
set_option maxRecDepth 100000
namespace L2
open PySem PySem.Spec PyProof.Rows
theorem Tq {M:Model} {A:Around} {E:Value->Shared->Prop} {s:Shared} {env:Env} {x:Str} {px:Pos} {v:Value} {Q:Unit->Shared->Prop} (h:wpAny M A (storeName env x v) Q E s):wpAny M A (assign (.Name x px) env v) Q E s:=by
 show wpAny M A (do standAt px;bindName env x v) Q E s;exact wpAny_bind (wpAny_standAt (wpAny_bindName h))
section
variable {X:Cx} {Nc:List Str} {own:Nat} {js:List Nat} {scope:Scope} {cl:List (Str × Addr)}
theorem Fd {i:Nat} {x:Str} {px pos:Pos} {elt target iter:Expr} {ifs:List Expr} {cpos:Pos} {wi:TI} {g:TG} {tc:TT} {te:TE} (hN:X.N.Nodup) (hxi:X.N[i]?=some x) (hxl:X.env.scope.names.lookup x=some .local) (hc:X.calm=true) (T:CompTxt X Nc own js scope cl)
   (hi:PI X target iter wi) (hg:∀ C s₂ H₁ fp,PG (X.comp Nc scope cl C s₂ H₁ fp) target g) (ht:∀ C s₂ H₁ fp,PTs (X.comp Nc scope cl C s₂ H₁ fp) ifs tc)
   (he:∀ C s₂ H₁ fp,PE (X.comp Nc scope cl C s₂ H₁ fp) elt te) (hs:∀ x,foldedSetIterable iter X.env x=pure x:=by intro _;rfl)
   (hsw:swapsWith (.ListComp elt [⟨target,iter,ifs,0⟩] scope cpos) (some (.Name x px)) pos.line X.env=pure true:=by rfl) :
   PS X (.Assign [.Name x px] (.ListComp elt [⟨target,iter,ifs,0⟩] scope cpos) pos) (IR (Og own js wi g tc te) (tK i)):=by
 intro pins s σ H D I h;rw [exec_Assign_Name_used _ _ _ _ hsw];refine wpAny_bind (wpAny_standAt (wpAny_bind ?_));rw [arm_evalThenUse_ListComp];refine wpAny_bind ?_;refine wpAny_comprehension_free (use:=some (assign (.Name x px) X.env)) rfl hs T.clos T.kind T.names (thn (hi pins s σ H _ I h) fun v s1 h1=>thn h1 fun itv s2 h2=>?_);obtain ⟨it,fp,tn,J,H1,rfl,I1,Tn,st,f1,R⟩:=h2;have hfp:∀ b∈fp,b<s2.heap.objs.size:=fun b hb=>let ⟨o,e,_⟩:=Tn.obj _ _ st b hb;Heap.lt_size e;refine wpAny_newObj_type (wpAny_newFunctionEnv T.nocell (by intro y hy;simp at hy) (fun h₁ hns₁ hsb₁=>?_) T.kind);dsimp only at hns₁ hsb₁ ⊢;generalize hH2:s2.heap.push { cls:=.type "list",dict:=none,data:=.seq ([]:List Value).toArray }=H2 at hns₁ hsb₁ ⊢;have hC:H2.objs.size=s2.heap.objs.size+1:=by rw [<- hH2,Heap.size_push]
 have hDC:s2.heap.objs.size≠H2.objs.size:=by rw [hC];exact Nat.ne_of_lt (Nat.lt_succ_self _)
 have hCle:s2.heap.objs.size<=H2.objs.size:=by rw [hC];exact Nat.le_succ _
 have below:∀ b,b<s2.heap.objs.size->b≠H2.objs.size:=fun b hb=>by rw [hC];exact Nat.ne_of_lt (Nat.lt_succ_of_lt hb)
 have old:∀ b o,s2.heap.get? b=some o->h₁.get? b=some o:=fun b o e=>hsb₁.extBut b o (below b (Heap.lt_size e)) (Heap.get?_push_of_some _ (hH2 ▸ Heap.get?_push_of_some _ e));have hacc:∃ n,h₁.get? s2.heap.objs.size=some { cls:=.type "list",data:=.seq ([]:List Value).toArray n }:=⟨_,hsb₁.extBut _ _ hDC (Heap.get?_push_of_some _ (hH2 ▸ Heap.get?_push_size _ rfl))⟩;have st₁:tn 0 h₁:=Tn.keep _ _ _ st fun b _ o e=>old b o e;obtain ⟨W,⟨m0,w0⟩,turn⟩:=R s2.heap.objs.size I1.fresh;have Ic:=Jf (t:=s2.toks+([]:List (Str × Value)).length) T I1 hCle (Nat.le_refl _) hDC f1 hfp old hns₁ hacc;generalize hXc:X.comp Nc scope cl H2.objs.size s2 H1 fp=Xc at Ic;have stat:∀ {H':Hp},(∀ b∈fp,H' b=none)->∀ b∈fp,qR Xc [] H' b:=fun {H'} hn b hb=>by
   subst hXc;exact ⟨hn b hb,below b (hfp b hb),(FY T I1 hCle f1 hfp).exfs b hb,.inl hb,fun x c e=>(f1 b hb).2.2.2.2.1 x c (T.cells x c e),fun p hp=>by cases hp⟩
 have fr0:∀ b∈fp,upd H1 s2.heap.objs.size (.lst []) b=none:=fun b hb=>by
   rw [ao (Nat.ne_of_lt (hfp b hb))];exact (f1 b hb).1
 have calmc:Xc.calm=true:=by subst hXc;exact hc
 have loop:∀ s₃:Shared,s₃={ s2 with heap:=h₁,toks:=s2.toks+([]:List (Str × Value)).length } ->
     codeAny (model X.prog X.w) X.A (.compLoop (.ListComp elt [⟨target,iter,ifs,0⟩] scope cpos) 0 (.ref it) (.ref s2.heap.objs.size) (compEnvC scope cl H2.objs.size X.env))
       (compPost (model X.prog X.w) X.A X.xe (some (assign (.Name x px) X.env)) (fun _ s'=>wpAny (model X.prog X.w) X.A (pure ()) (fun _ s''=>wpAny (model X.prog X.w) X.A (pure Flow.next) (SP X pins D) X.xe s'') X.xe s') (.ref s2.heap.objs.size) H2.objs.size) s₃:=by
   rintro s₃ rfl;refine Cm (fun n s'=>∃ i ys σ' H',Inv Xc [] σ' H' s'/\tn i s'.heap/\(∀ b∈fp,H' b=none)/\W i n ys σ' H') ?_ m0 ⟨0,[],_,_,Ic,st₁,fr0,w0⟩;rintro n s3 ⟨i,ys,σ3,H3,I3,st3,fr3,w3⟩;rcases turn i n ys σ3 H3 w3 with ⟨stop,q⟩|⟨go,step⟩
   . subst hXc;refine thn (Tn.done (X.comp Nc scope cl H2.objs.size s2 H1 fp) rfl rfl rfl hc i [] s3 σ3 H3 _ I3 (stat fr3) st3 stop) fun r s4 ⟨hr,I4⟩=>?_;subst hr;obtain ⟨m4,hn4,_⟩:=id I4.loc;have J:=GO I1 hCle f1 I4 (h':=s4.heap) (Heap.SameBut.refl _ _);have cl0:H2.objs.size≠X.env.locals:=Nat.ne_of_gt (Nat.lt_of_lt_of_le I1.lt hCle);have cy:X.s₀.heap.objs.size<=H2.objs.size:=Nat.le_trans I1.sz hCle;have cc:∀ y c,X.env.cells.lookup y=some c->c≠H2.objs.size:=fun y c e=>by
       obtain ⟨v',o',ho',_⟩:=I1.cell y c e;exact Nat.ne_of_lt (Nat.lt_of_lt_of_le (Heap.lt_size ho') hCle)
     have cp:∀ p∈X.pn++pins,p.1≠H2.objs.size:=fun p hp=>by
       obtain ⟨ho',_⟩:=I1.pin p hp;exact Nat.ne_of_lt (Nat.lt_of_lt_of_le (Heap.lt_size ho') hCle)
     refine Tq (Gn (v:=.ref s2.heap.objs.size) J hN hxi (.inl hxl) rfl (fun s5 I5 ⟨ad,sb,had⟩=>?_) (.inr hxl));have nad:H2.objs.size≠ad:=by
       rcases had with rfl|had
       . exact cl0
       . exact (cc _ _ had).symm
     obtain ⟨oo,es,ep,e1,e2⟩:=hn4;refine ⟨m4,⟨oo,es,ep,(sb.2 _ nad).trans e1,e2⟩,fun h' hs'=>wpAny_pure (wpAny_pure ⟨_,H3,?_,q⟩)⟩;exact I5.turned (it:=H2.objs.size) (t':=s5.toks) (fun b o n e=>hs'.extBut b o n e) I4.free cl0 (.inr cy) cc cp
   . subst hXc;refine thn (Tn.item (X.comp Nc scope cl H2.objs.size s2 H1 fp) rfl rfl rfl hc i [] s3 σ3 H3 _ I3 (stat fr3) st3 go) fun r s4 ⟨u,hr,h4⟩=>?_;subst hr;refine thn h4 fun _ s5 ⟨x,H5,I5,r5,y5,st5,fr5⟩=>?_;have I5':=I5.pinned (stat fr5) (Tn.obj _ _ st5);have back:∀ {σ7:St} {H7:Hp} {s7:Shared},Inv (X.comp Nc scope cl H2.objs.size s2 H1 fp) ([]++xK fp s5.heap) σ7 H7 s7->Inv (X.comp Nc scope cl H2.objs.size s2 H1 fp) [] σ7 H7 s7/\tn (i+1) s7.heap/\∀ b∈fp,H7 b=none:=fun {σ7 H7 s7} I7=>by
       refine ⟨I7.unpinned,Tn.keep _ _ _ st5 fun b hb o e=>(I7.pin (b,o) (List.mem_append_right _ (List.mem_append_right _ (ml hb e)))).1,fun b hb=>?_⟩;obtain ⟨o,e,d⟩:=Tn.obj _ _ st5 b hb;exact (I7.pin (b,o) (List.mem_append_right _ (List.mem_append_right _ (ml hb e)))).2.1
     refine thn (hg _ _ _ _ _ s5 σ3 H5 x u _ I5' r5 (step x H5 y5)) fun _ s6 ⟨σ6,H6,I6,q6⟩=>?_;refine FZ (ht _ _ _ _ _ s6 σ6 H6 _ I6 q6) fun ok s7 H7 I7 q7=>?_;cases ok with
     | false =>
       rw [if_neg Bool.false_ne_true] at q7 ⊢;obtain ⟨m',hm,w7⟩:=q7;obtain ⟨J1,J2,J3⟩:=back I7;exact ⟨m',hm,i+1,ys,σ6,H7,J1,J2,J3,w7⟩
     | true =>
       rw [if_pos rfl] at q7 ⊢;refine bT (he _ _ _ _ _ s7 σ6 H7 _ I7 q7) fun y s8 yv H8 I8 r8 ⟨hp8,hl8,m',hm,w8⟩=>?_;refine thn (eW _ s8 σ6 H8 (.ref s2.heap.objs.size) [yv] _ [y] (fun v' H'=>W (i+1) m' (ys++[yv]) σ6 H') I8 rfl (.cons r8 .nil) ⟨_,ys,yv,rfl,rfl,hp8,hl8,w8⟩) fun v9 s9 ⟨_,H9,I9,_,w9⟩=>?_;obtain ⟨J1,J2,J3⟩:=back I9;exact ⟨m',hm,i+1,ys++[yv],σ6,H9,J1,J2,J3,w9⟩
 exact codeAny_compStart_list (loop _ rfl) (Tn.self _ 0 _ _ _ st₁ (loop _ rfl))
end
end L2
set_option Elab.async false
set_option linter.all false
set_option maxRecDepth 100000
namespace L2
open PySem PySem.Spec PyProof.Rows
theorem BG {K:PySem.W.Frag} {H:Hp}:∀ ns:List Int,DeepAll K H (ns.map V.int) (ns.map PyData.int)
 | []=>.nil
 | n::ns=>.cons (.int n) (BG ns)
theorem oO {K:PySem.W.Frag} {H:Hp} {l:Addr} {ns:List Int} (h:H l=some (.lst (ns.map V.int))):Deep K H (.ref l) (.list (ns.map PyData.int)):=.lst (SqL.of h) (BG ns)
theorem Cp:∀ ns:List Int,PyData.eqvAll (ns.map PyData.int) (ns.map PyData.int)=true
 | []=>by simp [PyData.eqvAll]
 | n::ns=>by
   simp only [List.map_cons,PyData.eqvAll];rw [Cp ns];simp [PyData.eqv]
theorem nB:∀ ns:List Int,PyData.depthAll (ns.map PyData.int)<=1
 | []=>by simp [PyData.depthAll]
 | n::ns=>by
   simp only [List.map_cons,PyData.depthAll];have:=nB ns;have:(PyData.int n).depth<=1:=by simp [PyData.depth]
   omega
end L2
set_option Elab.async false
set_option linter.all false
set_option maxRecDepth 100000
namespace Pb
open L2 PySem
def front (r:Int) (par:Int->Int) (p:Int):V:=if p=r then .non else .int (par p)
def bq (m:Int) (rs:List Road) (fv:V) (p:Int):List Int:=(bE m rs p).filter fun v=>decide (V.int v≠fv)
variable {m:Int} {rs:List Road} {r:Int} {par:Int->Int} {dep:Int->Nat}
theorem Rooted.ne (R:Rooted m rs r par dep) {v:Int} (h0:0<=v) (h1:v<m) (hr:v≠r):par v≠v:=fun z=>by
 have:=(R.up v h0 h1 hr).2.2;rw [z] at this;omega
theorem fA (g:Good m rs) (R:Rooted m rs r par dep) {p v:Int} (p0:0<=p) (p1:p<m):v∈bq m rs (front r par p) p↔(0<=v/\v<m)/\v≠r/\par v=p:=by
 unfold bq;rw [List.mem_filter,hV g,decide_eq_true_eq]
 constructor
 . rintro ⟨ad,hf⟩;obtain ⟨_,hv,_⟩:=g.adj ad;refine ⟨hv,?_⟩;obtain ⟨x,hx,j⟩:=ad;have key:∀ u w:Int,(u≠r/\par u=w)\/(w≠r/\par w=u)->u=p->w=v->v≠r/\par v=p:=fun u w h e1 e2=>by
     subst e1 e2;rcases h with h|h
     . exfalso
       apply hf;unfold front;rw [if_neg h.1,h.2]
     . exact h
   rcases j with ⟨a,b⟩|⟨a,b⟩
   . exact key x.a x.b (R.road x hx) a b
   . exact key x.b x.a (R.road x hx).symm a b
 . rintro ⟨hv,hr,hp⟩;have u:=R.up v hv.1 hv.2 hr;rw [hp] at u;refine ⟨?_,fun z=>?_⟩
   . obtain ⟨x,hx,j⟩:=u.2.1;exact ⟨x,hx,j.elim (fun q=>.inr ⟨q.2,q.1⟩) (fun q=>.inl ⟨q.2,q.1⟩)⟩
   . unfold front at z;by_cases c:p=r
     . rw [if_pos c] at z;cases z
     . rw [if_neg c] at z;have e:v=par p:=(by injection z);have w:=(R.up p p0 p1 c).2.2;have w2:=u.2.2;rw [<- e] at w;omega
theorem zo {fv:V} {p:Int}:(bq m rs fv p).Nodup:=(E4 m rs p).filter _
def nl (m:Int) (par:Int->Int) (ks:List Int):List V:=(below m.toNat).map fun v=>if v∈ks then .int (par v) else .non
def qC (m r:Int) (par:Int->Int):List V:=(below m.toNat).map (front r par)
theorem rV {ks:List Int}:(nl m par ks).length=m.toNat:=by unfold nl;rw [List.length_map,aD]
theorem AQ {n i:Nat} (h:i<n):(below n)[i]?=some (i:Int):=by unfold below;rw [List.getElem?_map,List.getElem?_range h];rfl
theorem K4 {ks:List Int} {v:Int} (h0:0<=v) (h1:v<m):(nl m par ks)[v.toNat]?=some (if v∈ks then .int (par v) else .non):=by
 unfold nl;rw [List.getElem?_map,AQ (by omega)];show some (if ((v.toNat:Nat):Int)∈ks then V.int (par ((v.toNat:Nat):Int)) else V.non)=_;rw [Int.toNat_of_nonneg h0]
theorem QR {ks:List Int} {v:Int} (h0:0<=v) (h1:v<m):(nl m par ks).set v.toNat (.int (par v))=nl m par (ks++[v]):=by
 refine List.ext_getElem? fun i=>?_;rw [List.getElem?_set];by_cases c:i<m.toNat
 . have e:∀ l:List Int,(nl m par l)[i]?=some (if (i:Int)∈l then .int (par (i:Int)) else .non):=fun l=>by
     have:=K4 (par:=par) (ks:=l) (v:=(i:Int)) (m:=m) (by omega) (by omega)
     rwa [Int.toNat_natCast] at this
   rw [e,rV];by_cases z:v.toNat=i
   . have z2:v=(i:Int):=(by omega);rw [if_pos z,if_pos (by omega),e,if_pos (by rw [z2];simp),<- z2]
   . rw [if_neg z,e];have z2:¬ ((i:Int)=v):=(by omega);simp [z2]
 . have e:∀ l:List Int,(nl m par l)[i]?=none:=fun l=>List.getElem?_eq_none (by rw [rV];omega);rw [e,e,rV];by_cases z:v.toNat=i
   . omega
   . rw [if_neg z]
structure AInv (m:Int) (rs:List Road) (r:Int) (par:Int->Int) (ks ws:List Int):Prop where
 nd:ks.Nodup
 rng:∀ k∈ks,0<=k/\k<m
 nr:r ∉ ks
 sub:∀ w∈ws,w=r\/w∈ks
 wnd:ws.Nodup
 ok:∀ v∈ks,par v ∉ ws/\(par v=r\/par v∈ks)
 dn:∀ v,0<=v->v<m->v≠r->(par v=r\/par v∈ks)->par v ∉ ws->v∈ks
theorem AInv.start:AInv m rs r par [] [r] where
 nd:=List.nodup_nil
 rng:=fun _ h=>by cases h
 nr:=fun h=>by cases h
 sub:=fun w h=>.inl (List.mem_singleton.mp h)
 wnd:=by simp
 ok:=fun _ h=>by cases h
 dn:=fun v _ _ _ h n=>by
   rcases h with h|h
   . exact absurd (by rw [h];simp) n
   . cases h
theorem AInv.at_ (J:AInv m rs r par ks ws) (r0:0<=r) (r1:r<m) {p:Int} (hp:p∈ws):0<=p/\p<m:=by
 rcases J.sub p hp with h|h
 . rw [h];exact ⟨r0,r1⟩
 . exact J.rng p h
theorem AInv.front (J:AInv m rs r par ks ws) {p:Int} (hp:p∈ws):(if p∈ks then V.int (par p) else V.non)=front r par p:=by
 unfold Pb.front;by_cases c:p=r
 . rw [if_pos c,if_neg (by rw [c];exact J.nr)]
 . rw [if_neg c,if_pos ((J.sub p hp).resolve_left c)]
theorem AInv.step (g:Good m rs) (R:Rooted m rs r par dep) (r0:0<=r) (r1:r<m) {ks ws ws':List Int} {p:Int} (J:AInv m rs r par ks ws) (e:ws.Perm (p::ws')):AInv m rs r par (ks++bq m rs (Pb.front r par p) p) (ws'++bq m rs (Pb.front r par p) p):=by
 have hp:p∈ws:=e.mem_iff.mpr List.mem_cons_self;have pr:=J.at_ r0 r1 hp;have mk:∀ v,v∈bq m rs (Pb.front r par p) p↔(0<=v/\v<m)/\v≠r/\par v=p:=fun v=>fA g R pr.1 pr.2;have nk:(bq m rs (Pb.front r par p) p).Nodup:=zo;generalize bq m rs (Pb.front r par p) p=kk at mk nk ⊢;have dis:∀ v∈kk,v ∉ ks:=fun v hv z=>(J.ok v z).1 (by rw [((mk v).mp hv).2.2];exact hp);obtain ⟨n1,n2⟩:=List.nodup_cons.mp (e.nodup_iff.mp J.wnd);have sw:∀ w∈ws',w∈ws:=fun w hw=>e.mem_iff.mpr (List.mem_cons_of_mem _ hw);refine ⟨?_,?_,?_,?_,?_,?_,?_⟩
 . rw [List.nodup_append];exact ⟨J.nd,nk,fun a ha b hb z=>dis b hb (z ▸ ha)⟩
 . intro k hk;rcases List.mem_append.mp hk with h|h
   . exact J.rng k h
   . exact ((mk k).mp h).1
 . intro z;rcases List.mem_append.mp z with h|h
   . exact J.nr h
   . exact ((mk r).mp h).2.1 rfl
 . intro w hw;rcases List.mem_append.mp hw with h|h
   . exact (J.sub w (sw w h)).imp id (List.mem_append_left _)
   . exact .inr (List.mem_append_right _ h)
 . rw [List.nodup_append];refine ⟨n2,nk,fun a ha b hb z=>?_⟩;subst z;rcases J.sub a (sw a ha) with h|h
   . exact ((mk a).mp hb).2.1 h
   . exact dis a hb h
 . intro v hv;rcases List.mem_append.mp hv with h|h
   . obtain ⟨o1,o2⟩:=J.ok v h;refine ⟨fun z=>?_,o2.imp id (List.mem_append_left _)⟩;rcases List.mem_append.mp z with z|z
     . exact o1 (sw _ z)
     . rcases o2 with o|o
       . exact ((mk _).mp z).2.1 o
       . exact dis _ z o
   . obtain ⟨q1,q2,q3⟩:=(mk v).mp h;rw [q3];refine ⟨fun z=>?_,(J.sub p hp).imp id (List.mem_append_left _)⟩;rcases List.mem_append.mp z with z|z
     . exact n1 z
     . obtain ⟨w1,w2,w3⟩:=(mk p).mp z;exact R.ne w1.1 w1.2 w2 w3
 . intro v v0 v1 vr h n;have nk2:par v ∉ kk:=fun z=>n (List.mem_append_right _ z);have h':par v=r\/par v∈ks:=h.imp id fun z=>(List.mem_append.mp z).resolve_right nk2;by_cases c:par v=p
   . exact List.mem_append_right _ ((mk v).mpr ⟨⟨v0,v1⟩,vr,c⟩)
   . refine List.mem_append_left _ (J.dn v v0 v1 vr h' fun z=>?_);rcases List.mem_cons.mp (e.mem_iff.mp z) with z|z
     . exact c z
     . exact n (List.mem_append_left _ z)
theorem AInv.perm {ks ws ws2:List Int} (J:AInv m rs r par ks ws) (e:ws.Perm ws2):AInv m rs r par ks ws2 where
 nd:=J.nd
 rng:=J.rng
 nr:=J.nr
 sub:=fun w h=>J.sub w (e.mem_iff.mpr h)
 wnd:=e.nodup_iff.mp J.wnd
 ok:=fun v h=>⟨fun z=>(J.ok v h).1 (e.mem_iff.mpr z),(J.ok v h).2⟩
 dn:=fun v h0 h1 hr h n=>J.dn v h0 h1 hr h fun z=>n (e.mem_iff.mp z)
theorem AInv.all (R:Rooted m rs r par dep) {ks:List Int} (J:AInv m rs r par ks []):∀ v,0<=v->v<m->v≠r->v∈ks:=by
 have key:∀ n v,dep v=n->0<=v->v<m->v≠r->v∈ks:=by
   intro n
   induction n with
   | zero =>
     intro v e v0 v1 vr;have:=(R.up v v0 v1 vr).2.2;omega
   | succ n ih =>
     intro v e v0 v1 vr;have u:=R.up v v0 v1 vr;refine J.dn v v0 v1 vr ?_ (by simp);by_cases c:par v=r
     . exact .inl c
     . exact .inr (ih (par v) (by omega) u.1.1 u.1.2 c)
 exact fun v=>key _ v rfl
theorem AInv.done (R:Rooted m rs r par dep) {ks:List Int} (J:AInv m rs r par ks []):nl m par ks=qC m r par:=by
 unfold nl qC;refine List.map_congr_left fun v hv=>?_;have hv':0<=v/\v<m:=by
   unfold below at hv;obtain ⟨k,hk,rfl⟩:=List.mem_map.mp hv;have:=List.mem_range.mp hk;omega
 unfold Pb.front;by_cases c:v=r
 . rw [if_pos c,if_neg (by rw [c];exact J.nr)]
 . rw [if_neg c,if_pos (J.all R v hv'.1 hv'.2 c)]
theorem Kr (n:Nat) (v:V):(List.replicate n [v]).flatten=List.replicate n v:=by
 induction n with
 | zero=>rfl
 | succ n ih=>rw [List.replicate_succ,List.flatten_cons,ih,List.replicate_succ];rfl
theorem Q1:nl m par []=List.replicate m.toNat V.non:=by
 unfold nl;refine List.ext_getElem? fun i=>?_;by_cases c:i<m.toNat
 . rw [List.getElem?_map,AQ c,List.getElem?_replicate,if_pos c];simp
 . rw [List.getElem?_eq_none (by rw [List.length_map,aD];omega),List.getElem?_eq_none (by rw [List.length_replicate];omega)]
def jG (par:Int->Int):Nat->Int->List Int
 | 0,v=>[v]
 | n+1,v=>v::jG par n (par v)
def kW (par:Int->Int) (dep:Int->Nat) (v:Int):List Int:=jG par (dep v) v
theorem Rooted.pos (R:Rooted m rs r par dep) {v:Int} (h0:0<=v) (h1:v<m) (hr:v≠r):dep v=dep (par v)+1:=(R.up v h0 h1 hr).2.2.symm
theorem yU (R:Rooted m rs r par dep):∀ (n:Nat) (v:Int),dep v=n->0<=v->v<m->(jG par n v).Nodup/\(∀ x∈jG par n v,(0<=x/\x<m)/\dep x<=n)/\(jG par n v).length=n+1
 | 0,v,e,h0,h1=>⟨by unfold jG;simp,fun x hx=>by
     unfold jG at hx;rw [List.mem_singleton.mp hx];exact ⟨⟨h0,h1⟩,by omega⟩,rfl⟩
 | n+1,v,e,h0,h1=>by
   have hr:v≠r:=fun z=>by rw [z,R.root] at e;omega
   have u:=R.up v h0 h1 hr;obtain ⟨i1,i2,i3⟩:=yU R n (par v) (by omega) u.1.1 u.1.2;unfold jG;refine ⟨List.nodup_cons.mpr ⟨fun z=>?_,i1⟩,fun x hx=>?_,by rw [List.length_cons,i3]⟩
   . have:=(i2 v z).2;omega
   . rcases List.mem_cons.mp hx with rfl|hx
     . exact ⟨⟨h0,h1⟩,by omega⟩
     . exact ⟨(i2 x hx).1,by have:=(i2 x hx).2;omega⟩
theorem rE (R:Rooted m rs r par dep) {v:Int} (h0:0<=v) (h1:v<m):dep v+1<=m.toNat:=by
 obtain ⟨i1,i2,i3⟩:=yU R _ v rfl h0 h1;have:=dv (m:=m) (by omega) i1 fun x hx=>(i2 x hx).1;omega
theorem BJ (R:Rooted m rs r par dep):kW par dep r=[r]:=by unfold kW;rw [R.root];rfl
theorem oF (R:Rooted m rs r par dep) {v:Int} (h0:0<=v) (h1:v<m) (hr:v≠r):kW par dep v=v::kW par dep (par v):=by
 unfold kW;rw [R.pos h0 h1 hr]
 rfl
theorem GV (v:Int):∃ l,kW par dep v=v::l:=by
 unfold kW;cases dep v with
 | zero=>exact ⟨[],rfl⟩
 | succ n=>exact ⟨_,rfl⟩
theorem DI {v:Int} (h0:0<=v) (h1:v<m):(qC m r par)[v.toNat]?=some (front r par v):=by
 unfold qC;rw [List.getElem?_map,AQ (by omega)];show some (front r par ((v.toNat:Nat):Int))=_;rw [Int.toNat_of_nonneg h0]
def WL (rs:List Road) (par:Int->Int):Nat->Int->Int
 | 0,_=>1
 | n+1,v=>(bG rs v (par v)).getD 0*WL rs par n (par v)
def sL (rs:List Road) (par:Int->Int) (dep:Int->Nat) (v:Int):Int:=WL rs par (dep v) v
theorem GP (R:Rooted m rs r par dep):sL rs par dep r=1:=by unfold sL;rw [R.root];rfl
theorem A6 (R:Rooted m rs r par dep) {v:Int} (h0:0<=v) (h1:v<m) (hr:v≠r):sL rs par dep v=(bG rs v (par v)).getD 0*sL rs par dep (par v):=by
 unfold sL;rw [R.pos h0 h1 hr]
 rfl
theorem F2 (g:Good m rs) (R:Rooted m rs r par dep) {v:Int} (h0:0<=v) (h1:v<m) (hr:v≠r):∃ k,bG rs v (par v)=some k/\2<=k/\k<=1000000:=by
 obtain ⟨x,hx,j⟩:=(R.up v h0 h1 hr).2.1;obtain ⟨i,hi⟩:=List.getElem?_of_mem hx;have ok:=g.ok x hx;rw [oI g hi j];unfold eR;by_cases c:x.a=v/\x.b=par v
 . rw [if_pos c];exact ⟨_,rfl,ok.t0,ok.t1⟩
 . rw [if_neg c];have c2:x.a=par v/\x.b=v:=by
     rcases j with j|j
     . exact absurd j c
     . exact ⟨j.2,j.1⟩
   rw [if_pos c2];exact ⟨_,rfl,ok.u0,ok.u1⟩
def sk (m:Int) (rs:List Road) (r:Int) (par:Int->Int):Nat->Int->List Int
 | 0,v=>[v]
 | n+1,v=>v::(bq m rs (front r par v) v).flatMap (sk m rs r par n)
def ia (m:Int) (rs:List Road) (r:Int) (par:Int->Int) (dep:Int->Nat) (v:Int):List Int:=sk m rs r par (m.toNat - 1 - dep v) v
theorem yk {f h:Int->List Int}:∀ {l:List Int},(∀ x∈l,f x=h x)->l.flatMap f=l.flatMap h
 | [],_=>rfl
 | a::l,e=>by rw [List.flatMap_cons,List.flatMap_cons,e a List.mem_cons_self,yk fun x hx=>e x (List.mem_cons_of_mem _ hx)]
theorem rP (g:Good m rs) (R:Rooted m rs r par dep) {v:Int} (h0:0<=v) (h1:v<m):ia m rs r par dep v=v::(bq m rs (front r par v) v).flatMap (ia m rs r par dep):=by
 have mk:∀ u,u∈bq m rs (front r par v) v->(0<=u/\u<m)/\u≠r/\par u=v:=fun u=>(fA g R h0 h1).mp;have du:∀ u∈bq m rs (front r par v) v,dep u=dep v+1/\dep u+1<=m.toNat:=fun u hu=>by
   obtain ⟨w1,w2,w3⟩:=mk u hu;have:=R.pos w1.1 w1.2 w2;rw [w3] at this;exact ⟨this,rE R w1.1 w1.2⟩
 unfold ia;cases e:m.toNat - 1 - dep v with
 | zero =>
   have:bq m rs (front r par v) v=[]:=List.eq_nil_iff_forall_not_mem.mpr fun u hu=>by
     have:=du u hu;omega
   rw [this]
   rfl
 | succ n =>
   show v::(bq m rs (front r par v) v).flatMap (sk m rs r par n)=_;rw [yk fun u hu=>show sk m rs r par n u=sk m rs r par (m.toNat - 1 - dep u) u by rw [show m.toNat - 1 - dep u=n by have:=du u hu;omega]]
def up (par:Int->Int):Nat->Int->Int
 | 0,x=>x
 | k+1,x=>par (up par k x)
theorem Em {f:Int->List Int}:∀ {l:List Int},l.Nodup->(∀ u∈l,(f u).Nodup)->(∀ u∈l,∀ w∈l,∀ x,x∈f u->x∈f w->u=w)->(l.flatMap f).Nodup
 | [],_,_,_=>by simp
 | a::l,n,h1,h2=>by
   obtain ⟨n1,n2⟩:=List.nodup_cons.mp n;rw [List.flatMap_cons,List.nodup_append];refine ⟨h1 a List.mem_cons_self,Em n2 (fun u hu=>h1 u (List.mem_cons_of_mem _ hu)) (fun u hu w hw=>h2 u (List.mem_cons_of_mem _ hu) w (List.mem_cons_of_mem _ hw)),fun x hx y hy z=>?_⟩;subst z;obtain ⟨w,hw,hxw⟩:=List.mem_flatMap.mp hy;have:=h2 a List.mem_cons_self w (List.mem_cons_of_mem _ hw) x hx hxw;exact n1 (this ▸ hw)
theorem BO (g:Good m rs) (R:Rooted m rs r par dep):∀ (n:Nat) (v:Int),0<=v->v<m->(sk m rs r par n v).Nodup/\∀ x∈sk m rs r par n v,(0<=x/\x<m)/\∃ k,dep x=dep v+k/\up par k x=v
 | 0,v,h0,h1=>⟨by unfold sk;simp,fun x hx=>by
     unfold sk at hx;rw [List.mem_singleton.mp hx];exact ⟨⟨h0,h1⟩,0,rfl,rfl⟩⟩
 | n+1,v,h0,h1=>by
   have mk:∀ u,u∈bq m rs (front r par v) v->(0<=u/\u<m)/\u≠r/\par u=v:=fun u=>(fA g R h0 h1).mp;have nk:(bq m rs (front r par v) v).Nodup:=zo;have ih:=fun u hu=>BO g R n u (mk u hu).1.1 (mk u hu).1.2;have du:∀ u∈bq m rs (front r par v) v,dep u=dep v+1:=fun u hu=>by
     obtain ⟨w1,w2,w3⟩:=mk u hu;have:=R.pos w1.1 w1.2 w2;rw [w3] at this;exact this
   unfold sk;refine ⟨List.nodup_cons.mpr ⟨fun z=>?_,Em nk (fun u hu=>(ih u hu).1) fun u hu w hw x hx hy=>?_⟩,fun x hx=>?_⟩
   . obtain ⟨u,hu,hv⟩:=List.mem_flatMap.mp z;obtain ⟨_,k,e,_⟩:=(ih u hu).2 v hv;have:=du u hu;omega
   . obtain ⟨_,k1,e1,f1⟩:=(ih u hu).2 x hx;obtain ⟨_,k2,e2,f2⟩:=(ih w hw).2 x hy;have d1:=du u hu;have d2:=du w hw;have:k1=k2:=(by omega);rw [<- f1,<- f2,this]
   . rcases List.mem_cons.mp hx with rfl|hx
     . exact ⟨⟨h0,h1⟩,0,rfl,rfl⟩
     . obtain ⟨u,hu,hv⟩:=List.mem_flatMap.mp hx;obtain ⟨xr,k,e,f⟩:=(ih u hu).2 x hv;exact ⟨xr,k+1,by rw [e,du u hu];omega,by show par (up par k x)=v;rw [f];exact (mk u hu).2.2⟩
theorem Ss (g:Good m rs) (R:Rooted m rs r par dep) {v:Int} (h0:0<=v) (h1:v<m):(ia m rs r par dep v).length<=24:=by
 obtain ⟨n1,n2⟩:=BO g R (m.toNat - 1 - dep v) v h0 h1;have:=dv (m:=m) (by omega) n1 fun x hx=>(n2 x hx).1;have:=g.m24;unfold ia;omega
end Pb
set_option Elab.async false
set_option linter.all false
set_option maxRecDepth 100000
namespace L2
open PySem PySem.Spec PyProof.Rows
def Itv (K:PySem.W.Frag) (a:Addr) (n:Nat):It :=
 ⟨fun i H=>i<n/\∃ xs x,SqL K H a xs/\xs[n - 1 - i]?=some x,fun i H x H'=>H'=H/\∀ xs,SqL K H a xs->xs[n - 1 - i]?=some x,fun i H=>n<=i⟩
theorem Tg {P:Program} {w:World} {K:PySem.W.Frag} {tg:Expr} (a it:Addr) (n:Nat):Turn P w K tg (Itv K a n) [it] it (fun i h=>i<=n/\h.IsRevIter it a ((n:Int) - 1 - (i:Int))) where
 mem:=by simp
 obj:=fun i h st b hb=>by
   have e:b=it:=by simpa using hb
   subst e;obtain ⟨_,o,e,c,d⟩:=st;exact ⟨o,e,fun v z=>by rw [d] at z;cases z⟩
 keep:=fun i h h' st k=>⟨st.1,st.2.at fun o e=>k it (by simp) o e⟩
 item:=by
   intro X hP hw hK hc i pins s σ H E I hf st hg;subst hP hw hK;obtain ⟨hi,xs,x,hq,hx⟩:=hg;obtain ⟨its,rv,p,hz⟩:=I.list hq;obtain ⟨u,hu,ru⟩:=rv.get hx;obtain ⟨f0,f1,f2,f3,f4,f5⟩:=hf it (by simp);have e0:(n:Int) - 1 - (i:Int)=((n - 1 - i:Nat):Int):=by omega
   have st2:=st.2;rw [e0] at st2;refine wpAny_pyNext_rev_item st2 p.isList (x:=u) (by simpa using hu) fun h' st' sb=>?_;have I1:Inv X pins σ H { s with heap:=h' }:=I.turned (t':=s.toks) (fun b o hb e=>(sb.2 b hb).trans e) f0 f1 f3 f4 f5;obtain ⟨o,e,c,d⟩:=id st';have e1:((n - 1 - i:Nat):Int) - 1=(n:Int) - 1 - ((i+1:Nat):Int):=by omega
   rw [e1] at st';exact ⟨u,rfl,Il (s:={ s with heap:=h' }) e c d (by decide) ⟨x,H,I1,ru,⟨rfl,fun ys hy=>by rw [I.list_inj hy hq];exact hx⟩,⟨hi,st'⟩,fun b hb=>(hf b hb).1⟩⟩
 done:=by
   intro X hP hw hK hc i pins s σ H E I hf st hg;subst hP hw hK;have hg':n<=i:=hg;obtain ⟨f0,f1,f2,f3,f4,f5⟩:=hf it (by simp);have st2:=st.2;have st1:=st.1;rw [show (n:Int) - 1 - (i:Int)=-1 by omega] at st2;exact wpAny_pyNext_rev_end (I.ok.hd hc) st2 fun h' eb=>⟨rfl,I.turned (t':=s.toks) (fun b o hb e=>eb b o hb e) f0 f1 f3 f4 f5⟩
 self:=fun _ _ _ _ _ st h=>wpAny_pyIter_revIter st.2 h
def UJ (K:PySem.W.Frag) (tl:TE):TI:=fun σ H R=>tl σ H fun x H1=>∃ a xs,x=.ref a/\SqL K H1 a xs/\R (Itv K a xs.length) H1
section
variable {X:Cx} {tg e:Expr} {te:TE} {p2 pos:Pos}
theorem E7 (hg:Gl X "reversed") (hm:X.mg "reversed"=none) (he:PE X e te) (h2:starEach [e] X.env=[(false,eval e X.env)]:=by rfl):PI X tg (.Call (.Name "reversed" p2) [e] [] pos) (UJ X.K te):=by
 intro pins s σ H R I h;refine Call_ (xn I hg hm boot_reversed (PyProof.Rows.callWith_type1 ?_ h2 rfl));rw [h2];show wpAny _ _ (spliced ((false,eval e X.env)::backTo pos [])) _ _ s;refine Calls.spliced_cons (bT (he pins s σ H _ I h) fun u s1 x H1 I1 r1 q1=>Calls.spliced_nil ?_);obtain ⟨a,ys,ex,sa,q⟩:=q1;subst ex;cases r1;obtain ⟨its,rv,pl,hz⟩:=I1.list sa;refine call_reversed_list pl.isList ?_;have sz:its.toArray.size=ys.length:=by rw [List.size_toArray,rv.length]
 rw [sz];refine wpAny_pyIter_revIter (i:=(ys.length:Int) - 1) (l:=a) ⟨_,Heap.get?_push_size _ rfl,rfl,rfl⟩ ?_;refine ⟨s1.heap.objs.size,[s1.heap.objs.size],_,_,H1,rfl,I1.kept (t':=s1.toks) fun b o e=>Heap.get?_push_of_some _ e,Tg a _ ys.length,⟨Nat.zero_le _,?_⟩,fun b hb=>?_,q⟩
 . exact ⟨_,Heap.get?_push_size _ rfl,rfl,by simp [revObj]⟩
 . have e:b=s1.heap.objs.size:=by simpa using hb
   subst e;exact I1.fpOk (Nat.le_refl _) (I1.hok.fresh (Nat.le_refl _))
end
theorem DB {K:PySem.W.Frag} {a:Addr} {xs:List V} {g:TG} {tb:TS} {D:Ends} {σ:St} {H:Hp} (Pv:Nat->St->Hp->Prop) (h0:Pv 0 σ H) (hl:∀ i σ H,i<=xs.length->Pv i σ H->SqL K H a xs)
   (hs:∀ (i:Nat) (x:V) (σ:St) (H:Hp) (N:St->Hp->Prop),(∀ σ' H',Pv (i+1) σ' H'->N σ' H')->xs.reverse[i]?=some x->Pv i σ H->g x σ H fun σ2 H2=>tb { D with nx:=N,ct:=N,bk:=D.nx } σ2 H2) (hd:∀ σ H,Pv xs.length σ H->D.nx σ H) :
   rB (Itv K a xs.length) D g tb σ H:=by
 refine ⟨fun i m σ H=>m=xs.length - i/\i<=xs.length/\Pv i σ H,⟨xs.length,by simp,Nat.zero_le _,h0⟩,?_⟩;rintro i m σ H ⟨rfl,hi,p⟩;have q:=hl i σ H hi p;by_cases hlt:i<xs.length
 . have hx:xs[xs.length - 1 - i]?=some xs[xs.length - 1 - i]:=List.getElem?_eq_getElem (by omega);refine .inr ⟨⟨hlt,xs,_,q,hx⟩,fun σ' H'=>∃ m',m'<xs.length - i/\(m'=xs.length - (i+1)/\i+1<=xs.length/\Pv (i+1) σ' H'),fun σ' H' z=>z,fun x H' y=>?_⟩;obtain ⟨e,y⟩:=y;subst e;exact hs i x σ _ _ (fun σ' H' p'=>⟨xs.length - (i+1),by omega,rfl,hlt,p'⟩) (by rw [List.getElem?_reverse hlt];exact y xs q) p
 . have e:i=xs.length:=by omega
   subst e;exact .inl ⟨Nat.le_refl _,hd σ H p⟩
end L2
set_option Elab.async false
set_option linter.all false
set_option maxRecDepth 100000
namespace L2
open PySem PySem.Spec PyProof.Rows
def Qt (te:TE):TE:=fun σ H Q=>te σ H fun x H1=>∃ i,x=.int i/\0<=i/\i<=100000/\∀ l,H1 l=none->Q (.ref l) (upd H1 l (.lst ((Pb.below i.toNat).map V.int)))
section
variable {X:Cx} {e:Expr} {te:TE} {p1 p2 pos pos2:Pos}
end
end L2
set_option Elab.async false
set_option linter.all false
set_option maxRecDepth 100000
namespace L2
open PySem PySem.Spec PyProof.Rows PySem.W
section
variable {X:Cx}
end
end L2
set_option Elab.async false
set_option linter.all false
set_option maxRecDepth 100000
namespace L2
open PySem PySem.Spec PyProof.Rows
theorem P9:bootBuiltins "sum"=some (.builtin "sum"):=by decide +kernel
theorem CP (ns:List Int):∀ n,n<=ns.length->preSum (fun i=>ns.getD i 0) n=(ns.take n).sum
 | 0,_=>by simp [preSum]
 | n+1,h=>by
   have ih:=CP ns n (by omega);have hn:n<ns.length:=by omega
   rw [List.take_succ,List.getElem?_eq_getElem hn,List.sum_append,<- ih];simp [preSum,List.getD,hn]
section
variable {X:Cx}
theorem Kd (hc:X.calm=true):jp X (.builtin "sum") (fun xs H Q=>∃ (p:Addr) (ns:List Int),xs=[.ref p]/\(SqL X.K H p (ns.map V.int)\/SqT X.K H p (ns.map V.int))/\Q (.int ns.sum) H):=by
 intro pins s σ H xs us Q I r h;obtain ⟨p,ns,rfl,hp,q⟩:=h;obtain ⟨u,rfl,ru⟩:=nF r;cases ru;have hh:X.A.in1.handled=none:=I.ok.hd hc;have vals:∀ {its:List Value},Vals (ns.map V.int) its->its.length=ns.length/\∀ (i:Nat) (v:Value),its.toArray[i]?=some v->∃ t,v=Value.int (ns.getD i 0) t:=by
   intro its rv;have hlen:its.length=ns.length:=by rw [<- rv.length,List.length_map]
   refine ⟨hlen,fun i v hP=>?_⟩;have hi:its[i]?=some v:=by simpa using hP
   have hib:i<ns.length:=by rw [<- hlen];exact (List.getElem?_eq_some_iff.mp hi).1
   obtain ⟨u,hu,ru⟩:=rv.get (i:=i) (x:=V.int ns[i]) (by rw [List.getElem?_map,List.getElem?_eq_getElem hib];rfl);rw [hi] at hu;cases hu;obtain ⟨t,e⟩:=(show ∃ t,v=Value.int ns[i] t from ru);exact ⟨t,by rw [e];simp [List.getD,hib]⟩
 have fin:∀ {n:Nat},n=ns.length->preSum (fun i=>ns.getD i 0) n=ns.sum:=fun {n} e=>by rw [CP ns n (by omega),List.take_of_length_le (by omega)]
 rcases hp with hp|hp
 . obtain ⟨its,rv,pl,hz⟩:=I.list hp;obtain ⟨hlen,hv⟩:=vals rv;have hl:=pl.isList;have hlt:=pl.lt;refine call_sum_walkG (wpAny_pyIter_list hl ?_);refine ⟨s.heap.objs.size,[s.heap.objs.size,p],[s.heap.objs.size],its.toArray.size,_,_,fun i=>ns.getD i 0,rfl,Walks.list (A:=X.A.in1) hh _ p (Nat.ne_of_lt hlt) its.toArray,
     ⟨⟨_,Heap.get?_push_size _ rfl,rfl,rfl⟩,hl.push _⟩,fun b hb=>?_,fun i v hP=>hv i v hP,fun h' tk t' hk=>?_⟩
   . simp only [Heap.push,Array.size_push];rcases List.mem_cons.mp hb with e|e
     . rw [e];exact Nat.lt_succ_self _
     . rw [List.mem_singleton.mp e];exact Nat.lt_succ_of_lt hlt
   . have kk:∀ b o,s.heap.get? b=some o->h'.get? b=some o:=fun b o eb=>hk b o (fun hm=>by rw [List.mem_singleton.mp hm] at eb;exact Nat.lt_irrefl _ (Heap.lt_size eb)) (Heap.get?_push_of_some _ eb);rw [fin (by rw [List.size_toArray,hlen])];exact ⟨.int _,H,I.kept (t':=tk) kk,⟨t',rfl⟩,q⟩
 . obtain ⟨its,rv,pl,hz⟩:=I.tuple hp;obtain ⟨hlen,hv⟩:=vals rv;have hl:s.heap.IsTuple p its.toArray:=pl;have hlt:p<s.heap.objs.size:=by
     obtain ⟨o,e,_⟩:=id hl;exact Heap.lt_size e
   refine call_sum_walkG (wpAny_pyIter_tuple hl ?_);refine ⟨s.heap.objs.size,[s.heap.objs.size,p],[s.heap.objs.size],its.toArray.size,_,_,fun i=>ns.getD i 0,rfl,Walks.tuple (A:=X.A.in1) hh _ p (Nat.ne_of_lt hlt) its.toArray,
     ⟨⟨_,Heap.get?_push_size _ rfl,rfl,rfl⟩,hl.push _⟩,fun b hb=>?_,fun i v hP=>hv i v hP,fun h' tk t' hk=>?_⟩
   . simp only [Heap.push,Array.size_push];rcases List.mem_cons.mp hb with e|e
     . rw [e];exact Nat.lt_succ_self _
     . rw [List.mem_singleton.mp e];exact Nat.lt_succ_of_lt hlt
   . have kk:∀ b o,s.heap.get? b=some o->h'.get? b=some o:=fun b o eb=>hk b o (fun hm=>by rw [List.mem_singleton.mp hm] at eb;exact Nat.lt_irrefl _ (Heap.lt_size eb)) (Heap.get?_push_of_some _ eb);rw [fin (by rw [List.size_toArray,hlen])];exact ⟨.int _,H,I.kept (t':=tk) kk,⟨t',rfl⟩,q⟩
end
theorem VM {X:Cx} (K:PySem.W.Frag) (hK:X.K=K) {es:List Expr} {k:Nat} {pos:Pos} {t:TGs} {n:Nat} (hc:X.calm=true) (h:PGs X es t)
   (hn:(assignEach es X.env).length=n:=by rfl) (hst:(assignEach es X.env).findIdx? (·.1)=none:=by rfl):PG X (.Tuple es k pos) (IW K n t):=by
 subst hK;exact lM hc h hn hst
theorem T4 {K:PySem.W.Frag} {c d:Bool} {a b p:Addr} {xs zs:List V} {Q:VK} {g:TG} {tc:TT} {te:TE} {σ0:St} {H0:Hp} (Pv:Nat->List V->St->Hp->Prop) (h0:Pv 0 [] σ0 H0) (hl:∀ i ys σ H,Pv i ys σ H->SqX K c H a xs/\SqX K d H b zs)
   (hs:∀ (i:Nat) (x z:V) (ys:List V) (σ:St) (H:Hp) (q:Addr) (N:List V->St->Hp->Prop),(∀ ys' σ' H',Pv (i+1) ys' σ' H'->N ys' σ' H')->xs[i]?=some x->zs[i]?=some z->Pv i ys σ H->H q=none->g (.ref q) σ (upd H q (.tup [x,z])) fun σ2 H2=>tc σ2 H2 fun b H3 =>
     if b=true then te σ2 H3 fun y H4=>H4 p=some (.lst ys)/\ys.length<sizeLine/\N (ys++[y]) σ2 (upd H4 p (.lst (ys++[y]))) else N ys σ2 H3)
   (hd:∀ ys σ H,Pv (min xs.length zs.length) ys σ H->Q (.ref p) H):yf (Itz K c d a b) p Q g tc te σ0 H0:=by
 refine ⟨fun i m ys σ H=>m=min xs.length zs.length - i/\i<=min xs.length zs.length/\Pv i ys σ H,⟨_,rfl,Nat.zero_le _,h0⟩,?_⟩;rintro i m ys σ H ⟨rfl,hi,pv⟩;obtain ⟨q1,q2⟩:=hl i ys σ H pv;by_cases hlt:i<min xs.length zs.length
 . refine .inr ⟨⟨xs,zs,xs[i]'(by omega),zs[i]'(by omega),q1,q2,List.getElem?_eq_getElem (by omega),List.getElem?_eq_getElem (by omega)⟩,fun x H' y=>?_⟩;obtain ⟨p',x',y',hp,rfl,rfl,e1,e2⟩:=y;exact hs i x' y' ys σ H p' (fun ys' σ' H'=>∃ m',m'<min xs.length zs.length - i/\(m'=min xs.length zs.length - (i+1)/\i+1<=min xs.length zs.length/\Pv (i+1) ys' σ' H')) (fun ys' σ' H' pv'=>⟨min xs.length zs.length - (i+1),by omega,rfl,hlt,pv'⟩) (e1 xs q1) (e2 zs q2) pv hp
 . have e:i=min xs.length zs.length:=by omega
   subst e;exact .inl ⟨⟨xs,zs,q1,q2,by omega⟩,hd ys σ H pv⟩
theorem WW {H:Hp} {l:Addr} {xs:List V} {i:Int} {v:V} {Q:Hp->Prop} (h:H l=some (.lst xs)) (i0:0<=i) (i1:i<xs.length) (q:Q (upd H l (.lst (xs.set i.toNat v)))):rSetL (.ref l) (.int i) v H Q :=
 ⟨l,xs,i,i.toNat,rfl,rfl,h,by unfold ixN;rw [if_pos i0,if_pos (by omega)],q⟩
theorem atG {xs:List Int} {i:Int} (i0:0<=i) (i1:i<xs.length):atI (xs.map V.int) i=some (.int (xs.getD i.toNat 0)):=jR i0 (by
 have h:i.toNat<xs.length:=by omega
 rw [List.getElem?_map,List.getElem?_eq_getElem h];simp [List.getD,h])
theorem NL (n:Nat) (v:V):(List.replicate n [v]).flatten=List.replicate n v:=by
 induction n with
 | zero=>rfl
 | succ n ih=>rw [List.replicate_succ,List.flatten_cons,ih,List.replicate_succ];rfl
theorem FK {xs:List Int} (h:∀ x∈xs,0<=x) (n:Nat):0<=xs.getD n 0:=by
 by_cases z:n<xs.length
 . rw [List.getD,List.getElem?_eq_getElem z];exact h _ (List.getElem_mem z)
 . rw [List.getD,List.getElem?_eq_none (by omega)];exact Int.le_refl _
theorem SF {K:PySem.W.Frag} {a p:Addr} {xs:List V} {Q:VK} {g:TG} {tc:TT} {te:TE} {σ0:St} {H0:Hp} (Pv:Nat->List V->St->Hp->Prop) (h0:Pv 0 [] σ0 H0) (hl:∀ i ys σ H,i<=xs.length->Pv i ys σ H->SqL K H a xs)
   (hs:∀ (i:Nat) (x:V) (ys:List V) (σ:St) (H:Hp) (N:List V->St->Hp->Prop),(∀ ys' σ' H',Pv (i+1) ys' σ' H'->N ys' σ' H')->xs.reverse[i]?=some x->Pv i ys σ H->g x σ H fun σ2 H2=>tc σ2 H2 fun b H3 =>
     if b=true then te σ2 H3 fun y H4=>H4 p=some (.lst ys)/\ys.length<sizeLine/\N (ys++[y]) σ2 (upd H4 p (.lst (ys++[y]))) else N ys σ2 H3)
   (hd:∀ ys σ H,Pv xs.length ys σ H->Q (.ref p) H):yf (Itv K a xs.length) p Q g tc te σ0 H0:=by
 refine ⟨fun i m ys σ H=>m=xs.length - i/\i<=xs.length/\Pv i ys σ H,⟨xs.length,by simp,Nat.zero_le _,h0⟩,?_⟩;rintro i m ys σ H ⟨rfl,hi,pv⟩;have q:=hl i ys σ H hi pv;by_cases hlt:i<xs.length
 . have hx:xs[xs.length - 1 - i]?=some xs[xs.length - 1 - i]:=List.getElem?_eq_getElem (by omega);refine .inr ⟨⟨hlt,xs,_,q,hx⟩,fun x H' y=>?_⟩;obtain ⟨e,y⟩:=y;subst e;exact hs i x ys σ _ (fun ys' σ' H'=>∃ m',m'<xs.length - i/\(m'=xs.length - (i+1)/\i+1<=xs.length/\Pv (i+1) ys' σ' H')) (fun ys' σ' H' pv'=>⟨xs.length - (i+1),by omega,rfl,hlt,pv'⟩) (by rw [List.getElem?_reverse hlt];exact y xs q) pv
 . have e:i=xs.length:=by omega
   subst e;exact .inl ⟨Nat.le_refl _,hd ys σ H pv⟩
end L2
set_option Elab.async false
set_option linter.all false
set_option maxRecDepth 100000
namespace Pb
open L2
def After (par:Int->Int):List Int->List Int->Prop
 | _,[]=>True
 | S,c::t=>par c∈S/\After par (c::S) t
section
variable {m:Int} {rs:List Road} {r:Int} {par:Int->Int} {dep:Int->Nat}
theorem After.mono:∀ {l S S':List Int},(∀ x∈S,x∈S')->After par S l->After par S' l
 | [],_,_,_,_=>trivial
 | c::t,S,S',h,a=>⟨h _ a.1,After.mono (fun x hx=>by
     rcases List.mem_cons.mp hx with e|e
     . exact List.mem_cons.mpr (.inl e)
     . exact List.mem_cons_of_mem _ (h x e)) a.2⟩
theorem After.append:∀ {l1 l2 S:List Int},After par S l1->After par S l2->After par S (l1++l2)
 | [],_,_,_,b=>b
 | c::t,l2,S,a,b=>⟨a.1,After.append a.2 (b.mono fun x hx=>List.mem_cons_of_mem _ hx)⟩
theorem After.up:∀ {A B S:List Int},After par S (A++B)->∀ k∈A,par k∈S\/par k∈A
 | [],_,_,_,k,hk=>by cases hk
 | c::t,B,S,a,k,hk=>by
   rcases List.mem_cons.mp hk with e|e
   . rw [e];exact .inl a.1
   . rcases After.up (A:=t) (B:=B) a.2 k e with h|h
     . rcases List.mem_cons.mp h with h|h
       . exact .inr (by rw [h];exact List.mem_cons_self)
       . exact .inl h
     . exact .inr (List.mem_cons_of_mem _ h)
structure Order (m r:Int) (par:Int->Int) (t:List Int):Prop where
 nd:(r::t).Nodup
 rng:∀ v∈t,0<=v/\v<m
 all:∀ v,0<=v->v<m->v=r\/v∈t
 af:After par [r] t
theorem Order.ne {t:List Int} (O:Order m r par t) {v:Int} (h:v∈t):v≠r:=fun z=>(List.nodup_cons.mp O.nd).1 (z ▸ h)
theorem Ep (g:Good m rs) (R:Rooted m rs r par dep):∀ (n:Nat) (v:Int) (S:List Int),0<=v->v<m->par v∈S->After par S (sk m rs r par n v)
 | 0,v,S,_,_,h=>⟨h,trivial⟩
 | n+1,v,S,h0,h1,h=>by
   refine ⟨h,?_⟩;have:∀ (ks:List Int) (S:List Int),v∈S->(∀ u∈ks,u∈bq m rs (front r par v) v)->After par S (ks.flatMap (sk m rs r par n)):=by
     intro ks
     induction ks with
     | nil=>intro S _ _;exact trivial
     | cons u ks ih =>
       intro S hv hk;rw [List.flatMap_cons];obtain ⟨w1,w2,w3⟩:=(fA g R h0 h1).mp (hk u List.mem_cons_self);exact (Ep g R n u S w1.1 w1.2 (by rw [w3];exact hv)).append (ih S hv fun x hx=>hk x (List.mem_cons_of_mem _ hx))
   exact this _ _ List.mem_cons_self fun u hu=>hu
theorem E5 (g:Good m rs) (R:Rooted m rs r par dep) (r0:0<=r) (r1:r<m) (nd:(ia m rs r par dep r).Nodup) (al:∀ v,v∈ia m rs r par dep r↔0<=v/\v<m):∃ t,ia m rs r par dep r=r::t/\Order m r par t:=by
 have e:=rP g R r0 r1;refine ⟨_,e,?_⟩;rw [e] at nd al;refine ⟨nd,fun v hv=>(al v).mp (List.mem_cons_of_mem _ hv),fun v h0 h1=>List.mem_cons.mp ((al v).mpr ⟨h0,h1⟩),?_⟩;have:∀ ks:List Int,(∀ u∈ks,u∈bq m rs (front r par r) r)->After par [r] (ks.flatMap (ia m rs r par dep)):=by
   intro ks
   induction ks with
   | nil=>intro _;exact trivial
   | cons u ks ih =>
     intro hk;rw [List.flatMap_cons];obtain ⟨w1,w2,w3⟩:=(fA g R r0 r1).mp (hk u List.mem_cons_self);exact (Ep g R _ u [r] w1.1 w1.2 (by rw [w3];exact List.mem_cons_self)).append (ih fun x hx=>hk x (List.mem_cons_of_mem _ hx))
 exact this _ fun u hu=>hu
def yC (m:Int) (rs:List Road) (r:Int) (par:Int->Int) (held:Int->Int) (con:Int->Int->Int):Nat->Int->Int
 | 0,v=>held v
 | n+1,v=>held v+((bq m rs (front r par v) v).map fun c=>con c (yC m rs r par held con n c)).sum
def gat (m:Int) (rs:List Road) (r:Int) (par:Int->Int) (dep:Int->Nat) (held:Int->Int) (con:Int->Int->Int) (v:Int):Int:=yC m rs r par held con (m.toNat - 1 - dep v) v
variable {held:Int->Int} {con:Int->Int->Int}
theorem DF (g:Good m rs) (R:Rooted m rs r par dep) {v:Int} (h0:0<=v) (h1:v<m):gat m rs r par dep held con v=held v+((bq m rs (front r par v) v).map fun c=>con c (gat m rs r par dep held con c)).sum:=by
 have mk:∀ u,u∈bq m rs (front r par v) v->(0<=u/\u<m)/\u≠r/\par u=v:=fun u=>(fA g R h0 h1).mp;have du:∀ u∈bq m rs (front r par v) v,dep u=dep v+1/\dep u+1<=m.toNat:=fun u hu=>by
   obtain ⟨w1,w2,w3⟩:=mk u hu;have:=R.pos w1.1 w1.2 w2;rw [w3] at this;exact ⟨this,rE R w1.1 w1.2⟩
 unfold gat;cases e:m.toNat - 1 - dep v with
 | zero =>
   have:bq m rs (front r par v) v=[]:=List.eq_nil_iff_forall_not_mem.mpr fun u hu=>by
     have:=du u hu;omega
   rw [this];simp [yC]
 | succ n =>
   show held v+_=_;rw [List.map_congr_left fun u hu=>show con u (yC m rs r par held con n u)=con u (yC m rs r par held con (m.toNat - 1 - dep u) u) by rw [show m.toNat - 1 - dep u=n by have:=du u hu;omega]]
theorem IZ {l l':List Int} (h:l.Perm l'):l.sum=l'.sum:=by
 induction h with
 | nil=>rfl
 | cons x _ ih=>rw [List.sum_cons,List.sum_cons,ih]
 | swap x y l=>simp only [List.sum_cons];omega
 | trans _ _ h1 h2=>exact h1.trans h2
theorem Cn (g:Good m rs) (R:Rooted m rs r par dep) {t:List Int} (nd:t.Nodup) (tr:∀ x∈t,(0<=x/\x<m)/\x≠r) {v:Int} (h0:0<=v) (h1:v<m) (hk:∀ k,0<=k->k<m->k≠r->par k=v->k∈t):(t.filter fun c=>decide (par c=v)).Perm (bq m rs (front r par v) v):=by
 refine nC (nd.filter _) zo fun x=>?_;rw [List.mem_filter,fA g R h0 h1,decide_eq_true_eq];exact ⟨fun h=>⟨(tr x h.1).1,(tr x h.1).2,h.2⟩,fun h=>⟨hk x h.1.1 h.1.2 h.2.1 h.2.2,h.2.2⟩⟩
theorem Order.places {t:List Int} (O:Order m r par t):∀ x∈t,(0<=x/\x<m)/\x≠r:=fun x hx=>⟨O.rng x hx,O.ne hx⟩
def giv (rs:List Road) (par:Int->Int) (v x:Int):Int:=x / (bG rs v (par v)).getD 1
theorem Rooted.adj (R:Rooted m rs r par dep) {a b:Int} (h:Adj rs a b):(b≠r/\par b=a)\/(a≠r/\par a=b):=by
 obtain ⟨x,hx,j⟩:=h;have:=R.road x hx;rcases j with ⟨e1,e2⟩|⟨e1,e2⟩
 . subst e1;subst e2;exact this.symm
 . subst e1;subst e2;exact this
end
end Pb
set_option Elab.async false
set_option linter.all false
set_option maxRecDepth 100000
namespace Pb
open L2
section
variable {m:Int} {rs:List Road} {r:Int} {par:Int->Int} {dep:Int->Nat} {held:Int->Int}
theorem Order.kids (R:Rooted m rs r par dep) {tl P S:List Int} {v:Int} (O:Order m r par tl) (es:tl=P++v::S):∀ k,0<=k->k<m->k≠r->par k=v->k∈S:=by
 intro k k0 k1 kr pk;have vm:v∈tl:=by rw [es];simp
 have vp:=O.places v vm;have nd2:=(List.nodup_cons.mp O.nd).2;rw [es] at nd2;have av:v ∉ P:=fun z=>(List.nodup_append.mp nd2).2.2 v z v List.mem_cons_self rfl;rcases O.all k k0 k1 with z|z
 . exact absurd z kr
 . rw [es] at z;rcases List.mem_append.mp z with z|z
   . have af:=O.af;rw [es] at af;rcases af.up k z with w|w
     . rw [pk] at w;exact absurd (List.mem_singleton.mp w) vp.2
     . rw [pk] at w;exact absurd w av
   . rcases List.mem_cons.mp z with z|z
     . subst z;exact absurd pk (R.ne k0 k1 kr)
     . exact z
def tol (rs:List Road) (par:Int->Int) (v:Int):Int:=(bG rs v (par v)).getD 1
def tms (m:Int) (rs:List Road) (r:Int) (par:Int->Int) (dep:Int->Nat) (held:Int->Int) (v:Int):Int:=giv rs par v (gat m rs r par dep held (giv rs par) v)
theorem Nx (hz:∀ v,0<=held v) (hc:∀ v x,0<=x->0<=giv rs par v x):∀ (n:Nat) (v:Int),0<=yC m rs r par held (giv rs par) n v
 | 0,v=>hz v
 | n+1,v=>by
   show 0<=held v+_;have:∀ l:List Int,0<=(l.map fun c=>giv rs par c (yC m rs r par held (giv rs par) n c)).sum:=by
     intro l
     induction l with
     | nil=>exact Int.le_refl _
     | cons c l ih =>
       rw [List.map_cons,List.sum_cons];have:=hc c _ (Nx hz hc n c);omega
   have h1:=this (bq m rs (front r par v) v);have h2:=hz v;omega
theorem Rp (g:Good m rs) (v x:Int) (h:0<=x):0<=giv rs par v x:=by
 unfold giv;refine Int.ediv_nonneg h ?_;cases e:bG rs v (par v) with
 | none=>decide
 | some k =>
   have ad:=CU.mp (show (bG rs v (par v)).isSome=true by rw [e];rfl);obtain ⟨x,hx,j⟩:=ad;obtain ⟨i,hi⟩:=List.getElem?_of_mem hx;have ok:=g.ok x hx;rw [oI g hi (by rcases j with ⟨a,b⟩|⟨a,b⟩;exact .inl ⟨a,b⟩;exact .inr ⟨a,b⟩)] at e;unfold eR at e;have t0:=ok.t0;have u0:=ok.u0;show 0<=k;split at e
   . cases e;omega
   . split at e
     . cases e;omega
     . cases e
theorem La (g:Good m rs) (hz:∀ v,0<=held v) (v:Int):0<=gat m rs r par dep held (giv rs par) v:=Nx hz (Rp g) _ _
theorem Xw (g:Good m rs) (hz:∀ v,0<=held v) (v:Int):0<=tms m rs r par dep held v:=Rp g _ _ (La g hz v)
theorem GM (f:Int->Int) (p:Int->Bool) (v:Int) (t:List Int):(((v::t).filter p).map f).sum=(if p v=true then f v else 0)+((t.filter p).map f).sum:=by
 by_cases c:p v=true
 . rw [List.filter_cons_of_pos c,List.map_cons,List.sum_cons,if_pos c]
 . rw [List.filter_cons_of_neg c,if_neg c,Int.zero_add]
structure Walkd (m:Int) (rs:List Road) (r:Int) (par:Int->Int) (dep:Int->Nat) (held:Int->Int) (t now:List Int):Prop where
 len:(now.length:Int)=m
 val:∀ v,0<=v->v<m->now.getD v.toNat 0=held v+((t.filter fun c=>decide (par c=v)).map (tms m rs r par dep held)).sum - (if v∈t then tms m rs r par dep held v*tol rs par v else 0)
theorem Walkd.nil {hs:List Int} (h:(hs.length:Int)=m):Walkd m rs r par dep (fun v=>hs.getD v.toNat 0) [] hs:=⟨h,fun v _ _=>by simp⟩
theorem Walkd.skip {t now:List Int} (w:Walkd m rs r par dep held t now) {v:Int} (h:tms m rs r par dep held v=0):Walkd m rs r par dep held (v::t) now where
 len:=w.len
 val:=fun u u0 u1=>by
   rw [w.val u u0 u1,GM];have e1:(if (fun c=>decide (par c=u)) v=true then tms m rs r par dep held v else 0)=0:=by
     rw [h];exact ite_self _
   have e2:(if u∈v::t then tms m rs r par dep held u*tol rs par u else 0)=if u∈t then tms m rs r par dep held u*tol rs par u else 0:=by
     by_cases c:u=v
     . subst c;rw [h,Int.zero_mul,ite_self,ite_self]
     . by_cases d:u∈t
       . rw [if_pos d,if_pos (List.mem_cons_of_mem _ d)]
       . rw [if_neg d,if_neg (fun z=>by rcases List.mem_cons.mp z with z|z;exact c z;exact d z)]
   rw [e1,e2,Int.zero_add]
theorem Walkd.own (g:Good m rs) (R:Rooted m rs r par dep) {t now:List Int} (w:Walkd m rs r par dep held t now) {v:Int} (h0:0<=v) (h1:v<m) (nd:t.Nodup) (tr:∀ x∈t,(0<=x/\x<m)/\x≠r) (vt:v ∉ t) (hk:∀ k,0<=k->k<m->k≠r->par k=v->k∈t):now.getD v.toNat 0=gat m rs r par dep held (giv rs par) v:=by
 rw [w.val v h0 h1,if_neg vt,Int.sub_zero,DF g R h0 h1,IZ ((Cn g R nd tr h0 h1 hk).map (tms m rs r par dep held))]
 rfl
def Ir (rs:List Road) (par:Int->Int) (k:Int) (now:List Int) (v:Int):List Int :=
 (now.set v.toNat (now.getD v.toNat 0 - k*tol rs par v)).set (par v).toNat ((now.set v.toNat (now.getD v.toNat 0 - k*tol rs par v)).getD (par v).toNat 0+k)
theorem hJ (l:List Int) (i j:Nat) (x:Int) (h:i<l.length):(l.set i x).getD j 0=if i=j then x else l.getD j 0:=by
 by_cases c:i=j
 . subst c;rw [if_pos rfl];simp [List.getD,h]
 . rw [if_neg c];simp [List.getD,List.getElem?_set_ne c]
theorem Walkd.step (R:Rooted m rs r par dep) {t now:List Int} (w:Walkd m rs r par dep held t now) {v:Int} (h0:0<=v) (h1:v<m) (hr:v≠r) (vt:v ∉ t):Walkd m rs r par dep held (v::t) (Ir rs par (tms m rs r par dep held v) now v) where
 len:=by unfold Ir;rw [List.length_set,List.length_set];exact w.len
 val:=fun u u0 u1=>by
   have pu:=(R.up v h0 h1 hr).1;have ne:=R.ne h0 h1 hr;have sl:=w.len;have vu:=w.val u u0 u1;have vv:=w.val v h0 h1;unfold Ir;rw [hJ _ _ _ _ (by rw [List.length_set];omega),hJ _ _ _ _ (by omega),hJ _ _ _ _ (by omega),GM];rw [if_neg (show ¬ v.toNat=(par v).toNat by omega)];by_cases c:u=v
   . subst c;rw [if_neg (show ¬ (par u).toNat=u.toNat by omega),if_pos rfl,if_pos List.mem_cons_self,if_neg (show ¬ (fun c=>decide (par c=u)) u=true by simpa using ne),Int.zero_add];rw [if_neg vt,Int.sub_zero] at vv;rw [vv]
   . have e2:(if u∈v::t then tms m rs r par dep held u*tol rs par u else 0)=if u∈t then tms m rs r par dep held u*tol rs par u else 0:=by
       by_cases d:u∈t
       . rw [if_pos d,if_pos (List.mem_cons_of_mem _ d)]
       . rw [if_neg d,if_neg (fun z=>by rcases List.mem_cons.mp z with z|z;exact c z;exact d z)]
     rw [e2];by_cases d:par v=u
     . subst d;rw [if_pos rfl,if_pos (show (fun c=>decide (par c=par v)) v=true by simp),vu];omega
     . rw [if_neg (show ¬ (par v).toNat=u.toNat by omega),if_neg (show ¬ v.toNat=u.toNat by omega),if_neg (show ¬ (fun c=>decide (par c=u)) v=true by simpa using d),Int.zero_add,vu]
theorem WG (g:Good m rs) (R:Rooted m rs r par dep) (hz:∀ v,0<=held v) {v:Int} (h0:0<=v) (h1:v<m) (hr:v≠r):tms m rs r par dep held v*tol rs par v<=gat m rs r par dep held (giv rs par) v:=by
 obtain ⟨k,hk,k0,k1⟩:=F2 g R h0 h1 hr;unfold tms giv tol;rw [hk];exact Int.ediv_mul_le _ (by show k≠0;omega)
def cX (m:Int) (rs:List Road) (r:Int) (par:Int->Int) (dep:Int->Nat) (held:Int->Int) (l:List Int):List Int:=l.filter fun v=>decide (0<tms m rs r par dep held v)
structure Onway (m:Int) (rs:List Road) (r:Int) (par:Int->Int) (dep:Int->Nat) (held:Int->Int) (tl:List Int) (i:Nat) (now:List Int):Prop where
 ex:∃ A B,tl.reverse=A++B/\cX m rs r par dep held A=(cX m rs r par dep held tl.reverse).take i/\cX m rs r par dep held B=(cX m rs r par dep held tl.reverse).drop i/\Walkd m rs r par dep held A.reverse now
theorem Ij (g:Good m rs) (hz:∀ v,0<=held v) {now:List Int}:∀ {B t:List Int},(∀ x∈B,¬ decide (0<tms m rs r par dep held x)=true)->Walkd m rs r par dep held t now->Walkd m rs r par dep held (B.reverse++t) now
 | [],t,_,w=>w
 | b::B,t,h,w=>by
   rw [List.reverse_cons,List.append_assoc];have h1:=h b List.mem_cons_self;have h2:=Xw (dep:=dep) (r:=r) (par:=par) g hz b;exact Ij g hz (fun x hx=>h x (List.mem_cons_of_mem _ hx)) (w.skip (v:=b) (by simp at h1;omega))
theorem Onway.start {hs:List Int} {tl:List Int} (h:(hs.length:Int)=m):Onway m rs r par dep (fun v=>hs.getD v.toNat 0) tl 0 hs:=⟨[],tl.reverse,rfl,rfl,rfl,Walkd.nil h⟩
theorem Onway.turn (g:Good m rs) (R:Rooted m rs r par dep) (hz:∀ v,0<=held v) {tl now:List Int} (O:Order m r par tl) {i:Nat} (w:Onway m rs r par dep held tl i now) {v:Int} (hv:(cX m rs r par dep held tl.reverse)[i]?=some v) :
   ((0<=v/\v<m)/\v≠r)/\0<tms m rs r par dep held v/\now.getD v.toNat 0=gat m rs r par dep held (giv rs par) v/\(now.length:Int)=m/\Onway m rs r par dep held tl (i+1) (Ir rs par (tms m rs r par dep held v) now v):=by
 obtain ⟨A,B,e,fa,fb,w⟩:=w.ex;have hi:=(List.getElem?_eq_some_iff.mp hv).1;have hd:(cX m rs r par dep held tl.reverse).drop i=v::(cX m rs r par dep held tl.reverse).drop (i+1):=by
   rw [List.drop_eq_getElem_cons hi];rw [List.getElem?_eq_getElem hi] at hv;cases hv
   rfl
 rw [hd] at fb;obtain ⟨B1,B2,eb,n1,pv,fb2⟩:=List.filter_eq_cons_iff.mp fb;have w1:=Ij g hz n1 w;rw [<- List.reverse_append] at w1;have es:tl=B2.reverse++v::(A++B1).reverse:=by
   have:=congrArg List.reverse e;rw [List.reverse_reverse,eb] at this;rw [this];simp
 have vm:v∈tl:=by rw [es];simp
 have vp:=O.places v vm;have nd2:=(List.nodup_cons.mp O.nd).2;have nd3:=nd2;rw [es] at nd3;have nd4:=List.nodup_cons.mp (List.nodup_append.mp nd3).2.1;have sub:∀ x∈(A++B1).reverse,x∈tl:=fun x hx=>by rw [es];exact List.mem_append_right _ (List.mem_cons_of_mem _ hx)
 have own:=w1.own g R vp.1.1 vp.1.2 nd4.2 (fun x hx=>O.places x (sub x hx)) nd4.1 (O.kids R es);refine ⟨vp,of_decide_eq_true pv,own,w1.len,A++B1++[v],B2,by rw [e,eb];simp,?_,fb2,?_⟩
 . have f1:cX m rs r par dep held B1=[]:=List.filter_eq_nil_iff.mpr n1;have f0:cX m rs r par dep held (A++B1++[v])=cX m rs r par dep held A++cX m rs r par dep held B1++cX m rs r par dep held [v]:=by
     unfold cX;rw [List.filter_append,List.filter_append]
   have f2:cX m rs r par dep held [v]=[v]:=List.filter_cons_of_pos (l:=[]) pv;rw [f0,f1,f2,List.append_nil,fa,List.take_succ,hv]
   rfl
 . have:=w1.step R vp.1.1 vp.1.2 vp.2 nd4.1;rw [show (A++B1++[v]).reverse=v::(A++B1).reverse by simp];exact this
theorem Onway.done (g:Good m rs) (R:Rooted m rs r par dep) (hz:∀ v,0<=held v) (r0:0<=r) (r1:r<m) {tl now:List Int} (O:Order m r par tl) (w:Onway m rs r par dep held tl (cX m rs r par dep held tl.reverse).length now):now.getD r.toNat 0=gat m rs r par dep held (giv rs par) r/\(now.length:Int)=m:=by
 obtain ⟨A,B,e,fa,fb,w⟩:=w.ex;rw [List.drop_length] at fb;have w1:=Ij g hz (List.filter_eq_nil_iff.mp fb) w;have es:tl=B.reverse++A.reverse:=by
   have:=congrArg List.reverse e;rw [List.reverse_reverse,List.reverse_append] at this;exact this
 rw [<- es] at w1;have nd:=List.nodup_cons.mp O.nd;exact ⟨w1.own g R r0 r1 nd.2 O.places nd.1 fun k k0 k1 kr _=>(O.all k k0 k1).resolve_left kr,w1.len⟩
end
section
open PySem
end
end Pb
set_option Elab.async false
set_option linter.all false
set_option maxRecDepth 100000
namespace L2
open PySem PySem.Spec PyProof.Rows
end L2
set_option Elab.async false
set_option linter.all false
set_option maxRecDepth 100000
namespace L2
open PySem PySem.Spec PyProof.Rows
def X8 (lo st:Int) (n:Nat):It:=⟨fun i _=>i<n,fun i H x H'=>H'=H/\x=.int (lo+i*st),fun i _=>n<=i⟩
def U7 (ta:TA):TI:=fun σ H R=>ta σ H fun vs H1=>∃ i j c:Int,vs=[.int i,.int j,.int c]/\(0<=i/\i<=1000000/\0<=j/\j<=1000000/\0<c/\c<=1000000)/\R (X8 i c (Builtin.Range.rangeSize i j c).toNat) H1
section
variable {X:Cx} {tg:Expr}
end
end L2
set_option Elab.async false
set_option linter.all false
set_option maxRecDepth 100000
namespace L2
open PySem PySem.Spec PyProof.Rows
theorem kP {K:PySem.W.Frag} {H:Hp} {p:Addr} {xs:List V} {i:Int} {v:V} {Q:VK} (h:SqT K H p xs) (e:atI xs i=some v) (q:Q v H):Jd K (.ref p) (.int i) H Q:=⟨p,xs,i,v,rfl,rfl,h,e,q⟩
end L2
namespace Pb
open L2 PySem
theorem Jz {α β:Type} {R:α->β->Prop} {k₁:List α} {k₂:List β} (h:Paired R k₁ k₂):∀ {l₁:List α} {l₂:List β},Paired R l₁ l₂->Paired R (l₁++k₁) (l₂++k₂)
 | _,_,.nil=>h
 | _,_,.cons x xs=>.cons x (Jz h xs)
section
variable {m:Int} {rs:List Road} {r:Int} {par:Int->Int} {dep:Int->Nat}
theorem pQ (i:Nat):below (i+1)=below i++[(i:Int)]:=by
 unfold below;rw [List.range_succ,List.map_append]
 rfl
end
end Pb
set_option Elab.async false
set_option linter.all false
set_option maxRecDepth 100000
namespace L2
open PySem PySem.Spec PyProof.Rows
section
variable {P:Program} {w:World} {A:Around} {E:Value->Shared->Prop} {s:Shared} {l:Addr} {ob:Obj} {src:Heap->Array Value->Prop} {at':Addr->Nat->Heap->Prop}
end
def Ite (K:PySem.W.Frag) (c:Bool) (a:Addr):It :=
 ⟨fun i H=>∃ xs x,SqX K c H a xs/\xs[i]?=some x,
  fun i H v H'=>∃ p x,H p=none/\v=.ref p/\H'=upd H p (.tup [.int i,x])/\∀ xs,SqX K c H a xs->xs[i]?=some x,
  fun i H=>∃ xs,SqX K c H a xs/\xs.length=i⟩
def U4 (K:PySem.W.Frag) (c:Bool) (tl:TE):TI:=fun σ H R=>tl σ H fun x H1=>∃ a,x=.ref a/\(∃ xs,SqX K c H1 a xs)/\R (Ite K c a) H1
section
variable {X:Cx} {e:Expr} {te:TE} {p2 pos:Pos}
end
end L2
set_option Elab.async false
set_option linter.all false
set_option maxRecDepth 100000
namespace Pb
open L2 PySem
abbrev Stp:=Int × Int × Int
theorem tT {α β:Type} {R:α->β->Prop} {a:α} {b:β} (h:R a b):∀ {l₁:List α} {l₂:List β},Paired R l₁ l₂->Paired R (l₁++[a]) (l₂++[b])
 | _,_,.nil=>.cons h .nil
 | _,_,.cons x xs=>.cons x (tT h xs)
theorem jD {α β:Type} {R:α->β->Prop}:∀ {ps:List α} {vs:List β} {i:Nat} {x:α},Paired R ps vs->ps[i]?=some x->∃ v,vs[i]?=some v/\R x v
 | _,_,i,x,.nil,e=>by simp at e
 | _,_,0,x,.cons (a:=p) (b:=r) h hs,e=>by
   have:p=x:=by simpa using e
   subst this;exact ⟨r,by simp,h⟩
 | a::l1,_,i+1,x,.cons h hs,e=>by
   have e':l1[i]?=some x:=by simpa using e
   obtain ⟨v,h1,h2⟩:=jD hs e';exact ⟨v,by simpa using h1,h2⟩
def aE (rs:List Road) (a b:Int):Int:=(bG rs a b).getD 1
def eF (rs:List Road) (xs:List Int) (s:Stp):List Int :=
 (xs.set s.1.toNat (xs.getD s.1.toNat 0 - s.2.2*aE rs s.1 s.2.1)).set s.2.1.toNat ((xs.set s.1.toNat (xs.getD s.1.toNat 0 - s.2.2*aE rs s.1 s.2.1)).getD s.2.1.toNat 0+s.2.2)
theorem oJ (rs:List Road) (xs:List Int) (s:Stp):(eF rs xs s).length=xs.length:=by unfold eF;rw [List.length_set,List.length_set]
def tN (m:Int) (rs:List Road) (s:Stp):Bool:=decide (0<=s.1) && decide (s.1<m) && decide (s.2.1∈bE m rs s.1) && decide (1<=s.2.2)
def ny (m:Int) (rs:List Road) (xs:List Int) (s:Stp):Bool:=tN m rs s && decide (s.2.2*aE rs s.1 s.2.1<=xs.getD s.1.toNat 0)
def rd (rs:List Road) (xs:List Int) (ss:List Stp) (i:Nat):List Int:=(ss.take i).foldl (eF rs) xs
def D1 (m:Int) (rs:List Road) (xs:List Int) (ss:List Stp):Prop:=∀ i s,ss[i]?=some s->ny m rs (rd rs xs ss i) s=true
theorem Sm (rs:List Road) (xs:List Int) (ss:List Stp) (i:Nat):(rd rs xs ss i).length=xs.length:=by
 unfold rd;have:∀ (l:List Stp) (ys:List Int),(l.foldl (eF rs) ys).length=ys.length:=by
   intro l
   induction l with
   | nil=>intro ys;rfl
   | cons s l ih=>intro ys;rw [List.foldl_cons,ih,oJ]
 exact this _ _
theorem sf {rs:List Road} {xs:List Int} {ss:List Stp} {i:Nat} {s:Stp} (h:ss[i]?=some s):rd rs xs ss (i+1)=eF rs (rd rs xs ss i) s:=by
 unfold rd;rw [List.take_succ,h,List.foldl_append]
 rfl
theorem lm (rs:List Road) (xs:List Int) (ss:List Stp):rd rs xs ss 0=xs:=by unfold rd;rw [List.take_zero];rfl
theorem rm {m:Int} {rs:List Road} {s:Stp} (h:tN m rs s=true):(0<=s.1/\s.1<m)/\s.2.1∈bE m rs s.1/\1<=s.2.2:=by
 unfold tN at h;rw [Bool.and_eq_true,Bool.and_eq_true,Bool.and_eq_true] at h;exact ⟨⟨of_decide_eq_true h.1.1.1,of_decide_eq_true h.1.1.2⟩,of_decide_eq_true h.1.2,of_decide_eq_true h.2⟩
theorem gD {m:Int} {rs:List Road} (g:Good m rs) {a b:Int} (h:Adj rs a b):∃ k,bG rs a b=some k/\2<=k/\k<=1000000:=by
 obtain ⟨x,hx,j⟩:=h;obtain ⟨i,hi⟩:=List.getElem?_of_mem hx;have ok:=g.ok x hx;have jj:rC x a b:=j;rw [oI g hi jj];unfold eR;by_cases c:x.a=a/\x.b=b
 . rw [if_pos c];exact ⟨_,rfl,ok.t0,ok.t1⟩
 . rw [if_neg c];have c2:x.a=b/\x.b=a:=by
     rcases jj with w|w
     . exact absurd w c
     . exact ⟨w.2,w.1⟩
   rw [if_pos c2];exact ⟨_,rfl,ok.u0,ok.u1⟩
theorem GK {m:Int} {rs:List Road} (g:Good m rs) {s:Stp} (h:tN m rs s=true):∃ k,bG rs s.1 s.2.1=some k/\aE rs s.1 s.2.1=k/\(2<=k/\k<=1000000)/\(0<=s.2.1/\s.2.1<m):=by
 obtain ⟨h1,h2,h3⟩:=rm h;have ad:=(hV g).mp h2;obtain ⟨k,e,r⟩:=gD g ad;exact ⟨k,e,by unfold aE;rw [e];rfl,r,(g.adj ad).2.1⟩
end Pb
namespace L2
open PySem PySem.Spec PyProof.Rows
def U1 (i j k:Nat) (ta:TA):TS:=fun D σ H=>ta σ H fun vs H1=>∃ v w z,vs=[v,w,z]/\D.nx (((σ.set i (some v)).set j (some w)).set k (some z)) H1
end L2
set_option Elab.async false
set_option linter.all false
set_option maxRecDepth 100000
namespace Pb
open L2
section
variable {m:Int} {rs:List Road} {r:Int} {par:Int->Int} {dep:Int->Nat} {held held':Int->Int} {con:Int->Int->Int}
def mX (m:Int) (rs:List Road) (r:Int) (par:Int->Int) (dep:Int->Nat) (held:Int->Int) (l:List Int):List Stp:=(cX m rs r par dep held l).map fun v=>(v,par v,tms m rs r par dep held v)
theorem Onway.full (g:Good m rs) (hz:∀ v,0<=held v) {tl now:List Int} (w:Onway m rs r par dep held tl (cX m rs r par dep held tl.reverse).length now):Walkd m rs r par dep held tl now:=by
 obtain ⟨A,B,e,fa,fb,w⟩:=w.ex;rw [List.drop_length] at fb;have w1:=Ij g hz (List.filter_eq_nil_iff.mp fb) w;have es:tl=B.reverse++A.reverse:=by
   have:=congrArg List.reverse e;rw [List.reverse_reverse,List.reverse_append] at this;exact this
 rw [<- es] at w1;exact w1
theorem Jw (g:Good m rs) (R:Rooted m rs r par dep) {xs tl:List Int} (x0:∀ x∈xs,0<=x) (xl:(xs.length:Int)=m) (O:Order m r par tl):∀ i,i<=(cX m rs r par dep (fun v=>xs.getD v.toNat 0) tl.reverse).length->Onway m rs r par dep (fun v=>xs.getD v.toNat 0) tl i (rd rs xs (mX m rs r par dep (fun v=>xs.getD v.toNat 0) tl.reverse) i):=by
 intro i;have hz:∀ v:Int,0<=xs.getD v.toNat 0:=fun v=>FK x0 _
 induction i with
 | zero=>intro _;rw [lm];exact Onway.start xl
 | succ i ih =>
   intro hi;have hil:i<(cX m rs r par dep (fun v=>xs.getD v.toNat 0) tl.reverse).length:=by omega
   have hv:=List.getElem?_eq_getElem hil;obtain ⟨vr,tp,own,nl,ow⟩:=(ih (by omega)).turn g R hz O hv;rw [sf (s:=((cX m rs r par dep (fun v=>xs.getD v.toNat 0) tl.reverse)[i],par (cX m rs r par dep (fun v=>xs.getD v.toNat 0) tl.reverse)[i],tms m rs r par dep (fun v=>xs.getD v.toNat 0) (cX m rs r par dep (fun v=>xs.getD v.toNat 0) tl.reverse)[i])) (by unfold mX;rw [List.getElem?_map,hv];rfl)];exact ow
theorem GR (g:Good m rs) (R:Rooted m rs r par dep) {xs tl:List Int} (x0:∀ x∈xs,0<=x) (xl:(xs.length:Int)=m) (O:Order m r par tl):D1 m rs xs (mX m rs r par dep (fun v=>xs.getD v.toNat 0) tl.reverse):=by
 intro i s hs;have hz:∀ v:Int,0<=xs.getD v.toNat 0:=fun v=>FK x0 _;unfold mX at hs;rw [List.getElem?_map] at hs;obtain ⟨v,hv,rfl⟩:=Option.map_eq_some_iff.mp hs;have hil:=(List.getElem?_eq_some_iff.mp hv).1;obtain ⟨⟨vr,vn⟩,tp,own,nl,ow⟩:=(Jw g R x0 xl O i (by omega)).turn g R hz O hv;have le:=WG (held:=fun v=>xs.getD v.toNat 0) g R hz vr.1 vr.2 vn;have nb:par v∈bE m rs v:=(hV g).mpr (R.up v vr.1 vr.2 vn).2.1;unfold ny tN;simp only [Bool.and_eq_true,decide_eq_true_eq];exact ⟨⟨⟨⟨vr.1,vr.2⟩,nb⟩,by omega⟩,by rw [own];exact le⟩
theorem GN (g:Good m rs) (R:Rooted m rs r par dep) {xs tl:List Int} (r0:0<=r) (r1:r<m) (x0:∀ x∈xs,0<=x) (xl:(xs.length:Int)=m) (O:Order m r par tl) {es:List Int} (he:es=rd rs xs (mX m rs r par dep (fun v=>xs.getD v.toNat 0) tl.reverse) (mX m rs r par dep (fun v=>xs.getD v.toNat 0) tl.reverse).length) :
   es.getD r.toNat 0=gat m rs r par dep (fun v=>xs.getD v.toNat 0) (giv rs par) r/\(es.length:Int)=m/\(∀ x∈es,0<=x)/\gat m rs r par dep (fun v=>es.getD v.toNat 0) (giv rs par) r=gat m rs r par dep (fun v=>xs.getD v.toNat 0) (giv rs par) r/\cX m rs r par dep (fun v=>es.getD v.toNat 0) tl.reverse=[]:=by
 have hz:∀ v:Int,0<=xs.getD v.toNat 0:=fun v=>FK x0 _;have bl:(mX m rs r par dep (fun v=>xs.getD v.toNat 0) tl.reverse).length=(cX m rs r par dep (fun v=>xs.getD v.toNat 0) tl.reverse).length:=by unfold mX;rw [List.length_map]
 have on:=Jw g R x0 xl O _ (Nat.le_refl _);rw [<- bl,<- he,bl] at on;obtain ⟨d1,d2⟩:=on.done g R hz r0 r1 O;have W:=on.full g hz;have nd:=List.nodup_cons.mp O.nd;have left:∀ v,0<=v->v<m->v≠r->0<=es.getD v.toNat 0/\giv rs par v (es.getD v.toNat 0)=0:=fun v v0 v1 vr=>by
   have vt:=(O.all v v0 v1).resolve_left vr;have e:=W.val v v0 v1;rw [if_pos vt,IZ ((Cn g R nd.2 O.places v0 v1 fun k k0 k1 kr _=>(O.all k k0 k1).resolve_left kr).map (tms m rs r par dep fun v=>xs.getD v.toNat 0))] at e;have e2:(fun v=>xs.getD v.toNat 0) v+((bq m rs (front r par v) v).map (tms m rs r par dep fun v=>xs.getD v.toNat 0)).sum=gat m rs r par dep (fun v=>xs.getD v.toNat 0) (giv rs par) v:=(DF (held:=fun v=>xs.getD v.toNat 0) (con:=giv rs par) g R v0 v1).symm;obtain ⟨k,hk,k0,k1⟩:=F2 g R v0 v1 vr;have e3:es.getD v.toNat 0=gat m rs r par dep (fun v=>xs.getD v.toNat 0) (giv rs par) v - gat m rs r par dep (fun v=>xs.getD v.toNat 0) (giv rs par) v / k*k:=by
     rw [e];have:tms m rs r par dep (fun v=>xs.getD v.toNat 0) v*tol rs par v=gat m rs r par dep (fun v=>xs.getD v.toNat 0) (giv rs par) v / k*k:=by
       unfold tms tol;rw [hk];unfold giv;rw [hk]
       rfl
     rw [this,<- e2]
   have e4:=Int.emod_add_mul_ediv (gat m rs r par dep (fun v=>xs.getD v.toNat 0) (giv rs par) v) k;have e5:=Int.emod_nonneg (gat m rs r par dep (fun v=>xs.getD v.toNat 0) (giv rs par) v) (show k≠0 by omega);have e6:=Int.emod_lt_of_pos (gat m rs r par dep (fun v=>xs.getD v.toNat 0) (giv rs par) v) (show 0<k by omega);have e7:es.getD v.toNat 0=gat m rs r par dep (fun v=>xs.getD v.toNat 0) (giv rs par) v % k:=by
     rw [e3,Int.mul_comm];omega
   rw [e7];refine ⟨e5,?_⟩;unfold giv;rw [hk];exact Int.ediv_eq_zero_of_lt e5 e6
 have lone:∀ (n:Nat) (v:Int),0<=v->v<m->yC m rs r par (fun v=>es.getD v.toNat 0) (giv rs par) n v=es.getD v.toNat 0:=by
   intro n
   induction n with
   | zero=>intro v _ _;rfl
   | succ n ih =>
     intro v v0 v1;show es.getD v.toNat 0+_=_;have:∀ l:List Int,(∀ u∈l,u∈bq m rs (front r par v) v)->(l.map fun c=>giv rs par c (yC m rs r par (fun v=>es.getD v.toNat 0) (giv rs par) n c)).sum=0:=by
       intro l
       induction l with
       | nil=>intro _;rfl
       | cons c l ihl =>
         intro hl;obtain ⟨w1,w2,w3⟩:=(fA g R v0 v1).mp (hl c List.mem_cons_self);rw [List.map_cons,List.sum_cons,ihl fun u hu=>hl u (List.mem_cons_of_mem _ hu),ih c w1.1 w1.2,(left c w1.1 w1.2 w2).2]
         rfl
     rw [this _ fun u hu=>hu];omega
 refine ⟨d1,d2,fun x hx=>?_,?_,?_⟩
 . obtain ⟨j,hj,ej⟩:=List.getElem_of_mem hx;by_cases z:(j:Int)=r
   . have:es.getD r.toNat 0=x:=(by rw [<- z,Int.toNat_natCast,List.getD,List.getElem?_eq_getElem hj];exact ej);rw [<- this,d1];exact La g hz r
   . have h:=(left (j:Int) (by omega) (by omega) z).1;rw [Int.toNat_natCast,List.getD,List.getElem?_eq_getElem hj] at h;rw [<- ej];exact h
 . unfold gat;rw [lone _ r r0 r1,d1]
   rfl
 . unfold cX;refine List.filter_eq_nil_iff.mpr fun v hv=>?_;obtain ⟨vr,vn⟩:=O.places v (List.mem_reverse.mp hv);have e:tms m rs r par dep (fun v=>es.getD v.toNat 0) v=0:=by
     unfold tms gat;rw [lone _ v vr.1 vr.2];exact (left v vr.1 vr.2 vn).2
   rw [e]
   decide
end
end Pb
set_option Elab.async false
set_option linter.all false
set_option maxRecDepth 100000
namespace L2
open PySem PySem.Spec PyProof.Rows
theorem Xi (zs:List V) {k:Int} (k0:0<=k):C5 zs (some k) none=zs.drop k.toNat:=by
 unfold C5;have e1:HT.sIx zs.length zs.length none=zs.length:=rfl;have e2:HT.sIx zs.length 0 (some k)=min k.toNat zs.length:=by
   show (if k<0 then (k+(zs.length:Int)).toNat else min k.toNat zs.length)=_;rw [if_neg (by omega)]
 rw [e1,e2,List.take_of_length_le (by rw [List.length_drop];omega)];by_cases c:k.toNat<=zs.length
 . rw [Nat.min_eq_left c]
 . rw [Nat.min_eq_right (by omega),List.drop_of_length_le (Nat.le_refl _),List.drop_of_length_le (by omega)]
end L2
namespace Pb
open L2 PySem
theorem yZ {m:Int} {rs:List Road} {xs:List Int} {s:Stp} (h:ny m rs xs s=true):tN m rs s=true/\s.2.2*aE rs s.1 s.2.1<=xs.getD s.1.toNat 0:=by
 unfold ny at h;rw [Bool.and_eq_true] at h;exact ⟨h.1,of_decide_eq_true h.2⟩
end Pb
set_option Elab.async false
set_option linter.all false
set_option maxRecDepth 100000
namespace Pb
open L2 PySem
section
variable {m:Int} {rs:List Road}
theorem FG:∀ (l:List Int) (i:Nat) (v:Int),i<l.length->(l.set i v).sum=l.sum - l.getD i 0+v
 | [],i,v,h=>by simp at h
 | a::l,0,v,_=>by simp;omega
 | a::l,i+1,v,h=>by
   have ih:=FG l i v (by simpa using h);have e:(a::l).getD (i+1) 0=l.getD i 0:=by simp [List.getD]
   rw [List.set_cons_succ,List.sum_cons,List.sum_cons,ih,e];omega
theorem vR (g:Good m rs) {xs:List Int} (xl:(xs.length:Int)=m) {s:Stp} (is:tN m rs s=true) (v:Int):(eF rs xs s).getD v.toNat 0=if v.toNat=s.2.1.toNat then xs.getD v.toNat 0+s.2.2 else if v.toNat=s.1.toNat then xs.getD v.toNat 0 - s.2.2*aE rs s.1 s.2.1 else xs.getD v.toNat 0:=by
 obtain ⟨ar,nb,n1⟩:=rm is;have ad:=(hV g).mp nb;have br:=(g.adj ad).2.1;have ab:=(g.adj ad).2.2;unfold eF;rw [hJ _ _ _ _ (by rw [List.length_set];omega),hJ _ _ _ _ (by omega),hJ _ _ _ _ (by omega)];by_cases c:s.2.1.toNat=v.toNat
 . rw [if_pos c,if_pos c.symm,if_neg (by omega),c]
 . have c':¬ v.toNat=s.2.1.toNat:=fun z=>c z.symm;simp only [if_neg c,if_neg c'];by_cases d:s.1.toNat=v.toNat
   . have d':=d.symm;simp only [if_pos d,if_pos d',d]
   . have d':¬ v.toNat=s.1.toNat:=fun z=>d z.symm;simp only [if_neg d,if_neg d']
theorem Sk {xs ys:List Int} (hl:xs.length=ys.length) (h:∀ v:Int,xs.getD v.toNat 0=ys.getD v.toNat 0):xs=ys:=by
 refine List.ext_getElem hl fun i h1 h2=>?_;have:=h (i:Int);rw [Int.toNat_natCast,List.getD,List.getElem?_eq_getElem h1,List.getD,List.getElem?_eq_getElem h2] at this;exact this
theorem PQ (g:Good m rs) {xs:List Int} (xl:(xs.length:Int)=m) {a b n f:Int} (cd:ny m rs xs (a,b,n)=true) (f1:1<=f) (f2:f<n):D1 m rs xs [(a,b,f),(a,b,n - f)]/\eF rs (eF rs xs (a,b,f)) (a,b,n - f)=eF rs xs (a,b,n):=by
 obtain ⟨is,le⟩:=yZ cd;obtain ⟨ar,nb,n1⟩:=rm is;obtain ⟨kk,ek,et,kr,br⟩:=GK g is;have ad:=(hV g).mp nb;have ab:a≠b:=(g.adj ad).2.2;have mk:∀ z:Int,1<=z->tN m rs (a,b,z)=true:=fun z hz=>by
   unfold tN;simp only [Bool.and_eq_true,decide_eq_true_eq];exact ⟨⟨⟨ar.1,ar.2⟩,nb⟩,hz⟩
 have is1:=mk f f1;have is2:=mk (n - f) (by omega);have et':aE rs a b=kk:=et;have le':n*kk<=xs.getD a.toNat 0:=by rw [<- et'];exact le
 have xl2:((eF rs xs (a,b,f)).length:Int)=m:=by rw [oJ];exact xl
 have ar':0<=a/\a<m:=ar;have br':0<=b/\b<m:=br;have ga:(eF rs xs (a,b,f)).getD a.toNat 0=xs.getD a.toNat 0 - f*kk:=by
   rw [vR g xl is1 a];show (if a.toNat=b.toNat then _ else if a.toNat=a.toNat then _ else _)=_;rw [if_neg (by omega),if_pos rfl];show _ - f*aE rs a b=_;rw [et']
 have mulf:f*kk<=n*kk:=Int.mul_le_mul_of_nonneg_right (by omega) (by omega);refine ⟨fun i s hs=>?_,?_⟩
 . match i,hs with
   | 0,hs =>
     cases hs;rw [lm];unfold ny;rw [is1,Bool.true_and,decide_eq_true_eq];show f*aE rs a b<=xs.getD a.toNat 0;rw [et'];omega
   | 1,hs =>
     cases hs;rw [sf (s:=(a,b,f)) rfl,lm];unfold ny;rw [is2,Bool.true_and,decide_eq_true_eq];show (n - f)*aE rs a b<=(eF rs xs (a,b,f)).getD a.toNat 0;rw [et',ga,Int.sub_mul];omega
   | i+2,hs=>simp at hs
 . refine Sk (by rw [oJ,oJ,oJ]) fun v=>?_;rw [vR g xl2 is2 v,vR g xl is1 v,vR g xl is v];show (if v.toNat=b.toNat then (if v.toNat=b.toNat then xs.getD v.toNat 0+f else if v.toNat=a.toNat then xs.getD v.toNat 0 - f*aE rs a b else xs.getD v.toNat 0)+(n - f) else if v.toNat=a.toNat then (if v.toNat=b.toNat then xs.getD v.toNat 0+f else if v.toNat=a.toNat then xs.getD v.toNat 0 - f*aE rs a b else xs.getD v.toNat 0) - (n - f)*aE rs a b else (if v.toNat=b.toNat then xs.getD v.toNat 0+f else if v.toNat=a.toNat then xs.getD v.toNat 0 - f*aE rs a b else xs.getD v.toNat 0))=if v.toNat=b.toNat then xs.getD v.toNat 0+n else if v.toNat=a.toNat then xs.getD v.toNat 0 - n*aE rs a b else xs.getD v.toNat 0;by_cases c:v.toNat=b.toNat
   . simp only [if_pos c];omega
   . simp only [if_neg c];by_cases d:v.toNat=a.toNat
     . simp only [if_pos d];rw [Int.sub_mul];omega
     . simp only [if_neg d]
end
def AtX (c:Bool) (H:Hp) (a:Addr) (xs:List V):Prop:=H a=some (if c then .lst xs else .tup xs)
theorem AtX.sq {K:PySem.W.Frag} {c:Bool} {H:Hp} {a:Addr} {xs:List V} (h:AtX c H a xs):SqX K c H a xs:=by
 cases c
 . exact SqT.of h
 . exact SqL.of h
end Pb
set_option Elab.async false
set_option linter.all false
set_option maxRecDepth 100000
namespace L2
open PySem PySem.Spec PyProof.Rows
section
variable {X:Cx} {i o:Expr} {ty td:TE}
def Vb (ty td:TE):TE:=fun σ H Q=>ty σ H fun y H1=>td σ H1 fun x H2=>∃ a,x=.ref a/\((∃ o,DGet H2 a y o/\Q (.bl o.isSome) H2)\/(y=.non/\(∃ kvs,H2 a=some (.dK kvs))/\Q (.bl false) H2))
end
end L2
set_option Elab.async false
set_option linter.all false
set_option maxRecDepth 100000
namespace Pb
open L2 PySem
section
variable {m:Int} {rs:List Road} {r b:Int} {par:Int->Int} {dep:Int->Nat}
def FB (par:Int->Int) (b:Int):Nat->Int->Bool
 | 0,v=>decide (v=b)
 | n+1,v=>decide (v=b) || FB par b n (par v)
def ben (par:Int->Int) (dep:Int->Nat) (b v:Int):Bool:=FB par b (dep v) v
theorem UP (R:Rooted m rs r par dep) {v:Int} (v0:0<=v) (v1:v<m) (hr:v≠r):ben par dep b v=(decide (v=b) || ben par dep b (par v)):=by
 unfold ben;rw [R.pos v0 v1 hr]
 rfl
end
end Pb
namespace L2
theorem bg {A B:TS} {D:Ends} {σ:St} {H:Hp} (h:∀ N:St->Hp->Prop,(∀ σ' H',B D σ' H'->N σ' H')->A { D with nx:=N } σ H):Oh A B D σ H:=h (B D) fun _ _ z=>z
end L2
set_option Elab.async false
set_option linter.all false
set_option maxRecDepth 100000
namespace L2
open PySem
theorem Qu {K:PySem.W.Frag} {a:Addr} {xs:List V} {g:TG} {tb:TS} {D:Ends} {σ:St} {H:Hp} (Pv:Nat->St->Hp->Prop) (h0:Pv 0 σ H) (hl:∀ i σ H,i<=xs.length->Pv i σ H->SqL K H a xs)
   (hs:∀ (i:Nat) (x:V) (σ:St) (H:Hp) (N B:St->Hp->Prop),(∀ σ H,(g x σ H fun σ2 H2=>tb { D with nx:=N,ct:=N,bk:=D.nx } σ2 H2)->B σ H)->(∀ σ' H',Pv (i+1) σ' H'->N σ' H')->xs[i]?=some x->Pv i σ H->B σ H)
   (hd:∀ (B:St->Hp->Prop) σ H,(∀ σ H,D.nx σ H->B σ H)->Pv xs.length σ H->B σ H):rB (Itl K a) D g tb σ H :=
 oC Pv h0 hl (fun i x σ H N hN hx p=>hs i x σ H N (fun σ H=>g x σ H fun σ2 H2=>tb { D with nx:=N,ct:=N,bk:=D.nx } σ2 H2) (fun _ _ z=>z) hN hx p) fun σ H p=>hd (fun σ H=>D.nx σ H) σ H (fun _ _ z=>z) p
theorem D6 {lo:Int} {n:Nat} {g:TG} {tb:TS} {D:Ends} {σ:St} {H:Hp} (Pv:Nat->St->Hp->Prop) (h0:Pv 0 σ H)
   (hs:∀ (i:Nat) (σ:St) (H:Hp) (N B:St->Hp->Prop),(∀ σ H,(g (.int (lo+i)) σ H fun σ2 H2=>tb { D with nx:=N,ct:=N,bk:=D.nx } σ2 H2)->B σ H)->(∀ σ' H',Pv (i+1) σ' H'->N σ' H')->i<n->Pv i σ H->B σ H)
   (hd:∀ (B:St->Hp->Prop) σ H,(∀ σ H,D.nx σ H->B σ H)->Pv n σ H->B σ H):rB (Itr lo n) D g tb σ H :=
 zA Pv h0 (fun i σ H N hN hi p=>hs i σ H N (fun σ H=>g (.int (lo+i)) σ H fun σ2 H2=>tb { D with nx:=N,ct:=N,bk:=D.nx } σ2 H2) (fun _ _ z=>z) hN hi p) fun σ H p=>hd (fun σ H=>D.nx σ H) σ H (fun _ _ z=>z) p
theorem xU {c:TT} {tb:TS} {D:Ends} {σ:St} {H:Hp} (W:Nat->St->Hp->Prop) (n0:Nat) (h0:W n0 σ H)
   (hs:∀ (n:Nat) (σ:St) (H:Hp) (N:St->Hp->Prop) (B:Nat->St->Hp->Prop),(∀ n σ H,(c σ H fun b H1=>if b=true then ∃ N:St->Hp->Prop,(∀ σ' H',N σ' H'->∃ m',m'<n/\W m' σ' H')/\tb { D with nx:=N,ct:=N,bk:=D.nx } σ H1 else D.nx σ H1)->B n σ H)->(∀ n' σ' H',n'<n->W n' σ' H'->N σ' H')->(∀ σ' H',N σ' H'->∃ m',m'<n/\W m' σ' H')->W n σ H->B n σ H):Jy c tb D σ H :=
 Gk W n0 h0 fun n σ H N hN hN2 w=>hs n σ H N (fun n σ H=>c σ H fun b H1=>if b=true then ∃ N:St->Hp->Prop,(∀ σ' H',N σ' H'->∃ m',m'<n/\W m' σ' H')/\tb { D with nx:=N,ct:=N,bk:=D.nx } σ H1 else D.nx σ H1) (fun _ _ _ z=>z) hN hN2 w
theorem ex6 {α0:Sort _} {α1:Sort _} {α2:Sort _} {α3:Sort _} {α4:Sort _} {α5:Sort _} {P:α0->α1->α2->α3->α4->α5->Prop} (a0:α0) (a1:α1) (a2:α2) (a3:α3) (a4:α4) (a5:α5) (h:P a0 a1 a2 a3 a4 a5):∃ a0 a1 a2 a3 a4 a5,P a0 a1 a2 a3 a4 a5:=⟨a0,a1,a2,a3,a4,a5,h⟩
theorem an4 {p0 p1 p2 p3:Prop} (h0:p0) (h1:p1) (h2:p2) (h3:p3):p0/\p1/\p2/\p3:=⟨h0,h1,h2,h3⟩
end L2
set_option Elab.async false
set_option linter.all false
set_option maxRecDepth 100000
namespace Pb
open L2 PySem
inductive Wlk (rs:List Road):Int->List Int->Int->Prop
 | nil (a:Int):Wlk rs a [] a
 | cons {a b c:Int} {l:List Int} (h:Adj rs a b) (t:Wlk rs b l c):Wlk rs a (b::l) c
def rO (rs:List Road):Int->List Int->Int
 | _,[]=>1
 | a,b::l=>(bG rs a b).getD 0*rO rs b l
section
variable {m:Int} {rs:List Road} {r:Int} {par:Int->Int} {dep:Int->Nat}
theorem Wlk.app {a b c:Int} {l k:List Int} (h:Wlk rs a l b) (t:Wlk rs b k c):Wlk rs a (l++k) c:=by
 induction h with
 | nil a=>exact t
 | cons ad w ih=>exact .cons ad (ih t)
theorem Py {a b:Int} {l:List Int} (h:Wlk rs a l b) (k:List Int):rO rs a (l++k)=rO rs a l*rO rs b k:=by
 induction h with
 | nil a=>show rO rs a k=1*_;rw [Int.one_mul]
 | cons ad w ih=>show _*rO rs _ (_++k)=_*rO rs _ _*_;rw [ih,Int.mul_assoc]
theorem Wlk.rev {a c:Int} {l:List Int} (h:Wlk rs a l c):∃ k,(a::l).reverse=c::k/\Wlk rs c k a:=by
 induction h with
 | nil a=>exact ⟨[],rfl,.nil a⟩
 | @cons a b c l ad w ih =>
   obtain ⟨k,e,w'⟩:=ih;exact ⟨k++[a],by rw [List.reverse_cons,e];rfl,w'.app (.cons ad.symm (.nil a))⟩
theorem Wlk.last {a b:Int} {l:List Int} (h:Wlk rs a l b):a::l=(a::l).dropLast++[b]:=by
 induction h with
 | nil a=>rfl
 | @cons a b c l ad w ih =>
   show a::(b::l)=a::((b::l).dropLast++[c]);rw [<- ih]
theorem Wlk.at_ {a c b:Int} {l:List Int} (h:Wlk rs a l c) (hb:b∈a::l):∃ l1 l2,l=l1++l2/\Wlk rs a l1 b/\Wlk rs b l2 c:=by
 induction h with
 | nil a =>
   rw [List.mem_singleton.mp hb];exact ⟨[],[],rfl,.nil a,.nil a⟩
 | @cons a x c l ad w ih =>
   rcases List.mem_cons.mp hb with z|z
   . rw [z];exact ⟨[],x::l,rfl,.nil a,.cons ad w⟩
   . obtain ⟨l1,l2,e,h1,h2⟩:=ih z;exact ⟨x::l1,l2,by rw [e];rfl,.cons ad h1,h2⟩
theorem ED (R:Rooted m rs r par dep):∀ (n:Nat) (a:Int),dep a=n->0<=a->a<m->∃ l,kW par dep a=a::l/\Wlk rs a l r/\rO rs a l=sL rs par dep a:=by
 intro n
 induction n with
 | zero =>
   intro a ha a0 a1;by_cases z:a=r
   . subst z;exact ⟨[],BJ R,.nil _,(GP R).symm⟩
   . have:=R.pos a0 a1 z;omega
 | succ n ih =>
   intro a ha a0 a1;have z:a≠r:=fun z=>by rw [z,R.root] at ha;omega
   have u:=R.up a a0 a1 z;obtain ⟨l,e,w,p⟩:=ih (par a) (by omega) u.1.1 u.1.2;refine ⟨par a::l,by rw [oF R a0 a1 z,e],.cons u.2.1 w,?_⟩;rw [A6 R a0 a1 z,<- p]
   rfl
theorem GZ (R:Rooted m rs r par dep) {a:Int} (a0:0<=a) (a1:a<m):(kW par dep a).Nodup:=(yU R _ a rfl a0 a1).1
theorem Wlk.through (g:Good m rs) (R:Rooted m rs r par dep) {a:Int} {l:List Int} (h:Wlk rs a l r):∀ x∈kW par dep a,x∈a::l:=by
 generalize hc:r=c at h
 induction h with
 | nil a=>intro x hx;rw [<- hc,BJ R] at hx;rw [<- hc];exact hx
 | @cons a b c l ad w ih =>
   intro x hx;have ih:=ih hc;have ra:=(g.adj ad).1;have rb:=(g.adj ad).2.1;rcases R.adj ad with ⟨h1,h2⟩|⟨h1,h2⟩
   . refine List.mem_cons_of_mem _ (ih x ?_);rw [oF R rb.1 rb.2 h1,h2];exact List.mem_cons_of_mem _ hx
   . rw [oF R ra.1 ra.2 h1,h2] at hx;rcases List.mem_cons.mp hx with z|z
     . rw [z];exact List.mem_cons_self
     . exact List.mem_cons_of_mem _ (ih x z)
theorem Wlk.uniq (g:Good m rs) (R:Rooted m rs r par dep) {a:Int} {l:List Int} (h:Wlk rs a l r) (nd:(a::l).Nodup):a::l=kW par dep a:=by
 generalize hc:r=c at h
 induction h with
 | nil a=>rw [<- hc,BJ R]
 | @cons a b c l ad w ih =>
   have ra:=(g.adj ad).1;have rb:=(g.adj ad).2.1;have nd':=List.nodup_cons.mp nd;rcases R.adj ad with ⟨h1,h2⟩|⟨h1,h2⟩
   . refine absurd (Wlk.through g R (hc ▸ w) a ?_) nd'.1;rw [oF R rb.1 rb.2 h1,h2];obtain ⟨k,e⟩:=GV (par:=par) (dep:=dep) a;rw [e];exact List.mem_cons_of_mem _ List.mem_cons_self
   . rw [oF R ra.1 ra.2 h1,h2,ih nd'.2 hc]
variable {para parb parc:Int->Int} {depa depb depc:Int->Nat} {a b c:Int}
theorem T6 (g:Good m rs) (A:Rooted m rs a para depa) (C:Rooted m rs c parc depc) (a0:0<=a) (a1:a<m):kW para depa c=(kW parc depc a).reverse:=by
 obtain ⟨l,e,w,_⟩:=ED C _ a rfl a0 a1;obtain ⟨k,e',w'⟩:=w.rev;have nd:=GZ C a0 a1;rw [e] at nd ⊢;rw [e',w'.uniq g A (by rw [<- e'];exact (List.reverse_perm _).nodup_iff.mpr nd)]
theorem XJ (g:Good m rs) (B:Rooted m rs b parb depb) (C:Rooted m rs c parc depc) (a0:0<=a) (a1:a<m) (b0:0<=b) (b1:b<m) (h:b∈kW parc depc a) :
   (kW parb depb a).dropLast++kW parc depc b=kW parc depc a/\sL rs parb depb a*sL rs parc depc b=sL rs parc depc a:=by
 obtain ⟨l,e,w,p⟩:=ED C _ a rfl a0 a1;have nd:=GZ C a0 a1;rw [e] at h nd;obtain ⟨l1,l2,el,w1,w2⟩:=w.at_ h;rw [el,<- List.cons_append,List.nodup_append] at nd;have e1:=w1.uniq g B nd.1;have bm:b∈a::l1:=by rw [w1.last];exact List.mem_append_right _ (List.mem_singleton.mpr rfl)
 have e2:=w2.uniq g C (List.nodup_cons.mpr ⟨fun z=>nd.2.2 b bm b z rfl,nd.2.1⟩);refine ⟨?_,?_⟩
 . rw [<- e1,<- e2,e,el,<- List.cons_append]
   conv=>rhs;rw [w1.last]
   rw [List.append_assoc]
   rfl
 . obtain ⟨l1',e1',_,p1⟩:=ED B _ a rfl a0 a1;obtain ⟨l2',e2',_,p2⟩:=ED C _ b rfl b0 b1;rw [<- e1] at e1';rw [<- e2] at e2';injection e1' with _ e1'
   injection e2' with _ e2'
   rw [<- p1,<- p2,<- p,<- e1',<- e2',el,Py w1]
end
section
variable {m:Int} {rs:List Road} {r b:Int} {par:Int->Int} {dep:Int->Nat}
theorem Ni:∀ (n:Nat) (v:Int),FB par b n v=decide (b∈jG par n v)
 | 0,v=>by
   show decide (v=b)=decide (b∈[v]);exact decide_eq_decide.mpr ⟨fun z=>by rw [z];exact List.mem_cons_self,fun z=>(List.mem_singleton.mp z).symm⟩
 | n+1,v=>by
   show (decide (v=b) || FB par b n (par v))=decide (b∈v::jG par n (par v));rw [Ni n (par v)];by_cases c:v=b
   . rw [decide_eq_true c,Bool.true_or,decide_eq_true (by rw [c];exact List.mem_cons_self)]
   . rw [decide_eq_false c,Bool.false_or];exact decide_eq_decide.mpr ⟨fun z=>List.mem_cons_of_mem _ z,fun z=>by
       rcases List.mem_cons.mp z with z|z
       . exact absurd z.symm c
       . exact z⟩
end
end Pb
set_option Elab.async false
set_option linter.all false
set_option maxRecDepth 100000
namespace Pb
open L2 PySem
section
variable {m:Int} {rs:List Road} {r b:Int} {par:Int->Int} {dep:Int->Nat}
theorem UT:∀ (k:Nat) (x:Int),up par (k+1) x=up par k (par x)
 | 0,_=>rfl
 | k+1,x=>by show par (up par (k+1) x)=par (up par k (par x));rw [UT k x]
theorem Cu:∀ (n k:Nat) (x:Int),k<=n->up par k x∈jG par n x
 | 0,0,x,_=>List.mem_cons_self
 | n+1,0,x,_=>List.mem_cons_self
 | n+1,k+1,x,h=>by
   rw [UT];exact List.mem_cons_of_mem _ (Cu n k (par x) (by omega))
theorem Ng {f:Int->List Int}:∀ {l:List Int} {k:Nat} {p:Int},(l.flatMap f)[k]?=some p->∃ u∈l,∃ k' rest,(f u)[k']?=some p/\(l.flatMap f).drop k=(f u).drop k'++rest
 | [],k,p,h=>by simp at h
 | u::l,k,p,h=>by
   rw [List.flatMap_cons] at h ⊢;by_cases c:k<(f u).length
   . rw [List.getElem?_append_left c] at h;exact ⟨u,List.mem_cons_self,k,l.flatMap f,h,List.drop_append_of_le_length (Nat.le_of_lt c)⟩
   . rw [List.getElem?_append_right (by omega)] at h;obtain ⟨w,hw,k',rest,h1,h2⟩:=Ng h;refine ⟨w,List.mem_cons_of_mem _ hw,k',rest,h1,?_⟩;rw [<- h2,List.drop_append,List.drop_eq_nil_of_le (by omega),List.nil_append]
theorem Uy (g:Good m rs) (R:Rooted m rs r par dep):∀ (n:Nat) (v:Int),m.toNat - 1 - dep v=n->0<=v->v<m->∀ (k:Nat) (p:Int),(ia m rs r par dep v)[k]?=some p->∃ rest,(ia m rs r par dep v).drop k=ia m rs r par dep p++rest:=by
 intro n
 induction n with
 | zero =>
   intro v hn v0 v1 k p h;have e:ia m rs r par dep v=[v]:=by unfold ia;rw [hn];rfl
   cases k with
   | zero =>
     have:p=v:=(by rw [e] at h;exact (Option.some.inj h).symm);rw [this];exact ⟨[],by rw [List.append_nil];rfl⟩
   | succ k=>rw [e] at h;simp at h
 | succ n ih =>
   intro v hn v0 v1 k p h;have e:=rP g R v0 v1;cases k with
   | zero =>
     have:p=v:=(by rw [e] at h;exact (Option.some.inj h).symm);rw [this];exact ⟨[],by rw [List.append_nil];rfl⟩
   | succ k =>
     rw [e,List.getElem?_cons_succ] at h;obtain ⟨u,hu,k',rest,h1,h2⟩:=Ng h;obtain ⟨ur,un,up⟩:=(fA g R v0 v1).mp hu;have du:=R.pos ur.1 ur.2 un;rw [up] at du;have dl:=rE R ur.1 ur.2;obtain ⟨rest',h3⟩:=ih u (by omega) ur.1 ur.2 k' p h1;exact ⟨rest'++rest,by rw [e,List.drop_succ_cons,h2,h3,List.append_assoc]⟩
theorem Ds (g:Good m rs) (R:Rooted m rs r par dep) {v:Int} (v0:0<=v) (v1:v<m):v∈ia m rs r par dep v:=by
 rw [rP g R v0 v1];exact List.mem_cons_self
theorem Vo (g:Good m rs) (R:Rooted m rs r par dep) {p:Int} (p0:0<=p) (p1:p<m) (x:Int):x∈ia m rs r par dep p↔(0<=x/\x<m)/\ben par dep p x=true:=by
 constructor
 . intro h;obtain ⟨xr,k,e1,e2⟩:=(BO g R _ p p0 p1).2 x h;refine ⟨xr,?_⟩;unfold ben;rw [Ni];refine decide_eq_true ?_;rw [<- e2];exact Cu _ _ _ (by omega)
 . rintro ⟨xr,h⟩;generalize hn:dep x=n
   induction n generalizing x with
   | zero =>
     by_cases z:x=r
     . subst z;have:p=x:=by
         unfold ben at h;rw [R.root] at h;exact (of_decide_eq_true h).symm
       rw [this];exact Ds g R xr.1 xr.2
     . have:=R.pos xr.1 xr.2 z;omega
   | succ n ih =>
     have z:x≠r:=fun z=>by rw [z,R.root] at hn;omega
     have u:=R.up x xr.1 xr.2 z;rw [UP R xr.1 xr.2 z] at h;by_cases y:x=p
     . rw [y];exact Ds g R p0 p1
     . rw [decide_eq_false y,Bool.false_or] at h;have hp:=ih (par x) u.1 h (by omega);obtain ⟨k,hk⟩:=List.getElem?_of_mem hp;obtain ⟨rest,e⟩:=Uy g R _ p rfl p0 p1 k _ hk;refine List.mem_of_mem_drop (i:=k) ?_;rw [e,rP g R u.1.1 u.1.2];refine List.mem_append_left _ (List.mem_cons_of_mem _ (List.mem_flatMap.mpr ⟨x,(fA g R u.1.1 u.1.2).mpr ⟨xr,z,rfl⟩,Ds g R xr.1 xr.2⟩))
end
end Pb
set_option Elab.async false
set_option linter.all false
namespace L2
open PySem
def XU (_ j:Int):Prop:=0<j/\j.natAbs.log2<9000
theorem KB {X:Cx}:OpR X (binaryOp .FloorDiv) (rI XU fun i j=>.int (i / j)):=opI fun i j _ _ _ _ _ hc q=>by
 have h1:(0:Int)<j:=hc.1;exact PyProof.Rows.floordiv_int (by omega) (by rw [Int.fdiv_eq_ediv_of_nonneg i (by omega)];exact q) (.inl (PyProof.noPylong_of_log2 hc.2))
end L2
namespace Pb
open PySem L2
end Pb
set_option Elab.async false
set_option linter.all false
set_option maxRecDepth 100000
set_option exponentiation.threshold 5000
namespace Pb
open L2 PySem
section
variable {m:Int} {rs:List Road} {r:Int} {par:Int->Int} {dep:Int->Nat}
variable {op:Int->Int->Int} {held:Int->Int} {con:Int->Int->Int}
end
end Pb
set_option Elab.async false
set_option linter.all false
set_option maxRecDepth 100000
namespace L2
open PySem PySem.Spec PyProof.Rows
section
variable {X:Cx}
end
end L2
namespace Pb
end Pb
set_option Elab.async false
set_option linter.all false
set_option maxRecDepth 100000
namespace L2
open PySem PySem.Spec PyProof.Rows
section
variable {X:Cx}
end
end L2
set_option Elab.async false
set_option linter.all false
set_option maxRecDepth 100000
namespace L2
open PySem PySem.Spec PyProof.Rows
section
variable {P:Program} {w:World} {A:Around} {R:Result->Shared->Prop} {I S:Addr} {fp wr:List Addr} {n:Nat} {Pv:Nat->Value->Prop} {St:Nat->Heap->Prop} {bt:Nat->Nat->Bool} {kw:List (Str × Value)}
end
theorem CB (f:Nat->Int):∀ n,argBest (fun i j=>decide (f i<f j)) n<=n/\∀ i,i<=n->f (argBest (fun i j=>decide (f i<f j)) n)<=f i
 | 0=>⟨Nat.le_refl _,fun i h=>by rw [show i=0 by omega];exact Int.le_refl _⟩
 | n+1=>by
   obtain ⟨h1,h2⟩:=CB f n;show (if decide (f (n+1)<f (argBest (fun i j=>decide (f i<f j)) n))=true then n+1 else argBest (fun i j=>decide (f i<f j)) n)<=n+1/\∀ i,i<=n+1->f (if decide (f (n+1)<f (argBest (fun i j=>decide (f i<f j)) n))=true then n+1 else argBest (fun i j=>decide (f i<f j)) n)<=f i;by_cases c:f (n+1)<f (argBest (fun i j=>decide (f i<f j)) n)
   . rw [if_pos (decide_eq_true c)];refine ⟨Nat.le_refl _,fun i h=>?_⟩;by_cases z:i=n+1
     . rw [z];exact Int.le_refl _
     . have:=h2 i (by omega);omega
   . rw [if_neg (by simpa using c)];refine ⟨by omega,fun i h=>?_⟩;by_cases z:i=n+1
     . rw [z];omega
     . exact h2 i (by omega)
section
variable {X:Cx} {x:Str} {p pos kpos:Pos} {e de:Expr} {t tk:TA}
def U0 (K:PySem.W.Frag) (t tk:TA):TE:=fun σ H Q=>t σ H fun vs H1=>tk σ H1 fun zs H2=>∃ (q:Addr) (ns:List Int) (d:V),vs=[.ref q]/\zs=[d]/\SqL K H2 q (ns.map V.int)/\ns≠[]/\∀ y,y∈ns->(∀ x∈ns,y<=x)->Q (.int y) H2
theorem JZ:bootBuiltins "any"=some (.builtin "any"):=by decide +kernel
theorem D0 (hc:X.calm=true):jp X (.builtin "any") (fun xs H Q=>∃ (p:Addr) (bs:List Bool),xs=[.ref p]/\SqL X.K H p (bs.map V.bl)/\Q (.bl (bs.any id)) H):=by
 intro pins s σ H xs us Q I r h;obtain ⟨p,bs,rfl,hp,q⟩:=h;obtain ⟨u,rfl,ru⟩:=nF r;cases ru;obtain ⟨its,rv,pl,hz⟩:=I.list hp;have hl:=pl.isList;have hlt:=pl.lt;have hh:X.A.in1.handled=none:=I.ok.hd hc;have hlen:its.length=bs.length:=by rw [<- rv.length,List.length_map]
 refine call_any_walk (wpAny_pyIter_list hl ?_);refine ⟨s.heap.objs.size,[s.heap.objs.size,p],[s.heap.objs.size],its.toArray.size,_,_,fun i=>(bs[i]?).getD false,rfl,Walks.list (A:=X.A.in1) hh _ p (Nat.ne_of_lt hlt) its.toArray,
   ⟨⟨_,Heap.get?_push_size _ rfl,rfl,rfl⟩,hl.push _⟩,fun i v s' Q' E' hP hQ=>?_,fun h' tk hk=>?_⟩
 . have hi:its[i]?=some v:=by simpa using hP
   have hib:i<bs.length:=by rw [<- hlen];exact (List.getElem?_eq_some_iff.mp hi).1
   obtain ⟨u,hu,ru⟩:=rv.get (i:=i) (x:=V.bl bs[i]) (by rw [List.getElem?_map,List.getElem?_eq_getElem hib];rfl);rw [hi] at hu;cases hu;cases ru;replace hQ:Q' (bs[i]?.getD false) s':=hQ;rw [List.getElem?_eq_getElem hib] at hQ;exact wpAny_truthy_bool hQ
 . have e:((List.range its.toArray.size).any fun i=>(bs[i]?).getD false)=bs.any id:=by
     rw [List.size_toArray,hlen];rw [Bool.eq_iff_iff,List.any_eq_true,List.any_eq_true]
     constructor
     . rintro ⟨i,hi,z⟩;have hi':=List.mem_range.mp hi;rw [List.getElem?_eq_getElem hi'] at z;exact ⟨_,List.getElem_mem hi',z⟩
     . rintro ⟨b,hb,z⟩;obtain ⟨i,hi,rfl⟩:=List.getElem_of_mem hb;refine ⟨i,List.mem_range.mpr hi,?_⟩;rw [List.getElem?_eq_getElem hi];exact z
   have kk:∀ b o,s.heap.get? b=some o->h'.get? b=some o:=fun b o eb=>hk b o (fun hm=>by rw [List.mem_singleton.mp hm] at eb;exact Nat.lt_irrefl _ (Heap.lt_size eb)) (Heap.get?_push_of_some _ eb);rw [e];exact ⟨.bl _,H,I.kept (t':=tk) kk,rfl,q⟩
def UX (t:TE):TE:=fun σ H Q=>t σ H fun x H1=>∃ b,x=.bl b/\Q (.bl (b != true)) H1
end
end L2
set_option Elab.async false
set_option linter.all false
set_option maxRecDepth 100000
namespace Pb
open L2 PySem
section
variable {m:Int} {rs:List Road} {r:Int} {par:Int->Int} {dep:Int->Nat}
variable {ch:Int->Option Int} {w:Int} {cn:Int->Int}
end
end Pb
set_option Elab.async false
set_option linter.all false
set_option maxRecDepth 100000
namespace L2
open PySem PySem.Spec PyProof.Rows PySem.W
section
variable {n:Nat}
variable (hn:0<n)
include hn
end
section
variable {prog:Program} {w:World} {A:Around} {E:Value->Shared->Prop} {s:Shared}
end
end L2
set_option Elab.async false
set_option linter.all false
set_option maxRecDepth 100000
namespace L2
open PySem PySem.Spec PyProof.Rows PySem.W Pb
section
variable {prog:Program} {w:World} {A:Around} {E:Value->Shared->Prop} {s:Shared} {it d:Addr} {i ep:Nat} {es:Array DictEntry}
end
section
variable {prog:Program} {w:World} {A:Around} {E:Value->Shared->Prop} {s:Shared} {fin:Bool} {C:Bool->Shared->Prop}
end
section
variable {prog:Program} {w:World} {A:Around} {E:Value->Shared->Prop} {s:Shared}
end
section
variable {X:Cx}
end
end L2
set_option Elab.async false
set_option linter.all false
set_option maxRecDepth 100000
namespace L2
theorem Lo {κ:Type} [DecidableEq κ] {kvs:List (κ × V)} {k:κ} {v:V} {p:κ × V} (h:p∈fD kvs k v):p.1=k\/∃ q∈kvs,p.1=q.1:=by
 unfold fD at h;split at h
 . obtain ⟨q,hq,e⟩:=List.mem_map.mp h;refine .inr ⟨q,hq,?_⟩;rw [<- e];split <;> rfl
 . rcases List.mem_append.mp h with h|h
   . exact .inr ⟨p,h,rfl⟩
   . rw [List.mem_singleton.mp h];exact .inl rfl
end L2
namespace Pb
open L2 PySem
section
variable {m:Int} {rs:List Road} {r:Int} {par:Int->Int} {dep:Int->Nat}
end
section
end
end Pb
set_option Elab.async false
set_option linter.all false
set_option maxRecDepth 100000
namespace L2
open PySem PySem.Spec PyProof.Rows
def Q4 (tk tv:TE):TE:=fun σ H Q=>∀ p,H p=none->xN [(tk,tv)] σ (upd H p (.dT [])) fun ps H2=>H2 p=some (.dT [])/\∃ (k:List Key) (b:Addr) (y:V),ps=[(.ref b,y)]/\H2 b=some (.tup (k.map kV))/\Q (.ref p) (upd H2 p (.dT [(k,y)]))
end L2
set_option Elab.async false
set_option linter.all false
set_option maxRecDepth 100000
namespace Pb
open L2 PySem
inductive Come (m:Int) (rs:List Road) (xs:List Int):List Int->Prop
 | start:Come m rs xs xs
 | step {z:List Int} {a b:Int}:Come m rs xs z->ny m rs z (a,b,1)=true->Come m rs xs (eF rs z (a,b,1))
theorem KF:∀ {z:List Int},(∀ x∈z,0<=x)->0<=z.sum
 | [],_=>Int.le_refl 0
 | x::z,h=>by
   have h1:=h x (.head _);have h2:=KF fun y hy=>h y (.tail _ hy);rw [List.sum_cons];omega
end Pb
namespace Pb
open L2 PySem
section
variable {m:Int} {rs:List Road} {xs:List Int}
theorem Come.len {z:List Int} (h:Come m rs xs z):z.length=xs.length:=by
 induction h with
 | start=>rfl
 | step _ _ ih=>rw [oJ];exact ih
theorem Come.many (g:Good m rs) (xl:(xs.length:Int)=m):∀ (n:Nat) {z:List Int} {a b:Int},Come m rs xs z->ny m rs z (a,b,(n:Int)+1)=true->Come m rs xs (eF rs z (a,b,(n:Int)+1))
 | 0,z,a,b,h,c=>Come.step h c
 | n+1,z,a,b,h,c=>by
   have zl:(z.length:Int)=m:=by rw [h.len];exact xl
   obtain ⟨ca,e⟩:=PQ g zl c (f:=1) (by decide) (by omega);have c0:=ca 0 _ rfl;rw [lm] at c0;have c1:=ca 1 _ rfl;rw [sf (s:=(a,b,1)) rfl,lm] at c1;have e1:((n+1:Nat):Int)+1 - 1=(n:Int)+1:=by omega
   rw [e1] at c1 e;rw [<- e];exact Come.many g xl n (Come.step h c0) c1
theorem Come.times (g:Good m rs) (xl:(xs.length:Int)=m) {z:List Int} {s:Stp} (h:Come m rs xs z) (c:ny m rs z s=true):Come m rs xs (eF rs z s):=by
 obtain ⟨a,b,n⟩:=s;have n1:=(rm (yZ c).1).2.2;have e:n=((n - 1).toNat:Int)+1:=by simp only at n1;omega
 rw [e] at c ⊢;exact Come.many g xl _ h c
theorem Come.all (g:Good m rs) (xl:(xs.length:Int)=m) {ss:List Stp} (ca:D1 m rs xs ss):∀ i,i<=ss.length->Come m rs xs (rd rs xs ss i)
 | 0,_=>by rw [lm];exact .start
 | i+1,h=>by
   have hs:ss[i]?=some ss[i]:=List.getElem?_eq_getElem h;rw [sf hs];exact Come.times g xl (Come.all g xl ca i (by omega)) (ca i _ hs)
variable {r:Int} {par:Int->Int} {dep:Int->Nat}
end
end Pb
set_option Elab.async false
set_option linter.all false
set_option maxRecDepth 100000
namespace L2
open PySem PySem.Spec PyProof.Rows Pb
section
variable {X:Cx}
end
end L2
set_option Elab.async false
set_option linter.all false
set_option maxRecDepth 100000
namespace L2
open PySem PySem.Spec PyProof.Rows
theorem Qv:bootBuiltins "abs"=some (.builtin "abs"):=by decide +kernel
def KZ (_ j:Int):Prop:=j≠0/\j.natAbs.log2<9000
theorem GG {X:Cx}:OpR X (binaryOp .FloorDiv) (rI KZ fun i j=>.int (i.fdiv j)):=opI fun i j _ _ _ _ _ hc q=>PyProof.Rows.floordiv_int hc.1 q (.inl (PyProof.noPylong_of_log2 hc.2))
theorem Dy {j:Int} {n:Nat} (h0:j≠0) (h:j.natAbs<2^n) (hn:n<=9000):j.natAbs.log2<9000:=Nat.lt_of_lt_of_le ((Nat.log2_lt (by omega)).mpr h) hn
end L2
namespace Pb
theorem Xg (a b:Int):Int.gcd b (a.fmod b)=Int.gcd a b:=by
 rw [Int.fmod_def,Int.gcd_sub_mul_left_right,Int.gcd_comm]
theorem Xr (a b:Int):Int.gcd b (a % b)=Int.gcd a b:=by
 rw [Int.emod_def,Int.gcd_sub_mul_left_right,Int.gcd_comm]
theorem Qb {a b:Int} (h:b≠0):(a.fmod b).natAbs<b.natAbs:=by
 have h1:=Int.emod_nonneg a h;have h2:=Int.emod_lt a h;rw [Int.fmod_eq_emod];split
 . omega
 . rename_i z
   have:a % b≠0:=fun e=>z (.inr (Int.dvd_of_emod_eq_zero e));omega
structure Frc (t b p q:Int):Prop where
 pos:0<q
 one:p.gcd q=1
 eq:p*b=t*q
theorem Xh {t b c:Int} (h:b≠0) (hc:c.natAbs=t.gcd b) (hs:0<c↔0<b):Frc t b (t.fdiv c) (b.fdiv c):=by
 have gp:=Int.gcd_pos_of_ne_zero_right t h;have c0:c≠0:=by omega
 obtain ⟨x,hx⟩:c ∣ t:=Int.natAbs_dvd.mp (by rw [hc];exact Int.gcd_dvd_left ..);obtain ⟨y,hy⟩:c ∣ b:=Int.natAbs_dvd.mp (by rw [hc];exact Int.gcd_dvd_right ..);have e:c.natAbs*x.gcd y=c.natAbs*1:=by rw [<- Int.gcd_mul_left,<- hx,<- hy,<- hc,Nat.mul_one]
 subst hx hy;rw [Int.mul_fdiv_cancel_left _ c0,Int.mul_fdiv_cancel_left _ c0];refine ⟨?_,Nat.eq_of_mul_eq_mul_left (by omega) e,?_⟩
 . rcases Int.lt_or_gt_of_ne c0 with z|z
   . have:c*y<=0:=(by omega);rcases Int.lt_trichotomy y 0 with w|w|w
     . have:=Int.mul_pos_of_neg_of_neg z w;omega
     . subst w;simp at h
     . exact w
   . exact Int.pos_of_mul_pos_right (hs.mp z) z
 . rw [Int.mul_left_comm,Int.mul_assoc]
theorem BZ {p q p' q':Int} (one:p.gcd q=1) (e:p*q'=p'*q):q.natAbs ∣ q'.natAbs:=by
 have h:Nat.Coprime q.natAbs p.natAbs:=by
   show Nat.gcd _ _=1;rw [Nat.gcd_comm];exact one
 refine h.dvd_of_dvd_mul_left (m:=p.natAbs) ?_;rw [<- Int.natAbs_mul,e,Int.natAbs_mul];exact Nat.dvd_mul_left ..
theorem Q5 {p q p' q':Int} (h0:0<q) (h1:p.gcd q=1) (h0':0<q') (h1':p'.gcd q'=1) (e:p*q'=p'*q):p=p'/\q=q':=by
 have d1:=BZ h1 e;have d2:=BZ h1' e.symm;have:=Nat.dvd_antisymm d1 d2;have e2:q=q':=by omega
 subst e2;exact ⟨Int.eq_of_mul_eq_mul_right (Int.ne_of_gt h0) e,rfl⟩
theorem Qn (i:Int):(if i<0 then -i else i)=(i.natAbs:Int):=by split <;> omega
theorem rQ {t b p q:Int} (h:Frc t b p q) (b0:b≠0):p.natAbs<=t.natAbs/\q.natAbs<=b.natAbs:=by
 refine ⟨?_,Nat.le_of_dvd (by omega) (BZ h.one h.eq)⟩;by_cases c:t=0
 . have e:=h.eq;rw [c,Int.zero_mul] at e;rcases Int.mul_eq_zero.mp e with z|z
   . rw [z];exact Nat.zero_le _
   . exact absurd z b0
 . refine Nat.le_of_dvd (by omega) ?_;refine BZ (p:=q) (p':=b) (by rw [Int.gcd_comm];exact h.one) ?_;rw [Int.mul_comm,<- h.eq,Int.mul_comm]
theorem XO {t b t' b' p q:Int} (h:Frc t b p q) (e:t*b'=t'*b) (b0:b≠0):Frc t' b' p q:=by
 refine ⟨h.pos,h.one,Int.eq_of_mul_eq_mul_right b0 ?_⟩
 calc (p*b')*b=(p*b)*b':=by ac_rfl
   _=(t*b')*q:=by rw [h.eq];ac_rfl
   _=(t'*q)*b:=by rw [e];ac_rfl
theorem Vf (t b:Int):Int.gcd (t.natAbs:Int) b=t.gcd b:=by
 unfold Int.gcd;rw [Int.natAbs_natCast]
def rf (fs:List (Int × Int)) (tb:Int × Int):Int × Int:=fs.foldl (fun z f=>(z.1*f.2+f.1*z.2,z.2*f.2)) tb
theorem J4 {B:Int}:∀ {fs:List (Int × Int)} {S:Int} {tb:Int × Int},(∀ f∈fs,f.2 ∣ B)->S*tb.2=tb.1*B->(S+(fs.map fun f=>f.1*(B / f.2)).sum)*(rf fs tb).2=(rf fs tb).1*B
 | [],S,tb,_,e=>by
   show (S+0)*tb.2=tb.1*B;rw [Int.add_zero];exact e
 | f::fs,S,tb,h,e=>by
   have ih:=J4 (fs:=fs) (S:=S+f.1*(B / f.2)) (tb:=(tb.1*f.2+f.1*tb.2,tb.2*f.2)) (fun g hg=>h g (.tail _ hg)) (by
     show (S+f.1*(B / f.2))*(tb.2*f.2)=(tb.1*f.2+f.1*tb.2)*B;have d:B / f.2*f.2=B:=Int.ediv_mul_cancel (h f (.head _))
     calc (S+f.1*(B / f.2))*(tb.2*f.2)=(S*tb.2)*f.2+f.1*tb.2*(B / f.2*f.2):=by rw [Int.add_mul];congr 1 <;> ac_rfl
       _=(tb.1*f.2+f.1*tb.2)*B:=by rw [e,d,Int.add_mul];congr 1;ac_rfl)
   rw [List.map_cons,List.sum_cons,<- Int.add_assoc];exact ih
theorem vq:∀ {fs:List (Int × Int)} {tb:Int × Int},(∀ f∈fs,0<f.2)->0<tb.2->0<(rf fs tb).2
 | [],_,_,h=>h
 | f::fs,tb,h,h2=>vq (fs:=fs) (tb:=(tb.1*f.2+f.1*tb.2,tb.2*f.2)) (fun g hg=>h g (.tail _ hg)) (Int.mul_pos h2 (h f (.head _)))
theorem T8 {b q:Int} (b0:0<b) (q0:0<q):0<b*(q / (b.gcd q:Int))/\q ∣ b*(q / (b.gcd q:Int)):=by
 obtain ⟨x,hx⟩:=Int.gcd_dvd_left b q;obtain ⟨y,hy⟩:=Int.gcd_dvd_right b q;have gp:(0:Int)<b.gcd q:=by have:=Int.gcd_pos_of_ne_zero_right b (Int.ne_of_gt q0);omega
 have e:q / (b.gcd q:Int)=y:=by
   conv=>lhs;arg 1;rw [hy]
   exact Int.mul_ediv_cancel_left _ (Int.ne_of_gt gp)
 rw [e];have yp:0<y:=Int.pos_of_mul_pos_right (by rw [<- hy];exact q0) gp;refine ⟨Int.mul_pos b0 yp,x,?_⟩
 calc b*y=(b.gcd q*x)*y:=by rw [<- hx]
   _=(b.gcd q*y)*x:=by ac_rfl
   _=q*x:=by rw [<- hy]
end Pb
namespace L2
open PySem Pb
abbrev FrsAt (H:Hp):List Addr->List (Int × Int)->Prop:=Paired fun q f=>H q=some (.tup [.int f.1,.int f.2])
theorem FrsAt.same {H H':Hp} {qs:List Addr} {fs:List (Int × Int)} (e:Same H H') (h:FrsAt H qs fs):FrsAt H' qs fs:=Paired.imp' (fun q v x=>e q _ x) h
def FrB (n:Nat) (f:Int × Int):Prop:=0<f.2/\f.1.natAbs<2^n/\f.2.natAbs<2^n
def dFr (f:Int × Int):PyData:=.tuple [.int f.1,.int f.2]
theorem Gc {K:PySem.W.Frag} {H:Hp} {q:Addr} {f:Int × Int} (h:H q=some (.tup [.int f.1,.int f.2])):Deep K H (.ref q) (dFr f):=.tup (SqT.of h) (.cons (.int _) (.cons (.int _) .nil))
theorem kf {K:PySem.W.Frag} {H:Hp}:∀ {qs:List Addr} {fs:List (Int × Int)},FrsAt H qs fs->DeepAll K H (qs.map V.ref) (fs.map dFr)
 | _,_,.nil=>.nil
 | _,_,.cons x xs=>.cons (Gc x) (kf xs)
theorem Rr (f:Int × Int):PyData.eqv (dFr f) (dFr f)=true:=by simp [dFr,PyData.eqv,PyData.eqvAll]
theorem xv:∀ fs:List (Int × Int),PyData.eqvAll (fs.map dFr) (fs.map dFr)=true
 | []=>by simp [PyData.eqvAll]
 | f::fs=>by
   have h1:=Rr f;have h2:=xv fs;rw [List.map_cons];simp only [PyData.eqvAll,h1,h2,Bool.and_self]
theorem rN:∀ fs:List (Int × Int),PyData.depthAll (fs.map dFr)<=1
 | []=>by simp [PyData.depthAll]
 | f::fs=>by
   have h2:=rN fs;rw [List.map_cons];simp only [PyData.depthAll,dFr,PyData.depth];simp;omega
end L2
namespace L2
open PySem
theorem U5 {K:PySem.W.Frag} {i j:Nat} {a:Addr} {x y:V} {σ:St} {H:Hp} {Q:St->Hp->Prop} (h:SqT K H a [x,y]) (q:Q ((σ.set i (some x)).set j (some y)) H):IW K 2 (D5 (tK i) (D5 (tK j) gNil)) (.ref a) σ H Q :=
 ⟨a,_,rfl,h,rfl,_,_,rfl,_,_,rfl,rfl,q⟩
end L2
namespace L2
open PySem
theorem SX (f:Int × Int):(dFr f).depth<=40:=by simp [dFr,PyData.depth,PyData.depthAll]
theorem PU {K:PySem.W.Frag} {H:Hp} {a b:Addr} {f:Int × Int} {Q:VK} (ha:H a=some (.tup [.int f.1,.int f.2])) (hb:H b=some (.tup [.int f.1,.int f.2])) (q:Q (.bl true) H):PB K (.ref a) (.ref b) H Q :=
 ⟨_,_,Gc ha,Gc hb,SX f,by rw [Rr];exact q⟩
end L2
namespace L2
open PySem PySem.Spec PyProof.Rows Pb
theorem vL {n:Nat}:∀ {fs:List (Int × Int)} {tb:Int × Int} {b:Nat},(∀ f∈fs,FrB n f)->tb.1.natAbs<2^b->tb.2.natAbs<2^b->(rf fs tb).1.natAbs<2^(b+fs.length*(n+1))/\(rf fs tb).2.natAbs<2^(b+fs.length*(n+1))
 | [],tb,b,_,h1,h2=>by
   rw [List.length_nil,Nat.zero_mul,Nat.add_zero];exact ⟨h1,h2⟩
 | f::fs,tb,b,h,h1,h2=>by
   obtain ⟨f0,fb1,fb2⟩:=h f (.head _);have a1:(tb.1*f.2+f.1*tb.2).natAbs<2^(b+n+1):=n5 (da h1 fb2) (by rw [Int.mul_comm];exact da h2 fb1);have a2:(tb.2*f.2).natAbs<2^(b+n+1):=b8 (da h2 fb2) (by omega);have ih:=vL (fs:=fs) (tb:=(tb.1*f.2+f.1*tb.2,tb.2*f.2)) (b:=b+n+1) (fun g hg=>h g (.tail _ hg)) a1 a2;rw [List.length_cons,show b+(fs.length+1)*(n+1)=b+n+1+fs.length*(n+1) by rw [Nat.succ_mul];omega];exact ih
end L2
namespace L2
open PySem
abbrev WQ (K:PySem.W.Frag) (H:Hp):List Addr->List (Int × Int)->Prop:=Paired fun q f=>SqT K H q [.int f.1,.int f.2]
theorem FrsAt.k {K:PySem.W.Frag} {H:Hp} {qs:List Addr} {fs:List (Int × Int)} (h:FrsAt H qs fs):WQ K H qs fs:=Paired.imp' (fun q v x=>SqT.of x) h
def TupK (K:PySem.W.Frag) (a:Addr) (xs:List V):Prop:=∃ (o:Obj) (its:Array Value) (n:Nat),K.lookup a=some o/\o.cls=.type "tuple"/\o.data=.seq its n/\its.size<=sizeLine/\Vals xs its.toList
theorem U9 {K:PySem.W.Frag} {a:Addr} {od:Option Addr} {i j:Int} {t u:Tok} {n:Nat} {sl:Array (Option Value)} (h:K.lookup a=some ⟨.type "tuple",od,.seq #[.int i t,.int j u] n,sl⟩):TupK K a [.int i,.int j] :=
 ⟨_,_,_,h,rfl,rfl,(by show 2<=sizeLine;decide),.cons ⟨_,rfl⟩ (.cons ⟨_,rfl⟩ .nil)⟩
theorem TupK.sq {K:PySem.W.Frag} {H:Hp} {a:Addr} {xs:List V} (h:TupK K a xs):SqT K H a xs:=.inr h
end L2
set_option Elab.async false
set_option linter.all false
set_option maxRecDepth 100000
namespace Pb
open L2 PySem
section
variable {m:Int} {rs:List Road} {r:Int} {par:Int->Int} {dep:Int->Nat}
theorem P3 (g:Good m rs) {z:List Int} (zl:(z.length:Int)=m) {a b:Int} (c:ny m rs z (a,b,1)=true):(eF rs z (a,b,1)).sum<z.sum:=by
 obtain ⟨is,en⟩:=yZ c;obtain ⟨ar,nb,_⟩:=rm is;obtain ⟨k,ek,tk,kk,br⟩:=GK g is;have ad:=g.adj ((hV g).mp nb);simp only at ar nb ek tk br en ad;unfold eF;show ((z.set a.toNat (z.getD a.toNat 0 - 1*aE rs a b)).set b.toNat ((z.set a.toNat (z.getD a.toNat 0 - 1*aE rs a b)).getD b.toNat 0+1)).sum<z.sum;rw [FG _ _ _ (by rw [List.length_set];omega),FG _ _ _ (by omega),tk];omega
end
section
variable {m:Int} {rs:List Road} {xs:List Int}
theorem Come.sum_le (g:Good m rs) (xl:(xs.length:Int)=m) {z:List Int} (h:Come m rs xs z):z.sum<=xs.sum:=by
 induction h with
 | start=>exact Int.le_refl _
 | step hz c ih=>exact Int.le_trans (Int.le_of_lt (P3 g (by rw [hz.len];exact xl) c)) ih
end
end Pb
set_option Elab.async false
set_option linter.all false
set_option maxRecDepth 100000
namespace L2
open PySem PySem.Spec PyProof.Rows PySem.W Pb
section
variable {X:Cx} {pins:List (Addr × Obj)} {σ:St} {H:Hp} {s:Shared}
end
def Itd (d:Addr) (o:Obj) (kvs:List (List Key × V)):It :=
 ⟨fun i H=>H d=some (.frz o (.dT kvs))/\i<kvs.length,fun i H x H'=>H'=H/\∃ (q:Addr) (k:List Key) (v:V),x=.ref q/\kvs[i]?=some (k,v)/\H q=some (.tup (k.map kV)),fun i H=>H d=some (.frz o (.dT kvs))/\i=kvs.length⟩
def Va (tl:TE) (g:TG) (tb:TS):TS:=fun D σ H=>tl σ H fun x H1=>∃ (d:Addr) (kvs:List (List Key × V)),x=.ref d/\H1 d=some (.dT kvs) /\
 ∀ o,rB (Itd d o kvs) { D with nx:=fun σ' H'=>H' d=some (.frz o (.dT kvs))/\D.nx σ' (upd H' d (.dT kvs)) } g tb σ (upd H1 d (.frz o (.dT kvs)))
section
variable {X:Cx} {tg:Expr}
end
end L2
set_option Elab.async false
set_option linter.all false
set_option maxRecDepth 100000
namespace Pb
open L2 PySem
def aB {α:Type} (l:List α) (f:α->Rat):Rat:=l.foldr (fun x s=>f x+s) 0
section
variable {α β:Type}
theorem aP (x:α) (l:List α) (f:α->Rat):aB (x::l) f=f x+aB l f:=rfl
theorem jV (l:List α) (f h:α->Rat):aB l (fun x=>f x+h x)=aB l f+aB l h:=by
 induction l with
 | nil=>exact (Rat.add_zero 0).symm
 | cons x l ih=>rw [aP,aP,aP,ih];grind
theorem cz {l:List α} {f h:α->Rat} (e:∀ x∈l,f x=h x):aB l f=aB l h:=by
 induction l with
 | nil=>rfl
 | cons x l ih=>rw [aP,aP,e x (.head _),ih fun y hy=>e y (.tail _ hy)]
theorem rT (l:List α):aB l (fun _=>0)=0:=by
 induction l with
 | nil=>rfl
 | cons x l ih=>rw [aP,ih,Rat.add_zero]
theorem oj (l:List α) (f:α->Rat) (c:Rat):aB l (fun x=>f x*c)=aB l f*c:=by
 induction l with
 | nil=>exact (Rat.zero_mul c).symm
 | cons x l ih=>rw [aP,aP,ih];grind
theorem Gx (l:List α) (l':List β) (F:α->β->Rat):aB l (fun x=>aB l' (fun y=>F x y))=aB l' (fun y=>aB l (fun x=>F x y)):=by
 induction l with
 | nil=>exact (rT l').symm
 | cons x l ih =>
   rw [aP,ih,<- jV]
   rfl
theorem wf (l:List α) (p:α->Bool) (f:α->Rat):aB (l.filter p) f=aB l (fun x=>if p x=true then f x else 0):=by
 induction l with
 | nil=>rfl
 | cons x l ih =>
   rw [aP];by_cases c:p x=true
   . rw [List.filter_cons_of_pos c,aP,ih,if_pos c]
   . rw [List.filter_cons_of_neg c,ih,if_neg c,Rat.zero_add]
theorem Sx (l:List α) (k:α->β) (f:β->Rat):aB (l.map k) f=aB l (fun x=>f (k x)):=by
 induction l with
 | nil=>rfl
 | cons x l ih=>rw [List.map_cons,aP,aP,ih]
theorem QY {l l':List α} (h:l.Perm l') (f:α->Rat):aB l f=aB l' f:=by
 induction h with
 | nil=>rfl
 | cons x _ ih=>rw [aP,aP,ih]
 | swap x y l=>rw [aP,aP,aP,aP];grind
 | trans _ _ h1 h2=>rw [h1,h2]
theorem zd [DecidableEq α] {l:List α} (nd:l.Nodup) {x:α} (hx:x∈l) (f:α->Rat):aB l f=f x+aB (l.filter fun y=>decide (y≠x)) f:=by
 induction l with
 | nil=>cases hx
 | cons y l ih =>
   obtain ⟨n1,n2⟩:=List.nodup_cons.mp nd;rw [aP];by_cases c:y=x
   . subst c;rw [List.filter_cons_of_neg (by simp)]
     congr 1
     rw [wf];refine cz fun z hz=>?_;rw [if_pos (show decide (z≠y)=true from decide_eq_true (fun e=>n1 (by rw [<- e];exact hz)))]
   . rw [List.filter_cons_of_pos (by simpa using c),aP];rcases List.mem_cons.mp hx with e|e
     . exact absurd e.symm c
     . rw [ih n2 e];grind
theorem DG [DecidableEq α] {l:List α} (nd:l.Nodup) {x:α} (hx:x∈l) (f:α->Rat):aB l (fun y=>if x=y then f y else 0)=f x:=by
 rw [zd nd hx,if_pos rfl,cz (h:=fun _=>0) fun y hy=>?_,rT,Rat.add_zero];have:=of_decide_eq_true (List.mem_filter.mp hy).2;rw [if_neg fun e=>this e.symm]
end
section
variable {m:Int} {rs:List Road} {r:Int} {par:Int->Int} {dep:Int->Nat}
theorem Cg (g:Good m rs) (R:Rooted m rs r par dep) (F:Int->Int->Rat):aB (below m.toNat) (fun u=>aB (bE m rs u) (F u))=aB ((below m.toNat).filter fun c=>decide (c≠r)) (fun c=>F c (par c)+F (par c) c):=by
 have nb:(below m.toNat).Nodup:=eu _;have rg:∀ {u:Int},u∈below m.toNat->0<=u/\u<m:=fun h=>by have:=bh.mp h;omega
 have e1:∀ u∈below m.toNat,aB (bE m rs u) (F u)=aB (below m.toNat) (fun x=>if u≠r/\par u=x then F u x else 0)+aB (below m.toNat) (fun x=>if x≠r/\par x=u then F u x else 0):=fun u hu=>by
   obtain ⟨u0,u1⟩:=rg hu;rw [<- jV];show aB ((below m.toNat).filter fun q=>decide (q∈cB rs u)) (F u)=_;rw [wf];refine cz fun x hx=>?_;obtain ⟨x0,x1⟩:=rg hx;have iff:decide (x∈cB rs u)=true↔Adj rs u x:=by
     rw [<- hV g];exact ⟨fun h=>List.mem_filter.mpr ⟨hx,h⟩,fun h=>(List.mem_filter.mp h).2⟩
   by_cases c1:u≠r/\par u=x
   . have h2:=R.up u u0 u1 c1.1;rw [c1.2] at h2;rw [if_pos (iff.mpr h2.2.1),if_pos c1,if_neg fun c2=>?_,Rat.add_zero];have h3:=R.up x x0 x1 c2.1;rw [c2.2] at h3;omega
   . rw [if_neg c1,Rat.zero_add];by_cases c2:x≠r/\par x=u
     . have h3:=R.up x x0 x1 c2.1;rw [c2.2] at h3;rw [if_pos (iff.mpr h3.2.1.symm),if_pos c2]
     . rw [if_neg c2,if_neg fun h=>?_];rcases R.adj (iff.mp h) with h|h
       . exact c2 h
       . exact c1 h
 have e2:∀ (G:Int->Rat) (u:Int),u∈below m.toNat->aB (below m.toNat) (fun x=>if u≠r/\par u=x then G x else 0)=if decide (u≠r)=true then G (par u) else 0:=fun G u hu=>by
   obtain ⟨u0,u1⟩:=rg hu;by_cases c:u=r
   . rw [if_neg (by rw [decide_eq_true_eq];exact fun h=>h c),cz (h:=fun _=>0) fun x _=>if_neg fun h=>h.1 c,rT]
   . have h2:=(R.up u u0 u1 c).1;rw [if_pos (decide_eq_true c),cz (h:=fun x=>if par u=x then G x else 0) fun x _=>?_]
     . exact DG nb (bh.mpr (by omega)) G
     . by_cases c2:par u=x
       . rw [if_pos ⟨c,c2⟩,if_pos c2]
       . rw [if_neg fun h=>c2 h.2,if_neg c2]
 rw [cz e1,jV,Gx (F:=fun u x=>if x≠r/\par x=u then F u x else 0),wf,<- jV];refine cz fun u hu=>?_;rw [e2 (F u) u hu,e2 (fun x=>F x u) u hu];by_cases c:decide (u≠r)=true
 . rw [if_pos c,if_pos c,if_pos c]
 . rw [if_neg c,if_neg c,if_neg c,Rat.add_zero]
theorem Oe (g:Good m rs) (F:Int->Int->Rat):aB (below m.toNat) (fun u=>aB (bE m rs u) (F u))=aB rs (fun x=>F x.a x.b+F x.b x.a):=by
 obtain ⟨par,dep,R⟩:=pD g (Int.le_refl 0) (show 0<m by have:=g.m1;omega);rw [Cg g R];have kid:∀ z∈rs,((0<=(if z.a≠0/\par z.a=z.b then z.a else z.b)/\(if z.a≠0/\par z.a=z.b then z.a else z.b)<m)/\(if z.a≠0/\par z.a=z.b then z.a else z.b)≠0)/\F (if z.a≠0/\par z.a=z.b then z.a else z.b) (par (if z.a≠0/\par z.a=z.b then z.a else z.b))+F (par (if z.a≠0/\par z.a=z.b then z.a else z.b)) (if z.a≠0/\par z.a=z.b then z.a else z.b)=F z.a z.b+F z.b z.a:=fun z hz=>by
   have ok:=g.ok z hz;by_cases c:z.a≠0/\par z.a=z.b
   . rw [if_pos c,c.2];exact ⟨⟨⟨ok.a0,ok.a1⟩,c.1⟩,rfl⟩
   . rw [if_neg c];rcases R.road z hz with w|w
     . exact absurd w c
     . rw [w.2];exact ⟨⟨⟨ok.b0,ok.b1⟩,w.1⟩,Rat.add_comm _ _⟩
 have pm:((below m.toNat).filter fun c=>decide (c≠(0:Int))).Perm (rs.map fun z=>if z.a≠0/\par z.a=z.b then z.a else z.b):=by
   refine nC ((eu _).filter _) R.one fun x=>?_;rw [List.mem_filter,bh,decide_eq_true_eq,List.mem_map]
   constructor
   . rintro ⟨h1,h2⟩;obtain ⟨u1,⟨z,hz,j⟩,u3⟩:=R.up x h1.1 (by omega) h2;refine ⟨z,hz,?_⟩;rcases j with ⟨j1,j2⟩|⟨j1,j2⟩
     . rw [if_pos ⟨by rw [j1];exact h2,by rw [j1];exact j2.symm⟩];exact j1
     . rw [if_neg fun c=>?_]
       . exact j1
       . have h3:=R.up z.a (by rw [j2];exact u1.1) (by rw [j2];exact u1.2) c.1;rw [c.2,j1,j2] at h3;omega
   . rintro ⟨z,hz,rfl⟩;have:=(kid z hz).1;exact ⟨⟨this.1.1,by omega⟩,this.2⟩
 rw [QY pm,Sx];exact cz fun z hz=>(kid z hz).2
def evp (rs:List Road) (u x:Int):Rat:=((aE rs u x:Int) - 1:Rat) / (aE rs u x*aE rs x u - 1)
def sep (rs:List Road) (u x:Int):Rat:=((aE rs x u:Int) - 1:Rat) / (aE rs x u*aE rs u x - 1)
def shr (m:Int) (rs:List Road) (F:Int->Int->Rat) (u:Int):Rat:=1 - aB (bE m rs u) (F u)
theorem lr (g:Good m rs) {u x:Int} (h:Adj rs u x):2<=aE rs u x/\aE rs u x<=1000000:=by
 obtain ⟨k,e,h1,h2⟩:=gD g h;unfold aE;rw [e];exact ⟨h1,h2⟩
theorem Nd {a b:Int} (ha:2<=a) (hb:2<=b):(a:Rat)*(b:Rat) - 1≠0:=by
 have h1:4<=a*b:=by
   have:=Int.mul_le_mul ha hb (by decide) (by omega);omega
 intro z;have z2:((a*b:Int):Rat)=((1:Int):Rat):=by
   rw [Rat.intCast_mul];have:(a:Rat)*(b:Rat)=1:=by grind
   rw [this]
   rfl
 have:=Rat.intCast_inj.mp z2;omega
theorem dj {a:Int} (ha:a≠0):(a:Rat)≠0:=fun z=>ha (Rat.intCast_inj.mp (z.trans rfl))
theorem GI (g:Good m rs) (R:Rooted m rs r par dep) (r0:0<=r) (r1:r<m) {F:Int->Int->Rat} {P:Int->Rat} (Pr:P r=1) (bal:∀ c,0<=c->c<m->c≠r->1 / P c - F c (par c) / P c - F (par c) c / P (par c)=0) :
   aB (below m.toNat) (fun u=>shr m rs F u / P u)=1:=by
 have e1:∀ u∈below m.toNat,shr m rs F u / P u=1 / P u+aB (bE m rs u) (fun x=>F u x / P u)*(-1):=fun u _=>by
   have:aB (bE m rs u) (fun x=>F u x / P u)=aB (bE m rs u) (F u)*(P u)⁻¹:=by
     rw [<- oj];exact cz fun x _=>Rat.div_def _ _
   rw [this];unfold shr;rw [Rat.div_def,Rat.div_def]
   grind
 rw [cz e1,jV,oj,Cg g R (fun u x=>F u x / P u),zd (eu _) (x:=r) (bh.mpr (by omega)) (fun u=>1 / P u),Pr,<- oj];have e2:=jV ((below m.toNat).filter fun c=>decide (c≠r)) (fun u=>1 / P u) (fun u=>(F u (par u) / P u+F (par u) u / P (par u))*(-1));have e3:aB ((below m.toNat).filter fun c=>decide (c≠r)) (fun u=>1 / P u+(F u (par u) / P u+F (par u) u / P (par u))*(-1))=0:=by
   rw [<- rT ((below m.toNat).filter fun c=>decide (c≠r))];refine cz fun c hc=>?_;obtain ⟨h1,h2⟩:=List.mem_filter.mp hc;have h3:=bh.mp h1;have:=bal c h3.1 (by omega) (of_decide_eq_true h2)
   grind
 grind
theorem II (g:Good m rs) (R:Rooted m rs r par dep) (r0:0<=r) (r1:r<m) {P:Int->Int} (P0:∀ c,0<=c->c<m->P c≠0) (Pr:P r=1) (Pc:∀ c,0<=c->c<m->c≠r->P c=aE rs c (par c)*P (par c)) :
   aB (below m.toNat) (fun u=>shr m rs (evp rs) u / (P u:Rat))=1:=by
 refine GI g R r0 r1 (P:=fun u=>(P u:Rat)) (by show ((P r:Int):Rat)=1;rw [Pr];rfl) fun c c0 c1 cr=>?_;obtain ⟨u1,ad,u3⟩:=R.up c c0 c1 cr;have b2:=(lr g ad).1;have a2:=(lr g ad.symm).1;have n1:=Nd b2 a2;have n2:=dj (P0 (par c) u1.1 u1.2);have n3:((aE rs c (par c):Int):Rat)≠0:=dj (by omega);show 1 / ((P c:Int):Rat) - evp rs c (par c) / ((P c:Int):Rat) - evp rs (par c) c / ((P (par c):Int):Rat)=0;rw [Pc c c0 c1 cr,Rat.intCast_mul];unfold evp;generalize ((aE rs c (par c):Int):Rat)=b at *;generalize ((aE rs (par c) c:Int):Rat)=a at *;generalize ((P (par c):Int):Rat)=p at *;have n4:a*b - 1≠0:=by rw [Rat.mul_comm];exact n1
 grind
theorem zw (g:Good m rs) (R:Rooted m rs r par dep) (r0:0<=r) (r1:r<m) {P:Int->Int} (P0:∀ c,0<=c->c<m->P c≠0) (Pr:P r=1) (Pc:∀ c,0<=c->c<m->c≠r->P c=aE rs (par c) c*P (par c)) :
   aB (below m.toNat) (fun u=>shr m rs (sep rs) u / (P u:Rat))=1:=by
 refine GI g R r0 r1 (P:=fun u=>(P u:Rat)) (by show ((P r:Int):Rat)=1;rw [Pr];rfl) fun c c0 c1 cr=>?_;obtain ⟨u1,ad,u3⟩:=R.up c c0 c1 cr;have b2:=(lr g ad).1;have a2:=(lr g ad.symm).1;have n1:=Nd b2 a2;have n2:=dj (P0 (par c) u1.1 u1.2);have n3:((aE rs (par c) c:Int):Rat)≠0:=dj (by omega);show 1 / ((P c:Int):Rat) - sep rs c (par c) / ((P c:Int):Rat) - sep rs (par c) c / ((P (par c):Int):Rat)=0;rw [Pc c c0 c1 cr,Rat.intCast_mul];unfold sep;generalize ((aE rs c (par c):Int):Rat)=b at *;generalize ((aE rs (par c) c:Int):Rat)=a at *;generalize ((P (par c):Int):Rat)=p at *;have n4:a*b - 1≠0:=by rw [Rat.mul_comm];exact n1
 grind
theorem PF (l:List Int):aB l (fun _=>1)=((l.length:Int):Rat):=by
 induction l with
 | nil=>rfl
 | cons x l ih =>
   rw [aP,ih,List.length_cons,Int.natCast_add,Rat.intCast_add];exact Rat.add_comm _ _
theorem Gm (g:Good m rs) (F:Int->Int->Rat):aB (below m.toNat) (shr m rs F)=(m:Rat)+aB rs (fun x=>F x.a x.b+F x.b x.a)*(-1):=by
 have e1:∀ u∈below m.toNat,shr m rs F u=1+aB (bE m rs u) (F u)*(-1):=fun u _=>by unfold shr;grind
 rw [cz e1,jV,oj,Oe g F,PF,aD,Int.toNat_of_nonneg (by have:=g.m1;omega)]
theorem Pn (g:Good m rs) {x:Road} (hx:x∈rs):aE rs x.a x.b=x.t/\aE rs x.b x.a=x.u:=by
 obtain ⟨i,hi⟩:=List.getElem?_of_mem hx;have ne:=(g.adj (show Adj rs x.a x.b from ⟨x,hx,.inl ⟨rfl,rfl⟩⟩)).2.2;unfold aE;rw [oI g hi (.inl ⟨rfl,rfl⟩),oI g hi (.inr ⟨rfl,rfl⟩)];unfold eR;rw [if_pos ⟨rfl,rfl⟩,if_neg fun h=>ne h.1,if_pos ⟨rfl,rfl⟩];exact ⟨rfl,rfl⟩
theorem uI:∀ {fs:List (Int × Int)} {tb:Int × Int},(∀ f∈fs,f.2≠0)->tb.2≠0->(((rf fs tb).1:Int):Rat) / (rf fs tb).2=(tb.1:Rat) / tb.2+aB fs (fun f=>(f.1:Rat) / f.2)
 | [],tb,_,_=>(Rat.add_zero _).symm
 | f::fs,tb,h,h2=>by
   have f2:=h f (.head _);have ih:=uI (fs:=fs) (tb:=(tb.1*f.2+f.1*tb.2,tb.2*f.2)) (fun g hg=>h g (.tail _ hg)) (Int.mul_ne_zero h2 f2);rw [aP];have n1:=dj f2;have n2:=dj h2;refine ih.trans ?_;show ((tb.1*f.2+f.1*tb.2:Int):Rat) / ((tb.2*f.2:Int):Rat)+_=_;rw [Rat.intCast_add,Rat.intCast_mul,Rat.intCast_mul,Rat.intCast_mul]
   grind
theorem me {t b p q:Int} (h:Frc t b p q) (b0:b≠0):(p:Rat) / q=(t:Rat) / b:=by
 have n1:=dj b0;have n2:=dj (Int.ne_of_gt h.pos);have e:(p:Rat)*b=t*q:=by rw [<- Rat.intCast_mul,<- Rat.intCast_mul,h.eq]
 grind
theorem Lk {a b c d:Int} (b0:b≠0) (d0:d≠0) (h:(a:Rat) / b=(c:Rat) / d):a*d=c*b:=by
 have n1:=dj b0;have n2:=dj d0;have e:(a:Rat)*d=c*b:=by grind
 rw [<- Rat.intCast_mul,<- Rat.intCast_mul] at e;exact Rat.intCast_inj.mp e
end
end Pb
namespace Pb
open L2 PySem
theorem lD {α:Type} (l:List α) (x:α) (f:α->Rat):aB (l++[x]) f=aB l f+f x:=by
 induction l with
 | nil=>show f x+0=0+f x;grind
 | cons y l ih=>rw [List.cons_append,aP,aP,ih];grind
def WO (tl:Int->Int) (par:Int->Int):Nat->Int->Int
 | 0,_=>1
 | n+1,u=>tl u*WO tl par n (par u)
def tlf (rs:List Road) (par:Int->Int) (to:Bool) (u:Int):Int:=if to=true then aE rs u (par u) else aE rs (par u) u
def prc (rs:List Road) (par:Int->Int) (dep:Int->Nat) (to:Bool) (u:Int):Int:=WO (tlf rs par to) par (dep u) u
section
variable {m:Int} {rs:List Road} {r:Int} {par:Int->Int} {dep:Int->Nat} {to:Bool}
theorem ie (R:Rooted m rs r par dep):prc rs par dep to r=1:=by unfold prc;rw [R.root];rfl
theorem lC (R:Rooted m rs r par dep) {c:Int} (c0:0<=c) (c1:c<m) (cr:c≠r):prc rs par dep to c=tlf rs par to c*prc rs par dep to (par c):=by
 have:=(R.up c c0 c1 cr).2.2;unfold prc;rw [<- this]
 rfl
theorem Nj (g:Good m rs) (R:Rooted m rs r par dep) {c:Int} (c0:0<=c) (c1:c<m) (cr:c≠r):2<=tlf rs par to c/\tlf rs par to c<=1000000:=by
 have ad:=(R.up c c0 c1 cr).2.1;unfold tlf;split
 . exact lr g ad
 . exact lr g ad.symm
theorem ji (g:Good m rs) (R:Rooted m rs r par dep):∀ (n:Nat) {c:Int},dep c=n->0<=c->c<m->0<prc rs par dep to c/\(prc rs par dep to c).natAbs<2^(n*20+1):=by
 intro n
 induction n with
 | zero =>
   intro c e c0 c1;unfold prc;rw [e];show (0:Int)<1/\(1:Int).natAbs<2^1;exact ⟨by decide,by decide⟩
 | succ n ih =>
   intro c e c0 c1;have cr:c≠r:=fun z=>by rw [z,R.root] at e;cases e
   obtain ⟨u1,_,u3⟩:=R.up c c0 c1 cr;obtain ⟨h1,h2⟩:=ih (c:=par c) (by omega) u1.1 u1.2;obtain ⟨t1,t2⟩:=Nj (to:=to) g R c0 c1 cr;rw [lC R c0 c1 cr];refine ⟨Int.mul_pos (by omega) h1,?_⟩;rw [show (n+1)*20+1=20+(n*20+1) by omega];exact da (by omega) h2
end
end Pb
namespace Pb
open L2 PySem
theorem uH {α β:Type} {f:α->Rat} {k:β->Rat}:∀ {l:List α} {l':List β},l.length=l'.length->(∀ (i:Nat) x y,l[i]?=some x->l'[i]?=some y->f x=k y)->aB l f=aB l' k
 | [],[],_,_=>rfl
 | x::l,y::l',hl,h=>by
   rw [aP,aP,h 0 x y rfl rfl,uH (l:=l) (l':=l') (by simpa using hl) fun i x y h1 h2=>h (i+1) x y (by simpa using h1) (by simpa using h2)]
theorem yB {n i:Nat} {u:Int} (h:(below n)[i]?=some u):u=(i:Int):=by
 have hl:=(List.getElem?_eq_some_iff.mp h).1;rw [aD] at hl;unfold below at h;rw [List.getElem?_map,List.getElem?_range hl] at h;exact (Option.some.inj h).symm
theorem BT {m:Int} {fs:List (Int × Int)} {S:Int->Rat} {P:Int->Int} (fl:(fs.length:Int)=m) (fv:∀ (i:Nat) f,fs[i]?=some f->(f.1:Rat) / f.2=S i):aB (fs.zip ((below m.toNat).map P)) (fun z=>(z.1.1:Rat) / z.1.2 / z.2)=aB (below m.toNat) (fun u=>S u / (P u:Rat)):=by
 refine uH (by rw [List.length_zip,List.length_map,aD];omega) fun i z u h1 h2=>?_;rw [List.getElem?_zip_eq_some,List.getElem?_map,h2] at h1;have e:=yB h2;obtain ⟨h3,h4⟩:=h1;rw [fv i z.1 h3,<- Option.some.inj h4,e]
theorem SA {m:Int} {fs:List (Int × Int)} {S:Int->Rat} (fl:(fs.length:Int)=m) (fv:∀ (i:Nat) f,fs[i]?=some f->(f.1:Rat) / f.2=S i):aB (fs.zip (List.replicate m.toNat (1:Int))) (fun z=>(z.1.1:Rat) / z.1.2 / z.2)=aB (below m.toNat) S:=by
 refine uH (by rw [List.length_zip,List.length_replicate,aD];omega) fun i z u h1 h2=>?_;rw [List.getElem?_zip_eq_some] at h1;have e:=yB h2;obtain ⟨h3,h4⟩:=h1;have h5:z.2=1:=List.eq_of_mem_replicate (List.mem_of_getElem? h4);rw [fv i z.1 h3,h5,e,show ((1:Int):Rat)=1 from rfl]
 grind
end Pb
namespace Pb
open L2 PySem
structure Shs (m:Int) (rs:List Road) (F:Int->Int->Rat) (fs:List (Int × Int)):Prop where
 len:(fs.length:Int)=m
 one:∀ f∈fs,0<f.2/\f.1.gcd f.2=1
 val:∀ (i:Nat) f,fs[i]?=some f->(f.1:Rat) / f.2=shr m rs F i
theorem Shs.eq {m:Int} {rs:List Road} {F:Int->Int->Rat} {fs fs':List (Int × Int)} (h:Shs m rs F fs) (h':Shs m rs F fs'):fs=fs':=by
 refine List.ext_getElem? fun i=>?_;by_cases c:i<fs.length
 . have c':i<fs'.length:=by have:=h.len;have:=h'.len;omega
   have e:=List.getElem?_eq_getElem c;have e':=List.getElem?_eq_getElem c';obtain ⟨p1,p2⟩:=h.one _ (List.getElem_mem c);obtain ⟨q1,q2⟩:=h'.one _ (List.getElem_mem c');have:=Lk (Int.ne_of_gt p1) (Int.ne_of_gt q1) ((h.val i _ e).trans (h'.val i _ e').symm);obtain ⟨z1,z2⟩:=Q5 p1 p2 q1 q2 this;rw [e,e',show fs[i]=fs'[i] from Prod.ext z1 z2]
 . have:=h.len;have:=h'.len;rw [List.getElem?_eq_none (by omega),List.getElem?_eq_none (by omega)]
end Pb
set_option Elab.async false
set_option linter.all false
set_option maxRecDepth 100000
namespace L2
open PySem PySem.Spec PyProof.Rows
section
variable {X:Cx} {cx:Str} {Nc:List Str} {own:Nat} {js:List Nat} {scope:Scope} {cl:List (Str × Addr)}
end
section
variable {X:Cx} {cx:Str} {Nc:List Str} {own:Nat} {js:List Nat} {scope:Scope} {cl:List (Str × Addr)}
end
end L2
set_option Elab.async false
set_option linter.all false
set_option maxRecDepth 100000
namespace L2
open PySem PySem.Spec PyProof.Rows PySem.W
section
variable {X:Cx}
end
def Its (z:Str):It:=⟨fun i _=>i<z.cps.size,fun i H x H'=>H'=H/\∃ c,z.cps[i]?=some c/\x=.str ⟨#[c]⟩,fun i _=>z.cps.size<=i⟩
section
variable {X:Cx} {tg:Expr}
def WK (tl:TE):TI:=fun σ H R=>tl σ H fun x H1=>∃ z,x=.str z/\z.cps.all (·<128)=true/\R (Its z) H1
end
section
variable {P:Program} {w:World} {A:Around} {E:Value->Shared->Prop} {s:Shared}
end
section
variable {X:Cx} {e:Expr} {te:TE} {p2 apos cpos pos2:Pos} {z:Str} {zp:Pos} {zk:Nat}
def Qz (K:PySem.W.Frag) (z:Str) (te:TE):TE:=fun σ H Q=>te σ H fun x H1=>∃ (a:Addr) (ys:List Str),x=.ref a/\SqL K H1 a (ys.map V.str)/\(ys.map (·.length)).sum+ys.length*z.length<=16777216/\Q (.str (Str.join z ys.reverse)) H1
end
end L2
set_option Elab.async false
set_option linter.all false
set_option maxRecDepth 100000
namespace Pb
open L2 PySem PySem.W NumText
end Pb
set_option Elab.async false
set_option linter.all false
set_option maxRecDepth 100000
namespace L2
open PySem PySem.Spec PyProof.Rows PySem.W
end L2
namespace Pb
open L2 PySem PySem.W NumText
open PySem.StrLaws (At ChainG occ_tight partsBetween_eq partsFrom strSub_toList subAt_eq sub_whole)
section
variable {X:Str} {u c v:Nat}
end
end Pb
set_option Elab.async false
set_option linter.all false
set_option maxRecDepth 100000
namespace L2
open PySem PySem.Spec PyProof.Rows PySem.W
end L2
namespace Pb
open L2 PySem PySem.W NumText
end Pb
set_option Elab.async false
set_option linter.all false
set_option maxRecDepth 100000
namespace Pb
open L2 PySem
section
variable {m:Int} {rs:List Road} {r:Int} {par:Int->Int} {dep:Int->Nat} {held:Int->Int}
theorem OW:∀ (xs:List Int),(List.range xs.length).map (fun i=>xs.getD i 0)=xs:=fun xs=>by
 refine List.ext_getElem? fun i=>?_;rw [List.getElem?_map];by_cases h:i<xs.length
 . rw [List.getElem?_range h,List.getElem?_eq_getElem h];show some (xs.getD i 0)=_;rw [List.getD,List.getElem?_eq_getElem h]
   rfl
 . rw [List.getElem?_eq_none (by rw [List.length_range];omega),List.getElem?_eq_none (by omega)]
   rfl
theorem MY (R:Rooted m rs r par dep):∀ (n:Nat) (v:Int),dep v=n->0<=v->v<m->FB par r n v=true
 | 0,v,e,h0,h1=>by
   refine decide_eq_true (Classical.byContradiction fun h=>?_);have:=R.pos h0 h1 h;omega
 | n+1,v,e,h0,h1=>by
   show (decide (v=r) || FB par r n (par v))=true;by_cases h:v=r
   . rw [decide_eq_true h];rfl
   . have u:=R.up v h0 h1 h;rw [MY R n (par v) (by omega) u.1.1 u.1.2,Bool.or_true]
theorem GJ (g:Good m rs) (R:Rooted m rs r par dep) (r0:0<=r) (r1:r<m):∃ t,ia m rs r par dep r=r::t/\Order m r par t :=
 E5 g R r0 r1 (BO g R _ r r0 r1).1 fun v=>by
   rw [Vo g R r0 r1];exact ⟨fun h=>h.1,fun h=>⟨h,MY R _ v rfl h.1 h.2⟩⟩
structure Pso (m:Int) (rs:List Road) (r:Int) (par:Int->Int) (dep:Int->Nat) (to:Bool) (t cs:List Int):Prop where
 len:(cs.length:Int)=m
 val:∀ u∈r::t,cs.getD u.toNat 0=prc rs par dep to u
theorem Pso.ahead (R:Rooted m rs r par dep) {tl:List Int} (O:Order m r par tl) {i:Nat} {v:Int} (hv:tl[i]?=some v):par v∈r::tl.take i/\v ∉ r::tl.take i:=by
 have vm:=List.mem_of_getElem? hv;have vr:=O.rng v vm;have vn:=O.ne vm;have ndt:=(List.nodup_cons.mp O.nd).2;have es:tl=tl.take (i+1)++tl.drop (i+1):=(List.take_append_drop _ _).symm;have et:tl.take (i+1)=tl.take i++[v]:=by rw [List.take_succ,hv];rfl
 have nv:v ∉ tl.take i:=fun z=>by
   have nd:=ndt;rw [es,et] at nd;exact (List.nodup_append.mp (List.nodup_append.mp nd).1).2.2 v z v (List.mem_singleton.mpr rfl) rfl
 refine ⟨?_,fun z=>(List.mem_cons.mp z).elim vn nv⟩;have af:=O.af;rw [es] at af;rcases af.up v (by rw [et];exact List.mem_append_right _ (.head _)) with x|x
 . rw [List.mem_singleton.mp x];exact .head _
 . rw [et] at x;rcases List.mem_append.mp x with x|x
   . exact .tail _ x
   . exact absurd (List.mem_singleton.mp x) (R.ne vr.1 vr.2 vn)
theorem Pso.step (R:Rooted m rs r par dep) {to:Bool} {tl cs:List Int} (O:Order m r par tl) (r0:0<=r) {i:Nat} {v y:Int} (S:Pso m rs r par dep to (tl.take i) cs) (hv:tl[i]?=some v) (hy:y=cs.getD (par v).toNat 0*tlf rs par to v):Pso m rs r par dep to (tl.take (i+1)) (cs.set v.toNat y):=by
 have sl:=S.len;have vm:=List.mem_of_getElem? hv;have vr:=O.rng v vm;have vn:=O.ne vm;obtain ⟨pa,nv⟩:=Pso.ahead R O hv;have et:tl.take (i+1)=tl.take i++[v]:=by rw [List.take_succ,hv];rfl
 refine ⟨by rw [List.length_set];exact sl,fun u hu=>?_⟩;rw [et,<- List.cons_append] at hu;rcases List.mem_append.mp hu with hu|hu
 . have ur:0<=u:=by
     rcases List.mem_cons.mp hu with h|h
     . rw [h];exact r0
     . exact (O.rng u ((List.take_sublist i tl).subset h)).1
   have un:u≠v:=fun z=>nv (z ▸ hu);rw [hJ _ _ _ _ (by omega),if_neg (by omega)];exact S.val u hu
 . rw [List.mem_singleton.mp hu,hJ _ _ _ _ (by omega),if_pos rfl,hy,S.val _ pa,lC R vr.1 vr.2 vn,Int.mul_comm]
theorem Pso.done (g:Good m rs) {to:Bool} {tl cs:List Int} (O:Order m r par tl) (S:Pso m rs r par dep to tl cs):cs=(below m.toNat).map (prc rs par dep to):=by
 have sl:=S.len;have h:(below m.toNat).map (prc rs par dep to)=(below m.toNat).map fun v=>cs.getD v.toNat 0:=List.map_congr_left fun v hv=>by
   obtain ⟨v0,v1⟩:=bh.mp hv;exact (S.val v (List.mem_cons.mpr (O.all v v0 (by omega)))).symm
 rw [h];unfold below;rw [List.map_map,show m.toNat=cs.length by omega];exact (OW cs).symm
end
end Pb
set_option Elab.async false
set_option linter.all false
set_option maxRecDepth 100000
namespace L2
open PySem PySem.Spec PyProof.Rows
section
variable {prog:Program} {w:World} {A:Around} {E:Value->Shared->Prop} {R:Result->Shared->Prop} {s:Shared}
end
section
variable {M:Model} {A:Around} {E:Value->Shared->Prop} {s:Shared} {Q:Unit->Shared->Prop} {fs:List Addr} {ea T L:Addr} {cls fl hd:Value} {od:Option Addr} {base:Heap} {env:Env} {outer:List Env}
end
section
variable {P:Program} {w:World} {K:PySem.W.Frag} {mg:Str->Option Value} {base:Heap} {N:List Str} {qual:Str} {scope:Scope} {f:Addr} {cd:Value} {A:Around} {outer:List Env} {s:Shared} {H:Hp} {E:XK}
end
section
variable {X:Cx} {Nc:List Str} {own:Nat} {js:List Nat} {scope:Scope} {cl:List (Str × Addr)}
end
section
variable {X:Cx} {Nc:List Str} {own:Nat} {js:List Nat} {scope:Scope} {cl:List (Str × Addr)}
end
section
variable {X:Cx}
end
end L2
set_option Elab.async false
set_option linter.all false
set_option maxRecDepth 100000
namespace L2
open PySem PySem.Spec PyProof.Rows
section
variable {prog:Program} {w:World} {A:Around} {E:Value->Shared->Prop} {h:Heap} {g:Array GenState} {d:Drawn} {t:Nat} {os:OsState}
variable {nm q:Str} {C N:Addr} {bs bm bmB:List Value} {hdct:Bool} {sn:List Str} {sub:List Value} {ab:Bool} {col:Option Bool} {dd:Option Addr} {k0 k1 k2 k3 k5:Option Value} {B newId initId:String}
end
section
variable {M:Model} {A:Around} {E:Value->Shared->Prop} {env:Env}
variable {nm q:Str} {C N:Addr} {bs bm:List Value} {hdct:Bool} {sn:List Str} {sub:List Value} {ab:Bool} {col:Option Bool} {dd:Option Addr} {k0 k1 k2 k3 k5:Option Value} {newId:String}
end
section
variable {prog:Program} {w:World} {A:Around} {E:Value->Shared->Prop} {s:Shared} {env:Env}
variable {nm q:Str} {C N:Addr} {bs bm bmB:List Value} {hdct:Bool} {sn:List Str} {sub:List Value} {ab:Bool} {col:Option Bool} {dd:Option Addr} {k0 k1 k2 k3 k5:Option Value} {B newId initId:String}
end
section
variable {X:Cx} {pins:List (Addr × Obj)} {σ:St} {H:Hp} {s:Shared}
end
section
variable {P:Program} {w:World} {K:PySem.W.Frag} {mg:Str->Option Value} {base:Heap} {N:List Str} {qual:Str} {scope:Scope} {f:Addr} {cd:Value} {A:Around} {outer:List Env} {s:Shared} {H:Hp} {E:XK}
end
section
variable {X:Cx} {x:Str} {np cpos pos:Pos} {e0:Expr} {es:List Expr} {t:TA} {C fI:Addr} {E:XK} {CX:CXT} {k:Nat} {fd:FuncData} {ps:List Str} {sp:Sp}
end
section
variable {X:Cx} {x:Str} {np apos pos:Pos} {e0:Expr} {es:List Expr} {t:TA} {Tl:Addr} {pl:Sem Bool}
end
end L2
set_option Elab.async false
set_option linter.all false
set_option maxRecDepth 100000
namespace L2
open PySem PySem.Spec PyProof.Rows PySem.W PySem.Builtin PySem.Builtin.ObjectAttr
section
variable {K:PySem.W.Frag} {prog:Program} {w:World} {A:Around} {s:Shared} {x C Tl:Addr} {R:Result->Shared->Prop}
end
section
variable {X:Cx} {pins:List (Addr × Obj)} {σ:St} {H:Hp} {s:Shared}
end
section
variable {X:Cx} {pins:List (Addr × Obj)} {σ:St} {H:Hp} {s:Shared} {A:Around} {E:Value->Shared->Prop} {ea C Tl:Addr} {f:Str}
end
section
variable {X:Cx} {o value:Expr} {ta tv:TE} {f:Str} {pos pos':Pos}
end
section
variable {prog:Program} {w:World} {A:Around} {E:Value->Shared->Prop} {s:Shared} {K:PySem.W.Frag} {x C:Addr} {ox:Obj} {od:Obj}
end
section
variable {X:Cx} {o:Expr} {ta:TE} {f:Str} {pos:Pos}
end
end L2
set_option Elab.async false
set_option linter.all false
set_option maxRecDepth 100000
namespace L2
open PySem
def Qs (K:PySem.W.Frag) (C':Addr) (ts:TS) (tr:TH):TH:=fun D σ cls od H=>∃ C b,cls=.ref C/\PySem.W.mroIn K C (.ref C')=some b/\if b=true then ts D σ H else tr D σ cls od H
section
variable {X:Cx} {x:Str} {np pos:Pos} {C':Addr} {b0:Stmt} {suite:List Stmt} {rest:List ExceptHandler} {ts:TS} {tr:TH}
end
end L2
namespace Pb
open L2 PySem
end Pb
set_option Elab.async false
set_option linter.all false
set_option maxRecDepth 100000
namespace Pb
open L2 PySem
section
variable {m:Int} {rs:List Road}
def dlt (rs:List Road) (v:Int) (s:Stp):Int:=(if s.2.1=v then s.2.2 else 0) - (if s.1=v then s.2.2*aE rs s.1 s.2.1 else 0)
def X5 (m:Int) (s:Stp):Prop:=(0<=s.1/\s.1<m)/\(0<=s.2.1/\s.2.1<m)/\s.1≠s.2.1
theorem RG {xs:List Int} (xl:(xs.length:Int)=m) {s:Stp} (ps:X5 m s) {v:Int} (v0:0<=v) (v1:v<m):(eF rs xs s).getD v.toNat 0=xs.getD v.toNat 0+dlt rs v s:=by
 obtain ⟨a,b,n⟩:=s;obtain ⟨ar,br,ne⟩:=ps;change 0<=a/\a<m at ar;change 0<=b/\b<m at br;change a≠b at ne;unfold eF dlt;show ((xs.set a.toNat (xs.getD a.toNat 0 - n*aE rs a b)).set b.toNat ((xs.set a.toNat (xs.getD a.toNat 0 - n*aE rs a b)).getD b.toNat 0+n)).getD v.toNat 0=xs.getD v.toNat 0+((if b=v then n else 0) - (if a=v then n*aE rs a b else 0));generalize n*aE rs a b=k;rw [hJ _ _ _ _ (by rw [List.length_set];omega),hJ _ _ _ _ (by omega),hJ _ _ _ _ (by omega)];by_cases c:b=v
 . subst c;rw [if_pos rfl,if_pos rfl,if_neg ne,if_neg (show ¬ a.toNat=b.toNat by omega)];omega
 . rw [if_neg (show ¬ b.toNat=v.toNat by omega),if_neg c];by_cases d:a=v
   . subst d;rw [if_pos rfl,if_pos rfl];omega
   . rw [if_neg (show ¬ a.toNat=v.toNat by omega),if_neg d];omega
end
section
variable {m:Int} {rs:List Road} {r:Int} {par:Int->Int} {dep:Int->Nat} {st:Int->Int} {xs ys:List Int}
theorem NG {ys:List Int} (y0:∀ y∈ys,0<=y) (i:Nat):0<=ys.getD i 0:=by
 rw [List.getD];cases e:ys[i]? with
 | none=>exact Int.le_refl _
 | some y=>exact y0 y (List.mem_of_getElem? e)
end
end Pb
set_option Elab.async false
set_option linter.all false
set_option maxRecDepth 100000
namespace L2
open PySem PySem.Spec PyProof.Rows
section
variable {X:Cx}
theorem G0 (hc:X.calm=true):jp X (.builtin "min") (fun xs H Q=>∃ (p:Addr) (ns:List Int),xs=[.ref p]/\SqL X.K H p (ns.map V.int)/\ns≠[]/\∀ y,y∈ns->(∀ x∈ns,y<=x)->Q (.int y) H):=by
 intro pins s σ H xs us Q I r h;obtain ⟨p,ns,rfl,hp,hne,q⟩:=h;obtain ⟨u,rfl,ru⟩:=nF r;cases ru;have hh:X.A.in1.handled=none:=I.ok.hd hc;obtain ⟨its,rv,pl,hz⟩:=I.list hp;have hlen:its.length=ns.length:=by rw [<- rv.length,List.length_map]
 have hv:∀ (i:Nat) (v:Value),its.toArray[i]?=some v->∃ t,v=Value.int (ns.getD i 0) t:=fun i v hP=>by
   have hi:its[i]?=some v:=by simpa using hP
   have hib:i<ns.length:=by rw [<- hlen];exact (List.getElem?_eq_some_iff.mp hi).1
   obtain ⟨u,hu,ru⟩:=rv.get (i:=i) (x:=V.int ns[i]) (by rw [List.getElem?_map,List.getElem?_eq_getElem hib];rfl);rw [hi] at hu;cases hu;obtain ⟨t,e⟩:=(show ∃ t,v=Value.int ns[i] t from ru);exact ⟨t,by rw [e];simp [List.getD,hib]⟩
 have hl:=pl.isList;have hlt:=pl.lt;have n0:0<ns.length:=List.length_pos_iff.mpr hne;refine call_min_walk (wpAny_pyIter_list hl ?_);refine ⟨s.heap.objs.size,[s.heap.objs.size,p],[s.heap.objs.size],its.toArray.size,_,_,_,rfl,Walks.list (A:=X.A.in1) hh _ p (Nat.ne_of_lt hlt) its.toArray,
   ⟨⟨_,Heap.get?_push_size _ rfl,rfl,rfl⟩,hl.push _⟩,fun b hb=>?_,by rw [List.size_toArray,hlen];exact n0,CmpOf.ints_lt (fun i=>ns.getD i 0) fun i v hP=>hv i v hP,fun v h' tk hP hk=>?_⟩
 . simp only [Heap.push,Array.size_push];rcases List.mem_cons.mp hb with e|e
   . rw [e];exact Nat.lt_succ_self _
   . rw [List.mem_singleton.mp e];exact Nat.lt_succ_of_lt hlt
 . have kk:∀ b o,s.heap.get? b=some o->h'.get? b=some o:=fun b o eb=>hk b o (fun hm=>by rw [List.mem_singleton.mp hm] at eb;exact Nat.lt_irrefl _ (Heap.lt_size eb)) (Heap.get?_push_of_some _ eb);obtain ⟨t,rfl⟩:=hv _ v hP;obtain ⟨a1,a2⟩:=CB (fun i=>ns.getD i 0) (its.toArray.size - 1);rw [List.size_toArray,hlen] at a1 a2 ⊢;generalize argBest (fun i j=>decide (ns.getD i 0<ns.getD j 0)) (ns.length - 1)=b at a1 a2 ⊢;have hb:b<ns.length:=by omega
   refine ⟨.int _,H,I.kept (t':=tk) kk,⟨t,rfl⟩,q _ ?_ fun x hx=>?_⟩
   . rw [List.getD,List.getElem?_eq_getElem hb];exact List.getElem_mem hb
   . obtain ⟨i,hi,rfl⟩:=List.getElem_of_mem hx;have:=a2 i (by omega);have e:ns.getD i 0=ns[i]:=(by rw [List.getD,List.getElem?_eq_getElem hi];rfl);rw [e] at this;exact this
def Ur (t:TE):TE:=fun σ H Q=>t σ H fun x H1=>∃ b,x=.bl b/\Q (.bl (b == true)) H1
theorem WB {a:Expr} {ta:TE} {j pos'} (ha:PE X a ta):PC X .Is a (.Constant (.bool true) j pos') (Ur ta):=by
 intro pins s σ H Q I h;refine bT (ha pins s σ H _ I h) fun v s1 x H1 I1 r1 ⟨b,e,q⟩=>?_;subst e;cases r1;exact Constant_bool (is_bool ⟨.bl _,H1,I1,rfl,q⟩)
end
end L2
namespace Pb
open L2 PySem
theorem Fw {α:Type} {f h:α->Rat}:∀ {l:List α},(∀ x∈l,f x<=h x)->aB l f<=aB l h
 | [],_=>Rat.le_refl
 | x::l,e=>by
   rw [aP,aP];exact Rat.le_trans (Rat.add_le_add_right.mpr (e x List.mem_cons_self)) (Rat.add_le_add_left.mpr (Fw fun y hy=>e y (List.mem_cons_of_mem _ hy)))
theorem Vr {α:Type} {f:α->Rat} {l:List α} (e:∀ x∈l,0<=f x):0<=aB l f:=by
 have:=Fw (f:=fun _=>0) (h:=f) (l:=l) e;rw [rT] at this;exact this
theorem FE {a:Int} (h:0<=a):(0:Rat)<=(a:Rat):=Rat.intCast_le_intCast.mpr h
theorem oM {a:Int} (h:0<a):(0:Rat)<(a:Rat):=Rat.intCast_lt_intCast.mpr h
theorem LC {a b:Rat} (h:0<=a) (k:0<b):0<=a / b:=by
 rw [Rat.div_def];exact Rat.mul_nonneg h (Rat.le_of_lt (Rat.inv_pos.mpr k))
def wth (m:Int) (P:Int->Int) (xs:List Int):Rat:=aB (below m.toNat) (fun u=>((xs.getD u.toNat 0:Int):Rat) / (P u:Rat))
section
variable {m:Int} {rs:List Road} {r:Int} {par:Int->Int} {dep:Int->Nat} {P:Int->Int} {xs:List Int}
theorem Xs {n p q k t:Rat} (hn:0<=n) (hp:0<p) (hk:1<=k) (ht:1<=t) (e:q=k*p):n / q<=n*t / p:=by
 have hk0:k≠0:=by intro z;rw [z] at hk;exact absurd hk (by decide)
 have hp0:p≠0:=fun z=>by rw [z] at hp;exact absurd hp (by decide)
 have e1:n*t / p=n / q+n*(t*k - 1) / (k*p):=by rw [e];grind
 have h1:0<=t*k - 1:=by
   have h0:(0:Rat)<=(t - 1)*k:=Rat.mul_nonneg (by grind) (by grind);have:t*k - 1=(t - 1)*k+(k - 1):=by grind
   grind
 have h2:0<=n*(t*k - 1) / (k*p):=LC (Rat.mul_nonneg hn h1) (Rat.mul_pos (by grind) hp)
 grind
theorem Sw (g:Good m rs) (R:Rooted m rs r par dep) (P0:∀ c,0<=c->c<m->0<P c) (Pc:∀ c,0<=c->c<m->c≠r->P c=aE rs c (par c)*P (par c)) (xl:(xs.length:Int)=m) {s:Stp} (hc:ny m rs xs s=true):wth m P (eF rs xs s)<=wth m P xs:=by
 have is:=(yZ hc).1;obtain ⟨ar,nb,n1⟩:=rm is;have ad:=(hV g).mp nb;obtain ⟨_,br,ne⟩:=g.adj ad;obtain ⟨a,b,n⟩:=s;change 0<=a/\a<m at ar;change 0<=b/\b<m at br;change a≠b at ne;change 1<=n at n1;change Adj rs a b at ad;have e:wth m P (eF rs xs (a,b,n))=wth m P xs+((n:Rat) / (P b:Rat) + -((n*aE rs a b:Int):Rat) / (P a:Rat)):=by
   unfold wth;have h1:aB (below m.toNat) (fun u=>(((eF rs xs (a,b,n)).getD u.toNat 0:Int):Rat) / (P u:Rat))=aB (below m.toNat) (fun u=>((xs.getD u.toNat 0:Int):Rat) / (P u:Rat)+((if b=u then (n:Rat) / (P u:Rat) else 0)+(if a=u then -((n*aE rs a b:Int):Rat) / (P u:Rat) else 0))):=by
     refine cz fun u hu=>?_;obtain ⟨u0,u1⟩:=bh.mp hu;rw [RG xl ⟨ar,br,ne⟩ u0 (by omega)];unfold dlt;show ((xs.getD u.toNat 0+((if b=u then n else 0) - (if a=u then n*aE rs a b else 0)):Int):Rat) / _=_;by_cases z:b=u
     . have z2:¬ a=u:=fun w=>ne (w.trans z.symm);rw [if_pos z,if_neg z2,if_pos z,if_neg z2,Int.sub_zero,Rat.intCast_add,Rat.add_zero];rw [Rat.div_def,Rat.add_mul,Rat.div_def,Rat.div_def]
     . rw [if_neg z,if_neg z];by_cases y:a=u
       . rw [if_pos y,if_pos y,Int.zero_sub,Rat.intCast_add,Rat.intCast_neg,Rat.zero_add];rw [Rat.div_def,Rat.add_mul,Rat.div_def,Rat.div_def]
       . rw [if_neg y,if_neg y,Int.sub_zero,Int.add_zero,Rat.add_zero,Rat.add_zero]
   rw [h1,jV,jV,DG (eu _) (bh.mpr ⟨br.1,by omega⟩),DG (eu _) (bh.mpr ⟨ar.1,by omega⟩)]
 rw [e];have pa:=P0 a ar.1 ar.2;have pb:=P0 b br.1 br.2;have pa':=oM pa;have pb':=oM pb;have n0:(0:Rat)<=(n:Rat):=FE (by omega);have t2:=(lr g ad).1;have key:(n:Rat) / (P b:Rat)<=((n*aE rs a b:Int):Rat) / (P a:Rat):=by
   rw [Rat.intCast_mul];have t1:(1:Rat)<=((aE rs a b:Int):Rat):=Rat.intCast_le_intCast.mpr (show (1:Int)<=aE rs a b by omega);obtain ⟨x,hx,j⟩:=id ad;have cs:(a≠r/\par a=b)\/(b≠r/\par b=a):=by
     rcases R.road x hx with ⟨w1,w2⟩|⟨w1,w2⟩ <;> rcases j with ⟨y1,y2⟩|⟨y1,y2⟩
     . rw [<- y1,<- y2];exact .inl ⟨w1,w2⟩
     . rw [<- y1,<- y2];first|exact .inr ⟨w1,w2⟩|exact .inl ⟨w1,w2⟩
     . rw [<- y1,<- y2];first|exact .inr ⟨w1,w2⟩|exact .inl ⟨w1,w2⟩
     . rw [<- y1,<- y2];first|exact .inr ⟨w1,w2⟩|exact .inl ⟨w1,w2⟩
   rcases cs with ⟨w1,w2⟩|⟨w1,w2⟩
   . have ep:=Pc a ar.1 ar.2 w1;rw [w2] at ep;rw [ep,Rat.intCast_mul];have q1:((aE rs a b:Int):Rat)≠0:=dj (by omega);have q2:((P b:Int):Rat)≠0:=dj (by omega);have:(n:Rat) / (P b:Rat)=(n:Rat)*((aE rs a b:Int):Rat) / (((aE rs a b:Int):Rat)*((P b:Int):Rat)):=(by grind);rw [this];exact Rat.le_refl
   . have ep:=Pc b br.1 br.2 w1;rw [w2] at ep;have k2:=(lr g ad.symm).1;refine Xs n0 pa' (Rat.intCast_le_intCast.mpr (show (1:Int)<=aE rs b a by omega)) t1 ?_;rw [ep,Rat.intCast_mul]
 have e2:-((n*aE rs a b:Int):Rat) / (P a:Rat)=-(((n*aE rs a b:Int):Rat) / (P a:Rat)):=by
   rw [Rat.div_def,Rat.div_def,Rat.neg_mul]
 rw [e2]
 grind
theorem VG (g:Good m rs) (R:Rooted m rs r par dep) (P0:∀ c,0<=c->c<m->0<P c) (Pc:∀ c,0<=c->c<m->c≠r->P c=aE rs c (par c)*P (par c)) (xl:(xs.length:Int)=m) {ss:List Stp} (ca:D1 m rs xs ss):∀ i,i<=ss.length->wth m P (rd rs xs ss i)<=wth m P xs:=by
 intro i
 induction i with
 | zero=>intro _;rw [lm];exact Rat.le_refl
 | succ i ih =>
   intro hi;have hs:=List.getElem?_eq_getElem (show i<ss.length by omega);rw [sf hs];exact Rat.le_trans (Sw g R P0 Pc (by rw [Sm];exact xl) (ca i _ hs)) (ih (by omega))
theorem W2 (P0:∀ c,0<=c->c<m->0<P c) (Pr:P r=1) (r0:0<=r) (r1:r<m) (x0:∀ x∈xs,0<=x):((xs.getD r.toNat 0:Int):Rat)<=wth m P xs:=by
 unfold wth;rw [zd (eu _) (bh.mpr ⟨r0,by omega⟩),Pr];have:0<=aB ((below m.toNat).filter fun y=>decide (y≠r)) (fun u=>((xs.getD u.toNat 0:Int):Rat) / (P u:Rat)):=Vr fun u hu=>by
   obtain ⟨u0,u1⟩:=bh.mp (List.mem_filter.mp hu).1;exact LC (FE (NG x0 _)) (oM (P0 u u0 (by omega)))
 have e:((xs.getD r.toNat 0:Int):Rat) / ((1:Int):Rat)=((xs.getD r.toNat 0:Int):Rat):=by
   show _ / (1:Rat)=_
   grind
 rw [e]
 grind
theorem TX (g:Good m rs) (R:Rooted m rs r par dep) (r0:0<=r) (r1:r<m) (P0:∀ c,0<=c->c<m->0<P c) (Pr:P r=1) (Pc:∀ c,0<=c->c<m->c≠r->P c=aE rs c (par c)*P (par c)) (xl:(xs.length:Int)=m) (x0:∀ x∈xs,0<=x) {tl:List Int} (O:Order m r par tl):((gat m rs r par dep (fun v=>xs.getD v.toNat 0) (giv rs par) r:Int):Rat)<=wth m P xs:=by
 obtain ⟨h1,h2,h3,_⟩:=GN g R r0 r1 x0 xl O rfl;rw [<- h1];exact Rat.le_trans (W2 P0 Pr r0 r1 h3) (VG g R P0 Pc xl (GR g R x0 xl O) _ (Nat.le_refl _))
theorem Lc (g:Good m rs) (R:Rooted m rs r par dep):∀ (n:Nat) {c:Int},dep c=n->0<=c->c<m->prc rs par dep true c=sL rs par dep c:=by
 intro n
 induction n with
 | zero =>
   intro c e c0 c1;unfold prc sL;rw [e]
   rfl
 | succ n ih =>
   intro c e c0 c1;have cr:c≠r:=fun z=>by rw [z,R.root] at e;cases e
   obtain ⟨u1,ad,u3⟩:=R.up c c0 c1 cr;obtain ⟨k,hk,_⟩:=gD g ad;rw [lC R c0 c1 cr,A6 R c0 c1 cr,ih (by omega) u1.1 u1.2];unfold tlf aE;rw [if_pos rfl,hk]
   rfl
theorem VF (g:Good m rs) {PAR:Int->Int->Int} {DEP:Int->Int->Nat} (RR:∀ r,0<=r->r<m->Rooted m rs r (PAR r) (DEP r)) {u:Int} (u0:0<=u) (u1:u<m):∀ (n:Nat) {c:Int},DEP u c=n->0<=c->c<m->prc rs (PAR u) (DEP u) false c=prc rs (PAR c) (DEP c) true u:=by
 intro n;have U:=RR u u0 u1
 induction n with
 | zero =>
   intro c e c0 c1;have ec:c=u:=by
     by_cases z:c=u
     . exact z
     . have:=(U.up c c0 c1 z).2.2;omega
   rw [ec,ie U,ie U]
 | succ n ih =>
   intro c e c0 c1;have cu:c≠u:=fun z=>by rw [z,U.root] at e;cases e
   obtain ⟨p1,ad,u3⟩:=U.up c c0 c1 cu;have C:=RR c c0 c1;have B:=RR (PAR u c) p1.1 p1.2;rw [lC U c0 c1 cu,ih (by omega) p1.1 p1.2,Lc g B _ rfl u0 u1,Lc g C _ rfl u0 u1];have hin:PAR u c∈kW (PAR c) (DEP c) u:=by
     rw [T6 g C U c0 c1,oF U c0 c1 cu];obtain ⟨l,hl⟩:=GV (par:=PAR u) (dep:=DEP u) (PAR u c);rw [hl];simp
   rw [<- (XJ g B C u0 u1 p1.1 p1.2 hin).2];have pc:PAR u c≠c:=U.ne c0 c1 cu;have pp:PAR c (PAR u c)=c:=by
     obtain ⟨x,hx,j⟩:=id ad;rcases C.road x hx with ⟨w1,w2⟩|⟨w1,w2⟩ <;> rcases j with ⟨y1,y2⟩|⟨y1,y2⟩
     . exact absurd y1 w1
     . rw [<- y2,w2];exact y1
     . rw [<- y2,w2];exact y1
     . exact absurd y1 w1
   obtain ⟨k,hk,_⟩:=gD g ad.symm;have e2:sL rs (PAR c) (DEP c) (PAR u c)=k:=by
     rw [A6 C p1.1 p1.2 pc,pp,GP C,hk];exact Int.mul_one _
   rw [e2,Int.mul_comm];unfold tlf aE;rw [if_neg (by decide),hk]
   rfl
theorem L5 (g:Good m rs) {PAR:Int->Int->Int} {DEP:Int->Int->Nat} (RR:∀ r,0<=r->r<m->Rooted m rs r (PAR r) (DEP r)):aB (below m.toNat) (fun u=>((xs.getD u.toNat 0:Int):Rat))=aB (below m.toNat) (fun v=>wth m (prc rs (PAR v) (DEP v) true) xs*shr m rs (sep rs) v):=by
 have h1:∀ u∈below m.toNat,((xs.getD u.toNat 0:Int):Rat)=aB (below m.toNat) (fun v=>((xs.getD u.toNat 0:Int):Rat) / ((prc rs (PAR v) (DEP v) true u:Int):Rat)*shr m rs (sep rs) v):=fun u hu=>by
   obtain ⟨u0,u1⟩:=bh.mp hu;have U:=RR u u0 (by omega);have one:=zw g U u0 (by omega) (P:=prc rs (PAR u) (DEP u) false) (fun c c0 c1=>by have:=(ji (to:=false) g U _ rfl c0 c1).1;omega) (ie U) (fun c c0 c1 cr=>by rw [lC U c0 c1 cr];rfl);have e:aB (below m.toNat) (fun v=>((xs.getD u.toNat 0:Int):Rat) / ((prc rs (PAR v) (DEP v) true u:Int):Rat)*shr m rs (sep rs) v)=aB (below m.toNat) (fun v=>shr m rs (sep rs) v / ((prc rs (PAR u) (DEP u) false v:Int):Rat)*((xs.getD u.toNat 0:Int):Rat)):=by
     refine cz fun v hv=>?_;obtain ⟨v0,v1⟩:=bh.mp hv;rw [VF g RR u0 (by omega) _ rfl v0 (by omega)];rw [Rat.div_def,Rat.div_def]
     grind
   rw [e,oj,one,Rat.one_mul]
 rw [cz h1,Gx];refine cz fun v hv=>?_;rw [oj]
 rfl
theorem Cz (g:Good m rs):aB (below m.toNat) (shr m rs (evp rs))=aB (below m.toNat) (shr m rs (sep rs)):=by
 rw [Gm g,Gm g]
 congr 2
 refine cz fun x hx=>?_;obtain ⟨h1,h2⟩:=Pn g hx;unfold evp sep;rw [h1,h2]
 grind
theorem Mv (g:Good m rs) {PAR:Int->Int->Int} {DEP:Int->Int->Nat} (RR:∀ r,0<=r->r<m->Rooted m rs r (PAR r) (DEP r)) (xl:(xs.length:Int)=m) (x0:∀ x∈xs,0<=x) (s0:∀ v,0<=v->v<m->0<=shr m rs (sep rs) v) {y:Int} (hy:∀ v,0<=v->v<m->y<=gat m rs v (PAR v) (DEP v) (fun w=>xs.getD w.toNat 0) (giv rs (PAR v)) v) :
   aB (below m.toNat) (shr m rs (evp rs))*(y:Rat)<=aB (below m.toNat) (fun u=>((xs.getD u.toNat 0:Int):Rat)):=by
 rw [L5 g RR,Cz g,<- oj];refine Fw fun v hv=>?_;obtain ⟨v0,v1⟩:=bh.mp hv;have v1':v<m:=by omega
 have R:=RR v v0 v1';obtain ⟨tl,et,O⟩:=GJ g R v0 v1';have h1:=TX (P:=prc rs (PAR v) (DEP v) true) g R v0 v1' (fun c c0 c1=>(ji (to:=true) g R _ rfl c0 c1).1) (ie R) (fun c c0 c1 cr=>by rw [lC R c0 c1 cr];rfl) xl x0 O;have h2:(y:Rat)<=((gat m rs v (PAR v) (DEP v) (fun w=>xs.getD w.toNat 0) (giv rs (PAR v)) v:Int):Rat):=Rat.intCast_le_intCast.mpr (hy v v0 v1');rw [Rat.mul_comm];exact Rat.mul_le_mul_of_nonneg_right (Rat.le_trans h2 h1) (s0 v v0 v1')
end
def bH (m:Int) (rs:List Road) (v:Int):Bool:=decide (shr m rs (evp rs) v<0) || decide (shr m rs (sep rs) v<0)
theorem tR {p q:Int} (h:0<q):((p:Rat) / q<0)↔p<0:=by
 have hq:=oM h
 constructor
 . intro z;refine Int.not_le.mp fun w=>?_;exact absurd (LC (FE w) hq) (Rat.not_le.mpr z)
 . intro z;refine Rat.not_le.mp fun w=>?_;have e:(p:Rat)=(p:Rat) / q*q:=by
     have:(q:Rat)≠0:=dj (by omega)
     grind
   have:=Rat.mul_nonneg w (Rat.le_of_lt hq);rw [<- e] at this;have:=Rat.intCast_le_intCast.mp (show ((0:Int):Rat)<=(p:Rat) from this);omega
theorem Sg {f g:Int × Int} (hf:0<f.2) (hg:0<g.2):f.1*g.2<g.1*f.2↔(f.1:Rat) / f.2<(g.1:Rat) / g.2:=by
 have h1:=oM hf;have h2:=oM hg;have n1:(f.2:Rat)≠0:=dj (by omega);have n2:(g.2:Rat)≠0:=dj (by omega);have e:(f.1:Rat) / f.2 - (g.1:Rat) / g.2=((f.1*g.2 - g.1*f.2:Int):Rat) / ((f.2*g.2:Int):Rat):=by
   rw [Rat.intCast_sub,Rat.intCast_mul,Rat.intCast_mul,Rat.intCast_mul]
   grind
 have k:=tR (p:=f.1*g.2 - g.1*f.2) (q:=f.2*g.2) (Int.mul_pos hf hg);rw [<- e] at k
 constructor
 . intro z;have:=k.mpr (by omega)
   grind
 . intro z;have:=k.mp (by grind);omega
theorem Gr:∀ xs:List Int,aB xs (fun x=>(x:Rat))=((xs.sum:Int):Rat)
 | []=>rfl
 | x::xs=>by rw [aP,Gr xs,List.sum_cons,Rat.intCast_add]
theorem Rm {m:Int} {xs:List Int} (xl:(xs.length:Int)=m):aB (below m.toNat) (fun u=>((xs.getD u.toNat 0:Int):Rat))=((xs.sum:Int):Rat):=by
 rw [<- Gr];refine uH (by rw [aD];omega) fun i u x hu hx=>?_;rw [yB hu,Int.toNat_natCast,List.getD,hx]
 rfl
theorem Rz {m:Int} {fs:List (Int × Int)} {S:Int->Rat} (fl:(fs.length:Int)=m) (fv:∀ (i:Nat) f,fs[i]?=some f->(f.1:Rat) / f.2=S i):aB fs (fun f=>(f.1:Rat) / f.2)=aB (below m.toNat) S:=by
 refine uH (by rw [aD];omega) fun i f u hf hu=>?_;rw [yB hu];exact fv i f hf
theorem CW {m:Int} {rs:List Road} (h:(below m.toNat).filter (bH m rs)=[]) {v:Int} (v0:0<=v) (v1:v<m):0<=shr m rs (evp rs) v/\0<=shr m rs (sep rs) v:=by
 have:=List.filter_eq_nil_iff.mp h v (bh.mpr ⟨v0,by omega⟩);unfold bH at this;simp only [Bool.or_eq_true,decide_eq_true_eq,not_or] at this;exact ⟨Rat.not_lt.mp this.1,Rat.not_lt.mp this.2⟩
theorem BS:∀ n:Nat,(List.replicate n false).any id=false
 | 0=>rfl
 | n+1=>by rw [List.replicate_succ,List.any_cons,BS n];rfl
theorem KS {m:Int} {fs:List (Int × Int)} {S:Int->Rat} {p q:Int} (f0:∀ f∈fs,0<f.2) (fl:(fs.length:Int)=m) (fv:∀ (i:Nat) f,fs[i]?=some f->(f.1:Rat) / f.2=S i) (fr:Frc (rf fs (0,1)).1 (rf fs (0,1)).2 p q):(p:Rat) / q=aB (below m.toNat) S:=by
 have mp:=vq (fs:=fs) (tb:=(0,1)) f0 (by decide);have mr:=uI (fs:=fs) (tb:=(0,1)) (fun f h=>Int.ne_of_gt (f0 f h)) (by decide);rw [me fr (Int.ne_of_gt mp),mr,Rz fl fv];rw [show (((0:Int),(1:Int)).1:Rat) / ((0:Int),(1:Int)).2=0 from by show ((0:Int):Rat) / ((1:Int):Rat)=0;rw [show ((0:Int):Rat)=0 from rfl,Rat.div_def,Rat.zero_mul],Rat.zero_add]
theorem Kp {K:PySem.W.Frag} {H:Hp} {a b:Addr} {qa qb:List Addr} {fs:List (Int × Int)} {Q:VK} (ha:H a=some (.lst (qa.map V.ref))) (fa:FrsAt H qa fs) (hb:H b=some (.lst (qb.map V.ref))) (fb:FrsAt H qb fs) (q:Q (.bl true) H):PB K (.ref a) (.ref b) H Q:=by
 refine ⟨_,_,.lst (SqL.of ha) (kf fa),.lst (SqL.of hb) (kf fb),?_,?_⟩
 . have:=rN fs;simp only [PyData.depth];omega
 . simp only [PyData.eqv];rw [xv];exact q
theorem C8:∀ xs ys:List Int,PyData.eqvAll (xs.map PyData.int) (ys.map PyData.int)=decide (xs=ys)
 | [],[]=>by simp [PyData.eqvAll]
 | [],y::ys=>by simp [PyData.eqvAll]
 | x::xs,[]=>by simp [PyData.eqvAll]
 | x::xs,y::ys=>by
   rw [List.map_cons,List.map_cons];simp only [PyData.eqvAll,PyData.eqv,C8 xs ys];rw [Bool.eq_iff_iff];simp
theorem ieq {K:PySem.W.Frag} {H:Hp} {a b:Addr} {xs ys:List Int} {Q:VK} (ha:H a=some (.lst (xs.map V.int))) (hb:H b=some (.lst (ys.map V.int))) (q:Q (.bl (decide (xs=ys))) H):PB K (.ref a) (.ref b) H Q:=by
 refine ⟨_,_,oO ha,oO hb,?_,?_⟩
 . have:=nB xs;simp only [PyData.depth];omega
 . simp only [PyData.eqv];rw [C8];exact q
theorem ine {K:PySem.W.Frag} {H:Hp} {a b:Addr} {xs ys:List Int} {Q:VK} (ha:H a=some (.lst (xs.map V.int))) (hb:H b=some (.lst (ys.map V.int))) (q:Q (.bl (!decide (xs=ys))) H):Xn K (.ref a) (.ref b) H Q:=by
 refine ⟨_,_,oO ha,oO hb,?_,?_⟩
 . have:=nB xs;simp only [PyData.depth];omega
 . simp only [PyData.eqv];rw [C8];exact q
theorem Nm:∀ {l:List Int} {x:Int},(∀ y∈l,0<=y)->x∈l->x<=l.sum
 | y::l,x,h,hx=>by
   have h1:=KF fun z hz=>h z (List.mem_cons_of_mem y hz);have h2:=h y List.mem_cons_self;rw [List.sum_cons];rcases List.mem_cons.mp hx with e|e
   . omega
   . have:=Nm (fun z hz=>h z (List.mem_cons_of_mem y hz)) e;omega
theorem NB:∀ {l:List Int} {b:Int},(∀ y∈l,y<=b)->l.sum<=l.length*b
 | [],b,_=>by simp
 | y::l,b,h=>by
   have h1:=NB fun z hz=>h z (List.mem_cons_of_mem y hz);have h2:=h y List.mem_cons_self;rw [List.sum_cons,List.length_cons];have e:(((l.length+1:Nat):Int))*b=l.length*b+b:=by rw [show ((l.length+1:Nat):Int)=(l.length:Int)+1 from rfl,Int.add_mul,Int.one_mul]
   omega
theorem R4 {m:Int} {rs:List Road} {r:Int} {par:Int->Int} {dep:Int->Nat} {xs:List Int} (g:Good m rs) (R:Rooted m rs r par dep) (r0:0<=r) (r1:r<m) (xl:(xs.length:Int)=m) (x0:∀ x∈xs,0<=x):gat m rs r par dep (fun w=>xs.getD w.toNat 0) (giv rs par) r<=xs.sum:=by
 obtain ⟨tl,et,O⟩:=GJ g R r0 r1;obtain ⟨es,he⟩:∃ es,es=rd rs xs (mX m rs r par dep (fun v=>xs.getD v.toNat 0) tl.reverse) (mX m rs r par dep (fun v=>xs.getD v.toNat 0) tl.reverse).length:=⟨_,rfl⟩;obtain ⟨b1,b2,b3,_⟩:=GN g R r0 r1 x0 xl O he;have cm:=Come.all g xl (GR g R x0 xl O) _ (Nat.le_refl _);rw [<- he] at cm;have zs:=cm.sum_le g xl;have hm:es.getD r.toNat 0∈es:=by
   rw [List.getD,List.getElem?_eq_getElem (show r.toNat<es.length by omega)];exact List.getElem_mem _
 have hm:=Nm b3 hm;rw [b1] at hm;omega
end Pb
set_option Elab.async false
set_option linter.all false
set_option maxRecDepth 100000
namespace Pb
open L2 PySem
end Pb
set_option Elab.async false
set_option linter.all false
set_option maxRecDepth 100000
set_option maxHeartbeats 4000000
namespace Pk
open PySem L2 Pb
seal L2.PSs L2.PS L2.PE L2.PT L2.PW L2.PA L2.PG L2.PGs L2.PI L2.PTs L2.PC L2.PPs L2.PO
abbrev top (i:Nat):Stmt:=Hd.top i
local macro_rules|`(tactic| walk_at "rd") => `(tactic| ((try dsimp only [tYes, XM, U3, Ends.less, GB, NC, Je, Qs, Nb, Va, WK, Qz, GD, T3, NJ, Ux, OF, U8, U7, U4, UJ, Te, Q3, GL, Qt, TY, U2, Oh, tNext, IR, tK, IW, D5, gNil, SL, U1, UY, XH, U0, UX, Ur, ipI, SM, OV, Iv, tB, D8, tC, Be, tOp, tUn, rI0, rI, rU, rEq, rNe, PY, O8, EO, tNil, S7, TM, tCB, tBM, UR, Sh, Sb, RP, Vb, FX, Px, PD, OX, Q4, xN, Qj, tDNewT, Ud, tOr, RB, OB, Wy, OA, tIf, List.nil_append, List.append_nil, List.set_cons_zero, List.set_cons_succ, List.getElem?_cons_zero, List.getElem?_cons_succ]);(try simp only [tYes, XM, U3, Ends.less, GB, NC, Je, Qs, Nb, Va, WK, Qz, GD, T3, NJ, Ux, OF, U8, U7, U4, UJ, Te, Q3, GL, Qt, TY, U2, Oh, tNext, IR, tK, IW, D5, gNil, SL, U1, UY, XH, U0, UX, Ur, ipI, SM, OV, Iv, tB, D8, tC, Be, tOp, tUn, rI0, rI, rU, rEq, rNe, V2, Vg, V1, V8, VJ, V9, PY, O8, EO, tNil, S7, TM, tCB, tBM, UR, Sh, Sb, RP, Vb, FX, Px, PD, OX, Q4, xN, Qj, tDNewT, Ud, tOr, RB, OB, Wy, OA, tIf, List.nil_append, List.append_nil, List.set_cons_zero, List.set_cons_succ, List.getElem?_cons_zero, List.getElem?_cons_succ, Option.some.injEq, V.int.injEq, V.bl.injEq, V.ref.injEq, List.cons.injEq, exists_eq_left, exists_eq_left', exists_and_left, exists_const, and_true, true_and, decide_eq_true_eq, Bool.not_eq_true', decide_eq_false_iff_not, Bool.true_eq_false, Bool.false_eq_true, if_true, if_false])))
set_option genSizeOf false in
set_option genInjectivity false in
structure Txt (K:PySem.W.Frag) (mg:Str->Option Value) where
 BadWeb:Addr
 X9:mg "BadWeb"=some (.ref BadWeb)
 NoPlace:Addr
 QZ:mg "NoPlace"=some (.ref NoPlace)
 NoRoad:Addr
 SI:mg "NoRoad"=some (.ref NoRoad)
 Web:Addr
 XY:mg "Web"=some (.ref Web)
 QL:OJ K NoPlace
 TF:OJ K NoRoad
 range:mg "range"=none
 zip:mg "zip"=none
 len:mg "len"=none
 isinstance:mg "isinstance"=none
 all:mg "all"=none
 any:mg "any"=none
 int:mg "int"=none
 bool:mg "bool"=none
 tuple:mg "tuple"=none
 list:mg "list"=none
 reversed:mg "reversed"=none
 sorted:mg "sorted"=none
 min:mg "min"=none
 sum:mg "sum"=none
 str:mg "str"=none
 abs:mg "abs"=none
 c_MOST_PLACES:∃ t,mg "MOST_PLACES"=some (.int 24 t)
 c_LEAST_TOLL:∃ t,mg "LEAST_TOLL"=some (.int 2 t)
 c_MOST_TOLL:∃ t,mg "MOST_TOLL"=some (.int 1000000 t)
 NOUGHT:Addr
 RA:mg "NOUGHT"=some (.ref NOUGHT)
 RO:TupK K NOUGHT [.int 0,.int 1]
 ONE:Addr
 Im:mg "ONE"=some (.ref ONE)
 Ik:TupK K ONE [.int 1,.int 1]
 iR:Cls K Web
 n_many:NoAttr K Web "many"
 n_roads:NoAttr K Web "roads"
section
variable {P:Program} {w:World} {K:PySem.W.Frag} {mg:Str->Option Value} {base:Heap} {CX:CXT}
def vF (T:Txt K mg):Sp:=fun vs H Q _=>∃ (m:Int) (t:Addr) (xs:List V),vs=[.int m,.ref t]/\SqT K H t xs/\1<=m/\m<=24/\(xs.length:Int)=m - 1/\Q .non H
abbrev bP:Stmt:=top 21
theorem D2:FnScope ["many","roads"] ["many","roads"] (aa bP):=FnScope.of (by kernel_rfl)
theorem pS:NmL (aa bP) "many":=.of (by kernel_rfl)
theorem xH:NmL (aa bP) "roads":=.of (by kernel_rfl)
theorem jS:NmG (aa bP) "MOST_PLACES":=.of (by kernel_rfl)
theorem Ma:NmG (aa bP) "BadWeb":=.of (by kernel_rfl)
theorem kT:NmG (aa bP) "len":=.of (by kernel_rfl)
theorem Eo (T:Txt K mg) (hq:aK (CXe P w)) {f:Addr} {fd:FuncData} (D:Df K mg "check_counts" bP ["many","roads"] f fd):FnOk P w K mg base (CXe P w) 1 f fd ["many","roads"] (vF T):=by
 refine D.F.okC D2 (fun vs H Q E h=>?_) (fun cdv A outer s H vs Q E hr h=>?_)
 . obtain ⟨m,t,xs,rfl,_⟩:=h
   rfl
 . obtain ⟨m,t,xs,rfl,ht,h1,h2,hl,k⟩:=h;refine ⟨_,(ai (bZ (eP (JU EC EC aj (pvl 0 pS) (DZ jS.g T.c_MOST_PLACES (hd:=jS.d)))) (ak qP) aW) (ak (bZ (aO mh (aN bM kT.g T.len fU (ae (pvl 1 xH) ag) (hn:=kT.n) (hdb:=kT.d)) (aA EA (pvl 0 pS) aj) (aI _)) (ak qP) aW))),?_⟩;rw [show L2.start ["many","roads"] [V.int m,V.ref t]=[some (V.int m),some (V.ref t)] from rfl];walk_at "rd";rw [if_pos h1,if_neg (by omega)];exact ⟨xs,.inr ht,by rw [if_neg (by omega)];exact k⟩
def wR (T:Txt K mg):Sp:=fun vs H Q _=>∃ m n:Int,vs=[.int m,.int n]/\Q (.bl (decide (0<=n) && decide (n<m))) H
abbrev eJ:Stmt:=top 20
theorem MG:FnScope ["many","number"] ["many","number"] (aa eJ):=FnScope.of (by kernel_rfl)
theorem DP:NmL (aa eJ) "many":=.of (by kernel_rfl)
theorem Bc:NmL (aa eJ) "number":=.of (by kernel_rfl)
theorem LQ (T:Txt K mg) (hq:aK (CXe P w)) {f:Addr} {fd:FuncData} (D:Df K mg "is_place" eJ ["many","number"] f fd):FnOk P w K mg base (CXe P w) 1 f fd ["many","number"] (wR T):=by
 refine D.F.okC MG (fun vs H Q E h=>?_) (fun cdv A outer s H vs Q E hr h=>?_)
 . obtain ⟨m,n,rfl,_⟩:=h
   rfl
 . obtain ⟨m,n,rfl,k⟩:=h;refine ⟨_,(ak (ay (UH EC rz aj (pvl 1 Bc) (pvl 0 DP)))),?_⟩;rw [show L2.start ["many","number"] [V.int m,V.int n]=[some (V.int m),some (V.int n)] from rfl];walk_at "rd";by_cases c:0<=n
   . simpa [c] using k
   . simpa [c] using k
def zV (T:Txt K mg):Sp:=fun vs H Q _=>∃ (m:Int) (p:Addr) (r:Road),vs=[.int m,.ref p]/\H p=some (.tup (o6 r))/\0<=r.a/\r.a<m/\0<=r.b/\r.b<m/\r.a≠r.b/\Q .non H
abbrev cW:Stmt:=top 22
theorem Hw:FnScope ["many","road"] ["many","road"] (aa cW):=FnScope.of (by kernel_rfl)
theorem rX:NmL (aa cW) "many":=.of (by kernel_rfl)
theorem iT:NmL (aa cW) "road":=.of (by kernel_rfl)
theorem fT:NmG (aa cW) "is_place":=.of (by kernel_rfl)
theorem Oj:NmG (aa cW) "BadWeb":=.of (by kernel_rfl)
theorem HE (T:Txt K mg) (hq:aK (CXe P w)) {f:Addr} {fd:FuncData} (D:Df K mg "check_ends" cW ["many","road"] f fd) {fM:Addr} {mV:FuncData} (df:Df K mg "is_place" eJ ["many","number"] fM mV) (G_is_place:FnOk P w K mg base (CXe P w) 1 fM mV ["many","number"] (wR T)):FnOk P w K mg base (CXe P w) 2 f fd ["many","road"] (zV T):=by
 refine D.F.okC Hw (fun vs H Q E h=>?_) (fun cdv A outer s H vs Q E hr h=>?_)
 . obtain ⟨m,p,r,rfl,_⟩:=h
   rfl
 . obtain ⟨m,p,r,rfl,hp,a0,a1,b0,b1,ne,k⟩:=h;refine ⟨_,(ai (bZ (PW.pt (k7 (eP (fw (am G_is_place (hr.mono (by decide)) fT.g df.m df.F.kp df.b .nil (aq hq) (ae (pvl 0 rX) (ae (az bf (pvl 1 iT) aj (fun _ _=>rfl)) ag)) (hdb:=fT.d)))) (mW (eP (fw (am G_is_place (hr.mono (by decide)) fT.g df.m df.F.kp df.b .nil (aq hq) (ae (pvl 0 rX) (ae (az bf (pvl 1 iT) aj (fun _ _=>rfl)) ag)) (hdb:=fT.d))))))) (ak qP) aW) (ak (bZ (aO jX (az bf (pvl 1 iT) aj (fun _ _=>rfl)) (az bf (pvl 1 iT) aj (fun _ _=>rfl)) (aI _)) (ak qP) aW))),?_⟩;rw [show L2.start ["many","road"] [V.int m,V.ref p]=[some (V.int m),some (V.ref p)] from rfl];walk_at "rd";refine ixT hp rfl ⟨m,r.a,rfl,_,rfl,?_⟩;rw [if_neg (by simp [a0,a1])];refine ixT hp rfl ⟨m,r.b,rfl,_,rfl,?_⟩;rw [if_neg (by simp [b0,b1])];refine ixT hp rfl (ixT hp rfl ⟨rfl,?_⟩);rw [if_neg (by simpa using ne)];exact k
def sJ (T:Txt K mg):Sp:=fun vs H Q _=>∃ (t:Addr) (ps:List Addr) (rs:List Road) (n:Int),vs=[.ref t,.int n]/\SqT K H t (ps.map V.ref)/\RoadsAt H ps rs/\rs.length<=1000 /\
 ∀ l H',H l=none->Same H H'->H' l=some (.lst ((cB rs n).map V.int))->Q (.ref l) H'
abbrev cJ:Stmt:=top 25
theorem sC:FnScope ["roads","place","ends","road"] ["roads","place"] (aa cJ):=FnScope.of (by kernel_rfl)
theorem z9:NmL (aa cJ) "roads":=.of (by kernel_rfl)
theorem p7:NmL (aa cJ) "place":=.of (by kernel_rfl)
theorem iV:NmL (aa cJ) "ends":=.of (by kernel_rfl)
theorem fZ:NmL (aa cJ) "road":=.of (by kernel_rfl)
theorem HQ (T:Txt K mg) (hq:aK (CXe P w)) {f:Addr} {fd:FuncData} (D:Df K mg "other_ends" cJ ["roads","place"] f fd):FnOk P w K mg base (CXe P w) 1 f fd ["roads","place"] (sJ T):=by
 refine D.F.okC sC (fun vs H Q E h=>?_) (fun cdv A outer s H vs Q E hr h=>?_)
 . obtain ⟨t,ps,rs,n,rfl,_⟩:=h
   rfl
 . obtain ⟨t,ps,rs,n,rfl,ht,hp,hl,k⟩:=h;refine ⟨_,(ai (ap (i:=2) sC.nd rfl (Or.inl iV.l) (cP ag)) (ai (eM PassesOwn.never rfl (yl (pvl 0 z9)) (au (i:=3) sC.nd rfl (Or.inl fZ.l)) (ai (bZ (aO jX (az bf (pvl 3 fZ) aj (fun _ _=>rfl)) (pvl 1 p7) (aI _)) (ak (cZ (mx PySem.F.plainAttrs_list PySem.F.slot_list_append PySem.F.type_list_append eW (pvl 2 iV) (ae (az bf (pvl 3 fZ) aj (fun _ _=>rfl)) ag)))) aW) (ak (bZ (aO jX (az bf (pvl 3 fZ) aj (fun _ _=>rfl)) (pvl 1 p7) (aI _)) (ak (cZ (mx PySem.F.plainAttrs_list PySem.F.slot_list_append PySem.F.type_list_append eW (pvl 2 iV) (ae (az bf (pvl 3 fZ) aj (fun _ _=>rfl)) ag)))) aW)))) (ak (ay (pvl 2 iV))))),?_⟩;rw [show L2.start ["roads","place","ends","road"] [V.ref t,V.int n]=[some (V.ref t),some (V.int n),none,none] from rfl];walk_at "rd";refine ⟨by decide,fun l hn=>?_⟩;have hlen:ps.length=rs.length:=Paired.length hp;refine ⟨⟨_,Same.tup (Same.new _ hn) ht⟩,BU (xs:=ps.map V.ref) (fun i σ H2=>H2=upd H l (.lst ((cB (rs.take i) n).map V.int))/\∃ v,σ=[some (.ref t),some (.int n),some (.ref l),v]) ⟨rfl,_,rfl⟩ (fun i σ H2 _ z=>by rw [z.1];exact Same.tup (Same.new _ hn) ht) ?_ ?_⟩
   . rintro i x σ H2 hi ⟨rfl,v,rfl⟩;obtain ⟨p,r,rfl,h1,h2,h3⟩:=hp.get hi;have np:p≠l:=aX h3 hn;have hil:i<rs.length:=(List.getElem?_eq_some_iff.mp h2).1;have et:rs.take (i+1)=rs.take i++[r]:=(by rw [List.take_succ,h2];rfl);have hb:(cB (rs.take i) n).length<=2000:=Nat.le_trans (Kq _ _) (by rw [List.length_take];omega);have hx:∀ o,upd H l o p=some (.tup (o6 r)):=fun o=>by rw [ao np];exact h3
     walk_at "rd";refine ixT (hx _) rfl ?_;walk_at "rd";have fin:∀ (ys:List Int),(cB (rs.take i) n++ys)=cB (rs.take (i+1)) n->upd H l (.lst ((cB (rs.take i) n).map V.int++ys.map V.int))=upd H l (.lst ((cB (rs.take (i+1)) n).map V.int)):=fun ys e=>by
       rw [<- List.map_append,e]
     have e1:vE n r=(if r.a=n then [r.b] else [])++(if r.b=n then [r.a] else []):=rfl;by_cases ca:r.a=n
     . rw [if_pos ca];refine ⟨tyL ah,ixT (hx _) rfl (sH ah (bK (by rw [List.length_map];omega)) ?_)⟩;rw [md];refine ixT (hx _) rfl ?_;walk_at "rd";by_cases cb:r.b=n
       . rw [if_pos cb];refine ⟨tyL ah,ixT (hx _) rfl (sH ah (bK (by rw [List.length_append,List.length_map];simp;omega)) ?_)⟩;rw [md,List.append_assoc];exact ⟨fin [r.b,r.a] (by rw [et,vH,e1,if_pos ca,if_pos cb];rfl),_,rfl⟩
       . rw [if_neg cb];exact ⟨fin [r.b] (by rw [et,vH,e1,if_pos ca,if_neg cb];rfl),_,rfl⟩
     . rw [if_neg ca];refine ixT (hx _) rfl ?_;walk_at "rd";by_cases cb:r.b=n
       . rw [if_pos cb];refine ⟨tyL ah,ixT (hx _) rfl (sH ah (bK (by rw [List.length_map];omega)) ?_)⟩;rw [md];exact ⟨fin [r.a] (by rw [et,vH,e1,if_neg ca,if_pos cb];rfl),_,rfl⟩
       . rw [if_neg cb];have:=fin [] (by rw [et,vH,e1,if_neg ca,if_neg cb];rfl);rw [List.map_nil,List.append_nil] at this;exact ⟨this,_,rfl⟩
   . rintro σ H2 ⟨rfl,v,rfl⟩;rw [List.length_map,hlen,List.take_length];exact ⟨_,rfl,k l _ hn (Same.new _ hn) ah⟩
def mt (ks:List Int):List (Key × V):=ks.map fun k=>((Sum.inl k:Key),V.bl true)
theorem Gu (ks:List Int):(mt ks).length=ks.length:=by unfold mt;rw [List.length_map]
theorem Jb (ks:List Int) (e:Int):eo (mt ks) (Sum.inl e:Key)=if e∈ks then some (V.bl true) else none:=by
 unfold mt
 induction ks with
 | nil=>rfl
 | cons k ks ih =>
   rw [List.map_cons];by_cases c:k=e
   . rw [gC (by rw [c]),if_pos (by rw [c];exact List.mem_cons_self)]
   . rw [gF (fun z=>c (Sum.inl.inj z)),ih];by_cases d:e∈ks
     . rw [if_pos d,if_pos (List.mem_cons_of_mem _ d)]
     . rw [if_neg d,if_neg (fun z=>by rcases List.mem_cons.mp z with z|z;exact c z.symm;exact d z)]
theorem Rv {ks:List Int} {e:Int} (h:e ∉ ks):fD (mt ks) (Sum.inl e:Key) (V.bl true)=mt (ks++[e]):=by
 rw [RM _ (by rw [Jb,if_neg h])];unfold mt;rw [List.map_append]
 rfl
def vS (T:Txt K mg):Sp:=fun vs H Q _=>∃ (m:Int) (t:Addr) (ps:List Addr) (rs:List Road),vs=[.int m,.ref t]/\SqT K H t (ps.map V.ref)/\RoadsAt H ps rs/\Good m rs/\∀ H',Same H H'->Q .non H'
abbrev ba:Stmt:=top 24
theorem iJ:FnScope ["many","roads","reached","waiting","place","end"] ["many","roads"] (aa ba):=FnScope.of (by kernel_rfl)
theorem yR:NmL (aa ba) "many":=.of (by kernel_rfl)
theorem xp:NmL (aa ba) "roads":=.of (by kernel_rfl)
theorem fe:NmL (aa ba) "reached":=.of (by kernel_rfl)
theorem fh:NmL (aa ba) "waiting":=.of (by kernel_rfl)
theorem oQ:NmL (aa ba) "place":=.of (by kernel_rfl)
theorem ip:NmL (aa ba) "end":=.of (by kernel_rfl)
theorem kC:NmG (aa ba) "other_ends":=.of (by kernel_rfl)
theorem kU:NmG (aa ba) "len":=.of (by kernel_rfl)
theorem MA:NmG (aa ba) "BadWeb":=.of (by kernel_rfl)
theorem Ew (T:Txt K mg) (hq:aK (CXe P w)) {f:Addr} {fd:FuncData} (D:Df K mg "check_joined" ba ["many","roads"] f fd) {dP:Addr} {ki:FuncData} (dk:Df K mg "other_ends" cJ ["roads","place"] dP ki) (G_other_ends:FnOk P w K mg base (CXe P w) 1 dP ki ["roads","place"] (sJ T)):FnOk P w K mg base (CXe P w) 2 f fd ["many","roads"] (vS T):=by
 refine D.F.okC iJ (fun vs H Q E h=>?_) (fun cdv A outer s H vs Q E hr h=>?_)
 . obtain ⟨m,t,ps,rs,rfl,_⟩:=h
   rfl
 . obtain ⟨m,t,ps,rs,rfl,ht,hp,g,k⟩:=h;have hu:=EZ hr;refine ⟨_,(ai (ap (i:=2) iJ.nd rfl (Or.inl fe.l) (VW (TZ aj ik Wh) rfl rfl (List.cons_ne_nil _ _) (by decide))) (ai (ap (i:=3) iJ.nd rfl (Or.inl fh.l) (cP (ae aj ag))) (ai (oh PassesOwn.never (nJ (pvl 3 fh) (fun _=>rfl)) (ai (ap (i:=4) iJ.nd rfl (Or.inl oQ.l) (Kg PySem.F.plainAttrs_list PySem.F.slot_list_pop PySem.F.type_list_pop Ll (pvl 3 fh))) (ak (eM PassesOwn.never rfl (kN (am G_other_ends (hr.mono (by decide)) kC.g dk.m dk.F.kp dk.b .nil (aq hq) (ae (pvl 1 xp) (ae (pvl 4 oQ) ag)) (hdb:=kC.d))) (au (i:=5) iJ.nd rfl (Or.inl ip.l)) (ak (bZ (QQ (Q0 hu (pvl 5 ip) (pvl 2 fe))) (ai (Gg hu (pvl 2 fe) (pvl 5 ip) ik rfl) (ak (cZ (mx PySem.F.plainAttrs_list PySem.F.slot_list_append PySem.F.type_list_append eW (pvl 3 fh) (ae (pvl 5 ip) ag))))) aW)))))) (ak (bZ (aO mh (aN Rf kU.g T.len fU (ae (pvl 2 fe) ag) (hn:=kU.n) (hdb:=kU.d)) (pvl 0 yR) (aI _)) (ak qP) aW))))),?_⟩;rw [show L2.start ["many","roads","reached","waiting","place","end"] [V.int m,V.ref t]=[some (V.int m),some (V.ref t),none,none,none,none] from rfl];have m1:=g.m1;have m24:=g.m24;have glen:=g.len;walk_at "rd";intro d hd;refine ⟨ah,[(Sum.inl 0,.bl true)],rfl,by decide,?_⟩;rw [md];refine ⟨by decide,fun w0 hw=>?_⟩;have ed:ya [] [((Sum.inl 0:Key),V.bl true)]=mt [0]:=rfl;rw [ed];have ndw:w0≠d:=fun z=>by rw [z,ah] at hw;cases hw
   have hw0:H w0=none:=by rw [ao ndw] at hw;exact hw
   refine Gk (fun n σ H2=>∃ (ks ws:List Int) (v4 v5:Option V),n=2*(m.toNat - ks.length)+ws.length/\σ=[some (.int m),some (.ref t),some (.ref d),some (.ref w0),v4,v5]/\Same H H2/\H2 d=some (.dK (mt ks))/\H2 w0=some (.lst (ws.map V.int))/\JInv m rs ks ws) _ ⟨[0],[0],none,none,rfl,rfl,?_,?_,ah,JInv.start m1⟩ ?_
   . exact Same.trans (Same.new _ hd) (Same.new _ hw)
   . rw [ao ndw.symm,ah]
   rintro n σ H2 NW hN hN2 ⟨ks,ws,v4,v5,rfl,rfl,sm,h1,h2,J⟩;have kl:=dv (by omega) J.nd J.rng;refine ⟨_,rfl,!(ws.map V.int).isEmpty,.inl ⟨_,SqL.of h2,rfl⟩,?_⟩;rcases List.eq_nil_or_concat ws with rfl|⟨ws',p,rfl⟩
   . -- nothing waits: all places have been reached
     have full:=J.all m1 g.jn;refine Yn ?_;walk_at "rd";refine ⟨mt ks,h1,?_⟩;rw [Gu,if_neg (by omega)];exact k _ sm
   . rw [List.concat_eq_append] at J h2 hN hN2 ⊢;have e1:(!(List.map V.int (ws'++[p])).isEmpty)=true:=(by simp);rw [e1];refine X6 ⟨NW,hN2,?_⟩;walk_at "rd";rw [List.map_append,List.map_cons,List.map_nil] at h2;refine ⟨tyL h2,UB h2 ?_⟩;have ndw':d≠w0:=ndw.symm;have sm2:Same H (upd H2 w0 (.lst (ws'.map V.int))):=fun b o e=>by rw [ao (aX e hw0)];exact sm b o e
     refine ⟨t,ps,rs,p,rfl,Same.tup sm2 ht,RoadsAt.same sm2 hp,by omega,fun l H3 hn s3 hl=>?_⟩;have nlw:w0≠l:=aX (o:=.lst (ws'.map V.int)) ah hn;have nld:d≠l:=aX (o:=.dK (mt ks)) (by rw [ao ndw'];exact h1) hn;have hl0:H l=none:=sm2.free hn;refine ⟨l,rfl,⟨_,SqL.of hl⟩,oC (K:=K) (xs:=(cB rs p).map V.int) (fun i σ H4=>∃ (v5:Option V),σ=[some (.int m),some (.ref t),some (.ref d),some (.ref w0),some (.int p),v5]/\Same H H4/\H4 l=some (.lst ((cB rs p).map V.int)) /\
       ∃ ks4 ws4:List Int,H4 d=some (.dK (mt ks4))/\H4 w0=some (.lst (ws4.map V.int))/\JMid m rs p ((cB rs p).take i) ks4 ws4 ks ws'.length) ?_ (fun i σ H4 _ z=>by obtain ⟨_,_,_,z,_⟩:=z;exact SqL.of z) ?_ ?_⟩
     . refine ⟨_,rfl,sm2.trans s3,hl,ks,ws',?_,?_,?_⟩
       . exact s3 _ _ (by rw [ao ndw'];exact h1)
       . exact s3 _ _ ah
       . rw [List.take_zero];exact JMid.start J
     . rintro i x σ H4 NI hI hi ⟨v5,rfl,s4,hl4,ks4,ws4,hd4,hw4,M⟩;rw [List.getElem?_map] at hi;obtain ⟨e,he,rfl⟩:∃ e,(cB rs p)[i]?=some e/\V.int e=x:=by
         cases q:(cB rs p)[i]? with
         | none=>rw [q] at hi;cases hi
         | some e=>rw [q] at hi;exact ⟨e,rfl,Option.some.inj hi⟩
       have er:=Ut g.ok (List.mem_of_getElem? he);have et:(cB rs p).take (i+1)=(cB rs p).take i++[e]:=(by rw [List.take_succ,he];rfl);have st:=M.step er.1 er.2;have k4:=dv (by omega) M.nd M.rng;have mu4:=M.mu;walk_at "rd";refine ⟨_,DGet.k (k:=Sum.inl e) hd4,?_⟩;rw [Jb];by_cases c:e∈ks4
       . rw [if_pos c];rw [if_neg (by simp)];refine hI _ _ ⟨_,rfl,s4,hl4,ks4,ws4,hd4,hw4,?_⟩;rw [et];unfold Et at st;rw [if_pos c] at st;exact st
       . rw [if_neg c];rw [if_pos (by simp)];refine ⟨_,DPut.k (k:=Sum.inl e) hd4 (bK (by rw [Gu];omega)),?_⟩;rw [Rv c];have hw5:upd H4 d (.dK (mt (ks4++[e]))) w0=some (.lst (ws4.map V.int)):=(by rw [ao ndw];exact hw4);refine ⟨tyL hw5,sH hw5 (bK (by rw [List.length_map];have:=M.wl;omega)) ?_⟩;have hmid:=M.mu;refine hI _ _ ⟨_,rfl,fun b o z=>?_,?_,ks4++[e],ws4++[e],?_,?_,?_⟩
         . rw [ao (aX z hw0),ao (aX z hd)];exact s4 b o z
         . rw [ao nlw.symm,ao nld.symm];exact hl4
         . rw [ao ndw',ah]
         . rw [ah,List.map_append];rfl
         . rw [et];unfold Et at st;rw [if_neg c] at st;exact st
     . rintro σ H4 ⟨v5,rfl,s4,hl4,ks4,ws4,hd4,hw4,M⟩;rw [List.length_map,List.take_length] at M;have k4:=dv (by omega) M.nd M.rng;have mu4:=M.mu;have up4:=M.up;refine hN _ _ _ ?_ ⟨ks4,ws4,some (.int p),v5,rfl,rfl,s4,hd4,hw4,M.done⟩;rw [List.length_append];simp only [List.length_cons,List.length_nil];omega
def yg (T:Txt K mg):Sp:=fun vs H Q _=>∃ (p:Addr) (r:Road),vs=[.ref p]/\H p=some (.tup (o6 r))/\2<=r.t/\r.t<=1000000/\2<=r.u/\r.u<=1000000/\∀ H',Same H H'->Q .non H'
abbrev ck:Stmt:=top 23
theorem xk:FnScope ["road","number"] ["road"] (aa ck):=FnScope.of (by kernel_rfl)
theorem p5:NmL (aa ck) "road":=.of (by kernel_rfl)
theorem oS:NmL (aa ck) "number":=.of (by kernel_rfl)
theorem kZ:NmG (aa ck) "LEAST_TOLL":=.of (by kernel_rfl)
theorem lK:NmG (aa ck) "MOST_TOLL":=.of (by kernel_rfl)
theorem ND:NmG (aa ck) "BadWeb":=.of (by kernel_rfl)
theorem Fn (T:Txt K mg) (hq:aK (CXe P w)) {f:Addr} {fd:FuncData} (D:Df K mg "check_tolls" ck ["road"] f fd):FnOk P w K mg base (CXe P w) 1 f fd ["road"] (yg T):=by
 refine D.F.okC xk (fun vs H Q E h=>?_) (fun cdv A outer s H vs Q E hr h=>?_)
 . obtain ⟨p,r,rfl,_⟩:=h
   rfl
 . obtain ⟨p,r,rfl,hp,t0,t1,u0,u1,k⟩:=h;refine ⟨_,(ak (eM PassesOwn.never rfl (yl (d6 (ae (az bf (pvl 0 p5) aj (fun _ _=>rfl)) (ae (az bf (pvl 0 p5) aj (fun _ _=>rfl)) ag)))) (au (i:=1) xk.nd rfl (Or.inl oS.l)) (ak (bZ (eP (JU EC EC (DZ kZ.g T.c_LEAST_TOLL (hd:=kZ.d)) (pvl 1 oS) (DZ lK.g T.c_MOST_TOLL (hd:=lK.d)))) (ak qP) aW)))),?_⟩;rw [show L2.start ["road","number"] [V.ref p]=[some (V.ref p),none] from rfl];walk_at "rd";refine ixT hp rfl (ixT hp rfl ⟨aL (by simp),fun q hn=>?_⟩);have e1:upd H q (.tup [.int r.t,.int r.u]) q=some (.tup [.int r.t,.int r.u]):=ah;refine ⟨⟨_,SqT.of e1⟩,BU (K:=K) (xs:=[.int r.t,.int r.u]) (fun i σ H2=>H2=upd H q (.tup [.int r.t,.int r.u])/\∃ v,σ=[some (.ref p),v]) ⟨rfl,_,rfl⟩ (fun i σ H2 _ z=>by rw [z.1];exact SqT.of e1) ?_ ?_⟩
   . rintro i x σ H2 hi ⟨rfl,v,rfl⟩;have hx:∃ n:Int,x=.int n/\2<=n/\n<=1000000:=by
       match i,hi with
       | 0,hi=>exact ⟨r.t,by simpa using hi.symm,t0,t1⟩
       | 1,hi=>exact ⟨r.u,by simpa using hi.symm,u0,u1⟩
     obtain ⟨n,rfl,n0,n1⟩:=hx;walk_at "rd";rw [if_pos n0,if_neg (by omega)];exact ⟨_,rfl⟩
   . rintro σ H2 ⟨rfl,v,rfl⟩;exact k _ (Same.new _ hn)
/-- the attributes of a web -/
def ET (m:Int) (t:Addr):List (Str × V):=kQ "roads" (.ref t) (kQ "many" (.int m) [])
theorem X0:¬ (("many":Str)="roads"):=by decide +kernel
theorem gO (m:Int) (t:Addr):(ET m t).lookup ("many":Str)=some (.int m):=by
 unfold ET;rw [mU,if_neg X0,mU,if_pos rfl]
theorem CL (m:Int) (t:Addr):(ET m t).lookup ("roads":Str)=some (.ref t):=by
 unfold ET;rw [mU,if_pos rfl]
/-- a web of m places and the roads rs stands at p,its tuple at t,the roads' tuples at ps -/
structure WebAt (C:Addr) (H:Hp) (p:Addr) (m:Int) (t:Addr) (ps:List Addr) (rs:List Road):Prop where
 ob:∃ dx,H p=some (.ins C dx (ET m t))
 tu:H t=some (.tup (ps.map V.ref))
 ro:RoadsAt H ps rs
 go:Good m rs
theorem WebAt.same {C:Addr} {H H':Hp} {p:Addr} {m:Int} {t:Addr} {ps:List Addr} {rs:List Road} (e:Same H H') (h:WebAt C H p m t ps rs):WebAt C H' p m t ps rs :=
 ⟨let ⟨dx,q⟩:=h.ob;⟨dx,e _ _ q⟩,e _ _ h.tu,RoadsAt.same e h.ro,h.go⟩
def pi (T:Txt K mg):Sp:=fun vs H Q _=>∃ (p dx:Addr) (m:Int) (c:Bool) (a:Addr) (ps:List Addr) (rs:List Road),vs=[.ref p,.int m,.ref a]/\H p=some (.ins T.Web dx [])/\SqX K c H a (ps.map V.ref)/\RoadsAt H ps rs/\Good m rs /\
 ∀ t H',H t=none->WebAt T.Web H' p m t ps rs->(∀ b o,H b=some o->b≠p->H' b=some o)->Q .non H'
abbrev bc:Stmt:=Vu (top 16) 0
theorem pU:FnScope ["self","many","roads","kept","road"] ["self","many","roads"] (aa bc):=FnScope.of (by kernel_rfl)
theorem pI:NmL (aa bc) "self":=.of (by kernel_rfl)
theorem gS:NmL (aa bc) "many":=.of (by kernel_rfl)
theorem xA:NmL (aa bc) "roads":=.of (by kernel_rfl)
theorem eK:NmL (aa bc) "kept":=.of (by kernel_rfl)
theorem jY:NmL (aa bc) "road":=.of (by kernel_rfl)
theorem jI:NmG (aa bc) "tuple":=.of (by kernel_rfl)
theorem jv:NmG (aa bc) "check_counts":=.of (by kernel_rfl)
theorem ko:NmG (aa bc) "check_ends":=.of (by kernel_rfl)
theorem jT:NmG (aa bc) "check_tolls":=.of (by kernel_rfl)
theorem jA:NmG (aa bc) "check_joined":=.of (by kernel_rfl)
theorem EJ (T:Txt K mg) (hq:aK (CXe P w)) {f:Addr} {fd:FuncData} (F:Fun K "__init__" "Web.__init__" bc f fd) {fC:Addr} {vU:FuncData} (gY:Df K mg "check_counts" bP ["many","roads"] fC vU) (G_check_counts:FnOk P w K mg base (CXe P w) 1 fC vU ["many","roads"] (vF T)) {ic:Addr} {zQ:FuncData} (jL:Df K mg "check_ends" cW ["many","road"] ic zQ) (G_check_ends:FnOk P w K mg base (CXe P w) 2 ic zQ ["many","road"] (zV T)) {fE:Addr} {vO:FuncData} (g9:Df K mg "check_joined" ba ["many","roads"] fE vO) (G_check_joined:FnOk P w K mg base (CXe P w) 2 fE vO ["many","roads"] (vS T)) {gH:Addr} {xD:FuncData} (iz:Df K mg "check_tolls" ck ["road"] gH xD) (G_check_tolls:FnOk P w K mg base (CXe P w) 1 gH xD ["road"] (yg T)):FnOk P w K mg base (CXe P w) 3 f fd ["self","many","roads"] (pi T):=by
 refine F.okC pU (fun vs H Q E h=>?_) (fun cdv A outer s H vs Q E hr h=>?_)
 . obtain ⟨p,dx,m,c,a,ps,rs,rfl,_⟩:=h
   rfl
 . obtain ⟨p,dx,m,c,a,ps,rs,rfl,hp,ha,hro,g,k⟩:=h;refine ⟨_,(ai (ap (i:=3) pU.nd rfl (Or.inl eK.l) (oN sW jI.g T.tuple uJ (ae (dF rfl (nZ (Nc:=["road"]) 1 (by decide +kernel) (by decide +kernel) rfl (by decide +kernel) rfl) (uA c (pvl 2 xA)) (fun _ _ _ _=>(au (i:=0) (show (["road"]:List Str).Nodup from by decide +kernel) rfl (Or.inl rfl))) (fun _ _ _ _=>eU) (fun _ _ _ _=>(oN (Fu K rfl) (by rfl) T.tuple uJ (ae (pv 0) ag)))) ag) (hn:=jI.n) (hdb:=jI.d))) (ai (cZ (am G_check_counts (hr.mono (by decide)) jv.g gY.m gY.F.kp gY.b .nil (aq hq) (ae (pvl 1 gS) (ae (pvl 3 eK) ag)) (hdb:=jv.d))) (ai (eM PassesOwn.never rfl (yl (pvl 3 eK)) (au (i:=4) pU.nd rfl (Or.inl jY.l)) (ai (cZ (am G_check_ends (hr.mono (by decide)) ko.g jL.m jL.F.kp jL.b .nil (aq hq) (ae (pvl 1 gS) (ae (pvl 4 jY) ag)) (hdb:=ko.d))) (ak (cZ (am G_check_tolls (hr.mono (by decide)) jT.g iz.m iz.F.kp iz.b .nil (aq hq) (ae (pvl 4 jY) ag) (hdb:=jT.d)))))) (ai (cZ (am G_check_joined (hr.mono (by decide)) jA.g g9.m g9.F.kp g9.b .nil (aq hq) (ae (pvl 1 gS) (ae (pvl 3 eK) ag)) (hdb:=jA.d))) (ai (Ri (pvl 0 pI) (pvl 1 gS) rfl) (ak (Ri (pvl 0 pI) (pvl 3 eK) rfl))))))),?_⟩;rw [show L2.start ["self","many","roads","kept","road"] [V.ref p,V.int m,V.ref a]=[some (V.ref p),some (V.int m),some (V.ref a),none,none] from rfl];walk_at "rd";refine ⟨⟨_,ha⟩,fun l hl=>?_⟩;have hlen:ps.length=rs.length:=Paired.length hro;have glen:=g.len;have m24:=g.m24;have hl1:Same H (upd H l (.lst [])):=Same.new _ hl;refine iX (K:=K) (xs:=ps.map V.ref) (fun i ys σ H2=>H2=upd H l (.lst ((ps.take i).map V.ref))/\ys=(ps.take i).map V.ref/\∃ v,σ=[v]) ⟨rfl,rfl,_,rfl⟩ (fun i ys σ H2 _ ⟨z,_⟩=>by rw [z];exact Same.sqX (Same.new _ hl) ha) ?_ ?_
   . rintro i x ys σ H2 N hN hi ⟨rfl,rfl,v,rfl⟩;obtain ⟨q,r,rfl,h1,h2,h3⟩:=hro.get hi;have nq:q≠l:=aX h3 hl;have hil:i<ps.length:=(List.getElem?_eq_some_iff.mp h1).1;have et:ps.take (i+1)=ps.take i++[q]:=(by rw [List.take_succ,h1];rfl);walk_at "rd";refine ⟨o6 r,.inr ⟨SqT.of (by rw [ao nq];exact h3),ah,bK (by rw [List.length_map,List.length_take];omega),hN _ _ _ ⟨?_,?_,_,rfl⟩⟩⟩
     . rw [md,et,List.map_append];rfl
     . rw [et,List.map_append];rfl
   . rintro ys σ H2 ⟨rfl,rfl,v,rfl⟩;rw [List.length_map,List.take_length];refine ⟨l,rfl,ps.map V.ref,.inl ⟨SqL.of ah,fun t ht=>?_⟩⟩;have s1:Same H (upd H l (.lst (ps.map V.ref))):=Same.new _ hl;have s2:Same (upd H l (.lst (ps.map V.ref))) (upd (upd H l (.lst (ps.map V.ref))) t (.tup (ps.map V.ref))):=Same.new _ ht;have ht0:H t=none:=s1.free ht;have ht1:∀ {H':Hp},Same (upd (upd H l (.lst (ps.map V.ref))) t (.tup (ps.map V.ref))) H'->H' t=some (.tup (ps.map V.ref)):=fun e=>e _ _ ah;refine ⟨m,t,ps.map V.ref,rfl,SqT.of ah,g.m1,g.m24,by rw [List.length_map];omega,⟨_,SqT.of ah⟩,?_⟩;refine Lp (K:=K) (xs:=ps.map V.ref) (fun i σ H3=>Same (upd (upd H l (.lst (ps.map V.ref))) t (.tup (ps.map V.ref))) H3/\∃ v,σ=[some (.ref p),some (.int m),some (.ref a),some (.ref t),v]) ⟨Same.refl _,_,rfl⟩ (fun i σ H3 _ ⟨z,_⟩=>SqT.of (ht1 z)) ?_ ?_
     . rintro i x σ H3 N hN hi ⟨s3,v,rfl⟩;have s03:=s1.trans (s2.trans s3);obtain ⟨q,r,rfl,h1,h2,h3⟩:=hro.get hi;have ok:=g.ok r (List.mem_of_getElem? h2);walk_at "rd";refine ⟨m,q,r,rfl,s03 _ _ h3,ok.a0,ok.a1,ok.b0,ok.b1,ok.ne,?_⟩;exact ⟨q,r,rfl,s03 _ _ h3,ok.t0,ok.t1,ok.u0,ok.u1,fun H4 s4=>hN _ _ ⟨s3.trans s4,_,rfl⟩⟩
     . rintro σ H3 ⟨s3,v,rfl⟩;have s03:=s1.trans (s2.trans s3);walk_at "rd";refine ⟨m,t,ps,rs,rfl,SqT.of (ht1 s3),RoadsAt.same s03 hro,g,fun H4 s4=>?_⟩;have s04:=s03.trans s4;have ntp:t≠p:=fun z=>by rw [z,hp] at ht0;cases ht0
       refine ⟨T.Web,dx,[],s04 _ _ hp,T.iR,T.n_many,by decide,?_⟩;refine ⟨T.Web,dx,_,ah,T.iR,T.n_roads,by show 1<1000;decide,?_⟩;rw [md];refine k t _ ht0 ⟨⟨dx,ah⟩,?_,?_,g⟩ fun b o hb nb=>?_
       . rw [ao ntp];exact ht1 (s3.trans s4)
       . refine Paired.imp' (fun q r hq=>?_) hro;rw [ao (im hq hp (by intro z;cases z))];exact s04 _ _ hq
       . rw [ao nb];exact s04 _ _ hb
/-- Web(m,roads),at a call: nothing is changed,a new web stands -/
theorem WH (T:Txt K mg) {H:Hp} {m:Int} {c:Bool} {a:Addr} {ps:List Addr} {rs:List Road} {Q:Addr->Hp->Prop} (ha:SqX K c H a (ps.map V.ref)) (ro:RoadsAt H ps rs) (g:Good m rs)
   (k:∀ x t H',H x=none->H t=none->Same H H'->WebAt T.Web H' x m t ps rs->Q x H') :
   ∀ x dx,H x=none->H dx=none->dx≠x->pi T [.ref x,.int m,.ref a] (upd (upd H dx (.own x)) x (.ins T.Web dx [])) (fun v H2=>v=.non/\Q x H2) E0:=by
 intro x dx hx hdx ne;have hx1:upd H dx (.own x) x=none:=by rw [ao ne.symm];exact hx
 have s0:Same H (upd (upd H dx (.own x)) x (.ins T.Web dx [])):=(Same.new _ hdx).trans (Same.new _ hx1);exact ⟨x,dx,m,c,a,ps,rs,rfl,ah,Same.sqX s0 ha,RoadsAt.same s0 ro,g,fun t H' ht W kp=>⟨rfl,k x t H' hx (s0.free ht) (fun b o e=>kp b o (s0 b o e) (aX e hx)) W⟩⟩
/-- the dict of the tolls of the first roads -/
def VX (H:Hp) (d:Addr) (rs:List Road) (n:Nat):Prop:=∃ kvs,H d=some (.dT kvs)/\(kvs.length<=2*n/\∀ p∈kvs,∃ a b:Int,p.1=[.inl a,.inl b])/\∀ a b:Int,(∀ i x,i<n->rs[i]?=some x->rC x a b->eo kvs [.inl a,.inl b]=(eR a b x).map V.int)/\((∀ i x,i<n->rs[i]?=some x->¬ rC x a b)->eo kvs [.inl a,.inl b]=none)
/-- the dict of the tolls of a web -/
structure TollsAt (H:Hp) (d:Addr) (rs:List Road):Prop where
 ex:∃ kvs,H d=some (.dT kvs)/\∀ a b:Int,eo kvs [.inl a,.inl b]=(bG rs a b).map V.int
 ks:∃ kvs,H d=some (.dT kvs)/\kvs.length<=2*rs.length/\∀ p∈kvs,∃ a b:Int,p.1=[.inl a,.inl b]
theorem TollsAt.same {H H':Hp} {d:Addr} {rs:List Road} (e:Same H H') (h:TollsAt H d rs):TollsAt H' d rs:=by
 obtain ⟨kvs,h1,h2⟩:=h.ex;obtain ⟨kws,h3,h4⟩:=h.ks;exact ⟨⟨kvs,e _ _ h1,h2⟩,⟨kws,e _ _ h3,h4⟩⟩
def Af (T:Txt K mg):Sp:=fun vs H Q _=>∃ (l:Addr) (ps:List Addr) (m:Int) (rs:List Road),vs=[.ref l]/\H l=some (.lst (ps.map V.ref))/\RoadsAt H ps rs/\Good m rs/\∀ d H',H d=none->Same H H'->TollsAt H' d rs->Q (.ref d) H'
abbrev cM:Stmt:=top 56
theorem jJ:FnScope ["roads","tolls","one","other","there","back"] ["roads"] (aa cM):=FnScope.of (by kernel_rfl)
theorem Ap:NmL (aa cM) "roads":=.of (by kernel_rfl)
theorem iH:NmL (aa cM) "tolls":=.of (by kernel_rfl)
theorem nU:NmL (aa cM) "one":=.of (by kernel_rfl)
theorem l5:NmL (aa cM) "other":=.of (by kernel_rfl)
theorem rG:NmL (aa cM) "there":=.of (by kernel_rfl)
theorem tG:NmL (aa cM) "back":=.of (by kernel_rfl)
theorem KU (T:Txt K mg) (hq:aK (CXe P w)) {f:Addr} {fd:FuncData} (D:Df K mg "_law_tolls" cM ["roads"] f fd):FnOk P w K mg base (CXe P w) 1 f fd ["roads"] (Af T):=by
 refine D.F.okC jJ (fun vs H Q E h=>?_) (fun cdv A outer s H vs Q E hr h=>?_)
 . obtain ⟨l,ps,m,rs,rfl,_⟩:=h
   rfl
 . obtain ⟨l,ps,m,rs,rfl,hl,ro,g,k⟩:=h;have hu:=EZ hr;refine ⟨_,(ai (ap (i:=1) jJ.nd rfl (Or.inl iH.l) UQ) (ai (eM PassesOwn.never rfl (kN (pvl 0 Ap)) (lM (n:=4) rfl (be (au (i:=2) jJ.nd rfl (Or.inl nU.l)) (be (au (i:=3) jJ.nd rfl (Or.inl l5.l)) (be (au (i:=4) jJ.nd rfl (Or.inl rG.l)) (be (au (i:=5) jJ.nd rfl (Or.inl tG.l)) ju))))) (ai (Gg hu (pvl 1 iH) (d6 (ae (pvl 2 nU) (ae (pvl 3 l5) ag))) (pvl 4 rG) rfl) (ak (Gg hu (pvl 1 iH) (d6 (ae (pvl 3 l5) (ae (pvl 2 nU) ag))) (pvl 5 tG) rfl)))) (ak (ay (pvl 1 iH))))),?_⟩;rw [show L2.start ["roads","tolls","one","other","there","back"] [V.ref l]=[some (V.ref l),none,none,none,none,none] from rfl];walk_at "rd";intro d hd;have s0:=Same.new (.dT []) hd;have hlen:ps.length=rs.length:=Paired.length ro;have glen:=g.len;have m24:=g.m24;refine ⟨⟨_,SqL.of (s0 _ _ hl)⟩,?_⟩;refine oC (K:=K) (xs:=ps.map V.ref) (fun i σ H2=>Same H H2/\VX H2 d rs i/\∃ v1 v2 v3 v4,σ=[some (V.ref l),some (V.ref d),v1,v2,v3,v4]) ⟨s0,⟨[],ah,⟨by simp,fun p hp=>nomatch hp⟩,fun a b=>⟨fun i x hi=>absurd hi (Nat.not_lt_zero _),fun _=>rfl⟩⟩,_,_,_,_,rfl⟩ (fun i σ H2 _ z=>SqL.of (z.1 _ _ hl)) ?_ ?_
   . rintro i x σ H2 N hN hx ⟨s2,⟨kvs,hk,⟨hkl,hks⟩,hkv⟩,v1,v2,v3,v4,rfl⟩;obtain ⟨q,r,rfl,h1,h2,h3⟩:=ro.get hx;have hil:i<rs.length:=(List.getElem?_eq_some_iff.mp h2).1;have ok:=g.ok r (List.mem_of_getElem? h2);walk_at "rd";refine ⟨_,SqT.of (s2 _ _ h3),rfl,_,_,rfl,_,_,rfl,_,_,rfl,_,_,rfl,rfl,?_⟩;refine ⟨aL (by simp),fun p1 n1=>⟨_,DPut.t (k:=[.inl r.a,.inl r.b]) (Same.new (.tup [V.int r.a,V.int r.b]) n1 _ _ hk) ah (bK (by omega)),aL (by simp),fun p2 n2=>?_⟩⟩;have l1:=ni kvs [Sum.inl r.a,Sum.inl r.b] (V.int r.t);have np2:d≠p2:=fun z=>by rw [<- z,ah] at n2;cases n2
     refine ⟨_,DPut.t (k:=[.inl r.b,.inl r.a]) (by rw [ao np2];exact ah) ah (bK (by omega)),hN _ _ ⟨?_,⟨_,ah,?_,?_⟩,_,_,_,_,rfl⟩⟩
     . intro b o hb;have nd:b≠d:=aX hb hd;have b2:=s2 _ _ hb;have nb1:b≠p1:=aX b2 n1;have b3:upd (upd H2 p1 (.tup [V.int r.a,V.int r.b])) d (.dT (fD kvs [Sum.inl r.a,Sum.inl r.b] (V.int r.t))) b=some o:=(by rw [ao nd,ao nb1];exact b2);rw [ao nd,ao (aX b3 n2)];exact b3
     . have l2:=ni (fD kvs [Sum.inl r.a,Sum.inl r.b] (V.int r.t)) [Sum.inl r.b,Sum.inl r.a] (V.int r.u);refine ⟨by omega,fun p hp=>?_⟩;rcases Lo hp with e|⟨q,hq,e⟩
       . exact ⟨_,_,e⟩
       rcases Lo hq with e'|⟨q',hq',e'⟩
       . exact ⟨_,_,e.trans e'⟩
       . obtain ⟨a',b',e2⟩:=hks q' hq';exact ⟨a',b',e.trans (e'.trans e2)⟩
     . intro a' b';have v2:eo (fD (fD kvs [Sum.inl r.a,Sum.inl r.b] (V.int r.t)) [Sum.inl r.b,Sum.inl r.a] (V.int r.u)) [Sum.inl a',Sum.inl b']=if a'=r.b/\b'=r.a then some (V.int r.u) else if a'=r.a/\b'=r.b then some (V.int r.t) else eo kvs [Sum.inl a',Sum.inl b']:=by
         rw [Lr,Lr];simp
       rw [v2];have away:¬ rC r a' b'->(if a'=r.b/\b'=r.a then some (V.int r.u) else if a'=r.a/\b'=r.b then some (V.int r.t) else eo kvs [Sum.inl a',Sum.inl b'])=eo kvs [Sum.inl a',Sum.inl b']:=fun z=>by
         rw [if_neg (fun w=>z (.inr ⟨w.1.symm,w.2.symm⟩)),if_neg (fun w=>z (.inl ⟨w.1.symm,w.2.symm⟩))]
       constructor
       . intro j x hj hy jx;by_cases e:j=i
         . subst e;rw [h2] at hy;cases hy;rcases jx with ⟨w1,w2⟩|⟨w1,w2⟩
           . subst w1 w2;rw [if_neg (fun z=>ok.ne z.1),if_pos ⟨rfl,rfl⟩,Tj ok.ne]
             rfl
           . subst w1 w2;rw [if_pos ⟨rfl,rfl⟩,R9 ok.ne]
             rfl
         . rw [away fun w=>e (GW g hy h2 jx w)];exact (hkv a' b').1 j x (by omega) hy jx
       . intro z;rw [away (z i r (by omega) h2)];exact (hkv a' b').2 fun j x hj hx=>z j x (by omega) hx
   . rintro σ H2 ⟨s2,⟨kvs,hk,⟨hkl,hks⟩,hkv⟩,v1,v2,v3,v4,rfl⟩;rw [List.length_map,hlen] at hkv;walk_at "rd";refine k d H2 hd s2 ⟨⟨kvs,hk,fun a b=>?_⟩,⟨kvs,hk,by rw [List.length_map,hlen] at hkl;exact hkl,hks⟩⟩;by_cases z:∃ (i:Nat) (x:Road),rs[i]?=some x/\rC x a b
     . obtain ⟨i,x,hi,j⟩:=z;rw [(hkv a b).1 i x (List.getElem?_eq_some_iff.mp hi).1 hi j,oI g hi j]
     . rw [(hkv a b).2 fun i x _ hi j=>z ⟨i,x,hi,j⟩,Rn]
       . rfl
       . rintro ⟨x,hx,j⟩;obtain ⟨i,hi⟩:=List.getElem?_of_mem hx;exact z ⟨i,x,hi,j⟩
theorem S8 (n:Nat) (v:V):(List.replicate n [v]).flatten=List.replicate n v:=by
 induction n with
 | zero=>rfl
 | succ n ih=>rw [List.replicate_succ,List.flatten_cons,ih,List.replicate_succ];rfl
def ve (T:Txt K mg):Sp:=fun vs H Q _=>∃ (a:Addr) (ns:List Int) (m:Int),vs=[.ref a,.int m]/\SqL K H a (ns.map V.int)/\ns.length<=100/\1<=m/\m<=100 /\
 ∀ (l:Addr) (cs:List Int) (H':Hp),H l=none->Same H H'->H' l=some (.lst (cs.map V.int))->(cs.length:Int)=m->Q (.ref l) H'
abbrev ce:Stmt:=top 51
theorem pW:FnScope ["script","many","cells","k","at"] ["script","many"] (aa ce):=FnScope.of (by kernel_rfl)
theorem p9:NmL (aa ce) "script":=.of (by kernel_rfl)
theorem tD:NmL (aa ce) "many":=.of (by kernel_rfl)
theorem iL:NmL (aa ce) "cells":=.of (by kernel_rfl)
theorem qH:NmL (aa ce) "k":=.of (by kernel_rfl)
theorem pT:NmL (aa ce) "at":=.of (by kernel_rfl)
theorem Ai:NmG (aa ce) "range":=.of (by kernel_rfl)
theorem om:NmG (aa ce) "len":=.of (by kernel_rfl)
theorem Kk (T:Txt K mg) (hq:aK (CXe P w)) {f:Addr} {fd:FuncData} (D:Df K mg "_law_cells" ce ["script","many"] f fd):FnOk P w K mg base (CXe P w) 1 f fd ["script","many"] (ve T):=by
 refine D.F.okC pW (fun vs H Q E h=>?_) (fun cdv A outer s H vs Q E hr h=>?_)
 . obtain ⟨a,ns,m,rfl,_⟩:=h
   rfl
 . obtain ⟨a,ns,m,rfl,ha,hl,m1,m2,k⟩:=h;refine ⟨_,(ai (ap (i:=2) pW.nd rfl (Or.inl iL.l) (aA xY (cP (ae aj ag)) (pvl 1 tD))) (ai (eM PassesOwn.never rfl (d5 Ai.g T.range (ae (aN bM om.g T.len fU (ae (pvl 0 p9) ag) (hn:=om.n) (hdb:=om.d)) ag)) (au (i:=3) pW.nd rfl (Or.inl qH.l)) (ai (ap (i:=4) pW.nd rfl (Or.inl pT.l) (aA jE (pvl 3 qH) (pvl 1 tD))) (ak (mZ (aA jE (aA lu (aA xx (az bz (pvl 2 iL) (pvl 4 pT) (fun _ _=>rfl)) aj) (az bz (pvl 0 p9) (pvl 3 qH) (fun _ _=>rfl))) (aA yn aj aj)) (xz (pvl 2 iL) (pvl 4 pT) qQ))))) (ak (ay (pvl 2 iL))))),?_⟩;rw [show L2.start ["script","many","cells","k","at"] [V.ref a,V.int m]=[some (V.ref a),some (V.int m),none,none,none] from rfl];walk_at "rd";refine ⟨by decide,fun q hn=>⟨q,m,[.int 0],rfl,rfl,ah,by omega,by omega,aL (by simp;omega),fun l hl0=>?_⟩⟩;rw [S8];have s1:Same H (upd H q (.lst [.int 0])):=Same.new _ hn;have nlq:l≠q:=fun z=>by rw [z,ah] at hl0;cases hl0
   have hln:H l=none:=by rw [ao nlq] at hl0;exact hl0
   have sa:∀ o,SqL K (upd (upd H q (.lst [.int 0])) l o) a (ns.map V.int):=fun o=>Same.seq (s1.trans (Same.new _ hl0)) ha;refine ⟨_,.inl (sa _),by rw [List.length_map];omega,by rw [List.length_map];omega,?_⟩;rw [List.length_map,Int.toNat_natCast];refine zA (fun i σ H2=>∃ (cs:List Int) (v3 v4:Option V),H2=upd (upd H q (.lst [.int 0])) l (.lst (cs.map V.int))/\(cs.length:Int)=m/\σ=[some (.ref a),some (.int m),some (.ref l),v3,v4]) ⟨List.replicate m.toNat 0,none,none,by rw [List.map_replicate],by rw [List.length_replicate];omega,rfl⟩ ?_ ?_
   . rintro i σ H2 N hN hi ⟨cs,v3,v4,rfl,hcs,rfl⟩;walk_at "rd";rw [Int.zero_add];have h1:=Int.emod_nonneg (i:Int) (show m≠0 by omega);have h2:=Int.emod_lt_of_pos (i:Int) (show 0<m by omega);have hc:((i:Int) % m).toNat<cs.length:=(by omega);refine ⟨by omega,?_⟩;refine ixL ah (jR h1 (v:=.int cs[((i:Int) % m).toNat]) (by rw [List.getElem?_map,List.getElem?_eq_getElem hc];rfl)) ?_;refine ⟨_,rfl,.inr ⟨by decide,by decide⟩,?_⟩;refine ixS (sa _) (iC (v:=.int ns[i]) (by rw [List.getElem?_map,List.getElem?_eq_getElem hi];rfl)) ?_;refine ⟨_,rfl,⟨by decide,by decide,by decide⟩,p60,?_⟩;refine ⟨l,_,_,((i:Int) % m).toNat,rfl,rfl,ah,?_,?_⟩
     . unfold ixN;rw [if_pos h1,if_pos (by rw [List.length_map];omega)]
     . refine hN _ _ ⟨cs.set ((i:Int) % m).toNat ((cs[((i:Int) % m).toNat]*1000003+ns[i]) % 10^Int.toNat 60),_,_,?_,by rw [List.length_set];exact hcs,rfl⟩;rw [md,List.map_set]
   . rintro σ H2 ⟨cs,v3,v4,rfl,hcs,rfl⟩;refine ⟨_,rfl,k l cs _ hln (s1.trans (Same.new _ hl0)) ah hcs⟩
def mI (T:Txt K mg):Sp:=fun vs H Q _=>∃ (i j:Int),vs=[.int i,.int j]/\Q (.int (i.gcd j:Int)) H
abbrev bw:Stmt:=top 2
theorem jr:FnScope ["one","two","rest"] ["one","two"] (aa bw):=FnScope.of (by kernel_rfl)
theorem jK:NmL (aa bw) "one":=.of (by kernel_rfl)
theorem gA:NmL (aa bw) "two":=.of (by kernel_rfl)
theorem nh:NmL (aa bw) "rest":=.of (by kernel_rfl)
theorem jF:NmG (aa bw) "abs":=.of (by kernel_rfl)
theorem B5 (T:Txt K mg) (hq:aK (CXe P w)) {f:Addr} {fd:FuncData} (D:Df K mg "common_divisor" bw ["one","two"] f fd):FnOk P w K mg base (CXe P w) 1 f fd ["one","two"] (mI T):=by
 refine D.F.okC jr (fun vs H Q E h=>?_) (fun cdv A outer s H vs Q E hr h=>?_)
 . obtain ⟨i,j,rfl,_⟩:=h
   rfl
 . obtain ⟨i,j,rfl,k⟩:=h;refine ⟨_,(ai (oh PassesOwn.never (aO mh (pvl 1 gA) aj (aI _)) (ai (ap (i:=2) jr.nd rfl (Or.inl nh.l) (aA Vw (pvl 0 jK) (pvl 1 gA))) (ai (ap (i:=0) jr.nd rfl (Or.inl jK.l) (pvl 1 gA)) (ak (ap (i:=1) jr.nd rfl (Or.inl gA.l) (pvl 2 nh)))))) (ak (ay (aN Jc jF.g T.abs Qv (ae (pvl 0 jK) ag) (hn:=jF.n) (hdb:=jF.d))))),?_⟩;rw [show L2.start ["one","two","rest"] [V.int i,V.int j]=[some (V.int i),some (V.int j),none] from rfl];refine bg fun N1 h1=>?_;refine xU (fun n σ H'=>H'=H/\∃ (x y:Int) (v:Option V),n=y.natAbs/\x.gcd y=i.gcd j/\σ=[some (V.int x),some (V.int y),v]) j.natAbs ⟨rfl,i,j,_,rfl,rfl,rfl⟩ ?_;rintro n σ H' N BB hBB hN hN2 ⟨rfl,x,y,v,rfl,e,rfl⟩;refine hBB _ _ _ ?_;walk_at "rd";by_cases c:y=0
   . subst c;rw [if_neg (fun z=>z rfl)];refine h1 _ _ ?_;walk_at "rd";rw [Qn,show (x.natAbs:Int)=(i.gcd j:Int) by rw [<- e,Int.gcd_zero_right]];exact k
   . rw [if_pos c];refine ⟨N,fun σ' H2 w=>?_,c,hN (x.fmod y).natAbs _ _ (Qb c) ⟨rfl,y,x.fmod y,_,rfl,by rw [Xg];exact e,rfl⟩⟩;obtain ⟨m',lt,e1,x',y',v',e2,e3,e4⟩:=hN2 _ _ w;exact ⟨m',lt,e1,x',y',e2,e3,v',e4⟩
def rD (T:Txt K mg):Sp:=fun vs H Q _=>∃ (i j:Int),vs=[.int i,.int j]/\j≠0/\j.natAbs<2^4000/\∀ (p q:Int) (r:Addr),Frc i j p q->H r=none->Q (.ref r) (upd H r (.tup [.int p,.int q]))
abbrev dg:Stmt:=top 1
theorem wW:FnScope ["top","bottom","common"] ["top","bottom"] (aa dg):=FnScope.of (by kernel_rfl)
theorem vJ:NmL (aa dg) "top":=.of (by kernel_rfl)
theorem lJ:NmL (aa dg) "bottom":=.of (by kernel_rfl)
theorem fX:NmL (aa dg) "common":=.of (by kernel_rfl)
theorem ku:NmG (aa dg) "common_divisor":=.of (by kernel_rfl)
theorem LG (T:Txt K mg) (hq:aK (CXe P w)) {f:Addr} {fd:FuncData} (D:Df K mg "fraction" dg ["top","bottom"] f fd) {cA:Addr} {gL:FuncData} (bU:Df K mg "common_divisor" bw ["one","two"] cA gL) (G_common_divisor:FnOk P w K mg base (CXe P w) 1 cA gL ["one","two"] (mI T)):FnOk P w K mg base (CXe P w) 2 f fd ["top","bottom"] (rD T):=by
 refine D.F.okC wW (fun vs H Q E h=>?_) (fun cdv A outer s H vs Q E hr h=>?_)
 . obtain ⟨i,j,rfl,_⟩:=h
   rfl
 . obtain ⟨i,j,rfl,j0,jb,k⟩:=h;refine ⟨_,(ai (ap (i:=2) wW.nd rfl (Or.inl fX.l) (am G_common_divisor (hr.mono (by decide)) ku.g bU.m bU.F.kp bU.b .nil (aq hq) (ae (pvl 0 vJ) (ae (pvl 1 lJ) ag)) (hdb:=ku.d))) (ai (bZ (aO rz (pvl 1 lJ) aj (aI _)) (ak (ap (i:=2) wW.nd rfl (Or.inl fX.l) (Ph IJ (pvl 2 fX)))) aW) (ak (ay (d6 (ae (aA GG (pvl 0 vJ) (pvl 2 fX)) (ae (aA GG (pvl 1 lJ) (pvl 2 fX)) ag))))))),?_⟩;rw [show L2.start ["top","bottom","common"] [V.int i,V.int j]=[some (V.int i),some (V.int j),none] from rfl];have gp:=Int.gcd_pos_of_ne_zero_right i j0;have gl:=Int.gcd_le_natAbs_right i j0;refine bg fun N1 h1=>?_;walk_at "rd";refine ⟨i,j,rfl,h1 _ _ ?_⟩;have go:∀ c:Int,c.natAbs=i.gcd j->(0<c↔0<j)->KZ i c/\KZ j c/\Frc i j (i.fdiv c) (j.fdiv c):=fun c h1 h2=>by
     have c0:c≠0:=(by omega);have lb:c.natAbs.log2<9000:=Dy c0 (n:=4000) (by omega) (by decide);exact ⟨⟨c0,lb⟩,⟨c0,lb⟩,Xh j0 h1 h2⟩
   walk_at "rd";by_cases c:j<0
   . rw [if_pos c];obtain ⟨h1,h2,h3⟩:=go (-(i.gcd j:Int)) (by omega) (by omega);exact ⟨h1,h2,aL (by simp),fun p np=>k _ _ p h3 np⟩
   . rw [if_neg c];obtain ⟨h1,h2,h3⟩:=go (i.gcd j:Int) (by omega) (by omega);exact ⟨h1,h2,aL (by simp),fun p np=>k _ _ p h3 np⟩
def oB (T:Txt K mg):Sp:=fun vs H Q _=>∃ (a:Addr) (c:Bool) (qs:List Addr) (fs:List (Int × Int)) (n:Nat),vs=[.ref a]/\AtX c H a (qs.map V.ref)/\WQ K H qs fs/\(∀ f∈fs,FrB n f)/\fs.length*n<=3990/\n<=1000/\fs.length<=1000 /\
 ∀ (p q:Int) (r:Addr) (H':Hp),Frc (rf fs (0,1)).1 (rf fs (0,1)).2 p q->H r=none->Same H H'->H' r=some (.tup [.int p,.int q])->Q (.ref r) H'
abbrev cU:Stmt:=top 6
theorem vz:FnScope ["some","bottom","part"] ["some"] (aa cU):=FnScope.of (by kernel_rfl)
theorem xQ:NmL (aa cU) "some":=.of (by kernel_rfl)
theorem hW:NmC (aa cU) "bottom":=.of (by kernel_rfl)
theorem qG:NmL (aa cU) "part":=.of (by kernel_rfl)
theorem lp:NmG (aa cU) "common_divisor":=.of (by kernel_rfl)
theorem rH:NmG (aa cU) "fraction":=.of (by kernel_rfl)
theorem sA:NmG (aa cU) "sum":=.of (by kernel_rfl)
theorem Q8 (T:Txt K mg) (hq:aK (CXe P w)) {f:Addr} {fd:FuncData} (D:Df K mg "sum_up" cU ["some"] f fd) {cA:Addr} {gL:FuncData} (bU:Df K mg "common_divisor" bw ["one","two"] cA gL) (G_common_divisor:FnOk P w K mg base (CXe P w) 1 cA gL ["one","two"] (mI T)) {dD:Addr} {gW:FuncData} (cC:Df K mg "fraction" dg ["top","bottom"] dD gW) (G_fraction:FnOk P w K mg base (CXe P w) 2 dD gW ["top","bottom"] (rD T)):FnOk P w K mg base (CXe P w) 3 f fd ["some"] (oB T):=by
 refine D.F.okC vz (fun vs H Q E h=>?_) (fun cdv A outer s H vs Q E hr h=>?_)
 . obtain ⟨a,c,qs,fs,n,rfl,_⟩:=h
   rfl
 . obtain ⟨a,c,qs,fs,n,rfl,ha,hf,fb,fl,n1,f1,k⟩:=h;refine ⟨_,(ai (ap (i:=1) vz.nd rfl (Or.inr hW.l) aj) (ai (eM PassesOwn.never rfl (uA c (pvl 0 xQ)) (au (i:=2) vz.nd rfl (Or.inl qG.l)) (ak (ap (i:=1) vz.nd rfl (Or.inr hW.l) (aA eS (pvc 1 hW) (aA KB (az bf (pvl 2 qG) aj (fun _ _=>rfl)) (am G_common_divisor (hr.mono (by decide)) lp.g bU.m bU.F.kp bU.b .nil (aq hq) (ae (pvc 1 hW) (ae (az bf (pvl 2 qG) aj (fun _ _=>rfl)) ag)) (hdb:=lp.d))))))) (ak (ay (am G_fraction (hr.mono (by decide)) rH.g cC.m cC.F.kp cC.b .nil (aq hq) (ae (aN (Kd rfl) sA.g T.sum P9 (ae (dF rfl (gj (Nc:=["part","bottom"]) 1 [1] (by decide +kernel) rfl (by decide +kernel) rfl (by show ∀ (y:Str × NameKind),y∈_->y.2=NameKind.free->(aa cU).names.lookup y.1=some NameKind.cell;decide +kernel) rfl (fun _ h=>dI h) (fun i hi=>match i,hi with|0,_=>⟨"bottom",1,rfl,rfl,rfl,by decide +kernel⟩|i+1,hi=>absurd hi (by show ¬ i+1<1;omega))) (uA c (pvl 0 xQ)) (fun _ _ _ _=>(au (i:=0) (show (["part","bottom"]:List Str).Nodup from by decide +kernel) rfl (Or.inl rfl))) (fun _ _ _ _=>eU) (fun _ _ _ _=>(aA eS (az (qB K rfl) (pv 0) aj (fun _ _=>rfl)) (aA KB (pv 1) (az (qB K rfl) (pv 0) aj (fun _ _=>rfl)))))) ag) (hn:=sA.n) (hdb:=sA.d)) (ae (pvc 1 hW) ag)) (hdb:=rH.d)))))),?_⟩;rw [show L2.start ["some","bottom","part"] [V.ref a]=[some (V.ref a),none,none] from rfl];have sq:∀ {H2:Hp},Same H H2->SqX K c H2 a (qs.map V.ref):=fun {H2} s2=>AtX.sq (K:=K) (show AtX c H2 a (qs.map V.ref) from s2 _ _ ha);have ql:qs.length=fs.length:=Paired.length hf;refine bg fun N1 h1=>?_;walk_at "rd";refine h1 _ _ (bg fun N2 h2=>?_);walk_at "rd";refine ⟨⟨_,sq (Same.refl _)⟩,?_⟩;refine Sr (K:=K) (c:=c) (xs:=qs.map V.ref) (fun i σ H2=>H2=H/\∃ (B:Int) (v:Option V),0<B/\B.natAbs<=2^(i*n)/\(∀ f∈fs.take i,f.2 ∣ B)/\σ=[some (V.ref a),some (V.int B),v]) ⟨rfl,1,_,by decide,by simp,fun f hf=>by simp at hf,rfl⟩ (fun i σ H2 _ z=>by rw [z.1];exact sq (Same.refl _)) ?_ ?_
   . rintro i x σ H2 N hN hx ⟨rfl,B,v,B0,Bb,Bd,rfl⟩;rw [List.getElem?_map] at hx;obtain ⟨q,gq,rfl⟩:=Option.map_eq_some_iff.mp hx;obtain ⟨f,gf,eq⟩:=jD hf gq;have fm:=List.mem_of_getElem? gf;obtain ⟨f0,fb1,fb2⟩:=fb f fm;have il:=(List.getElem?_eq_some_iff.mp gf).1;have gp:=Int.gcd_pos_of_ne_zero_right B (show f.2≠0 by omega);have gl:=Int.gcd_le_natAbs_right B (show f.2≠0 by omega);obtain ⟨l0,l1⟩:=T8 B0 f0;have gd:(0:Int)<=f.2 / (B.gcd f.2:Int):=Int.ediv_nonneg (by omega) (by omega);have qle:f.2 / (B.gcd f.2:Int)<=f.2:=Int.ediv_le_self _ (by omega);have qb:(f.2 / (B.gcd f.2:Int)).natAbs<=2^n:=(by omega);have ile:i*n<=fs.length*n:=Nat.mul_le_mul_right _ (by omega);have Bb':B.natAbs<2^4000:=Nat.lt_of_le_of_lt Bb (Nat.pow_lt_pow_right (by decide) (by omega));walk_at "rd";refine kP eq rfl (kP eq rfl ⟨_,_,rfl,_,rfl,_,rfl,⟨by omega,Dy (n:=n) (by omega) (by omega) (by omega)⟩,pV Bb' (Nat.lt_of_le_of_lt qb (Nat.pow_lt_pow_right (by decide) (by omega))),hN _ _ ⟨rfl,_,_,l0,?_,?_,rfl⟩⟩)
     . rw [Int.natAbs_mul,Nat.succ_mul,Nat.pow_add];exact Nat.mul_le_mul Bb qb
     . intro g hg;rw [List.take_succ,gf] at hg;rcases List.mem_append.mp hg with hg|hg
       . exact Int.dvd_mul_of_dvd_left (Bd g hg)
       . rw [show g=f by simpa using hg];exact l1
   . rintro σ H2 ⟨rfl,B,v,B0,Bb,Bd,rfl⟩;refine h2 _ _ ?_;rw [List.length_map,ql] at Bb Bd;rw [List.take_length] at Bd;have Bb':B.natAbs<2^4000:=Nat.lt_of_le_of_lt Bb (Nat.pow_lt_pow_right (by decide) (by omega));walk_at "rd";refine ⟨⟨_,sq (Same.refl _)⟩,fun p np=>?_⟩;refine iX (K:=K) (c:=c) (xs:=qs.map V.ref) (fun i ys σ H3=>Same H2 H3/\H3 p=some (.lst ys)/\ys=((fs.take i).map fun f=>f.1*(B / f.2)).map V.int/\∃ v,σ=[v,some (V.int B)]) ⟨Same.new _ np,ah,rfl,_,rfl⟩ (fun i ys σ H3 _ z=>sq z.1) ?_ ?_
     . rintro i x ys σ H3 N hN hx ⟨s3,e3,rfl,v,rfl⟩;rw [List.getElem?_map] at hx;obtain ⟨q,gq,rfl⟩:=Option.map_eq_some_iff.mp hx;obtain ⟨f,gf,eq⟩:=jD hf gq;have fm:=List.mem_of_getElem? gf;obtain ⟨f0,fb1,fb2⟩:=fb f fm;have il:=(List.getElem?_eq_some_iff.mp gf).1;have qle:B / f.2<=B:=Int.ediv_le_self _ (by omega);have qnn:0<=B / f.2:=Int.ediv_nonneg (by omega) (by omega);have eq3:=Same.tup s3 eq;have Bq:(B / f.2).natAbs<2^4000:=Nat.lt_of_le_of_lt (show (B / f.2).natAbs<=B.natAbs by omega) Bb';walk_at "rd";refine kP eq3 rfl (kP eq3 rfl ⟨_,rfl,⟨f0,Dy (n:=n) (by omega) fb2 (by omega)⟩,_,rfl,pV (b8 fb1 (by omega)) Bq,e3,bK (by rw [List.length_map,List.length_map,List.length_take];omega),hN _ _ _ ⟨s3.put np _,ah,?_,_,rfl⟩⟩);rw [List.take_succ,gf,List.map_append,List.map_append]
       rfl
     . rintro ys σ H3 ⟨s3,e3,rfl,v,rfl⟩;rw [List.length_map,ql,List.take_length] at e3;refine ⟨p,rfl,_,.inl (SqL.of e3),_,_,rfl,by omega,Bb',fun x y r fr nr=>k x y r _ ?_ (s3.free nr) (s3.trans (Same.new _ nr)) ah⟩;have ms:=J4 (B:=B) (fs:=fs) (S:=0) (tb:=(0,1)) Bd (by rw [Int.zero_mul,Int.zero_mul]);rw [Int.zero_add] at ms;exact XO fr ms (by omega)
def Nw (T:Txt K mg):Sp:=fun vs H Q _=>∃ (a b:Addr) (f g:Int × Int) (n:Nat),vs=[.ref a,.ref b]/\SqT K H a [.int f.1,.int f.2]/\SqT K H b [.int g.1,.int g.2]/\FrB n f/\FrB n g/\n<=1000 /\
 ∀ (p q:Int) (r:Addr) (H':Hp),Frc (f.1*g.2+g.1*f.2) (f.2*g.2) p q->H r=none->Same H H'->H' r=some (.tup [.int p,.int q])->Q (.ref r) H'
abbrev lP:Stmt:=top 3
theorem VE:FnScope ["one","two"] ["one","two"] (aa lP):=FnScope.of (by kernel_rfl)
theorem Md:NmL (aa lP) "one":=.of (by kernel_rfl)
theorem MQ:NmL (aa lP) "two":=.of (by kernel_rfl)
theorem xJ:NmG (aa lP) "sum_up":=.of (by kernel_rfl)
theorem Vt (T:Txt K mg) (hq:aK (CXe P w)) {f:Addr} {fd:FuncData} (D:Df K mg "plus" lP ["one","two"] f fd) {cT:Addr} {dL:FuncData} (bi:Df K mg "sum_up" cU ["some"] cT dL) (G_sum_up:FnOk P w K mg base (CXe P w) 3 cT dL ["some"] (oB T)):FnOk P w K mg base (CXe P w) 4 f fd ["one","two"] (Nw T):=by
 refine D.F.okC VE (fun vs H Q E h=>?_) (fun cdv A outer s H vs Q E hr h=>?_)
 . obtain ⟨a,b,f,g,n,rfl,_⟩:=h
   rfl
 . obtain ⟨a,b,f,g,n,rfl,ha,hb,fb,gb,n1,k⟩:=h;refine ⟨_,(ak (ay (am G_sum_up (hr.mono (by decide)) xJ.g bi.m bi.F.kp bi.b .nil (aq hq) (ae (cP (ae (pvl 0 Md) (ae (pvl 1 MQ) ag))) ag) (hdb:=xJ.d)))),?_⟩;rw [show L2.start ["one","two"] [V.ref a,V.ref b]=[some (V.ref a),some (V.ref b)] from rfl];walk_at "rd";refine ⟨aL (by simp),fun l nl=>?_⟩;have s1:=Same.new (.lst [V.ref a,V.ref b]) nl;refine ⟨l,true,[a,b],[f,g],n,rfl,ah,.cons (Same.tup s1 ha) (.cons (Same.tup s1 hb) .nil),fun x hx=>?_,by simp;omega,n1,by simp,fun p q r H' fr nr s' e=>k p q r H' ?_ (s1.free nr) (s1.trans s') e⟩
   . simp only [List.mem_cons,List.mem_nil_iff,or_false] at hx;rcases hx with rfl|rfl
     . exact fb
     . exact gb
   . have e1:(rf [f,g] (0,1)).1=f.1*g.2+g.1*f.2:=by
       show (0*f.2+f.1*1)*g.2+g.1*(1*f.2)=_;rw [Int.zero_mul,Int.zero_add,Int.mul_one,Int.one_mul]
     have e2:(rf [f,g] (0,1)).2=f.2*g.2:=by
       show 1*f.2*g.2=_;rw [Int.one_mul]
     rw [e1,e2] at fr;exact fr
def C9 (T:Txt K mg):Sp:=fun vs H Q _=>∃ (a b:Addr) (f g:Int × Int) (n:Nat),vs=[.ref a,.ref b]/\SqT K H a [.int f.1,.int f.2]/\SqT K H b [.int g.1,.int g.2]/\FrB n f/\FrB n g/\n<=1000 /\
 ∀ (p q:Int) (r:Addr) (H':Hp),Frc (f.1*g.2 - g.1*f.2) (f.2*g.2) p q->H r=none->Same H H'->H' r=some (.tup [.int p,.int q])->Q (.ref r) H'
abbrev iy:Stmt:=top 4
theorem Tp:FnScope ["one","two"] ["one","two"] (aa iy):=FnScope.of (by kernel_rfl)
theorem K2:NmL (aa iy) "one":=.of (by kernel_rfl)
theorem Ao:NmL (aa iy) "two":=.of (by kernel_rfl)
theorem zP:NmG (aa iy) "plus":=.of (by kernel_rfl)
theorem Ub (T:Txt K mg) (hq:aK (CXe P w)) {f:Addr} {fd:FuncData} (D:Df K mg "minus" iy ["one","two"] f fd) {va:Addr} {Ny:FuncData} (xV:Df K mg "plus" lP ["one","two"] va Ny) (G_plus:FnOk P w K mg base (CXe P w) 4 va Ny ["one","two"] (Nw T)):FnOk P w K mg base (CXe P w) 5 f fd ["one","two"] (C9 T):=by
 refine D.F.okC Tp (fun vs H Q E h=>?_) (fun cdv A outer s H vs Q E hr h=>?_)
 . obtain ⟨a,b,f,g,n,rfl,_⟩:=h
   rfl
 . obtain ⟨a,b,f,g,n,rfl,ha,hb,fb,gb,n1,k⟩:=h;refine ⟨_,(ak (ay (am G_plus (hr.mono (by decide)) zP.g xV.m xV.F.kp xV.b .nil (aq hq) (ae (pvl 0 K2) (ae (d6 (ae (Ph IJ (az bf (pvl 1 Ao) aj (fun _ _=>rfl))) (ae (az bf (pvl 1 Ao) aj (fun _ _=>rfl)) ag))) ag)) (hdb:=zP.d)))),?_⟩;rw [show L2.start ["one","two"] [V.ref a,V.ref b]=[some (V.ref a),some (V.ref b)] from rfl];walk_at "rd";refine kP hb rfl ?_;refine ⟨_,rfl,kP hb rfl ⟨aL (by simp),fun l nl=>?_⟩⟩;have s1:=Same.new (.tup [V.int (-g.1),V.int g.2]) nl;refine ⟨a,l,f,(-g.1,g.2),n,rfl,Same.tup s1 ha,SqT.of ah,fb,⟨gb.1,by show (-g.1).natAbs<_;rw [Int.natAbs_neg];exact gb.2.1,gb.2.2⟩,n1,fun p q r H' fr nr s' e=>k p q r H' ?_ (s1.free nr) (s1.trans s') e⟩;rw [show f.1*g.2 - g.1*f.2=f.1*g.2 + -g.1*f.2 by rw [Int.neg_mul];omega];exact fr
def l9 (T:Txt K mg):Sp:=fun vs H Q E=>∃ (p t:Addr) (m:Int) (ps:List Addr) (rs:List Road) (n:Int),vs=[.ref p,.int n]/\WebAt T.Web H p m t ps rs/\(0<=n->n<m->Q .non H)/\(¬ (0<=n/\n<m)->E (.ref T.NoPlace) none H)
abbrev bQ:Stmt:=top 19
theorem F7:FnScope ["web","number"] ["web","number"] (aa bQ):=FnScope.of (by kernel_rfl)
theorem AK:NmL (aa bQ) "web":=.of (by kernel_rfl)
theorem xR:NmL (aa bQ) "number":=.of (by kernel_rfl)
theorem mD:NmG (aa bQ) "is_place":=.of (by kernel_rfl)
theorem m9:NmG (aa bQ) "NoPlace":=.of (by kernel_rfl)
theorem F5 (T:Txt K mg) (hq:aK (CXe P w)) {f:Addr} {fd:FuncData} (D:Df K mg "check_place" bQ ["web","number"] f fd) {fM:Addr} {mV:FuncData} (df:Df K mg "is_place" eJ ["many","number"] fM mV) (G_is_place:FnOk P w K mg base (CXe P w) 1 fM mV ["many","number"] (wR T)):FnOk P w K mg base (CXe P w) 2 f fd ["web","number"] (l9 T):=by
 refine D.F.okX F7 (fun vs H Q E h=>?_) (fun cdv A outer s H vs Q E hr h=>?_)
 . obtain ⟨p,t,m,ps,rs,n,rfl,_⟩:=h
   rfl
 . obtain ⟨p,t,m,ps,rs,n,rfl,W,k,e⟩:=h;obtain ⟨dx,ob⟩:=W.ob;refine ⟨_,(ak (bZ (eP (fw (am G_is_place (hr.mono (by decide)) mD.g df.m df.F.kp df.b .nil gP (ae (kD  (pvl 0 AK) rfl) (ae (pvl 1 xR) ag)) (hdb:=mD.d)))) (ak (K6 T.QL rfl Na m9.g T.QZ (ae xT ag) (hdb:=m9.d))) aW)),?_⟩;rw [show L2.start ["web","number"] [V.ref p,V.int n]=[some (V.ref p),some (V.int n)] from rfl];walk_at "rd";refine ⟨T.Web,dx,_,ob,T.iR,T.n_many,_,gO m t,m,n,rfl,_,rfl,?_⟩;by_cases c:0<=n/\n<m
   . rw [if_neg (by simp [c.1,c.2])];exact k c.1 c.2
   . rw [if_pos (by simpa [Bool.and_eq_true] using c)];exact ⟨by decide,e c⟩
def nD (T:Txt K mg):Sp:=fun vs H Q E=>∃ (p t:Addr) (m:Int) (ps:List Addr) (rs:List Road) (a:Int),vs=[.ref p,.int a]/\WebAt T.Web H p m t ps rs /\
 (∀ l H',0<=a->a<m->H l=none->Same H H'->H' l=some (.lst ((bE m rs a).map V.int))->Q (.ref l) H')/\(¬ (0<=a/\a<m)->E (.ref T.NoPlace) none H)
abbrev bW:Stmt:=top 18
theorem HU:FnScope ["web","a"] ["web","a"] (aa bW):=FnScope.of (by kernel_rfl)
theorem sY:NmL (aa bW) "web":=.of (by kernel_rfl)
theorem vC:NmL (aa bW) "a":=.of (by kernel_rfl)
theorem lh:NmG (aa bW) "check_place":=.of (by kernel_rfl)
theorem j6:NmG (aa bW) "sorted":=.of (by kernel_rfl)
theorem lO:NmG (aa bW) "other_ends":=.of (by kernel_rfl)
theorem Hg (T:Txt K mg) (hq:aK (CXe P w)) {f:Addr} {fd:FuncData} (D:Df K mg "neighbours" bW ["web","a"] f fd) {cj:Addr} {eh:FuncData} (aY:Df K mg "check_place" bQ ["web","number"] cj eh) (G_check_place:FnOk P w K mg base (CXe P w) 2 cj eh ["web","number"] (l9 T)) {dP:Addr} {ki:FuncData} (dk:Df K mg "other_ends" cJ ["roads","place"] dP ki) (G_other_ends:FnOk P w K mg base (CXe P w) 1 dP ki ["roads","place"] (sJ T)):FnOk P w K mg base (CXe P w) 3 f fd ["web","a"] (nD T):=by
 refine D.F.okX HU (fun vs H Q E h=>?_) (fun cdv A outer s H vs Q E hr h=>?_)
 . obtain ⟨p,t,m,ps,rs,a,rfl,_⟩:=h
   rfl
 . obtain ⟨p,t,m,ps,rs,a,rfl,W,k,e⟩:=h;obtain ⟨dx,ob⟩:=W.ob;refine ⟨_,(ai (cZ (am G_check_place (hr.mono (by decide)) lh.g aY.m aY.F.kp aY.b .nil gP (ae (pvl 0 sY) (ae (pvl 1 vC) ag)) (hdb:=lh.d))) (ak (ay (aN Mq j6.g T.sorted P6 (ae (am G_other_ends (hr.mono (by decide)) lO.g dk.m dk.F.kp dk.b .nil gP (ae (kD  (pvl 0 sY) rfl) (ae (pvl 1 vC) ag)) (hdb:=lO.d)) ag) (hn:=j6.n) (hdb:=j6.d))))),?_⟩;rw [show L2.start ["web","a"] [V.ref p,V.int a]=[some (V.ref p),some (V.int a)] from rfl];walk_at "rd";refine ⟨p,t,m,ps,rs,a,rfl,W,fun a0 a1=>?_,e⟩;have hlen:(rs.length:Int)=m - 1:=W.go.len;have m24:=W.go.m24;refine ⟨T.Web,dx,_,ob,T.iR,T.n_roads,_,CL m t,t,ps,rs,a,rfl,SqT.of W.tu,W.ro,by omega,fun l1 H1 n1 s1 e1=>?_⟩;refine ⟨l1,rfl,cB rs a,SqL.of e1,by have:=Kq rs a;omega,fun l2 zs n2 pz sz=>?_⟩;rw [Vj W.go a0 a1 pz sz];exact k l2 _ a0 a1 (s1.free n2) (s1.trans (Same.new _ n2)) ah
def uk (T:Txt K mg):Sp:=fun vs H Q _=>∃ (i j:Int),vs=[.int i,.int j]/\(2<=i/\i<=1000000)/\(2<=j/\j<=1000000)/\∀ (p q:Int) (r:Addr),Frc (i - 1) (i*j - 1) p q->H r=none->Q (.ref r) (upd H r (.tup [.int p,.int q]))
abbrev dz:Stmt:=top 43
theorem Kv:FnScope ["one","other"] ["one","other"] (aa dz):=FnScope.of (by kernel_rfl)
theorem uC:NmL (aa dz) "one":=.of (by kernel_rfl)
theorem AX:NmL (aa dz) "other":=.of (by kernel_rfl)
theorem oH:NmG (aa dz) "fraction":=.of (by kernel_rfl)
theorem KM (T:Txt K mg) (hq:aK (CXe P w)) {f:Addr} {fd:FuncData} (D:Df K mg "road_part" dz ["one","other"] f fd) {dD:Addr} {gW:FuncData} (cC:Df K mg "fraction" dg ["top","bottom"] dD gW) (G_fraction:FnOk P w K mg base (CXe P w) 2 dD gW ["top","bottom"] (rD T)):FnOk P w K mg base (CXe P w) 3 f fd ["one","other"] (uk T):=by
 refine D.F.okC Kv (fun vs H Q E h=>?_) (fun cdv A outer s H vs Q E hr h=>?_)
 . obtain ⟨i,j,rfl,_⟩:=h
   rfl
 . obtain ⟨i,j,rfl,hi,hj,k⟩:=h;refine ⟨_,(ak (ay (am G_fraction (hr.mono (by decide)) oH.g cC.m cC.F.kp cC.b .nil (aq hq) (ae (aA EA (pvl 0 uC) aj) (ae (aA EA (aA eS (pvl 0 uC) (pvl 1 AX)) aj) ag)) (hdb:=oH.d)))),?_⟩;rw [show L2.start ["one","other"] [V.int i,V.int j]=[some (V.int i),some (V.int j)] from rfl];have ib:i.natAbs<2^20:=by omega
   have jb:j.natAbs<2^20:=by omega
   have m4:4<=i*j:=by have:=Int.mul_le_mul hi.1 hj.1 (by decide) (by omega);omega
   have mb:(i*j).natAbs<2^40:=da (m:=20) (n:=20) ib jb;walk_at "rd";exact ⟨pV (b8 ib (by decide)) (b8 jb (by decide)),i - 1,i*j - 1,rfl,by omega,b8 (m:=40) (by omega) (by decide),k⟩
def xE (T:Txt K mg):Sp:=fun vs H Q E=>∃ (p t:Addr) (m:Int) (ps:List Addr) (rs:List Road) (a b:Int),vs=[.ref p,.int a,.int b]/\WebAt T.Web H p m t ps rs /\
 (∀ k,0<=a->a<m->0<=b->b<m->bG rs a b=some k->Q (.int k) H)/\(¬ ((0<=a/\a<m)/\(0<=b/\b<m))->E (.ref T.NoPlace) none H)/\(0<=a->a<m->0<=b->b<m->bG rs a b=none->E (.ref T.NoRoad) none H)
abbrev d8:Stmt:=top 17
theorem xm:FnScope ["web","a","b","one","other","there","back"] ["web","a","b"] (aa d8):=FnScope.of (by kernel_rfl)
theorem wD:NmL (aa d8) "web":=.of (by kernel_rfl)
theorem BM:NmL (aa d8) "a":=.of (by kernel_rfl)
theorem A0:NmL (aa d8) "b":=.of (by kernel_rfl)
theorem wL:NmL (aa d8) "one":=.of (by kernel_rfl)
theorem sX:NmL (aa d8) "other":=.of (by kernel_rfl)
theorem zR:NmL (aa d8) "there":=.of (by kernel_rfl)
theorem Ar:NmL (aa d8) "back":=.of (by kernel_rfl)
theorem iu:NmG (aa d8) "check_place":=.of (by kernel_rfl)
theorem xS:NmG (aa d8) "NoRoad":=.of (by kernel_rfl)
theorem Wk (T:Txt K mg) (hq:aK (CXe P w)) {f:Addr} {fd:FuncData} (D:Df K mg "toll" d8 ["web","a","b"] f fd) {cj:Addr} {eh:FuncData} (aY:Df K mg "check_place" bQ ["web","number"] cj eh) (G_check_place:FnOk P w K mg base (CXe P w) 2 cj eh ["web","number"] (l9 T)):FnOk P w K mg base (CXe P w) 3 f fd ["web","a","b"] (xE T):=by
 refine D.F.okX xm (fun vs H Q E h=>?_) (fun cdv A outer s H vs Q E hr h=>?_)
 . obtain ⟨p,t,m,ps,rs,a,b,rfl,_⟩:=h
   rfl
 . obtain ⟨p,t,m,ps,rs,a,b,rfl,W,k,e1,e2⟩:=h;obtain ⟨dx,ob⟩:=W.ob;refine ⟨_,(ai (cZ (am G_check_place (hr.mono (by decide)) iu.g aY.m aY.F.kp aY.b .nil gP (ae (pvl 0 wD) (ae (pvl 1 BM) ag)) (hdb:=iu.d))) (ai (cZ (am G_check_place (hr.mono (by decide)) iu.g aY.m aY.F.kp aY.b .nil gP (ae (pvl 0 wD) (ae (pvl 2 A0) ag)) (hdb:=iu.d))) (ai (eM PassesOwn.leaving rfl (yl (kD  (pvl 0 wD) rfl)) (lM (n:=4) rfl (be (au (i:=3) xm.nd rfl (Or.inl wL.l)) (be (au (i:=4) xm.nd rfl (Or.inl sX.l)) (be (au (i:=5) xm.nd rfl (Or.inl zR.l)) (be (au (i:=6) xm.nd rfl (Or.inl Ar.l)) ju))))) (ai (bZ (PW.pt (AG (aO jX (pvl 3 wL) (pvl 1 BM) (aI _)) (yw (aO jX (pvl 4 sX) (pvl 2 A0) (aI _))))) (ak (ay (pvl 5 zR))) aW) (ak (bZ (PW.pt (AG (aO jX (pvl 3 wL) (pvl 2 A0) (aI _)) (yw (aO jX (pvl 4 sX) (pvl 1 BM) (aI _))))) (ak (ay (pvl 6 Ar))) aW)))) (ak (K6 T.TF rfl Na xS.g T.SI (ae xT ag) (hdb:=xS.d)))))),?_⟩;rw [show L2.start ["web","a","b","one","other","there","back"] [V.ref p,V.int a,V.int b]=[some (V.ref p),some (V.int a),some (V.int b),none,none,none,none] from rfl];walk_at "rd";refine ⟨p,t,m,ps,rs,a,rfl,W,fun a0 a1=>?_,fun z=>e1 fun w=>z w.1⟩;refine ⟨p,t,m,ps,rs,b,rfl,W,fun b0 b1=>?_,fun z=>e1 fun w=>z w.2⟩;refine ⟨T.Web,dx,_,ob,T.iR,T.n_roads,_,CL m t,t,rfl,⟨_,SqT.of W.tu⟩,?_⟩;have hlen:ps.length=rs.length:=Paired.length W.ro;refine Lp (K:=K) (xs:=ps.map V.ref) (fun i σ H2=>H2=H/\bG (rs.take i) a b=none/\∃ v1 v2 v3 v4,σ=[some (V.ref p),some (V.int a),some (V.int b),v1,v2,v3,v4]) ⟨rfl,rfl,_,_,_,_,rfl⟩ (fun i σ H2 _ z=>by rw [z.1];exact SqT.of W.tu) ?_ ?_
   . rintro i x σ H2 N hN hx ⟨rfl,hno,v1,v2,v3,v4,rfl⟩;obtain ⟨q,r,rfl,h1,h2,h3⟩:=W.ro.get hx;have et:rs.take (i+1)=rs.take i++[r]:=(by rw [List.take_succ,h2];rfl);have split:bG rs a b=(bG (rs.take i) a b).or ((eR a b r).or (bG (rs.drop (i+1)) a b)):=by
       have:rs=rs.take i++r::rs.drop (i+1):=by
         have hil:i<rs.length:=(List.getElem?_eq_some_iff.mp h2).1;have e:rs[i]=r:=(by rw [List.getElem?_eq_getElem hil] at h2;exact Option.some.inj h2);rw [<- e,List.getElem_cons_drop,List.take_append_drop]
       conv=>lhs;rw [this]
       unfold bG;rw [List.findSome?_append,List.findSome?_cons];cases eR a b r <;> rfl
     rw [hno,Option.none_or] at split;walk_at "rd";refine ⟨_,SqT.of h3,rfl,_,_,rfl,_,_,rfl,_,_,rfl,_,_,rfl,rfl,?_⟩;walk_at "rd";have next:eR a b r=none->N [some (V.ref p),some (V.int a),some (V.int b),some (V.int r.a),some (V.int r.b),some (V.int r.t),some (V.int r.u)] H2:=fun z=>hN _ _ ⟨rfl,by
       rw [et];unfold bG at hno ⊢;rw [List.findSome?_append,hno,List.findSome?_cons,z]
       rfl,_,_,_,_,rfl⟩
     have got:∀ v,eR a b r=some v->bG rs a b=some v:=fun v z=>by rw [split,z];rfl
     unfold eR at next got;split
     . rename_i c1
       split
       . rename_i c2
         exact k _ a0 a1 b0 b1 (got _ (by rw [if_pos ⟨c1,c2⟩]))
       . rename_i c2
         split
         . rename_i c3
           split
           . rename_i c4
             exact k _ a0 a1 b0 b1 (got _ (by rw [if_neg (fun z=>c2 z.2),if_pos ⟨c3,c4⟩]))
           . rename_i c4
             exact next (by rw [if_neg (fun z=>c2 z.2),if_neg (fun z=>c4 z.2)])
         . rename_i c3
           exact next (by rw [if_neg (fun z=>c2 z.2),if_neg (fun z=>c3 z.1)])
     . rename_i c1
       split
       . rename_i c3
         split
         . rename_i c4
           exact k _ a0 a1 b0 b1 (got _ (by rw [if_neg (fun z=>c1 z.1),if_pos ⟨c3,c4⟩]))
         . rename_i c4
           exact next (by rw [if_neg (fun z=>c1 z.1),if_neg (fun z=>c4 z.2)])
       . rename_i c3
         exact next (by rw [if_neg (fun z=>c1 z.1),if_neg (fun z=>c3 z.1)])
   . rintro σ H2 ⟨rfl,hno,v1,v2,v3,v4,rfl⟩;rw [List.length_map,hlen,List.take_length] at hno;walk_at "rd";exact ⟨by decide,e2 a0 a1 b0 b1 hno⟩
def zF (T:Txt K mg):Sp:=fun vs H Q _=>∃ (p t:Addr) (m:Int) (ps:List Addr) (rs:List Road) (u:Int),vs=[.ref p,.int u]/\WebAt T.Web H p m t ps rs/\0<=u/\u<m/\m<=8 /\
 ∀ (f:Int × Int) (r:Addr) (H':Hp),FrB 340 f->f.1.gcd f.2=1->(f.1:Rat) / f.2=shr m rs (evp rs) u->H r=none->Same H H'->H' r=some (.tup [.int f.1,.int f.2])->Q (.ref r) H'
abbrev bL:Stmt:=top 40
theorem zH:FnScope ["web","place","near"] ["web","place"] (aa bL):=FnScope.of (by kernel_rfl)
theorem B7:NmC (aa bL) "web":=.of (by kernel_rfl)
theorem z3:NmC (aa bL) "place":=.of (by kernel_rfl)
theorem rR:NmL (aa bL) "near":=.of (by kernel_rfl)
theorem lz:NmG (aa bL) "neighbours":=.of (by kernel_rfl)
theorem qm:NmG (aa bL) "minus":=.of (by kernel_rfl)
theorem tH:NmG (aa bL) "ONE":=.of (by kernel_rfl)
theorem oU:NmG (aa bL) "sum_up":=.of (by kernel_rfl)
theorem Hv (T:Txt K mg) (hq:aK (CXe P w)) {f:Addr} {fd:FuncData} (D:Df K mg "even_share" bL ["web","place"] f fd) {kI:Addr} {uN:FuncData} (jO:Df K mg "minus" iy ["one","two"] kI uN) (G_minus:FnOk P w K mg base (CXe P w) 5 kI uN ["one","two"] (C9 T)) {cG:Addr} {eX:FuncData} (bN:Df K mg "neighbours" bW ["web","a"] cG eX) (G_neighbours:FnOk P w K mg base (CXe P w) 3 cG eX ["web","a"] (nD T)) {eB:Addr} {ly:FuncData} (dS:Df K mg "road_part" dz ["one","other"] eB ly) (G_road_part:FnOk P w K mg base (CXe P w) 3 eB ly ["one","other"] (uk T)) {cT:Addr} {dL:FuncData} (bi:Df K mg "sum_up" cU ["some"] cT dL) (G_sum_up:FnOk P w K mg base (CXe P w) 3 cT dL ["some"] (oB T)) {gJ:Addr} {jB:FuncData} (cD:Df K mg "toll" d8 ["web","a","b"] gJ jB) (G_toll:FnOk P w K mg base (CXe P w) 3 gJ jB ["web","a","b"] (xE T)):FnOk P w K mg base (CXe P w) 6 f fd ["web","place"] (zF T):=by
 refine D.F.okC zH (fun vs H Q E h=>?_) (fun cdv A outer s H vs Q E hr h=>?_)
 . obtain ⟨p,t,m,ps,rs,u,rfl,_⟩:=h
   rfl
 . obtain ⟨p,t,m,ps,rs,u,rfl,W,u0,u1,m8,k⟩:=h;have g:=W.go;have m24:=g.m24;refine ⟨_,(ai (ap (i:=2) zH.nd rfl (Or.inl rR.l) (am G_neighbours (hr.mono (by decide)) lz.g bN.m bN.F.kp bN.b .nil (aq hq) (ae (pvc 0 B7) (ae (pvc 1 z3) ag)) (hdb:=lz.d))) (ak (ay (am G_minus (hr.mono (by decide)) qm.g jO.m jO.F.kp jO.b .nil (aq hq) (ae (tX (v:=.ref T.ONE) tH.g T.Im rfl (hd:=tH.d)) (ae (am G_sum_up (hr.mono (by decide)) oU.g bi.m bi.F.kp bi.b .nil (aq hq) (ae (dF rfl (gj (Nc:=["other","web","place"]) 1 [0,1] (by decide +kernel) rfl (by decide +kernel) rfl (by show ∀ (y:Str × NameKind),y∈_->y.2=NameKind.free->(aa bL).names.lookup y.1=some NameKind.cell;decide +kernel) rfl (fun _ h=>dI h) (fun i hi=>match i,hi with|0,_=>⟨"web",0,rfl,rfl,rfl,by decide +kernel⟩|1,_=>⟨"place",1,rfl,rfl,rfl,by decide +kernel⟩|i+2,hi=>absurd hi (by show ¬ i+2<2;omega))) (uA true (pvl 2 rR)) (fun _ _ _ _=>(au (i:=0) (show (["other","web","place"]:List Str).Nodup from by decide +kernel) rfl (Or.inl rfl))) (fun _ _ _ _=>eU) (fun _ _ _ _=>(am G_road_part (hr.mono (by decide)) (by rfl) dS.m dS.F.kp dS.b .nil (aq hq) (ae (am G_toll (hr.mono (by decide)) (by rfl) cD.m cD.F.kp cD.b .nil (aq hq) (ae (pv 1) (ae (pv 2) (ae (pv 0) ag)))) (ae (am G_toll (hr.mono (by decide)) (by rfl) cD.m cD.F.kp cD.b .nil (aq hq) (ae (pv 1) (ae (pv 0) (ae (pv 2) ag)))) ag))))) ag) (hdb:=oU.d)) ag)) (hdb:=qm.d))))),?_⟩;rw [show L2.start ["web","place","near"] [V.ref p,V.int u]=[some (V.ref p),some (V.int u),none] from rfl];refine bg fun N1 h1=>?_;walk_at "rd";refine ⟨p,t,m,ps,rs,u,rfl,W,fun l H1 _ _ nl s1 el=>h1 _ _ ?_,fun z=>absurd ⟨u0,u1⟩ z⟩;have W1:=W.same s1;have nbl:(bE m rs u).length<=8:=by
     have:=List.length_filter_le (fun q=>decide (q∈cB rs u)) (below m.toNat);rw [aD] at this;have e:(bE m rs u).length=((below m.toNat).filter fun q=>decide (q∈cB rs u)).length:=rfl;omega
   walk_at "rd";refine ⟨⟨_,SqL.of el⟩,fun pc npc=>?_⟩;refine iX (K:=K) (c:=true) (xs:=(bE m rs u).map V.int) (fun i ys σ H3=>Same H1 H3/\H3 pc=some (.lst ys)/\∃ (qs:List Addr) (fs:List (Int × Int)) (v:Option V),ys=qs.map V.ref/\qs.length=i/\FrsAt H3 qs fs/\(∀ f∈fs,FrB 40 f)/\aB fs (fun f=>(f.1:Rat) / f.2)=aB ((bE m rs u).take i) (evp rs u)/\σ=[v,some (V.ref p),some (V.int u)]) ⟨Same.new _ npc,ah,[],[],_,rfl,rfl,.nil,(fun f hf=>nomatch hf),rfl,rfl⟩ (fun i ys σ H3 _ z=>SqL.of (z.1 _ _ el)) ?_ ?_
   . rintro i x ys σ H3 N hN hx ⟨s3,e3,qs,fs,v,rfl,qi,hf,fb,su,rfl⟩;rw [List.getElem?_map] at hx;obtain ⟨o,go,rfl⟩:=Option.map_eq_some_iff.mp hx;have ad:=(hV g).mp (List.mem_of_getElem? go);obtain ⟨_,or,_⟩:=g.adj ad;obtain ⟨b,eb,b2,b6⟩:=gD g ad;obtain ⟨a,ea,a2,a6⟩:=gD g ad.symm;have il:=(List.getElem?_eq_some_iff.mp go).1;have W3:=W1.same s3;walk_at "rd";refine ⟨p,t,m,ps,rs,u,o,rfl,W3,fun b' _ _ _ _ e=>?_,(fun z=>absurd ⟨⟨u0,u1⟩,or⟩ z),(fun _ _ _ _ z=>by rw [eb] at z;cases z)⟩;rw [eb] at e;cases e;refine ⟨p,t,m,ps,rs,o,u,rfl,W3,fun a' _ _ _ _ e=>?_,(fun z=>absurd ⟨or,⟨u0,u1⟩⟩ z),(fun _ _ _ _ z=>by rw [ea] at z;cases z)⟩;rw [ea] at e;cases e;refine ⟨b,a,rfl,⟨b2,b6⟩,⟨a2,a6⟩,fun x y rr fr nr=>?_⟩;have s4:=Same.new (.tup [V.int x,V.int y]) nr;have ba4:4<=b*a:=(by have:=Int.mul_le_mul b2 a2 (by decide) (by omega);omega);have bab:(b*a).natAbs<2^40:=da (m:=20) (n:=20) (by omega) (by omega);obtain ⟨l1,l2⟩:=rQ fr (by omega);have npr:pc≠rr:=fun z=>by rw [z] at e3;rw [e3] at nr;cases nr
     refine ⟨s4 _ _ e3,bK (by rw [List.length_map];omega),hN _ _ _ ⟨(s3.trans s4).put npc _,ah,qs++[rr],fs++[(x,y)],_,by rw [List.map_append];rfl,by rw [List.length_append,qi];rfl,?_,fun f hf=>?_,?_,rfl⟩⟩
     . refine tT (by rw [ao npr.symm];exact ah) (Paired.imp' (fun q f h=>?_) hf);rw [ao (im (s4 _ _ h) (s4 _ _ e3) (by intro z;cases z))];exact s4 _ _ h
     . rcases List.mem_append.mp hf with h|h
       . exact fb f h
       . rw [List.mem_singleton.mp h];exact ⟨fr.pos,by show x.natAbs<2^40;omega,by show y.natAbs<2^40;omega⟩
     . rw [List.take_succ,go,Option.toList_some,lD,lD,su,me fr (by omega)]
       congr 1
       unfold evp aE;rw [eb,ea];show ((b - 1:Int):Rat) / ((b*a - 1:Int):Rat)=_;rw [Rat.intCast_sub,Rat.intCast_sub,Rat.intCast_mul]
       rfl
   . rintro ys σ H3 ⟨s3,e3,qs,fs,v,rfl,qi,hf,fb,su,rfl⟩;rw [List.length_map,List.take_length] at su;rw [List.length_map] at qi;have fl:qs.length=fs.length:=Paired.length hf;obtain ⟨mb1,mb2⟩:=vL (n:=40) (fs:=fs) (tb:=(0,1)) (b:=1) fb (by decide) (by decide);have mp:=vq (fs:=fs) (tb:=(0,1)) (fun f h=>(fb f h).1) (by decide);have mr:=uI (fs:=fs) (tb:=(0,1)) (fun f h=>Int.ne_of_gt (fb f h).1) (by decide);refine ⟨pc,true,qs,fs,40,rfl,e3,FrsAt.k hf,fb,by omega,by decide,by omega,fun x y r1 H4 fr nr s4 er=>?_⟩;obtain ⟨l1,l2⟩:=rQ fr (Int.ne_of_gt mp);have rr:=me fr (Int.ne_of_gt mp);have bx:x.natAbs<2^335:=Nat.lt_of_le_of_lt l1 (Nat.lt_of_lt_of_le mb1 (Nat.pow_le_pow_right (by decide) (by omega)));have by':y.natAbs<2^335:=Nat.lt_of_le_of_lt l2 (Nat.lt_of_lt_of_le mb2 (Nat.pow_le_pow_right (by decide) (by omega)))
     have yp:=fr.pos;have one:(1:Int).natAbs<2^335:=Nat.one_lt_two_pow (by decide);refine ⟨T.ONE,r1,(1,1),(x,y),335,rfl,T.Ik.sq,SqT.of er,⟨by decide,one,one⟩,⟨yp,bx,by'⟩,by decide,fun x2 y2 r2 H5 fr2 nr2 s5 er2=>k (x2,y2) r2 H5 ?_ fr2.one ?_ (s1.free (s3.free (s4.free nr2))) (s1.trans (s3.trans (s4.trans s5))) er2⟩
     . obtain ⟨a1,a2⟩:=rQ fr2 (show (1:Int)*y≠0 by omega);have b1:(1*y - x*1:Int).natAbs<2^336:=by
         have:=n5 (a:=y) (b:=-x) (n:=335) by' (by rw [Int.natAbs_neg];exact bx)
         rwa [show 1*y - x*1=y + -x by omega]
       refine ⟨fr2.pos,Nat.lt_of_le_of_lt a1 (b8 b1 (by decide)),Nat.lt_of_le_of_lt a2 (b8 (m:=335) (by rw [Int.one_mul];exact by') (by decide))⟩
     . rw [me fr2 (show (1:Int)*y≠0 by omega)];unfold shr;rw [<- su];have e0:(((0:Int):Rat) / ((1:Int):Rat))=0:=(by rw [show ((0:Int):Rat)=0 from rfl,Rat.div_def,Rat.zero_mul]);have n1:=dj (Int.ne_of_gt yp);show ((1*y - x*1:Int):Rat) / ((1*y:Int):Rat)=_;rw [Int.one_mul,Int.mul_one,Rat.intCast_sub]
       grind
def mq (T:Txt K mg):Sp:=fun vs H Q _=>∃ (p t:Addr) (m:Int) (ps:List Addr) (rs:List Road),vs=[.ref p]/\WebAt T.Web H p m t ps rs/\m<=8 /\
 ∀ (l:Addr) (qs:List Addr) (fs:List (Int × Int)) (H':Hp),H l=none->Same H H'->H' l=some (.lst (qs.map V.ref))->FrsAt H' qs fs->(fs.length:Int)=m->(∀ f∈fs,FrB 340 f/\f.1.gcd f.2=1)->(∀ (i:Nat) f,fs[i]?=some f->(f.1:Rat) / f.2=shr m rs (evp rs) i)->Q (.ref l) H'
abbrev ci:Stmt:=top 39
theorem FL:FnScope ["web"] ["web"] (aa ci):=FnScope.of (by kernel_rfl)
theorem Ah:NmC (aa ci) "web":=.of (by kernel_rfl)
theorem yK:NmG (aa ci) "range":=.of (by kernel_rfl)
theorem Ft (T:Txt K mg) (hq:aK (CXe P w)) {f:Addr} {fd:FuncData} (D:Df K mg "even_shares" ci ["web"] f fd) {ig:Addr} {zN:FuncData} (jQ:Df K mg "even_share" bL ["web","place"] ig zN) (G_even_share:FnOk P w K mg base (CXe P w) 6 ig zN ["web","place"] (zF T)):FnOk P w K mg base (CXe P w) 7 f fd ["web"] (mq T):=by
 refine D.F.okC FL (fun vs H Q E h=>?_) (fun cdv A outer s H vs Q E hr h=>?_)
 . obtain ⟨p,t,m,ps,rs,rfl,_⟩:=h
   rfl
 . obtain ⟨p,t,m,ps,rs,rfl,W,m8,k⟩:=h;have g:=W.go;have m24:=g.m24;have m1:=g.m1;refine ⟨_,(ak (ay (dF rfl (gj (Nc:=["place","web"]) 1 [0] (by decide +kernel) rfl (by decide +kernel) rfl (by show ∀ (y:Str × NameKind),y∈_->y.2=NameKind.free->(aa ci).names.lookup y.1=some NameKind.cell;decide +kernel) rfl (fun _ h=>dI h) (fun i hi=>match i,hi with|0,_=>⟨"web",0,rfl,rfl,rfl,by decide +kernel⟩|i+1,hi=>absurd hi (by show ¬ i+1<1;omega))) (d5 yK.g T.range (ae (kD  (pvc 0 Ah) rfl) ag)) (fun _ _ _ _=>(au (i:=0) (show (["place","web"]:List Str).Nodup from by decide +kernel) rfl (Or.inl rfl))) (fun _ _ _ _=>eU) (fun _ _ _ _=>(am G_even_share (hr.mono (by decide)) (by rfl) jQ.m jQ.F.kp jQ.b .nil (aq hq) (ae (pv 1) (ae (pv 0) ag))))))),?_⟩;rw [show L2.start ["web"] [V.ref p]=[some (V.ref p)] from rfl];obtain ⟨dx,ob⟩:=W.ob;walk_at "rd";refine ⟨T.Web,dx,_,ob,T.iR,T.n_many,_,gO m t,m,rfl,by omega,by omega,fun pc nc=>?_⟩;refine gM (fun i zs σ H3=>Same H H3/\H3 pc=some (.lst zs)/\∃ (qs:List Addr) (fs:List (Int × Int)) (v:Option V),zs=qs.map V.ref/\qs.length=i/\FrsAt H3 qs fs/\(∀ f∈fs,FrB 340 f/\f.1.gcd f.2=1)/\(∀ (i:Nat) f,fs[i]?=some f->(f.1:Rat) / f.2=shr m rs (evp rs) i)/\σ=[v,some (V.ref p)]) ⟨Same.new _ nc,ah,[],[],_,rfl,rfl,.nil,(fun f hf=>nomatch hf),(fun i f h=>by simp at h),rfl⟩ ?_ ?_
   . rintro i zs σ H3 N hN hi ⟨s3,e3,qs,fs,v,rfl,qi,hf,fb,fv,rfl⟩;rw [Int.zero_add];have i0:(0:Int)<=(i:Int):=(by omega);have i1:(i:Int)<m:=(by omega);have fl:qs.length=fs.length:=Paired.length hf;walk_at "rd";refine ⟨p,t,m,ps,rs,(i:Int),rfl,W.same s3,i0,i1,m8,fun f r H4 fB fg fr nr s4 er=>?_⟩;have npr:r≠pc:=fun z=>by rw [z,e3] at nr;cases nr
     refine ⟨s4 _ _ e3,bK (by rw [List.length_map];omega),hN _ _ _ ⟨(s3.trans s4).put nc _,ah,qs++[r],fs++[f],_,by rw [List.map_append];rfl,by rw [List.length_append,qi];rfl,?_,fun f' hf'=>?_,fun j f' hj=>?_,rfl⟩⟩
     . refine tT (by rw [ao npr];exact er) (Paired.imp' (fun q f h=>?_) hf);rw [ao (im (s4 _ _ h) (s4 _ _ e3) (by intro z;cases z))];exact s4 _ _ h
     . rcases List.mem_append.mp hf' with h|h
       . exact fb f' h
       . rw [List.mem_singleton.mp h];exact ⟨fB,fg⟩
     . by_cases c:j<fs.length
       . rw [List.getElem?_append_left c] at hj;exact fv j f' hj
       . have jl:=(List.getElem?_eq_some_iff.mp hj).1;rw [List.length_append,List.length_singleton] at jl;have:j=i:=(by omega);subst this;rw [List.getElem?_append_right (by omega),show j - fs.length=0 by omega] at hj;cases hj;exact fr
   . rintro zs σ H3 ⟨s3,e3,qs,fs,v,rfl,qi,hf,fb,fv,rfl⟩;have fl:qs.length=fs.length:=Paired.length hf;exact k pc qs fs H3 nc s3 e3 hf (by omega) fb fv
def vD (T:Txt K mg):Sp:=fun vs H Q _=>∃ (p t:Addr) (m:Int) (ps:List Addr) (rs:List Road) (u:Int),vs=[.ref p,.int u]/\WebAt T.Web H p m t ps rs/\0<=u/\u<m/\m<=8 /\
 ∀ (f:Int × Int) (r:Addr) (H':Hp),FrB 340 f->f.1.gcd f.2=1->(f.1:Rat) / f.2=shr m rs (sep rs) u->H r=none->Same H H'->H' r=some (.tup [.int f.1,.int f.2])->Q (.ref r) H'
abbrev bj:Stmt:=top 42
theorem vP:FnScope ["web","place","near"] ["web","place"] (aa bj):=FnScope.of (by kernel_rfl)
theorem Ad:NmC (aa bj) "web":=.of (by kernel_rfl)
theorem xW:NmC (aa bj) "place":=.of (by kernel_rfl)
theorem o9:NmL (aa bj) "near":=.of (by kernel_rfl)
theorem kj:NmG (aa bj) "neighbours":=.of (by kernel_rfl)
theorem oE:NmG (aa bj) "minus":=.of (by kernel_rfl)
theorem pZ:NmG (aa bj) "ONE":=.of (by kernel_rfl)
theorem m6:NmG (aa bj) "sum_up":=.of (by kernel_rfl)
theorem Fc (T:Txt K mg) (hq:aK (CXe P w)) {f:Addr} {fd:FuncData} (D:Df K mg "second_share" bj ["web","place"] f fd) {kI:Addr} {uN:FuncData} (jO:Df K mg "minus" iy ["one","two"] kI uN) (G_minus:FnOk P w K mg base (CXe P w) 5 kI uN ["one","two"] (C9 T)) {cG:Addr} {eX:FuncData} (bN:Df K mg "neighbours" bW ["web","a"] cG eX) (G_neighbours:FnOk P w K mg base (CXe P w) 3 cG eX ["web","a"] (nD T)) {eB:Addr} {ly:FuncData} (dS:Df K mg "road_part" dz ["one","other"] eB ly) (G_road_part:FnOk P w K mg base (CXe P w) 3 eB ly ["one","other"] (uk T)) {cT:Addr} {dL:FuncData} (bi:Df K mg "sum_up" cU ["some"] cT dL) (G_sum_up:FnOk P w K mg base (CXe P w) 3 cT dL ["some"] (oB T)) {gJ:Addr} {jB:FuncData} (cD:Df K mg "toll" d8 ["web","a","b"] gJ jB) (G_toll:FnOk P w K mg base (CXe P w) 3 gJ jB ["web","a","b"] (xE T)):FnOk P w K mg base (CXe P w) 6 f fd ["web","place"] (vD T):=by
 refine D.F.okC vP (fun vs H Q E h=>?_) (fun cdv A outer s H vs Q E hr h=>?_)
 . obtain ⟨p,t,m,ps,rs,u,rfl,_⟩:=h
   rfl
 . obtain ⟨p,t,m,ps,rs,u,rfl,W,u0,u1,m8,k⟩:=h;have g:=W.go;have m24:=g.m24;refine ⟨_,(ai (ap (i:=2) vP.nd rfl (Or.inl o9.l) (am G_neighbours (hr.mono (by decide)) kj.g bN.m bN.F.kp bN.b .nil (aq hq) (ae (pvc 0 Ad) (ae (pvc 1 xW) ag)) (hdb:=kj.d))) (ak (ay (am G_minus (hr.mono (by decide)) oE.g jO.m jO.F.kp jO.b .nil (aq hq) (ae (tX (v:=.ref T.ONE) pZ.g T.Im rfl (hd:=pZ.d)) (ae (am G_sum_up (hr.mono (by decide)) m6.g bi.m bi.F.kp bi.b .nil (aq hq) (ae (dF rfl (gj (Nc:=["other","web","place"]) 1 [0,1] (by decide +kernel) rfl (by decide +kernel) rfl (by show ∀ (y:Str × NameKind),y∈_->y.2=NameKind.free->(aa bj).names.lookup y.1=some NameKind.cell;decide +kernel) rfl (fun _ h=>dI h) (fun i hi=>match i,hi with|0,_=>⟨"web",0,rfl,rfl,rfl,by decide +kernel⟩|1,_=>⟨"place",1,rfl,rfl,rfl,by decide +kernel⟩|i+2,hi=>absurd hi (by show ¬ i+2<2;omega))) (uA true (pvl 2 o9)) (fun _ _ _ _=>(au (i:=0) (show (["other","web","place"]:List Str).Nodup from by decide +kernel) rfl (Or.inl rfl))) (fun _ _ _ _=>eU) (fun _ _ _ _=>(am G_road_part (hr.mono (by decide)) (by rfl) dS.m dS.F.kp dS.b .nil (aq hq) (ae (am G_toll (hr.mono (by decide)) (by rfl) cD.m cD.F.kp cD.b .nil (aq hq) (ae (pv 1) (ae (pv 0) (ae (pv 2) ag)))) (ae (am G_toll (hr.mono (by decide)) (by rfl) cD.m cD.F.kp cD.b .nil (aq hq) (ae (pv 1) (ae (pv 2) (ae (pv 0) ag)))) ag))))) ag) (hdb:=m6.d)) ag)) (hdb:=oE.d))))),?_⟩;rw [show L2.start ["web","place","near"] [V.ref p,V.int u]=[some (V.ref p),some (V.int u),none] from rfl];refine bg fun N1 h1=>?_;walk_at "rd";refine ⟨p,t,m,ps,rs,u,rfl,W,fun l H1 _ _ nl s1 el=>h1 _ _ ?_,fun z=>absurd ⟨u0,u1⟩ z⟩;have W1:=W.same s1;have nbl:(bE m rs u).length<=8:=by
     have:=List.length_filter_le (fun q=>decide (q∈cB rs u)) (below m.toNat);rw [aD] at this;have e:(bE m rs u).length=((below m.toNat).filter fun q=>decide (q∈cB rs u)).length:=rfl;omega
   walk_at "rd";refine ⟨⟨_,SqL.of el⟩,fun pc npc=>?_⟩;refine iX (K:=K) (c:=true) (xs:=(bE m rs u).map V.int) (fun i ys σ H3=>Same H1 H3/\H3 pc=some (.lst ys)/\∃ (qs:List Addr) (fs:List (Int × Int)) (v:Option V),ys=qs.map V.ref/\qs.length=i/\FrsAt H3 qs fs/\(∀ f∈fs,FrB 40 f)/\aB fs (fun f=>(f.1:Rat) / f.2)=aB ((bE m rs u).take i) (sep rs u)/\σ=[v,some (V.ref p),some (V.int u)]) ⟨Same.new _ npc,ah,[],[],_,rfl,rfl,.nil,(fun f hf=>nomatch hf),rfl,rfl⟩ (fun i ys σ H3 _ z=>SqL.of (z.1 _ _ el)) ?_ ?_
   . rintro i x ys σ H3 N hN hx ⟨s3,e3,qs,fs,v,rfl,qi,hf,fb,su,rfl⟩;rw [List.getElem?_map] at hx;obtain ⟨o,go,rfl⟩:=Option.map_eq_some_iff.mp hx;have ad:=(hV g).mp (List.mem_of_getElem? go);obtain ⟨_,or,_⟩:=g.adj ad;obtain ⟨b,eb,b2,b6⟩:=gD g ad.symm;obtain ⟨a,ea,a2,a6⟩:=gD g ad;have il:=(List.getElem?_eq_some_iff.mp go).1;have W3:=W1.same s3;walk_at "rd";refine ⟨p,t,m,ps,rs,o,u,rfl,W3,fun b' _ _ _ _ e=>?_,(fun z=>absurd ⟨or,⟨u0,u1⟩⟩ z),(fun _ _ _ _ z=>by rw [eb] at z;cases z)⟩;rw [eb] at e;cases e;refine ⟨p,t,m,ps,rs,u,o,rfl,W3,fun a' _ _ _ _ e=>?_,(fun z=>absurd ⟨⟨u0,u1⟩,or⟩ z),(fun _ _ _ _ z=>by rw [ea] at z;cases z)⟩;rw [ea] at e;cases e;refine ⟨b,a,rfl,⟨b2,b6⟩,⟨a2,a6⟩,fun x y rr fr nr=>?_⟩;have s4:=Same.new (.tup [V.int x,V.int y]) nr;have ba4:4<=b*a:=(by have:=Int.mul_le_mul b2 a2 (by decide) (by omega);omega);have bab:(b*a).natAbs<2^40:=da (m:=20) (n:=20) (by omega) (by omega);obtain ⟨l1,l2⟩:=rQ fr (by omega);have npr:pc≠rr:=fun z=>by rw [z] at e3;rw [e3] at nr;cases nr
     refine ⟨s4 _ _ e3,bK (by rw [List.length_map];omega),hN _ _ _ ⟨(s3.trans s4).put npc _,ah,qs++[rr],fs++[(x,y)],_,by rw [List.map_append];rfl,by rw [List.length_append,qi];rfl,?_,fun f hf=>?_,?_,rfl⟩⟩
     . refine tT (by rw [ao npr.symm];exact ah) (Paired.imp' (fun q f h=>?_) hf);rw [ao (im (s4 _ _ h) (s4 _ _ e3) (by intro z;cases z))];exact s4 _ _ h
     . rcases List.mem_append.mp hf with h|h
       . exact fb f h
       . rw [List.mem_singleton.mp h];exact ⟨fr.pos,by show x.natAbs<2^40;omega,by show y.natAbs<2^40;omega⟩
     . rw [List.take_succ,go,Option.toList_some,lD,lD,su,me fr (by omega)]
       congr 1
       unfold sep aE;rw [eb,ea];show ((b - 1:Int):Rat) / ((b*a - 1:Int):Rat)=_;rw [Rat.intCast_sub,Rat.intCast_sub,Rat.intCast_mul]
       rfl
   . rintro ys σ H3 ⟨s3,e3,qs,fs,v,rfl,qi,hf,fb,su,rfl⟩;rw [List.length_map,List.take_length] at su;rw [List.length_map] at qi;have fl:qs.length=fs.length:=Paired.length hf;obtain ⟨mb1,mb2⟩:=vL (n:=40) (fs:=fs) (tb:=(0,1)) (b:=1) fb (by decide) (by decide);have mp:=vq (fs:=fs) (tb:=(0,1)) (fun f h=>(fb f h).1) (by decide);have mr:=uI (fs:=fs) (tb:=(0,1)) (fun f h=>Int.ne_of_gt (fb f h).1) (by decide);refine ⟨pc,true,qs,fs,40,rfl,e3,FrsAt.k hf,fb,by omega,by decide,by omega,fun x y r1 H4 fr nr s4 er=>?_⟩;obtain ⟨l1,l2⟩:=rQ fr (Int.ne_of_gt mp);have rr:=me fr (Int.ne_of_gt mp);have bx:x.natAbs<2^335:=Nat.lt_of_le_of_lt l1 (Nat.lt_of_lt_of_le mb1 (Nat.pow_le_pow_right (by decide) (by omega)));have by':y.natAbs<2^335:=Nat.lt_of_le_of_lt l2 (Nat.lt_of_lt_of_le mb2 (Nat.pow_le_pow_right (by decide) (by omega)))
     have yp:=fr.pos;have one:(1:Int).natAbs<2^335:=Nat.one_lt_two_pow (by decide);refine ⟨T.ONE,r1,(1,1),(x,y),335,rfl,T.Ik.sq,SqT.of er,⟨by decide,one,one⟩,⟨yp,bx,by'⟩,by decide,fun x2 y2 r2 H5 fr2 nr2 s5 er2=>k (x2,y2) r2 H5 ?_ fr2.one ?_ (s1.free (s3.free (s4.free nr2))) (s1.trans (s3.trans (s4.trans s5))) er2⟩
     . obtain ⟨a1,a2⟩:=rQ fr2 (show (1:Int)*y≠0 by omega);have b1:(1*y - x*1:Int).natAbs<2^336:=by
         have:=n5 (a:=y) (b:=-x) (n:=335) by' (by rw [Int.natAbs_neg];exact bx)
         rwa [show 1*y - x*1=y + -x by omega]
       refine ⟨fr2.pos,Nat.lt_of_le_of_lt a1 (b8 b1 (by decide)),Nat.lt_of_le_of_lt a2 (b8 (m:=335) (by rw [Int.one_mul];exact by') (by decide))⟩
     . rw [me fr2 (show (1:Int)*y≠0 by omega)];unfold shr;rw [<- su];have e0:(((0:Int):Rat) / ((1:Int):Rat))=0:=(by rw [show ((0:Int):Rat)=0 from rfl,Rat.div_def,Rat.zero_mul]);have n1:=dj (Int.ne_of_gt yp);show ((1*y - x*1:Int):Rat) / ((1*y:Int):Rat)=_;rw [Int.one_mul,Int.mul_one,Rat.intCast_sub]
       grind
def j7 (T:Txt K mg):Sp:=fun vs H Q _=>∃ (p t:Addr) (m:Int) (ps:List Addr) (rs:List Road),vs=[.ref p]/\WebAt T.Web H p m t ps rs/\m<=8 /\
 ∀ (l:Addr) (qs:List Addr) (fs:List (Int × Int)) (H':Hp),H l=none->Same H H'->H' l=some (.lst (qs.map V.ref))->FrsAt H' qs fs->(fs.length:Int)=m->(∀ f∈fs,FrB 340 f/\f.1.gcd f.2=1)->(∀ (i:Nat) f,fs[i]?=some f->(f.1:Rat) / f.2=shr m rs (sep rs) i)->Q (.ref l) H'
abbrev bI:Stmt:=top 41
theorem Dv:FnScope ["web"] ["web"] (aa bI):=FnScope.of (by kernel_rfl)
theorem yz:NmC (aa bI) "web":=.of (by kernel_rfl)
theorem wj:NmG (aa bI) "range":=.of (by kernel_rfl)
theorem C0 (T:Txt K mg) (hq:aK (CXe P w)) {f:Addr} {fd:FuncData} (D:Df K mg "second_shares" bI ["web"] f fd) {fJ:Addr} {vQ:FuncData} (gX:Df K mg "second_share" bj ["web","place"] fJ vQ) (G_second_share:FnOk P w K mg base (CXe P w) 6 fJ vQ ["web","place"] (vD T)):FnOk P w K mg base (CXe P w) 7 f fd ["web"] (j7 T):=by
 refine D.F.okC Dv (fun vs H Q E h=>?_) (fun cdv A outer s H vs Q E hr h=>?_)
 . obtain ⟨p,t,m,ps,rs,rfl,_⟩:=h
   rfl
 . obtain ⟨p,t,m,ps,rs,rfl,W,m8,k⟩:=h;have g:=W.go;have m24:=g.m24;have m1:=g.m1;refine ⟨_,(ak (ay (dF rfl (gj (Nc:=["place","web"]) 1 [0] (by decide +kernel) rfl (by decide +kernel) rfl (by show ∀ (y:Str × NameKind),y∈_->y.2=NameKind.free->(aa bI).names.lookup y.1=some NameKind.cell;decide +kernel) rfl (fun _ h=>dI h) (fun i hi=>match i,hi with|0,_=>⟨"web",0,rfl,rfl,rfl,by decide +kernel⟩|i+1,hi=>absurd hi (by show ¬ i+1<1;omega))) (d5 wj.g T.range (ae (kD  (pvc 0 yz) rfl) ag)) (fun _ _ _ _=>(au (i:=0) (show (["place","web"]:List Str).Nodup from by decide +kernel) rfl (Or.inl rfl))) (fun _ _ _ _=>eU) (fun _ _ _ _=>(am G_second_share (hr.mono (by decide)) (by rfl) gX.m gX.F.kp gX.b .nil (aq hq) (ae (pv 1) (ae (pv 0) ag))))))),?_⟩;rw [show L2.start ["web"] [V.ref p]=[some (V.ref p)] from rfl];obtain ⟨dx,ob⟩:=W.ob;walk_at "rd";refine ⟨T.Web,dx,_,ob,T.iR,T.n_many,_,gO m t,m,rfl,by omega,by omega,fun pc nc=>?_⟩;refine gM (fun i zs σ H3=>Same H H3/\H3 pc=some (.lst zs)/\∃ (qs:List Addr) (fs:List (Int × Int)) (v:Option V),zs=qs.map V.ref/\qs.length=i/\FrsAt H3 qs fs/\(∀ f∈fs,FrB 340 f/\f.1.gcd f.2=1)/\(∀ (i:Nat) f,fs[i]?=some f->(f.1:Rat) / f.2=shr m rs (sep rs) i)/\σ=[v,some (V.ref p)]) ⟨Same.new _ nc,ah,[],[],_,rfl,rfl,.nil,(fun f hf=>nomatch hf),(fun i f h=>by simp at h),rfl⟩ ?_ ?_
   . rintro i zs σ H3 N hN hi ⟨s3,e3,qs,fs,v,rfl,qi,hf,fb,fv,rfl⟩;rw [Int.zero_add];have i0:(0:Int)<=(i:Int):=(by omega);have i1:(i:Int)<m:=(by omega);have fl:qs.length=fs.length:=Paired.length hf;walk_at "rd";refine ⟨p,t,m,ps,rs,(i:Int),rfl,W.same s3,i0,i1,m8,fun f r H4 fB fg fr nr s4 er=>?_⟩;have npr:r≠pc:=fun z=>by rw [z,e3] at nr;cases nr
     refine ⟨s4 _ _ e3,bK (by rw [List.length_map];omega),hN _ _ _ ⟨(s3.trans s4).put nc _,ah,qs++[r],fs++[f],_,by rw [List.map_append];rfl,by rw [List.length_append,qi];rfl,?_,fun f' hf'=>?_,fun j f' hj=>?_,rfl⟩⟩
     . refine tT (by rw [ao npr];exact er) (Paired.imp' (fun q f h=>?_) hf);rw [ao (im (s4 _ _ h) (s4 _ _ e3) (by intro z;cases z))];exact s4 _ _ h
     . rcases List.mem_append.mp hf' with h|h
       . exact fb f' h
       . rw [List.mem_singleton.mp h];exact ⟨fB,fg⟩
     . by_cases c:j<fs.length
       . rw [List.getElem?_append_left c] at hj;exact fv j f' hj
       . have jl:=(List.getElem?_eq_some_iff.mp hj).1;rw [List.length_append,List.length_singleton] at jl;have:j=i:=(by omega);subst this;rw [List.getElem?_append_right (by omega),show j - fs.length=0 by omega] at hj;cases hj;exact fr
   . rintro zs σ H3 ⟨s3,e3,qs,fs,v,rfl,qi,hf,fb,fv,rfl⟩;have fl:qs.length=fs.length:=Paired.length hf;exact k pc qs fs H3 nc s3 e3 hf (by omega) fb fv
def AA (T:Txt K mg):Sp:=fun vs H Q _=>∃ (p t:Addr) (m:Int) (ps:List Addr) (rs:List Road),vs=[.ref p,.int m]/\WebAt T.Web H p m t ps rs/\m<=8/\∀ lo H',H lo=none->Same H H'->H' lo=some (.lst (((below m.toNat).filter (bH m rs)).map V.int))->Q (.ref lo) H'
abbrev b9:Stmt:=top 67
theorem uz:FnScope ["web","many","shares","second"] ["web","many"] (aa b9):=FnScope.of (by kernel_rfl)
theorem u6:NmL (aa b9) "web":=.of (by kernel_rfl)
theorem Cb:NmL (aa b9) "many":=.of (by kernel_rfl)
theorem z0:NmC (aa b9) "shares":=.of (by kernel_rfl)
theorem zZ:NmC (aa b9) "second":=.of (by kernel_rfl)
theorem l7:NmG (aa b9) "even_shares":=.of (by kernel_rfl)
theorem km:NmG (aa b9) "second_shares":=.of (by kernel_rfl)
theorem AH:NmG (aa b9) "range":=.of (by kernel_rfl)
theorem J7 (T:Txt K mg) (hq:aK (CXe P w)) {f:Addr} {fd:FuncData} (D:Df K mg "_law_below" b9 ["web","many"] f fd) {cq:Addr} {d7:FuncData} (bD:Df K mg "even_shares" ci ["web"] cq d7) (G_even_shares:FnOk P w K mg base (CXe P w) 7 cq d7 ["web"] (mq T)) {bJ:Addr} {dq:FuncData} (aZ:Df K mg "second_shares" bI ["web"] bJ dq) (G_second_shares:FnOk P w K mg base (CXe P w) 7 bJ dq ["web"] (j7 T)):FnOk P w K mg base (CXe P w) 8 f fd ["web","many"] (AA T):=by
 refine D.F.okC uz (fun vs H Q E h=>?_) (fun cdv A outer s H vs Q E hr h=>?_)
 . obtain ⟨p,t,m,ps,rs,rfl,_⟩:=h
   rfl
 . obtain ⟨p,t,m,ps,rs,rfl,W,m8,k⟩:=h;have g:=W.go;have m1:=g.m1;refine ⟨_,(ai (ap (i:=2) uz.nd rfl (Or.inr z0.l) (am G_even_shares (hr.mono (by decide)) l7.g bD.m bD.F.kp bD.b .nil (aq hq) (ae (pvl 0 u6) ag) (hdb:=l7.d))) (ai (ap (i:=3) uz.nd rfl (Or.inr zZ.l) (am G_second_shares (hr.mono (by decide)) km.g aZ.m aZ.F.kp aZ.b .nil (aq hq) (ae (pvl 0 u6) ag) (hdb:=km.d))) (ak (ay (dF rfl (gj (Nc:=["place","shares","second"]) 1 [2,3] (by decide +kernel) rfl (by decide +kernel) rfl (by show ∀ (y:Str × NameKind),y∈_->y.2=NameKind.free->(aa b9).names.lookup y.1=some NameKind.cell;decide +kernel) rfl (fun _ h=>dI h) (fun i hi=>match i,hi with|0,_=>⟨"shares",2,rfl,rfl,rfl,by decide +kernel⟩|1,_=>⟨"second",3,rfl,rfl,rfl,by decide +kernel⟩|i+2,hi=>absurd hi (by show ¬ i+2<2;omega))) (d5 AH.g T.range (ae (pvl 1 Cb) ag)) (fun _ _ _ _=>(au (i:=0) (show (["place","shares","second"]:List Str).Nodup from by decide +kernel) rfl (Or.inl rfl))) (fun _ _ _ _=>(yc (PW.pt (k7 (aO rz (az (qB K rfl) (az (qp K rfl) (pv 1) (pv 0) (fun _ _=>rfl)) aj (fun _ _=>rfl)) aj (aI _)) (mW (aO rz (az (qB K rfl) (az (qp K rfl) (pv 2) (pv 0) (fun _ _=>rfl)) aj (fun _ _=>rfl)) aj (aI _))))))) (fun _ _ _ _=>(pv 0))))))),?_⟩;rw [show L2.start ["web","many","shares","second"] [V.ref p,V.int m]=[some (V.ref p),some (V.int m),none,none] from rfl];refine bg fun N1 h1=>?_;walk_at "rd";refine ⟨p,t,m,ps,rs,rfl,W,m8,fun la qa fs H1 na s1 ea fa fl fb fv=>h1 _ _ (bg fun N2 h2=>?_)⟩;walk_at "rd";refine ⟨p,t,m,ps,rs,rfl,W.same s1,m8,fun lb qb gs H2 nb s2 eb gb gl gB gv=>h2 _ _ ?_⟩;have s12:=s1.trans s2;have ea2:=s2 _ _ ea;have fa2:=FrsAt.same s2 fa;walk_at "rd";refine ⟨by omega,by omega,fun lo no=>?_⟩;have qal:qa.length=fs.length:=Paired.length fa;have qbl:qb.length=gs.length:=Paired.length gb;refine gM (fun i zs σ H3=>Same H2 H3/\H3 lo=some (.lst zs)/\zs=((below i).filter (bH m rs)).map V.int/\∃ v,σ=[v,some (V.ref la),some (V.ref lb)]) ⟨Same.new _ no,ah,rfl,_,rfl⟩ ?_ ?_
   . rintro i zs σ H3 N hN hi ⟨s3,e3,rfl,v,rfl⟩;rw [Int.zero_add];have ll:((below i).filter (bH m rs)).length<=8:=by
       have:=List.length_filter_le (bH m rs) (below i);rw [aD] at this;omega
     obtain ⟨f,hf⟩:∃ f,fs[i]?=some f:=⟨_,List.getElem?_eq_getElem (by omega)⟩;obtain ⟨d,hd⟩:∃ d,gs[i]?=some d:=⟨_,List.getElem?_eq_getElem (by omega)⟩;obtain ⟨qi,hqi⟩:∃ q,qa[i]?=some q:=⟨_,List.getElem?_eq_getElem (by omega)⟩;obtain ⟨qj,hqj⟩:∃ q,qb[i]?=some q:=⟨_,List.getElem?_eq_getElem (by omega)⟩;obtain ⟨f',hf',ef⟩:=jD (FrsAt.same s3 fa2) hqi;rw [hf] at hf';cases hf';obtain ⟨d',hd',ed⟩:=jD (FrsAt.same s3 gb) hqj;rw [hd] at hd';cases hd';have fB:=(fb f (List.mem_of_getElem? hf)).1;have dB:=(gB d (List.mem_of_getElem? hd)).1;have n1:(f.1<0)↔shr m rs (evp rs) i<0:=(by rw [<- fv i f hf];exact (tR fB.1).symm);have n2:(d.1<0)↔shr m rs (sep rs) i<0:=(by rw [<- gv i d hd];exact (tR dB.1).symm);have add:bH m rs i=true->N (((below i).filter (bH m rs)).map V.int++[V.int (i:Int)]) [some (V.int (i:Int)),some (V.ref la),some (V.ref lb)] (upd H3 lo (.lst (((below i).filter (bH m rs)).map V.int++[V.int (i:Int)]))):=fun z=>hN _ _ _ ⟨s3.put no _,ah,by rw [pQ,List.filter_append,List.filter_cons_of_pos z,List.map_append];rfl,_,rfl⟩;have sz:(((below i).filter (bH m rs)).map V.int).length<sizeLine:=bK (by rw [List.length_map];omega);walk_at "rd";refine ixL (s3 _ _ ea2) (iC (by rw [List.getElem?_map,hqi];rfl)) (ixT ef rfl ⟨_,rfl,?_⟩);by_cases z1:f.1<0
     . rw [if_pos z1];exact ⟨e3,sz,add (by unfold bH;rw [decide_eq_true (n1.mp z1),Bool.true_or])⟩
     . rw [if_neg z1];refine ixL (s3 _ _ eb) (iC (by rw [List.getElem?_map,hqj];rfl)) (ixT ed rfl ⟨_,rfl,?_⟩);by_cases z2:d.1<0
       . rw [if_pos z2];exact ⟨e3,sz,add (by unfold bH;rw [decide_eq_true (n2.mp z2),Bool.or_true])⟩
       . rw [if_neg z2];have z:¬ bH m rs i=true:=by
           unfold bH;rw [decide_eq_false (fun w=>z1 (n1.mpr w)),decide_eq_false (fun w=>z2 (n2.mpr w))]
           decide
         exact hN _ _ _ ⟨s3,e3,by rw [pQ,List.filter_append,List.filter_cons_of_neg z,List.filter_nil,List.append_nil],_,rfl⟩
   . rintro zs σ H3 ⟨s3,e3,rfl,v,rfl⟩;exact k lo H3 (s12.free no) (s12.trans s3) e3
theorem qA {a b:Int} {m n:Nat} (ha:a.natAbs<2^m) (hb:b.natAbs<2^n) (h:m<=100000/\n<=100000):IntMulOk a b :=
 IntMulOk.of_bits (Nat.le_trans (BX ha) (Nat.le_trans h.1 (by decide))) (Nat.le_trans (BX hb) (Nat.le_trans h.2 (by decide)))
def qy (T:Txt K mg):Sp:=fun vs H Q _=>∃ (a b:Addr) (qs:List Addr) (fs:List (Int × Int)) (ns:List Int),vs=[.ref a,.ref b]/\H a=some (.lst (qs.map V.ref))/\FrsAt H qs fs/\(∀ f∈fs,FrB 990 f)/\H b=some (.lst (ns.map V.int))/\fs.length=ns.length/\fs.length<=24/\(∀ x∈ns,0<x/\x.natAbs<2^500) /\
 ∀ (t:Addr) (x y:Int) (H':Hp),H t=none->Same H H'->H' t=some (.tup [.int x,.int y])->0<y->x.natAbs<2^40000->y.natAbs<2^40000->(x:Rat) / y=aB (fs.zip ns) (fun z=>(z.1.1:Rat) / z.1.2 / z.2)->Q (.ref t) H'
abbrev bC:Stmt:=top 64
theorem fG:FnScope ["shares","prices","top","bottom","share","much"] ["shares","prices"] (aa bC):=FnScope.of (by kernel_rfl)
theorem yi:NmL (aa bC) "shares":=.of (by kernel_rfl)
theorem xF:NmL (aa bC) "prices":=.of (by kernel_rfl)
theorem iP:NmL (aa bC) "top":=.of (by kernel_rfl)
theorem d9:NmL (aa bC) "bottom":=.of (by kernel_rfl)
theorem gN:NmL (aa bC) "share":=.of (by kernel_rfl)
theorem kR:NmL (aa bC) "much":=.of (by kernel_rfl)
theorem Am:NmG (aa bC) "zip":=.of (by kernel_rfl)
theorem FA (T:Txt K mg) (hq:aK (CXe P w)) {f:Addr} {fd:FuncData} (D:Df K mg "_law_divided" bC ["shares","prices"] f fd):FnOk P w K mg base (CXe P w) 1 f fd ["shares","prices"] (qy T):=by
 refine D.F.okC fG (fun vs H Q E h=>?_) (fun cdv A outer s H vs Q E hr h=>?_)
 . obtain ⟨a,b,qs,fs,ns,rfl,_⟩:=h
   rfl
 . obtain ⟨a,b,qs,fs,ns,rfl,ha,hf,fb,hb,fl,f24,nb,k⟩:=h;have ql:qs.length=fs.length:=Paired.length hf;refine ⟨_,(ai (ap (i:=2) fG.nd rfl (Or.inl iP.l) aj) (ai (ap (i:=3) fG.nd rfl (Or.inl d9.l) aj) (ai (eM PassesOwn.never rfl (Rk true true Am.g T.zip (ae (pvl 0 yi) (ae (pvl 1 xF) ag))) (lM (n:=2) rfl (be (au (i:=4) fG.nd rfl (Or.inl gN.l)) (be (au (i:=5) fG.nd rfl (Or.inl kR.l)) ju))) (ai (ap (i:=2) fG.nd rfl (Or.inl iP.l) (aA lu (aA eS (aA eS (pvl 2 iP) (az bf (pvl 4 gN) aj (fun _ _=>rfl))) (pvl 5 kR)) (aA eS (az bf (pvl 4 gN) aj (fun _ _=>rfl)) (pvl 3 d9)))) (ak (ap (i:=3) fG.nd rfl (Or.inl d9.l) (aA eS (aA eS (pvl 3 d9) (az bf (pvl 4 gN) aj (fun _ _=>rfl))) (pvl 5 kR)))))) (ak (ay (d6 (ae (pvl 2 iP) (ae (pvl 3 d9) ag)))))))),?_⟩;rw [show L2.start ["shares","prices","top","bottom","share","much"] [V.ref a,V.ref b]=[some (V.ref a),some (V.ref b),none,none,none,none] from rfl];refine bg fun N1 h1=>?_;walk_at "rd";refine h1 _ _ (bg fun N2 h2=>?_);walk_at "rd";refine h2 _ _ (bg fun N3 h3=>?_);walk_at "rd";refine ⟨a,b,⟨rfl,rfl⟩,⟨_,SqL.of ha⟩,⟨_,SqL.of hb⟩,?_⟩;refine TU (K:=K) (c:=true) (d:=true) (xs:=qs.map V.ref) (ys:=ns.map V.int) (fun i σ H2=>Same H H2/\∃ (x y:Int) (v4 v5:Option V),0<y/\x.natAbs<2^(1+i*1500)/\y.natAbs<2^(1+i*1500)/\(x:Rat) / y=aB ((fs.zip ns).take i) (fun z=>(z.1.1:Rat) / z.1.2 / z.2)/\σ=[some (V.ref a),some (V.ref b),some (V.int x),some (V.int y),v4,v5]) ⟨Same.refl _,0,1,_,_,by decide,by decide,by decide,by rw [List.take_zero];exact (by rw [show ((0:Int):Rat)=0 from rfl,Rat.div_def,Rat.zero_mul];rfl),rfl⟩ (fun i σ H2 z=>⟨SqL.of (z.1 _ _ ha),SqL.of (z.1 _ _ hb)⟩) ?_ ?_
   . rintro i u w σ H2 pq N hN hu hw ⟨s2,x,y,v4,v5,y0,xb,yb,su,rfl⟩ npq;rw [List.getElem?_map] at hu hw;obtain ⟨q,gq,rfl⟩:=Option.map_eq_some_iff.mp hu;obtain ⟨n,gn,rfl⟩:=Option.map_eq_some_iff.mp hw;obtain ⟨f,gf,eq⟩:=jD hf gq;obtain ⟨f0,fb1,fb2⟩:=fb f (List.mem_of_getElem? gf);obtain ⟨n0,nb1⟩:=nb n (List.mem_of_getElem? gn);have il:=(List.getElem?_eq_some_iff.mp gf).1;have s3:=s2.trans (Same.new (.tup [V.ref q,V.int n]) npq);refine U5 (SqT.of ah) ?_;simp only [List.set_cons_zero,List.set_cons_succ];have eq3:=s3 _ _ eq;generalize upd H2 pq (.tup [V.ref q,V.int n])=H3 at s3 eq3 ⊢;have b1:(x*f.2).natAbs<2^(1+i*1500+990):=da xb fb2;have b2:(x*f.2*n).natAbs<2^(1+i*1500+990+500):=da b1 nb1;have b3:(f.1*y).natAbs<2^(990+(1+i*1500)):=da fb1 yb;have b4:(y*f.2).natAbs<2^(1+i*1500+990):=da yb fb2;have b5:(y*f.2*n).natAbs<2^(1+i*1500+990+500):=da b4 nb1;refine bg fun M1 k1=>?_;walk_at "rd";refine kP (SqT.of eq3) rfl ⟨_,rfl,qA xb fb2 (by omega),qA b1 nb1 (by omega),kP (SqT.of eq3) rfl ⟨_,rfl,qA fb1 yb (by omega),k1 _ _ ?_⟩⟩;walk_at "rd";refine kP (SqT.of eq3) rfl ⟨_,rfl,qA yb fb2 (by omega),qA b4 nb1 (by omega),hN _ _ ⟨s3,_,_,_,_,Int.mul_pos (Int.mul_pos y0 f0) n0,?_,b8 b5 (by omega),?_,rfl⟩⟩
     . exact b8 (n5 b2 (b8 b3 (by omega))) (by omega)
     . have gz:(fs.zip ns)[i]?=some (f,n):=(by rw [List.getElem?_zip_eq_some];exact ⟨gf,gn⟩);rw [List.take_succ,gz,Option.toList_some,lD,<- su];have n1:=dj (Int.ne_of_gt f0);have n2:=dj (Int.ne_of_gt n0);have n3:=dj (Int.ne_of_gt y0);rw [Rat.intCast_add,Rat.intCast_mul,Rat.intCast_mul,Rat.intCast_mul,Rat.intCast_mul,Rat.intCast_mul];show _=(x:Rat) / y+(f.1:Rat) / f.2 / n;generalize ((f.2:Int):Rat)=f2 at *;generalize ((n:Int):Rat)=nn at *;generalize ((y:Int):Rat)=yy at *
       grind
   . rintro σ H2 ⟨s2,x,y,v4,v5,y0,xb,yb,su,rfl⟩;refine h3 _ _ ?_;rw [List.length_map,List.length_map,ql,<- fl,Nat.min_self] at xb yb su;rw [List.take_of_length_le (by rw [List.length_zip];omega)] at su;walk_at "rd";exact ⟨aL (by simp),fun t nt=>k t x y _ (s2.free nt) (s2.trans (Same.new _ nt)) ah y0 (b8 xb (by omega)) (b8 yb (by omega)) su⟩
def nA (T:Txt K mg):Sp:=fun vs H Q _=>∃ (d:Addr) (m:Int) (rs:List Road) (p:Int),vs=[.int m,.ref d,.int p]/\TollsAt H d rs/\0<=m/\m<=1000/\∀ l H',H l=none->Same H H'->H' l=some (.lst ((bE m rs p).map V.int))->Q (.ref l) H'
abbrev bS:Stmt:=top 57
theorem G6:FnScope ["many","tolls","place"] ["many","tolls","place"] (aa bS):=FnScope.of (by kernel_rfl)
theorem Bw:NmL (aa bS) "many":=.of (by kernel_rfl)
theorem P2:NmC (aa bS) "tolls":=.of (by kernel_rfl)
theorem P1:NmC (aa bS) "place":=.of (by kernel_rfl)
theorem Ae:NmG (aa bS) "range":=.of (by kernel_rfl)
theorem HN (T:Txt K mg) (hq:aK (CXe P w)) {f:Addr} {fd:FuncData} (D:Df K mg "_law_beside" bS ["many","tolls","place"] f fd):FnOk P w K mg base (CXe P w) 1 f fd ["many","tolls","place"] (nA T):=by
 refine D.F.okC G6 (fun vs H Q E h=>?_) (fun cdv A outer s H vs Q E hr h=>?_)
 . obtain ⟨d,m,rs,p,rfl,_⟩:=h
   rfl
 . obtain ⟨d,m,rs,p,rfl,ta,m0,m1,k⟩:=h;have hu:=EZ hr;obtain ⟨kvs,hk,hv⟩:=ta.ex;refine ⟨_,(ak (ay (dF rfl (gj (Nc:=["other","tolls","place"]) 1 [1,2] (by decide +kernel) rfl (by decide +kernel) rfl (by show ∀ (y:Str × NameKind),y∈_->y.2=NameKind.free->(aa bS).names.lookup y.1=some NameKind.cell;decide +kernel) rfl (fun _ h=>dI h) (fun i hi=>match i,hi with|0,_=>⟨"tolls",1,rfl,rfl,rfl,by decide +kernel⟩|1,_=>⟨"place",2,rfl,rfl,rfl,by decide +kernel⟩|i+2,hi=>absurd hi (by show ¬ i+2<2;omega))) (d5 Ae.g T.range (ae (pvl 0 Bw) ag)) (fun _ _ _ _=>(au (i:=0) (show (["other","tolls","place"]:List Str).Nodup from by decide +kernel) rfl (Or.inl rfl))) (fun _ _ _ _=>(yc (QQ (XQ hu (d6 (ae (pv 2) (ae (pv 0) ag))) (pv 1))))) (fun _ _ _ _=>(pv 0))))),?_⟩;rw [show L2.start ["many","tolls","place"] [V.int m,V.ref d,V.int p]=[some (V.int m),some (V.ref d),some (V.int p)] from rfl];walk_at "rd";refine ⟨by omega,by omega,fun l hl=>?_⟩;refine gM (lo:=0) (n:=m.toNat) (fun i ys σ H2=>Same H H2/\H2 l=some (.lst ys)/\ys=(((below i).filter fun q=>(bG rs p q).isSome).map V.int)/\∃ v,σ=[v,some (V.ref d),some (V.int p)]) ⟨Same.new _ hl,ah,rfl,_,rfl⟩ ?_ ?_
   . rintro i ys σ H2 N hN hi ⟨s2,h2,rfl,v,rfl⟩;walk_at "rd";refine ⟨aL (by simp),fun q nq=>?_⟩;have s3:=Same.new (.tup [V.int p,V.int (0+(i:Int))]) nq;have ll:((List.filter (fun q=>(bG rs p q).isSome) (below i)).map V.int).length<sizeLine:=by
       rw [List.length_map];have a1:=List.length_filter_le (fun q=>(bG rs p q).isSome) (below i);rw [aD] at a1;exact bK (by omega)
     have bs:below (i+1)=below i++[(i:Int)]:=(by unfold below;rw [List.range_succ,List.map_append];rfl);have hg:=DGet.t (k:=[.inl p,.inl (0+(i:Int))]) (s3 _ _ (s2 _ _ hk)) ah;rw [hv] at hg;refine ⟨_,hg,?_⟩;have ez:(0:Int)+(i:Int)=(i:Int):=(by omega);rw [ez] at hg s3 ⊢;cases q':bG rs p (i:Int) with
     | none =>
       refine hN _ _ _ ⟨s2.trans s3,s3 _ _ h2,?_,_,rfl⟩;rw [bs,List.filter_append];simp [q']
     | some t =>
       refine ⟨s3 _ _ h2,ll,hN _ _ _ ⟨?_,ah,?_,_,rfl⟩⟩
       . intro b o hb;rw [ao (aX hb hl)];exact s3 _ _ (s2 _ _ hb)
       . rw [bs,List.filter_append];simp [q']
   . rintro ys σ H2 ⟨s2,h2,rfl,v,rfl⟩;rw [<- QM] at h2;exact k l H2 hl s2 h2
def vk (T:Txt K mg):Nat->Sp
 | 0=>fun _ _ _ _=>False
 | n+1=>fun vs H Q _=>∃ (d a:Addr) (m:Int) (rs:List Road) (r:Int) (par:Int->Int) (dep:Int->Nat) (v:Int) (xs:List Int),vs=[.int m,.ref d,.ref a,.int v,Pb.front r par v]/\TollsAt H d rs/\Good m rs/\H a=some (.lst (xs.map V.int))/\(xs.length:Int)=m/\Rooted m rs r par dep/\(0<=v/\v<m)/\m.toNat<=dep v+1+n /\
   ∀ H',Same H H'->Q (.int (gat m rs r par dep (fun w=>xs.getD w.toNat 0) (giv rs par) v)) H'
def vI (T:Txt K mg):Sp:=vk T 25
abbrev aV:Stmt:=top 65
theorem iE:FnScope ["many","tolls","laying","r","above","found","kid"] ["many","tolls","laying","r","above"] (aa aV):=FnScope.of (by kernel_rfl)
theorem o8:NmL (aa aV) "many":=.of (by kernel_rfl)
theorem jw:NmL (aa aV) "tolls":=.of (by kernel_rfl)
theorem mO:NmL (aa aV) "laying":=.of (by kernel_rfl)
theorem jm:NmL (aa aV) "r":=.of (by kernel_rfl)
theorem xw:NmL (aa aV) "above":=.of (by kernel_rfl)
theorem gm:NmL (aa aV) "found":=.of (by kernel_rfl)
theorem iw:NmL (aa aV) "kid":=.of (by kernel_rfl)
theorem kh:NmG (aa aV) "_law_beside":=.of (by kernel_rfl)
theorem jH:NmG (aa aV) "_law_gathered":=.of (by kernel_rfl)
theorem C7 (T:Txt K mg) (hq:aK (CXe P w)) {f:Addr} {fd:FuncData} (D:Df K mg "_law_gathered" aV ["many","tolls","laying","r","above"] f fd) {cF:Addr} {eY:FuncData} (cI:Df K mg "_law_beside" bS ["many","tolls","place"] cF eY) (G_law_beside:FnOk P w K mg base (CXe P w) 1 cF eY ["many","tolls","place"] (nA T)):∀ n:Nat,FnOk P w K mg base (CXe P w) (n+2) f fd ["many","tolls","laying","r","above"] (vk T n):=by
 intro n;have D_law_gathered:=D
 induction n with
 | zero=>exact D.F.okC iE (fun vs H Q E h=>h.elim) (fun cdv A outer s H vs Q E hr h=>h.elim)
 | succ n G_law_gathered =>
 refine D.F.okC iE (fun vs H Q E h=>?_) (fun cdv A outer s H vs Q E hr h=>?_)
 . obtain ⟨d,a,m,rs,r,par,dep,v,xs,rfl,_⟩:=h
   rfl
 . obtain ⟨d,a,m,rs,r,par,dep,v,xs,rfl,ta,g,ha,xl,R,vr,fu,k⟩:=h;have hu:=EZ hr;have m24:=g.m24;refine ⟨_,(ai (ap (i:=5) iE.nd rfl (Or.inl gm.l) (az bz (pvl 2 mO) (pvl 3 jm) (fun _ _=>rfl))) (ai (eM PassesOwn.never rfl (kN (am G_law_beside (hr.mono (by omega)) kh.g cI.m cI.F.kp cI.b .nil (aq hq) (ae (pvl 0 o8) (ae (pvl 1 jw) (ae (pvl 3 jm) ag))) (hdb:=kh.d))) (au (i:=6) iE.nd rfl (Or.inl iw.l)) (ak (bZ (aO mh (pvl 6 iw) (pvl 4 xw) (aI _)) (ak (ap (i:=5) iE.nd rfl (Or.inl gm.l) (aA lu (pvl 5 gm) (aA tS (am G_law_gathered (hr.mono (by omega)) jH.g D_law_gathered.m D_law_gathered.F.kp D_law_gathered.b .nil (aq hq) (ae (pvl 0 o8) (ae (pvl 1 jw) (ae (pvl 2 mO) (ae (pvl 6 iw) (ae (pvl 3 jm) ag))))) (hdb:=jH.d)) (NA hu (pvl 1 jw) (d6 (ae (pvl 6 iw) (ae (pvl 3 jm) ag))) (fun _ _=>rfl)))))) aW))) (ak (ay (pvl 5 gm))))),?_⟩;rw [show L2.start ["many","tolls","laying","r","above","found","kid"] [V.int m,V.ref d,V.ref a,V.int v,Pb.front r par v]=[some (V.int m),some (V.ref d),some (V.ref a),some (V.int v),some (Pb.front r par v),none,none] from rfl];walk_at "rd";refine ixL ha (atG vr.1 (by omega)) ?_;refine ⟨d,m,rs,v,rfl,ta,by omega,by omega,fun l2 H2 n2 s2 e2=>⟨l2,rfl,⟨_,SqL.of e2⟩,?_⟩⟩;have mk:∀ u,u∈bq m rs (Pb.front r par v) v↔(0<=u/\u<m)/\u≠r/\par u=v:=fun u=>fA g R vr.1 vr.2;have hfv:Pb.front r par v=.non\/∃ i,Pb.front r par v=.int i:=by
     unfold Pb.front;by_cases c:v=r
     . rw [if_pos c];exact .inl rfl
     . rw [if_neg c];exact .inr ⟨_,rfl⟩
   refine oC (K:=K) (xs:=(bE m rs v).map V.int) (fun i σ H3=>Same H2 H3/\∃ v6,σ=[some (V.int m),some (V.ref d),some (V.ref a),some (V.int v),some (Pb.front r par v),some (V.int (xs.getD v.toNat 0+((((bE m rs v).take i).filter fun u=>decide (V.int u≠Pb.front r par v)).map fun c=>giv rs par c (gat m rs r par dep (fun w=>xs.getD w.toNat 0) (giv rs par) c)).sum)),v6]) ⟨Same.refl _,none,?_⟩ (fun i σ H3 _ z=>SqL.of (z.1 _ _ e2)) ?_ ?_
   . simp
   . rintro i x σ H3 NI hI hi ⟨s3,v6,rfl⟩;rw [List.getElem?_map] at hi;obtain ⟨b,hb,rfl⟩:=Option.map_eq_some_iff.mp hi;have et:(bE m rs v).take (i+1)=(bE m rs v).take i++[b]:=(by rw [List.take_succ,hb];rfl);have sc:ui (V.int b) (Pb.front r par v)=true:=by
       rcases hfv with z|⟨i,z⟩ <;> rw [z] <;> rfl
     walk_at "rd";refine ⟨sc,?_⟩;by_cases c2:V.int b=Pb.front r par v
     . rw [if_neg (fun z=>z c2)];refine hI _ _ ⟨s3,some (V.int b),?_⟩;rw [et,List.filter_append];simp [c2]
     . rw [if_pos c2];have bk:b∈bq m rs (Pb.front r par v) v:=List.mem_filter.mpr ⟨List.mem_of_getElem? hb,decide_eq_true c2⟩;obtain ⟨br,bn,bp⟩:=(mk b).mp bk;have fb:Pb.front r par b=V.int v:=(by unfold Pb.front;rw [if_neg bn,bp]);have db:=R.pos br.1 br.2 bn;rw [bp] at db;have db2:=rE R br.1 br.2;obtain ⟨n',rfl⟩:∃ n',n=n'+1:=⟨n - 1,by omega⟩;obtain ⟨kk,hk,k0,k1⟩:=F2 g R br.1 br.2 bn;rw [bp] at hk;have s23:=s2.trans s3;refine ⟨d,a,m,rs,r,par,dep,b,xs,by rw [fb],ta.same s23,g,s23 _ _ ha,xl,R,br,by omega,fun H4 s4=>⟨aL (by simp),fun q nq=>?_⟩⟩;have s24:=s23.trans s4;obtain ⟨kvs,hkv,hv2⟩:=(ta.same s24).ex;have hg:=DGet.t (k:=[.inl b,.inl v]) (Same.new (.tup [V.int b,V.int v]) nq _ _ hkv) ah;rw [hv2,hk] at hg;refine ⟨_,hg,_,rfl,kk,rfl,⟨by omega,by omega⟩,hI _ _ ⟨s3.trans (s4.trans (Same.new _ nq)),some (V.int b),?_⟩⟩;have eg:giv rs par b (gat m rs r par dep (fun w=>xs.getD w.toNat 0) (giv rs par) b)=gat m rs r par dep (fun w=>xs.getD w.toNat 0) (giv rs par) b / kk:=by
         unfold giv;rw [bp,hk]
         rfl
       rw [et,List.filter_append,List.filter_cons_of_pos (p:=fun u=>decide (V.int u≠Pb.front r par v)) (decide_eq_true c2),List.map_append,List.sum_append,List.filter_nil,List.map_cons,List.map_nil,List.sum_singleton,eg,Int.add_assoc]
   . rintro σ H3 ⟨s3,v6,rfl⟩;rw [List.length_map,List.take_length];refine ⟨_,rfl,?_⟩;have:=k H3 (s2.trans s3);rw [DF g R vr.1 vr.2] at this;exact this
theorem D3 (T:Txt K mg) (hq:aK (CXe P w)) {f:Addr} {fd:FuncData} (D:Df K mg "_law_gathered" aV ["many","tolls","laying","r","above"] f fd) {cF:Addr} {eY:FuncData} (cI:Df K mg "_law_beside" bS ["many","tolls","place"] cF eY) (G_law_beside:FnOk P w K mg base (CXe P w) 1 cF eY ["many","tolls","place"] (nA T)):FnOk P w K mg base (CXe P w) 27 f fd ["many","tolls","laying","r","above"] (vI T):=C7 T hq D cI G_law_beside 25
def CA (T:Txt K mg):Sp:=fun vs H Q _=>∃ (i j:Int),vs=[.int i,.int j]/\0<=i/\0<=j/\Q (.int (i.gcd j:Int)) H
abbrev eI:Stmt:=top 60
theorem rp:FnScope ["one","other","rest"] ["one","other"] (aa eI):=FnScope.of (by kernel_rfl)
theorem pK:NmL (aa eI) "one":=.of (by kernel_rfl)
theorem jo:NmL (aa eI) "other":=.of (by kernel_rfl)
theorem uK:NmL (aa eI) "rest":=.of (by kernel_rfl)
theorem MN (T:Txt K mg) (hq:aK (CXe P w)) {f:Addr} {fd:FuncData} (D:Df K mg "_law_part" eI ["one","other"] f fd):FnOk P w K mg base (CXe P w) 1 f fd ["one","other"] (CA T):=by
 refine D.F.okC rp (fun vs H Q E h=>?_) (fun cdv A outer s H vs Q E hr h=>?_)
 . obtain ⟨i,j,rfl,_⟩:=h
   rfl
 . obtain ⟨i,j,rfl,i0,j0,k⟩:=h;refine ⟨_,(ai (oh PassesOwn.never (aO BN (pvl 1 jo) aj (aI _)) (ai (ap (i:=2) rp.nd rfl (Or.inl uK.l) (aA jE (pvl 0 pK) (pvl 1 jo))) (ai (ap (i:=0) rp.nd rfl (Or.inl pK.l) (pvl 1 jo)) (ak (ap (i:=1) rp.nd rfl (Or.inl jo.l) (pvl 2 uK)))))) (ak (ay (pvl 0 pK)))),?_⟩;rw [show L2.start ["one","other","rest"] [V.int i,V.int j]=[some (V.int i),some (V.int j),none] from rfl];refine bg fun N1 h1=>?_;refine xU (fun n σ H'=>H'=H/\∃ (x y:Int) (v:Option V),n=y.toNat/\0<=x/\0<=y/\x.gcd y=i.gcd j/\σ=[some (V.int x),some (V.int y),v]) j.toNat ⟨rfl,i,j,_,rfl,i0,j0,rfl,rfl⟩ ?_;rintro n σ H' N BB hBB hN hN2 ⟨rfl,x,y,v,rfl,x0,y0,e,rfl⟩;refine hBB _ _ _ ?_;walk_at "rd";by_cases c:0<y
   . rw [if_pos c];have h2:=Int.emod_lt_of_pos x c;have h3:=Int.emod_nonneg x (Int.ne_of_gt c);refine ⟨N,fun σ' H2 w=>?_,c,hN (x % y).toNat _ _ (by omega) ⟨rfl,y,x % y,_,rfl,y0,h3,by rw [Xr];exact e,rfl⟩⟩;obtain ⟨m',lt,e1,x',y',v',e2,e3,e4,e5,e6⟩:=hN2 _ _ w;exact ⟨m',lt,e1,x',y',e2,e3,e4,e5,v',e6⟩
   . have:y=0:=(by omega);subst this;rw [if_neg c];refine h1 _ _ ?_;walk_at "rd";rw [Int.gcd_zero_right] at e;rw [show x=(i.gcd j:Int) by omega];exact k
def uR (T:Txt K mg):Sp:=fun vs H Q _=>∃ i:Int,vs=[.int i]/\Q (.bl true) H
abbrev cY:Stmt:=top 59
theorem JQ:FnScope ["found"] ["found"] (aa cY):=FnScope.of (by kernel_rfl)
theorem rZ:NmL (aa cY) "found":=.of (by kernel_rfl)
theorem cR:NmG (aa cY) "isinstance":=.of (by kernel_rfl)
theorem n9:NmG (aa cY) "int":=.of (by kernel_rfl)
theorem mK:NmG (aa cY) "bool":=.of (by kernel_rfl)
theorem JT (T:Txt K mg) (hq:aK (CXe P w)) {f:Addr} {fd:FuncData} (D:Df K mg "_law_whole" cY ["found"] f fd):FnOk P w K mg base (CXe P w) 1 f fd ["found"] (uR T):=by
 refine D.F.okC JQ (fun vs H Q E h=>?_) (fun cdv A outer s H vs Q E hr h=>?_)
 . obtain ⟨i,rfl,_⟩:=h
   rfl
 . obtain ⟨i,rfl,k⟩:=h;refine ⟨_,(ak (ay (uZ (aN kO cR.g T.isinstance iA (ae (pvl 0 rZ) (ae (tQ (v:=.ty "int") n9.g T.int QK rfl (hn:=n9.n) (hd:=n9.d)) ag)) (hn:=cR.n) (hdb:=cR.d)) (xt (P8 (aN kO cR.g T.isinstance iA (ae (pvl 0 rZ) (ae (tQ (v:=.ty "bool") mK.g T.bool Vc rfl (hn:=mK.n) (hd:=mK.d)) ag)) (hn:=cR.n) (hdb:=cR.d))))))),?_⟩;rw [show L2.start ["found"] [V.int i]=[some (V.int i)] from rfl];walk_at "rd";refine ⟨_,_,_,true,rfl,.int i,fun cv h=>by cases h;rfl,_,rfl,?_⟩;rw [if_pos rfl];refine ⟨_,_,_,false,rfl,.int i,fun cv h=>by cases h;rfl,_,rfl,?_⟩;exact k
def rL (T:Txt K mg):Sp:=fun vs H Q _=>∃ (a:Addr) (p q:Int),vs=[.ref a]/\H a=some (.tup [.int p,.int q])/\0<q/\p.gcd q=1/\Q (.bl true) H
abbrev aR:Stmt:=top 61
theorem BE:FnScope ["found"] ["found"] (aa aR):=FnScope.of (by kernel_rfl)
theorem bX:NmL (aa aR) "found":=.of (by kernel_rfl)
theorem eZ:NmG (aa aR) "isinstance":=.of (by kernel_rfl)
theorem ii:NmG (aa aR) "tuple":=.of (by kernel_rfl)
theorem jc:NmG (aa aR) "len":=.of (by kernel_rfl)
theorem dE:NmG (aa aR) "_law_whole":=.of (by kernel_rfl)
theorem jU:NmG (aa aR) "_law_part":=.of (by kernel_rfl)
theorem iW:NmG (aa aR) "abs":=.of (by kernel_rfl)
theorem An (T:Txt K mg) (hq:aK (CXe P w)) {f:Addr} {fd:FuncData} (D:Df K mg "_law_is_fraction" aR ["found"] f fd) {jW:Addr} {CK:FuncData} (mw:Df K mg "_law_part" eI ["one","other"] jW CK) (G_law_part:FnOk P w K mg base (CXe P w) 1 jW CK ["one","other"] (CA T)) {eA:Addr} {lZ:FuncData} (cK:Df K mg "_law_whole" cY ["found"] eA lZ) (G_law_whole:FnOk P w K mg base (CXe P w) 1 eA lZ ["found"] (uR T)):FnOk P w K mg base (CXe P w) 2 f fd ["found"] (rL T):=by
 refine D.F.okC BE (fun vs H Q E h=>?_) (fun cdv A outer s H vs Q E hr h=>?_)
 . obtain ⟨a,p,q,rfl,_⟩:=h
   rfl
 . obtain ⟨a,p,q,rfl,ha,q0,o,k⟩:=h;refine ⟨_,(ai (bZ (PW.pt (k7 (eP (fw (aN kO eZ.g T.isinstance iA (ae (pvl 0 bX) (ae (tQ (v:=.ty "tuple") ii.g T.tuple uJ rfl (hn:=ii.n) (hd:=ii.d)) ag)) (hn:=eZ.n) (hdb:=eZ.d)))) (k7 (aO mh (aN bM jc.g T.len fU (ae (pvl 0 bX) ag) (hn:=jc.n) (hdb:=jc.d)) aj (aI _)) (k7 (eP (fw (am G_law_whole (hr.mono (by decide)) dE.g cK.m cK.F.kp cK.b .nil (aq hq) (ae (az bf (pvl 0 bX) aj (fun _ _=>rfl)) ag) (hdb:=dE.d)))) (mW (eP (fw (am G_law_whole (hr.mono (by decide)) dE.g cK.m cK.F.kp cK.b .nil (aq hq) (ae (az bf (pvl 0 bX) aj (fun _ _=>rfl)) ag) (hdb:=dE.d))))))))) (ak (ay ik)) aW) (ak (ay (uZ (gZ BN (az bf (pvl 0 bX) aj (fun _ _=>rfl)) aj (aI _)) (xt (gZ jX (am G_law_part (hr.mono (by decide)) jU.g mw.m mw.F.kp mw.b .nil (aq hq) (ae (aN Jc iW.g T.abs Qv (ae (az bf (pvl 0 bX) aj (fun _ _=>rfl)) ag) (hn:=iW.n) (hdb:=iW.d)) (ae (az bf (pvl 0 bX) aj (fun _ _=>rfl)) ag)) (hdb:=jU.d)) aj (aI _))))))),?_⟩;rw [show L2.start ["found"] [V.ref a]=[some (V.ref a)] from rfl];refine bg fun N1 h1=>?_;walk_at "rd";refine ⟨_,_,_,true,rfl,.tup ha,fun cv h=>by cases h;rfl,_,rfl,?_⟩;rw [if_neg (by decide)];refine ⟨_,.inr (SqT.of ha),?_⟩;rw [if_neg (fun z=>z rfl)];refine kP (SqT.of ha) rfl ⟨p,rfl,_,rfl,?_⟩;rw [if_neg (by decide)];refine kP (SqT.of ha) rfl ⟨q,rfl,_,rfl,?_⟩;rw [if_neg (by decide)];refine h1 _ _ ?_;walk_at "rd";refine kP (SqT.of ha) rfl ⟨q,rfl,?_⟩;rw [if_pos q0];refine kP (SqT.of ha) rfl ⟨p,rfl,kP (SqT.of ha) rfl ?_⟩;rw [Qn];refine ⟨_,q,rfl,Int.natCast_nonneg _,Int.le_of_lt q0,rfl,?_⟩;rw [Vf,o];exact k
def u7 (T:Txt K mg):Sp:=fun vs H Q _=>∃ (l:Addr) (qs:List Addr) (fs:List (Int × Int)) (m:Int),vs=[.ref l,.int m]/\H l=some (.lst (qs.map V.ref))/\FrsAt H qs fs/\(∀ f∈fs,0<f.2/\f.1.gcd f.2=1)/\(fs.length:Int)=m/\m<=24/\∀ H',Same H H'->Q (.bl true) H'
abbrev bu:Stmt:=top 62
theorem Dj:FnScope ["found","many"] ["found","many"] (aa bu):=FnScope.of (by kernel_rfl)
theorem jd:NmL (aa bu) "found":=.of (by kernel_rfl)
theorem xo:NmL (aa bu) "many":=.of (by kernel_rfl)
theorem fV:NmG (aa bu) "isinstance":=.of (by kernel_rfl)
theorem jM:NmG (aa bu) "list":=.of (by kernel_rfl)
theorem jZ:NmG (aa bu) "len":=.of (by kernel_rfl)
theorem j3:NmG (aa bu) "all":=.of (by kernel_rfl)
theorem Dh (T:Txt K mg) (hq:aK (CXe P w)) {f:Addr} {fd:FuncData} (D:Df K mg "_law_fractions" bu ["found","many"] f fd) {dH:Addr} {rF:FuncData} (eT:Df K mg "_law_is_fraction" aR ["found"] dH rF) (G_law_is_fraction:FnOk P w K mg base (CXe P w) 2 dH rF ["found"] (rL T)):FnOk P w K mg base (CXe P w) 3 f fd ["found","many"] (u7 T):=by
 refine D.F.okC Dj (fun vs H Q E h=>?_) (fun cdv A outer s H vs Q E hr h=>?_)
 . obtain ⟨l,qs,fs,m,rfl,_⟩:=h
   rfl
 . obtain ⟨l,qs,fs,m,rfl,hl,hf,fo,fl,m24,k⟩:=h;refine ⟨_,(ai (bZ (PW.pt (k7 (eP (fw (aN kO fV.g T.isinstance iA (ae (pvl 0 jd) (ae (tQ (v:=.ty "list") jM.g T.list BR rfl (hn:=jM.n) (hd:=jM.d)) ag)) (hn:=fV.n) (hdb:=fV.d)))) (mW (aO mh (aN bM jZ.g T.len fU (ae (pvl 0 jd) ag) (hn:=jZ.n) (hdb:=jZ.d)) (pvl 1 xo) (aI _))))) (ak (ay ik)) aW) (ak (ay (aN (JH rfl) j3.g T.all Rt (ae (dF rfl (nZ (Nc:=["one"]) 1 (by decide +kernel) (by decide +kernel) rfl (by decide +kernel) rfl) (uA true (pvl 0 jd)) (fun _ _ _ _=>(au (i:=0) (show (["one"]:List Str).Nodup from by decide +kernel) rfl (Or.inl rfl))) (fun _ _ _ _=>eU) (fun _ _ _ _=>(am G_law_is_fraction (hr.mono (by decide)) (by rfl) eT.m eT.F.kp eT.b .nil (aq hq) (ae (pv 0) ag)))) ag) (hn:=j3.n) (hdb:=j3.d))))),?_⟩;rw [show L2.start ["found","many"] [V.ref l,V.int m]=[some (V.ref l),some (V.int m)] from rfl];have ql:qs.length=fs.length:=Paired.length hf;walk_at "rd";refine ⟨_,_,_,true,rfl,.lst hl,fun cv h=>by cases h;rfl,_,rfl,?_⟩;rw [if_neg (by decide)];refine ⟨_,.inl (SqL.of hl),?_⟩;rw [List.length_map,if_neg (fun z=>z (by omega))];refine ⟨⟨_,SqL.of hl⟩,fun pc nc=>?_⟩;refine iX (K:=K) (c:=true) (xs:=qs.map V.ref) (fun i zs σ H3=>Same H H3/\H3 pc=some (.lst zs)/\zs=(List.replicate i true).map V.bl/\∃ v,σ=[v]) ⟨Same.new _ nc,ah,rfl,_,rfl⟩ (fun i zs σ H3 _ z=>SqL.of (z.1 _ _ hl)) ?_ ?_
   . rintro i x zs σ H3 N hN hx ⟨s3,e3,rfl,v,rfl⟩;rw [List.getElem?_map] at hx;obtain ⟨q,gq,rfl⟩:=Option.map_eq_some_iff.mp hx;obtain ⟨f,gf,eq⟩:=jD hf gq;obtain ⟨o1,o2⟩:=fo f (List.mem_of_getElem? gf);have il:=(List.getElem?_eq_some_iff.mp gf).1;walk_at "rd";refine ⟨q,f.1,f.2,rfl,s3 _ _ eq,o1,o2,e3,bK (by rw [List.length_map,List.length_replicate];omega),hN _ _ _ ⟨s3.put nc _,ah,?_,_,rfl⟩⟩;rw [List.replicate_succ',List.map_append]
     rfl
   . rintro zs σ H3 ⟨s3,e3,rfl,v,rfl⟩;refine ⟨pc,rfl,_,SqL.of e3,?_⟩;rw [show (List.replicate (qs.map V.ref).length true).all id=true by rw [List.all_replicate];simp];exact k _ s3
def AU (T:Txt K mg):Sp:=fun vs H Q _=>∃ (d:Addr) (m:Int) (rs:List Road) (r:Int),vs=[.int m,.ref d,.int r]/\TollsAt H d rs/\Good m rs/\0<=r/\r<m /\
 ∃ par dep,Rooted m rs r par dep/\∀ l H',H l=none->Same H H'->H' l=some (.lst (qC m r par))->Q (.ref l) H'
abbrev bO:Stmt:=top 58
theorem jt:FnScope ["many","tolls","r","found","row","at","other"] ["many","tolls","r"] (aa bO):=FnScope.of (by kernel_rfl)
theorem tf:NmL (aa bO) "many":=.of (by kernel_rfl)
theorem Bi:NmL (aa bO) "tolls":=.of (by kernel_rfl)
theorem FO:NmL (aa bO) "r":=.of (by kernel_rfl)
theorem iU:NmL (aa bO) "found":=.of (by kernel_rfl)
theorem fH:NmL (aa bO) "row":=.of (by kernel_rfl)
theorem eN:NmL (aa bO) "at":=.of (by kernel_rfl)
theorem iM:NmL (aa bO) "other":=.of (by kernel_rfl)
theorem nK:NmG (aa bO) "len":=.of (by kernel_rfl)
theorem mB:NmG (aa bO) "_law_beside":=.of (by kernel_rfl)
theorem KW (T:Txt K mg) (hq:aK (CXe P w)) {f:Addr} {fd:FuncData} (D:Df K mg "_law_ahead" bO ["many","tolls","r"] f fd) {cF:Addr} {eY:FuncData} (cI:Df K mg "_law_beside" bS ["many","tolls","place"] cF eY) (G_law_beside:FnOk P w K mg base (CXe P w) 1 cF eY ["many","tolls","place"] (nA T)):FnOk P w K mg base (CXe P w) 2 f fd ["many","tolls","r"] (AU T):=by
 refine D.F.okC jt (fun vs H Q E h=>?_) (fun cdv A outer s H vs Q E hr h=>?_)
 . obtain ⟨d,m,rs,r,rfl,_⟩:=h
   rfl
 . obtain ⟨d,m,rs,r,rfl,ta,g,r0,r1,par,dep,R,k⟩:=h;have m24:=g.m24;refine ⟨_,(ai (ap (i:=3) jt.nd rfl (Or.inl iU.l) (aA xY (cP (ae Jq ag)) (pvl 0 tf))) (ai (ap (i:=4) jt.nd rfl (Or.inl fH.l) (cP (ae (pvl 2 FO) ag))) (ai (ap (i:=5) jt.nd rfl (Or.inl eN.l) aj) (ai (oh PassesOwn.never (aO rz (pvl 5 eN) (aN bM nK.g T.len fU (ae (pvl 4 fH) ag) (hn:=nK.n) (hdb:=nK.d)) (aI _)) (ai (eM PassesOwn.never rfl (kN (am G_law_beside (hr.mono (by decide)) mB.g cI.m cI.F.kp cI.b .nil (aq hq) (ae (pvl 0 tf) (ae (pvl 1 Bi) (ae (az bz (pvl 4 fH) (pvl 5 eN) (fun _ _=>rfl)) ag))) (hdb:=mB.d))) (au (i:=6) jt.nd rfl (Or.inl iM.l)) (ak (bZ (aO mh (pvl 6 iM) (az bz (pvl 3 iU) (az bz (pvl 4 fH) (pvl 5 eN) (fun _ _=>rfl)) (fun _ _=>rfl)) (aI _)) (ai (mZ (az bz (pvl 4 fH) (pvl 5 eN) (fun _ _=>rfl)) (xz (pvl 3 iU) (pvl 6 iM) qQ)) (ak (cZ (mx PySem.F.plainAttrs_list PySem.F.slot_list_append PySem.F.type_list_append eW (pvl 4 fH) (ae (pvl 6 iM) ag))))) aW))) (ak (ap (i:=5) jt.nd rfl (Or.inl eN.l) (aA lu (pvl 5 eN) aj))))) (ak (ay (pvl 3 iU))))))),?_⟩;rw [show L2.start ["many","tolls","r","found","row","at","other"] [V.int m,V.ref d,V.int r]=[some (V.int m),some (V.ref d),some (V.int r),none,none,none,none] from rfl];walk_at "rd";refine ⟨by decide,fun l1 n1=>?_⟩;have s1:=Same.new (.lst [V.non]) n1;refine ⟨l1,m,[V.non],rfl,rfl,ah,by omega,by omega,aL (by simp;omega),fun l2 n2=>?_⟩;have n20:H l2=none:=s1.free n2;rw [Kr,<- Q1 (par:=par)];have s2:=s1.trans (Same.new (.lst (nl m par [])) n2);refine ⟨aL (by simp),fun l3 n3=>?_⟩;have n30:H l3=none:=s2.free n3;have n32:l3≠l2:=fun z=>by rw [z,ah] at n3;cases n3
   have s3:=s2.trans (Same.new (.lst [V.int r]) n3);have e2:upd (upd (upd H l1 (.lst [V.non])) l2 (.lst (nl m par []))) l3 (.lst [V.int r]) l2=some (.lst (nl m par [])):=by rw [ao n32.symm,ah]
   have e3:upd (upd (upd H l1 (.lst [V.non])) l2 (.lst (nl m par []))) l3 (.lst [V.int r]) l3=some (.lst [V.int r]):=ah;generalize upd (upd (upd H l1 (.lst [V.non])) l2 (.lst (nl m par []))) l3 (.lst [V.int r])=H3 at s3 e2 e3 ⊢;refine Gk (fun n σ H4=>∃ (ks:List Int) (a:Nat) (v6:Option V),n=m.toNat - a/\a<=(r::ks).length/\σ=[some (.int m),some (.ref d),some (.int r),some (.ref l2),some (.ref l3),some (.int (a:Int)),v6]/\Same H H4/\H4 l2=some (.lst (nl m par ks))/\H4 l3=some (.lst ((r::ks).map V.int))/\AInv m rs r par ks ((r::ks).drop a)) m.toNat ⟨[],0,_,rfl,Nat.zero_le _,rfl,s3,e2,e3,AInv.start⟩ ?_;rintro n σ H4 NW hN hN2 ⟨ks,a,v6,rfl,al,rfl,s4,h2,h3,J⟩;have kl:=dv (m:=m) (by omega) (List.nodup_cons.mpr ⟨J.nr,J.nd⟩) fun w hw=>by
     rcases List.mem_cons.mp hw with rfl|z
     . exact ⟨r0,r1⟩
     . exact J.rng w z
   walk_at "rd";refine ⟨_,.inl (SqL.of h3),?_⟩;rw [List.length_map];by_cases c:a<(r::ks).length
   . rw [if_pos (by omega)];refine ⟨NW,fun σ' H' z=>?_,?_⟩
     . obtain ⟨m',lt,ks',a',v,e1,e2,e3,e4⟩:=hN2 _ _ z;exact ⟨m',lt,ks',a',e1,e2,v,e3,e4⟩
     have qa:(r::ks)[a]?=some (r::ks)[a]:=List.getElem?_eq_getElem c;have dr:(r::ks).drop a=(r::ks)[a]::(r::ks).drop (a+1):=List.drop_eq_getElem_cons c;generalize (r::ks)[a]=q at qa dr;rw [dr] at J;have hq:q∈q::(r::ks).drop (a+1):=List.mem_cons_self;have pr:=J.at_ r0 r1 hq;have J2:=J.step g R r0 r1 (List.Perm.refl _);have mk:∀ v,v∈bq m rs (Pb.front r par q) q↔(0<=v/\v<m)/\v≠r/\par v=q:=fun v=>fA g R pr.1 pr.2;have fr:=J.front hq;have qk:q ∉ bq m rs (Pb.front r par q) q:=fun z=>by
       obtain ⟨w1,w2,w3⟩:=(mk q).mp z;exact R.ne w1.1 w1.2 w2 w3
     have hfv:Pb.front r par q=.non\/∃ i,Pb.front r par q=.int i:=by
       unfold Pb.front;by_cases c:q=r
       . rw [if_pos c];exact .inl rfl
       . rw [if_neg c];exact .inr ⟨_,rfl⟩
     have kl2:=dv (by omega) J2.nd J2.rng;rw [List.length_append] at kl2;refine ixL h3 (iC (by rw [List.getElem?_map,qa];rfl)) ?_;refine ⟨d,m,rs,q,rfl,ta.same s4,by omega,by omega,fun l6 H6 n6 s6 e6=>⟨l6,rfl,⟨_,SqL.of e6⟩,?_⟩⟩;have n62:l6≠l2:=fun z=>by rw [z,h2] at n6;cases n6
     have n63:l6≠l3:=fun z=>by rw [z,h3] at n6;cases n6
     have rowA:∀ l:List Int,((r::(ks++l)).map V.int)[a]?=some (V.int q):=fun l=>by
       rw [List.getElem?_map,<- List.cons_append,List.getElem?_append_left c,qa];rfl
     refine oC (K:=K) (xs:=(bE m rs q).map V.int) (fun i σ H7=>∃ v6,σ=[some (.int m),some (.ref d),some (.int r),some (.ref l2),some (.ref l3),some (.int (a:Int)),v6]/\Same H H7/\H7 l6=some (.lst ((bE m rs q).map V.int))/\H7 l2=some (.lst (nl m par (ks++((bE m rs q).take i).filter fun v=>decide (V.int v≠Pb.front r par q)))) /\
       H7 l3=some (.lst ((r::(ks++((bE m rs q).take i).filter fun v=>decide (V.int v≠Pb.front r par q))).map V.int))) ⟨_,rfl,s4.trans s6,e6,?_,?_⟩ (fun i σ H7 _ z=>by obtain ⟨_,_,_,z,_⟩:=z;exact SqL.of z) ?_ ?_
     . rw [List.take_zero,List.filter_nil,List.append_nil];exact s6 _ _ h2
     . rw [List.take_zero,List.filter_nil,List.append_nil];exact s6 _ _ h3
     . rintro i x σ H7 NI hI hi ⟨v6,rfl,s7,e7,h27,h37⟩;rw [List.getElem?_map] at hi;obtain ⟨b,hb,rfl⟩:=Option.map_eq_some_iff.mp hi;have et:(bE m rs q).take (i+1)=(bE m rs q).take i++[b]:=(by rw [List.take_succ,hb];rfl);have sub:∀ v∈((bE m rs q).take i).filter (fun v=>decide (V.int v≠Pb.front r par q)),v∈bq m rs (Pb.front r par q) q:=fun v hv=>by
         obtain ⟨h1,h2⟩:=List.mem_filter.mp hv;exact List.mem_filter.mpr ⟨List.mem_of_mem_take h1,h2⟩
       have len:(((bE m rs q).take i).filter (fun v=>decide (V.int v≠Pb.front r par q))).length<=24:=by
         have h1:=List.length_filter_le (fun v=>decide (V.int v≠Pb.front r par q)) ((bE m rs q).take i);have h2:=List.length_filter_le (fun z=>decide (z∈cB rs q)) (below m.toNat);rw [aD] at h2;have h3:(bE m rs q).length<=m.toNat:=h2;rw [List.length_take] at h1;omega
       have ef:(((bE m rs q).take (i+1)).filter fun v=>decide (V.int v≠Pb.front r par q))=(((bE m rs q).take i).filter fun v=>decide (V.int v≠Pb.front r par q))++if V.int b=Pb.front r par q then [] else [b]:=by
         rw [et,List.filter_append];by_cases z:V.int b=Pb.front r par q <;> simp [z]
       rw [ef] at hI;generalize (((bE m rs q).take i).filter fun v=>decide (V.int v≠Pb.front r par q))=kp at h27 h37 sub len hI;have fr2:(if q∈ks++kp then V.int (par q) else V.non)=Pb.front r par q:=by
         rw [<- fr];have:q∈ks++kp↔q∈ks:=⟨fun z=>(List.mem_append.mp z).resolve_right fun y=>qk (sub q y),List.mem_append_left _⟩;simp only [this]
       walk_at "rd";refine ixL h37 (iC (rowA kp)) (ixL h27 (jR pr.1 (K4 pr.1 pr.2)) ?_);rw [fr2];have sc:ui (V.int b) (Pb.front r par q)=true:=by
         rcases hfv with z|⟨i,z⟩ <;> rw [z] <;> rfl
       refine ⟨sc,?_⟩;by_cases c2:V.int b=Pb.front r par q
       . rw [if_neg (fun z=>z c2)];rw [if_pos c2,List.append_nil] at hI;exact hI _ _ ⟨_,rfl,s7,e7,h27,h37⟩
       . rw [if_pos c2];rw [if_neg c2] at hI;obtain ⟨vr,_,vp⟩:=(mk b).mp (List.mem_filter.mpr ⟨List.mem_of_getElem? hb,decide_eq_true c2⟩);refine ixL h37 (iC (rowA kp)) ?_;refine ⟨l2,_,b,b.toNat,rfl,rfl,h27,by unfold ixN;rw [if_pos vr.1,if_pos (by rw [rV];omega)],?_⟩;rw [<- vp,QR vr.1 vr.2,List.append_assoc];have h38:upd H7 l2 (.lst (nl m par (ks++(kp++[b])))) l3=some (.lst ((r::(ks++kp)).map V.int)):=(by rw [ao n32];exact h37);refine ⟨tyL h38,sH h38 (bK (by rw [List.length_map,List.length_cons,List.length_append];omega)) (hI _ _ ⟨_,rfl,(s7.put n20 _).put n30 _,?_,?_,?_⟩)⟩
         . rw [ao n63,ao n62];exact e7
         . rw [ao n32.symm,ah]
         . rw [ah];simp
     . rintro σ H7 ⟨v6,rfl,s7,e7,h27,h37⟩;rw [List.length_map,List.take_length] at h27 h37;walk_at "rd";refine hN (m.toNat - (a+1)) _ _ (by omega) ⟨_,a+1,_,rfl,?_,rfl,s7,h27,h37,?_⟩
       . rw [List.length_cons,List.length_append];rw [List.length_cons] at c;omega
       . rw [<- List.cons_append,List.drop_append_of_le_length (by omega)];exact J2
   . rw [if_neg (by omega)];rw [List.drop_eq_nil_of_le (by omega)] at J;rw [J.done R] at h2;exact k l2 H4 n20 s4 h2
def zX (T:Txt K mg):Sp:=fun vs H Q _=>∃ (d:Addr) (m v:Int) (to:Bool) (rs:List Road) (par:Int->Int) (dep:Int->Nat),vs=[.int m,.ref d,.int v,.bl to]/\TollsAt H d rs/\Good m rs/\0<=v/\v<m/\Rooted m rs v par dep /\
 ∀ l H',H l=none->Same H H'->H' l=some (.lst (((below m.toNat).map (prc rs par dep to)).map V.int))->Q (.ref l) H'
abbrev bd:Stmt:=top 63
theorem dy:FnScope ["many","tolls","v","to","towards","told","place","product","here","step"] ["many","tolls","v","to"] (aa bd):=FnScope.of (by kernel_rfl)
theorem rY:NmL (aa bd) "many":=.of (by kernel_rfl)
theorem pY:NmL (aa bd) "tolls":=.of (by kernel_rfl)
theorem vT:NmL (aa bd) "v":=.of (by kernel_rfl)
theorem Dg:NmL (aa bd) "to":=.of (by kernel_rfl)
theorem gh:NmL (aa bd) "towards":=.of (by kernel_rfl)
theorem lV:NmL (aa bd) "told":=.of (by kernel_rfl)
theorem p6:NmL (aa bd) "place":=.of (by kernel_rfl)
theorem f9:NmL (aa bd) "product":=.of (by kernel_rfl)
theorem cN:NmL (aa bd) "here":=.of (by kernel_rfl)
theorem lS:NmL (aa bd) "step":=.of (by kernel_rfl)
theorem my:NmG (aa bd) "_law_ahead":=.of (by kernel_rfl)
theorem Aa:NmG (aa bd) "range":=.of (by kernel_rfl)
theorem HR (T:Txt K mg) (hq:aK (CXe P w)) {f:Addr} {fd:FuncData} (D:Df K mg "_law_prices" bd ["many","tolls","v","to"] f fd) {jk:Addr} {AL:FuncData} (kL:Df K mg "_law_ahead" bO ["many","tolls","r"] jk AL) (G_law_ahead:FnOk P w K mg base (CXe P w) 2 jk AL ["many","tolls","r"] (AU T)):FnOk P w K mg base (CXe P w) 3 f fd ["many","tolls","v","to"] (zX T):=by
 refine D.F.okC dy (fun vs H Q E h=>?_) (fun cdv A outer s H vs Q E hr h=>?_)
 . obtain ⟨d,m,v,to,rs,par,dep,rfl,_⟩:=h
   rfl
 . obtain ⟨d,m,v,to,rs,par,dep,rfl,td,g,v0,v1,R,k⟩:=h;have hu:=EZ hr;have m24:=g.m24;refine ⟨_,(ai (ap (i:=4) dy.nd rfl (Or.inl gh.l) (am G_law_ahead (hr.mono (by decide)) my.g kL.m kL.F.kp kL.b .nil (aq hq) (ae (pvl 0 rY) (ae (pvl 1 pY) (ae (pvl 2 vT) ag))) (hdb:=my.d))) (ai (ap (i:=5) dy.nd rfl (Or.inl lV.l) (cP ag)) (ai (eM PassesOwn.never rfl (d5 Aa.g T.range (ae (pvl 0 rY) ag)) (au (i:=6) dy.nd rfl (Or.inl p6.l)) (ai (ap (i:=7) dy.nd rfl (Or.inl f9.l) aj) (ai (ap (i:=8) dy.nd rfl (Or.inl cN.l) (pvl 6 p6)) (ai (oh PassesOwn.never (aO mh (pvl 8 cN) (pvl 2 vT) (aI _)) (ai (ap (i:=9) dy.nd rfl (Or.inl lS.l) (d6 (ae (pvl 8 cN) (ae (az bz (pvl 4 gh) (pvl 8 cN) (fun _ _=>rfl)) ag)))) (ai (bZ (eP (nJ (pvl 3 Dg) (fun _=>rfl))) (ak (ap (i:=9) dy.nd rfl (Or.inl lS.l) (d6 (ae (az bz (pvl 4 gh) (pvl 8 cN) (fun _ _=>rfl)) (ae (pvl 8 cN) ag))))) aW) (ai (ap (i:=7) dy.nd rfl (Or.inl f9.l) (aA eS (pvl 7 f9) (NA hu (pvl 1 pY) (pvl 9 lS) (fun _ _=>rfl)))) (ak (ap (i:=8) dy.nd rfl (Or.inl cN.l) (az bz (pvl 4 gh) (pvl 8 cN) (fun _ _=>rfl)))))))) (ak (cZ (mx PySem.F.plainAttrs_list PySem.F.slot_list_append PySem.F.type_list_append eW (pvl 5 lV) (ae (pvl 7 f9) ag)))))))) (ak (ay (pvl 5 lV)))))),?_⟩;rw [show L2.start ["many","tolls","v","to","towards","told","place","product","here","step"] [V.int m,V.ref d,V.int v,V.bl to]=[some (V.int m),some (V.ref d),some (V.int v),some (V.bl to),none,none,none,none,none,none] from rfl];refine bg fun N1 h1=>?_;walk_at "rd";refine ⟨d,m,rs,v,rfl,td,g,v0,v1,par,dep,R,fun lt H1 nlt s1 et=>h1 _ _ (bg fun N2 h2=>?_)⟩;walk_at "rd";refine ⟨aL (by simp),fun ld nld=>h2 _ _ (bg fun N3 h3=>?_)⟩;have s12:=s1.trans (Same.new (.lst []) nld);have nld0:=s1.free nld;have et2:=Same.new (.lst []) nld _ _ et;have ed2:upd H1 ld (.lst []) ld=some (.lst ((((below m.toNat).map (prc rs par dep to)).take 0).map V.int)):=ah;have nlt2:lt≠ld:=fun z=>by rw [<- z,et] at nld;cases nld
   generalize upd H1 ld (.lst [])=H2 at s12 et2 ed2 ⊢;clear s1 et nld;walk_at "rd";refine ⟨by omega,by omega,?_⟩;refine D6 (fun i σ H3=>Same H H3/\H3 lt=some (.lst (qC m v par))/\H3 ld=some (.lst ((((below m.toNat).map (prc rs par dep to)).take i).map V.int))/\∃ v6 v7 v8 v9,σ=[some (V.int m),some (V.ref d),some (V.int v),some (V.bl to),some (V.ref lt),some (V.ref ld),v6,v7,v8,v9]) ⟨s12,et2,ed2,_,_,_,_,rfl⟩ ?_ ?_
   . rintro i σ H3 N BB hBB hN hi ⟨s3,et3,ed3,v6,v7,v8,v9,rfl⟩;refine hBB _ _ (bg fun M1 k1=>?_);rw [Int.zero_add];have i0:(0:Int)<=(i:Int):=(by omega);have i1:(i:Int)<m:=(by omega);walk_at "rd";refine k1 _ _ (bg fun M2 k2=>?_);walk_at "rd";refine k2 _ _ (bg fun M3 k3=>?_);have pb:=ji (to:=to) g R _ rfl i0 i1;refine xU (fun n σ H4=>Same H3 H4/\∃ (pr h:Int) (v9:Option V),n=dep h/\(0<=h/\h<m)/\pr*prc rs par dep to h=prc rs par dep to i/\0<pr/\pr.natAbs<2^((dep i - dep h)*20+1)/\dep h<=dep i/\σ=[some (V.int m),some (V.ref d),some (V.int v),some (V.bl to),some (V.ref lt),some (V.ref ld),some (V.int i),some (V.int pr),some (V.int h),v9]) (dep i) ⟨Same.refl _,1,i,_,rfl,⟨i0,i1⟩,Int.one_mul _,by decide,by rw [Nat.sub_self];decide,Nat.le_refl _,rfl⟩ ?_;rintro n σ H4 N4 BB4 hBB4 hN4 hN42 ⟨s4,pr,h,w9,rfl,hr',pe,p0,ppb,dl,rfl⟩;refine hBB4 _ _ _ ?_;walk_at "rd";by_cases c:h=v
     . rw [if_neg (fun z=>z c)];refine k3 _ _ ?_;walk_at "rd";have ed4:=s4 _ _ ed3;have epr:pr=prc rs par dep to i:=by
         rw [c,ie R,Int.mul_one] at pe;exact pe
       refine ⟨tyL ed4,sH ed4 (bK (by rw [List.length_map,List.length_take,List.length_map,aD];omega)) (hN _ _ ⟨(s3.trans s4).put nld0 _,by rw [ao nlt2];exact s4 _ _ et3,?_,_,_,_,_,rfl⟩)⟩;rw [ah,epr];have gi:((below m.toNat).map (prc rs par dep to))[i]?=some (prc rs par dep to i):=by
         rw [List.getElem?_map];unfold below;rw [List.getElem?_map,List.getElem?_range (by omega)]
         rfl
       rw [List.take_succ,gi,List.map_append]
       rfl
     . rw [if_pos c];obtain ⟨u1,ad,u3⟩:=R.up h hr'.1 hr'.2 c;have gb:atI (qC m v par) h=some (V.int (par h)):=by
         have ef:Pb.front v par h=V.int (par h):=(by unfold Pb.front;rw [if_neg c]);rw [<- ef];exact jR hr'.1 (DI hr'.1 hr'.2)
       obtain ⟨kvs,ekv,tv⟩:=(td.same (s3.trans s4)).ex;obtain ⟨t2,t6⟩:=Nj (to:=to) g R hr'.1 hr'.2 c;have pu:=lC (to:=to) R hr'.1 hr'.2 c;have mo:IntMulOk pr (tlf rs par to h):=pV (b8 ppb (by have:=rE R i0 i1;omega)) (b8 (m:=20) (by omega) (by decide));have go:∀ {H5:Hp} {v9:Option V},Same H4 H5->N4 [some (V.int m),some (V.ref d),some (V.int v),some (V.bl to),some (V.ref lt),some (V.ref ld),some (V.int i),some (V.int (pr*tlf rs par to h)),some (V.int (par h)),v9] H5:=fun {H5 v9} s5=>by
         refine hN4 (dep (par h)) _ _ (by omega) ⟨s4.trans s5,_,_,_,rfl,u1,?_,Int.mul_pos p0 (by omega),?_,by omega,rfl⟩
         . rw [Int.mul_assoc,<- pu];exact pe
         . rw [show (dep (i:Int) - dep (par h))*20+1=(dep (i:Int) - dep h)*20+1+20 by omega];exact da ppb (by omega)
       have et4:=s4 _ _ et3;refine ⟨N4,fun σ' H' w=>?_,ixL et4 gb ⟨aL (by simp),fun q1 n1=>⟨_,rfl,?_⟩⟩⟩
       . obtain ⟨m',lt',a1,pr',h',x9,a2,a3,a4,a5,a6,a7,a8⟩:=hN42 _ _ w;exact ⟨m',lt',a1,pr',h',a2,a3,a4,a5,a6,a7,x9,a8⟩
       have s5:=Same.new (.tup [V.int h,V.int (par h)]) n1;cases to with
       | true =>
         rw [if_neg (by decide)];have e7:=tv h (par h);obtain ⟨kk,ek,_,_⟩:=gD g ad;rw [ek] at e7;have ekk:kk=tlf rs par true h:=(by unfold tlf aE;rw [if_pos rfl,ek];rfl);refine ⟨V.int kk,?_,kk,rfl,by rw [ekk];exact mo,ixL (s5 _ _ et4) gb (by rw [ekk];exact go s5)⟩;have:=DGet.t (k:=[.inl h,.inl (par h)]) (s5 _ _ ekv) (b:=q1) ah;rw [e7] at this;exact this
       | false =>
         rw [if_pos rfl];refine ixL (s5 _ _ et4) gb ⟨aL (by simp),fun q2 n2=>?_⟩;have s6:=s5.trans (Same.new (.tup [V.int (par h),V.int h]) n2);have e7:=tv (par h) h;obtain ⟨kk,ek,_,_⟩:=gD g ad.symm;rw [ek] at e7;have ekk:kk=tlf rs par false h:=(by unfold tlf aE;rw [if_neg (by decide),ek];rfl);refine ⟨V.int kk,?_,kk,rfl,by rw [ekk];exact mo,ixL (s6 _ _ et4) gb (by rw [ekk];exact go s6)⟩;have:=DGet.t (k:=[.inl (par h),.inl h]) (s6 _ _ ekv) (b:=q2) ah;rw [e7] at this;exact this
   . rintro BB σ H3 hBB ⟨s3,et3,ed3,v6,v7,v8,v9,rfl⟩;refine hBB _ _ (h3 _ _ ?_);walk_at "rd";rw [List.take_of_length_le (by rw [List.length_map,aD];exact Nat.le_refl _)] at ed3;exact k ld H3 nld0 s3 ed3
def FJ (T:Txt K mg):Sp:=fun vs H Q _=>∃ (a b:Addr) (f g:Int × Int) (n:Nat),vs=[.ref a,.ref b]/\SqT K H a [.int f.1,.int f.2]/\SqT K H b [.int g.1,.int g.2]/\FrB n f/\FrB n g/\n<=4000/\Q (.bl (decide (f.1*g.2<g.1*f.2))) H
abbrev lQ:Stmt:=top 5
theorem VI:FnScope ["one","two"] ["one","two"] (aa lQ):=FnScope.of (by kernel_rfl)
theorem Ck:NmL (aa lQ) "one":=.of (by kernel_rfl)
theorem Cq:NmL (aa lQ) "two":=.of (by kernel_rfl)
theorem V3 (T:Txt K mg) (hq:aK (CXe P w)) {f:Addr} {fd:FuncData} (D:Df K mg "less" lQ ["one","two"] f fd):FnOk P w K mg base (CXe P w) 1 f fd ["one","two"] (FJ T):=by
 refine D.F.okC VI (fun vs H Q E h=>?_) (fun cdv A outer s H vs Q E hr h=>?_)
 . obtain ⟨a,b,f,g,n,rfl,_⟩:=h
   rfl
 . obtain ⟨a,b,f,g,n,rfl,ha,hb,fb,gb,n1,k⟩:=h;refine ⟨_,(ak (ay (gZ rz (aA eS (az bf (pvl 0 Ck) aj (fun _ _=>rfl)) (az bf (pvl 1 Cq) aj (fun _ _=>rfl))) (aA eS (az bf (pvl 1 Cq) aj (fun _ _=>rfl)) (az bf (pvl 0 Ck) aj (fun _ _=>rfl))) (aI _)))),?_⟩;rw [show L2.start ["one","two"] [V.ref a,V.ref b]=[some (V.ref a),some (V.ref b)] from rfl];have ub:∀ {x:Int},x.natAbs<2^n->x.natAbs<2^4000:=fun h=>b8 h (by omega);walk_at "rd";refine kP (ha) rfl (kP (hb) rfl ?_);exact ⟨_,rfl,_,rfl,pV (ub fb.2.1) (ub gb.2.2),kP (hb) rfl (kP (ha) rfl ⟨_,rfl,_,rfl,pV (ub gb.2.1) (ub fb.2.2),k⟩)⟩
def wF (T:Txt K mg):Sp:=fun vs H Q _=>∃ (a:Addr) (f:Int × Int) (n:Nat),vs=[.ref a]/\SqT K H a [.int f.1,.int f.2]/\FrB n f/\1<=n/\n<=4000/\Q (.bl (decide (f.1<0))) H
abbrev dW:Stmt:=top 46
theorem My:FnScope ["share"] ["share"] (aa dW):=FnScope.of (by kernel_rfl)
theorem B4:NmL (aa dW) "share":=.of (by kernel_rfl)
theorem vc:NmG (aa dW) "less":=.of (by kernel_rfl)
theorem rJ:NmG (aa dW) "NOUGHT":=.of (by kernel_rfl)
theorem MM (T:Txt K mg) (hq:aK (CXe P w)) {f:Addr} {fd:FuncData} (D:Df K mg "is_below" dW ["share"] f fd) {mQ:Addr} {xB:FuncData} (iK:Df K mg "less" lQ ["one","two"] mQ xB) (G_less:FnOk P w K mg base (CXe P w) 1 mQ xB ["one","two"] (FJ T)):FnOk P w K mg base (CXe P w) 2 f fd ["share"] (wF T):=by
 refine D.F.okC My (fun vs H Q E h=>?_) (fun cdv A outer s H vs Q E hr h=>?_)
 . obtain ⟨a,f,n,rfl,_⟩:=h
   rfl
 . obtain ⟨a,f,n,rfl,ha,fb,n1,n2,k⟩:=h;refine ⟨_,(ak (ay (am G_less (hr.mono (by decide)) vc.g iK.m iK.F.kp iK.b .nil (aq hq) (ae (pvl 0 B4) (ae (tX (v:=.ref T.NOUGHT) rJ.g T.RA rfl (hd:=rJ.d)) ag)) (hdb:=vc.d)))),?_⟩;rw [show L2.start ["share"] [V.ref a]=[some (V.ref a)] from rfl];walk_at "rd";refine ⟨a,T.NOUGHT,f,(0,1),n,rfl,ha,T.RO.sq,fb,⟨by decide,Nat.two_pow_pos n,Nat.lt_of_lt_of_le (by decide) (Nat.pow_le_pow_right (n:=2) (by decide) n1)⟩,n2,?_⟩;show Q (.bl (decide (f.1*1<0*f.2))) H;rw [Int.mul_one,Int.zero_mul];exact k
def AV (T:Txt K mg):Sp:=fun vs H Q _=>∃ (p a t:Addr) (c:Bool) (m:Int) (ps qs:List Addr) (rs:List Road) (fs:List (Int × Int)),vs=[.ref p,.ref a]/\WebAt T.Web H p m t ps rs/\AtX c H a (qs.map V.ref)/\FrsAt H qs fs/\(∀ f∈fs,FrB 340 f/\0<=f.1)/\(fs.length:Int)=m/\m<=8/\∀ H',Same H H'->Q (.bl true) H'
abbrev dC:Stmt:=top 45
theorem Iw:FnScope ["web","shares"] ["web","shares"] (aa dC):=FnScope.of (by kernel_rfl)
theorem Dx:NmL (aa dC) "web":=.of (by kernel_rfl)
theorem qc:NmL (aa dC) "shares":=.of (by kernel_rfl)
theorem nX:NmG (aa dC) "len":=.of (by kernel_rfl)
theorem nN:NmG (aa dC) "any":=.of (by kernel_rfl)
theorem K5 (T:Txt K mg) (hq:aK (CXe P w)) {f:Addr} {fd:FuncData} (D:Df K mg "are_sound" dC ["web","shares"] f fd) {fP:Addr} {mN:FuncData} (dh:Df K mg "is_below" dW ["share"] fP mN) (G_is_below:FnOk P w K mg base (CXe P w) 2 fP mN ["share"] (wF T)):FnOk P w K mg base (CXe P w) 3 f fd ["web","shares"] (AV T):=by
 refine D.F.okC Iw (fun vs H Q E h=>?_) (fun cdv A outer s H vs Q E hr h=>?_)
 . obtain ⟨p,a,t,c,m,ps,qs,rs,fs,rfl,_⟩:=h
   rfl
 . obtain ⟨p,a,t,c,m,ps,qs,rs,fs,rfl,W,ha,fa,fb,fl,m8,k⟩:=h;have ql:qs.length=fs.length:=Paired.length fa;obtain ⟨dx,ob⟩:=W.ob;refine ⟨_,(ak (ay (uZ (gZ jX (aN bM nX.g T.len fU (ae (pvl 1 qc) ag) (hn:=nX.n) (hdb:=nX.d)) (kD  (pvl 0 Dx) rfl) (aI _)) (xt (P8 (aN (D0 rfl) nN.g T.any JZ (ae (dF rfl (nZ (Nc:=["share"]) 1 (by decide +kernel) (by decide +kernel) rfl (by decide +kernel) rfl) (uA c (pvl 1 qc)) (fun _ _ _ _=>(au (i:=0) (show (["share"]:List Str).Nodup from by decide +kernel) rfl (Or.inl rfl))) (fun _ _ _ _=>eU) (fun _ _ _ _=>(am G_is_below (hr.mono (by decide)) (by rfl) dh.m dh.F.kp dh.b .nil (aq hq) (ae (pv 0) ag)))) ag) (hn:=nN.n) (hdb:=nN.d))))))),?_⟩;rw [show L2.start ["web","shares"] [V.ref p,V.ref a]=[some (V.ref p),some (V.ref a)] from rfl];have sq:∀ {H2:Hp},Same H H2->SqX K c H2 a (qs.map V.ref):=fun {H2} s2=>AtX.sq (K:=K) (show AtX c H2 a (qs.map V.ref) from s2 _ _ ha);have ha':SqL K H a (qs.map V.ref)\/SqT K H a (qs.map V.ref):=by
     cases c
     . exact .inr (SqT.of ha)
     . exact .inl (SqL.of ha)
   walk_at "rd";refine ⟨_,ha',T.Web,dx,_,ob,T.iR,T.n_many,_,gO m t,rfl,?_⟩;rw [List.length_map,if_pos (by rw [ql,fl])];refine ⟨⟨_,sq (Same.refl _)⟩,fun l nl=>?_⟩;refine iX (K:=K) (c:=c) (xs:=qs.map V.ref) (fun i bs σ H2=>Same H H2/\H2 l=some (.lst bs)/\bs=(List.replicate i false).map V.bl/\∃ v,σ=[v]) ⟨Same.new _ nl,ah,rfl,_,rfl⟩ (fun i bs σ H2 _ z=>sq z.1) ?_ ?_
   . rintro i x bs σ H2 N hN hx ⟨s2,e2,rfl,v,rfl⟩;rw [List.getElem?_map] at hx;obtain ⟨qx,gx,rfl⟩:=Option.map_eq_some_iff.mp hx;have il:=(List.getElem?_eq_some_iff.mp gx).1;obtain ⟨f,gf,ef⟩:=jD (FrsAt.same s2 fa) gx;obtain ⟨fB,f0⟩:=fb f (List.mem_of_getElem? gf);walk_at "rd";refine ⟨qx,f,340,rfl,SqT.of ef,fB,by decide,by decide,e2,bK (by rw [List.length_map,List.length_replicate];omega),hN _ _ _ ⟨s2.put nl _,ah,?_,_,rfl⟩⟩;rw [decide_eq_false (by omega),List.replicate_succ',List.map_append]
     rfl
   . rintro bs σ H2 ⟨s2,e2,rfl,v,rfl⟩;refine ⟨l,rfl,_,SqL.of e2,?_⟩;rw [BS];exact k H2 s2
def sU (T:Txt K mg):Sp:=fun vs H Q _=>∃ (a b:Addr) (c:Bool) (qs:List Addr) (fs:List (Int × Int)) (ns:List Int),vs=[.ref a,.ref b]/\AtX c H a (qs.map V.ref)/\FrsAt H qs fs/\(∀ f∈fs,FrB 340 f)/\H b=some (.lst (ns.map V.int))/\fs.length=ns.length/\fs.length<=8/\(∀ x∈ns,0<x/\x.natAbs<2^150) /\
 ∀ (p q:Int) (r:Addr) (H':Hp),0<q->p.gcd q=1->p.natAbs<2^3950->q.natAbs<2^3950->(p:Rat) / q=aB (fs.zip ns) (fun z=>(z.1.1:Rat) / z.1.2 / z.2)->H r=none->Same H H'->H' r=some (.tup [.int p,.int q])->Q (.ref r) H'
abbrev cH:Stmt:=top 36
theorem G9:FnScope ["shares","prices"] ["shares","prices"] (aa cH):=FnScope.of (by kernel_rfl)
theorem zm:NmL (aa cH) "shares":=.of (by kernel_rfl)
theorem y7:NmL (aa cH) "prices":=.of (by kernel_rfl)
theorem oV:NmG (aa cH) "sum_up":=.of (by kernel_rfl)
theorem B9:NmG (aa cH) "zip":=.of (by kernel_rfl)
theorem G8 (T:Txt K mg) (hq:aK (CXe P w)) {f:Addr} {fd:FuncData} (D:Df K mg "divided_up" cH ["shares","prices"] f fd) {dD:Addr} {gW:FuncData} (cC:Df K mg "fraction" dg ["top","bottom"] dD gW) (G_fraction:FnOk P w K mg base (CXe P w) 2 dD gW ["top","bottom"] (rD T)) {cT:Addr} {dL:FuncData} (bi:Df K mg "sum_up" cU ["some"] cT dL) (G_sum_up:FnOk P w K mg base (CXe P w) 3 cT dL ["some"] (oB T)):FnOk P w K mg base (CXe P w) 4 f fd ["shares","prices"] (sU T):=by
 refine D.F.okC G9 (fun vs H Q E h=>?_) (fun cdv A outer s H vs Q E hr h=>?_)
 . obtain ⟨a,b,c,qs,fs,ns,rfl,_⟩:=h
   rfl
 . obtain ⟨a,b,c,qs,fs,ns,rfl,ha,hq1,fb,hb,fl,f8,nb,k⟩:=h;refine ⟨_,(ak (ay (am G_sum_up (hr.mono (by decide)) oV.g bi.m bi.F.kp bi.b .nil (aq hq) (ae (dF rfl (nZ (Nc:=["share","cost"]) 2 (by decide +kernel) (by decide +kernel) rfl (by decide +kernel) rfl) (Rk c true B9.g T.zip (ae (pvl 0 zm) (ae (pvl 1 y7) ag))) (fun _ _ _ _=>(VM K rfl (n:=2) rfl (be (au (i:=0) (show (["share","cost"]:List Str).Nodup from by decide +kernel) rfl (Or.inl rfl)) (be (au (i:=1) (show (["share","cost"]:List Str).Nodup from by decide +kernel) rfl (Or.inl rfl)) ju)))) (fun _ _ _ _=>eU) (fun _ _ _ _=>(am G_fraction (hr.mono (by decide)) (by rfl) cC.m cC.F.kp cC.b .nil (aq hq) (ae (az (qB K rfl) (pv 0) aj (fun _ _=>rfl)) (ae (aA eS (az (qB K rfl) (pv 0) aj (fun _ _=>rfl)) (pv 1)) ag))))) ag) (hdb:=oV.d)))),?_⟩;rw [show L2.start ["shares","prices"] [V.ref a,V.ref b]=[some (V.ref a),some (V.ref b)] from rfl];walk_at "rd";have ql:qs.length=fs.length:=Paired.length hq1;refine ⟨a,b,⟨rfl,rfl⟩,⟨_,ha.sq⟩,⟨_,SqL.of hb⟩,fun pc npc=>?_⟩;refine T4 (K:=K) (c:=c) (d:=true) (xs:=qs.map V.ref) (zs:=ns.map V.int) (fun i zs σ H2=>Same H H2/\H2 pc=some (.lst zs)/\(∃ (rq:List Addr) (gs:List (Int × Int)),zs=rq.map V.ref/\gs.length=i/\FrsAt H2 rq gs/\(∀ f∈gs,FrB 490 f)/\aB gs (fun f=>(f.1:Rat) / f.2)=aB ((fs.zip ns).take i) (fun z=>(z.1.1:Rat) / z.1.2 / z.2))/\∃ v w,σ=[v,w]) ⟨Same.new _ npc,ah,⟨[],[],rfl,rfl,.nil,(fun f hf=>nomatch hf),rfl⟩,_,_,rfl⟩ (fun i zs σ H2 z=>⟨Same.sqX z.1 ha.sq,SqL.of (z.1 _ _ hb)⟩) ?_ ?_
   . rintro i u w zs σ H2 pq N hN hu hw ⟨s2,e2,⟨rq,gs,rfl,gl,fg,gb,su⟩,v1,v2,rfl⟩ npq;rw [List.getElem?_map] at hu hw;obtain ⟨q,gq,rfl⟩:=Option.map_eq_some_iff.mp hu;obtain ⟨n,gn,rfl⟩:=Option.map_eq_some_iff.mp hw;obtain ⟨f,gf,eq⟩:=jD hq1 gq;obtain ⟨f0,fb1,fb2⟩:=fb f (List.mem_of_getElem? gf);obtain ⟨n0,nb1⟩:=nb n (List.mem_of_getElem? gn);have il:=(List.getElem?_eq_some_iff.mp gf).1;have rl:rq.length=gs.length:=Paired.length fg;have s3:=s2.trans (Same.new (.tup [V.ref q,V.int n]) npq);have e3:=(Same.new (.tup [V.ref q,V.int n]) npq) _ _ e2;have fg3:FrsAt (upd H2 pq (.tup [V.ref q,V.int n])) rq gs:=Paired.imp' (fun a b h=>Same.new _ npq _ _ h) fg;refine U5 (SqT.of ah) ?_;simp only [List.set_cons_zero,List.set_cons_succ];have eq3:=s3 _ _ eq;generalize upd H2 pq (.tup [V.ref q,V.int n])=H3 at s3 eq3 e3 fg3 ⊢;have b1:(f.2*n).natAbs<2^(340+150):=da fb2 nb1;have fn0:0<f.2*n:=Int.mul_pos f0 n0;walk_at "rd";refine ixT eq3 rfl (ixT eq3 rfl ⟨_,rfl,pV (b8 fb2 (by decide)) (b8 nb1 (by decide)),f.1,f.2*n,rfl,by omega,Nat.lt_of_lt_of_le b1 (Nat.pow_le_pow_right (by decide) (by decide)),fun p' q' r' fr nr=>?_⟩);obtain ⟨pl,ql'⟩:=rQ fr (by omega);have nrp:r'≠pc:=fun z=>by rw [z,e3] at nr;cases nr
     have s4:=Same.new (.tup [V.int p',V.int q']) nr;refine ⟨s4 _ _ e3,bK (by rw [List.length_map];omega),hN _ _ _ ⟨?_,ah,⟨rq++[r'],gs++[(p',q')],by rw [List.map_append];rfl,by rw [List.length_append,gl];rfl,?_,?_,?_⟩,_,_,rfl⟩⟩
     . exact fun b o e=>by rw [ao (aX e npc)];exact s4 _ _ (s3 _ _ e)
     . refine Jz (.cons ?_ .nil) (Paired.imp' (fun b m hb=>?_) fg3)
       . rw [ao nrp];exact ah
       . rw [ao (im hb e3 (by intro z;cases z))];exact s4 _ _ hb
     . intro x hx;rcases List.mem_append.mp hx with hx|hx
       . exact gb x hx
       . rw [List.mem_singleton.mp hx];exact ⟨fr.pos,Nat.lt_of_le_of_lt pl (Nat.lt_of_lt_of_le fb1 (Nat.pow_le_pow_right (by decide) (by decide))),Nat.lt_of_le_of_lt ql' b1⟩
     . have hz:(fs.zip ns)[i]?=some (f,n):=(by rw [List.getElem?_zip_eq_some];exact ⟨gf,gn⟩);rw [List.take_succ,hz];show aB (gs++[(p',q')]) _=aB ((fs.zip ns).take i++[(f,n)]) _;rw [lD,lD,su,me fr (by omega)]
       congr 1
       show (f.1:Rat) / ((f.2*n:Int):Rat)=(f.1:Rat) / f.2 / n;rw [show ((f.2*n:Int):Rat)=(f.2:Rat)*n from Rat.intCast_mul ..];have h1:(f.2:Rat)≠0:=fun z=>by have:=Rat.intCast_eq_zero_iff.mp z;omega
       have h2:(n:Rat)≠0:=fun z=>by have:=Rat.intCast_eq_zero_iff.mp z;omega
       grind
   . rintro zs σ H2 ⟨s2,e2,⟨rq,gs,rfl,gl,fg,gb,su⟩,v1,v2,rfl⟩;rw [List.length_map,List.length_map] at gl;have zl:(fs.zip ns).length=fs.length:=(by rw [List.length_zip];omega);rw [List.take_of_length_le (by rw [zl,List.length_map,List.length_map];omega)] at su;have gl8:gs.length<=8:=(by omega);refine ⟨pc,true,rq,gs,490,rfl,e2,fg.k,gb,by omega,by omega,by omega,fun p q r H3 fr nr s3 er=>?_⟩;have m0:=vq (fs:=gs) (tb:=(0,1)) (fun f hf=>(gb f hf).1) (by decide);obtain ⟨pl,ql'⟩:=rQ fr (by omega);obtain ⟨mb1,mb2⟩:=vL (n:=490) (fs:=gs) (tb:=(0,1)) (b:=1) gb (by decide) (by decide);have hp:1+gs.length*(490+1)<=3950:=(by omega);refine k p q r H3 fr.pos fr.one (Nat.lt_of_le_of_lt pl (Nat.lt_of_lt_of_le mb1 (Nat.pow_le_pow_right (by decide) hp))) (Nat.lt_of_le_of_lt ql' (Nat.lt_of_lt_of_le mb2 (Nat.pow_le_pow_right (by decide) hp))) ?_ (s2.free nr) (s2.trans s3) er;rw [<- su];have h1:=uI (fs:=gs) (tb:=(0,1)) (fun f hf=>by have:=(gb f hf).1;omega) (by decide);rw [me fr (by omega),h1];rw [show (((0:Int),(1:Int)).1:Rat) / ((0:Int),(1:Int)).2=0 from by show ((0:Int):Rat) / ((1:Int):Rat)=0;rw [show ((0:Int):Rat)=0 from rfl,Rat.div_def,Rat.zero_mul]]
     grind
def Fz (T:Txt K mg):Sp:=fun vs H Q _=>∃ (p t:Addr) (m:Int) (ps:List Addr) (rs:List Road) (a:Int) (fv:V),vs=[.ref p,.int a,fv]/\WebAt T.Web H p m t ps rs/\0<=a/\a<m/\(fv=.non\/∃ i,fv=.int i) /\
 ∀ l H',H l=none->Same H H'->H' l=some (.lst ((bq m rs fv a).map V.int))->Q (.ref l) H'
abbrev iI:Stmt:=top 29
theorem VC:FnScope ["web","place","front"] ["web","place","front"] (aa iI):=FnScope.of (by kernel_rfl)
theorem LH:NmL (aa iI) "web":=.of (by kernel_rfl)
theorem Ho:NmL (aa iI) "place":=.of (by kernel_rfl)
theorem Ws:NmC (aa iI) "front":=.of (by kernel_rfl)
theorem se:NmG (aa iI) "neighbours":=.of (by kernel_rfl)
theorem VR (T:Txt K mg) (hq:aK (CXe P w)) {f:Addr} {fd:FuncData} (D:Df K mg "kids" iI ["web","place","front"] f fd) {cG:Addr} {eX:FuncData} (bN:Df K mg "neighbours" bW ["web","a"] cG eX) (G_neighbours:FnOk P w K mg base (CXe P w) 3 cG eX ["web","a"] (nD T)):FnOk P w K mg base (CXe P w) 4 f fd ["web","place","front"] (Fz T):=by
 refine D.F.okC VC (fun vs H Q E h=>?_) (fun cdv A outer s H vs Q E hr h=>?_)
 . obtain ⟨p,t,m,ps,rs,a,fv,rfl,_⟩:=h
   rfl
 . obtain ⟨p,t,m,ps,rs,a,fv,rfl,W,a0,a1,hf,k⟩:=h;have m24:=W.go.m24;refine ⟨_,(ak (ay (dF rfl (gj (Nc:=["near","front"]) 1 [2] (by decide +kernel) rfl (by decide +kernel) rfl (by show ∀ (y:Str × NameKind),y∈_->y.2=NameKind.free->(aa iI).names.lookup y.1=some NameKind.cell;decide +kernel) rfl (fun _ h=>dI h) (fun i hi=>match i,hi with|0,_=>⟨"front",2,rfl,rfl,rfl,by decide +kernel⟩|i+1,hi=>absurd hi (by show ¬ i+1<1;omega))) (kN (am G_neighbours (hr.mono (by decide)) se.g bN.m bN.F.kp bN.b .nil (aq hq) (ae (pvl 0 LH) (ae (pvl 1 Ho) ag)) (hdb:=se.d))) (fun _ _ _ _=>(au (i:=0) (show (["near","front"]:List Str).Nodup from by decide +kernel) rfl (Or.inl rfl))) (fun _ _ _ _=>(yc (aO mh (pv 0) (pv 1) (aI _)))) (fun _ _ _ _=>(pv 0))))),?_⟩;rw [show L2.start ["web","place","front"] [V.ref p,V.int a,fv]=[some (V.ref p),some (V.int a),some fv] from rfl];walk_at "rd";have nl:(bE m rs a).length<=24:=by
     have:=List.length_filter_le (fun q=>decide (q∈cB rs a)) (below m.toNat);rw [aD] at this;unfold bE;omega
   refine ⟨p,t,m,ps,rs,a,rfl,W,fun l1 H1 _ _ n1 s1 e1=>⟨l1,rfl,⟨_,SqL.of e1⟩,fun l2 n2=>?_⟩,fun z=>absurd ⟨a0,a1⟩ z⟩;have n20:H l2=none:=s1.free n2;refine iX (c:=true) (K:=K) (a:=l1) (xs:=(bE m rs a).map V.int) (fun j ys σ H2=>Same H1 H2/\H2 l2=some (.lst ys)/\ys=(((bE m rs a).take j).filter fun v=>decide (V.int v≠fv)).map V.int/\∃ v,σ=[v,some fv]) ⟨Same.new _ n2,ah,rfl,_,rfl⟩ (fun j ys σ H2 _ z=>SqL.of (z.1 _ _ e1)) ?_ ?_
   . rintro j xj ys σ H2 N hN hj ⟨s2,h2,rfl,v,rfl⟩;rw [List.getElem?_map] at hj;obtain ⟨b,hb,rfl⟩:=Option.map_eq_some_iff.mp hj;have et:(bE m rs a).take (j+1)=(bE m rs a).take j++[b]:=(by rw [List.take_succ,hb];rfl);have ll:(((bE m rs a).take j).filter fun v=>decide (V.int v≠fv)).length<=24:=by
       have h1:=List.length_filter_le (fun v=>decide (V.int v≠fv)) ((bE m rs a).take j);rw [List.length_take] at h1;omega
     walk_at "rd";have sc:ui (V.int b) fv=true:=by
       rcases hf with rfl|⟨i,rfl⟩ <;> rfl
     refine ⟨sc,?_⟩;by_cases c:V.int b=fv
     . rw [if_neg (fun z=>z c)];refine hN _ _ _ ⟨s2,h2,?_,_,rfl⟩;rw [et,List.filter_append];simp [c]
     . rw [if_pos c];refine ⟨h2,bK (by rw [List.length_map];omega),hN _ _ _ ⟨s2.put n2 _,ah,?_,_,rfl⟩⟩;rw [et,List.filter_append];simp [c]
   . rintro ys σ H2 ⟨s2,h2,rfl,v,rfl⟩;rw [List.length_map,List.take_length] at h2;exact k l2 H2 n20 (s1.trans s2) h2
def DY (T:Txt K mg):Sp:=fun vs H Q E=>∃ (p t:Addr) (m:Int) (ps:List Addr) (rs:List Road) (r:Int),vs=[.ref p,.int r]/\WebAt T.Web H p m t ps rs /\
 (0<=r->r<m->∃ par dep,Rooted m rs r par dep/\∀ l H',H l=none->Same H H'->H' l=some (.lst (qC m r par))->Q (.ref l) H')/\(¬ (0<=r/\r<m)->E (.ref T.NoPlace) none H)
abbrev dN:Stmt:=top 27
theorem qE:FnScope ["web","r","nearer","waiting","place","front","kid"] ["web","r"] (aa dN):=FnScope.of (by kernel_rfl)
theorem t9:NmL (aa dN) "web":=.of (by kernel_rfl)
theorem EY:NmL (aa dN) "r":=.of (by kernel_rfl)
theorem k6:NmL (aa dN) "nearer":=.of (by kernel_rfl)
theorem j9:NmL (aa dN) "waiting":=.of (by kernel_rfl)
theorem mn:NmL (aa dN) "place":=.of (by kernel_rfl)
theorem yt:NmL (aa dN) "front":=.of (by kernel_rfl)
theorem vf:NmL (aa dN) "kid":=.of (by kernel_rfl)
theorem oW:NmG (aa dN) "check_place":=.of (by kernel_rfl)
theorem zC:NmG (aa dN) "kids":=.of (by kernel_rfl)
theorem Sv (T:Txt K mg) (hq:aK (CXe P w)) {f:Addr} {fd:FuncData} (D:Df K mg "ahead" dN ["web","r"] f fd) {cj:Addr} {eh:FuncData} (aY:Df K mg "check_place" bQ ["web","number"] cj eh) (G_check_place:FnOk P w K mg base (CXe P w) 2 cj eh ["web","number"] (l9 T)) {mT:Addr} {xM:FuncData} (lA:Df K mg "kids" iI ["web","place","front"] mT xM) (G_kids:FnOk P w K mg base (CXe P w) 4 mT xM ["web","place","front"] (Fz T)):FnOk P w K mg base (CXe P w) 5 f fd ["web","r"] (DY T):=by
 refine D.F.okX qE (fun vs H Q E h=>?_) (fun cdv A outer s H vs Q E hr h=>?_)
 . obtain ⟨p,t,m,ps,rs,r,rfl,_⟩:=h
   rfl
 . obtain ⟨p,t,m,ps,rs,r,rfl,W,k,e⟩:=h;obtain ⟨dx,ob⟩:=W.ob;have g:=W.go;have m24:=g.m24;refine ⟨_,(ai (cZ (am G_check_place (hr.mono (by decide)) oW.g aY.m aY.F.kp aY.b .nil gP (ae (pvl 0 t9) (ae (pvl 1 EY) ag)) (hdb:=oW.d))) (ai (ap (i:=2) qE.nd rfl (Or.inl k6.l) (aA xY (cP (ae Jq ag)) (kD  (pvl 0 t9) rfl))) (ai (ap (i:=3) qE.nd rfl (Or.inl j9.l) (cP (ae (pvl 1 EY) ag))) (ai (oh PassesOwn.leaving (nJ (pvl 3 j9) (fun _=>rfl)) (ai (ap (i:=4) qE.nd rfl (Or.inl mn.l) (Kg PySem.F.plainAttrs_list PySem.F.slot_list_pop PySem.F.type_list_pop Ll (pvl 3 j9))) (ai (ap (i:=5) qE.nd rfl (Or.inl yt.l) (az bz (pvl 2 k6) (pvl 4 mn) (fun _ _=>rfl))) (ak (eM PassesOwn.leaving rfl (kN (am G_kids (hr.mono (by decide)) zC.g lA.m lA.F.kp lA.b .nil gP (ae (pvl 0 t9) (ae (pvl 4 mn) (ae (pvl 5 yt) ag))) (hdb:=zC.d))) (au (i:=6) qE.nd rfl (Or.inl vf.l)) (ai (mZ (pvl 4 mn) (xz (pvl 2 k6) (pvl 6 vf) qQ)) (ak (cZ (mx PySem.F.plainAttrs_list PySem.F.slot_list_append PySem.F.type_list_append eW (pvl 3 j9) (ae (pvl 6 vf) ag)))))))))) (ak (ay (pvl 2 k6))))))),?_⟩;rw [show L2.start ["web","r","nearer","waiting","place","front","kid"] [V.ref p,V.int r]=[some (V.ref p),some (V.int r),none,none,none,none,none] from rfl];walk_at "rd";refine ⟨p,t,m,ps,rs,r,rfl,W,fun r0 r1=>?_,e⟩;obtain ⟨par,dep,R,k⟩:=k r0 r1;refine ⟨by decide,fun l1 n1=>?_⟩;have s1:=Same.new (.lst [V.non]) n1;refine ⟨T.Web,dx,_,s1 _ _ ob,T.iR,T.n_many,_,rfl,?_⟩;refine ⟨l1,m,[V.non],rfl,rfl,ah,by omega,by omega,aL (by simp;omega),fun l2 n2=>?_⟩;have n20:H l2=none:=s1.free n2;rw [Kr,<- Q1 (par:=par)];have s2:=s1.trans (Same.new (.lst (nl m par [])) n2);refine ⟨aL (by simp),fun l3 n3=>?_⟩;have n30:H l3=none:=s2.free n3;have n32:l3≠l2:=fun z=>by rw [z,ah] at n3;cases n3
   have s3:=s2.trans (Same.new (.lst [V.int r]) n3);have e2:upd (upd (upd H l1 (.lst [V.non])) l2 (.lst (nl m par []))) l3 (.lst [V.int r]) l2=some (.lst (nl m par [])):=by rw [ao n32.symm,ah]
   have e3:upd (upd (upd H l1 (.lst [V.non])) l2 (.lst (nl m par []))) l3 (.lst [V.int r]) l3=some (.lst [V.int r]):=ah;generalize upd (upd (upd H l1 (.lst [V.non])) l2 (.lst (nl m par []))) l3 (.lst [V.int r])=H3 at s3 e2 e3 ⊢;refine xU (fun n σ H4=>∃ (ks ws:List Int) (v4 v5 v6:Option V),n=2*(m.toNat - ks.length)+ws.length/\σ=[some (.ref p),some (.int r),some (.ref l2),some (.ref l3),v4,v5,v6]/\Same H H4/\H4 l2=some (.lst (nl m par ks))/\H4 l3=some (.lst (ws.map V.int))/\AInv m rs r par ks ws) (2*m.toNat+1) ⟨[],[r],_,_,_,rfl,rfl,s3,e2,e3,AInv.start⟩ ?_;rintro n σ H4 NW BB hBB hN hN2 ⟨ks,ws,v4,v5,v6,rfl,rfl,s4,h2,h3,J⟩;refine hBB _ _ _ ?_;have kl:=dv (by omega) J.nd J.rng;walk_at "rd";refine ⟨_,.inl ⟨_,SqL.of h3,rfl⟩,?_⟩;rcases List.eq_nil_or_concat ws with rfl|⟨ws',q,rfl⟩
   . rw [if_neg (by simp)];rw [J.done R] at h2;exact k l2 H4 n20 s4 h2
   . rw [List.concat_eq_append] at J h3 hN hN2 ⊢;rw [if_pos (by simp)];have hq:q∈ws'++[q]:=List.mem_append_right _ (List.mem_singleton.mpr rfl);have pr:=J.at_ r0 r1 hq;have J2:=J.step g R r0 r1 (p:=q) (ws':=ws') (List.perm_append_singleton q ws');refine ⟨NW,fun σ' H' z=>?_,?_⟩
     . obtain ⟨m',lt,ks',ws'',a4,a5,a6,e1,e2,e3⟩:=hN2 _ _ z;exact ⟨m',lt,ks',ws'',e1,a4,a5,a6,e2,e3⟩
     rw [List.map_append,List.map_cons,List.map_nil] at h3;refine ⟨tyL h3,UB h3 ?_⟩;have s5:Same H (upd H4 l3 (.lst (ws'.map V.int))):=s4.put n30 _;have h25:upd H4 l3 (.lst (ws'.map V.int)) l2=some (.lst (nl m par ks)):=(by rw [ao n32.symm];exact h2);have h35:upd H4 l3 (.lst (ws'.map V.int)) l3=some (.lst (ws'.map V.int)):=ah;generalize upd H4 l3 (.lst (ws'.map V.int))=H5 at s5 h25 h35 ⊢;refine ixL h25 (jR pr.1 (K4 pr.1 pr.2)) ?_;rw [J.front hq];have hfv:Pb.front r par q=.non\/∃ i,Pb.front r par q=.int i:=by
       unfold Pb.front;by_cases c:q=r
       . rw [if_pos c];exact .inl rfl
       . rw [if_neg c];exact .inr ⟨_,rfl⟩
     have mk:∀ v,v∈bq m rs (Pb.front r par q) q->(0<=v/\v<m)/\v≠r/\par v=q:=fun v=>(fA g R pr.1 pr.2).mp;refine ⟨p,t,m,ps,rs,q,_,rfl,W.same s5,pr.1,pr.2,hfv,fun l6 H6 n6 s6 e6=>⟨l6,rfl,⟨_,SqL.of e6⟩,?_⟩⟩;generalize bq m rs (Pb.front r par q) q=kk at mk e6 J2 ⊢;have n6':H l6=none:=s5.free n6;have n62:l6≠l2:=fun z=>by rw [z,h25] at n6;cases n6
     have n63:l6≠l3:=fun z=>by rw [z,h35] at n6;cases n6
     have kl2:=dv (by omega) J2.nd J2.rng;rw [List.length_append] at kl2;have wl2:=dv (by omega) J2.wnd fun w hw=>J2.at_ r0 r1 hw;rw [List.length_append] at wl2;refine Qu (K:=K) (xs:=kk.map V.int) (fun i σ H7=>∃ v6,σ=[some (.ref p),some (.int r),some (.ref l2),some (.ref l3),some (.int q),some (Pb.front r par q),v6]/\Same H H7/\H7 l6=some (.lst (kk.map V.int))/\H7 l2=some (.lst (nl m par (ks++kk.take i)))/\H7 l3=some (.lst ((ws'++kk.take i).map V.int))) ⟨_,rfl,s5.trans s6,e6,by rw [List.take_zero,List.append_nil];exact s6 _ _ h25,by rw [List.take_zero,List.append_nil];exact s6 _ _ h35⟩ (fun i σ H7 _ z=>by obtain ⟨_,_,_,z,_⟩:=z;exact SqL.of z) ?_ ?_
     . rintro i x σ H7 NI BB hBB hI hi ⟨v6,rfl,s7,e7,h27,h37⟩;refine hBB _ _ ?_;rw [List.getElem?_map] at hi;obtain ⟨v,hv,rfl⟩:=Option.map_eq_some_iff.mp hi;obtain ⟨vr,_,vp⟩:=mk v (List.mem_of_getElem? hv);have et:kk.take (i+1)=kk.take i++[v]:=(by rw [List.take_succ,hv];rfl);walk_at "rd";refine ⟨l2,_,v,v.toNat,rfl,rfl,h27,by unfold ixN;rw [if_pos vr.1,if_pos (by rw [rV];omega)],?_⟩;rw [<- vp,QR vr.1 vr.2,vp,List.append_assoc,<- et];have h38:upd H7 l2 (.lst (nl m par (ks++kk.take (i+1)))) l3=some (.lst ((ws'++kk.take i).map V.int)):=(by rw [ao n32];exact h37);have wlen:(ws'++kk.take i).length<=100:=by
         rw [List.length_append,List.length_take];omega
       refine ⟨tyL h38,sH h38 (bK (by rw [List.length_map];omega)) (hI _ _ ⟨_,rfl,(s7.put n20 _).put n30 _,?_,?_,?_⟩)⟩
       . rw [ao n63,ao n62];exact e7
       . rw [ao n32.symm,ah]
       . rw [ah,et,<- List.append_assoc,List.map_append (l₁:=ws'++kk.take i)];rfl
     . rintro BB σ H7 hBB ⟨v6,rfl,s7,e7,h27,h37⟩;refine hBB _ _ ?_;rw [List.length_map,List.take_length] at h27 h37;refine hN _ _ _ ?_ ⟨_,_,_,_,_,rfl,rfl,s7,h27,h37,J2⟩;rw [List.length_append,List.length_append,List.length_append];simp only [List.length_cons,List.length_nil];omega
def Nl (T:Txt K mg):Sp:=fun vs H Q E=>∃ (p t:Addr) (m:Int) (ps:List Addr) (rs:List Road) (r:Int),vs=[.ref p,.int r]/\WebAt T.Web H p m t ps rs /\
 (0<=r->r<m->∃ par dep,Rooted m rs r par dep/\∀ l H',H l=none->Same H H'->H' l=some (.lst ((ia m rs r par dep r).map V.int))->(ia m rs r par dep r).Nodup->(∀ v,v∈ia m rs r par dep r↔0<=v/\v<m)->Q (.ref l) H')/\(¬ (0<=r/\r<m)->E (.ref T.NoPlace) none H)
abbrev ft:Stmt:=top 28
theorem tV:FnScope ["web","r","nearer","places","waiting","place","kid"] ["web","r"] (aa ft):=FnScope.of (by kernel_rfl)
theorem Cv:NmL (aa ft) "web":=.of (by kernel_rfl)
theorem Gz:NmL (aa ft) "r":=.of (by kernel_rfl)
theorem yj:NmL (aa ft) "nearer":=.of (by kernel_rfl)
theorem qW:NmL (aa ft) "places":=.of (by kernel_rfl)
theorem kY:NmL (aa ft) "waiting":=.of (by kernel_rfl)
theorem nu:NmL (aa ft) "place":=.of (by kernel_rfl)
theorem Cr:NmL (aa ft) "kid":=.of (by kernel_rfl)
theorem zW:NmG (aa ft) "ahead":=.of (by kernel_rfl)
theorem Dp:NmG (aa ft) "reversed":=.of (by kernel_rfl)
theorem BL:NmG (aa ft) "kids":=.of (by kernel_rfl)
theorem V7 (T:Txt K mg) (hq:aK (CXe P w)) {f:Addr} {fd:FuncData} (D:Df K mg "down" ft ["web","r"] f fd) {kH:Addr} {uO:FuncData} (jC:Df K mg "ahead" dN ["web","r"] kH uO) (G_ahead:FnOk P w K mg base (CXe P w) 5 kH uO ["web","r"] (DY T)) {mT:Addr} {xM:FuncData} (lA:Df K mg "kids" iI ["web","place","front"] mT xM) (G_kids:FnOk P w K mg base (CXe P w) 4 mT xM ["web","place","front"] (Fz T)):FnOk P w K mg base (CXe P w) 6 f fd ["web","r"] (Nl T):=by
 refine D.F.okX tV (fun vs H Q E h=>?_) (fun cdv A outer s H vs Q E hr h=>?_)
 . obtain ⟨p,t,m,ps,rs,r,rfl,_⟩:=h
   rfl
 . obtain ⟨p,t,m,ps,rs,r,rfl,W,k,e⟩:=h;have g:=W.go;have m24:=g.m24;refine ⟨_,(ai (ap (i:=2) tV.nd rfl (Or.inl yj.l) (am G_ahead (hr.mono (by decide)) zW.g jC.m jC.F.kp jC.b .nil gP (ae (pvl 0 Cv) (ae (pvl 1 Gz) ag)) (hdb:=zW.d))) (ai (ap (i:=3) tV.nd rfl (Or.inl qW.l) (cP ag)) (ai (ap (i:=4) tV.nd rfl (Or.inl kY.l) (cP (ae (pvl 1 Gz) ag))) (ai (oh PassesOwn.leaving (nJ (pvl 4 kY) (fun _=>rfl)) (ai (ap (i:=5) tV.nd rfl (Or.inl nu.l) (Kg PySem.F.plainAttrs_list PySem.F.slot_list_pop PySem.F.type_list_pop Ll (pvl 4 kY))) (ai (cZ (mx PySem.F.plainAttrs_list PySem.F.slot_list_append PySem.F.type_list_append eW (pvl 3 qW) (ae (pvl 5 nu) ag))) (ak (eM PassesOwn.leaving rfl (E7 Dp.g T.reversed (am G_kids (hr.mono (by decide)) BL.g lA.m lA.F.kp lA.b .nil gP (ae (pvl 0 Cv) (ae (pvl 5 nu) (ae (az bz (pvl 2 yj) (pvl 5 nu) (fun _ _=>rfl)) ag))) (hdb:=BL.d))) (au (i:=6) tV.nd rfl (Or.inl Cr.l)) (ak (cZ (mx PySem.F.plainAttrs_list PySem.F.slot_list_append PySem.F.type_list_append eW (pvl 4 kY) (ae (pvl 6 Cr) ag))))))))) (ak (ay (pvl 3 qW))))))),?_⟩;rw [show L2.start ["web","r","nearer","places","waiting","place","kid"] [V.ref p,V.int r]=[some (V.ref p),some (V.int r),none,none,none,none,none] from rfl];walk_at "rd";refine ⟨p,t,m,ps,rs,r,rfl,W,fun r0 r1=>?_,e⟩;obtain ⟨par,dep,R,k⟩:=k r0 r1;refine ⟨par,dep,R,fun l1 H1 n1 s1 e1=>⟨by decide,fun l3 n3=>⟨aL (by simp),fun l4 n4=>?_⟩⟩⟩;have n30:H l3=none:=s1.free n3;have s3:=s1.trans (Same.new (.lst []) n3);have n40:H l4=none:=s3.free n4;have n13:l1≠l3:=fun z=>by rw [<- z,e1] at n3;cases n3
   have n34:l3≠l4:=fun z=>by rw [<- z,ah] at n4;cases n4
   have e13:=Same.new (.lst []) n3 _ _ e1;have n14:l1≠l4:=fun z=>by rw [<- z,e13] at n4;cases n4
   have s4:=s3.trans (Same.new (.lst [V.int r]) n4);have e14:=Same.new (.lst [V.int r]) n4 _ _ e13;have e34:upd (upd H1 l3 (.lst [])) l4 (.lst [V.int r]) l3=some (.lst []):=by rw [ao n34,ah]
   have e44:upd (upd H1 l3 (.lst [])) l4 (.lst [V.int r]) l4=some (.lst [V.int r]):=ah;generalize upd (upd H1 l3 (.lst [])) l4 (.lst [V.int r])=H4 at s4 e14 e34 e44 ⊢;refine xU (fun n σ H5=>∃ (ks ws pl:List Int) (v5 v6:Option V),n=2*(m.toNat - ks.length)+ws.length/\σ=[some (.ref p),some (.int r),some (.ref l1),some (.ref l3),some (.ref l4),v5,v6]/\Same H H5/\H5 l1=some (.lst (qC m r par))/\H5 l3=some (.lst (pl.map V.int))/\H5 l4=some (.lst (ws.map V.int))/\AInv m rs r par ks ws/\(pl++ws).Perm (r::ks)/\pl++ws.reverse.flatMap (ia m rs r par dep)=ia m rs r par dep r) (2*m.toNat+1) ⟨[],[r],[],_,_,rfl,rfl,s4,e14,e34,e44,AInv.start,List.Perm.refl _,by simp⟩ ?_;rintro n σ H5 NW BB hBB hN hN2 ⟨ks,ws,pl,v5,v6,rfl,rfl,s5,h1,h3,h4,J,pe,ep⟩;refine hBB _ _ _ ?_;have rk:∀ w∈r::ks,0<=w/\w<m:=fun w hw=>by
     rcases List.mem_cons.mp hw with rfl|z
     . exact ⟨r0,r1⟩
     . exact J.rng w z
   have nk:(r::ks).Nodup:=List.nodup_cons.mpr ⟨J.nr,J.nd⟩;have kl:=dv (m:=m) (by omega) nk rk;have kl1:=dv (m:=m) (by omega) J.nd J.rng;have pl1:=pe.length_eq;rw [List.length_append] at pl1;rw [List.length_cons] at kl pl1;walk_at "rd";refine ⟨_,.inl ⟨_,SqL.of h4,rfl⟩,?_⟩;rcases List.eq_nil_or_concat ws with rfl|⟨ws',q,rfl⟩
   . rw [if_neg (by simp)];rw [List.reverse_nil,List.flatMap_nil,List.append_nil] at ep;rw [List.append_nil] at pe;subst ep;refine k l3 H5 n30 s5 h3 (pe.nodup_iff.mpr nk) fun v=>⟨fun z=>rk v (pe.mem_iff.mp z),fun z=>pe.mem_iff.mpr ?_⟩;by_cases c:v=r
     . rw [c];exact List.mem_cons_self
     . exact List.mem_cons_of_mem _ (J.all R v z.1 z.2 c)
   . rw [List.concat_eq_append] at J h4 hN hN2 pe ep pl1 ⊢;rw [if_pos (by simp)];have hq:q∈ws'++[q]:=List.mem_append_right _ (List.mem_singleton.mpr rfl);have pr:=J.at_ r0 r1 hq;have J2:=J.step g R r0 r1 (p:=q) (ws':=ws') (List.perm_append_singleton q ws');refine ⟨NW,fun σ' H' z=>?_,?_⟩
     . obtain ⟨m',lt,ks',ws'',pl',a5,a6,z1,z2⟩:=hN2 _ _ z;exact ⟨m',lt,ks',ws'',z1,pl',a5,a6,z2⟩
     rw [List.map_append,List.map_cons,List.map_nil] at h4;refine ⟨tyL h4,UB h4 ?_⟩;have s6:Same H (upd H5 l4 (.lst (ws'.map V.int))):=s5.put n40 _;have h36:upd H5 l4 (.lst (ws'.map V.int)) l3=some (.lst (pl.map V.int)):=(by rw [ao n34];exact h3);have h16:upd H5 l4 (.lst (ws'.map V.int)) l1=some (.lst (qC m r par)):=(by rw [ao n14];exact h1);have h46:upd H5 l4 (.lst (ws'.map V.int)) l4=some (.lst (ws'.map V.int)):=ah;generalize upd H5 l4 (.lst (ws'.map V.int))=H6 at s6 h36 h16 h46 ⊢;refine ⟨tyL h36,sH h36 (bK (by rw [List.length_map];omega)) ?_⟩;have s7:Same H (upd H6 l3 (.lst (pl.map V.int++[V.int q]))):=s6.put n30 _;have h37:upd H6 l3 (.lst (pl.map V.int++[V.int q])) l3=some (.lst ((pl++[q]).map V.int)):=(by rw [ah,List.map_append];rfl);have h17:upd H6 l3 (.lst (pl.map V.int++[V.int q])) l1=some (.lst (qC m r par)):=(by rw [ao n13];exact h16);have h47:upd H6 l3 (.lst (pl.map V.int++[V.int q])) l4=some (.lst (ws'.map V.int)):=(by rw [ao n34.symm];exact h46);generalize upd H6 l3 (.lst (pl.map V.int++[V.int q]))=H7 at s7 h37 h17 h47 ⊢;refine ixL h17 (jR pr.1 (DI pr.1 pr.2)) ?_;have hfv:Pb.front r par q=.non\/∃ i,Pb.front r par q=.int i:=by
       unfold Pb.front;by_cases c:q=r
       . rw [if_pos c];exact .inl rfl
       . rw [if_neg c];exact .inr ⟨_,rfl⟩
     have pq:=rP g R pr.1 pr.2;refine ⟨p,t,m,ps,rs,q,_,rfl,W.same s7,pr.1,pr.2,hfv,fun l8 H8 n8 s8 e8=>⟨l8,rfl,_,SqL.of e8,?_⟩⟩;generalize bq m rs (Pb.front r par q) q=kk at e8 J2 pq ⊢;have n81:l1≠l8:=fun z=>by rw [<- z,h17] at n8;cases n8
     have n83:l3≠l8:=fun z=>by rw [<- z,h37] at n8;cases n8
     have n84:l4≠l8:=fun z=>by rw [<- z,h47] at n8;cases n8
     have kl2:=dv (m:=m) (by omega) J2.nd J2.rng;rw [List.length_append] at kl2;have wl2:=dv (m:=m) (by omega) J2.wnd fun w hw=>J2.at_ r0 r1 hw;rw [List.length_append] at wl2;refine DB (K:=K) (xs:=kk.map V.int) (fun i σ H9=>∃ v6,σ=[some (.ref p),some (.int r),some (.ref l1),some (.ref l3),some (.ref l4),some (.int q),v6]/\Same H H9/\H9 l8=some (.lst (kk.map V.int))/\H9 l1=some (.lst (qC m r par))/\H9 l3=some (.lst ((pl++[q]).map V.int))/\H9 l4=some (.lst ((ws'++kk.reverse.take i).map V.int))) ⟨_,rfl,s7.trans s8,e8,s8 _ _ h17,s8 _ _ h37,by rw [List.take_zero,List.append_nil];exact s8 _ _ h47⟩ (fun i σ H9 _ z=>by obtain ⟨_,_,_,z,_⟩:=z;exact SqL.of z) ?_ ?_
     . rintro i x σ H9 NI hI hi ⟨v6,rfl,s9,e9,h19,h39,h49⟩;rw [<- List.map_reverse,List.getElem?_map] at hi;obtain ⟨v,hv,rfl⟩:=Option.map_eq_some_iff.mp hi;have et:kk.reverse.take (i+1)=kk.reverse.take i++[v]:=(by rw [List.take_succ,hv];rfl);have wlen:(ws'++kk.reverse.take i).length<=100:=by
         rw [List.length_append,List.length_take,List.length_reverse];omega
       walk_at "rd";refine ⟨tyL h49,sH h49 (bK (by rw [List.length_map];omega)) (hI _ _ ⟨_,rfl,s9.put n40 _,?_,?_,?_,?_⟩)⟩
       . rw [ao n84.symm];exact e9
       . rw [ao n14];exact h19
       . rw [ao n34];exact h39
       . rw [ah,et,<- List.append_assoc,List.map_append (l₁:=ws'++kk.reverse.take i)];rfl
     . rintro σ H9 ⟨v6,rfl,s9,e9,h19,h39,h49⟩;rw [List.length_map,show kk.length=kk.reverse.length by rw [List.length_reverse],List.take_length] at h49;refine hN _ _ _ ?_ ⟨ks++kk,ws'++kk.reverse,pl++[q],_,_,rfl,rfl,s9,h19,h39,h49,J2.perm (List.Perm.append_left _ kk.reverse_perm.symm),?_,?_⟩
       . rw [List.length_append,List.length_append,List.length_append,List.length_reverse];simp only [List.length_cons,List.length_nil];omega
       . have p1:(pl++[q]++(ws'++kk.reverse)).Perm (pl++(ws'++[q])++kk):=by
           rw [List.append_assoc,List.append_assoc];refine List.Perm.append_left _ ?_;rw [<- List.append_assoc];exact List.Perm.append (List.perm_append_comm) kk.reverse_perm
         exact p1.trans (List.Perm.append_right _ pe)
       . rw [<- ep,List.reverse_append,List.reverse_append,List.reverse_reverse,List.reverse_singleton,List.singleton_append,List.flatMap_cons,pq,List.flatMap_append];simp
/-- the places of a row with the ones ahead of them,from its end -/
def Pi (par:Int->Int) (v:Int):List V:=[.int v,.int (par v)]
abbrev PairsAt (H:Hp) (par:Int->Int):List Addr->List Int->Prop:=Paired fun q v=>H q=some (.tup (Pi par v))
theorem PairsAt.same {H H':Hp} {par:Int->Int} {qs:List Addr} {vs:List Int} (e:Same H H') (h:PairsAt H par qs vs):PairsAt H' par qs vs:=Paired.imp' (fun q v x=>e q _ x) h
theorem PairsAt.get {H:Hp} {par:Int->Int}:∀ {ps:List Addr} {rs:List Int} {i:Nat} {x:V},PairsAt H par ps rs->(ps.map V.ref)[i]?=some x->∃ p r,x=.ref p/\ps[i]?=some p/\rs[i]?=some r/\H p=some (.tup (Pi par r))
 | _,_,i,x,.nil,e=>by simp at e
 | _,_,0,x,.cons (a:=p) (b:=r) h hs,e=>⟨p,r,by simpa using e.symm,by simp,by simp,h⟩
 | a::l1,_,i+1,x,.cons h hs,e=>by
   have e':(List.map V.ref l1)[i]?=some x:=by simpa using e
   obtain ⟨p,r,h1,h2,h3,h4⟩:=PairsAt.get hs e';exact ⟨p,r,h1,by simpa using h2,by simpa using h3,h4⟩
theorem PairsAt.snoc {H:Hp} {par:Int->Int} {q:Addr} {v:Int} (e:H q=some (.tup (Pi par v))):∀ {qs:List Addr} {vs:List Int},PairsAt H par qs vs->PairsAt H par (qs++[q]) (vs++[v])
 | _,_,.nil=>.cons e .nil
 | _,_,.cons x xs=>.cons x (PairsAt.snoc e xs)
def Ba (T:Txt K mg):Sp:=fun vs H Q E=>∃ (p t:Addr) (m:Int) (ps:List Addr) (rs:List Road) (r:Int),vs=[.ref p,.int r]/\WebAt T.Web H p m t ps rs /\
 (0<=r->r<m->∃ par dep,Rooted m rs r par dep/\∀ l qs tl H',ia m rs r par dep r=r::tl->H l=none->Same H H'->H' l=some (.lst (qs.map V.ref))->PairsAt H' par qs tl.reverse->Order m r par tl->Q (.ref l) H')/\(¬ (0<=r/\r<m)->E (.ref T.NoPlace) none H)
abbrev dJ:Stmt:=top 30
theorem GX:FnScope ["web","r","nearer"] ["web","r"] (aa dJ):=FnScope.of (by kernel_rfl)
theorem zG:NmL (aa dJ) "web":=.of (by kernel_rfl)
theorem Ct:NmC (aa dJ) "r":=.of (by kernel_rfl)
theorem DA:NmC (aa dJ) "nearer":=.of (by kernel_rfl)
theorem vx:NmG (aa dJ) "ahead":=.of (by kernel_rfl)
theorem Al:NmG (aa dJ) "reversed":=.of (by kernel_rfl)
theorem yd:NmG (aa dJ) "down":=.of (by kernel_rfl)
theorem QD (T:Txt K mg) (hq:aK (CXe P w)) {f:Addr} {fd:FuncData} (D:Df K mg "inward" dJ ["web","r"] f fd) {kH:Addr} {uO:FuncData} (jC:Df K mg "ahead" dN ["web","r"] kH uO) (G_ahead:FnOk P w K mg base (CXe P w) 5 kH uO ["web","r"] (DY T)) {uB:Addr} {Np:FuncData} (xP:Df K mg "down" ft ["web","r"] uB Np) (G_down:FnOk P w K mg base (CXe P w) 6 uB Np ["web","r"] (Nl T)):FnOk P w K mg base (CXe P w) 7 f fd ["web","r"] (Ba T):=by
 refine D.F.okX GX (fun vs H Q E h=>?_) (fun cdv A outer s H vs Q E hr h=>?_)
 . obtain ⟨p,t,m,ps,rs,r,rfl,_⟩:=h
   rfl
 . obtain ⟨p,t,m,ps,rs,r,rfl,W,k,e⟩:=h;have g:=W.go;have m24:=g.m24;refine ⟨_,(ai (ap (i:=2) GX.nd rfl (Or.inr DA.l) (am G_ahead (hr.mono (by decide)) vx.g jC.m jC.F.kp jC.b .nil gP (ae (pvl 0 zG) (ae (pvc 1 Ct) ag)) (hdb:=vx.d))) (ak (ay (dF rfl (gj (Nc:=["place","nearer","r"]) 1 [2,1] (by decide +kernel) rfl (by decide +kernel) rfl (by show ∀ (y:Str × NameKind),y∈_->y.2=NameKind.free->(aa dJ).names.lookup y.1=some NameKind.cell;decide +kernel) rfl (fun _ h=>dI h) (fun i hi=>match i,hi with|0,_=>⟨"nearer",2,rfl,rfl,rfl,by decide +kernel⟩|1,_=>⟨"r",1,rfl,rfl,rfl,by decide +kernel⟩|i+2,hi=>absurd hi (by show ¬ i+2<2;omega))) (E7 Al.g T.reversed (am G_down (hr.mono (by decide)) yd.g xP.m xP.F.kp xP.b .nil gP (ae (pvl 0 zG) (ae (pvc 1 Ct) ag)) (hdb:=yd.d))) (fun _ _ _ _=>(au (i:=0) (show (["place","nearer","r"]:List Str).Nodup from by decide +kernel) rfl (Or.inl rfl))) (fun _ _ _ _=>(yc (aO mh (pv 0) (pv 2) (aI _)))) (fun _ _ _ _=>(d6 (ae (pv 0) (ae (az (qp K rfl) (pv 1) (pv 0) (fun _ _=>rfl)) ag)))))))),?_⟩;rw [show L2.start ["web","r","nearer"] [V.ref p,V.int r]=[some (V.ref p),some (V.int r),none] from rfl];walk_at "rd";refine ex6 p t m ps rs r ?_;refine an4 rfl W (fun r0 r1=>?_) e;obtain ⟨par,dep,R,k⟩:=k r0 r1;refine ⟨par,dep,R,fun l1 H1 n1 s1 e1=>?_⟩;refine ex6 p t m ps rs r ?_;refine an4 rfl (W.same s1) (fun _ _=>⟨par,dep,R,fun l2 H2 n2 s2 e2 nd al=>?_⟩) (fun z=>absurd ⟨r0,r1⟩ z);obtain ⟨tl,et,O⟩:=E5 g R r0 r1 nd al;have ll:=Ss g R r0 r1;rw [et] at e2 ll;rw [List.length_cons] at ll;refine ⟨l2,rfl,_,SqL.of e2,fun pc npc=>?_⟩;have e12:=s2 _ _ e1;have s12:=s1.trans s2;have npc0:=s12.free npc;refine SF (K:=K) (xs:=(r::tl).map V.int) (fun i zs σ H3=>Same H2 H3/\H3 pc=some (.lst zs)/\(∃ qs:List Addr,zs=qs.map V.ref/\PairsAt H3 par qs (tl.reverse.take i))/\∃ v,σ=[v,some (V.ref l1),some (V.int r)]) ⟨Same.new _ npc,ah,⟨[],rfl,.nil⟩,_,rfl⟩ (fun i zs σ H3 _ z=>SqL.of (z.1 _ _ e2)) ?_ ?_
   . rintro i x zs σ H3 N hN hx ⟨s3,e3,⟨qs,rfl,pa⟩,v,rfl⟩;rw [<- List.map_reverse,List.reverse_cons,List.getElem?_map] at hx;obtain ⟨y,gy,rfl⟩:=Option.map_eq_some_iff.mp hx;have il:=(List.getElem?_eq_some_iff.mp gy).1;rw [List.length_append,List.length_reverse] at il;have ql:qs.length=(tl.reverse.take i).length:=Paired.length pa;rw [List.length_take,List.length_reverse] at ql;walk_at "rd";by_cases c:i<tl.length
     . rw [List.getElem?_append_left (by rw [List.length_reverse];exact c)] at gy;have ym:y∈tl:=List.mem_reverse.mp (List.mem_of_getElem? gy);have yr:=O.rng y ym;rw [if_pos (O.ne ym)];have gp:atI (qC m r par) y=some (V.int (par y)):=by
         have ef:Pb.front r par y=V.int (par y):=(by unfold Pb.front;rw [if_neg (O.ne ym)]);rw [<- ef];exact jR yr.1 (DI yr.1 yr.2)
       refine ixL (s3 _ _ e12) gp ⟨aL (by simp),fun q nq=>?_⟩;have s4:=Same.new (.tup [V.int y,V.int (par y)]) nq;have nqp:q≠pc:=fun z=>by rw [z,e3] at nq;cases nq
       refine ⟨s4 _ _ e3,bK (by rw [List.length_map];omega),hN _ _ _ ⟨(s3.trans s4).put npc _,ah,⟨qs++[q],by rw [List.map_append];rfl,?_⟩,_,rfl⟩⟩;rw [List.take_succ,gy];refine PairsAt.snoc (by rw [ao nqp,ah];rfl) ?_;exact Paired.imp' (fun a b h=>by
         rw [ao (im h e3 (by intro z;cases z)),ao (aX h nq)];exact h) pa
     . have ei:i=tl.reverse.length:=(by rw [List.length_reverse];simp at il;omega);rw [ei,List.getElem?_append_right (Nat.le_refl _),Nat.sub_self] at gy;cases gy;rw [if_neg (fun z=>z rfl)];refine hN _ _ _ ⟨s3,e3,⟨qs,rfl,?_⟩,_,rfl⟩;rw [List.take_of_length_le (by omega)] at pa ⊢;exact pa
   . rintro zs σ H3 ⟨s3,e3,⟨qs,rfl,pa⟩,v,rfl⟩;rw [List.take_of_length_le (by rw [List.length_map,List.length_reverse,List.length_cons];omega)] at pa;exact k pc qs tl H3 et npc0 (s12.trans s3) e3 pa O
def Ax (T:Txt K mg):Sp:=fun vs H Q E=>∃ (p t:Addr) (m:Int) (ps:List Addr) (rs:List Road) (r:Int),vs=[.ref p,.int r]/\WebAt T.Web H p m t ps rs /\
 (0<=r->r<m->∃ par dep,Rooted m rs r par dep/\∀ l H',H l=none->Same H H'->H' l=some (.lst (((below m.toNat).map (prc rs par dep true)).map V.int))->Q (.ref l) H')/\(¬ (0<=r/\r<m)->∀ H',Same H H'->E (.ref T.NoPlace) none H')
abbrev cf:Stmt:=top 37
theorem pG:FnScope ["web","v","prices","place","front"] ["web","v"] (aa cf):=FnScope.of (by kernel_rfl)
theorem nQ:NmL (aa cf) "web":=.of (by kernel_rfl)
theorem F1:NmL (aa cf) "v":=.of (by kernel_rfl)
theorem iq:NmL (aa cf) "prices":=.of (by kernel_rfl)
theorem lB:NmL (aa cf) "place":=.of (by kernel_rfl)
theorem lU:NmL (aa cf) "front":=.of (by kernel_rfl)
theorem xI:NmG (aa cf) "reversed":=.of (by kernel_rfl)
theorem qe:NmG (aa cf) "inward":=.of (by kernel_rfl)
theorem tI:NmG (aa cf) "toll":=.of (by kernel_rfl)
theorem Lz (T:Txt K mg) (hq:aK (CXe P w)) {f:Addr} {fd:FuncData} (D:Df K mg "prices_to" cf ["web","v"] f fd) {jg:Addr} {sd:FuncData} (hG:Df K mg "inward" dJ ["web","r"] jg sd) (G_inward:FnOk P w K mg base (CXe P w) 7 jg sd ["web","r"] (Ba T)) {gJ:Addr} {jB:FuncData} (cD:Df K mg "toll" d8 ["web","a","b"] gJ jB) (G_toll:FnOk P w K mg base (CXe P w) 3 gJ jB ["web","a","b"] (xE T)):FnOk P w K mg base (CXe P w) 8 f fd ["web","v"] (Ax T):=by
 refine D.F.okX pG (fun vs H Q E h=>?_) (fun cdv A outer s H vs Q E hr h=>?_)
 . obtain ⟨p,t,m,ps,rs,r,rfl,_⟩:=h
   rfl
 . obtain ⟨p,t,m,ps,rs,r,rfl,W,k,e⟩:=h;have g:=W.go;have m1:=g.m1;have m24:=g.m24;obtain ⟨dx,ob⟩:=W.ob;refine ⟨_,(ai (ap (i:=2) pG.nd rfl (Or.inl iq.l) (aA xY (cP (ae aj ag)) (kD  (pvl 0 nQ) rfl))) (ai (eM PassesOwn.leaving rfl (E7 xI.g T.reversed (am G_inward (hr.mono (by decide)) qe.g hG.m hG.F.kp hG.b .nil gP (ae (pvl 0 nQ) (ae (pvl 1 F1) ag)) (hdb:=qe.d))) (lM (n:=2) rfl (be (au (i:=3) pG.nd rfl (Or.inl lB.l)) (be (au (i:=4) pG.nd rfl (Or.inl lU.l)) ju))) (ak (mZ (aA xx (az bz (pvl 2 iq) (pvl 4 lU) (fun _ _=>rfl)) (am G_toll (hr.mono (by decide)) tI.g cD.m cD.F.kp cD.b .nil gP (ae (pvl 0 nQ) (ae (pvl 3 lB) (ae (pvl 4 lU) ag))) (hdb:=tI.d))) (xz (pvl 2 iq) (pvl 3 lB) qQ)))) (ak (ay (pvl 2 iq))))),?_⟩;rw [show L2.start ["web","v","prices","place","front"] [V.ref p,V.int r]=[some (V.ref p),some (V.int r),none,none,none] from rfl];walk_at "rd";refine ⟨aL (by simp),fun l0 n0=>?_⟩;have s1:=Same.new (.lst [V.int 1]) n0;refine ⟨T.Web,dx,_,s1 _ _ ob,T.iR,T.n_many,_,gO m t,?_⟩;refine ⟨l0,m,_,rfl,rfl,ah,by omega,by omega,aL (by simp;omega),fun l n1=>?_⟩;rw [NL];have s2:=s1.trans (Same.new (.lst (List.replicate m.toNat (V.int 1))) n1);have nl:=s1.free n1;have e1:upd (upd H l0 (.lst [V.int 1])) l (.lst (List.replicate m.toNat (V.int 1))) l=some (.lst ((List.replicate m.toNat (1:Int)).map V.int)):=by rw [ah,List.map_replicate]
   generalize upd (upd H l0 (.lst [V.int 1])) l (.lst (List.replicate m.toNat (V.int 1)))=H1 at s2 e1 ⊢;refine ex6 p t m ps rs r ?_;refine an4 rfl (W.same s2) (fun r0 r1=>?_) (fun z=>e z _ s2);obtain ⟨par,dep,R,k⟩:=k r0 r1;refine ⟨par,dep,R,fun l2 qs tl H4 et n2 s4 e4 pa O=>?_⟩;have nll:l2≠l:=fun z=>by rw [z,e1] at n2;cases n2
   have ql:qs.length=tl.reverse.length:=Paired.length pa;rw [List.length_reverse] at ql;have st:Pso m rs r par dep true [] (List.replicate m.toNat (1:Int)):=⟨by rw [List.length_replicate];omega,fun u hu=>by
     rw [List.mem_singleton.mp hu,ie R,List.getD,List.getElem?_replicate,if_pos (by omega)]
     rfl⟩
   refine ⟨l2,rfl,_,SqL.of e4,?_⟩;refine DB (K:=K) (xs:=qs.map V.ref) (fun i σ H5=>Same H H5/\H5 l2=some (.lst (qs.map V.ref))/\PairsAt H5 par qs tl.reverse/\∃ (cs:List Int) (v5 v6:Option V),H5 l=some (.lst (cs.map V.int))/\Pso m rs r par dep true (tl.take i) cs/\σ=[some (V.ref p),some (V.int r),some (V.ref l),v5,v6]) ⟨s2.trans s4,e4,pa,_,_,_,s4 _ _ e1,by rw [List.take_zero];exact st,rfl⟩ (fun i σ H5 _ z=>SqL.of z.2.1) ?_ ?_
   . rintro i x σ H5 N hN hx ⟨s5,e5,pa5,cs,v5,v6,c5,S,rfl⟩;have il:=(List.getElem?_eq_some_iff.mp hx).1;rw [List.length_reverse,List.length_map] at il;rw [List.getElem?_reverse (by rw [List.length_map];exact il),List.length_map] at hx;obtain ⟨q,v,rfl,hq',hv,eq⟩:=pa5.get hx;rw [List.getElem?_reverse (by omega),show tl.length - 1 - (qs.length - 1 - i)=i by omega] at hv;have vm:=List.mem_of_getElem? hv;have vr:=O.rng v vm;have vn:=O.ne vm;have u:=R.up v vr.1 vr.2 vn;obtain ⟨kk,hk,k0,k1⟩:=gD g u.2.1;have ek:tlf rs par true v=kk:=(by unfold tlf aE;rw [if_pos rfl,hk];rfl);have sl:=S.len;walk_at "rd";refine ⟨_,SqT.of eq,rfl,_,_,rfl,_,_,rfl,rfl,?_⟩;refine ixL c5 (atG u.1.1 (by omega)) ⟨p,t,m,ps,rs,v,par v,rfl,W.same s5,fun k' _ _ _ _ h=>?_,fun z=>absurd ⟨vr,u.1⟩ z,fun _ _ _ _ z=>by rw [hk] at z;cases z⟩;rw [hk] at h;cases h;exact ⟨_,rfl,_,rfl,.inr ⟨by omega,by omega⟩,WW c5 vr.1 (by rw [List.length_map];omega) (hN _ _ ⟨s5.put nl _,by rw [ao nll];exact e5,Paired.imp' (fun a b h=>by rw [ao (im h c5 (by intro z;cases z))];exact h) pa5,_,_,_,by rw [ah,<- List.map_set],S.step R O r0 hv (by rw [ek]),rfl⟩)⟩
   . rintro σ H5 ⟨s5,e5,pa5,cs,v5,v6,c5,S,rfl⟩;rw [List.length_map,ql,List.take_length] at S;walk_at "rd";rw [S.done g O] at c5;exact k l H5 nl s5 c5
def Jh (T:Txt K mg):Sp:=fun vs H Q E=>∃ (p a t:Addr) (c:Bool) (m:Int) (ps qs:List Addr) (rs:List Road) (fs:List (Int × Int)) (r:Int),vs=[.ref p,.ref a,.int r]/\WebAt T.Web H p m t ps rs/\AtX c H a (qs.map V.ref)/\FrsAt H qs fs/\(∀ f∈fs,FrB 340 f)/\(fs.length:Int)=m/\m<=8 /\
 (0<=r->r<m->∃ par dep,Rooted m rs r par dep/\∀ (x y:Int) (l:Addr) (H':Hp),0<y->x.gcd y=1->x.natAbs<2^3950->y.natAbs<2^3950->(x:Rat) / y=aB (fs.zip ((below m.toNat).map (prc rs par dep true))) (fun z=>(z.1.1:Rat) / z.1.2 / z.2)->H l=none->Same H H'->H' l=some (.tup [.int x,.int y])->Q (.ref l) H')/\(¬ (0<=r/\r<m)->∀ H',Same H H'->E (.ref T.NoPlace) none H')
abbrev g6:Stmt:=top 34
theorem UD:FnScope ["web","shares","v"] ["web","shares","v"] (aa g6):=FnScope.of (by kernel_rfl)
theorem Ja:NmL (aa g6) "web":=.of (by kernel_rfl)
theorem Ec:NmL (aa g6) "shares":=.of (by kernel_rfl)
theorem Op:NmL (aa g6) "v":=.of (by kernel_rfl)
theorem p8:NmG (aa g6) "divided_up":=.of (by kernel_rfl)
theorem r9:NmG (aa g6) "prices_to":=.of (by kernel_rfl)
theorem RD (T:Txt K mg) (hq:aK (CXe P w)) {f:Addr} {fd:FuncData} (D:Df K mg "worth" g6 ["web","shares","v"] f fd) {dR:Addr} {kg:FuncData} (dw:Df K mg "divided_up" cH ["shares","prices"] dR kg) (G_divided_up:FnOk P w K mg base (CXe P w) 4 dR kg ["shares","prices"] (sU T)) {jh:Addr} {Bx:FuncData} (kF:Df K mg "prices_to" cf ["web","v"] jh Bx) (G_prices_to:FnOk P w K mg base (CXe P w) 8 jh Bx ["web","v"] (Ax T)):FnOk P w K mg base (CXe P w) 9 f fd ["web","shares","v"] (Jh T):=by
 refine D.F.okX UD (fun vs H Q E h=>?_) (fun cdv A outer s H vs Q E hr h=>?_)
 . obtain ⟨p,a,t,c,m,ps,qs,rs,fs,r,rfl,_⟩:=h
   rfl
 . obtain ⟨p,a,t,c,m,ps,qs,rs,fs,r,rfl,W,ha,hq1,fb,fl,m8,k,e⟩:=h;have g:=W.go;refine ⟨_,(ak (ay (am G_divided_up (hr.mono (by decide)) p8.g dw.m dw.F.kp dw.b .nil gP (ae (pvl 1 Ec) (ae (am G_prices_to (hr.mono (by decide)) r9.g kF.m kF.F.kp kF.b .nil gP (ae (pvl 0 Ja) (ae (pvl 2 Op) ag)) (hdb:=r9.d)) ag)) (hdb:=p8.d)))),?_⟩;rw [show L2.start ["web","shares","v"] [V.ref p,V.ref a,V.int r]=[some (V.ref p),some (V.ref a),some (V.int r)] from rfl];walk_at "rd";refine ⟨p,t,m,ps,rs,r,rfl,W,fun r0 r1=>?_,fun z H' s'=>e z H' s'⟩;obtain ⟨par,dep,R,k⟩:=k r0 r1;refine ⟨par,dep,R,fun l H1 nl s1 el=>?_⟩;refine ⟨a,l,c,qs,fs,_,rfl,s1 _ _ ha,Paired.imp' (fun q v x=>s1 q _ x) hq1,fb,el,by rw [List.length_map,aD];omega,by omega,?_,fun x y b H2 y0 xy xb yb su nb s2 eb=>k x y b H2 y0 xy xb yb su (s1.free nb) (s1.trans s2) eb⟩;intro x hx;obtain ⟨v,hv,rfl⟩:=List.mem_map.mp hx;obtain ⟨v0,v1⟩:=bh.mp hv;obtain ⟨b0,b1⟩:=ji (to:=true) g R _ rfl v0 (show v<m by omega);have dl:=rE R v0 (show v<m by omega);exact ⟨b0,Nat.lt_of_lt_of_le b1 (Nat.pow_le_pow_right (by decide) (by omega))⟩
def xZ (T:Txt K mg):Sp:=fun vs H Q E=>∃ (p t:Addr) (m:Int) (ps:List Addr) (rs:List Road) (r:Int),vs=[.ref p,.int r]/\WebAt T.Web H p m t ps rs /\
 (0<=r->r<m->∃ par dep,Rooted m rs r par dep/\∀ l H',H l=none->Same H H'->H' l=some (.lst (((below m.toNat).map (prc rs par dep false)).map V.int))->Q (.ref l) H')/\(¬ (0<=r/\r<m)->∀ H',Same H H'->E (.ref T.NoPlace) none H')
abbrev bB:Stmt:=top 38
theorem mj:FnScope ["web","u","prices","place","front"] ["web","u"] (aa bB):=FnScope.of (by kernel_rfl)
theorem lq:NmL (aa bB) "web":=.of (by kernel_rfl)
theorem DS:NmL (aa bB) "u":=.of (by kernel_rfl)
theorem gw:NmL (aa bB) "prices":=.of (by kernel_rfl)
theorem j8:NmL (aa bB) "place":=.of (by kernel_rfl)
theorem j5:NmL (aa bB) "front":=.of (by kernel_rfl)
theorem vw:NmG (aa bB) "reversed":=.of (by kernel_rfl)
theorem oz:NmG (aa bB) "inward":=.of (by kernel_rfl)
theorem p4:NmG (aa bB) "toll":=.of (by kernel_rfl)
theorem Ff (T:Txt K mg) (hq:aK (CXe P w)) {f:Addr} {fd:FuncData} (D:Df K mg "prices_from" bB ["web","u"] f fd) {jg:Addr} {sd:FuncData} (hG:Df K mg "inward" dJ ["web","r"] jg sd) (G_inward:FnOk P w K mg base (CXe P w) 7 jg sd ["web","r"] (Ba T)) {gJ:Addr} {jB:FuncData} (cD:Df K mg "toll" d8 ["web","a","b"] gJ jB) (G_toll:FnOk P w K mg base (CXe P w) 3 gJ jB ["web","a","b"] (xE T)):FnOk P w K mg base (CXe P w) 8 f fd ["web","u"] (xZ T):=by
 refine D.F.okX mj (fun vs H Q E h=>?_) (fun cdv A outer s H vs Q E hr h=>?_)
 . obtain ⟨p,t,m,ps,rs,r,rfl,_⟩:=h
   rfl
 . obtain ⟨p,t,m,ps,rs,r,rfl,W,k,e⟩:=h;have g:=W.go;have m1:=g.m1;have m24:=g.m24;obtain ⟨dx,ob⟩:=W.ob;refine ⟨_,(ai (ap (i:=2) mj.nd rfl (Or.inl gw.l) (aA xY (cP (ae aj ag)) (kD  (pvl 0 lq) rfl))) (ai (eM PassesOwn.leaving rfl (E7 vw.g T.reversed (am G_inward (hr.mono (by decide)) oz.g hG.m hG.F.kp hG.b .nil gP (ae (pvl 0 lq) (ae (pvl 1 DS) ag)) (hdb:=oz.d))) (lM (n:=2) rfl (be (au (i:=3) mj.nd rfl (Or.inl j8.l)) (be (au (i:=4) mj.nd rfl (Or.inl j5.l)) ju))) (ak (mZ (aA xx (az bz (pvl 2 gw) (pvl 4 j5) (fun _ _=>rfl)) (am G_toll (hr.mono (by decide)) p4.g cD.m cD.F.kp cD.b .nil gP (ae (pvl 0 lq) (ae (pvl 4 j5) (ae (pvl 3 j8) ag))) (hdb:=p4.d))) (xz (pvl 2 gw) (pvl 3 j8) qQ)))) (ak (ay (pvl 2 gw))))),?_⟩;rw [show L2.start ["web","u","prices","place","front"] [V.ref p,V.int r]=[some (V.ref p),some (V.int r),none,none,none] from rfl];walk_at "rd";refine ⟨aL (by simp),fun l0 n0=>?_⟩;have s1:=Same.new (.lst [V.int 1]) n0;refine ⟨T.Web,dx,_,s1 _ _ ob,T.iR,T.n_many,_,gO m t,?_⟩;refine ⟨l0,m,_,rfl,rfl,ah,by omega,by omega,aL (by simp;omega),fun l n1=>?_⟩;rw [NL];have s2:=s1.trans (Same.new (.lst (List.replicate m.toNat (V.int 1))) n1);have nl:=s1.free n1;have e1:upd (upd H l0 (.lst [V.int 1])) l (.lst (List.replicate m.toNat (V.int 1))) l=some (.lst ((List.replicate m.toNat (1:Int)).map V.int)):=by rw [ah,List.map_replicate]
   generalize upd (upd H l0 (.lst [V.int 1])) l (.lst (List.replicate m.toNat (V.int 1)))=H1 at s2 e1 ⊢;refine ex6 p t m ps rs r ?_;refine an4 rfl (W.same s2) (fun r0 r1=>?_) (fun z=>e z _ s2);obtain ⟨par,dep,R,k⟩:=k r0 r1;refine ⟨par,dep,R,fun l2 qs tl H4 et n2 s4 e4 pa O=>?_⟩;have nll:l2≠l:=fun z=>by rw [z,e1] at n2;cases n2
   have ql:qs.length=tl.reverse.length:=Paired.length pa;rw [List.length_reverse] at ql;have st:Pso m rs r par dep false [] (List.replicate m.toNat (1:Int)):=⟨by rw [List.length_replicate];omega,fun u hu=>by
     rw [List.mem_singleton.mp hu,ie R,List.getD,List.getElem?_replicate,if_pos (by omega)]
     rfl⟩
   refine ⟨l2,rfl,_,SqL.of e4,?_⟩;refine DB (K:=K) (xs:=qs.map V.ref) (fun i σ H5=>Same H H5/\H5 l2=some (.lst (qs.map V.ref))/\PairsAt H5 par qs tl.reverse/\∃ (cs:List Int) (v5 v6:Option V),H5 l=some (.lst (cs.map V.int))/\Pso m rs r par dep false (tl.take i) cs/\σ=[some (V.ref p),some (V.int r),some (V.ref l),v5,v6]) ⟨s2.trans s4,e4,pa,_,_,_,s4 _ _ e1,by rw [List.take_zero];exact st,rfl⟩ (fun i σ H5 _ z=>SqL.of z.2.1) ?_ ?_
   . rintro i x σ H5 N hN hx ⟨s5,e5,pa5,cs,v5,v6,c5,S,rfl⟩;have il:=(List.getElem?_eq_some_iff.mp hx).1;rw [List.length_reverse,List.length_map] at il;rw [List.getElem?_reverse (by rw [List.length_map];exact il),List.length_map] at hx;obtain ⟨q,v,rfl,hq',hv,eq⟩:=pa5.get hx;rw [List.getElem?_reverse (by omega),show tl.length - 1 - (qs.length - 1 - i)=i by omega] at hv;have vm:=List.mem_of_getElem? hv;have vr:=O.rng v vm;have vn:=O.ne vm;have u:=R.up v vr.1 vr.2 vn;obtain ⟨kk,hk,k0,k1⟩:=gD g u.2.1.symm;have ek:tlf rs par false v=kk:=(by unfold tlf aE;rw [if_neg (by decide),hk];rfl);have sl:=S.len;walk_at "rd";refine ⟨_,SqT.of eq,rfl,_,_,rfl,_,_,rfl,rfl,?_⟩;refine ixL c5 (atG u.1.1 (by omega)) ⟨p,t,m,ps,rs,par v,v,rfl,W.same s5,fun k' _ _ _ _ h=>?_,fun z=>absurd ⟨u.1,vr⟩ z,fun _ _ _ _ z=>by rw [hk] at z;cases z⟩;rw [hk] at h;cases h;exact ⟨_,rfl,_,rfl,.inr ⟨by omega,by omega⟩,WW c5 vr.1 (by rw [List.length_map];omega) (hN _ _ ⟨s5.put nl _,by rw [ao nll];exact e5,Paired.imp' (fun a b h=>by rw [ao (im h c5 (by intro z;cases z))];exact h) pa5,_,_,_,by rw [ah,<- List.map_set],S.step R O r0 hv (by rw [ek]),rfl⟩)⟩
   . rintro σ H5 ⟨s5,e5,pa5,cs,v5,v6,c5,S,rfl⟩;rw [List.length_map,ql,List.take_length] at S;walk_at "rd";rw [S.done g O] at c5;exact k l H5 nl s5 c5
def Gy (T:Txt K mg):Sp:=fun vs H Q E=>∃ (p a t:Addr) (c:Bool) (m:Int) (ps qs:List Addr) (rs:List Road) (fs:List (Int × Int)) (r:Int),vs=[.ref p,.ref a,.int r]/\WebAt T.Web H p m t ps rs/\AtX c H a (qs.map V.ref)/\FrsAt H qs fs/\(∀ f∈fs,FrB 340 f)/\(fs.length:Int)=m/\m<=8 /\
 (0<=r->r<m->∃ par dep,Rooted m rs r par dep/\∀ (x y:Int) (l:Addr) (H':Hp),0<y->x.gcd y=1->x.natAbs<2^3950->y.natAbs<2^3950->(x:Rat) / y=aB (fs.zip ((below m.toNat).map (prc rs par dep false))) (fun z=>(z.1.1:Rat) / z.1.2 / z.2)->H l=none->Same H H'->H' l=some (.tup [.int x,.int y])->Q (.ref l) H')/\(¬ (0<=r/\r<m)->∀ H',Same H H'->E (.ref T.NoPlace) none H')
abbrev fF:Stmt:=top 35
theorem P7:FnScope ["web","shares","u"] ["web","shares","u"] (aa fF):=FnScope.of (by kernel_rfl)
theorem HM:NmL (aa fF) "web":=.of (by kernel_rfl)
theorem DE:NmL (aa fF) "shares":=.of (by kernel_rfl)
theorem MS:NmL (aa fF) "u":=.of (by kernel_rfl)
theorem pL:NmG (aa fF) "divided_up":=.of (by kernel_rfl)
theorem oP:NmG (aa fF) "prices_from":=.of (by kernel_rfl)
theorem Qd (T:Txt K mg) (hq:aK (CXe P w)) {f:Addr} {fd:FuncData} (D:Df K mg "yields" fF ["web","shares","u"] f fd) {dR:Addr} {kg:FuncData} (dw:Df K mg "divided_up" cH ["shares","prices"] dR kg) (G_divided_up:FnOk P w K mg base (CXe P w) 4 dR kg ["shares","prices"] (sU T)) {gG:Addr} {xC:FuncData} (iB:Df K mg "prices_from" bB ["web","u"] gG xC) (G_prices_from:FnOk P w K mg base (CXe P w) 8 gG xC ["web","u"] (xZ T)):FnOk P w K mg base (CXe P w) 9 f fd ["web","shares","u"] (Gy T):=by
 refine D.F.okX P7 (fun vs H Q E h=>?_) (fun cdv A outer s H vs Q E hr h=>?_)
 . obtain ⟨p,a,t,c,m,ps,qs,rs,fs,r,rfl,_⟩:=h
   rfl
 . obtain ⟨p,a,t,c,m,ps,qs,rs,fs,r,rfl,W,ha,hq1,fb,fl,m8,k,e⟩:=h;have g:=W.go;refine ⟨_,(ak (ay (am G_divided_up (hr.mono (by decide)) pL.g dw.m dw.F.kp dw.b .nil gP (ae (pvl 1 DE) (ae (am G_prices_from (hr.mono (by decide)) oP.g iB.m iB.F.kp iB.b .nil gP (ae (pvl 0 HM) (ae (pvl 2 MS) ag)) (hdb:=oP.d)) ag)) (hdb:=pL.d)))),?_⟩;rw [show L2.start ["web","shares","u"] [V.ref p,V.ref a,V.int r]=[some (V.ref p),some (V.ref a),some (V.int r)] from rfl];walk_at "rd";refine ⟨p,t,m,ps,rs,r,rfl,W,fun r0 r1=>?_,fun z H' s'=>e z H' s'⟩;obtain ⟨par,dep,R,k⟩:=k r0 r1;refine ⟨par,dep,R,fun l H1 nl s1 el=>?_⟩;refine ⟨a,l,c,qs,fs,_,rfl,s1 _ _ ha,Paired.imp' (fun q v x=>s1 q _ x) hq1,fb,el,by rw [List.length_map,aD];omega,by omega,?_,fun x y b H2 y0 xy xb yb su nb s2 eb=>k x y b H2 y0 xy xb yb su (s1.free nb) (s1.trans s2) eb⟩;intro x hx;obtain ⟨v,hv,rfl⟩:=List.mem_map.mp hx;obtain ⟨v0,v1⟩:=bh.mp hv;obtain ⟨b0,b1⟩:=ji (to:=false) g R _ rfl v0 (show v<m by omega);have dl:=rE R v0 (show v<m by omega);exact ⟨b0,Nat.lt_of_lt_of_le b1 (Nat.pow_le_pow_right (by decide) (by omega))⟩
def vb (T:Txt K mg):Sp:=fun vs H Q _=>∃ (p a b t:Addr) (m:Int) (ps qa qb:List Addr) (rs:List Road) (fs gs:List (Int × Int)),vs=[.ref p,.ref a,.ref b]/\WebAt T.Web H p m t ps rs/\m<=8/\H a=some (.lst (qa.map V.ref))/\FrsAt H qa fs/\H b=some (.lst (qb.map V.ref))/\FrsAt H qb gs/\(∀ f∈fs,FrB 340 f/\0<=f.1)/\(∀ f∈gs,FrB 340 f/\0<=f.1)/\(fs.length:Int)=m/\(gs.length:Int)=m/\(∀ (i:Nat) f,fs[i]?=some f->(f.1:Rat) / f.2=shr m rs (evp rs) i)/\(∀ (i:Nat) f,gs[i]?=some f->(f.1:Rat) / f.2=shr m rs (sep rs) i)/\∀ H',Same H H'->Q (.bl true) H'
theorem Ex {x y:Int} (y0:0<y) (e:(x:Rat) / y=1):x=y:=by
 have h:=Lk (a:=x) (b:=y) (c:=1) (d:=1) (by omega) (by decide) (by rw [e];show (1:Rat)=((1:Int):Rat) / ((1:Int):Rat);show (1:Rat)=(1:Rat) / (1:Rat);grind);omega
abbrev aU:Stmt:=top 44
theorem Du:FnScope ["web","shares","second"] ["web","shares","second"] (aa aU):=FnScope.of (by kernel_rfl)
theorem gR:NmC (aa aU) "web":=.of (by kernel_rfl)
theorem mC:NmC (aa aU) "shares":=.of (by kernel_rfl)
theorem mz:NmC (aa aU) "second":=.of (by kernel_rfl)
theorem dY:NmG (aa aU) "are_sound":=.of (by kernel_rfl)
theorem dG:NmG (aa aU) "any":=.of (by kernel_rfl)
theorem m5:NmG (aa aU) "range":=.of (by kernel_rfl)
theorem fj:NmG (aa aU) "sum_up":=.of (by kernel_rfl)
theorem C6 (T:Txt K mg) (hq:aK (CXe P w)) {f:Addr} {fd:FuncData} (D:Df K mg "shows_fairest" aU ["web","shares","second"] f fd) {ja:Addr} {AR:FuncData} (fN:Df K mg "are_sound" dC ["web","shares"] ja AR) (G_are_sound:FnOk P w K mg base (CXe P w) 3 ja AR ["web","shares"] (AV T)) {mQ:Addr} {xB:FuncData} (iK:Df K mg "less" lQ ["one","two"] mQ xB) (G_less:FnOk P w K mg base (CXe P w) 1 mQ xB ["one","two"] (FJ T)) {cT:Addr} {dL:FuncData} (bi:Df K mg "sum_up" cU ["some"] cT dL) (G_sum_up:FnOk P w K mg base (CXe P w) 3 cT dL ["some"] (oB T)) {qS:Addr} {JP:FuncData} (tU:Df K mg "worth" g6 ["web","shares","v"] qS JP) (G_worth:FnOk P w K mg base (CXe P w) 9 qS JP ["web","shares","v"] (Jh T)) {nO:Addr} {GS:FuncData} (qv:Df K mg "yields" fF ["web","shares","u"] nO GS) (G_yields:FnOk P w K mg base (CXe P w) 9 nO GS ["web","shares","u"] (Gy T)):FnOk P w K mg base (CXe P w) 10 f fd ["web","shares","second"] (vb T):=by
 refine D.F.okC Du (fun vs H Q E h=>?_) (fun cdv A outer s H vs Q E hr h=>?_)
 . obtain ⟨p,a,b,t,m,ps,qa,qb,rs,fs,gs,rfl,_⟩:=h
   rfl
 . obtain ⟨p,a,b,t,m,ps,qa,qb,rs,fs,gs,rfl,W,m8,ha,fa,hb,gb,fB,gB,fl,gl,fv,gv,k⟩:=h;have hv:=hr.units;have g:=W.go;have m1:=g.m1;refine ⟨_,(ai (bZ (PW.pt (k7 (eP (fw (am G_are_sound (hr.mono (by decide)) dY.g fN.m fN.F.kp fN.b .nil (aq hq) (ae (pvc 0 gR) (ae (pvc 1 mC) ag)) (hdb:=dY.d)))) (mW (eP (fw (am G_are_sound (hr.mono (by decide)) dY.g fN.m fN.F.kp fN.b .nil (aq hq) (ae (pvc 0 gR) (ae (pvc 2 mz) ag)) (hdb:=dY.d))))))) (ak (ay ik)) aW) (ai (bZ (fw (aN (D0 rfl) dG.g T.any JZ (ae (dF rfl (gj (Nc:=["v","web","shares"]) 1 [0,1] (by decide +kernel) rfl (by decide +kernel) rfl (by show ∀ (y:Str × NameKind),y∈_->y.2=NameKind.free->(aa aU).names.lookup y.1=some NameKind.cell;decide +kernel) rfl (fun _ h=>dI h) (fun i hi=>match i,hi with|0,_=>⟨"web",0,rfl,rfl,rfl,by decide +kernel⟩|1,_=>⟨"shares",1,rfl,rfl,rfl,by decide +kernel⟩|i+2,hi=>absurd hi (by show ¬ i+2<2;omega))) (d5 m5.g T.range (ae (kD  (pvc 0 gR) rfl) ag)) (fun _ _ _ _=>(au (i:=0) (show (["v","web","shares"]:List Str).Nodup from by decide +kernel) rfl (Or.inl rfl))) (fun _ _ _ _=>eU) (fun _ _ _ _=>(am G_less (hr.mono (by decide)) (by rfl) iK.m iK.F.kp iK.b .nil (aq hq) (ae (am G_worth (hr.mono (by decide)) (by rfl) tU.m tU.F.kp tU.b .nil (aq hq) (ae (pv 1) (ae (pv 2) (ae (pv 0) ag)))) (ae (tX (v:=.ref T.ONE) (by rfl) T.Im rfl) ag))))) ag) (hn:=dG.n) (hdb:=dG.d))) (ak (ay ik)) aW) (ai (bZ (fw (aN (D0 rfl) dG.g T.any JZ (ae (dF rfl (gj (Nc:=["u","web","second"]) 1 [0,2] (by decide +kernel) rfl (by decide +kernel) rfl (by show ∀ (y:Str × NameKind),y∈_->y.2=NameKind.free->(aa aU).names.lookup y.1=some NameKind.cell;decide +kernel) rfl (fun _ h=>dI h) (fun i hi=>match i,hi with|0,_=>⟨"web",0,rfl,rfl,rfl,by decide +kernel⟩|1,_=>⟨"second",2,rfl,rfl,rfl,by decide +kernel⟩|i+2,hi=>absurd hi (by show ¬ i+2<2;omega))) (d5 m5.g T.range (ae (kD  (pvc 0 gR) rfl) ag)) (fun _ _ _ _=>(au (i:=0) (show (["u","web","second"]:List Str).Nodup from by decide +kernel) rfl (Or.inl rfl))) (fun _ _ _ _=>eU) (fun _ _ _ _=>(am G_less (hr.mono (by decide)) (by rfl) iK.m iK.F.kp iK.b .nil (aq hq) (ae (tX (v:=.ref T.ONE) (by rfl) T.Im rfl) (ae (am G_yields (hr.mono (by decide)) (by rfl) qv.m qv.F.kp qv.b .nil (aq hq) (ae (pv 1) (ae (pv 2) (ae (pv 0) ag)))) ag))))) ag) (hn:=dG.n) (hdb:=dG.d))) (ak (ay ik)) aW) (ak (ay (gZ (yq hv) (am G_sum_up (hr.mono (by decide)) fj.g bi.m bi.F.kp bi.b .nil (aq hq) (ae (pvc 1 mC) ag) (hdb:=fj.d)) (am G_sum_up (hr.mono (by decide)) fj.g bi.m bi.F.kp bi.b .nil (aq hq) (ae (pvc 2 mz) ag) (hdb:=fj.d)) (aI _))))))),?_⟩;rw [show L2.start ["web","shares","second"] [V.ref p,V.ref a,V.ref b]=[some (V.ref p),some (V.ref a),some (V.ref b)] from rfl];refine bg fun N1 h1=>?_;walk_at "rd";refine ⟨p,a,t,true,m,ps,qa,rs,fs,rfl,W,ha,fa,fB,fl,m8,fun H1 s1=>⟨_,rfl,?_⟩⟩;rw [if_neg (by decide)];refine ⟨p,b,t,true,m,ps,qb,rs,gs,rfl,W.same s1,s1 _ _ hb,FrsAt.same s1 gb,gB,gl,m8,fun H2 s2=>⟨_,rfl,?_⟩⟩;rw [if_neg (by decide)];have s12:=s1.trans s2;refine h1 _ _ (bg fun N2 h2=>?_);obtain ⟨dx,ob⟩:=(W.same s12).ob;walk_at "rd";refine ⟨T.Web,dx,_,ob,T.iR,T.n_many,_,gO m t,m,rfl,by omega,by omega,fun pc nc=>?_⟩;refine gM (fun i zs σ H3=>Same H2 H3/\H3 pc=some (.lst zs)/\zs=(List.replicate i false).map V.bl/\∃ v,σ=[v,some (V.ref p),some (V.ref a)]) ⟨Same.new _ nc,ah,rfl,_,rfl⟩ ?_ ?_
   . rintro i zs σ H3 N hN hi ⟨s3,e3,rfl,v,rfl⟩;rw [Int.zero_add];have i0:(0:Int)<=(i:Int):=(by omega);have i1:(i:Int)<m:=(by omega);have s13:=s12.trans s3;obtain ⟨par,dep,R⟩:=pD g i0 i1;walk_at "rd";refine ⟨p,a,t,true,m,ps,qa,rs,fs,(i:Int),rfl,W.same s13,s13 _ _ ha,FrsAt.same s13 fa,fun f hf=>(fB f hf).1,fl,m8,fun _ _=>⟨par,dep,R,fun x y l H4 y0 _ xb yb su nl s4 el=>?_⟩,fun z=>absurd ⟨i0,i1⟩ z⟩;rw [BT fl fv,II g R i0 i1 (P:=prc rs par dep true) (fun c c0 c1=>by have:=(ji (to:=true) g R _ rfl c0 c1).1;omega) (ie R) (fun c c0 c1 cr=>by rw [lC R c0 c1 cr];rfl)] at su;have xy:=Ex y0 su;refine ⟨l,T.ONE,(x,y),(1,1),3950,rfl,SqT.of el,T.Ik.sq,⟨y0,xb,yb⟩,⟨by decide,Nat.one_lt_two_pow (by decide),Nat.one_lt_two_pow (by decide)⟩,by decide,s4 _ _ e3,bK (by rw [List.length_map,List.length_replicate];omega),hN _ _ _ ⟨(s3.trans s4).put nc _,ah,?_,_,rfl⟩⟩;show _++[V.bl (decide (x*1<1*y))]=_;rw [decide_eq_false (by omega),List.replicate_succ',List.map_append]
     rfl
   . rintro zs σ H3 ⟨s3,e3,rfl,v,rfl⟩;have s13:=s12.trans s3;refine ⟨pc,rfl,_,SqL.of e3,?_⟩;rw [BS,if_neg (by decide)];refine h2 _ _ (bg fun N3 h3=>?_);obtain ⟨dx,ob⟩:=(W.same s13).ob;walk_at "rd";refine ⟨T.Web,dx,_,ob,T.iR,T.n_many,_,gO m t,m,rfl,by omega,by omega,fun pd nd=>?_⟩;refine gM (fun i zs σ H4=>Same H3 H4/\H4 pd=some (.lst zs)/\zs=(List.replicate i false).map V.bl/\∃ v,σ=[v,some (V.ref p),some (V.ref b)]) ⟨Same.new _ nd,ah,rfl,_,rfl⟩ ?_ ?_
     . rintro i zs σ H4 N hN hi ⟨s4,e4,rfl,v,rfl⟩;rw [Int.zero_add];have i0:(0:Int)<=(i:Int):=(by omega);have i1:(i:Int)<m:=(by omega);have s14:=s13.trans s4;obtain ⟨par,dep,R⟩:=pD g i0 i1;walk_at "rd";refine ⟨p,b,t,true,m,ps,qb,rs,gs,(i:Int),rfl,W.same s14,s14 _ _ hb,FrsAt.same s14 gb,fun f hf=>(gB f hf).1,gl,m8,fun _ _=>⟨par,dep,R,fun x y l H5 y0 _ xb yb su nl s5 el=>?_⟩,fun z=>absurd ⟨i0,i1⟩ z⟩;rw [BT gl gv,zw g R i0 i1 (P:=prc rs par dep false) (fun c c0 c1=>by have:=(ji (to:=false) g R _ rfl c0 c1).1;omega) (ie R) (fun c c0 c1 cr=>by rw [lC R c0 c1 cr];rfl)] at su;have xy:=Ex y0 su;refine ⟨T.ONE,l,(1,1),(x,y),3950,rfl,T.Ik.sq,SqT.of el,⟨by decide,Nat.one_lt_two_pow (by decide),Nat.one_lt_two_pow (by decide)⟩,⟨y0,xb,yb⟩,by decide,s5 _ _ e4,bK (by rw [List.length_map,List.length_replicate];omega),hN _ _ _ ⟨(s4.trans s5).put nd _,ah,?_,_,rfl⟩⟩;show _++[V.bl (decide (1*y<x*1))]=_;rw [decide_eq_false (by omega),List.replicate_succ',List.map_append]
       rfl
     . rintro zs σ H4 ⟨s4,e4,rfl,v,rfl⟩;have s14:=s13.trans s4;refine ⟨pd,rfl,_,SqL.of e4,?_⟩;rw [BS,if_neg (by decide)];refine h3 _ _ ?_;walk_at "rd";refine ⟨a,true,qa,fs,340,rfl,s14 _ _ ha,(FrsAt.same s14 fa).k,fun f hf=>(fB f hf).1,by omega,by decide,by omega,fun p1 q1 l1 H5 fr1 n1 s5 e5=>?_⟩;have s15:=s14.trans s5;refine ⟨b,true,qb,gs,340,rfl,s15 _ _ hb,(FrsAt.same s15 gb).k,fun f hf=>(gB f hf).1,by omega,by decide,by omega,fun p2 q2 l2 H6 fr2 n2 s6 e6=>?_⟩;have r1:=KS (fun f hf=>(fB f hf).1.1) fl fv fr1;have r2:=KS (fun f hf=>(gB f hf).1.1) gl gv fr2;have q10:=fr1.pos;have q20:=fr2.pos;obtain ⟨e1,e2⟩:=Q5 fr1.pos fr1.one fr2.pos fr2.one (Lk (by omega) (by omega) (by rw [r1,r2];exact Cz g));subst e1;subst e2;exact PU (f:=(p1,q1)) (s6 _ _ e5) e6 (k _ (s15.trans s6))
def AJ (T:Txt K mg):Sp:=fun vs H Q _=>∃ (p d a b t:Addr) (m:Int) (ps qa qb:List Addr) (rs:List Road) (fs gs:List (Int × Int)),vs=[.ref p,.int m,.ref d,.ref a,.ref b]/\WebAt T.Web H p m t ps rs/\TollsAt H d rs/\m<=8/\H a=some (.lst (qa.map V.ref))/\FrsAt H qa fs/\H b=some (.lst (qb.map V.ref))/\FrsAt H qb gs/\(∀ f∈fs,FrB 340 f/\f.1.gcd f.2=1)/\(∀ f∈gs,FrB 340 f/\f.1.gcd f.2=1)/\(fs.length:Int)=m/\(gs.length:Int)=m/\(∀ (i:Nat) f,fs[i]?=some f->(f.1:Rat) / f.2=shr m rs (evp rs) i)/\(∀ (i:Nat) f,gs[i]?=some f->(f.1:Rat) / f.2=shr m rs (sep rs) i)/\(below m.toNat).filter (bH m rs)=[]/\∀ H',Same H H'->Q (.bl true) H'
theorem IU {n o:Nat} {f:Int × Int} (h:FrB n f) (le:n<=o):FrB o f:=⟨h.1,Nat.lt_of_lt_of_le h.2.1 (Nat.pow_le_pow_right (by decide) le),Nat.lt_of_lt_of_le h.2.2 (Nat.pow_le_pow_right (by decide) le)⟩
theorem U6 {m:Int} {fs:List (Int × Int)} {S:Int->Rat} (f0:∀ f∈fs,0<f.2) (fl:(fs.length:Int)=m) (fv:∀ (i:Nat) f,fs[i]?=some f->(f.1:Rat) / f.2=S i) (s0:∀ v,0<=v->v<m->0<=S v):∀ f∈fs,0<=f.1:=fun f hf=>by
 obtain ⟨i,hi⟩:=List.getElem?_of_mem hf;have il:=(List.getElem?_eq_some_iff.mp hi).1;have h1:=s0 (i:Int) (by omega) (by omega);rw [<- fv i f hi] at h1;have h2:=tR (p:=f.1) (f0 f hf);refine Int.not_lt.mp fun z=>?_;exact absurd (h2.mpr z) (Rat.not_lt.mpr h1)
abbrev aQ:Stmt:=top 66
theorem jN:FnScope ["web","many","tolls","shares","second","place","top","bottom"] ["web","many","tolls","shares","second"] (aa aQ):=FnScope.of (by kernel_rfl)
theorem nY:NmL (aa aQ) "web":=.of (by kernel_rfl)
theorem gK:NmL (aa aQ) "many":=.of (by kernel_rfl)
theorem r6:NmL (aa aQ) "tolls":=.of (by kernel_rfl)
theorem fq:NmL (aa aQ) "shares":=.of (by kernel_rfl)
theorem fx:NmL (aa aQ) "second":=.of (by kernel_rfl)
theorem lI:NmL (aa aQ) "place":=.of (by kernel_rfl)
theorem kc:NmL (aa aQ) "top":=.of (by kernel_rfl)
theorem ir:NmL (aa aQ) "bottom":=.of (by kernel_rfl)
theorem dX:NmG (aa aQ) "_law_fractions":=.of (by kernel_rfl)
theorem nP:NmG (aa aQ) "min":=.of (by kernel_rfl)
theorem A7:NmG (aa aQ) "range":=.of (by kernel_rfl)
theorem eE:NmG (aa aQ) "_law_divided":=.of (by kernel_rfl)
theorem fi:NmG (aa aQ) "_law_prices":=.of (by kernel_rfl)
theorem lW:NmG (aa aQ) "even_shares":=.of (by kernel_rfl)
theorem kt:NmG (aa aQ) "second_shares":=.of (by kernel_rfl)
theorem kz:NmG (aa aQ) "shows_fairest":=.of (by kernel_rfl)
theorem Ki (T:Txt K mg) (hq:aK (CXe P w)) {f:Addr} {fd:FuncData} (D:Df K mg "_law_shown" aQ ["web","many","tolls","shares","second"] f fd) {dA:Addr} {jP:FuncData} (bR:Df K mg "_law_divided" bC ["shares","prices"] dA jP) (G_law_divided:FnOk P w K mg base (CXe P w) 1 dA jP ["shares","prices"] (qy T)) {eG:Addr} {vo:FuncData} (dc:Df K mg "_law_fractions" bu ["found","many"] eG vo) (G_law_fractions:FnOk P w K mg base (CXe P w) 3 eG vo ["found","many"] (u7 T)) {hZ:Addr} {zO:FuncData} (eD:Df K mg "_law_prices" bd ["many","tolls","v","to"] hZ zO) (G_law_prices:FnOk P w K mg base (CXe P w) 3 hZ zO ["many","tolls","v","to"] (zX T)) {cq:Addr} {d7:FuncData} (bD:Df K mg "even_shares" ci ["web"] cq d7) (G_even_shares:FnOk P w K mg base (CXe P w) 7 cq d7 ["web"] (mq T)) {bJ:Addr} {dq:FuncData} (aZ:Df K mg "second_shares" bI ["web"] bJ dq) (G_second_shares:FnOk P w K mg base (CXe P w) 7 bJ dq ["web"] (j7 T)) {eL:Addr} {uc:FuncData} (f7:Df K mg "shows_fairest" aU ["web","shares","second"] eL uc) (G_shows_fairest:FnOk P w K mg base (CXe P w) 10 eL uc ["web","shares","second"] (vb T)):FnOk P w K mg base (CXe P w) 11 f fd ["web","many","tolls","shares","second"] (AJ T):=by
 refine D.F.okC jN (fun vs H Q E h=>?_) (fun cdv A outer s H vs Q E hr h=>?_)
 . obtain ⟨p,d,a,b,t,m,ps,qa,qb,rs,fs,gs,rfl,_⟩:=h
   rfl
 . obtain ⟨p,d,a,b,t,m,ps,qa,qb,rs,fs,gs,rfl,W,ta,m8,ha,fa,hb,gb,fB,gB,fl,gl,fv,gv,no,k⟩:=h;have hv:=hr.units;have g:=W.go;have m1:=g.m1;have fn:=U6 (fun f hf=>(fB f hf).1.1) fl fv (fun v v0 v1=>(CW no v0 v1).1);have gn:=U6 (fun f hf=>(gB f hf).1.1) gl gv (fun v v0 v1=>(CW no v0 v1).2);have qal:qa.length=fs.length:=Paired.length fa;have qbl:qb.length=gs.length:=Paired.length gb;refine ⟨_,(ai (bZ (PW.pt (k7 (eP (fw (am G_law_fractions (hr.mono (by decide)) dX.g dc.m dc.F.kp dc.b .nil (aq hq) (ae (pvl 3 fq) (ae (pvl 1 gK) ag)) (hdb:=dX.d)))) (mW (eP (fw (am G_law_fractions (hr.mono (by decide)) dX.g dc.m dc.F.kp dc.b .nil (aq hq) (ae (pvl 4 fx) (ae (pvl 1 gK) ag)) (hdb:=dX.d))))))) (ak (ay ik)) aW) (ai (bZ (aO rz (aN (G0 rfl) nP.g T.min Qm (ae (dF rfl (nZ (Nc:=["share"]) 1 (by decide +kernel) (by decide +kernel) rfl (by decide +kernel) rfl) (kN (aA Xm (pvl 3 fq) (pvl 4 fx))) (fun _ _ _ _=>(au (i:=0) (show (["share"]:List Str).Nodup from by decide +kernel) rfl (Or.inl rfl))) (fun _ _ _ _=>eU) (fun _ _ _ _=>(az (qB K rfl) (pv 0) aj (fun _ _=>rfl)))) ag) (hn:=nP.n) (hdb:=nP.d)) aj (aI _)) (ak (ay ik)) aW) (ai (eM PassesOwn.never rfl (d5 A7.g T.range (ae (pvl 1 gK) ag)) (au (i:=5) jN.nd rfl (Or.inl lI.l)) (ai (mZ (am G_law_divided (hr.mono (by decide)) eE.g bR.m bR.F.kp bR.b .nil (aq hq) (ae (pvl 3 fq) (ae (am G_law_prices (hr.mono (by decide)) fi.g eD.m eD.F.kp eD.b .nil (aq hq) (ae (pvl 1 gK) (ae (pvl 2 r6) (ae (pvl 5 lI) (ae ik ag)))) (hdb:=fi.d)) ag)) (hdb:=eE.d)) (lM (n:=2) rfl (be (au (i:=6) jN.nd rfl (Or.inl kc.l)) (be (au (i:=7) jN.nd rfl (Or.inl ir.l)) ju)))) (ai (bZ (aO rz (pvl 6 kc) (pvl 7 ir) (aI _)) (ak (ay ik)) aW) (ai (mZ (am G_law_divided (hr.mono (by decide)) eE.g bR.m bR.F.kp bR.b .nil (aq hq) (ae (pvl 4 fx) (ae (am G_law_prices (hr.mono (by decide)) fi.g eD.m eD.F.kp eD.b .nil (aq hq) (ae (pvl 1 gK) (ae (pvl 2 r6) (ae (pvl 5 lI) (ae ik ag)))) (hdb:=fi.d)) ag)) (hdb:=eE.d)) (lM (n:=2) rfl (be (au (i:=6) jN.nd rfl (Or.inl kc.l)) (be (au (i:=7) jN.nd rfl (Or.inl ir.l)) ju)))) (ak (bZ (aO BN (pvl 6 kc) (pvl 7 ir) (aI _)) (ak (ay ik)) aW)))))) (ak (ay (uZ (gZ (yq hv) (pvl 3 fq) (am G_even_shares (hr.mono (by decide)) lW.g bD.m bD.F.kp bD.b .nil (aq hq) (ae (pvl 0 nY) ag) (hdb:=lW.d)) (aI _)) (uZ (gZ (yq hv) (pvl 4 fx) (am G_second_shares (hr.mono (by decide)) kt.g aZ.m aZ.F.kp aZ.b .nil (aq hq) (ae (pvl 0 nY) ag) (hdb:=kt.d)) (aI _)) (xt (WI (WB (am G_shows_fairest (hr.mono (by decide)) kz.g f7.m f7.F.kp f7.b .nil (aq hq) (ae (pvl 0 nY) (ae (pvl 3 fq) (ae (pvl 4 fx) ag))) (hdb:=kz.d)))))))))))),?_⟩;rw [show L2.start ["web","many","tolls","shares","second","place","top","bottom"] [V.ref p,V.int m,V.ref d,V.ref a,V.ref b]=[some (V.ref p),some (V.int m),some (V.ref d),some (V.ref a),some (V.ref b),none,none,none] from rfl];refine bg fun N1 h1=>?_;walk_at "rd";refine ⟨a,qa,fs,m,rfl,ha,fa,fun f hf=>⟨(fB f hf).1.1,(fB f hf).2⟩,fl,by omega,fun H1 s1=>⟨_,rfl,?_⟩⟩;rw [if_neg (by decide)];refine ⟨b,qb,gs,m,rfl,s1 _ _ hb,FrsAt.same s1 gb,fun f hf=>⟨(gB f hf).1.1,(gB f hf).2⟩,gl,by omega,fun H2 s2=>⟨_,rfl,?_⟩⟩;rw [if_neg (by decide)];have s12:=s1.trans s2;refine h1 _ _ (bg fun N2 h2=>?_);walk_at "rd";refine Yg (s12 _ _ ha) (s12 _ _ hb) (aL (by rw [List.length_map,List.length_map];omega)) fun lc nc=>⟨lc,rfl,⟨_,SqL.of ah⟩,fun pm nm=>?_⟩;have ec:qa.map V.ref++qb.map V.ref=(qa++qb).map V.ref:=by rw [List.map_append]
   rw [ec] at nm ⊢;have t1:=Same.new (.lst ((qa++qb).map V.ref)) nc;have s13:=s12.trans t1;have elc:upd H2 lc (.lst ((qa++qb).map V.ref)) lc=some (.lst ((qa++qb).map V.ref)):=ah;have fab:FrsAt (upd H2 lc (.lst ((qa++qb).map V.ref))) (qa++qb) (fs++gs):=Jz (FrsAt.same s13 gb) (FrsAt.same s13 fa);generalize upd H2 lc (.lst ((qa++qb).map V.ref))=H3 at s13 elc fab nm ⊢;refine iX (c:=true) (K:=K) (a:=lc) (xs:=(qa++qb).map V.ref) (fun i zs σ H4=>Same H3 H4/\H4 pm=some (.lst zs)/\zs=(((fs++gs).take i).map fun f=>f.1).map V.int/\∃ v,σ=[v]) ⟨Same.new _ nm,ah,rfl,_,rfl⟩ (fun i zs σ H4 _ z=>SqL.of (z.1 _ _ elc)) ?_ ?_
   . rintro i x zs σ H4 N hN hx ⟨s4,e4,rfl,v,rfl⟩;rw [List.getElem?_map] at hx;obtain ⟨qx,gx,rfl⟩:=Option.map_eq_some_iff.mp hx;obtain ⟨f,gf,ef⟩:=jD (FrsAt.same s4 fab) gx;have il:=(List.getElem?_eq_some_iff.mp gf).1;rw [List.length_append] at il;walk_at "rd";refine ixT ef rfl ⟨e4,bK (by rw [List.length_map,List.length_map,List.length_take,List.length_append];omega),hN _ _ _ ⟨s4.put nm _,ah,?_,_,rfl⟩⟩;rw [List.take_succ,gf,List.map_append,List.map_append]
     rfl
   . rintro zs σ H4 ⟨s4,e4,rfl,v,rfl⟩;have s14:=s13.trans s4;rw [List.take_of_length_le (by rw [List.length_map,List.length_append,List.length_append];omega)] at e4;refine ⟨pm,rfl,_,SqL.of e4,?_,fun y hy _=>?_⟩
     . intro z;have:=congrArg List.length z;rw [List.length_map,List.length_append] at this;simp at this;have:fs.length=0:=(by rw [this.1];rfl);omega
     have y0:0<=y:=by
       obtain ⟨f,hf,rfl⟩:=List.mem_map.mp hy;rcases List.mem_append.mp hf with h|h
       . exact fn f h
       . exact gn f h
     rw [if_neg (by omega)];refine h2 _ _ (bg fun N3 h3=>?_);have W4:=W.same s14;have ta4:=ta.same s14;have ha4:=s14 _ _ ha;have hb4:=s14 _ _ hb;have fa4:=FrsAt.same s14 fa;have gb4:=FrsAt.same s14 gb;walk_at "rd";refine ⟨by omega,by omega,?_⟩;refine D6 (fun i σ H5=>Same H4 H5/\∃ v5 v6 v7,σ=[some (V.ref p),some (V.int m),some (V.ref d),some (V.ref a),some (V.ref b),v5,v6,v7]) ⟨Same.refl _,_,_,_,rfl⟩ ?_ ?_
     . rintro i σ H5 N BB hBB hN hi ⟨s5,v5,v6,v7,rfl⟩;obtain ⟨pl,hpl⟩:∃ pl,(0:Int)+(i:Int)=pl:=⟨_,rfl⟩;have p0:0<=pl:=(by omega);have p1:pl<m:=(by omega);obtain ⟨par,dep,R⟩:=pD g p0 p1;have pb:∀ to:Bool,∀ x∈(below m.toNat).map (prc rs par dep to),0<x/\x.natAbs<2^500:=fun to x hx=>by
         obtain ⟨v,hv,rfl⟩:=List.mem_map.mp hx;obtain ⟨v0,v1⟩:=bh.mp hv;obtain ⟨b0,b1⟩:=ji (to:=to) g R _ rfl v0 (show v<m by omega);have dl:=rE R v0 (show v<m by omega);exact ⟨b0,Nat.lt_of_lt_of_le b1 (Nat.pow_le_pow_right (by decide) (by omega))⟩
       refine hBB _ _ (bg fun L1 g1=>?_);rw [hpl];walk_at "rd";refine ⟨d,m,pl,true,rs,par,dep,rfl,ta4.same s5,g,p0,p1,R,fun l H6 nl s6 el=>?_⟩;have s56:=s5.trans s6;refine ⟨a,l,qa,fs,_,rfl,s56 _ _ ha4,FrsAt.same s56 fa4,fun f hf=>IU (fB f hf).1 (by decide),el,by rw [List.length_map,aD];omega,by omega,pb true,fun tp x y H7 nt s7 et y0 xb yb su=>?_⟩;rw [BT fl fv,II g R p0 p1 (P:=prc rs par dep true) (fun c c0 c1=>by have:=(ji (to:=true) g R _ rfl c0 c1).1;omega) (ie R) (fun c c0 c1 cr=>by rw [lC R c0 c1 cr];rfl)] at su;have xy:=Ex y0 su;refine ⟨tp,rfl,_,SqT.of et,rfl,_,_,rfl,_,_,rfl,rfl,g1 _ _ (bg fun L2 g2=>?_)⟩;walk_at "rd";rw [if_neg (by omega)];have s57:=s56.trans s7;refine g2 _ _ (bg fun L3 g3=>?_);walk_at "rd";refine ⟨d,m,pl,false,rs,par,dep,rfl,ta4.same s57,g,p0,p1,R,fun l' H8 nl' s8 el'=>?_⟩;have s58:=s57.trans s8;refine ⟨b,l',qb,gs,_,rfl,s58 _ _ hb4,FrsAt.same s58 gb4,fun f hf=>IU (gB f hf).1 (by decide),el',by rw [List.length_map,aD];omega,by omega,pb false,fun tp' x' y' H9 nt' s9 et' y0' xb' yb' su'=>?_⟩;rw [BT gl gv,zw g R p0 p1 (P:=prc rs par dep false) (fun c c0 c1=>by have:=(ji (to:=false) g R _ rfl c0 c1).1;omega) (ie R) (fun c c0 c1 cr=>by rw [lC R c0 c1 cr];rfl)] at su';have xy':=Ex y0' su';refine ⟨tp',rfl,_,SqT.of et',rfl,_,_,rfl,_,_,rfl,rfl,g3 _ _ ?_⟩;walk_at "rd";rw [if_neg (by omega)];exact hN _ _ ⟨s58.trans s9,_,_,_,rfl⟩
     . rintro BB σ H5 hBB ⟨s5,v5,v6,v7,rfl⟩;refine hBB _ _ (h3 _ _ ?_);walk_at "rd";refine ⟨p,t,m,ps,rs,rfl,W4.same s5,m8,fun lf qf fs' H6 nf s6 ef ff fl' fB' fv'=>?_⟩;have e1:fs'=fs:=Shs.eq (F:=evp rs) ⟨fl',fun f hf=>⟨(fB' f hf).1.1,(fB' f hf).2⟩,fv'⟩ ⟨fl,fun f hf=>⟨(fB f hf).1.1,(fB f hf).2⟩,fv⟩;subst e1;have s56:=s5.trans s6;refine Kp (s56 _ _ ha4) (FrsAt.same s56 fa4) ef ff ⟨_,rfl,?_⟩;rw [if_pos rfl];refine ⟨p,t,m,ps,rs,rfl,W4.same s56,m8,fun lg qg gs' H7 ng s7 eg gg gl' gB' gv'=>?_⟩;have e2:gs'=gs:=Shs.eq (F:=sep rs) ⟨gl',fun f hf=>⟨(gB' f hf).1.1,(gB' f hf).2⟩,gv'⟩ ⟨gl,fun f hf=>⟨(gB f hf).1.1,(gB f hf).2⟩,gv⟩;subst e2;have s57:=s56.trans s7;refine Kp (s57 _ _ hb4) (FrsAt.same s57 gb4) eg gg ⟨_,rfl,?_⟩;rw [if_pos rfl];exact ⟨p,a,b,t,m,ps,qa,qb,rs,_,_,rfl,W4.same s57,m8,s57 _ _ ha4,FrsAt.same s57 fa4,s57 _ _ hb4,FrsAt.same s57 gb4,fun f hf=>⟨(fB f hf).1,fn f hf⟩,fun f hf=>⟨(gB f hf).1,gn f hf⟩,fl,gl,fv,gv,fun H8 s8=>⟨_,rfl,k H8 (s14.trans (s57.trans s8))⟩⟩
/-- what fairest tells -/
def XT (H:Hp) (fo:Addr) (m:Int) (rs:List Road):Prop :=
 (∃ lo,H fo=some (.tup [.str "below",.ref lo])/\H lo=some (.lst (((below m.toNat).filter (bH m rs)).map V.int))/\(below m.toNat).filter (bH m rs)≠[]) \/
 (∃ la lb qa qb fs gs,H fo=some (.tup [.str "fairest",.ref la,.ref lb])/\H la=some (.lst (qa.map V.ref))/\FrsAt H qa fs/\H lb=some (.lst (qb.map V.ref))/\FrsAt H qb gs/\(∀ f∈fs,FrB 340 f/\f.1.gcd f.2=1)/\(∀ f∈gs,FrB 340 f/\f.1.gcd f.2=1)/\(fs.length:Int)=m/\(gs.length:Int)=m/\(∀ (i:Nat) f,fs[i]?=some f->(f.1:Rat) / f.2=shr m rs (evp rs) i)/\(∀ (i:Nat) f,gs[i]?=some f->(f.1:Rat) / f.2=shr m rs (sep rs) i)/\(below m.toNat).filter (bH m rs)=[])
def BA (T:Txt K mg):Sp:=fun vs H Q _=>∃ (p d lx fo t:Addr) (m:Int) (ps:List Addr) (rs:List Road) (xs:List Int),vs=[.ref p,.int m,.ref d,.ref lx,.ref fo]/\WebAt T.Web H p m t ps rs/\TollsAt H d rs/\m<=8/\H lx=some (.lst (xs.map V.int))/\(xs.length:Int)=m/\(∀ x∈xs,0<=x/\x<=10^40)/\XT H fo m rs/\∀ H',Same H H'->Q (.bl true) H'
abbrev aH:Stmt:=top 68
theorem lN:FnScope ["web","many","tolls","laying","found","due","least","top","bottom"] ["web","many","tolls","laying","found"] (aa aH):=FnScope.of (by kernel_rfl)
theorem uV:NmL (aa aH) "web":=.of (by kernel_rfl)
theorem jq:NmC (aa aH) "many":=.of (by kernel_rfl)
theorem AN:NmC (aa aH) "tolls":=.of (by kernel_rfl)
theorem Ab:NmC (aa aH) "laying":=.of (by kernel_rfl)
theorem bo:NmL (aa aH) "found":=.of (by kernel_rfl)
theorem kd:NmL (aa aH) "due":=.of (by kernel_rfl)
theorem rS:NmL (aa aH) "least":=.of (by kernel_rfl)
theorem tZ:NmL (aa aH) "top":=.of (by kernel_rfl)
theorem qd:NmL (aa aH) "bottom":=.of (by kernel_rfl)
theorem cQ:NmG (aa aH) "isinstance":=.of (by kernel_rfl)
theorem lG:NmG (aa aH) "tuple":=.of (by kernel_rfl)
theorem cV:NmG (aa aH) "len":=.of (by kernel_rfl)
theorem m3:NmG (aa aH) "_law_below":=.of (by kernel_rfl)
theorem mL:NmG (aa aH) "list":=.of (by kernel_rfl)
theorem nI:NmG (aa aH) "all":=.of (by kernel_rfl)
theorem ou:NmG (aa aH) "min":=.of (by kernel_rfl)
theorem Ak:NmG (aa aH) "range":=.of (by kernel_rfl)
theorem lR:NmG (aa aH) "_law_divided":=.of (by kernel_rfl)
theorem nW:NmG (aa aH) "sum":=.of (by kernel_rfl)
theorem mS:NmG (aa aH) "_law_shown":=.of (by kernel_rfl)
theorem J0 (T:Txt K mg) (hq:aK (CXe P w)) {f:Addr} {fd:FuncData} (D:Df K mg "_law_right" aH ["web","many","tolls","laying","found"] f fd) {jf:Addr} {Az:FuncData} (kJ:Df K mg "_law_below" b9 ["web","many"] jf Az) (G_law_below:FnOk P w K mg base (CXe P w) 8 jf Az ["web","many"] (AA T)) {dA:Addr} {jP:FuncData} (bR:Df K mg "_law_divided" bC ["shares","prices"] dA jP) (G_law_divided:FnOk P w K mg base (CXe P w) 1 dA jP ["shares","prices"] (qy T)) {fy:Addr} {vM:FuncData} (D_law_gathered:Df K mg "_law_gathered" aV ["many","tolls","laying","r","above"] fy vM) (G_law_gathered:FnOk P w K mg base (CXe P w) 27 fy vM ["many","tolls","laying","r","above"] (vI T)) {iY:Addr} {Bu:FuncData} (kM:Df K mg "_law_shown" aQ ["web","many","tolls","shares","second"] iY Bu) (G_law_shown:FnOk P w K mg base (CXe P w) 11 iY Bu ["web","many","tolls","shares","second"] (AJ T)) {eA:Addr} {lZ:FuncData} (cK:Df K mg "_law_whole" cY ["found"] eA lZ) (G_law_whole:FnOk P w K mg base (CXe P w) 1 eA lZ ["found"] (uR T)):FnOk P w K mg base (CXe P w) 28 f fd ["web","many","tolls","laying","found"] (BA T):=by
 refine D.F.okC lN (fun vs H Q E h=>?_) (fun cdv A outer s H vs Q E hr h=>?_)
 . obtain ⟨p,d,lx,fo,t,m,ps,rs,xs,rfl,_⟩:=h
   rfl
 . obtain ⟨p,d,lx,fo,t,m,ps,rs,xs,rfl,W,ta,m8,hx,xl,xb,fai,k⟩:=h;have hv:=hr.units;have g:=W.go;have m1:=g.m1;have x0:∀ x∈xs,0<=x:=fun x hx=>(xb x hx).1;refine ⟨_,(ai (bZ (PW.pt (k7 (eP (fw (aN kO cQ.g T.isinstance iA (ae (pvl 4 bo) (ae (tQ (v:=.ty "tuple") lG.g T.tuple uJ rfl (hn:=lG.n) (hd:=lG.d)) ag)) (hn:=cQ.n) (hdb:=cQ.d)))) (mW (aO rz (aN bM cV.g T.len fU (ae (pvl 4 bo) ag) (hn:=cV.n) (hdb:=cV.d)) aj (aI _))))) (ak (ay ik)) aW) (ai (ap (i:=5) lN.nd rfl (Or.inl kd.l) (am G_law_below (hr.mono (by decide)) m3.g kJ.m kJ.F.kp kJ.b .nil (aq hq) (ae (pvl 0 uV) (ae (pvc 1 jq) ag)) (hdb:=m3.d))) (ai (bZ (aO jX (az bf (pvl 4 bo) aj (fun _ _=>rfl)) xT (aI _)) (ai (bZ (PW.pt (k7 (aO mh (aN bM cV.g T.len fU (ae (pvl 4 bo) ag) (hn:=cV.n) (hdb:=cV.d)) aj (aI _)) (k7 (eP (fw (aN kO cQ.g T.isinstance iA (ae (az bf (pvl 4 bo) aj (fun _ _=>rfl)) (ae (tQ (v:=.ty "list") mL.g T.list BR rfl (hn:=mL.n) (hd:=mL.d)) ag)) (hn:=cQ.n) (hdb:=cQ.d)))) (mW (aO (yq hv) (pvl 5 kd) (cP ag) (aI _)))))) (ak (ay ik)) aW) (ak (ay (uZ (gZ (yq hv) (az bf (pvl 4 bo) aj (fun _ _=>rfl)) (pvl 5 kd) (aI _)) (xt (aN (JH rfl) nI.g T.all Rt (ae (dF rfl (nZ (Nc:=["place"]) 1 (by decide +kernel) (by decide +kernel) rfl (by decide +kernel) rfl) (kN (az bf (pvl 4 bo) aj (fun _ _=>rfl))) (fun _ _ _ _=>(au (i:=0) (show (["place"]:List Str).Nodup from by decide +kernel) rfl (Or.inl rfl))) (fun _ _ _ _=>eU) (fun _ _ _ _=>(am G_law_whole (hr.mono (by decide)) (by rfl) cK.m cK.F.kp cK.b .nil (aq hq) (ae (pv 0) ag)))) ag) (hn:=nI.n) (hdb:=nI.d))))))) aW) (ai (bZ (PW.pt (k7 (aO mh (az bf (pvl 4 bo) aj (fun _ _=>rfl)) xT (aI _)) (k7 (aO mh (aN bM cV.g T.len fU (ae (pvl 4 bo) ag) (hn:=cV.n) (hdb:=cV.d)) aj (aI _)) (mW (aO (QN hv) (pvl 5 kd) (cP ag) (aI _)))))) (ak (ay ik)) aW) (ai (ap (i:=6) lN.nd rfl (Or.inl rS.l) (aN (G0 rfl) ou.g T.min Qm (ae (dF rfl (gj (Nc:=["place","many","tolls","laying"]) 1 [1,2,3] (by decide +kernel) rfl (by decide +kernel) rfl (by show ∀ (y:Str × NameKind),y∈_->y.2=NameKind.free->(aa aH).names.lookup y.1=some NameKind.cell;decide +kernel) rfl (fun _ h=>dI h) (fun i hi=>match i,hi with|0,_=>⟨"many",1,rfl,rfl,rfl,by decide +kernel⟩|1,_=>⟨"tolls",2,rfl,rfl,rfl,by decide +kernel⟩|2,_=>⟨"laying",3,rfl,rfl,rfl,by decide +kernel⟩|i+3,hi=>absurd hi (by show ¬ i+3<3;omega))) (d5 Ak.g T.range (ae (pvc 1 jq) ag)) (fun _ _ _ _=>(au (i:=0) (show (["place","many","tolls","laying"]:List Str).Nodup from by decide +kernel) rfl (Or.inl rfl))) (fun _ _ _ _=>eU) (fun _ _ _ _=>(am G_law_gathered (hr.mono (by decide)) (by rfl) D_law_gathered.m D_law_gathered.F.kp D_law_gathered.b .nil (aq hq) (ae (pv 1) (ae (pv 2) (ae (pv 3) (ae (pv 0) (ae Jq ag)))))))) ag) (hn:=ou.n) (hdb:=ou.d))) (ai (mZ (am G_law_divided (hr.mono (by decide)) lR.g bR.m bR.F.kp bR.b .nil (aq hq) (ae (az bf (pvl 4 bo) aj (fun _ _=>rfl)) (ae (aA xY (cP (ae aj ag)) (pvc 1 jq)) ag)) (hdb:=lR.d)) (lM (n:=2) rfl (be (au (i:=7) lN.nd rfl (Or.inl tZ.l)) (be (au (i:=8) lN.nd rfl (Or.inl qd.l)) ju)))) (ak (ay (uZ (gZ XV (aA eS (aN (Kd rfl) nW.g T.sum P9 (ae (pvc 3 Ab) ag) (hn:=nW.n) (hdb:=nW.d)) (pvl 8 qd)) (aA eS (pvl 6 rS) (pvl 7 tZ)) (aI _)) (xt (am G_law_shown (hr.mono (by decide)) mS.g kM.m kM.F.kp kM.b .nil (aq hq) (ae (pvl 0 uV) (ae (pvc 1 jq) (ae (pvc 2 AN) (ae (az bf (pvl 4 bo) aj (fun _ _=>rfl)) (ae (az bf (pvl 4 bo) aj (fun _ _=>rfl)) ag))))) (hdb:=mS.d)))))))))))),?_⟩;rw [show L2.start ["web","many","tolls","laying","found","due","least","top","bottom"] [V.ref p,V.int m,V.ref d,V.ref lx,V.ref fo]=[some (V.ref p),some (V.int m),some (V.ref d),some (V.ref lx),some (V.ref fo),none,none,none,none] from rfl];refine bg fun N1 h1=>?_;walk_at "rd";rcases fai with ⟨lo,ef,elo,ne⟩|⟨la,lb,qa,qb,fs,gs,ef,ela,fa,elb,gb,fB,gB,fl,gl,fv,gv,no⟩
   . refine ⟨_,_,_,true,rfl,.tup ef,fun cv h=>by cases h;rfl,_,rfl,?_⟩;rw [if_neg (by decide)];refine ⟨_,.inr (SqT.of ef),?_⟩;rw [if_neg (by simp)];refine h1 _ _ (bg fun N2 h2=>?_);walk_at "rd";refine ⟨p,t,m,ps,rs,rfl,W,m8,fun ld H1 nd s1 ed=>h2 _ _ (bg fun N3 h3=>?_)⟩;walk_at "rd";refine ixT (s1 _ _ ef) rfl ⟨rfl,?_⟩;rw [if_pos rfl];refine ⟨_,.inr (SqT.of (s1 _ _ ef)),?_⟩;rw [if_neg (fun z=>z rfl)];refine ixT (s1 _ _ ef) rfl ⟨_,_,_,true,rfl,.lst (s1 _ _ elo),fun cv h=>by cases h;rfl,_,rfl,?_⟩;rw [if_neg (by decide)];refine ⟨aL (by simp),fun q0 n0=>?_⟩;have t0:=Same.new (.lst []) n0;have ed0:=t0 _ _ ed;refine ieq (ys:=[]) ed0 ah ⟨_,rfl,?_⟩;rw [if_neg (by rw [decide_eq_true_eq];exact ne)];have s2:=s1.trans t0;generalize upd H1 q0 (.lst [])=H2 at s2 ed0 ⊢;refine ixT (s2 _ _ ef) rfl (ieq (s2 _ _ elo) ed0 ⟨_,rfl,?_⟩);rw [if_pos (decide_eq_true rfl)];refine ixT (s2 _ _ ef) rfl ⟨lo,rfl,⟨_,SqL.of (s2 _ _ elo)⟩,fun pc nc=>?_⟩;have elo2:=s2 _ _ elo;have ll:((below m.toNat).filter (bH m rs)).length<=8:=by
       have:=List.length_filter_le (bH m rs) (below m.toNat);rw [aD] at this;omega
     generalize (below m.toNat).filter (bH m rs)=zs at elo2 ll;refine iX (K:=K) (c:=true) (a:=lo) (xs:=zs.map V.int) (fun i bs σ H3=>Same H2 H3/\H3 pc=some (.lst bs)/\bs=(List.replicate i true).map V.bl/\∃ v,σ=[v]) ⟨Same.new _ nc,ah,rfl,_,rfl⟩ (fun i bs σ H3 _ z=>SqL.of (z.1 _ _ elo2)) ?_ ?_
     . rintro i x bs σ H3 N hN hx ⟨s3,e3,rfl,v,rfl⟩;rw [List.getElem?_map] at hx;obtain ⟨z,gz,rfl⟩:=Option.map_eq_some_iff.mp hx;have il:=(List.getElem?_eq_some_iff.mp gz).1;walk_at "rd";refine ⟨z,rfl,e3,bK (by rw [List.length_map,List.length_replicate];omega),hN _ _ _ ⟨s3.put nc _,ah,?_,_,rfl⟩⟩;rw [List.replicate_succ',List.map_append]
       rfl
     . rintro bs σ H3 ⟨s3,e3,rfl,v,rfl⟩;refine ⟨pc,rfl,_,SqL.of e3,?_⟩;rw [show (List.replicate (zs.map V.int).length true).all id=true by rw [List.all_replicate];simp];exact k _ (s2.trans s3)
   . refine ⟨_,_,_,true,rfl,.tup ef,fun cv h=>by cases h;rfl,_,rfl,?_⟩;rw [if_neg (by decide)];refine ⟨_,.inr (SqT.of ef),?_⟩;rw [if_neg (by simp)];refine h1 _ _ (bg fun N2 h2=>?_);walk_at "rd";refine ⟨p,t,m,ps,rs,rfl,W,m8,fun ld H1 nd s1 ed=>h2 _ _ (bg fun N3 h3=>?_)⟩;walk_at "rd";refine ixT (s1 _ _ ef) rfl ⟨rfl,?_⟩;rw [if_neg (fun z=>absurd (V.str.inj z) (by decide +kernel))];refine h3 _ _ (bg fun N4 h4=>?_);walk_at "rd";refine ixT (s1 _ _ ef) rfl ⟨rfl,?_⟩;rw [if_neg (fun z=>z rfl)];refine ⟨_,.inr (SqT.of (s1 _ _ ef)),?_⟩;rw [if_neg (fun z=>z rfl)];refine ⟨aL (by simp),fun q0 n0=>?_⟩;have t0:=Same.new (.lst []) n0;refine ine (ys:=[]) (t0 _ _ ed) ah ⟨_,rfl,?_⟩;rw [if_neg (by rw [decide_eq_true no];decide)];refine h4 _ _ (bg fun N5 h5=>?_);have s2:=s1.trans t0;generalize upd H1 q0 (.lst [])=H2 at s2 ⊢;obtain ⟨PAR,DEP,RR⟩:∃ (PAR:Int->Int->Int) (DEP:Int->Int->Nat),∀ r,0<=r->r<m->Rooted m rs r (PAR r) (DEP r) :=
       ⟨fun r=>if h:0<=r/\r<m then (pD g h.1 h.2).choose else fun _=>0,fun r=>if h:0<=r/\r<m then (pD g h.1 h.2).choose_spec.choose else fun _=>0,fun r r0 r1=>by
         dsimp only;rw [dif_pos ⟨r0,r1⟩,dif_pos ⟨r0,r1⟩];exact (pD g r0 r1).choose_spec.choose_spec⟩
     walk_at "rd";refine ⟨by omega,by omega,fun pc nc=>?_⟩;refine gM (fun i zs σ H3=>Same H2 H3/\H3 pc=some (.lst zs)/\zs=((below i).map fun v=>gat m rs v (PAR v) (DEP v) (fun w=>xs.getD w.toNat 0) (giv rs (PAR v)) v).map V.int/\∃ v,σ=[v,some (V.int m),some (V.ref d),some (V.ref lx)]) ⟨Same.new _ nc,ah,rfl,_,rfl⟩ ?_ ?_
     . rintro i zs σ H3 N hN hi ⟨s3,e3,rfl,v,rfl⟩;rw [Int.zero_add];have i0:(0:Int)<=(i:Int):=(by omega);have i1:(i:Int)<m:=(by omega);have s23:=s2.trans s3;have R:=RR i i0 i1;walk_at "rd";refine ⟨d,lx,m,rs,(i:Int),PAR i,DEP i,(i:Int),xs,by rw [show Pb.front (i:Int) (PAR i) i=V.non from by unfold Pb.front;rw [if_pos rfl]],ta.same s23,g,s23 _ _ hx,xl,R,⟨i0,i1⟩,by show m.toNat<=DEP i i+1+24;omega,fun H4 s4=>?_⟩;refine ⟨s4 _ _ e3,bK (by rw [List.length_map,List.length_map,aD];omega),hN _ _ _ ⟨(s3.trans s4).put nc _,ah,?_,_,rfl⟩⟩;rw [pQ,List.map_append,List.map_append]
       rfl
     . rintro zs σ H3 ⟨s3,e3,rfl,v,rfl⟩;have s13:=s2.trans s3;refine ⟨pc,rfl,_,SqL.of e3,?_,fun y hy hle=>h5 _ _ (bg fun N6 h6=>?_)⟩
       . intro z;have:=congrArg List.length z;rw [List.length_map,aD] at this;simp at this;omega
       have Ip:∀ v,0<=v->v<m->y<=gat m rs v (PAR v) (DEP v) (fun w=>xs.getD w.toNat 0) (giv rs (PAR v)) v:=fun v v0 v1=>hle _ (List.mem_map.mpr ⟨v,bh.mpr ⟨v0,by omega⟩,rfl⟩);have y0:0<=y:=by
         obtain ⟨v,hv',rfl⟩:=List.mem_map.mp hy;exact La g (fun w=>NG x0 _) v
       have xsum:xs.sum<=8*10^40:=by
         have:=NB (b:=10^40) fun z hz=>(xb z hz).2;have h2:(xs.length:Int)*10^40<=8*10^40:=Int.mul_le_mul_of_nonneg_right (by omega) (by decide);omega
       have xs0:=KF x0;have yb:y<=8*10^40:=by
         have h1:=Ip 0 (Int.le_refl _) (by omega);have h2:=R4 g (RR 0 (Int.le_refl _) (by omega)) (Int.le_refl _) (show 0<m by omega) xl x0;omega
       walk_at "rd";refine ixT (s13 _ _ ef) rfl ⟨aL (by simp),fun l1 n1=>⟨l1,m,_,rfl,rfl,ah,by omega,by omega,aL (by simp;omega),fun l2 n2=>?_⟩⟩;rw [NL];have s14:=s13.trans ((Same.new (.lst [V.int 1]) n1).trans (Same.new (.lst (List.replicate m.toNat (V.int 1))) n2));have e4:upd (upd H3 l1 (.lst [V.int 1])) l2 (.lst (List.replicate m.toNat (V.int 1))) l2=some (.lst ((List.replicate m.toNat (1:Int)).map V.int)):=(by rw [ah,List.map_replicate]);generalize upd (upd H3 l1 (.lst [V.int 1])) l2 (.lst (List.replicate m.toNat (V.int 1)))=H4 at s14 e4 ⊢;refine ⟨la,l2,qa,fs,_,rfl,s14 _ _ ela,FrsAt.same s14 fa,fun f hf=>IU (fB f hf).1 (by decide),e4,by rw [List.length_replicate];omega,by omega,fun z hz=>by rw [List.eq_of_mem_replicate hz];exact ⟨by decide,Nat.one_lt_two_pow (by decide)⟩,fun tp X Y H5 nt s5 et Y0 Xb Yb su=>?_⟩;refine ⟨tp,rfl,_,SqT.of et,rfl,_,_,rfl,_,_,rfl,rfl,h6 _ _ ?_⟩;have s15:=s14.trans s5;rw [SA fl fv] at su;have tl:=Mv g RR xl x0 (fun v v0 v1=>(CW no v0 v1).2) Ip;rw [Rm xl,<- su] at tl;walk_at "rd";refine ⟨xs,.inl (SqL.of (s15 _ _ hx)),?_⟩;have sb:xs.sum.natAbs<2^150:=(by omega);have yb':y.natAbs<2^150:=(by omega);refine ⟨qA sb Yb (by decide),qA yb' Xb (by decide),?_⟩;have ge:y*X<=xs.sum*Y:=by
         refine Int.not_lt.mp fun z=>?_;have h1:=(Sg (f:=(xs.sum,1)) (g:=(y*X,Y)) Int.one_pos Y0).mp (by show xs.sum*Y<y*X*1;omega);have e5:((xs.sum:Int):Rat) / ((1:Int):Rat)=((xs.sum:Int):Rat):=by
           show ((xs.sum:Int):Rat) / (1:Rat)=_
           grind
         have e6:((y*X:Int):Rat) / (Y:Rat)=(X:Rat) / Y*(y:Rat):=by
           rw [Rat.intCast_mul,Rat.div_def,Rat.div_def]
           grind
         change ((xs.sum:Int):Rat) / ((1:Int):Rat)<((y*X:Int):Rat) / (Y:Rat) at h1;rw [e5,e6] at h1;exact absurd tl (Rat.not_le.mpr h1)
       rw [if_pos ge];refine ixT (s15 _ _ ef) rfl (ixT (s15 _ _ ef) rfl ?_);exact ⟨p,d,la,lb,t,m,ps,qa,qb,rs,fs,gs,rfl,W.same s15,ta.same s15,m8,s15 _ _ ela,FrsAt.same s15 fa,s15 _ _ elb,FrsAt.same s15 gb,fB,gB,fl,gl,fv,gv,no,fun H6 s6=>k H6 (s15.trans s6)⟩
def xf (T:Txt K mg):Sp:=fun vs H Q _=>∃ c i:Int,vs=[.int c,.int i]/\0<=i/\i<=1000000/\∀ v,0<=v->Q (.int v) H
abbrev dZ:Stmt:=top 50
theorem wo:FnScope ["cell","k","big"] ["cell","k"] (aa dZ):=FnScope.of (by kernel_rfl)
theorem Dw:NmL (aa dZ) "cell":=.of (by kernel_rfl)
theorem sD:NmL (aa dZ) "k":=.of (by kernel_rfl)
theorem iG:NmL (aa dZ) "big":=.of (by kernel_rfl)
theorem MB (T:Txt K mg) (hq:aK (CXe P w)) {f:Addr} {fd:FuncData} (D:Df K mg "_law_stir" dZ ["cell","k"] f fd):FnOk P w K mg base (CXe P w) 1 f fd ["cell","k"] (xf T):=by
 refine D.F.okC wo (fun vs H Q E h=>?_) (fun cdv A outer s H vs Q E hr h=>?_)
 . obtain ⟨c,i,rfl,_⟩:=h
   rfl
 . obtain ⟨c,i,rfl,h0,h1,k⟩:=h;refine ⟨_,(ai (ap (i:=2) wo.nd rfl (Or.inl iG.l) (aA eS (aA lu (aA jE (pvl 0 Dw) (aA yn aj aj)) aj) (aA lu aj (aA xx (aA xx aj (pvl 1 sD)) (pvl 1 sD))))) (ai (ap (i:=2) wo.nd rfl (Or.inl iG.l) (aA lu (pvl 2 iG) (aA xx aj (pvl 1 sD)))) (ak (ay (aA jE (aA eS (pvl 2 iG) (pvl 2 iG)) (aA lu (aA yn aj aj) aj)))))),?_⟩;rw [show L2.start ["cell","k","big"] [V.int c,V.int i]=[some (V.int c),some (V.int i),none] from rfl];walk_at "rd";obtain ⟨e1,e2,e3⟩:=QS c i h0 h1;have pw:WE 10 60:=⟨by decide,by decide,by decide⟩;have p33:(0:Int)<10^(60:Int).toNat+33:=Int.add_pos p60 (by decide);refine ⟨pw,p60,.inl ⟨by decide,by decide⟩,.inr ⟨by omega,by omega⟩,pV (b8 e1 (by decide)) (b8 e2 (by decide)),.inl ⟨by decide,by decide⟩,pV e3 e3,pw,p33,?_⟩;exact k _ (Int.emod_nonneg _ (Int.ne_of_gt p33))
def CI (T:Txt K mg):Sp:=fun vs H Q _=>∃ (a:Addr) (ns:List Int) (k:Int),vs=[.ref a,.int k]/\SqL K H a (ns.map V.int)/\0<=k/\∀ v,0<=v->v<10^60->Q (.int v) H
abbrev eO:Stmt:=top 49
theorem LY:FnScope ["script","k"] ["script","k"] (aa eO):=FnScope.of (by kernel_rfl)
theorem rK:NmL (aa eO) "script":=.of (by kernel_rfl)
theorem zM:NmL (aa eO) "k":=.of (by kernel_rfl)
theorem o7:NmG (aa eO) "len":=.of (by kernel_rfl)
theorem LM (T:Txt K mg) (hq:aK (CXe P w)) {f:Addr} {fd:FuncData} (D:Df K mg "_law_cell" eO ["script","k"] f fd):FnOk P w K mg base (CXe P w) 1 f fd ["script","k"] (CI T):=by
 refine D.F.okC LY (fun vs H Q E h=>?_) (fun cdv A outer s H vs Q E hr h=>?_)
 . obtain ⟨a,ns,i,rfl,_⟩:=h
   rfl
 . obtain ⟨a,ns,i,rfl,ha,h0,k⟩:=h;refine ⟨_,(ai (bZ (aO rz (pvl 1 zM) (aN bM o7.g T.len fU (ae (pvl 0 rK) ag) (hn:=o7.n) (hdb:=o7.d)) (aI _)) (ak (ay (aA jE (az bz (pvl 0 rK) (pvl 1 zM) (fun _ _=>rfl)) (aA yn aj aj)))) aW) (ak (ay aj))),?_⟩;rw [show L2.start ["script","k"] [V.ref a,V.int i]=[some (V.ref a),some (V.int i)] from rfl];walk_at "rd";refine ⟨_,.inl ha,?_⟩;rw [List.length_map];by_cases c:i<(ns.length:Int)
   . rw [if_pos c];have hi:i.toNat<ns.length:=(by omega);refine ixS ha (jR h0 (v:=.int ns[i.toNat]) (by rw [List.getElem?_map,List.getElem?_eq_getElem hi];rfl)) ?_;refine ⟨⟨by decide,by decide,by decide⟩,_,rfl,p60,?_⟩;exact k _ (Int.emod_nonneg _ (Int.ne_of_gt p60)) (Int.emod_lt_of_pos _ p60)
   . rw [if_neg c];exact k 0 (by decide) p60
def rA (T:Txt K mg):Sp:=fun vs H Q _=>∃ (p:Addr) (m n:Int),vs=[.ref p,.int n]/\H p=some (.lst [.int m])/\0<n/\n<1073741824/\Q (.int (m % n)) (upd H p (.lst [.int (m / n)]))
abbrev dU:Stmt:=top 52
theorem Ch:FnScope ["pot","n","found"] ["pot","n"] (aa dU):=FnScope.of (by kernel_rfl)
theorem pO:NmL (aa dU) "pot":=.of (by kernel_rfl)
theorem zE:NmL (aa dU) "n":=.of (by kernel_rfl)
theorem tF:NmL (aa dU) "found":=.of (by kernel_rfl)
theorem MO (T:Txt K mg) (hq:aK (CXe P w)) {f:Addr} {fd:FuncData} (D:Df K mg "_law_take" dU ["pot","n"] f fd):FnOk P w K mg base (CXe P w) 1 f fd ["pot","n"] (rA T):=by
 refine D.F.okC Ch (fun vs H Q E h=>?_) (fun cdv A outer s H vs Q E hr h=>?_)
 . obtain ⟨p,m,n,rfl,_⟩:=h
   rfl
 . obtain ⟨p,m,n,rfl,hp,h0,h1,k⟩:=h;refine ⟨_,(ai (ap (i:=2) Ch.nd rfl (Or.inl tF.l) (aA jE (az bz (pvl 0 pO) aj (fun _ _=>rfl)) (pvl 1 zE))) (ai (mZ (aA tS (az bz (pvl 0 pO) aj (fun _ _=>rfl)) (pvl 1 zE)) (xz (pvl 0 pO) aj qQ)) (ak (ay (pvl 2 tF))))),?_⟩;rw [show L2.start ["pot","n","found"] [V.ref p,V.int n]=[some (V.ref p),some (V.int n),none] from rfl];walk_at "rd";refine ixL hp rfl ⟨m,rfl,h0,?_⟩;refine ixL hp rfl ⟨m,rfl,⟨h0,h1⟩,?_⟩;exact ⟨p,_,0,0,rfl,rfl,hp,rfl,k⟩
def Co (T:Txt K mg):Sp:=fun vs H Q _=>∃ (p:Addr) (m:Int) (sm:Bool),vs=[.ref p,.bl sm]/\H p=some (.lst [.int m])/\∀ (v m':Int) (H':Hp),2<=v->v<=1000000->H' p=some (.lst [.int m'])->(∀ b o,H b=some o->b≠p->H' b=some o)->Q (.int v) H'
abbrev d3:Stmt:=top 53
theorem Cw:FnScope ["pot","small","kind"] ["pot","small"] (aa d3):=FnScope.of (by kernel_rfl)
theorem kX:NmL (aa d3) "pot":=.of (by kernel_rfl)
theorem tq:NmL (aa d3) "small":=.of (by kernel_rfl)
theorem og:NmL (aa d3) "kind":=.of (by kernel_rfl)
theorem cw:NmG (aa d3) "_law_take":=.of (by kernel_rfl)
theorem Mi (T:Txt K mg) (hq:aK (CXe P w)) {f:Addr} {fd:FuncData} (D:Df K mg "_law_toll" d3 ["pot","small"] f fd) {fL:Addr} {nj:FuncData} (aM:Df K mg "_law_take" dU ["pot","n"] fL nj) (G_law_take:FnOk P w K mg base (CXe P w) 1 fL nj ["pot","n"] (rA T)):FnOk P w K mg base (CXe P w) 2 f fd ["pot","small"] (Co T):=by
 refine D.F.okC Cw (fun vs H Q E h=>?_) (fun cdv A outer s H vs Q E hr h=>?_)
 . obtain ⟨p,m,sm,rfl,_⟩:=h
   rfl
 . obtain ⟨p,m,sm,rfl,hp,k⟩:=h;refine ⟨_,(ai (ap (i:=2) Cw.nd rfl (Or.inl og.l) (am G_law_take (hr.mono (by decide)) cw.g aM.m aM.F.kp aM.b .nil (aq hq) (ae (pvl 0 kX) (ae aj ag)) (hdb:=cw.d))) (ai (bZ (PW.pt (AG (aO jX (pvl 2 og) aj (aI _)) (yw (eP (nJ (pvl 1 tq) (fun _=>rfl)))))) (ak (ay (aA lu aj (am G_law_take (hr.mono (by decide)) cw.g aM.m aM.F.kp aM.b .nil (aq hq) (ae (pvl 0 kX) (ae aj ag)) (hdb:=cw.d))))) aW) (ai (bZ (PW.pt (AG (aO jX (pvl 2 og) aj (aI _)) (yw (eP (nJ (pvl 1 tq) (fun _=>rfl)))))) (ak (ay (az bz (cP (ae aj (ae (aA yn aj aj) ag))) (am G_law_take (hr.mono (by decide)) cw.g aM.m aM.F.kp aM.b .nil (aq hq) (ae (pvl 0 kX) (ae aj ag)) (hdb:=cw.d)) (fun _ _=>rfl)))) aW) (ak (ay (aA lu aj (am G_law_take (hr.mono (by decide)) cw.g aM.m aM.F.kp aM.b .nil (aq hq) (ae (pvl 0 kX) (ae aj ag)) (hdb:=cw.d)))))))),?_⟩;rw [show L2.start ["pot","small","kind"] [V.ref p,V.bl sm]=[some (V.ref p),some (V.bl sm),none] from rfl];have k1:∀ z b o,H b=some o->b≠p->upd H p z b=some o:=fun z b o e nb=>by rw [ao nb];exact e
   have em:∀ (x n:Int),0<n->0<=x % n/\x % n<n:=fun x n h=>⟨Int.emod_nonneg x (Int.ne_of_gt h),Int.emod_lt_of_pos x h⟩;refine bg fun N1 h1=>?_;walk_at "rd";refine ⟨p,m,9,rfl,hp,by decide,by decide,h1 _ _ (bg fun N2 h2=>?_)⟩;walk_at "rd";have one:rA T [V.ref p,V.int 999999] (upd H p (HO.lst [V.int (m / 9)])) (fun y H2=>∃ x,y=V.int x/\Q (V.int (2+x)) H2) E0:=by
     refine ⟨p,m / 9,999999,rfl,ah,by decide,by decide,?_⟩;rw [md];have:=em (m / 9) 999999 (by decide);exact ⟨_,rfl,k _ _ _ (by omega) (by omega) ah (k1 _)⟩
   have rest:N2 [some (V.ref p),some (V.bl sm),some (V.int (m % 9))] (upd H p (HO.lst [V.int (m / 9)])):=by
     refine h2 _ _ (bg fun N3 h3=>?_);have last:N3 [some (V.ref p),some (V.bl sm),some (V.int (m % 9))] (upd H p (HO.lst [V.int (m / 9)])):=by
       refine h3 _ _ ?_;walk_at "rd";refine ⟨p,m / 9,3,rfl,ah,by decide,by decide,?_⟩;rw [md];have:=em (m / 9) 3 (by decide);exact ⟨_,rfl,k _ _ _ (by omega) (by omega) ah (k1 _)⟩
     walk_at "rd";by_cases c8:m % 9=8
     . rw [if_pos c8];refine ⟨_,rfl,?_⟩;cases sm with
       | true=>rw [if_neg (by decide)];exact last
       | false =>
         rw [if_pos rfl];refine ⟨⟨by decide,by decide,by decide⟩,aL (by simp),fun q hn=>?_⟩;have nq:q≠p:=fun z=>by rw [z,ah] at hn;cases hn
         have hq0:H q=none:=(by rw [ao nq] at hn;exact hn);have h2':=em (m / 9) 2 (by decide);refine ⟨p,m / 9,2,rfl,by rw [ao nq.symm,ah],by decide,by decide,?_⟩;have fin:∀ b o,H b=some o->b≠p->upd (upd (upd H p (.lst [.int (m / 9)])) q (.lst [.int 2,.int (10^Int.toNat 6)])) p (.lst [.int (m / 9 / 2)]) b=some o:=fun b o e nb=>by
           rw [ao nb,ao (aX e hq0),ao nb];exact e
         rcases (show m / 9 % 2=0\/m / 9 % 2=1 by omega) with z|z
         . rw [z];refine ixL (by rw [ao nq,ah]) rfl ?_;exact k 2 _ _ (by decide) (by decide) ah fin
         . rw [z];refine ixL (by rw [ao nq,ah]) rfl ?_;exact k (10^Int.toNat 6) _ _ (by decide) (by decide) ah fin
     . rw [if_neg c8];exact last
   by_cases c7:m % 9=7
   . rw [if_pos c7];refine ⟨_,rfl,?_⟩;cases sm with
     | false=>rw [if_pos rfl];exact one
     | true=>rw [if_neg (by decide)];exact rest
   . rw [if_neg c7];exact rest
def Ku (r:Row):List V:=[.int r.k,.int r.un,.int r.t,.int r.u,.int r.sw,.int r.sp]
abbrev RowsAt (H:Hp):List Addr->List Row->Prop:=Paired fun p r=>H p=some (.tup (Ku r))
theorem RowsAt.get {H:Hp}:∀ {ps:List Addr} {rs:List Row} {i:Nat} {x:V},RowsAt H ps rs->(ps.map V.ref)[i]?=some x->∃ p r,x=.ref p/\ps[i]?=some p/\rs[i]?=some r/\H p=some (.tup (Ku r))
 | _,_,i,x,.nil,e=>by simp at e
 | _,_,0,x,.cons (a:=p) (b:=r) h hs,e=>⟨p,r,by simpa using e.symm,by simp,by simp,h⟩
 | a::l1,_,i+1,x,.cons h hs,e=>by
   have e':(List.map V.ref l1)[i]?=some x:=by simpa using e
   obtain ⟨p,r,h1,h2,h3,h4⟩:=RowsAt.get hs e';exact ⟨p,r,h1,by simpa using h2,by simpa using h3,h4⟩
theorem CJ {α β:Type} {R:α->β->Prop} {a:α} {b:β} (h:R a b):∀ {l₁:List α} {l₂:List β},Paired R l₁ l₂->Paired R (l₁++[a]) (l₂++[b])
 | _,_,.nil=>.cons h .nil
 | _,_,.cons x xs=>.cons x (CJ h xs)
theorem CN {α β:Type} {R:α->β->Prop}:∀ (n:Nat) {l₁:List α} {l₂:List β},Paired R l₁ l₂->Paired R (l₁.take n) (l₂.take n)
 | 0,_,_,_=>by rw [List.take_zero,List.take_zero];exact .nil
 | _+1,_,_,.nil=>.nil
 | n+1,_,_,.cons x xs=>.cons x (CN n xs)
theorem CO {α β:Type} {R:α->β->Prop}:∀ (n:Nat) {l₁:List α} {l₂:List β},Paired R l₁ l₂->Paired R (l₁.drop n) (l₂.drop n)
 | 0,_,_,h=>h
 | _+1,_,_,.nil=>.nil
 | n+1,_,_,.cons x xs=>CO n xs
theorem EW {α β:Type} {R:α->β->Prop} {k₁:List α} {k₂:List β} (h:Paired R k₁ k₂):∀ {l₁:List α} {l₂:List β},Paired R l₁ l₂->Paired R (l₁++k₁) (l₂++k₂)
 | _,_,.nil=>h
 | _,_,.cons x xs=>.cons x (EW h xs)
theorem RowsAt.snoc {H:Hp} {qs:List Addr} {rows:List Row} {q:Addr} {r:Row} (h:RowsAt H qs rows) (e:H q=some (.tup (Ku r))):RowsAt H (qs++[q]) (rows++[r]):=CJ (R:=fun p r=>H p=some (.tup (Ku r))) e h
theorem RoadsAt.ins {H:Hp} {ps:List Addr} {rs:List Road} {q:Addr} {r:Road} (n:Nat) (h:RoadsAt H ps rs) (e:H q=some (.tup (o6 r))):RoadsAt H (ps.take n++q::ps.drop n) (rs.take n++r::rs.drop n) :=
 EW (R:=fun p r=>H p=some (.tup (o6 r))) (.cons e (CO n h)) (CN n h)
/-- what is kept while a row is drawn -/
structure Mid (H:Hp) (la ro:Addr) (ls:List Int) (qs:List Addr) (rows:List Row) (H':Hp):Prop where
 s:Same H H'
 l:H' la=some (.lst (ls.map V.int))
 r:H' ro=some (.lst (qs.map V.ref))
 w:RowsAt H' qs rows
theorem Mid.same {H:Hp} {la ro:Addr} {ls:List Int} {qs:List Addr} {rows:List Row} {H' H2:Hp} (m:Mid H la ro ls qs rows H') (e:Same H' H2):Mid H la ro ls qs rows H2 :=
 ⟨m.s.trans e,e _ _ m.l,e _ _ m.r,Paired.imp' (fun p r q=>e p _ q) m.w⟩
theorem Mid.keep {H:Hp} {la ro:Addr} {ls:List Int} {qs:List Addr} {rows:List Row} {H' H2:Hp} {p:Addr} {xs:List V} (m:Mid H la ro ls qs rows H') (hp:H p=none) (nl:p≠la) (nr:p≠ro) (hx:H' p=some (.lst xs)) (e:∀ b o,H' b=some o->b≠p->H2 b=some o):Mid H la ro ls qs rows H2 :=
 ⟨fun b o h=>e b o (m.s b o h) (aX h hp),e _ _ m.l nl.symm,e _ _ m.r nr.symm,Paired.imp' (fun q r h=>e q _ h (im h hx (by intro z;cases z))) m.w⟩
theorem fK {H:Hp} {p:Addr} (o:HO):∀ b u,H b=some u->b≠p->upd H p o b=some u:=fun b u h n=>by rw [ao n];exact h
def A8 (T:Txt K mg):Sp:=fun vs H Q _=>∃ (a:Addr) (cs:List Int) (first:Int),vs=[.ref a,.int first]/\H a=some (.lst (cs.map V.int))/\1<=cs.length/\cs.length<=24 /\
 ∀ (l:Addr) (ps:List Addr) (rs:List Road) (H':Hp),H l=none->Same H H'->H' l=some (.lst (ps.map V.ref))->RoadsAt H' ps rs->Good (cs.length:Int) rs->Q (.ref l) H'
abbrev aJ:Stmt:=top 54
theorem bF:FnScope ["cells","first","labels","rows","k","pot","under","there","back","roads","swap","spot","road"] ["cells","first"] (aa aJ):=FnScope.of (by kernel_rfl)
theorem fW:NmL (aa aJ) "cells":=.of (by kernel_rfl)
theorem lL:NmL (aa aJ) "first":=.of (by kernel_rfl)
theorem dM:NmL (aa aJ) "labels":=.of (by kernel_rfl)
theorem mG:NmL (aa aJ) "rows":=.of (by kernel_rfl)
theorem bA:NmL (aa aJ) "k":=.of (by kernel_rfl)
theorem d4:NmL (aa aJ) "pot":=.of (by kernel_rfl)
theorem f6:NmL (aa aJ) "under":=.of (by kernel_rfl)
theorem ee:NmL (aa aJ) "there":=.of (by kernel_rfl)
theorem gI:NmL (aa aJ) "back":=.of (by kernel_rfl)
theorem lF:NmL (aa aJ) "roads":=.of (by kernel_rfl)
theorem tj:NmL (aa aJ) "swap":=.of (by kernel_rfl)
theorem tz:NmL (aa aJ) "spot":=.of (by kernel_rfl)
theorem mM:NmL (aa aJ) "road":=.of (by kernel_rfl)
theorem BK:NmG (aa aJ) "range":=.of (by kernel_rfl)
theorem cS:NmG (aa aJ) "len":=.of (by kernel_rfl)
theorem oG:NmG (aa aJ) "_law_stir":=.of (by kernel_rfl)
theorem b7:NmG (aa aJ) "_law_take":=.of (by kernel_rfl)
theorem gc:NmG (aa aJ) "_law_toll":=.of (by kernel_rfl)
theorem nM:NmG (aa aJ) "int":=.of (by kernel_rfl)
theorem KP (T:Txt K mg) (hq:aK (CXe P w)) {f:Addr} {fd:FuncData} (D:Df K mg "_law_roads" aJ ["cells","first"] f fd) {fS:Addr} {mY:FuncData} (di:Df K mg "_law_stir" dZ ["cell","k"] fS mY) (G_law_stir:FnOk P w K mg base (CXe P w) 1 fS mY ["cell","k"] (xf T)) {fL:Addr} {nj:FuncData} (aM:Df K mg "_law_take" dU ["pot","n"] fL nj) (G_law_take:FnOk P w K mg base (CXe P w) 1 fL nj ["pot","n"] (rA T)) {ke:Addr} {Cy:FuncData} (gQ:Df K mg "_law_toll" d3 ["pot","small"] ke Cy) (G_law_toll:FnOk P w K mg base (CXe P w) 2 ke Cy ["pot","small"] (Co T)):FnOk P w K mg base (CXe P w) 3 f fd ["cells","first"] (A8 T):=by
 refine D.F.okC bF (fun vs H Q E h=>?_) (fun cdv A outer s H vs Q E hr h=>?_)
 . obtain ⟨a,cs,first,rfl,_⟩:=h
   rfl
 . obtain ⟨a,cs,first,rfl,ha,h1,h24,k⟩:=h;have em:∀ (x n:Int),0<n->0<=x % n/\x % n<n:=fun x n h=>⟨Int.emod_nonneg x (Int.ne_of_gt h),Int.emod_lt_of_pos x h⟩;refine ⟨_,(ai (ap (i:=2) bF.nd rfl (Or.inl dM.l) (cP ag)) (ai (ap (i:=3) bF.nd rfl (Or.inl mG.l) (cP ag)) (ai (eM PassesOwn.never rfl (d5 BK.g T.range (ae (aN bM cS.g T.len fU (ae (pvl 0 fW) ag) (hn:=cS.n) (hdb:=cS.d)) ag)) (au (i:=4) bF.nd rfl (Or.inl bA.l)) (ai (ap (i:=5) bF.nd rfl (Or.inl d4.l) (cP (ae (az bz (cP (ae (az bz (pvl 0 fW) (pvl 4 bA) (fun _ _=>rfl)) (ae (am G_law_stir (hr.mono (by decide)) oG.g di.m di.F.kp di.b .nil (aq hq) (ae (az bz (pvl 0 fW) (pvl 4 bA) (fun _ _=>rfl)) (ae (pvl 4 bA) ag)) (hdb:=oG.d)) ag))) (aA jE (pvl 1 lL) aj) (fun _ _=>rfl)) ag))) (ai (cZ (mx PySem.F.plainAttrs_list PySem.F.slot_list_insert PySem.F.type_list_insert Av (pvl 2 dM) (ae (am G_law_take (hr.mono (by decide)) b7.g aM.m aM.F.kp aM.b .nil (aq hq) (ae (pvl 5 d4) (ae (aA lu (pvl 4 bA) aj) ag)) (hdb:=b7.d)) (ae (pvl 4 bA) ag)))) (ak (bZ (aO BN (pvl 4 bA) aj (aI _)) (ai (ap (i:=6) bF.nd rfl (Or.inl f6.l) (az bz (cP (ae (am G_law_take (hr.mono (by decide)) b7.g aM.m aM.F.kp aM.b .nil (aq hq) (ae (pvl 5 d4) (ae (pvl 4 bA) ag)) (hdb:=b7.d)) (ae (aA EA (pvl 4 bA) aj) (ae aj (ae (aA tS (pvl 4 bA) aj) ag))))) (aA jE (aA tS (pvl 1 lL) aj) aj) (fun _ _=>rfl))) (ai (ap (i:=7) bF.nd rfl (Or.inl ee.l) (am G_law_toll (hr.mono (by decide)) gc.g gQ.m gQ.F.kp gQ.b .nil (aq hq) (ae (pvl 5 d4) (ae (gZ BN (aN bM cS.g T.len fU (ae (pvl 0 fW) ag) (hn:=cS.n) (hdb:=cS.d)) aj (aI _)) ag)) (hdb:=gc.d))) (ai (ap (i:=8) bF.nd rfl (Or.inl gI.l) (az bz (cP (ae (am G_law_toll (hr.mono (by decide)) gc.g gQ.m gQ.F.kp gQ.b .nil (aq hq) (ae (pvl 5 d4) (ae (gZ BN (aN bM cS.g T.len fU (ae (pvl 0 fW) ag) (hn:=cS.n) (hdb:=cS.d)) aj (aI _)) ag)) (hdb:=gc.d)) (ae (pvl 7 ee) ag))) (oN P4 nM.g T.int QK (ae (gZ jX (aA jE (aA tS (pvl 1 lL) aj) aj) aj (aI _)) ag) (hn:=nM.n) (hdb:=nM.d)) (fun _ _=>rfl))) (ak (cZ (mx PySem.F.plainAttrs_list PySem.F.slot_list_append PySem.F.type_list_append eW (pvl 3 mG) (ae (d6 (ae (pvl 4 bA) (ae (pvl 6 f6) (ae (pvl 7 ee) (ae (pvl 8 gI) (ae (am G_law_take (hr.mono (by decide)) b7.g aM.m aM.F.kp aM.b .nil (aq hq) (ae (pvl 5 d4) (ae aj ag)) (hdb:=b7.d)) (ae (am G_law_take (hr.mono (by decide)) b7.g aM.m aM.F.kp aM.b .nil (aq hq) (ae (pvl 5 d4) (ae (pvl 4 bA) ag)) (hdb:=b7.d)) ag))))))) ag))))))) aW))))) (ai (ap (i:=9) bF.nd rfl (Or.inl lF.l) (cP ag)) (ai (eM PassesOwn.never rfl (kN (pvl 3 mG)) (lM (n:=6) rfl (be (au (i:=4) bF.nd rfl (Or.inl bA.l)) (be (au (i:=6) bF.nd rfl (Or.inl f6.l)) (be (au (i:=7) bF.nd rfl (Or.inl ee.l)) (be (au (i:=8) bF.nd rfl (Or.inl gI.l)) (be (au (i:=10) bF.nd rfl (Or.inl tj.l)) (be (au (i:=11) bF.nd rfl (Or.inl tz.l)) ju))))))) (ai (ap (i:=12) bF.nd rfl (Or.inl mM.l) (d6 (ae (az bz (pvl 2 dM) (pvl 4 bA) (fun _ _=>rfl)) (ae (az bz (pvl 2 dM) (pvl 6 f6) (fun _ _=>rfl)) (ae (pvl 7 ee) (ae (pvl 8 gI) ag)))))) (ai (bZ (aO jX (pvl 10 tj) aj (aI _)) (ak (ap (i:=12) bF.nd rfl (Or.inl mM.l) (d6 (ae (az bz (pvl 2 dM) (pvl 6 f6) (fun _ _=>rfl)) (ae (az bz (pvl 2 dM) (pvl 4 bA) (fun _ _=>rfl)) (ae (pvl 7 ee) (ae (pvl 8 gI) ag))))))) aW) (ak (cZ (mx PySem.F.plainAttrs_list PySem.F.slot_list_insert PySem.F.type_list_insert Av (pvl 9 lF) (ae (pvl 11 tz) (ae (pvl 12 mM) ag)))))))) (ak (ay (pvl 9 lF)))))))),?_⟩;rw [show L2.start ["cells","first","labels","rows","k","pot","under","there","back","roads","swap","spot","road"] [V.ref a,V.int first]=[some (V.ref a),some (V.int first),none,none,none,none,none,none,none,none,none,none,none] from rfl];walk_at "rd";refine ⟨by decide,fun la hla=>⟨by decide,fun ro hro=>?_⟩⟩;have nlr:ro≠la:=fun z=>by rw [z,ah] at hro;cases hro
   have hro0:H ro=none:=by rw [ao nlr] at hro;exact hro
   have s0:Same H (upd (upd H la (.lst [])) ro (.lst [])):=(Same.new _ hla).trans (Same.new _ hro);refine ⟨_,.inl (SqL.of (s0 _ _ ha)),by rw [List.length_map];omega,by rw [List.length_map];omega,?_⟩;rw [List.length_map,Int.toNat_natCast];refine zA (fun i σ H2=>∃ (ls:List Int) (qs:List Addr) (rows:List Row) (v4 v5 v6 v7 v8:Option V),σ=[some (V.ref a),some (V.int first),some (.ref la),some (.ref ro),v4,v5,v6,v7,v8,none,none,none,none] /\
     Mid H la ro ls qs rows H2/\Labels i ls/\Rows (i - 1) rows) ⟨[],[],[],none,none,none,none,none,rfl,⟨s0,by rw [ao nlr.symm,ah];rfl,ah,.nil⟩,Labels.nil,⟨rfl,fun i r h=>by cases h⟩⟩ ?_ ?_
   . rintro i σ H2 N hN hi ⟨ls,qs,rows,v4,v5,v6,v7,v8,rfl,M,L,R⟩;walk_at "rd";rw [Int.zero_add];have hcs:(cs.map V.int)[i]?=some (.int cs[i]):=(by rw [List.getElem?_map,List.getElem?_eq_getElem hi];rfl);refine ixL (M.s _ _ ha) (iC hcs) (ixL (M.s _ _ ha) (iC hcs) ⟨cs[i],(i:Int),rfl,by omega,by omega,fun st hst=>?_⟩);refine ⟨aL (by simp),fun q1 hq1=>?_⟩;have M1:=M.same (Same.new (.lst [.int cs[i],.int st]) hq1);refine ⟨by decide,?_⟩;obtain ⟨c0,hc0⟩:∃ c0:Int,atI [V.int cs[i],V.int st] (first % 2)=some (.int c0):=by
       rcases (show first % 2=0\/first % 2=1 by omega) with z|z
       . exact ⟨cs[i],by rw [z];rfl⟩
       . exact ⟨st,by rw [z];rfl⟩
     refine ixL ah hc0 ⟨aL (by simp),fun q2 hq2=>?_⟩;have M2:=M1.same (Same.new (.lst [.int c0]) hq2);have hq20:H q2=none:=(M1.s).free hq2;have nq2l:q2≠la:=fun z=>by rw [z,M1.l] at hq2;cases hq2
     have nq2r:q2≠ro:=fun z=>by rw [z,M1.r] at hq2;cases hq2
     generalize hH3:upd (upd H2 q1 (.lst [.int cs[i],.int st])) q2 (.lst [.int c0])=H3 at M2 ⊢;have hp3:H3 q2=some (.lst [.int c0]):=(by rw [<- hH3];exact ah);clear hH3;have pl:=em c0 ((i:Int)+1) (by omega);refine ⟨tyL M2.l,q2,c0,(i:Int)+1,rfl,hp3,by omega,by omega,?_⟩;have M3:=M2.keep hq20 nq2l nq2r hp3 (fK (.lst [.int (c0 / ((i:Int)+1))]));have hp4:upd H3 q2 (.lst [.int (c0 / ((i:Int)+1))]) q2=some (.lst [.int (c0 / ((i:Int)+1))]):=ah;generalize upd H3 q2 (.lst [.int (c0 / ((i:Int)+1))])=H4 at M3 hp4 ⊢;generalize c0 / ((i:Int)+1)=c1 at hp4;have lsl:=L.len;refine OT M3.l pl.1 (by rw [List.length_map];omega) (bK (by rw [List.length_map];omega)) ?_;have L2':=L.put (c0 % ((i:Int)+1)).toNat (by omega);have el:(ls.map V.int).take (c0 % ((i:Int)+1)).toNat++V.int (i:Int)::(ls.map V.int).drop (c0 % ((i:Int)+1)).toNat=(ls.take (c0 % ((i:Int)+1)).toNat++(i:Int)::ls.drop (c0 % ((i:Int)+1)).toNat).map V.int:=by
       rw [List.map_append,List.map_cons,List.map_take,List.map_drop]
     rw [el];generalize ls.take (c0 % ((i:Int)+1)).toNat++(i:Int)::ls.drop (c0 % ((i:Int)+1)).toNat=ls2 at L2' ⊢;have M4:Mid H la ro ls2 qs rows (upd H4 la (.lst (ls2.map V.int))):=⟨fun b o h=>fK _ b o (M3.s b o h) (aX h hla),ah,fK _ _ _ M3.r nlr,Paired.imp' (fun q r h=>fK _ _ _ h (im h M3.l (by intro z;cases z))) M3.w⟩;have hp5:upd H4 la (.lst (ls2.map V.int)) q2=some (.lst [.int c1]):=(by rw [ao nq2l];exact hp4);generalize upd H4 la (.lst (ls2.map V.int))=H5 at M4 hp5 ⊢;by_cases c:(0:Int)<(i:Int)
     . rw [if_pos c];refine ⟨q2,c1,(i:Int),rfl,hp5,c,by omega,?_⟩;have pu:=em c1 (i:Int) c;have M5:=M4.keep hq20 nq2l nq2r hp5 (fK (.lst [.int (c1 / (i:Int))]));have hp6:upd H5 q2 (.lst [.int (c1 / (i:Int))]) q2=some (.lst [.int (c1 / (i:Int))]):=ah;generalize upd H5 q2 (.lst [.int (c1 / (i:Int))])=H6 at M5 hp6 ⊢;generalize c1 / (i:Int)=c2 at hp6;refine ⟨⟨by decide,by decide⟩,aL (by simp),fun q3 hq3=>?_⟩;have M6:=M5.same (Same.new (.lst [.int (c1 % (i:Int)),.int ((i:Int) - 1),.int 0,.int ((i:Int) / 2)]) hq3);have hp7:=Same.new (.lst [.int (c1 % (i:Int)),.int ((i:Int) - 1),.int 0,.int ((i:Int) / 2)]) hq3 _ _ hp6;refine ⟨⟨by decide,by decide⟩,by decide,?_⟩;obtain ⟨un,hun,u0,u1⟩:∃ un:Int,atI [V.int (c1 % (i:Int)),V.int ((i:Int) - 1),V.int 0,V.int ((i:Int) / 2)] (first / 2 % 4)=some (.int un)/\0<=un/\un<i:=by
         rcases (show first / 2 % 4=0\/first / 2 % 4=1\/first / 2 % 4=2\/first / 2 % 4=3 by omega) with z|z|z|z
         . exact ⟨_,by rw [z];rfl,pu.1,pu.2⟩
         . exact ⟨_,by rw [z];rfl,by omega,by omega⟩
         . exact ⟨_,by rw [z];rfl,by omega,by omega⟩
         . exact ⟨_,by rw [z];rfl,by omega,by omega⟩
       refine ixL ah hun ?_;generalize upd H6 q3 (.lst [.int (c1 % (i:Int)),.int ((i:Int) - 1),.int 0,.int ((i:Int) / 2)])=H7 at M6 hp7 ⊢;refine ⟨_,.inl (SqL.of (M6.s _ _ ha)),q2,c2,_,rfl,hp7,fun th c3 H8 t0 t1 hp8 k8=>?_⟩;have M7:=M6.keep hq20 nq2l nq2r hp7 k8;refine ⟨_,.inl (SqL.of (M7.s _ _ ha)),q2,c3,_,rfl,hp8,fun bk c4 H9 b0 b1 hp9 k9=>?_⟩;have M8:=M7.keep hq20 nq2l nq2r hp8 k9;refine ⟨aL (by simp),fun q4 hq4=>?_⟩;have M9:=M8.same (Same.new (.lst [.int bk,.int th]) hq4);have hp10:=Same.new (.lst [.int bk,.int th]) hq4 _ _ hp9;refine ⟨⟨by decide,by decide⟩,by decide,.inr ?_⟩;obtain ⟨bk2,hbk,b02,b12⟩:∃ bk2:Int,atI [V.int bk,V.int th] (if first / 8 % 3=1 then 1 else 0)=some (.int bk2)/\2<=bk2/\bk2<=1000000:=by
         by_cases z:first / 8 % 3=1
         . exact ⟨th,by rw [if_pos z];rfl,t0,t1⟩
         . exact ⟨bk,by rw [if_neg z];rfl,b0,b1⟩
       refine ixL ah hbk ?_;generalize upd H9 q4 (.lst [.int bk,.int th])=H10 at M9 hp10 ⊢;refine ⟨tyL M9.r,q2,c4,2,rfl,hp10,by decide,by decide,?_⟩;have M10:=M9.keep hq20 nq2l nq2r hp10 (fK (.lst [.int (c4 / 2)]));have hp11:upd H10 q2 (.lst [.int (c4 / 2)]) q2=some (.lst [.int (c4 / 2)]):=ah;generalize upd H10 q2 (.lst [.int (c4 / 2)])=H11 at M10 hp11 ⊢;refine ⟨q2,c4 / 2,(i:Int),rfl,hp11,c,by omega,?_⟩;have ps:=em (c4 / 2) (i:Int) c;have M11:=M10.keep hq20 nq2l nq2r hp11 (fK (.lst [.int (c4 / 2 / (i:Int))]));generalize upd H11 q2 (.lst [.int (c4 / 2 / (i:Int))])=H12 at M11 ⊢;refine ⟨aL (by simp),fun q5 hq5=>?_⟩;have qsl:qs.length=rows.length:=Paired.length M11.w;have rl:=R.len;have M12:=M11.same (Same.new (.tup [.int (i:Int),.int un,.int th,.int bk2,.int (c4 % 2),.int (c4 / 2 % (i:Int))]) hq5);refine sH M12.r (bK (by rw [List.length_map];omega)) (hN _ _ ⟨ls2,qs++[q5],rows++[⟨(i:Int),un,th,bk2,c4 % 2,c4 / 2 % (i:Int)⟩],_,_,_,_,_,rfl,?_,L2',?_⟩)
       . refine ⟨fun b o h=>fK _ b o (M12.s b o h) (aX h hro0),fK _ _ _ M12.l nlr.symm,by rw [ah,List.map_append];rfl,?_⟩;refine RowsAt.snoc (Paired.imp' (fun q r h=>fK _ _ _ h (im h M12.r (by intro z;cases z))) M12.w) (fK _ _ _ ah fun z=>?_);rw [z,M11.r] at hq5;cases hq5
       . refine ⟨by rw [List.length_append,rl];simp;omega,fun j r hj=>?_⟩;by_cases hjl:j<rows.length
         . rw [List.getElem?_append_left hjl] at hj;exact R.ok j r hj
         . have hj2:j=rows.length:=by
             have:=(List.getElem?_eq_some_iff.mp hj).1;rw [List.length_append] at this;simp at this;omega
           rw [hj2,List.getElem?_append_right (Nat.le_refl _),Nat.sub_self] at hj;cases hj;exact ⟨by show (i:Int)=_;omega,⟨u0,u1,t0,t1,b02,b12,ps.1,ps.2⟩⟩
     . rw [if_neg c];refine hN _ _ ⟨ls2,qs,rows,_,_,v6,v7,v8,rfl,M4,L2',?_⟩;have z:i=0:=(by omega);subst z;exact R
   . rintro σ H2 ⟨ls,qs,rows,v4,v5,v6,v7,v8,rfl,M,L,R⟩;walk_at "rd";refine ⟨by decide,fun lo hlo=>⟨⟨_,SqL.of (Same.new _ hlo _ _ M.r)⟩,?_⟩⟩;have hlo0:H lo=none:=M.s.free hlo;have nla:lo≠la:=fun z=>by rw [z,M.l] at hlo;cases hlo
     have nlro:lo≠ro:=fun z=>by rw [z,M.r] at hlo;cases hlo
     have M0:=M.same (Same.new (.lst []) hlo);have qsl:qs.length=rows.length:=Paired.length M.w;have rl:=R.len;refine oC (K:=K) (xs:=qs.map V.ref) (fun i σ H3=>∃ (ps:List Addr) (rs:List Road) (w4 w6 w7 w8 w10 w11 w12:Option V),σ=[some (V.ref a),some (V.int first),some (.ref la),some (.ref ro),w4,v5,w6,w7,w8,some (.ref lo),w10,w11,w12] /\
       Mid H la ro ls qs rows H3/\H3 lo=some (.lst (ps.map V.ref))/\RoadsAt H3 ps rs/\Put ls (rows.take i) rs) ⟨[],[],_,_,_,_,_,_,_,rfl,M0,ah,.nil,Put.nil ls⟩ (fun i σ H3 _ ⟨_,_,_,_,_,_,_,_,_,_,m,_⟩=>SqL.of m.r) ?_ ?_
     . rintro i x σ H3 N hN hi ⟨ps,rs,w4,w6,w7,w8,w10,w11,w12,rfl,M3,hl3,ro3,P⟩;obtain ⟨q,r,rfl,e1,e2,e3⟩:=M3.w.get hi;obtain ⟨rk,ok⟩:=R.ok i r e2;have hil:i<rows.length:=(List.getElem?_eq_some_iff.mp e2).1;have et:rows.take (i+1)=rows.take i++[r]:=(by rw [List.take_succ,e2];rfl);have u0:=ok.u0;have u1:=ok.u1;have sp0:=ok.s0;have sp1:=ok.s1;have pl:=P.len;rw [List.length_take] at pl;have psl:ps.length=rs.length:=Paired.length ro3;walk_at "rd";refine ⟨Ku r,SqT.of e3,rfl,.int r.k,_,rfl,.int r.un,_,rfl,.int r.t,_,rfl,.int r.u,_,rfl,.int r.sw,_,rfl,.int r.sp,_,rfl,rfl,?_⟩;have gk:atI (ls.map V.int) r.k=some (.int (ls.getD r.k.toNat 0)):=jR (by omega) (by rw [List.getElem?_map,tW L (by omega)];rfl);have gu:atI (ls.map V.int) r.un=some (.int (ls.getD r.un.toNat 0)):=jR u0 (by rw [List.getElem?_map,tW L (by omega)];rfl);refine ixL M3.l gk (ixL M3.l gu ⟨aL (by simp),fun q1 hq1=>?_⟩);have M4:=M3.same (Same.new (.tup [.int (ls.getD r.k.toNat 0),.int (ls.getD r.un.toNat 0),.int r.t,.int r.u]) hq1);have hl4:=Same.new (.tup [.int (ls.getD r.k.toNat 0),.int (ls.getD r.un.toNat 0),.int r.t,.int r.u]) hq1 _ _ hl3;have ro4:=RoadsAt.same (Same.new (.tup [.int (ls.getD r.k.toNat 0),.int (ls.getD r.un.toNat 0),.int r.t,.int r.u]) hq1) ro3;have hq4:upd H3 q1 (.tup [.int (ls.getD r.k.toNat 0),.int (ls.getD r.un.toNat 0),.int r.t,.int r.u]) q1=some (.tup [.int (ls.getD r.k.toNat 0),.int (ls.getD r.un.toNat 0),.int r.t,.int r.u]):=ah;generalize upd H3 q1 (.tup [.int (ls.getD r.k.toNat 0),.int (ls.getD r.un.toNat 0),.int r.t,.int r.u])=H4 at M4 hl4 ro4 hq4 ⊢;have put:∀ (H5:Hp) (q5:Addr) (w4 w6 w7 w8 w10 w11 w12:Option V),Mid H la ro ls qs rows H5->H5 lo=some (.lst (ps.map V.ref))->RoadsAt H5 ps rs->H5 q5=some (.tup (o6 (pA ls r))) ->
           tyV K "list" (V.ref lo) H5/\rInsert (V.ref lo) [V.int r.sp,V.ref q5] H5 fun _ H6=>N [some (V.ref a),some (V.int first),some (.ref la),some (.ref ro),w4,v5,w6,w7,w8,some (.ref lo),w10,w11,w12] H6:=by
         intro H5 q5 w4 w6 w7 w8 w10 w11 w12 M5 hl5 ro5 hq5;refine ⟨tyL hl5,OT hl5 sp0 (by rw [List.length_map];omega) (bK (by rw [List.length_map];omega)) (hN _ _ ⟨ps.take r.sp.toNat++q5::ps.drop r.sp.toNat,rs.take r.sp.toNat++pA ls r::rs.drop r.sp.toNat,_,_,_,_,_,_,_,rfl,?_,?_,?_,?_⟩)⟩
         . exact M5.keep hlo0 nla nlro hl5 (fK _)
         . rw [ah,List.map_append,List.map_cons,List.map_take,List.map_drop]
         . have kp:∀ q r',H5 q=some (.tup (o6 r'))->upd H5 lo (.lst ((ps.map V.ref).take r.sp.toNat++V.ref q5::(ps.map V.ref).drop r.sp.toNat)) q=some (.tup (o6 r')):=fun q _ h=>fK _ _ _ h (im h hl5 (by intro z;cases z));exact RoadsAt.ins _ (Paired.imp' kp ro5) (kp _ _ hq5)
         . rw [et];exact P.step r r.sp.toNat
       walk_at "rd";by_cases csw:r.sw=1
       . rw [if_pos csw];refine ixL M4.l gu (ixL M4.l gk ⟨aL (by simp),fun q2 hq2=>?_⟩);refine put _ q2 _ _ _ _ _ _ _ (M4.same (Same.new _ hq2)) (Same.new _ hq2 _ _ hl4) (RoadsAt.same (Same.new _ hq2) ro4) ?_;rw [ah];unfold pA;rw [if_pos csw];rfl
       . rw [if_neg csw];refine put _ q1 _ _ _ _ _ _ _ M4 hl4 ro4 ?_;rw [hq4];unfold pA;rw [if_neg csw];rfl
     . rintro σ H3 ⟨ps,rs,w4,w6,w7,w8,w10,w11,w12,rfl,M3,hl3,ro3,P⟩;rw [List.length_map,qsl,List.take_length] at P;exact ⟨_,rfl,k lo ps rs H3 hlo0 M3.s hl3 ro3 (VP h1 h24 L R P)⟩
def D7 (T:Txt K mg):Sp:=fun vs H Q _=>∃ (a z:Addr) (ns ss:List Int),vs=[.ref a,.ref z]/\SqL K H a (ns.map V.int)/\ns.length<=63/\H z=some (.lst (ss.map V.int))/\1<=ss.length/\ss.length<=100/\(∀ m∈ss,1<=m/\m<=24) /\
 ∀ (t l:Addr) (m:Int) (ps:List Addr) (rs:List Road) (H':Hp),m∈ss->H t=none->H l=none->Same H H'->H' t=some (.tup [.int m,.ref l])->H' l=some (.lst (ps.map V.ref))->RoadsAt H' ps rs->Good m rs->Q (.ref t) H'
abbrev c9:Stmt:=top 55
theorem zy:FnScope ["script","sizes","first","many"] ["script","sizes"] (aa c9):=FnScope.of (by kernel_rfl)
theorem tE:NmL (aa c9) "script":=.of (by kernel_rfl)
theorem nR:NmL (aa c9) "sizes":=.of (by kernel_rfl)
theorem nL:NmL (aa c9) "first":=.of (by kernel_rfl)
theorem pf:NmL (aa c9) "many":=.of (by kernel_rfl)
theorem qh:NmG (aa c9) "_law_cell":=.of (by kernel_rfl)
theorem g0:NmG (aa c9) "len":=.of (by kernel_rfl)
theorem pE:NmG (aa c9) "_law_roads":=.of (by kernel_rfl)
theorem py:NmG (aa c9) "_law_cells":=.of (by kernel_rfl)
theorem NY (T:Txt K mg) (hq:aK (CXe P w)) {f:Addr} {fd:FuncData} (D:Df K mg "_law_web" c9 ["script","sizes"] f fd) {j4:Addr} {CM:FuncData} (mi:Df K mg "_law_cell" eO ["script","k"] j4 CM) (G_law_cell:FnOk P w K mg base (CXe P w) 1 j4 CM ["script","k"] (CI T)) {eC:Addr} {lX:FuncData} (dQ:Df K mg "_law_cells" ce ["script","many"] eC lX) (G_law_cells:FnOk P w K mg base (CXe P w) 1 eC lX ["script","many"] (ve T)) {je:Addr} {Aq:FuncData} (kG:Df K mg "_law_roads" aJ ["cells","first"] je Aq) (G_law_roads:FnOk P w K mg base (CXe P w) 3 je Aq ["cells","first"] (A8 T)):FnOk P w K mg base (CXe P w) 4 f fd ["script","sizes"] (D7 T):=by
 refine D.F.okC zy (fun vs H Q E h=>?_) (fun cdv A outer s H vs Q E hr h=>?_)
 . obtain ⟨a,z,ns,ss,rfl,_⟩:=h
   rfl
 . obtain ⟨a,z,ns,ss,rfl,ha,hn,hz,h1,h2,hs,k⟩:=h;refine ⟨_,(ai (ap (i:=2) zy.nd rfl (Or.inl nL.l) (am G_law_cell (hr.mono (by decide)) qh.g mi.m mi.F.kp mi.b .nil (aq hq) (ae (pvl 0 tE) (ae aj ag)) (hdb:=qh.d))) (ai (ap (i:=3) zy.nd rfl (Or.inl pf.l) (az bz (pvl 1 nR) (aA jE (pvl 2 nL) (aN bM g0.g T.len fU (ae (pvl 1 nR) ag) (hn:=g0.n) (hdb:=g0.d))) (fun _ _=>rfl))) (ak (ay (d6 (ae (pvl 3 pf) (ae (am G_law_roads (hr.mono (by decide)) pE.g kG.m kG.F.kp kG.b .nil (aq hq) (ae (am G_law_cells (hr.mono (by decide)) py.g dQ.m dQ.F.kp dQ.b .nil (aq hq) (ae (pvl 0 tE) (ae (pvl 3 pf) ag)) (hdb:=py.d)) (ae (aA tS (pvl 2 nL) (aN bM g0.g T.len fU (ae (pvl 1 nR) ag) (hn:=g0.n) (hdb:=g0.d))) ag)) (hdb:=pE.d)) ag))))))),?_⟩;rw [show L2.start ["script","sizes","first","many"] [V.ref a,V.ref z]=[some (V.ref a),some (V.ref z),none,none] from rfl];walk_at "rd";refine ⟨a,ns,0,rfl,ha,by decide,fun v v0 v1=>?_⟩;walk_at "rd";refine ⟨_,.inl (SqL.of hz),?_⟩;rw [List.length_map];have p0:=Int.emod_nonneg v (show (ss.length:Int)≠0 by omega);have p1:=Int.emod_lt_of_pos v (show 0<(ss.length:Int) by omega);have hlt:(v % (ss.length:Int)).toNat<ss.length:=by omega
   refine ⟨by omega,?_⟩;refine ixL hz (jR p0 (v:=.int ss[(v % (ss.length:Int)).toNat]) (by rw [List.getElem?_map,List.getElem?_eq_getElem hlt];rfl)) ?_;have hm:=hs _ (List.getElem_mem hlt);have hmem:=List.getElem_mem hlt;generalize ss[(v % (ss.length:Int)).toNat]=m at hm hmem ⊢;refine ⟨a,ns,m,rfl,ha,by omega,hm.1,by omega,fun c cs H1 hc s1 hc1 cl=>?_⟩;walk_at "rd";refine ⟨_,.inl (SqL.of (s1 _ _ hz)),?_⟩;rw [List.length_map];refine ⟨⟨by omega,by omega⟩,?_⟩;refine ⟨c,cs,_,rfl,hc1,by omega,by omega,fun l ps rs H2 hl s2 hl2 ro g=>?_⟩;rw [cl] at g;refine ⟨aL (by simp),fun t ht=>?_⟩;have s3:=Same.new (.tup [.int m,.ref l]) ht;exact k t l m ps rs _ hmem ((s1.trans s2).free ht) (s1.free hl) (s1.trans (s2.trans s3)) ah (s3 _ _ hl2) (RoadsAt.same s3 ro) g
def E1 (T:Txt K mg):Sp:=fun vs H Q _=>∃ (p t:Addr) (m:Int) (ps:List Addr) (rs:List Road),vs=[.ref p]/\WebAt T.Web H p m t ps rs/\m<=8 /\
 (∀ l lo H',H lo=none->H l=none->Same H H'->H' l=some (.tup [.str "below",.ref lo])->H' lo=some (.lst (((below m.toNat).filter (bH m rs)).map V.int))->(below m.toNat).filter (bH m rs)≠[]->Q (.ref l) H') /\
 (∀ l la lb qa qb fs gs H',H la=none->H lb=none->H l=none->la≠lb->Same H H'->H' l=some (.tup [.str "fairest",.ref la,.ref lb])->H' la=some (.lst (qa.map V.ref))->FrsAt H' qa fs->H' lb=some (.lst (qb.map V.ref))->FrsAt H' qb gs->(fs.length:Int)=m->(gs.length:Int)=m->(∀ f∈fs,FrB 340 f/\f.1.gcd f.2=1)->(∀ f∈gs,FrB 340 f/\f.1.gcd f.2=1)->(∀ (i:Nat) f,fs[i]?=some f->(f.1:Rat) / f.2=shr m rs (evp rs) i)->(∀ (i:Nat) f,gs[i]?=some f->(f.1:Rat) / f.2=shr m rs (sep rs) i)->(below m.toNat).filter (bH m rs)=[]->Q (.ref l) H')
abbrev c6:Stmt:=top 47
theorem tM:FnScope ["web","shares","second","low"] ["web"] (aa c6):=FnScope.of (by kernel_rfl)
theorem qY:NmL (aa c6) "web":=.of (by kernel_rfl)
theorem tm:NmC (aa c6) "shares":=.of (by kernel_rfl)
theorem sZ:NmC (aa c6) "second":=.of (by kernel_rfl)
theorem qT:NmL (aa c6) "low":=.of (by kernel_rfl)
theorem mP:NmG (aa c6) "even_shares":=.of (by kernel_rfl)
theorem lH:NmG (aa c6) "second_shares":=.of (by kernel_rfl)
theorem DQ:NmG (aa c6) "range":=.of (by kernel_rfl)
theorem Ov (T:Txt K mg) (hq:aK (CXe P w)) {f:Addr} {fd:FuncData} (D:Df K mg "fairest" c6 ["web"] f fd) {cq:Addr} {d7:FuncData} (bD:Df K mg "even_shares" ci ["web"] cq d7) (G_even_shares:FnOk P w K mg base (CXe P w) 7 cq d7 ["web"] (mq T)) {fP:Addr} {mN:FuncData} (dh:Df K mg "is_below" dW ["share"] fP mN) (G_is_below:FnOk P w K mg base (CXe P w) 2 fP mN ["share"] (wF T)) {bJ:Addr} {dq:FuncData} (aZ:Df K mg "second_shares" bI ["web"] bJ dq) (G_second_shares:FnOk P w K mg base (CXe P w) 7 bJ dq ["web"] (j7 T)):FnOk P w K mg base (CXe P w) 8 f fd ["web"] (E1 T):=by
 refine D.F.okC tM (fun vs H Q E h=>?_) (fun cdv A outer s H vs Q E hr h=>?_)
 . obtain ⟨p,t,m,ps,rs,rfl,_⟩:=h
   rfl
 . obtain ⟨p,t,m,ps,rs,rfl,W,m8,k1,k2⟩:=h;have g:=W.go;have m1:=g.m1;refine ⟨_,(ai (ap (i:=1) tM.nd rfl (Or.inr tm.l) (am G_even_shares (hr.mono (by decide)) mP.g bD.m bD.F.kp bD.b .nil (aq hq) (ae (pvl 0 qY) ag) (hdb:=mP.d))) (ai (ap (i:=2) tM.nd rfl (Or.inr sZ.l) (am G_second_shares (hr.mono (by decide)) lH.g aZ.m aZ.F.kp aZ.b .nil (aq hq) (ae (pvl 0 qY) ag) (hdb:=lH.d))) (ai (Fd (i:=3) tM.nd rfl qT.l rfl (gj (Nc:=["place","shares","second"]) 1 [1,2] (by decide +kernel) rfl (by decide +kernel) rfl (by show ∀ (y:Str × NameKind),y∈_->y.2=NameKind.free->(aa c6).names.lookup y.1=some NameKind.cell;decide +kernel) rfl (fun _ h=>dI h) (fun i hi=>match i,hi with|0,_=>⟨"shares",1,rfl,rfl,rfl,by decide +kernel⟩|1,_=>⟨"second",2,rfl,rfl,rfl,by decide +kernel⟩|i+2,hi=>absurd hi (by show ¬ i+2<2;omega))) (d5 DQ.g T.range (ae (kD  (pvl 0 qY) rfl) ag)) (fun _ _ _ _=>(au (i:=0) (show (["place","shares","second"]:List Str).Nodup from by decide +kernel) rfl (Or.inl rfl))) (fun _ _ _ _=>(yc (PW.pt (k7 (fw (am G_is_below (hr.mono (by decide)) (by rfl) dh.m dh.F.kp dh.b .nil (aq hq) (ae (az (qp K rfl) (pv 1) (pv 0) (fun _ _=>rfl)) ag))) (mW (fw (am G_is_below (hr.mono (by decide)) (by rfl) dh.m dh.F.kp dh.b .nil (aq hq) (ae (az (qp K rfl) (pv 2) (pv 0) (fun _ _=>rfl)) ag)))))))) (fun _ _ _ _=>(pv 0))) (ai (bZ (nJ (pvl 3 qT) (fun _=>rfl)) (ak (ay (d6 (ae xT (ae (pvl 3 qT) ag))))) aW) (ak (ay (d6 (ae xT (ae (pvc 1 tm) (ae (pvc 2 sZ) ag)))))))))),?_⟩;rw [show L2.start ["web","shares","second","low"] [V.ref p]=[some (V.ref p),none,none,none] from rfl];refine bg fun N1 h1=>?_;walk_at "rd";refine ⟨p,t,m,ps,rs,rfl,W,m8,fun la qa fs H1 na s1 ea fa fl fb fv=>h1 _ _ (bg fun N2 h2=>?_)⟩;walk_at "rd";refine ⟨p,t,m,ps,rs,rfl,W.same s1,m8,fun lb qb gs H2 nb s2 eb gb gl gB gv=>h2 _ _ (bg fun N3 h3=>?_)⟩;have s12:=s1.trans s2;have ea2:=s2 _ _ ea;have fa2:=FrsAt.same s2 fa;have nab:la≠lb:=fun z=>by rw [<- z,ea] at nb;cases nb
   obtain ⟨dx,ob⟩:=(W.same s12).ob;walk_at "rd";refine ⟨T.Web,dx,_,ob,T.iR,T.n_many,_,gO m t,m,rfl,by omega,by omega,fun lo no=>?_⟩;have qal:qa.length=fs.length:=Paired.length fa;have qbl:qb.length=gs.length:=Paired.length gb;refine gM (fun i zs σ H3=>Same H2 H3/\H3 lo=some (.lst zs)/\zs=((below i).filter (bH m rs)).map V.int/\∃ v,σ=[v,some (V.ref la),some (V.ref lb)]) ⟨Same.new _ no,ah,rfl,_,rfl⟩ ?_ ?_
   . rintro i zs σ H3 N hN hi ⟨s3,e3,rfl,v,rfl⟩;rw [Int.zero_add];have ll:((below i).filter (bH m rs)).length<=8:=by
       have:=List.length_filter_le (bH m rs) (below i);rw [aD] at this;omega
     obtain ⟨f,hf⟩:∃ f,fs[i]?=some f:=⟨_,List.getElem?_eq_getElem (by omega)⟩;obtain ⟨d,hd⟩:∃ d,gs[i]?=some d:=⟨_,List.getElem?_eq_getElem (by omega)⟩;obtain ⟨qi,hqi⟩:∃ q,qa[i]?=some q:=⟨_,List.getElem?_eq_getElem (by omega)⟩;obtain ⟨qj,hqj⟩:∃ q,qb[i]?=some q:=⟨_,List.getElem?_eq_getElem (by omega)⟩;obtain ⟨f',hf',ef⟩:=jD (FrsAt.same s3 fa2) hqi;rw [hf] at hf';cases hf';obtain ⟨d',hd',ed⟩:=jD (FrsAt.same s3 gb) hqj;rw [hd] at hd';cases hd';have fB:=(fb f (List.mem_of_getElem? hf)).1;have dB:=(gB d (List.mem_of_getElem? hd)).1;have n1:(f.1<0)↔shr m rs (evp rs) i<0:=(by rw [<- fv i f hf];exact (tR fB.1).symm);have n2:(d.1<0)↔shr m rs (sep rs) i<0:=(by rw [<- gv i d hd];exact (tR dB.1).symm);have add:bH m rs i=true->N (((below i).filter (bH m rs)).map V.int++[V.int (i:Int)]) [some (V.int (i:Int)),some (V.ref la),some (V.ref lb)] (upd H3 lo (.lst (((below i).filter (bH m rs)).map V.int++[V.int (i:Int)]))):=fun z=>hN _ _ _ ⟨s3.put no _,ah,by rw [pQ,List.filter_append,List.filter_cons_of_pos z,List.map_append];rfl,_,rfl⟩;have sz:(((below i).filter (bH m rs)).map V.int).length<sizeLine:=bK (by rw [List.length_map];omega);walk_at "rd";refine ixL (s3 _ _ ea2) (iC (by rw [List.getElem?_map,hqi];rfl)) ⟨qi,f,340,rfl,SqT.of ef,fB,by decide,by decide,_,rfl,?_⟩;by_cases z1:f.1<0
     . rw [if_pos (decide_eq_true z1)];exact ⟨e3,sz,add (by unfold bH;rw [decide_eq_true (n1.mp z1),Bool.true_or])⟩
     . rw [if_neg (by rw [decide_eq_true_eq];exact z1)];refine ixL (s3 _ _ eb) (iC (by rw [List.getElem?_map,hqj];rfl)) ⟨qj,d,340,rfl,SqT.of ed,dB,by decide,by decide,_,rfl,?_⟩;by_cases z2:d.1<0
       . rw [if_pos (decide_eq_true z2)];exact ⟨e3,sz,add (by unfold bH;rw [decide_eq_true (n2.mp z2),Bool.or_true])⟩
       . rw [if_neg (by rw [decide_eq_true_eq];exact z2)];have z:¬ bH m rs i=true:=by
           unfold bH;rw [decide_eq_false (fun w=>z1 (n1.mpr w)),decide_eq_false (fun w=>z2 (n2.mpr w))]
           decide
         exact hN _ _ _ ⟨s3,e3,by rw [pQ,List.filter_append,List.filter_cons_of_neg z,List.filter_nil,List.append_nil],_,rfl⟩
   . rintro zs σ H3 ⟨s3,e3,rfl,v,rfl⟩;refine h3 _ _ ?_;have s13:=s12.trans s3;walk_at "rd";refine ⟨_,.inl ⟨_,SqL.of e3,rfl⟩,?_⟩;have no0:=s12.free no;by_cases z:(below m.toNat).filter (bH m rs)=[]
     . rw [z];rw [if_neg (by decide)];refine ⟨aL (by simp),fun l nl=>?_⟩;have s4:=Same.new (.tup [V.str (Str.ofString "fairest"),V.ref la,V.ref lb]) nl;have s24:=s3.trans s4;exact k2 l la lb qa qb fs gs _ na (s1.free nb) (s13.free nl) nab (s13.trans s4) ah (s24 _ _ ea2) (FrsAt.same s24 fa2) (s24 _ _ eb) (FrsAt.same s24 gb) fl gl fb gB fv gv z
     . rw [if_pos (by
         cases e:(below m.toNat).filter (bH m rs) with
         | nil=>exact absurd e z
         | cons a t=>rfl)]
       refine ⟨aL (by simp),fun l nl=>?_⟩;have s4:=Same.new (.tup [V.str (Str.ofString "below"),V.ref lo]) nl;exact k1 l lo _ no0 (s13.free nl) (s13.trans s4) ah (s4 _ _ e3) z
def Iu (K:PySem.W.Frag):Sp:=fun vs H Q _=>∃ (a:Addr) (ns:List Int),vs=[.ref a]/\SqL K H a (ns.map V.int)/\ns.length<=63/\∀ H',Q (.bl true) H'
def Xd (T:Txt K mg):Sp:=Iu K
theorem Gp {K:PySem.W.Frag} {H:Hp} {l2:Addr} {s:Str} {rl:List Addr} {yss:List (List V)} {R:V->Hp->Prop} {σ0:St} (h2:H l2=some (.tup (.str s::rl.map V.ref))) (hr:Paired (fun r ys=>H r=some (.lst ys)) rl yss) (rn:rl≠[]) (r3:rl.length<=3) (h0:gU 1 [] σ0=[none])
   (q:∀ kp ks H',Same H H'->H' kp=some (.tup (.str s::ks.map V.ref))->Paired (fun k ys=>H' k=some (.lst ys)) ks yss->(∀ k∈ks,H k=none)->R (.ref kp) H') :
   Jd K (.ref l2) (.int 0) H fun x H1=>[x].length<=sizeLine/\∀ p,H1 p=none->XF K (.ref l2) (some 1) none (upd H1 p (.tup [x])) fun x2 H1=>∃ a2,x2=.ref a2/\(∃ xs,SqT K H1 a2 xs)/\∀ p1,H1 p1=none->yf (Itt K a2) p1 (fun x3 H1=>∃ p2,x3=.ref p2/\∃ x4,(SqL K H1 p2 x4/\∀ l1,H1 l1=none->Ow K (.ref p) (.ref l1) (upd H1 l1 (.tup x4)) R)\/(SqT K H1 p2 x4/\Ow K (.ref p) (.ref p2) H1 R)) (tK 0) tYes (tCB (fun xs H Q=>∃ p,xs=[.ref p]/\∃ x,(SqL K H p x\/SqT K H p x)/\∀ l,H l=none->Q (.ref l) (upd H l (.lst x))) (EO (Be 0) tNil)) (gU 1 [] σ0) (upd H1 p1 (.lst [])):=by
 refine ixT h2 (iC (j:=0) rfl) ⟨aL (by simp),fun p np=>?_⟩;have t0:=Same.new (.tup [V.str s]) np;have ep:upd H p (.tup [V.str s]) p=some (.tup [V.str s]):=ah;generalize upd H p (.tup [V.str s])=H1 at t0 ep ⊢;have ec:C5 (V.str s::rl.map V.ref) (some 1) none=rl.map V.ref:=by rw [Xi _ (by decide)];rfl
 refine ⟨l2,_,rfl,SqT.of (t0 _ _ h2),?_,fun a2 na2=>⟨a2,rfl,⟨_,SqT.of ah⟩,fun p1 np1=>?_⟩⟩
 . intro z;have:=z.1;unfold HT.sIx at this;simp at this
 rw [ec] at np1 ⊢;have t1:=t0.trans (Same.new (.tup (rl.map V.ref)) na2);have ep1:=Same.new (.tup (rl.map V.ref)) na2 _ _ ep;have ea:upd H1 a2 (.tup (rl.map V.ref)) a2=some (.tup (rl.map V.ref)):=ah;generalize upd H1 a2 (.tup (rl.map V.ref))=H2 at t1 ep1 ea np1 ⊢;rw [h0];refine iX (K:=K) (c:=false) (a:=a2) (xs:=rl.map V.ref) (fun i zs σ H3=>Same H2 H3/\H3 p1=some (.lst zs)/\(∃ ks:List Addr,zs=ks.map V.ref/\Paired (fun k ys=>H3 k=some (.lst ys)) ks (yss.take i)/\(∀ k∈ks,H k=none)/\(∀ k∈ks,k≠p1)/\ks.length<=i)/\∃ v,σ=[v]) ⟨Same.new _ np1,ah,⟨[],rfl,.nil,(fun k h=>nomatch h),(fun k h=>nomatch h),Nat.le_refl _⟩,_,rfl⟩ (fun i zs σ H3 _ z=>SqT.of (z.1 _ _ ea)) ?_ ?_
 . rintro i x zs σ H3 N hN hx ⟨s3,e3,⟨ks,rfl,pk,kn,kp,kl⟩,v,rfl⟩;rw [List.getElem?_map] at hx;obtain ⟨r,gr,rfl⟩:=Option.map_eq_some_iff.mp hx;have il:=(List.getElem?_eq_some_iff.mp gr).1;obtain ⟨ys,gy,ey⟩:=jD hr gr;have s13:=t1.trans s3;dsimp only [tK,tYes,tCB,EO,Be,tNil];simp only [List.set_cons_zero,List.getElem?_cons_zero,Option.some.injEq,exists_eq_left',List.cons.injEq,V.ref.injEq,and_true,if_true,List.nil_append];refine ⟨ys,.inl (SqL.of (s13 _ _ ey)),fun lk nlk=>?_⟩;have t3:=Same.new (.lst ys) nlk;have nkp:lk≠p1:=fun z=>by rw [z,e3] at nlk;cases nlk
   refine ⟨t3 _ _ e3,bK (by rw [List.length_map];omega),hN _ _ _ ⟨(s3.trans t3).put np1 _,ah,⟨ks++[lk],by rw [List.map_append];rfl,?_,fun k hk=>?_,fun k hk=>?_,by rw [List.length_append];simp;omega⟩,_,rfl⟩⟩
   . rw [List.take_succ,gy];refine tT (by rw [ao nkp,ah]) ?_;have:∀ {l₁:List Addr} {l₂:List (List V)},(∀ k∈l₁,k≠p1)->Paired (fun k ys=>H3 k=some (.lst ys)) l₁ l₂->Paired (fun k ys'=>upd (upd H3 lk (.lst ys)) p1 (.lst (ks.map V.ref++[V.ref lk])) k=some (.lst ys')) l₁ l₂:=by
       intro l₁ l₂ hk hp
       induction hp with
       | nil=>exact .nil
       | cons h _ ih=>exact .cons (by rw [ao (hk _ List.mem_cons_self)];exact t3 _ _ h) (ih fun k h'=>hk k (List.mem_cons_of_mem _ h'))
     exact this kp pk
   . rcases List.mem_append.mp hk with h|h
     . exact kn k h
     . rw [List.mem_singleton.mp h];exact s13.free nlk
   . rcases List.mem_append.mp hk with h|h
     . exact kp k h
     . rw [List.mem_singleton.mp h];exact nkp
 . rintro zs σ H3 ⟨s3,e3,⟨ks,rfl,pk,kn,kp,kl⟩,v,rfl⟩;have hl:rl.length=yss.length:=Paired.length hr;rw [List.length_map,hl,List.take_length] at pk;have kl2:ks.length=yss.length:=Paired.length pk;refine ⟨p1,rfl,_,.inl ⟨SqL.of e3,fun l1 nl1=>?_⟩⟩;have t4:=Same.new (.tup (ks.map V.ref)) nl1;have s14:=t1.trans (s3.trans t4);refine ⟨p,l1,[V.str s],ks.map V.ref,rfl,rfl,SqT.of (t4 _ _ (s3 _ _ ep1)),SqT.of ah,by simp,aL (by rw [List.length_map];simp;omega),fun z=>?_,fun _ kq nkq=>?_⟩
   . have:=congrArg List.length z;rw [List.length_map] at this;simp at this;rw [this] at kl2;exact absurd (List.length_eq_zero_iff.mp (by rw [hl,<- kl2];rfl)) rn
   . have t5:=Same.new (.tup ([V.str s]++ks.map V.ref)) nkq;refine q kq ks _ (s14.trans t5) ah (Paired.imp' (fun k ys h=>(t4.trans t5) _ _ h) pk) kn
abbrev cL:Stmt:=top 69
theorem mR:FnScope ["script","many","roads","web","tolls","cells","far","laying","found","kept"] ["script"] (aa cL):=FnScope.of (by kernel_rfl)
theorem zU:NmL (aa cL) "script":=.of (by kernel_rfl)
theorem m7:NmL (aa cL) "many":=.of (by kernel_rfl)
theorem vh:NmL (aa cL) "roads":=.of (by kernel_rfl)
theorem tL:NmL (aa cL) "web":=.of (by kernel_rfl)
theorem Au:NmL (aa cL) "tolls":=.of (by kernel_rfl)
theorem Bz:NmC (aa cL) "cells":=.of (by kernel_rfl)
theorem PX:NmC (aa cL) "far":=.of (by kernel_rfl)
theorem zY:NmL (aa cL) "laying":=.of (by kernel_rfl)
theorem fY:NmL (aa cL) "found":=.of (by kernel_rfl)
theorem wd:NmL (aa cL) "kept":=.of (by kernel_rfl)
theorem xX:NmG (aa cL) "_law_web":=.of (by kernel_rfl)
theorem Ee:NmG (aa cL) "Web":=.of (by kernel_rfl)
theorem wB:NmG (aa cL) "list":=.of (by kernel_rfl)
theorem uq:NmG (aa cL) "_law_tolls":=.of (by kernel_rfl)
theorem uh:NmG (aa cL) "_law_cells":=.of (by kernel_rfl)
theorem vy:NmG (aa cL) "_law_stir":=.of (by kernel_rfl)
theorem JN:NmG (aa cL) "range":=.of (by kernel_rfl)
theorem mf:NmG (aa cL) "fairest":=.of (by kernel_rfl)
theorem tY:NmG (aa cL) "_law_right":=.of (by kernel_rfl)
theorem um:NmG (aa cL) "tuple":=.of (by kernel_rfl)
theorem yJ:NmG (aa cL) "len":=.of (by kernel_rfl)
theorem WR (T:Txt K mg) (hq:aK (CXe P w)) {f:Addr} {fd:FuncData} (D:Df K mg "law" cL ["script"] f fd) {f_Web___init__:Addr} {o0:FuncData} (F_Web___init__:Fun K "__init__" "Web.__init__" bc f_Web___init__ o0) (b_Web:Binds K o0 ["self","many","roads"] []) (PH:Mk K T.Web f_Web___init__) (G_Web_init:FnOk P w K mg base (CXe P w) 3 f_Web___init__ o0 ["self","many","roads"] (pi T)) {eC:Addr} {lX:FuncData} (dQ:Df K mg "_law_cells" ce ["script","many"] eC lX) (G_law_cells:FnOk P w K mg base (CXe P w) 1 eC lX ["script","many"] (ve T)) {i9:Addr} {Bk:FuncData} (kE:Df K mg "_law_right" aH ["web","many","tolls","laying","found"] i9 Bk) (G_law_right:FnOk P w K mg base (CXe P w) 28 i9 Bk ["web","many","tolls","laying","found"] (BA T)) {fS:Addr} {mY:FuncData} (di:Df K mg "_law_stir" dZ ["cell","k"] fS mY) (G_law_stir:FnOk P w K mg base (CXe P w) 1 fS mY ["cell","k"] (xf T)) {iZ:Addr} {A9:FuncData} (kK:Df K mg "_law_tolls" cM ["roads"] iZ A9) (G_law_tolls:FnOk P w K mg base (CXe P w) 1 iZ A9 ["roads"] (Af T)) {lY:Addr} {Eu:FuncData} (oA:Df K mg "_law_web" c9 ["script","sizes"] lY Eu) (G_law_web:FnOk P w K mg base (CXe P w) 4 lY Eu ["script","sizes"] (D7 T)) {lw:Addr} {Ei:FuncData} (iQ:Df K mg "fairest" c6 ["web"] lw Ei) (G_fairest:FnOk P w K mg base (CXe P w) 8 lw Ei ["web"] (E1 T)):FnOk P w K mg base (CXe P w) 29 f fd ["script"] (Xd T):=by
 refine D.F.okC mR (fun vs H Q E h=>?_) (fun cdv A outer s H vs Q E hr h=>?_)
 . obtain ⟨a,ns,rfl,_⟩:=h
   rfl
 . obtain ⟨a,ns,rfl,ha,hn,k⟩:=h;have hv:=hr.units;refine ⟨_,(ai (mZ (am G_law_web (hr.mono (by decide)) xX.g oA.m oA.F.kp oA.b .nil (aq hq) (ae (pvl 0 zU) (ae (cP (ae aj (ae aj (ae aj (ae aj (ae aj (ae aj (ae aj (ae aj ag))))))))) ag)) (hdb:=xX.d)) (lM (n:=2) rfl (be (au (i:=1) mR.nd rfl (Or.inl m7.l)) (be (au (i:=2) mR.nd rfl (Or.inl vh.l)) ju)))) (ai (ap (i:=3) mR.nd rfl (Or.inl tL.l) (Vh PH G_Web_init (hr.mono (by decide)) Ee.g T.XY b_Web .nil (aq hq) (ae (pvl 1 m7) (ae (oN AE wB.g T.list BR (ae (pvl 2 vh) ag) (hn:=wB.n) (hdb:=wB.d)) ag)) (hdb:=Ee.d))) (ai (ap (i:=4) mR.nd rfl (Or.inl Au.l) (am G_law_tolls (hr.mono (by decide)) uq.g kK.m kK.F.kp kK.b .nil (aq hq) (ae (pvl 2 vh) ag) (hdb:=uq.d))) (ai (ap (i:=5) mR.nd rfl (Or.inr Bz.l) (am G_law_cells (hr.mono (by decide)) uh.g dQ.m dQ.F.kp dQ.b .nil (aq hq) (ae (pvl 0 zU) (ae (pvl 1 m7) ag)) (hdb:=uh.d))) (ai (ap (i:=6) mR.nd rfl (Or.inr PX.l) (az bz (cP (ae aj (ae aj (ae (aA yn aj aj) ag)))) (aA jE (am G_law_stir (hr.mono (by decide)) vy.g di.m di.F.kp di.b .nil (aq hq) (ae (az bz (pvc 5 Bz) aj (fun _ _=>rfl)) (ae aj ag)) (hdb:=vy.d)) aj) (fun _ _=>rfl))) (ai (Fd (i:=7) mR.nd rfl zY.l rfl (gj (Nc:=["k","far","cells"]) 1 [6,5] (by decide +kernel) rfl (by decide +kernel) rfl (by show ∀ (y:Str × NameKind),y∈_->y.2=NameKind.free->(aa cL).names.lookup y.1=some NameKind.cell;decide +kernel) rfl (fun _ h=>dI h) (fun i hi=>match i,hi with|0,_=>⟨"far",6,rfl,rfl,rfl,by decide +kernel⟩|1,_=>⟨"cells",5,rfl,rfl,rfl,by decide +kernel⟩|i+2,hi=>absurd hi (by show ¬ i+2<2;omega))) (d5 JN.g T.range (ae (pvl 1 m7) ag)) (fun _ _ _ _=>(au (i:=0) (show (["k","far","cells"]:List Str).Nodup from by decide +kernel) rfl (Or.inl rfl))) (fun _ _ _ _=>eU) (fun _ _ _ _=>(aA jE (am G_law_stir (hr.mono (by decide)) (by rfl) di.m di.F.kp di.b .nil (aq hq) (ae (az (qp K rfl) (pv 2) (pv 0) (fun _ _=>rfl)) (ae aj ag))) (pv 1)))) (ai (ap (i:=8) mR.nd rfl (Or.inl fY.l) (am G_fairest (hr.mono (by decide)) mf.g iQ.m iQ.F.kp iQ.b .nil (aq hq) (ae (pvl 3 tL) ag) (hdb:=mf.d))) (ai (bZ (eP (fw (am G_law_right (hr.mono (by decide)) tY.g kE.m kE.F.kp kE.b .nil (aq hq) (ae (pvl 3 tL) (ae (pvl 1 m7) (ae (pvl 4 Au) (ae (pvl 7 zY) (ae (pvl 8 fY) ag))))) (hdb:=tY.d)))) (ak (ay ik)) aW) (ai (ap (i:=9) mR.nd rfl (Or.inl wd.l) (aA Wl (d6 (ae (az bf (pvl 8 fY) aj (fun _ _=>rfl)) ag)) (oN sW um.g T.tuple uJ (ae (dF rfl (nZ (Nc:=["some"]) 1 (by decide +kernel) (by decide +kernel) rfl (by decide +kernel) rfl) (yl (R3 Xo (pvl 8 fY) (V5 aj) Wd)) (fun _ _ _ _=>(au (i:=0) (show (["some"]:List Str).Nodup from by decide +kernel) rfl (Or.inl rfl))) (fun _ _ _ _=>eU) (fun _ _ _ _=>(oN (HF K rfl) (by rfl) T.list BR (ae (pv 0) ag)))) ag) (hn:=um.n) (hdb:=um.d)))) (ai (cZ (mx PySem.F.plainAttrs_list PySem.F.slot_list_append PySem.F.type_list_append eW (az bf (pvl 8 fY) aj (fun _ _=>rfl)) (ae (d6 (ae aj (ae aj ag))) ag))) (ai (bZ (PW.pt (AG (aO jX (aN bM yJ.g T.len fU (ae (pvl 8 fY) ag) (hn:=yJ.n) (hdb:=yJ.d)) aj (aI _)) (yw (aO (QN hv) (az bf (pvl 8 fY) aj (fun _ _=>rfl)) (az bf (pvl 9 wd) aj (fun _ _=>rfl)) (aI _))))) (ak (ay ik)) aW) (ai (cZ (mx PySem.F.plainAttrs_list PySem.F.slot_list_insert PySem.F.type_list_insert Av (az bf (pvl 8 fY) (Ph IJ aj) (fun _ _=>rfl)) (ae aj (ae (d6 (ae aj (ae aj ag))) ag)))) (ak (ay (gZ (yq hv) (am G_fairest (hr.mono (by decide)) mf.g iQ.m iQ.F.kp iQ.b .nil (aq hq) (ae (pvl 3 tL) ag) (hdb:=mf.d)) (pvl 9 wd) (aI _)))))))))))))))),?_⟩;rw [show L2.start ["script","many","roads","web","tolls","cells","far","laying","found","kept"] [V.ref a]=[some (V.ref a),none,none,none,none,none,none,none,none,none] from rfl];refine bg fun N1 h1=>?_;walk_at "rd";refine ⟨aL (by simp),fun z nz=>?_⟩;have s0:=Same.new (.lst [V.int 3,V.int 5,V.int 2,V.int 4,V.int 6,V.int 1,V.int 7,V.int 8]) nz;refine ⟨a,z,ns,[3,5,2,4,6,1,7,8],rfl,Same.seq s0 ha,hn,ah,by decide,by decide,by decide,fun t l m ps rs H1 mm nt nl s1 et el ro g=>?_⟩;have m1:=g.m1;have m8:m<=8:=by
     simp only [List.mem_cons,List.not_mem_nil,or_false] at mm;omega
   have s01:=s0.trans s1;clear mm s0;refine ⟨t,rfl,_,SqT.of et,rfl,_,_,rfl,_,_,rfl,rfl,h1 _ _ (bg fun N2 h2=>?_)⟩;walk_at "rd";refine ⟨_,.inl (SqL.of el),fun lc nlc=>?_⟩;have s3:=Same.new (.lst (ps.map V.ref)) nlc;refine WH T (c:=true) (SqL.of ah) (RoadsAt.same s3 ro) g fun x tw H4 hx htw s4 W=>?_;have s34:=s3.trans s4;refine h2 _ _ (bg fun N3 h3=>?_);walk_at "rd";refine ⟨l,ps,m,rs,rfl,s34 _ _ el,RoadsAt.same s34 ro,g,fun d H5 nd s5 ta=>h3 _ _ (bg fun N4 h4=>?_)⟩;have s05:=s01.trans (s34.trans s5);have W5:=W.same s5;walk_at "rd";refine ⟨a,ns,m,rfl,Same.seq s05 ha,by omega,m1,by omega,fun lcs cs H6 ncs s6 ecs csl=>h4 _ _ (bg fun N5 h5=>?_)⟩;have W6:=W5.same s6;have ta6:=ta.same s6;clear s05 s34 s3 s4 s5 W5 W ta s01 s1 et el ro;have p40:(0:Int)<10^Int.toNat 40:=Int.pow_pos (by decide);walk_at "rd";refine ⟨⟨by decide,by decide,by decide⟩,aL (by simp),fun q1 n1=>?_⟩;have t1:=Same.new (.lst [V.int 13,V.int 13,V.int (10^Int.toNat 40)]) n1;refine ixL (t1 _ _ ecs) (atG (by decide) (by omega)) ⟨_,83,rfl,by decide,by decide,fun sv sv0=>⟨_,rfl,by decide,?_⟩⟩;obtain ⟨far,hfar,f0,f40⟩:∃ far:Int,atI [V.int 13,V.int 13,V.int (10^Int.toNat 40)] (sv % 3)=some (.int far)/\0<far/\far<=10^40:=by
     rcases (show sv % 3=0\/sv % 3=1\/sv % 3=2 by omega) with z|z|z <;> rw [z]
     . exact ⟨13,rfl,by decide,by decide⟩
     . exact ⟨13,rfl,by decide,by decide⟩
     . exact ⟨10^40,rfl,by decide,by decide⟩
   refine ixL ah hfar ?_;have W7:=W6.same t1;have ta7:=ta6.same t1;have ecs7:=t1 _ _ ecs;generalize upd H6 q1 (.lst [V.int 13,V.int 13,V.int (10^Int.toNat 40)])=H7 at W7 ta7 ecs7 ⊢;clear W6 ta6 t1 ecs hfar;refine h5 _ _ (bg fun N6 h6=>?_);walk_at "rd";refine ⟨by omega,by omega,fun lx nlx=>?_⟩;refine gM (fun i zs σ H8=>Same H7 H8/\H8 lx=some (.lst zs)/\(∃ xs:List Int,zs=xs.map V.int/\xs.length=i/\∀ x∈xs,0<=x/\x<=10^40)/\∃ v,σ=[v,some (V.int far),some (V.ref lcs)]) ⟨Same.new _ nlx,ah,⟨[],rfl,rfl,fun x h=>nomatch h⟩,_,rfl⟩ ?_ ?_
   . rintro i zs σ H8 N hN hi ⟨s8,e8,⟨xs,rfl,xi,xb⟩,v,rfl⟩;rw [Int.zero_add];walk_at "rd";refine ixL (s8 _ _ ecs7) (atG (by omega) (by omega)) ⟨_,84,rfl,by decide,by decide,fun sw sw0=>⟨_,rfl,f0,?_⟩⟩;have w0:=Int.emod_nonneg sw (Int.ne_of_gt f0);have w1:=Int.emod_lt_of_pos sw f0;refine ⟨e8,bK (by rw [List.length_map];omega),hN _ _ _ ⟨s8.put nlx _,ah,⟨xs++[sw % far],by rw [List.map_append];rfl,by rw [List.length_append,xi];rfl,fun y hy=>?_⟩,_,rfl⟩⟩;rcases List.mem_append.mp hy with h|h
     . exact xb y h
     . rw [List.mem_singleton.mp h];omega
   . rintro zs σ H8 ⟨s8,e8,⟨xs,rfl,xi,xb⟩,v,rfl⟩;refine h6 _ _ (bg fun N7 h7=>?_);have W8:=W7.same s8;have ta8:=ta7.same s8;have xl:(xs.length:Int)=m:=(by omega);clear W7 ta7 s8;walk_at "rd";refine ⟨x,tw,m,ps,rs,rfl,W8,m8,fun l2 lo H9 nlo nl2 s9 e2 elo ne=>h7 _ _ (bg fun N8 h8=>?_),fun l2 la lb qa qb fs gs H9 nla nlb nl2 nab s9 e2 ela fa elb gb fl gl fB gB fv gv no=>h7 _ _ (bg fun N8 h8=>?_)⟩
     . walk_at "rd";refine ⟨x,d,lx,l2,tw,m,ps,rs,xs,rfl,W8.same s9,ta8.same s9,m8,s9 _ _ e8,xl,xb,.inl ⟨lo,e2,elo,ne⟩,fun H10 s10=>⟨_,rfl,?_⟩⟩;rw [if_neg (by decide)];have s810:=s9.trans s10;replace e2:=s10 _ _ e2;replace elo:=s10 _ _ elo;refine h8 _ _ (bg fun N9 h9=>?_);unfold tSl Ox tNoPart;walk_at "rd";refine Gp (rl:=[lo]) (yss:=[_]) e2 (.cons elo .nil) (by simp) (by simp) rfl fun kp ks H11 s11 ek pk kn=>?_;obtain ⟨lk,rfl,elk⟩:∃ lk,ks=[lk]/\H11 lk=some (.lst (((below m.toNat).filter (bH m rs)).map V.int)):=by
         cases pk with
         | cons h t=>cases t;exact ⟨_,rfl,h⟩
       have nlk:H10 lk=none:=kn lk (by simp);have nko:lk≠lo:=fun z=>by rw [z,elo] at nlk;cases nlk
       have s811:=s810.trans s11;have ll:(((below m.toNat).filter (bH m rs)).map V.int).length<=8:=by
         have:=List.length_filter_le (bH m rs) (below m.toNat);rw [aD] at this;rw [List.length_map];omega
       refine h9 _ _ (bg fun N10 h10=>?_);walk_at "rd";refine ixT (s11 _ _ e2) rfl ⟨tyL (s11 _ _ elo),aL (by simp),fun t1 nt1=>?_⟩;have u1:=Same.new (.tup [V.int 1,V.int 1]) nt1;refine sH (u1 _ _ (s11 _ _ elo)) (bK (by omega)) ?_;have e2':=u1 _ _ (s11 _ _ e2);have elo':=u1 _ _ (s11 _ _ elo);have ek':=u1 _ _ ek;have elk':=u1 _ _ elk;have s812:=(s811.trans u1).put nlo (.lst (((below m.toNat).filter (bH m rs)).map V.int++[V.ref t1]));have n2o:l2≠lo:=im e2' elo' (by intro z;cases z);have npo:kp≠lo:=im ek' elo' (by intro z;cases z);have f2:upd (upd H11 t1 (.tup [V.int 1,V.int 1])) lo (.lst (((below m.toNat).filter (bH m rs)).map V.int++[V.ref t1])) l2=some (.tup [V.str "below",V.ref lo]):=(by rw [ao n2o];exact e2');have flo:upd (upd H11 t1 (.tup [V.int 1,V.int 1])) lo (.lst (((below m.toNat).filter (bH m rs)).map V.int++[V.ref t1])) lo=some (.lst (((below m.toNat).filter (bH m rs)).map V.int++[V.ref t1])):=ah;have fk:upd (upd H11 t1 (.tup [V.int 1,V.int 1])) lo (.lst (((below m.toNat).filter (bH m rs)).map V.int++[V.ref t1])) kp=some (.tup [V.str "below",V.ref lk]):=(by rw [ao npo];exact ek');have flk:upd (upd H11 t1 (.tup [V.int 1,V.int 1])) lo (.lst (((below m.toNat).filter (bH m rs)).map V.int++[V.ref t1])) lk=some (.lst (((below m.toNat).filter (bH m rs)).map V.int)):=(by rw [ao nko];exact elk');generalize upd (upd H11 t1 (.tup [V.int 1,V.int 1])) lo (.lst (((below m.toNat).filter (bH m rs)).map V.int++[V.ref t1]))=H12 at s812 f2 flo fk flk ⊢;clear e2' elo' ek' elk' u1;refine h10 _ _ (bg fun N11 h11=>?_);walk_at "rd";refine ⟨_,.inr (SqT.of f2),?_⟩;rw [if_neg (by show ¬ ((2:Nat):Int)=3;decide)];refine h11 _ _ (bg fun N12 h12=>?_);walk_at "rd";refine ixT f2 rfl ⟨tyL flo,aL (by simp),fun t2 nt2=>?_⟩;have u2:=Same.new (.tup [V.int 1,V.int 1]) nt2;refine OT (u2 _ _ flo) (by decide) (by omega) (bK (by rw [List.length_append];simp only [List.length_singleton];omega)) ?_;have fk':=u2 _ _ fk;have flk':=u2 _ _ flk;obtain ⟨ob,hob⟩:∃ ob,ob=HO.lst (List.take (Int.toNat 0) (((below m.toNat).filter (bH m rs)).map V.int++[V.ref t1])++V.ref t2::List.drop (Int.toNat 0) (((below m.toNat).filter (bH m rs)).map V.int++[V.ref t1])):=⟨_,rfl⟩;rw [<- hob];have s813:=(s812.trans u2).put nlo ob;have gk:upd (upd H12 t2 (.tup [V.int 1,V.int 1])) lo ob kp=some (.tup [V.str "below",V.ref lk]):=(by rw [ao npo];exact fk');have glk:upd (upd H12 t2 (.tup [V.int 1,V.int 1])) lo ob lk=some (.lst (((below m.toNat).filter (bH m rs)).map V.int)):=(by rw [ao nko];exact flk');generalize upd (upd H12 t2 (.tup [V.int 1,V.int 1])) lo ob=H13 at s813 gk glk ⊢;refine h12 _ _ ?_;walk_at "rd";refine ⟨x,tw,m,ps,rs,rfl,W8.same s813,m8,fun l3 lo3 H14 _ _ s14 e3 elo3 _=>?_,fun l3 la lb qa qb fs gs H14 _ _ _ _ _ _ _ _ _ _ _ _ _ _ _ _ no=>absurd no ne⟩;refine ⟨_,_,.tup (SqT.of e3) (.cons (.str (by decide +kernel)) (.cons (oO elo3) .nil)),.tup (SqT.of (s14 _ _ gk)) (.cons (.str (by decide +kernel)) (.cons (oO (s14 _ _ glk)) .nil)),?_,?_⟩
       . have:=nB ((below m.toNat).filter (bH m rs));simp only [PyData.depth,PyData.depthAll];omega
       . simp only [PyData.eqv,PyData.eqvAll];rw [Cp];have:((("below":Str) == ("below":Str)) && (true && true))=true:=(by simp);rw [this];exact k _
     . walk_at "rd";refine ⟨x,d,lx,l2,tw,m,ps,rs,xs,rfl,W8.same s9,ta8.same s9,m8,s9 _ _ e8,xl,xb,.inr ⟨la,lb,qa,qb,fs,gs,e2,ela,fa,elb,gb,fB,gB,fl,gl,fv,gv,no⟩,fun H10 s10=>⟨_,rfl,?_⟩⟩;rw [if_neg (by decide)];have s810:=s9.trans s10;replace e2:=s10 _ _ e2;replace ela:=s10 _ _ ela;replace elb:=s10 _ _ elb;replace fa:=FrsAt.same s10 fa;replace gb:=FrsAt.same s10 gb;refine h8 _ _ (bg fun N9 h9=>?_);unfold tSl Ox tNoPart;walk_at "rd";refine Gp (rl:=[la,lb]) (yss:=[_,_]) e2 (.cons ela (.cons elb .nil)) (by simp) (by simp) rfl fun kp ks H11 s11 ek pk kn=>?_;obtain ⟨ka,kb,rfl,eka,ekb⟩:∃ ka kb,ks=[ka,kb]/\H11 ka=some (.lst (qa.map V.ref))/\H11 kb=some (.lst (qb.map V.ref)):=by
         cases pk with
         | cons h t=>cases t with
           | cons h' t'=>cases t';exact ⟨_,_,rfl,h,h'⟩
       have nka:H10 ka=none:=kn ka (by simp);have nkb:H10 kb=none:=kn kb (by simp);have naa:ka≠la:=fun z=>by rw [z,ela] at nka;cases nka
       have nab':ka≠lb:=fun z=>by rw [z,elb] at nka;cases nka
       have nba:kb≠la:=fun z=>by rw [z,ela] at nkb;cases nkb
       have nbb:kb≠lb:=fun z=>by rw [z,elb] at nkb;cases nkb
       have s811:=s810.trans s11;have qal:qa.length=fs.length:=Paired.length fa;have qbl:qb.length=gs.length:=Paired.length gb;replace fa:=FrsAt.same s11 fa;replace gb:=FrsAt.same s11 gb;refine h9 _ _ (bg fun N10 h10=>?_);walk_at "rd";refine ixT (s11 _ _ e2) rfl ⟨tyL (s11 _ _ ela),aL (by simp),fun t1 nt1=>?_⟩;have u1:=Same.new (.tup [V.int 1,V.int 1]) nt1;refine sH (u1 _ _ (s11 _ _ ela)) (bK (by rw [List.length_map];omega)) ?_;have ela':=u1 _ _ (s11 _ _ ela);have tupne:∀ {q':Addr} {vs:List V},upd H11 t1 (.tup [V.int 1,V.int 1]) q'=some (.tup vs)->q'≠la:=fun h=>im h ela' (by intro z;cases z);obtain ⟨o1,ho1⟩:∃ o1,o1=HO.lst (qa.map V.ref++[V.ref t1]):=⟨_,rfl⟩;rw [<- ho1];have s812:=(s811.trans u1).put nla o1;have f2:upd (upd H11 t1 (.tup [V.int 1,V.int 1])) la o1 l2=some (.tup [V.str "fairest",V.ref la,V.ref lb]):=(by rw [ao (tupne (u1 _ _ (s11 _ _ e2)))];exact u1 _ _ (s11 _ _ e2));have flb:upd (upd H11 t1 (.tup [V.int 1,V.int 1])) la o1 lb=some (.lst (qb.map V.ref)):=(by rw [ao nab.symm];exact u1 _ _ (s11 _ _ elb));have fk:upd (upd H11 t1 (.tup [V.int 1,V.int 1])) la o1 kp=some (.tup [V.str "fairest",V.ref ka,V.ref kb]):=(by rw [ao (tupne (u1 _ _ ek))];exact u1 _ _ ek);have fka:upd (upd H11 t1 (.tup [V.int 1,V.int 1])) la o1 ka=some (.lst (qa.map V.ref)):=(by rw [ao naa];exact u1 _ _ eka);have fkb:upd (upd H11 t1 (.tup [V.int 1,V.int 1])) la o1 kb=some (.lst (qb.map V.ref)):=(by rw [ao nba];exact u1 _ _ ekb);have fa':FrsAt (upd (upd H11 t1 (.tup [V.int 1,V.int 1])) la o1) qa fs:=Paired.imp' (fun q f h=>by rw [ao (tupne (u1 _ _ h))];exact u1 _ _ h) fa;have gb':FrsAt (upd (upd H11 t1 (.tup [V.int 1,V.int 1])) la o1) qb gs:=Paired.imp' (fun q f h=>by rw [ao (tupne (u1 _ _ h))];exact u1 _ _ h) gb;generalize upd (upd H11 t1 (.tup [V.int 1,V.int 1])) la o1=H12 at s812 f2 flb fk fka fkb fa' gb' ⊢;clear u1 ela' tupne;refine h10 _ _ (bg fun N11 h11=>?_);walk_at "rd";refine ⟨_,.inr (SqT.of f2),?_⟩;rw [if_pos (by rfl)];refine ixT f2 rfl (ixT fk rfl ?_);refine ⟨_,_,.lst (SqL.of flb) (kf gb'),.lst (SqL.of fkb) (kf gb'),?_,_,rfl,?_⟩
       . have:=rN gs;simp only [PyData.depth];omega
       rw [if_neg (by simp only [PyData.eqv];rw [xv];decide)];refine h11 _ _ (bg fun N12 h12=>?_);walk_at "rd";refine ixT f2 rfl ⟨tyL flb,aL (by simp),fun t2 nt2=>?_⟩;have u2:=Same.new (.tup [V.int 1,V.int 1]) nt2;refine OT (u2 _ _ flb) (by decide) (by simp) (bK (by rw [List.length_map];omega)) ?_;have flb':=u2 _ _ flb;have tupne:∀ {q':Addr} {vs:List V},upd H12 t2 (.tup [V.int 1,V.int 1]) q'=some (.tup vs)->q'≠lb:=fun h=>im h flb' (by intro z;cases z);obtain ⟨o2,ho2⟩:∃ o2,o2=HO.lst (List.take (Int.toNat 0) (qb.map V.ref)++V.ref t2::List.drop (Int.toNat 0) (qb.map V.ref)):=⟨_,rfl⟩;rw [<- ho2];have s813:=(s812.trans u2).put nlb o2;have gk:upd (upd H12 t2 (.tup [V.int 1,V.int 1])) lb o2 kp=some (.tup [V.str "fairest",V.ref ka,V.ref kb]):=(by rw [ao (tupne (u2 _ _ fk))];exact u2 _ _ fk);have gka:upd (upd H12 t2 (.tup [V.int 1,V.int 1])) lb o2 ka=some (.lst (qa.map V.ref)):=(by rw [ao nab'];exact u2 _ _ fka);have gkb:upd (upd H12 t2 (.tup [V.int 1,V.int 1])) lb o2 kb=some (.lst (qb.map V.ref)):=(by rw [ao nbb];exact u2 _ _ fkb);have fa2:FrsAt (upd (upd H12 t2 (.tup [V.int 1,V.int 1])) lb o2) qa fs:=Paired.imp' (fun q f h=>by rw [ao (tupne (u2 _ _ h))];exact u2 _ _ h) fa';have gb2:FrsAt (upd (upd H12 t2 (.tup [V.int 1,V.int 1])) lb o2) qb gs:=Paired.imp' (fun q f h=>by rw [ao (tupne (u2 _ _ h))];exact u2 _ _ h) gb';generalize upd (upd H12 t2 (.tup [V.int 1,V.int 1])) lb o2=H13 at s813 gk gka gkb fa2 gb2 ⊢;refine h12 _ _ ?_;walk_at "rd";refine ⟨x,tw,m,ps,rs,rfl,W8.same s813,m8,fun l3 lo3 H14 _ _ _ _ _ ne=>absurd no ne,fun l3 la3 lb3 qa3 qb3 fs3 gs3 H14 _ _ _ _ s14 e3 ea3 fa3 eb3 gb3 fl3 gl3 fB3 gB3 fv3 gv3 _=>?_⟩;have e1:fs3=fs:=Shs.eq (F:=evp rs) ⟨fl3,fun f hf=>⟨(fB3 f hf).1.1,(fB3 f hf).2⟩,fv3⟩ ⟨fl,fun f hf=>⟨(fB f hf).1.1,(fB f hf).2⟩,fv⟩;have e2':gs3=gs:=Shs.eq (F:=sep rs) ⟨gl3,fun f hf=>⟨(gB3 f hf).1.1,(gB3 f hf).2⟩,gv3⟩ ⟨gl,fun f hf=>⟨(gB f hf).1.1,(gB f hf).2⟩,gv⟩;rw [e1] at fa3;rw [e2'] at gb3;refine ⟨_,_,.tup (SqT.of e3) (.cons (.str (by decide +kernel)) (.cons (.lst (SqL.of ea3) (kf fa3)) (.cons (.lst (SqL.of eb3) (kf gb3)) .nil))),.tup (SqT.of (s14 _ _ gk)) (.cons (.str (by decide +kernel)) (.cons (.lst (SqL.of (s14 _ _ gka)) (kf (FrsAt.same s14 fa2))) (.cons (.lst (SqL.of (s14 _ _ gkb)) (kf (FrsAt.same s14 gb2))) .nil))),?_,?_⟩
       . have h1:=rN fs;have h2:=rN gs;simp only [PyData.depth,PyData.depthAll];omega
       . simp only [PyData.eqv,PyData.eqvAll];rw [xv,xv];have:((("fairest":Str) == ("fairest":Str)) && (true && (true && true)))=true:=(by simp);rw [this];exact k _
end
theorem Yq:aK CX0:=fun _ _ _ _ _ h=>h
theorem all_mk {l:PySem.W.OpenLaw} {w:World} {K:PySem.W.Frag} {h:Heap} {mg:Str->Option Value} {fa:Addr} {KH:Addr} {vB:Addr} {zg:Addr} {pN:Addr} {xc_NoPlace:Value} {xd_NoPlace:Option Addr} {xk_NoPlace:ClassData} {xs_NoPlace:Array (Option Value)} {qn_NoPlace qq_NoPlace:Str} {qN_NoPlace:Addr} {qb_NoPlace qm_NoPlace:List Value} {qh_NoPlace:Bool} {qs_NoPlace:List Str} {qu_NoPlace:List Value} {qa_NoPlace:Bool} {qc_NoPlace:Option Bool} {qd_NoPlace:Option Addr} {q0_NoPlace q1_NoPlace q2_NoPlace q3_NoPlace q5_NoPlace:Option Value} {xc_NoRoad:Value} {xd_NoRoad:Option Addr} {xk_NoRoad:ClassData} {xs_NoRoad:Array (Option Value)} {qn_NoRoad qq_NoRoad:Str} {qN_NoRoad:Addr} {qb_NoRoad qm_NoRoad:List Value} {qh_NoRoad:Bool} {qs_NoRoad:List Str} {qu_NoRoad:List Value} {qa_NoRoad:Bool} {qc_NoRoad:Option Bool} {qd_NoRoad:Option Addr} {q0_NoRoad q1_NoRoad q2_NoRoad q3_NoRoad q5_NoRoad:Option Value} {fC:Addr} {od_check_counts Ef:Option Addr} {EV:Array (Option Value)} {oc_check_counts ER EU EF vA Es:Value} {fM:Addr} {od_is_place Me:Option Addr} {ME:Array (Option Value)} {oc_is_place LK LP LI CH LJ:Value} {ic:Addr} {od_check_ends Hl:Option Addr} {G4:Array (Option Value)} {oc_check_ends Hf Hy Hu zL Hb:Value} {dP:Addr} {od_other_ends HS:Option Addr} {Ht:Array (Option Value)} {oc_other_ends HJ Ih HA zB Ig:Value} {fE:Addr} {od_check_joined E2:Option Addr} {D4:Array (Option Value)} {oc_check_joined EE EI Ea vN Ed:Value} {gH:Addr} {od_check_tolls Fp:Option Addr} {Fx:Array (Option Value)} {oc_check_tolls Fs Fi Fk yo FD:Value} {f_Web___init__:Addr} {od_Web___init__ EB:Option Addr} {E8:Array (Option Value)} {oc_Web___init__ El E3 Fb vV Fa:Value} {iZ:Addr} {od_law_tolls KO:Option Addr} {IB:Array (Option Value)} {oc_law_tolls LB JR J8 AY Lu:Value} {eC:Addr} {od_law_cells Ks:Option Addr} {Kj:Array (Option Value)} {oc_law_cells KQ JG K3 BF JM:Value} {cA:Addr} {od_common_divisor Cf:Option Addr} {Cc:Array (Option Value)} {oc_common_divisor Ce B6 Cd tJ B8:Value} {dD:Addr} {od_fraction L8:Option Addr} {Mh:Array (Option Value)} {oc_fraction Mp MV MR Ci LW:Value} {cT:Addr} {od_sum_up Qa:Option Addr} {QX:Array (Option Value)} {oc_sum_up Rb QP QO GC Qi:Value} {va:Addr} {od_plus VO:Option Addr} {VA:Array (Option Value)} {oc_plus V0 Vd Wc Nt VS:Value} {kI:Addr} {od_minus Tu:Option Addr} {Ta:Array (Option Value)} {oc_minus UG SE TQ Li TW:Value} {cj:Addr} {od_check_place FM:Option Addr} {FF:Array (Option Value)} {oc_check_place Fl FC F4 xL Fg:Value} {cG:Addr} {od_neighbours Hk:Option Addr} {G7:Array (Option Value)} {oc_neighbours Hm HZ HX zS HL:Value} {eB:Addr} {od_road_part IX:Option Addr} {IV:Array (Option Value)} {oc_road_part K9 IP Ka AD JY:Value} {gJ:Addr} {od_toll Wp:Option Addr} {Wi:Array (Option Value)} {oc_toll Vy Wr Wb Nu VQ:Value} {ig:Addr} {od_even_share Hh:Option Addr} {HW:Array (Option Value)} {oc_even_share HB HH Hx zJ Ib:Value} {cq:Addr} {od_even_shares Gi:Option Addr} {Fr:Array (Option Value)} {oc_even_shares FP FT Fe xq F3:Value} {fJ:Addr} {od_second_share ES:Option Addr} {D9:Array (Option Value)} {oc_second_share EM Ej E6 vK EH:Value} {bJ:Addr} {od_second_shares CY:Option Addr} {CS:Array (Option Value)} {oc_second_shares Di DU CQ uo Dr:Value} {jf:Addr} {od_law_below IH:Option Addr} {IY:Array (Option Value)} {oc_law_below J6 KJ Jx Bl Lf:Value} {dA:Addr} {od_law_divided Fo:Option Addr} {Gd:Array (Option Value)} {oc_law_divided Ga Fv F9 xO Gb:Value} {cF:Addr} {od_law_beside Hq:Option Addr} {HC:Array (Option Value)} {oc_law_beside HY HV Ia zD HK:Value} {fy:Addr} {od_law_gathered EL:Option Addr} {Eh:Array (Option Value)} {oc_law_gathered EX E9 Eb vG EG:Value} {jW:Addr} {od_law_part Mt:Option Addr} {LS:Array (Option Value)} {oc_law_part LZ Mf MI CD L0:Value} {eA:Addr} {od_law_whole K7:Option Addr} {Jr:Array (Option Value)} {oc_law_whole IA Jn Kt Bj JE:Value} {dH:Addr} {od_law_is_fraction BI:Option Addr} {A5:Array (Option Value)} {oc_law_is_fraction AO Bn BH rM Bs:Value} {eG:Addr} {od_law_fractions DT:Option Addr} {Dq:Array (Option Value)} {oc_law_fractions Dm C3 Da u5 Dt:Value} {jk:Addr} {od_law_ahead IG:Option Addr} {Kl:Array (Option Value)} {oc_law_ahead JD KR Kx Bp KC:Value} {hZ:Addr} {od_law_prices Ha:Option Addr} {Hr:Array (Option Value)} {oc_law_prices G3 Ie HD zT G5:Value} {mQ:Addr} {od_less Vz:Option Addr} {VT:Array (Option Value)} {oc_less Wn We Vi MZ Vv:Value} {fP:Addr} {od_is_below LX:Option Addr} {Mg:Array (Option Value)} {oc_is_below MC MD LU Cs Ml:Value} {ja:Addr} {od_are_sound Kc:Option Addr} {Js:Array (Option Value)} {oc_are_sound K0 KA Ju Aj Jt:Value} {dR:Addr} {od_divided_up HP:Option Addr} {Ii:Array (Option Value)} {oc_divided_up He HG Hj zI Hi:Value} {mT:Addr} {od_kids Wo:Option Addr} {Wg:Array (Option Value)} {oc_kids VD Vm V4 Nr Vp:Value} {kH:Addr} {od_ahead SS:Option Addr} {Tk:Array (Option Value)} {oc_ahead T7 S5 R6 JJ T2:Value} {uB:Addr} {od_down Vl:Option Addr} {Wm:Array (Option Value)} {oc_down V6 Ve Wq Nq Vs:Value} {jg:Addr} {od_inward QC:Option Addr} {QU:Array (Option Value)} {oc_inward Q2 Qr Qq Gv QE:Value} {jh:Addr} {od_prices_to Lv:Option Addr} {JS:Array (Option Value)} {oc_prices_to KY Lg Jo AW Jp:Value} {qS:Addr} {od_worth Us:Option Addr} {SV:Array (Option Value)} {oc_worth RF RT Uu Jv UN:Value} {gG:Addr} {od_prices_from Gh:Option Addr} {Fy:Array (Option Value)} {oc_prices_from Gf Fh Fm yh F8:Value} {nO:Addr} {od_yields QB:Option Addr} {Q6:Array (Option Value)} {oc_yields Qx QH Qy GY Rc:Value} {eL:Addr} {od_shows_fairest DD:Option Addr} {DM:Array (Option Value)} {oc_shows_fairest Db DN C1 ut DH:Value} {iY:Addr} {od_law_shown IT:Option Addr} {Ln:Array (Option Value)} {oc_law_shown IK Lh Lx Ag JL:Value} {i9:Addr} {od_law_right JO:Option Addr} {Iz:Array (Option Value)} {oc_law_right JA JI JF A1 Km:Value} {fS:Addr} {od_law_stir L4:Option Addr} {L7:Array (Option Value)} {oc_law_stir MF MW MT CC Mc:Value} {j4:Addr} {od_law_cell Mz:Option Addr} {MJ:Array (Option Value)} {oc_law_cell MU Mw LO CG L9:Value} {fL:Addr} {od_law_take LR:Option Addr} {Mo:Array (Option Value)} {oc_law_take Ms Mm Mu Cj LV:Value} {ke:Addr} {od_law_toll Mj:Option Addr} {MP:Array (Option Value)} {oc_law_toll ML MK LL Cl LN:Value} {je:Addr} {od_law_roads KN:Option Addr} {J5:Array (Option Value)} {oc_law_roads KD IL I0 A4 Lq:Value} {lY:Addr} {od_law_web Oq:Option Addr} {Pe:Array (Option Value)} {oc_law_web Pj NV Pg Ev PV:Value} {lw:Addr} {od_fairest NR:Option Addr} {Os:Array (Option Value)} {oc_fairest PJ OG NO En O3:Value} {Ot:Addr} {od_law QJ:Option Addr} {XA:Array (Option Value)} {oc_law Q9 Q7 Qo JB Qp:Value} {t_MOST_PLACES:Tok} {t_LEAST_TOLL:Tok} {t_MOST_TOLL:Tok} {Dz:Addr} {Qg QG:Tok} {Tc:Nat} {T9:Option Addr} {SH:Array (Option Value)} {Pp:Addr} {WX Xx:Tok} {XW:Nat} {X3:Option Addr} {X2:Array (Option Value)} (X:K.In h) (G:h.Ns mainGlobals mg) (hfa:mg "law"=some (.ref fa))
   (Bm:PySem.W.nsIn K mainGlobals "BadWeb"=some (some (.ref KH)))
   (zx:PySem.W.nsIn K mainGlobals "NoPlace"=some (some (.ref vB)))
   (Bg:PySem.W.nsIn K mainGlobals "NoRoad"=some (some (.ref zg)))
   (Ly:PySem.W.nsIn K mainGlobals "Web"=some (some (.ref pN)))
   (zq:K.lookup vB=some ⟨xc_NoPlace,xd_NoPlace,.cls xk_NoPlace,xs_NoPlace⟩)
   (yO:(⟨xc_NoPlace,xd_NoPlace,.cls xk_NoPlace,xs_NoPlace⟩:Obj)=excClassObj qn_NoPlace qq_NoPlace vB qN_NoPlace qb_NoPlace qm_NoPlace qh_NoPlace qs_NoPlace qu_NoPlace qa_NoPlace qc_NoPlace qd_NoPlace q0_NoPlace q1_NoPlace q2_NoPlace q3_NoPlace q5_NoPlace "ValueError.__new__")
   (zc:PySem.W.nsOkIn K qN_NoPlace=true)
   (y3:PySem.W.nsIn K qN_NoPlace "__init__"=some none)
   (zz:PySem.W.tailIn K bmV qm_NoPlace=true)
   (BC:K.lookup zg=some ⟨xc_NoRoad,xd_NoRoad,.cls xk_NoRoad,xs_NoRoad⟩)
   (A2:(⟨xc_NoRoad,xd_NoRoad,.cls xk_NoRoad,xs_NoRoad⟩:Obj)=excClassObj qn_NoRoad qq_NoRoad zg qN_NoRoad qb_NoRoad qm_NoRoad qh_NoRoad qs_NoRoad qu_NoRoad qa_NoRoad qc_NoRoad qd_NoRoad q0_NoRoad q1_NoRoad q2_NoRoad q3_NoRoad q5_NoRoad "ValueError.__new__")
   (AF:PySem.W.nsOkIn K qN_NoRoad=true)
   (AM:PySem.W.nsIn K qN_NoRoad "__init__"=some none)
   (Bh:PySem.W.tailIn K bmV qm_NoRoad=true)
   (qO:PySem.W.nsIn K mainGlobals "check_counts"=some (some (.ref fC)))
   (qJ:K.lookup fC=some ⟨oc_check_counts,od_check_counts,.func (PySem.W.fnOf "check_counts" "check_counts" (ax bP) (aw bP) (aa bP) .none ER EU EF Ef vA Es),EV⟩)
   (rj:PySem.W.codeIn K vA "check_counts"=true)
   (qw:PySem.W.keepIn K (.ref fC)=true)
   (zn:PySem.W.nsIn K mainGlobals "is_place"=some (some (.ref fM)))
   (yS:K.lookup fM=some ⟨oc_is_place,od_is_place,.func (PySem.W.fnOf "is_place" "is_place" (ax eJ) (aw eJ) (aa eJ) .none LK LP LI Me CH LJ),ME⟩)
   (yV:PySem.W.codeIn K CH "is_place"=true)
   (zj:PySem.W.keepIn K (.ref fM)=true)
   (uW:PySem.W.nsIn K mainGlobals "check_ends"=some (some (.ref ic)))
   (u8:K.lookup ic=some ⟨oc_check_ends,od_check_ends,.func (PySem.W.fnOf "check_ends" "check_ends" (ax cW) (aw cW) (aa cW) .none Hf Hy Hu Hl zL Hb),G4⟩)
   (uG:PySem.W.codeIn K zL "check_ends"=true)
   (uw:PySem.W.keepIn K (.ref ic)=true)
   (uu:PySem.W.nsIn K mainGlobals "other_ends"=some (some (.ref dP)))
   (uQ:K.lookup dP=some ⟨oc_other_ends,od_other_ends,.func (PySem.W.fnOf "other_ends" "other_ends" (ax cJ) (aw cJ) (aa cJ) .none HJ Ih HA HS zB Ig),Ht⟩)
   (uD:PySem.W.codeIn K zB "other_ends"=true)
   (vg:PySem.W.keepIn K (.ref dP)=true)
   (qK:PySem.W.nsIn K mainGlobals "check_joined"=some (some (.ref fE)))
   (qX:K.lookup fE=some ⟨oc_check_joined,od_check_joined,.func (PySem.W.fnOf "check_joined" "check_joined" (ax ba) (aw ba) (aa ba) .none EE EI Ea E2 vN Ed),D4⟩)
   (q8:PySem.W.codeIn K vN "check_joined"=true)
   (qu:PySem.W.keepIn K (.ref fE)=true)
   (sT:PySem.W.nsIn K mainGlobals "check_tolls"=some (some (.ref gH)))
   (sM:K.lookup gH=some ⟨oc_check_tolls,od_check_tolls,.func (PySem.W.fnOf "check_tolls" "check_tolls" (ax ck) (aw ck) (aa ck) .none Fs Fi Fk Fp yo FD),Fx⟩)
   (sP:PySem.W.codeIn K yo "check_tolls"=true)
   (sy:PySem.W.keepIn K (.ref gH)=true)
   (rh:PySem.W.findIn K (.ref pN) "__init__"=some (some (.ref f_Web___init__)))
   (qU:PySem.W.isFn K (.ref f_Web___init__)=true)
   (qN:K.lookup f_Web___init__=some ⟨oc_Web___init__,od_Web___init__,.func (PySem.W.fnOf "__init__" "Web.__init__" (ax bc) (aw bc) (aa bc) .none El E3 Fb EB vV Fa),E8⟩)
   (q9:PySem.W.codeIn K vV "Web.__init__"=true)
   (re:PySem.W.keepIn K (.ref f_Web___init__)=true)
   (wm:PySem.W.nsIn K mainGlobals "_law_tolls"=some (some (.ref iZ)))
   (wC:K.lookup iZ=some ⟨oc_law_tolls,od_law_tolls,.func (PySem.W.fnOf "_law_tolls" "_law_tolls" (ax cM) (aw cM) (aa cM) .none LB JR J8 KO AY Lu),IB⟩)
   (wt:PySem.W.codeIn K AY "_law_tolls"=true)
   (wx:PySem.W.keepIn K (.ref iZ)=true)
   (we:PySem.W.nsIn K mainGlobals "_law_cells"=some (some (.ref eC)))
   (wJ:K.lookup eC=some ⟨oc_law_cells,od_law_cells,.func (PySem.W.fnOf "_law_cells" "_law_cells" (ax ce) (aw ce) (aa ce) .none KQ JG K3 Ks BF JM),Kj⟩)
   (wU:PySem.W.codeIn K BF "_law_cells"=true)
   (wz:PySem.W.keepIn K (.ref eC)=true)
   (nG:PySem.W.nsIn K mainGlobals "common_divisor"=some (some (.ref cA)))
   (oq:K.lookup cA=some ⟨oc_common_divisor,od_common_divisor,.func (PySem.W.fnOf "common_divisor" "common_divisor" (ax bw) (aw bw) (aa bw) .none Ce B6 Cd Cf tJ B8),Cc⟩)
   (nS:PySem.W.codeIn K tJ "common_divisor"=true)
   (nV:PySem.W.keepIn K (.ref cA)=true)
   (ze:PySem.W.nsIn K mainGlobals "fraction"=some (some (.ref dD)))
   (yW:K.lookup dD=some ⟨oc_fraction,od_fraction,.func (PySem.W.fnOf "fraction" "fraction" (ax dg) (aw dg) (aa dg) .none Mp MV MR L8 Ci LW),Mh⟩)
   (zr:PySem.W.codeIn K Ci "fraction"=true)
   (y9:PySem.W.keepIn K (.ref dD)=true)
   (DJ:PySem.W.nsIn K mainGlobals "sum_up"=some (some (.ref cT)))
   (CV:K.lookup cT=some ⟨oc_sum_up,od_sum_up,.func (PySem.W.fnOf "sum_up" "sum_up" (ax cU) (aw cU) (aa cU) .none Rb QP QO Qa GC Qi),QX⟩)
   (CZ:PySem.W.codeIn K GC "sum_up"=true)
   (C2:PySem.W.keepIn K (.ref cT)=true)
   (JV:PySem.W.nsIn K mainGlobals "plus"=some (some (.ref va)))
   (KL:K.lookup va=some ⟨oc_plus,od_plus,.func (PySem.W.fnOf "plus" "plus" (ax lP) (aw lP) (aa lP) .none V0 Vd Wc VO Nt VS),VA⟩)
   (LD:PySem.W.codeIn K Nt "plus"=true)
   (Lb:PySem.W.keepIn K (.ref va)=true)
   (FU:PySem.W.nsIn K mainGlobals "minus"=some (some (.ref kI)))
   (FN:K.lookup kI=some ⟨oc_minus,od_minus,.func (PySem.W.fnOf "minus" "minus" (ax iy) (aw iy) (aa iy) .none UG SE TQ Tu Li TW),Ta⟩)
   (FI:PySem.W.codeIn K Li "minus"=true)
   (Fj:PySem.W.keepIn K (.ref kI)=true)
   (sR:PySem.W.nsIn K mainGlobals "check_place"=some (some (.ref cj)))
   (sK:K.lookup cj=some ⟨oc_check_place,od_check_place,.func (PySem.W.fnOf "check_place" "check_place" (ax bQ) (aw bQ) (aa bQ) .none Fl FC F4 FM xL Fg),FF⟩)
   (sg:PySem.W.codeIn K xL "check_place"=true)
   (sG:PySem.W.keepIn K (.ref cj)=true)
   (ud:PySem.W.nsIn K mainGlobals "neighbours"=some (some (.ref cG)))
   (uv:K.lookup cG=some ⟨oc_neighbours,od_neighbours,.func (PySem.W.fnOf "neighbours" "neighbours" (ax bW) (aw bW) (aa bW) .none Hm HZ HX Hk zS HL),G7⟩)
   (uf:PySem.W.codeIn K zS "neighbours"=true)
   (t7:PySem.W.keepIn K (.ref cG)=true)
   (xc:PySem.W.nsIn K mainGlobals "road_part"=some (some (.ref eB)))
   (wA:K.lookup eB=some ⟨oc_road_part,od_road_part,.func (PySem.W.fnOf "road_part" "road_part" (ax dz) (aw dz) (aa dz) .none K9 IP Ka IX AD JY),IV⟩)
   (wG:PySem.W.codeIn K AD "road_part"=true)
   (wy:PySem.W.keepIn K (.ref eB)=true)
   (Kz:PySem.W.nsIn K mainGlobals "toll"=some (some (.ref gJ)))
   (LF:K.lookup gJ=some ⟨oc_toll,od_toll,.func (PySem.W.fnOf "toll" "toll" (ax d8) (aw d8) (aa d8) .none Vy Wr Wb Wp Nu VQ),Wi⟩)
   (JX:PySem.W.codeIn K Nu "toll"=true)
   (IC:PySem.W.keepIn K (.ref gJ)=true)
   (uM:PySem.W.nsIn K mainGlobals "even_share"=some (some (.ref ig)))
   (ua:K.lookup ig=some ⟨oc_even_share,od_even_share,.func (PySem.W.fnOf "even_share" "even_share" (ax bL) (aw bL) (aa bL) .none HB HH Hx Hh zJ Ib),HW⟩)
   (uF:PySem.W.codeIn K zJ "even_share"=true)
   (uX:PySem.W.keepIn K (.ref ig)=true)
   (sO:PySem.W.nsIn K mainGlobals "even_shares"=some (some (.ref cq)))
   (sx:K.lookup cq=some ⟨oc_even_shares,od_even_shares,.func (PySem.W.fnOf "even_shares" "even_shares" (ax ci) (aw ci) (aa ci) .none FP FT Fe Gi xq F3),Fr⟩)
   (sS:PySem.W.codeIn K xq "even_shares"=true)
   (sj:PySem.W.keepIn K (.ref cq)=true)
   (qt:PySem.W.nsIn K mainGlobals "second_share"=some (some (.ref fJ)))
   (qr:K.lookup fJ=some ⟨oc_second_share,od_second_share,.func (PySem.W.fnOf "second_share" "second_share" (ax bj) (aw bj) (aa bj) .none EM Ej E6 ES vK EH),D9⟩)
   (qD:PySem.W.codeIn K vK "second_share"=true)
   (qM:PySem.W.keepIn K (.ref fJ)=true)
   (pH:PySem.W.nsIn K mainGlobals "second_shares"=some (some (.ref bJ)))
   (pX:K.lookup bJ=some ⟨oc_second_shares,od_second_shares,.func (PySem.W.fnOf "second_shares" "second_shares" (ax bI) (aw bI) (aa bI) .none Di DU CQ CY uo Dr),CS⟩)
   (pP:PySem.W.codeIn K uo "second_shares"=true)
   (oY:PySem.W.keepIn K (.ref bJ)=true)
   (wI:PySem.W.nsIn K mainGlobals "_law_below"=some (some (.ref jf)))
   (wa:K.lookup jf=some ⟨oc_law_below,od_law_below,.func (PySem.W.fnOf "_law_below" "_law_below" (ax b9) (aw b9) (aa b9) .none J6 KJ Jx IH Bl Lf),IY⟩)
   (wQ:PySem.W.codeIn K Bl "_law_below"=true)
   (xa:PySem.W.keepIn K (.ref jf)=true)
   (sV:PySem.W.nsIn K mainGlobals "_law_divided"=some (some (.ref dA)))
   (si:K.lookup dA=some ⟨oc_law_divided,od_law_divided,.func (PySem.W.fnOf "_law_divided" "_law_divided" (ax bC) (aw bC) (aa bC) .none Ga Fv F9 Fo xO Gb),Gd⟩)
   (sB:PySem.W.codeIn K xO "_law_divided"=true)
   (sh:PySem.W.keepIn K (.ref dA)=true)
   (uL:PySem.W.nsIn K mainGlobals "_law_beside"=some (some (.ref cF)))
   (uj:K.lookup cF=some ⟨oc_law_beside,od_law_beside,.func (PySem.W.fnOf "_law_beside" "_law_beside" (ax bS) (aw bS) (aa bS) .none HY HV Ia Hq zD HK),HC⟩)
   (vd:PySem.W.codeIn K zD "_law_beside"=true)
   (uT:PySem.W.keepIn K (.ref cF)=true)
   (qI:PySem.W.nsIn K mainGlobals "_law_gathered"=some (some (.ref fy)))
   (qV:K.lookup fy=some ⟨oc_law_gathered,od_law_gathered,.func (PySem.W.fnOf "_law_gathered" "_law_gathered" (ax aV) (aw aV) (aa aV) .none EX E9 Eb EL vG EG),Eh⟩)
   (qo:PySem.W.codeIn K vG "_law_gathered"=true)
   (qz:PySem.W.keepIn K (.ref fy)=true)
   (yP:PySem.W.nsIn K mainGlobals "_law_part"=some (some (.ref jW)))
   (yE:K.lookup jW=some ⟨oc_law_part,od_law_part,.func (PySem.W.fnOf "_law_part" "_law_part" (ax eI) (aw eI) (aa eI) .none LZ Mf MI Mt CD L0),LS⟩)
   (za:PySem.W.codeIn K CD "_law_part"=true)
   (zv:PySem.W.keepIn K (.ref jW)=true)
   (wp:PySem.W.nsIn K mainGlobals "_law_whole"=some (some (.ref eA)))
   (wO:K.lookup eA=some ⟨oc_law_whole,od_law_whole,.func (PySem.W.fnOf "_law_whole" "_law_whole" (ax cY) (aw cY) (aa cY) .none IA Jn Kt K7 Bj JE),Jr⟩)
   (vX:PySem.W.codeIn K Bj "_law_whole"=true)
   (wc:PySem.W.keepIn K (.ref eA)=true)
   (mF:PySem.W.nsIn K mainGlobals "_law_is_fraction"=some (some (.ref dH)))
   (mE:K.lookup dH=some ⟨oc_law_is_fraction,od_law_is_fraction,.func (PySem.W.fnOf "_law_is_fraction" "_law_is_fraction" (ax aR) (aw aR) (aa aR) .none AO Bn BH BI rM Bs),A5⟩)
   (mJ:PySem.W.codeIn K rM "_law_is_fraction"=true)
   (mH:PySem.W.keepIn K (.ref dH)=true)
   (pF:PySem.W.nsIn K mainGlobals "_law_fractions"=some (some (.ref eG)))
   (pB:K.lookup eG=some ⟨oc_law_fractions,od_law_fractions,.func (PySem.W.fnOf "_law_fractions" "_law_fractions" (ax bu) (aw bu) (aa bu) .none Dm C3 Da DT u5 Dt),Dq⟩)
   (oX:PySem.W.codeIn K u5 "_law_fractions"=true)
   (pR:PySem.W.keepIn K (.ref eG)=true)
   (wN:PySem.W.nsIn K mainGlobals "_law_ahead"=some (some (.ref jk)))
   (wu:K.lookup jk=some ⟨oc_law_ahead,od_law_ahead,.func (PySem.W.fnOf "_law_ahead" "_law_ahead" (ax bO) (aw bO) (aa bO) .none JD KR Kx IG Bp KC),Kl⟩)
   (wZ:PySem.W.codeIn K Bp "_law_ahead"=true)
   (wT:PySem.W.keepIn K (.ref jk)=true)
   (ul:PySem.W.nsIn K mainGlobals "_law_prices"=some (some (.ref hZ)))
   (uU:K.lookup hZ=some ⟨oc_law_prices,od_law_prices,.func (PySem.W.fnOf "_law_prices" "_law_prices" (ax bd) (aw bd) (aa bd) .none G3 Ie HD Ha zT G5),Hr⟩)
   (uS:PySem.W.codeIn K zT "_law_prices"=true)
   (uE:PySem.W.keepIn K (.ref hZ)=true)
   (Kw:PySem.W.nsIn K mainGlobals "less"=some (some (.ref mQ)))
   (Lw:K.lookup mQ=some ⟨oc_less,od_less,.func (PySem.W.fnOf "less" "less" (ax lQ) (aw lQ) (aa lQ) .none Wn We Vi Vz MZ Vv),VT⟩)
   (Lm:PySem.W.codeIn K MZ "less"=true)
   (Kh:PySem.W.keepIn K (.ref mQ)=true)
   (zi:PySem.W.nsIn K mainGlobals "is_below"=some (some (.ref fP)))
   (yH:K.lookup fP=some ⟨oc_is_below,od_is_below,.func (PySem.W.fnOf "is_below" "is_below" (ax dW) (aw dW) (aa dW) .none MC MD LU LX Cs Ml),Mg⟩)
   (y8:PySem.W.codeIn K Cs "is_below"=true)
   (yT:PySem.W.keepIn K (.ref fP)=true)
   (wX:PySem.W.nsIn K mainGlobals "are_sound"=some (some (.ref ja)))
   (wY:K.lookup ja=some ⟨oc_are_sound,od_are_sound,.func (PySem.W.fnOf "are_sound" "are_sound" (ax dC) (aw dC) (aa dC) .none K0 KA Ju Kc Aj Jt),Js⟩)
   (ww:PySem.W.codeIn K Aj "are_sound"=true)
   (wb:PySem.W.keepIn K (.ref ja)=true)
   (ug:PySem.W.nsIn K mainGlobals "divided_up"=some (some (.ref dR)))
   (uY:K.lookup dR=some ⟨oc_divided_up,od_divided_up,.func (PySem.W.fnOf "divided_up" "divided_up" (ax cH) (aw cH) (aa cH) .none He HG Hj HP zI Hi),Ii⟩)
   (u9:PySem.W.codeIn K zI "divided_up"=true)
   (uy:PySem.W.keepIn K (.ref dR)=true)
   (JC:PySem.W.nsIn K mainGlobals "kids"=some (some (.ref mT)))
   (Kb:K.lookup mT=some ⟨oc_kids,od_kids,.func (PySem.W.fnOf "kids" "kids" (ax iI) (aw iI) (aa iI) .none VD Vm V4 Wo Nr Vp),Wg⟩)
   (Ld:PySem.W.codeIn K Nr "kids"=true)
   (K8:PySem.W.keepIn K (.ref mT)=true)
   (FH:PySem.W.nsIn K mainGlobals "ahead"=some (some (.ref kH)))
   (F0:K.lookup kH=some ⟨oc_ahead,od_ahead,.func (PySem.W.fnOf "ahead" "ahead" (ax dN) (aw dN) (aa dN) .none T7 S5 R6 SS JJ T2),Tk⟩)
   (FV:PySem.W.codeIn K JJ "ahead"=true)
   (Gj:PySem.W.keepIn K (.ref kH)=true)
   (IE:PySem.W.nsIn K mainGlobals "down"=some (some (.ref uB)))
   (JK:K.lookup uB=some ⟨oc_down,od_down,.func (PySem.W.fnOf "down" "down" (ax ft) (aw ft) (aa ft) .none V6 Ve Wq Vl Nq Vs),Wm⟩)
   (Ji:PySem.W.codeIn K Nq "down"=true)
   (Ls:PySem.W.keepIn K (.ref uB)=true)
   (DK:PySem.W.nsIn K mainGlobals "inward"=some (some (.ref jg)))
   (DV:K.lookup jg=some ⟨oc_inward,od_inward,.func (PySem.W.fnOf "inward" "inward" (ax dJ) (aw dJ) (aa dJ) .none Q2 Qr Qq QC Gv QE),QU⟩)
   (DC:PySem.W.codeIn K Gv "inward"=true)
   (DW:PySem.W.keepIn K (.ref jg)=true)
   (wv:PySem.W.nsIn K mainGlobals "prices_to"=some (some (.ref jh)))
   (wV:K.lookup jh=some ⟨oc_prices_to,od_prices_to,.func (PySem.W.fnOf "prices_to" "prices_to" (ax cf) (aw cf) (aa cf) .none KY Lg Jo Lv AW Jp),JS⟩)
   (wn:PySem.W.codeIn K AW "prices_to"=true)
   (wg:PySem.W.keepIn K (.ref jh)=true)
   (FW:PySem.W.nsIn K mainGlobals "worth"=some (some (.ref qS)))
   (FR:K.lookup qS=some ⟨oc_worth,od_worth,.func (PySem.W.fnOf "worth" "worth" (ax g6) (aw g6) (aa g6) .none RF RT Uu Us Jv UN),SV⟩)
   (FQ:PySem.W.codeIn K Jv "worth"=true)
   (FS:PySem.W.keepIn K (.ref qS)=true)
   (sF:PySem.W.nsIn K mainGlobals "prices_from"=some (some (.ref gG)))
   (sN:K.lookup gG=some ⟨oc_prices_from,od_prices_from,.func (PySem.W.fnOf "prices_from" "prices_from" (ax bB) (aw bB) (aa bB) .none Gf Fh Fm Gh yh F8),Fy⟩)
   (sI:PySem.W.codeIn K yh "prices_from"=true)
   (sE:PySem.W.keepIn K (.ref gG)=true)
   (De:PySem.W.nsIn K mainGlobals "yields"=some (some (.ref nO)))
   (Dc:K.lookup nO=some ⟨oc_yields,od_yields,.func (PySem.W.fnOf "yields" "yields" (ax fF) (aw fF) (aa fF) .none Qx QH Qy QB GY Rc),Q6⟩)
   (DX:PySem.W.codeIn K GY "yields"=true)
   (DR:PySem.W.keepIn K (.ref nO)=true)
   (pJ:PySem.W.nsIn K mainGlobals "shows_fairest"=some (some (.ref eL)))
   (pM:K.lookup eL=some ⟨oc_shows_fairest,od_shows_fairest,.func (PySem.W.fnOf "shows_fairest" "shows_fairest" (ax aU) (aw aU) (aa aU) .none Db DN C1 DD ut DH),DM⟩)
   (pj:PySem.W.codeIn K ut "shows_fairest"=true)
   (oZ:PySem.W.keepIn K (.ref eL)=true)
   (wk:PySem.W.nsIn K mainGlobals "_law_shown"=some (some (.ref iY)))
   (vW:K.lookup iY=some ⟨oc_law_shown,od_law_shown,.func (PySem.W.fnOf "_law_shown" "_law_shown" (ax aQ) (aw aQ) (aa aQ) .none IK Lh Lx IT Ag JL),Ln⟩)
   (vZ:PySem.W.codeIn K Ag "_law_shown"=true)
   (wH:PySem.W.keepIn K (.ref iY)=true)
   (wS:PySem.W.nsIn K mainGlobals "_law_right"=some (some (.ref i9)))
   (xh:K.lookup i9=some ⟨oc_law_right,od_law_right,.func (PySem.W.fnOf "_law_right" "_law_right" (ax aH) (aw aH) (aa aH) .none JA JI JF JO A1 Km),Iz⟩)
   (wP:PySem.W.codeIn K A1 "_law_right"=true)
   (wM:PySem.W.keepIn K (.ref i9)=true)
   (yI:PySem.W.nsIn K mainGlobals "_law_stir"=some (some (.ref fS)))
   (yG:K.lookup fS=some ⟨oc_law_stir,od_law_stir,.func (PySem.W.fnOf "_law_stir" "_law_stir" (ax dZ) (aw dZ) (aa dZ) .none MF MW MT L4 CC Mc),L7⟩)
   (yX:PySem.W.codeIn K CC "_law_stir"=true)
   (yA:PySem.W.keepIn K (.ref fS)=true)
   (zt:PySem.W.nsIn K mainGlobals "_law_cell"=some (some (.ref j4)))
   (yL:K.lookup j4=some ⟨oc_law_cell,od_law_cell,.func (PySem.W.fnOf "_law_cell" "_law_cell" (ax eO) (aw eO) (aa eO) .none MU Mw LO Mz CG L9),MJ⟩)
   (yx:PySem.W.codeIn K CG "_law_cell"=true)
   (yN:PySem.W.keepIn K (.ref j4)=true)
   (zf:PySem.W.nsIn K mainGlobals "_law_take"=some (some (.ref fL)))
   (yM:K.lookup fL=some ⟨oc_law_take,od_law_take,.func (PySem.W.fnOf "_law_take" "_law_take" (ax dU) (aw dU) (aa dU) .none Ms Mm Mu LR Cj LV),Mo⟩)
   (yD:PySem.W.codeIn K Cj "_law_take"=true)
   (zh:PySem.W.keepIn K (.ref fL)=true)
   (y4:PySem.W.nsIn K mainGlobals "_law_toll"=some (some (.ref ke)))
   (zb:K.lookup ke=some ⟨oc_law_toll,od_law_toll,.func (PySem.W.fnOf "_law_toll" "_law_toll" (ax d3) (aw d3) (aa d3) .none ML MK LL Mj Cl LN),MP⟩)
   (yQ:PySem.W.codeIn K Cl "_law_toll"=true)
   (yY:PySem.W.keepIn K (.ref ke)=true)
   (wE:PySem.W.nsIn K mainGlobals "_law_roads"=some (some (.ref je)))
   (vY:K.lookup je=some ⟨oc_law_roads,od_law_roads,.func (PySem.W.fnOf "_law_roads" "_law_roads" (ax aJ) (aw aJ) (aa aJ) .none KD IL I0 KN A4 Lq),J5⟩)
   (wq:PySem.W.codeIn K A4 "_law_roads"=true)
   (wK:PySem.W.keepIn K (.ref je)=true)
   (AZ:PySem.W.nsIn K mainGlobals "_law_web"=some (some (.ref lY)))
   (Aw:K.lookup lY=some ⟨oc_law_web,od_law_web,.func (PySem.W.fnOf "_law_web" "_law_web" (ax c9) (aw c9) (aa c9) .none Pj NV Pg Oq Ev PV),Pe⟩)
   (Bt:PySem.W.codeIn K Ev "_law_web"=true)
   (AI:PySem.W.keepIn K (.ref lY)=true)
   (Br:PySem.W.nsIn K mainGlobals "fairest"=some (some (.ref lw)))
   (BD:K.lookup lw=some ⟨oc_fairest,od_fairest,.func (PySem.W.fnOf "fairest" "fairest" (ax c6) (aw c6) (aa c6) .none PJ OG NO NR En O3),Os⟩)
   (AB:PySem.W.codeIn K En "fairest"=true)
   (A3:PySem.W.keepIn K (.ref lw)=true)
   (Iq:PySem.W.nsIn K mainGlobals "law"=some (some (.ref Ot)))
   (OO:K.lookup Ot=some ⟨oc_law,od_law,.func (PySem.W.fnOf "law" "law" (ax cL) (aw cL) (aa cL) .none Q9 Q7 Qo QJ JB Qp),XA⟩)
   (Om:PySem.W.codeIn K JB "law"=true)
   (OS:PySem.W.keepIn K (.ref Ot)=true)
   (Jl:PySem.W.plainGet K pN Str.empty=true)
   (Ke:PySem.W.hasDictIn K pN=true)
   (Ko:PySem.W.plainOver K pN=true)
   (IQ:PySem.W.findIn K (.ref pN) "__setattr__"=some (some (.builtin "object.__setattr__")))
   (Kf:PySem.W.makesIn K pN=true)
   (Lj:PySem.W.keepIn K (.ref pN)=true)
   (Iy:PySem.W.findIn K (.ref pN) "many"=some none)
   (LA:PySem.W.findIn K (.ref pN) "roads"=some none)
   (z_range:PySem.W.nsIn K mainGlobals "range"=some none)
   (z_zip:PySem.W.nsIn K mainGlobals "zip"=some none)
   (z_len:PySem.W.nsIn K mainGlobals "len"=some none)
   (z_isinstance:PySem.W.nsIn K mainGlobals "isinstance"=some none)
   (z_all:PySem.W.nsIn K mainGlobals "all"=some none)
   (z_any:PySem.W.nsIn K mainGlobals "any"=some none)
   (z_int:PySem.W.nsIn K mainGlobals "int"=some none)
   (z_bool:PySem.W.nsIn K mainGlobals "bool"=some none)
   (z_tuple:PySem.W.nsIn K mainGlobals "tuple"=some none)
   (z_list:PySem.W.nsIn K mainGlobals "list"=some none)
   (z_reversed:PySem.W.nsIn K mainGlobals "reversed"=some none)
   (z_sorted:PySem.W.nsIn K mainGlobals "sorted"=some none)
   (z_min:PySem.W.nsIn K mainGlobals "min"=some none)
   (z_sum:PySem.W.nsIn K mainGlobals "sum"=some none)
   (z_str:PySem.W.nsIn K mainGlobals "str"=some none)
   (z_abs:PySem.W.nsIn K mainGlobals "abs"=some none)
   (v_MOST_PLACES:PySem.W.nsIn K mainGlobals "MOST_PLACES"=some (some (.int 24 t_MOST_PLACES)))
   (v_LEAST_TOLL:PySem.W.nsIn K mainGlobals "LEAST_TOLL"=some (some (.int 2 t_LEAST_TOLL)))
   (v_MOST_TOLL:PySem.W.nsIn K mainGlobals "MOST_TOLL"=some (some (.int 1000000 t_MOST_TOLL)))
   (CT:PySem.W.nsIn K mainGlobals "NOUGHT"=some (some (.ref Dz)))
   (Bo:K.lookup Dz=some ⟨.type "tuple",T9,.seq #[.int 0 Qg,.int 1 QG] Tc,SH⟩)
   (Od:PySem.W.nsIn K mainGlobals "ONE"=some (some (.ref Pp)))
   (Ky:K.lookup Pp=some ⟨.type "tuple",X3,.seq #[.int 1 WX,.int 1 Xx] XW,X2⟩) :
   ∃ fd:FuncData,(∀ (s:Shared) (v:Value),BindsTo s fd ⟨[v],[]⟩ [("script",v)])/\∀ base:Heap,K.In base->base.Ns mainGlobals mg->FnOk l.prog w K mg base (CXe l.prog w) 29 fa fd ["script"] (Iu K):=by
 have e:=hfa.symm.trans (PySem.W.mg_of X G Iq);cases e
 let T:Txt K mg:=⟨KH,PySem.W.mg_of X G Bm,vB,PySem.W.mg_of X G zx,zg,PySem.W.mg_of X G Bg,pN,PySem.W.mg_of X G Ly,Nn _ _ _ _ _ _ _ _ _ _ _ _ _ _ _ _ zq yO zc y3 zz,Nn _ _ _ _ _ _ _ _ _ _ _ _ _ _ _ _ BC A2 AF AM Bh,PySem.W.mg_none_of X G z_range,PySem.W.mg_none_of X G z_zip,PySem.W.mg_none_of X G z_len,PySem.W.mg_none_of X G z_isinstance,PySem.W.mg_none_of X G z_all,PySem.W.mg_none_of X G z_any,PySem.W.mg_none_of X G z_int,PySem.W.mg_none_of X G z_bool,PySem.W.mg_none_of X G z_tuple,PySem.W.mg_none_of X G z_list,PySem.W.mg_none_of X G z_reversed,PySem.W.mg_none_of X G z_sorted,PySem.W.mg_none_of X G z_min,PySem.W.mg_none_of X G z_sum,PySem.W.mg_none_of X G z_str,PySem.W.mg_none_of X G z_abs,⟨_,PySem.W.mg_of X G v_MOST_PLACES⟩,⟨_,PySem.W.mg_of X G v_LEAST_TOLL⟩,⟨_,PySem.W.mg_of X G v_MOST_TOLL⟩,Dz,PySem.W.mg_of X G CT,U9 Bo,Pp,PySem.W.mg_of X G Od,U9 Ky,⟨Jl,Ke,Ko,IQ⟩,Iy,LA⟩
 have F_check_counts:=aG (st:=bP) qJ rj qw;have b_check_counts:=F_check_counts.binds (ps:=["many","roads"]) fun _ _ _ _ _ _ us hl=>by obtain ⟨u0,u1,rfl⟩:=us2 hl;rfl
 have gY:Df K mg "check_counts" bP ["many","roads"] fC _:=⟨F_check_counts,PySem.W.mg_of X G qO,b_check_counts⟩;have F_is_place:=aG (st:=eJ) yS yV zj;have b_is_place:=F_is_place.binds (ps:=["many","number"]) fun _ _ _ _ _ _ us hl=>by obtain ⟨u0,u1,rfl⟩:=us2 hl;rfl
 have df:Df K mg "is_place" eJ ["many","number"] fM _:=⟨F_is_place,PySem.W.mg_of X G zn,b_is_place⟩;have F_check_ends:=aG (st:=cW) u8 uG uw;have b_check_ends:=F_check_ends.binds (ps:=["many","road"]) fun _ _ _ _ _ _ us hl=>by obtain ⟨u0,u1,rfl⟩:=us2 hl;rfl
 have jL:Df K mg "check_ends" cW ["many","road"] ic _:=⟨F_check_ends,PySem.W.mg_of X G uW,b_check_ends⟩;have F_other_ends:=aG (st:=cJ) uQ uD vg;have b_other_ends:=F_other_ends.binds (ps:=["roads","place"]) fun _ _ _ _ _ _ us hl=>by obtain ⟨u0,u1,rfl⟩:=us2 hl;rfl
 have dk:Df K mg "other_ends" cJ ["roads","place"] dP _:=⟨F_other_ends,PySem.W.mg_of X G uu,b_other_ends⟩;have F_check_joined:=aG (st:=ba) qX q8 qu;have b_check_joined:=F_check_joined.binds (ps:=["many","roads"]) fun _ _ _ _ _ _ us hl=>by obtain ⟨u0,u1,rfl⟩:=us2 hl;rfl
 have g9:Df K mg "check_joined" ba ["many","roads"] fE _:=⟨F_check_joined,PySem.W.mg_of X G qK,b_check_joined⟩;have F_check_tolls:=aG (st:=ck) sM sP sy;have b_check_tolls:=F_check_tolls.binds (ps:=["road"]) fun _ _ _ _ _ _ us hl=>by obtain ⟨u0,rfl⟩:=us1 hl;rfl
 have iz:Df K mg "check_tolls" ck ["road"] gH _:=⟨F_check_tolls,PySem.W.mg_of X G sT,b_check_tolls⟩;have F_Web___init__:=aG (st:=bc) qN q9 re;have b_Web:=F_Web___init__.binds (ps:=["self","many","roads"]) fun _ _ _ _ _ _ us hl=>by obtain ⟨u0,u1,u2,rfl⟩:=us3 hl;rfl
 have F_law_tolls:=aG (st:=cM) wC wt wx;have b_law_tolls:=F_law_tolls.binds (ps:=["roads"]) fun _ _ _ _ _ _ us hl=>by obtain ⟨u0,rfl⟩:=us1 hl;rfl
 have kK:Df K mg "_law_tolls" cM ["roads"] iZ _:=⟨F_law_tolls,PySem.W.mg_of X G wm,b_law_tolls⟩;have F_law_cells:=aG (st:=ce) wJ wU wz;have b_law_cells:=F_law_cells.binds (ps:=["script","many"]) fun _ _ _ _ _ _ us hl=>by obtain ⟨u0,u1,rfl⟩:=us2 hl;rfl
 have dQ:Df K mg "_law_cells" ce ["script","many"] eC _:=⟨F_law_cells,PySem.W.mg_of X G we,b_law_cells⟩;have F_common_divisor:=aG (st:=bw) oq nS nV;have b_common_divisor:=F_common_divisor.binds (ps:=["one","two"]) fun _ _ _ _ _ _ us hl=>by obtain ⟨u0,u1,rfl⟩:=us2 hl;rfl
 have bU:Df K mg "common_divisor" bw ["one","two"] cA _:=⟨F_common_divisor,PySem.W.mg_of X G nG,b_common_divisor⟩;have F_fraction:=aG (st:=dg) yW zr y9;have b_fraction:=F_fraction.binds (ps:=["top","bottom"]) fun _ _ _ _ _ _ us hl=>by obtain ⟨u0,u1,rfl⟩:=us2 hl;rfl
 have cC:Df K mg "fraction" dg ["top","bottom"] dD _:=⟨F_fraction,PySem.W.mg_of X G ze,b_fraction⟩;have F_sum_up:=aG (st:=cU) CV CZ C2;have b_sum_up:=F_sum_up.binds (ps:=["some"]) fun _ _ _ _ _ _ us hl=>by obtain ⟨u0,rfl⟩:=us1 hl;rfl
 have bi:Df K mg "sum_up" cU ["some"] cT _:=⟨F_sum_up,PySem.W.mg_of X G DJ,b_sum_up⟩;have F_plus:=aG (st:=lP) KL LD Lb;have b_plus:=F_plus.binds (ps:=["one","two"]) fun _ _ _ _ _ _ us hl=>by obtain ⟨u0,u1,rfl⟩:=us2 hl;rfl
 have xV:Df K mg "plus" lP ["one","two"] va _:=⟨F_plus,PySem.W.mg_of X G JV,b_plus⟩;have F_minus:=aG (st:=iy) FN FI Fj;have b_minus:=F_minus.binds (ps:=["one","two"]) fun _ _ _ _ _ _ us hl=>by obtain ⟨u0,u1,rfl⟩:=us2 hl;rfl
 have jO:Df K mg "minus" iy ["one","two"] kI _:=⟨F_minus,PySem.W.mg_of X G FU,b_minus⟩;have F_check_place:=aG (st:=bQ) sK sg sG;have b_check_place:=F_check_place.binds (ps:=["web","number"]) fun _ _ _ _ _ _ us hl=>by obtain ⟨u0,u1,rfl⟩:=us2 hl;rfl
 have aY:Df K mg "check_place" bQ ["web","number"] cj _:=⟨F_check_place,PySem.W.mg_of X G sR,b_check_place⟩;have F_neighbours:=aG (st:=bW) uv uf t7;have b_neighbours:=F_neighbours.binds (ps:=["web","a"]) fun _ _ _ _ _ _ us hl=>by obtain ⟨u0,u1,rfl⟩:=us2 hl;rfl
 have bN:Df K mg "neighbours" bW ["web","a"] cG _:=⟨F_neighbours,PySem.W.mg_of X G ud,b_neighbours⟩;have F_road_part:=aG (st:=dz) wA wG wy;have b_road_part:=F_road_part.binds (ps:=["one","other"]) fun _ _ _ _ _ _ us hl=>by obtain ⟨u0,u1,rfl⟩:=us2 hl;rfl
 have dS:Df K mg "road_part" dz ["one","other"] eB _:=⟨F_road_part,PySem.W.mg_of X G xc,b_road_part⟩;have F_toll:=aG (st:=d8) LF JX IC;have b_toll:=F_toll.binds (ps:=["web","a","b"]) fun _ _ _ _ _ _ us hl=>by obtain ⟨u0,u1,u2,rfl⟩:=us3 hl;rfl
 have cD:Df K mg "toll" d8 ["web","a","b"] gJ _:=⟨F_toll,PySem.W.mg_of X G Kz,b_toll⟩;have F_even_share:=aG (st:=bL) ua uF uX;have b_even_share:=F_even_share.binds (ps:=["web","place"]) fun _ _ _ _ _ _ us hl=>by obtain ⟨u0,u1,rfl⟩:=us2 hl;rfl
 have jQ:Df K mg "even_share" bL ["web","place"] ig _:=⟨F_even_share,PySem.W.mg_of X G uM,b_even_share⟩;have F_even_shares:=aG (st:=ci) sx sS sj;have b_even_shares:=F_even_shares.binds (ps:=["web"]) fun _ _ _ _ _ _ us hl=>by obtain ⟨u0,rfl⟩:=us1 hl;rfl
 have bD:Df K mg "even_shares" ci ["web"] cq _:=⟨F_even_shares,PySem.W.mg_of X G sO,b_even_shares⟩;have F_second_share:=aG (st:=bj) qr qD qM;have b_second_share:=F_second_share.binds (ps:=["web","place"]) fun _ _ _ _ _ _ us hl=>by obtain ⟨u0,u1,rfl⟩:=us2 hl;rfl
 have gX:Df K mg "second_share" bj ["web","place"] fJ _:=⟨F_second_share,PySem.W.mg_of X G qt,b_second_share⟩;have F_second_shares:=aG (st:=bI) pX pP oY;have b_second_shares:=F_second_shares.binds (ps:=["web"]) fun _ _ _ _ _ _ us hl=>by obtain ⟨u0,rfl⟩:=us1 hl;rfl
 have aZ:Df K mg "second_shares" bI ["web"] bJ _:=⟨F_second_shares,PySem.W.mg_of X G pH,b_second_shares⟩;have F_law_below:=aG (st:=b9) wa wQ xa;have b_law_below:=F_law_below.binds (ps:=["web","many"]) fun _ _ _ _ _ _ us hl=>by obtain ⟨u0,u1,rfl⟩:=us2 hl;rfl
 have kJ:Df K mg "_law_below" b9 ["web","many"] jf _:=⟨F_law_below,PySem.W.mg_of X G wI,b_law_below⟩;have F_law_divided:=aG (st:=bC) si sB sh;have b_law_divided:=F_law_divided.binds (ps:=["shares","prices"]) fun _ _ _ _ _ _ us hl=>by obtain ⟨u0,u1,rfl⟩:=us2 hl;rfl
 have bR:Df K mg "_law_divided" bC ["shares","prices"] dA _:=⟨F_law_divided,PySem.W.mg_of X G sV,b_law_divided⟩;have F_law_beside:=aG (st:=bS) uj vd uT;have b_law_beside:=F_law_beside.binds (ps:=["many","tolls","place"]) fun _ _ _ _ _ _ us hl=>by obtain ⟨u0,u1,u2,rfl⟩:=us3 hl;rfl
 have cI:Df K mg "_law_beside" bS ["many","tolls","place"] cF _:=⟨F_law_beside,PySem.W.mg_of X G uL,b_law_beside⟩;have F_law_gathered:=aG (st:=aV) qV qo qz;have b_law_gathered:=F_law_gathered.binds (ps:=["many","tolls","laying","r","above"]) fun _ _ _ _ _ _ us hl=>by obtain ⟨u0,u1,u2,u3,u4,rfl⟩:=us5 hl;rfl
 have D_law_gathered:Df K mg "_law_gathered" aV ["many","tolls","laying","r","above"] fy _:=⟨F_law_gathered,PySem.W.mg_of X G qI,b_law_gathered⟩;have F_law_part:=aG (st:=eI) yE za zv;have b_law_part:=F_law_part.binds (ps:=["one","other"]) fun _ _ _ _ _ _ us hl=>by obtain ⟨u0,u1,rfl⟩:=us2 hl;rfl
 have mw:Df K mg "_law_part" eI ["one","other"] jW _:=⟨F_law_part,PySem.W.mg_of X G yP,b_law_part⟩;have F_law_whole:=aG (st:=cY) wO vX wc;have b_law_whole:=F_law_whole.binds (ps:=["found"]) fun _ _ _ _ _ _ us hl=>by obtain ⟨u0,rfl⟩:=us1 hl;rfl
 have cK:Df K mg "_law_whole" cY ["found"] eA _:=⟨F_law_whole,PySem.W.mg_of X G wp,b_law_whole⟩;have F_law_is_fraction:=aG (st:=aR) mE mJ mH;have b_law_is_fraction:=F_law_is_fraction.binds (ps:=["found"]) fun _ _ _ _ _ _ us hl=>by obtain ⟨u0,rfl⟩:=us1 hl;rfl
 have eT:Df K mg "_law_is_fraction" aR ["found"] dH _:=⟨F_law_is_fraction,PySem.W.mg_of X G mF,b_law_is_fraction⟩;have F_law_fractions:=aG (st:=bu) pB oX pR;have b_law_fractions:=F_law_fractions.binds (ps:=["found","many"]) fun _ _ _ _ _ _ us hl=>by obtain ⟨u0,u1,rfl⟩:=us2 hl;rfl
 have dc:Df K mg "_law_fractions" bu ["found","many"] eG _:=⟨F_law_fractions,PySem.W.mg_of X G pF,b_law_fractions⟩;have F_law_ahead:=aG (st:=bO) wu wZ wT;have b_law_ahead:=F_law_ahead.binds (ps:=["many","tolls","r"]) fun _ _ _ _ _ _ us hl=>by obtain ⟨u0,u1,u2,rfl⟩:=us3 hl;rfl
 have kL:Df K mg "_law_ahead" bO ["many","tolls","r"] jk _:=⟨F_law_ahead,PySem.W.mg_of X G wN,b_law_ahead⟩;have F_law_prices:=aG (st:=bd) uU uS uE;have b_law_prices:=F_law_prices.binds (ps:=["many","tolls","v","to"]) fun _ _ _ _ _ _ us hl=>by obtain ⟨u0,u1,u2,u3,rfl⟩:=us4 hl;rfl
 have eD:Df K mg "_law_prices" bd ["many","tolls","v","to"] hZ _:=⟨F_law_prices,PySem.W.mg_of X G ul,b_law_prices⟩;have F_less:=aG (st:=lQ) Lw Lm Kh;have b_less:=F_less.binds (ps:=["one","two"]) fun _ _ _ _ _ _ us hl=>by obtain ⟨u0,u1,rfl⟩:=us2 hl;rfl
 have iK:Df K mg "less" lQ ["one","two"] mQ _:=⟨F_less,PySem.W.mg_of X G Kw,b_less⟩;have F_is_below:=aG (st:=dW) yH y8 yT;have b_is_below:=F_is_below.binds (ps:=["share"]) fun _ _ _ _ _ _ us hl=>by obtain ⟨u0,rfl⟩:=us1 hl;rfl
 have dh:Df K mg "is_below" dW ["share"] fP _:=⟨F_is_below,PySem.W.mg_of X G zi,b_is_below⟩;have F_are_sound:=aG (st:=dC) wY ww wb;have b_are_sound:=F_are_sound.binds (ps:=["web","shares"]) fun _ _ _ _ _ _ us hl=>by obtain ⟨u0,u1,rfl⟩:=us2 hl;rfl
 have fN:Df K mg "are_sound" dC ["web","shares"] ja _:=⟨F_are_sound,PySem.W.mg_of X G wX,b_are_sound⟩;have F_divided_up:=aG (st:=cH) uY u9 uy;have b_divided_up:=F_divided_up.binds (ps:=["shares","prices"]) fun _ _ _ _ _ _ us hl=>by obtain ⟨u0,u1,rfl⟩:=us2 hl;rfl
 have dw:Df K mg "divided_up" cH ["shares","prices"] dR _:=⟨F_divided_up,PySem.W.mg_of X G ug,b_divided_up⟩;have F_kids:=aG (st:=iI) Kb Ld K8;have b_kids:=F_kids.binds (ps:=["web","place","front"]) fun _ _ _ _ _ _ us hl=>by obtain ⟨u0,u1,u2,rfl⟩:=us3 hl;rfl
 have lA:Df K mg "kids" iI ["web","place","front"] mT _:=⟨F_kids,PySem.W.mg_of X G JC,b_kids⟩;have F_ahead:=aG (st:=dN) F0 FV Gj;have b_ahead:=F_ahead.binds (ps:=["web","r"]) fun _ _ _ _ _ _ us hl=>by obtain ⟨u0,u1,rfl⟩:=us2 hl;rfl
 have jC:Df K mg "ahead" dN ["web","r"] kH _:=⟨F_ahead,PySem.W.mg_of X G FH,b_ahead⟩;have F_down:=aG (st:=ft) JK Ji Ls;have b_down:=F_down.binds (ps:=["web","r"]) fun _ _ _ _ _ _ us hl=>by obtain ⟨u0,u1,rfl⟩:=us2 hl;rfl
 have xP:Df K mg "down" ft ["web","r"] uB _:=⟨F_down,PySem.W.mg_of X G IE,b_down⟩;have F_inward:=aG (st:=dJ) DV DC DW;have b_inward:=F_inward.binds (ps:=["web","r"]) fun _ _ _ _ _ _ us hl=>by obtain ⟨u0,u1,rfl⟩:=us2 hl;rfl
 have hG:Df K mg "inward" dJ ["web","r"] jg _:=⟨F_inward,PySem.W.mg_of X G DK,b_inward⟩;have F_prices_to:=aG (st:=cf) wV wn wg;have b_prices_to:=F_prices_to.binds (ps:=["web","v"]) fun _ _ _ _ _ _ us hl=>by obtain ⟨u0,u1,rfl⟩:=us2 hl;rfl
 have kF:Df K mg "prices_to" cf ["web","v"] jh _:=⟨F_prices_to,PySem.W.mg_of X G wv,b_prices_to⟩;have F_worth:=aG (st:=g6) FR FQ FS;have b_worth:=F_worth.binds (ps:=["web","shares","v"]) fun _ _ _ _ _ _ us hl=>by obtain ⟨u0,u1,u2,rfl⟩:=us3 hl;rfl
 have tU:Df K mg "worth" g6 ["web","shares","v"] qS _:=⟨F_worth,PySem.W.mg_of X G FW,b_worth⟩;have F_prices_from:=aG (st:=bB) sN sI sE;have b_prices_from:=F_prices_from.binds (ps:=["web","u"]) fun _ _ _ _ _ _ us hl=>by obtain ⟨u0,u1,rfl⟩:=us2 hl;rfl
 have iB:Df K mg "prices_from" bB ["web","u"] gG _:=⟨F_prices_from,PySem.W.mg_of X G sF,b_prices_from⟩;have F_yields:=aG (st:=fF) Dc DX DR;have b_yields:=F_yields.binds (ps:=["web","shares","u"]) fun _ _ _ _ _ _ us hl=>by obtain ⟨u0,u1,u2,rfl⟩:=us3 hl;rfl
 have qv:Df K mg "yields" fF ["web","shares","u"] nO _:=⟨F_yields,PySem.W.mg_of X G De,b_yields⟩;have F_shows_fairest:=aG (st:=aU) pM pj oZ;have b_shows_fairest:=F_shows_fairest.binds (ps:=["web","shares","second"]) fun _ _ _ _ _ _ us hl=>by obtain ⟨u0,u1,u2,rfl⟩:=us3 hl;rfl
 have f7:Df K mg "shows_fairest" aU ["web","shares","second"] eL _:=⟨F_shows_fairest,PySem.W.mg_of X G pJ,b_shows_fairest⟩;have F_law_shown:=aG (st:=aQ) vW vZ wH;have b_law_shown:=F_law_shown.binds (ps:=["web","many","tolls","shares","second"]) fun _ _ _ _ _ _ us hl=>by obtain ⟨u0,u1,u2,u3,u4,rfl⟩:=us5 hl;rfl
 have kM:Df K mg "_law_shown" aQ ["web","many","tolls","shares","second"] iY _:=⟨F_law_shown,PySem.W.mg_of X G wk,b_law_shown⟩;have F_law_right:=aG (st:=aH) xh wP wM;have b_law_right:=F_law_right.binds (ps:=["web","many","tolls","laying","found"]) fun _ _ _ _ _ _ us hl=>by obtain ⟨u0,u1,u2,u3,u4,rfl⟩:=us5 hl;rfl
 have kE:Df K mg "_law_right" aH ["web","many","tolls","laying","found"] i9 _:=⟨F_law_right,PySem.W.mg_of X G wS,b_law_right⟩;have F_law_stir:=aG (st:=dZ) yG yX yA;have b_law_stir:=F_law_stir.binds (ps:=["cell","k"]) fun _ _ _ _ _ _ us hl=>by obtain ⟨u0,u1,rfl⟩:=us2 hl;rfl
 have di:Df K mg "_law_stir" dZ ["cell","k"] fS _:=⟨F_law_stir,PySem.W.mg_of X G yI,b_law_stir⟩;have F_law_cell:=aG (st:=eO) yL yx yN;have b_law_cell:=F_law_cell.binds (ps:=["script","k"]) fun _ _ _ _ _ _ us hl=>by obtain ⟨u0,u1,rfl⟩:=us2 hl;rfl
 have mi:Df K mg "_law_cell" eO ["script","k"] j4 _:=⟨F_law_cell,PySem.W.mg_of X G zt,b_law_cell⟩;have F_law_take:=aG (st:=dU) yM yD zh;have b_law_take:=F_law_take.binds (ps:=["pot","n"]) fun _ _ _ _ _ _ us hl=>by obtain ⟨u0,u1,rfl⟩:=us2 hl;rfl
 have aM:Df K mg "_law_take" dU ["pot","n"] fL _:=⟨F_law_take,PySem.W.mg_of X G zf,b_law_take⟩;have F_law_toll:=aG (st:=d3) zb yQ yY;have b_law_toll:=F_law_toll.binds (ps:=["pot","small"]) fun _ _ _ _ _ _ us hl=>by obtain ⟨u0,u1,rfl⟩:=us2 hl;rfl
 have gQ:Df K mg "_law_toll" d3 ["pot","small"] ke _:=⟨F_law_toll,PySem.W.mg_of X G y4,b_law_toll⟩;have F_law_roads:=aG (st:=aJ) vY wq wK;have b_law_roads:=F_law_roads.binds (ps:=["cells","first"]) fun _ _ _ _ _ _ us hl=>by obtain ⟨u0,u1,rfl⟩:=us2 hl;rfl
 have kG:Df K mg "_law_roads" aJ ["cells","first"] je _:=⟨F_law_roads,PySem.W.mg_of X G wE,b_law_roads⟩;have F_law_web:=aG (st:=c9) Aw Bt AI;have b_law_web:=F_law_web.binds (ps:=["script","sizes"]) fun _ _ _ _ _ _ us hl=>by obtain ⟨u0,u1,rfl⟩:=us2 hl;rfl
 have oA:Df K mg "_law_web" c9 ["script","sizes"] lY _:=⟨F_law_web,PySem.W.mg_of X G AZ,b_law_web⟩;have F_fairest:=aG (st:=c6) BD AB A3;have b_fairest:=F_fairest.binds (ps:=["web"]) fun _ _ _ _ _ _ us hl=>by obtain ⟨u0,rfl⟩:=us1 hl;rfl
 have iQ:Df K mg "fairest" c6 ["web"] lw _:=⟨F_fairest,PySem.W.mg_of X G Br,b_fairest⟩;have F_law:=aG (st:=cL) OO Om OS;have b_law:=F_law.binds (ps:=["script"]) fun _ _ _ _ _ _ us hl=>by obtain ⟨u0,rfl⟩:=us1 hl;rfl
 have XX:Df K mg "law" cL ["script"] fa _:=⟨F_law,PySem.W.mg_of X G Iq,b_law⟩;refine ⟨PySem.W.fnOf "law" "law" (ax cL) (aw cL) (aa cL) .none Q9 Q7 Qo QJ JB Qp,fun s v=>.of_eq rfl,fun base _ _=>?_⟩;have PH:Mk K T.Web f_Web___init__:=⟨Kf,rh,qU,Lj⟩;have G_check_counts:=Eo (P:=l.prog) (w:=w) (base:=base) T aF gY;have G_is_place:=LQ (P:=l.prog) (w:=w) (base:=base) T aF df;have G_check_ends:=HE (P:=l.prog) (w:=w) (base:=base) T aF jL df G_is_place;have G_other_ends:=HQ (P:=l.prog) (w:=w) (base:=base) T aF dk;have G_check_joined:=Ew (P:=l.prog) (w:=w) (base:=base) T aF g9 dk G_other_ends;have G_check_tolls:=Fn (P:=l.prog) (w:=w) (base:=base) T aF iz;have G_Web_init:=EJ (P:=l.prog) (w:=w) (base:=base) T aF F_Web___init__ gY G_check_counts jL G_check_ends g9 G_check_joined iz G_check_tolls;have G_law_tolls:=KU (P:=l.prog) (w:=w) (base:=base) T aF kK;have G_law_cells:=Kk (P:=l.prog) (w:=w) (base:=base) T aF dQ;have G_common_divisor:=B5 (P:=l.prog) (w:=w) (base:=base) T aF bU;have G_fraction:=LG (P:=l.prog) (w:=w) (base:=base) T aF cC bU G_common_divisor;have G_sum_up:=Q8 (P:=l.prog) (w:=w) (base:=base) T aF bi bU G_common_divisor cC G_fraction;have G_plus:=Vt (P:=l.prog) (w:=w) (base:=base) T aF xV bi G_sum_up;have G_minus:=Ub (P:=l.prog) (w:=w) (base:=base) T aF jO xV G_plus;have G_check_place:=F5 (P:=l.prog) (w:=w) (base:=base) T aF aY df G_is_place;have G_neighbours:=Hg (P:=l.prog) (w:=w) (base:=base) T aF bN aY G_check_place dk G_other_ends;have G_road_part:=KM (P:=l.prog) (w:=w) (base:=base) T aF dS cC G_fraction;have G_toll:=Wk (P:=l.prog) (w:=w) (base:=base) T aF cD aY G_check_place;have G_even_share:=Hv (P:=l.prog) (w:=w) (base:=base) T aF jQ jO G_minus bN G_neighbours dS G_road_part bi G_sum_up cD G_toll;have G_even_shares:=Ft (P:=l.prog) (w:=w) (base:=base) T aF bD jQ G_even_share;have G_second_share:=Fc (P:=l.prog) (w:=w) (base:=base) T aF gX jO G_minus bN G_neighbours dS G_road_part bi G_sum_up cD G_toll;have G_second_shares:=C0 (P:=l.prog) (w:=w) (base:=base) T aF aZ gX G_second_share;have G_law_below:=J7 (P:=l.prog) (w:=w) (base:=base) T aF kJ bD G_even_shares aZ G_second_shares;have G_law_divided:=FA (P:=l.prog) (w:=w) (base:=base) T aF bR;have G_law_beside:=HN (P:=l.prog) (w:=w) (base:=base) T aF cI;have G_law_gathered:=D3 (P:=l.prog) (w:=w) (base:=base) T aF D_law_gathered cI G_law_beside;have G_law_part:=MN (P:=l.prog) (w:=w) (base:=base) T aF mw;have G_law_whole:=JT (P:=l.prog) (w:=w) (base:=base) T aF cK;have G_law_is_fraction:=An (P:=l.prog) (w:=w) (base:=base) T aF eT mw G_law_part cK G_law_whole;have G_law_fractions:=Dh (P:=l.prog) (w:=w) (base:=base) T aF dc eT G_law_is_fraction;have G_law_ahead:=KW (P:=l.prog) (w:=w) (base:=base) T aF kL cI G_law_beside;have G_law_prices:=HR (P:=l.prog) (w:=w) (base:=base) T aF eD kL G_law_ahead;have G_less:=V3 (P:=l.prog) (w:=w) (base:=base) T aF iK;have G_is_below:=MM (P:=l.prog) (w:=w) (base:=base) T aF dh iK G_less;have G_are_sound:=K5 (P:=l.prog) (w:=w) (base:=base) T aF fN dh G_is_below;have G_divided_up:=G8 (P:=l.prog) (w:=w) (base:=base) T aF dw cC G_fraction bi G_sum_up;have G_kids:=VR (P:=l.prog) (w:=w) (base:=base) T aF lA bN G_neighbours;have G_ahead:=Sv (P:=l.prog) (w:=w) (base:=base) T aF jC aY G_check_place lA G_kids;have G_down:=V7 (P:=l.prog) (w:=w) (base:=base) T aF xP jC G_ahead lA G_kids;have G_inward:=QD (P:=l.prog) (w:=w) (base:=base) T aF hG jC G_ahead xP G_down;have G_prices_to:=Lz (P:=l.prog) (w:=w) (base:=base) T aF kF hG G_inward cD G_toll;have G_worth:=RD (P:=l.prog) (w:=w) (base:=base) T aF tU dw G_divided_up kF G_prices_to;have G_prices_from:=Ff (P:=l.prog) (w:=w) (base:=base) T aF iB hG G_inward cD G_toll;have G_yields:=Qd (P:=l.prog) (w:=w) (base:=base) T aF qv dw G_divided_up iB G_prices_from;have G_shows_fairest:=C6 (P:=l.prog) (w:=w) (base:=base) T aF f7 fN G_are_sound iK G_less bi G_sum_up tU G_worth qv G_yields;have G_law_shown:=Ki (P:=l.prog) (w:=w) (base:=base) T aF kM bR G_law_divided dc G_law_fractions eD G_law_prices bD G_even_shares aZ G_second_shares f7 G_shows_fairest;have G_law_right:=J0 (P:=l.prog) (w:=w) (base:=base) T aF kE kJ G_law_below bR G_law_divided D_law_gathered G_law_gathered kM G_law_shown cK G_law_whole;have G_law_stir:=MB (P:=l.prog) (w:=w) (base:=base) T aF di;have G_law_cell:=LM (P:=l.prog) (w:=w) (base:=base) T aF mi;have G_law_take:=MO (P:=l.prog) (w:=w) (base:=base) T aF aM;have G_law_toll:=Mi (P:=l.prog) (w:=w) (base:=base) T aF gQ aM G_law_take;have G_law_roads:=KP (P:=l.prog) (w:=w) (base:=base) T aF kG di G_law_stir aM G_law_take gQ G_law_toll;have G_law_web:=NY (P:=l.prog) (w:=w) (base:=base) T aF oA mi G_law_cell dQ G_law_cells kG G_law_roads;have G_fairest:=Ov (P:=l.prog) (w:=w) (base:=base) T aF iQ bD G_even_shares dh G_is_below aZ G_second_shares;have G_law:=WR (P:=l.prog) (w:=w) (base:=base) T aF XX F_Web___init__ b_Web PH G_Web_init dQ G_law_cells kE G_law_right di G_law_stir kK G_law_tolls oA G_law_web iQ G_fairest;exact G_law
theorem walk {l:PySem.W.OpenLaw} {q:Program} {loose:List Str} {XP:(Str->Option Value)->Heap->Prop} {YP:World->Heap->Prop} {d:DefRec} {K:Params->PySem.W.Frag} (hn:l.most=some 63) (hdf:d.params.defaults=[])
   (hY:∀ (w:World) (h:Heap),YP w h->(K w.params).In h)
   (F:∀ (w:World) (mg:Str->Option Value) (fa:Addr) (h:Heap),(K w.params).In h->h.Ns mainGlobals mg->mg d.name=some (.ref fa) ->
     ∃ fd:FuncData,(∀ (s:Shared) (u:Value),BindsTo s fd ⟨[u],[]⟩ [("script",u)])/\∀ base:Heap,(K w.params).In base->base.Ns mainGlobals mg->FnOk l.prog w (K w.params) mg base (CXe l.prog w) 29 fa fd ["script"] (Iu (K w.params))) :
   PySem.W.WalkO q loose XP YP l.row.toRowW d [] (fun f vs=>PySem.call f vs) :=
 L2.walk_of (n:=63) (k:=29) (x:="script") (CX:=fun w=>(CXe l.prog w)) (sp:=fun w=>Iu (K w.params)) hn (by decide) hdf ⟨rfl,by decide,by decide⟩ hY F (fun _ _ a ns hl _ hS=>⟨a,ns,rfl,hS,hl,fun _=>rfl⟩) fun _ _ _ _ _ z=>aF _ _ _ _ _ z
end Pk
open PySem PySem.W PyProof.Rows
set_option maxRecDepth 100000 in
set_option maxHeartbeats 0 in
theorem PySem.Challenge.cw_pebbletoll_k55_whole_fairest_shares_holds : PySem.Challenge.rw_pebbletoll_k55_whole_fairest_shares.Holds := by
 w_on;o_law
 refine PySem.W.holds_open (q:=Hd.qq) (loose:=[]) (Xt:=(fun s=>PySem.W.xlAt Hd.qq [] s && PySem.W.recOk (PySem.W.RowW.records (PySem.W.OpenRow.toRowW (PySem.Challenge.rw_pebbletoll_k55_whole_fairest_shares).row)) s)) (XP:=PySem.W.XL Hd.qq []) (Yf:=PySem.W.Hook.obs (PySem.W.kHook Hd.KK Hd.asK Hd.asK_eq)) (Ya:=PySem.W.Hook.val (PySem.W.kHook Hd.KK Hd.asK Hd.asK_eq)) (YP:=PySem.W.Hook.says (PySem.W.kHook Hd.KK Hd.asK Hd.asK_eq)) (N:=5676) Hd.left (PySem.W.Hook.of (PySem.W.kHook Hd.KK Hd.asK Hd.asK_eq)) (PySem.W.Hook.keeps (PySem.W.kHook Hd.KK Hd.asK Hd.asK_eq)) (fun s e=>PySem.W.xl_of s (Bool.and_eq_true_iff.mp e).1) PySem.W.XL.keeps (by rfl) (by rfl) (by rfl) (fun s e=>PySem.W.recFacts_of (Bool.and_eq_true_iff.mp e).2) (by rfl) (by assumption) (by decide +kernel) ⟨rfl,rfl,rfl,rfl,rfl,by decide +kernel⟩ ?hw ?hc
 (case hw=>w_witness2)
 k_fill
 refine Pk.walk (l:=PySem.Challenge.rw_pebbletoll_k55_whole_fairest_shares) rfl rfl (fun w h Y=>PySem.W.kIn_of Y) ?F
 case F =>
   intro w mg fa h KX G hmg;refine' Pk.all_mk KX G hmg ?Bm ?zx ?Bg ?Ly ?zq ?yO ?zc ?y3 ?zz ?BC ?A2 ?AF ?AM ?Bh ?qO ?qJ ?rj ?qw ?zn ?yS ?yV ?zj ?uW ?u8 ?uG ?uw ?uu ?uQ ?uD ?vg ?qK ?qX ?q8 ?qu ?sT ?sM ?sP ?sy ?rh ?qU ?qN ?q9 ?re ?wm ?wC ?wt ?wx ?we ?wJ ?wU ?wz ?nG ?oq ?nS ?nV ?ze ?yW ?zr ?y9 ?DJ ?CV ?CZ ?C2 ?JV ?KL ?LD ?Lb ?FU ?FN ?FI ?Fj ?sR ?sK ?sg ?sG ?ud ?uv ?uf ?t7 ?xc ?wA ?wG ?wy ?Kz ?LF ?JX ?IC ?uM ?ua ?uF ?uX ?sO ?sx ?sS ?sj ?qt ?qr ?qD ?qM ?pH ?pX ?pP ?oY ?wI ?wa ?wQ ?xa ?sV ?si ?sB ?sh ?uL ?uj ?vd ?uT ?qI ?qV ?qo ?qz ?yP ?yE ?za ?zv ?wp ?wO ?vX ?wc ?mF ?mE ?mJ ?mH ?pF ?pB ?oX ?pR ?wN ?wu ?wZ ?wT ?ul ?uU ?uS ?uE ?Kw ?Lw ?Lm ?Kh ?zi ?yH ?y8 ?yT ?wX ?wY ?ww ?wb ?ug ?uY ?u9 ?uy ?JC ?Kb ?Ld ?K8 ?FH ?F0 ?FV ?Gj ?IE ?JK ?Ji ?Ls ?DK ?DV ?DC ?DW ?wv ?wV ?wn ?wg ?FW ?FR ?FQ ?FS ?sF ?sN ?sI ?sE ?De ?Dc ?DX ?DR ?pJ ?pM ?pj ?oZ ?wk ?vW ?vZ ?wH ?wS ?xh ?wP ?wM ?yI ?yG ?yX ?yA ?zt ?yL ?yx ?yN ?zf ?yM ?yD ?zh ?y4 ?zb ?yQ ?yY ?wE ?vY ?wq ?wK ?AZ ?Aw ?Bt ?AI ?Br ?BD ?AB ?A3 ?Iq ?OO ?Om ?OS ?Jl ?Ke ?Ko ?IQ ?Kf ?Lj ?Iy ?LA ?z_range ?z_zip ?z_len ?z_isinstance ?z_all ?z_any ?z_int ?z_bool ?z_tuple ?z_list ?z_reversed ?z_sorted ?z_min ?z_sum ?z_str ?z_abs ?v_MOST_PLACES ?v_LEAST_TOLL ?v_MOST_TOLL ?CT ?Bo ?Od ?Ky
   (case Bm=>k_is)
   (case zx=>k_is)
   (case Bg=>k_is)
   (case Ly=>k_is)
   (case zq=>k_is)
   (case yO=>rfl)
   (case zc=>kernel_rfl)
   (case y3=>k_is)
   (case zz=>kernel_rfl)
   (case BC=>k_is)
   (case A2=>rfl)
   (case AF=>kernel_rfl)
   (case AM=>k_is)
   (case Bh=>kernel_rfl)
   (case qO=>k_is)
   (case qJ=>k_is)
   (case rj=>k_is)
   (case qw=>k_is)
   (case zn=>k_is)
   (case yS=>k_is)
   (case yV=>k_is)
   (case zj=>k_is)
   (case uW=>k_is)
   (case u8=>k_is)
   (case uG=>k_is)
   (case uw=>k_is)
   (case uu=>k_is)
   (case uQ=>k_is)
   (case uD=>k_is)
   (case vg=>k_is)
   (case qK=>k_is)
   (case qX=>k_is)
   (case q8=>k_is)
   (case qu=>k_is)
   (case sT=>k_is)
   (case sM=>k_is)
   (case sP=>k_is)
   (case sy=>k_is)
   (case rh=>k_is)
   (case qU=>k_is)
   (case qN=>k_is)
   (case q9=>k_is)
   (case re=>k_is)
   (case wm=>k_is)
   (case wC=>k_is)
   (case wt=>k_is)
   (case wx=>k_is)
   (case we=>k_is)
   (case wJ=>k_is)
   (case wU=>k_is)
   (case wz=>k_is)
   (case nG=>k_is)
   (case oq=>k_is)
   (case nS=>k_is)
   (case nV=>k_is)
   (case ze=>k_is)
   (case yW=>k_is)
   (case zr=>k_is)
   (case y9=>k_is)
   (case DJ=>k_is)
   (case CV=>k_is)
   (case CZ=>k_is)
   (case C2=>k_is)
   (case JV=>k_is)
   (case KL=>k_is)
   (case LD=>k_is)
   (case Lb=>k_is)
   (case FU=>k_is)
   (case FN=>k_is)
   (case FI=>k_is)
   (case Fj=>k_is)
   (case sR=>k_is)
   (case sK=>k_is)
   (case sg=>k_is)
   (case sG=>k_is)
   (case ud=>k_is)
   (case uv=>k_is)
   (case uf=>k_is)
   (case t7=>k_is)
   (case xc=>k_is)
   (case wA=>k_is)
   (case wG=>k_is)
   (case wy=>k_is)
   (case Kz=>k_is)
   (case LF=>k_is)
   (case JX=>k_is)
   (case IC=>k_is)
   (case uM=>k_is)
   (case ua=>k_is)
   (case uF=>k_is)
   (case uX=>k_is)
   (case sO=>k_is)
   (case sx=>k_is)
   (case sS=>k_is)
   (case sj=>k_is)
   (case qt=>k_is)
   (case qr=>k_is)
   (case qD=>k_is)
   (case qM=>k_is)
   (case pH=>k_is)
   (case pX=>k_is)
   (case pP=>k_is)
   (case oY=>k_is)
   (case wI=>k_is)
   (case wa=>k_is)
   (case wQ=>k_is)
   (case xa=>k_is)
   (case sV=>k_is)
   (case si=>k_is)
   (case sB=>k_is)
   (case sh=>k_is)
   (case uL=>k_is)
   (case uj=>k_is)
   (case vd=>k_is)
   (case uT=>k_is)
   (case qI=>k_is)
   (case qV=>k_is)
   (case qo=>k_is)
   (case qz=>k_is)
   (case yP=>k_is)
   (case yE=>k_is)
   (case za=>k_is)
   (case zv=>k_is)
   (case wp=>k_is)
   (case wO=>k_is)
   (case vX=>k_is)
   (case wc=>k_is)
   (case mF=>k_is)
   (case mE=>k_is)
   (case mJ=>k_is)
   (case mH=>k_is)
   (case pF=>k_is)
   (case pB=>k_is)
   (case oX=>k_is)
   (case pR=>k_is)
   (case wN=>k_is)
   (case wu=>k_is)
   (case wZ=>k_is)
   (case wT=>k_is)
   (case ul=>k_is)
   (case uU=>k_is)
   (case uS=>k_is)
   (case uE=>k_is)
   (case Kw=>k_is)
   (case Lw=>k_is)
   (case Lm=>k_is)
   (case Kh=>k_is)
   (case zi=>k_is)
   (case yH=>k_is)
   (case y8=>k_is)
   (case yT=>k_is)
   (case wX=>k_is)
   (case wY=>k_is)
   (case ww=>k_is)
   (case wb=>k_is)
   (case ug=>k_is)
   (case uY=>k_is)
   (case u9=>k_is)
   (case uy=>k_is)
   (case JC=>k_is)
   (case Kb=>k_is)
   (case Ld=>k_is)
   (case K8=>k_is)
   (case FH=>k_is)
   (case F0=>k_is)
   (case FV=>k_is)
   (case Gj=>k_is)
   (case IE=>k_is)
   (case JK=>k_is)
   (case Ji=>k_is)
   (case Ls=>k_is)
   (case DK=>k_is)
   (case DV=>k_is)
   (case DC=>k_is)
   (case DW=>k_is)
   (case wv=>k_is)
   (case wV=>k_is)
   (case wn=>k_is)
   (case wg=>k_is)
   (case FW=>k_is)
   (case FR=>k_is)
   (case FQ=>k_is)
   (case FS=>k_is)
   (case sF=>k_is)
   (case sN=>k_is)
   (case sI=>k_is)
   (case sE=>k_is)
   (case De=>k_is)
   (case Dc=>k_is)
   (case DX=>k_is)
   (case DR=>k_is)
   (case pJ=>k_is)
   (case pM=>k_is)
   (case pj=>k_is)
   (case oZ=>k_is)
   (case wk=>k_is)
   (case vW=>k_is)
   (case vZ=>k_is)
   (case wH=>k_is)
   (case wS=>k_is)
   (case xh=>k_is)
   (case wP=>k_is)
   (case wM=>k_is)
   (case yI=>k_is)
   (case yG=>k_is)
   (case yX=>k_is)
   (case yA=>k_is)
   (case zt=>k_is)
   (case yL=>k_is)
   (case yx=>k_is)
   (case yN=>k_is)
   (case zf=>k_is)
   (case yM=>k_is)
   (case yD=>k_is)
   (case zh=>k_is)
   (case y4=>k_is)
   (case zb=>k_is)
   (case yQ=>k_is)
   (case yY=>k_is)
   (case wE=>k_is)
   (case vY=>k_is)
   (case wq=>k_is)
   (case wK=>k_is)
   (case AZ=>k_is)
   (case Aw=>k_is)
   (case Bt=>k_is)
   (case AI=>k_is)
   (case Br=>k_is)
   (case BD=>k_is)
   (case AB=>k_is)
   (case A3=>k_is)
   (case Iq=>k_is)
   (case OO=>k_is)
   (case Om=>k_is)
   (case OS=>k_is)
   (case Jl=>k_is)
   (case Ke=>k_is)
   (case Ko=>k_is)
   (case IQ=>k_is)
   (case Kf=>k_is)
   (case Lj=>k_is)
   (case Iy=>k_is)
   (case LA=>k_is)
   (case z_range=>k_is)
   (case z_zip=>k_is)
   (case z_len=>k_is)
   (case z_isinstance=>k_is)
   (case z_all=>k_is)
   (case z_any=>k_is)
   (case z_int=>k_is)
   (case z_bool=>k_is)
   (case z_tuple=>k_is)
   (case z_list=>k_is)
   (case z_reversed=>k_is)
   (case z_sorted=>k_is)
   (case z_min=>k_is)
   (case z_sum=>k_is)
   (case z_str=>k_is)
   (case z_abs=>k_is)
   (case v_MOST_PLACES=>k_is)
   (case v_LEAST_TOLL=>k_is)
   (case v_MOST_TOLL=>k_is)
   (case CT=>k_is)
   (case Bo=>k_is)
   (case Od=>k_is)
   (case Ky=>k_is)
#print axioms PySem.Challenge.cw_pebbletoll_k55_whole_fairest_shares_holds